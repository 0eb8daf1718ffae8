/-
  spec.DrawBinary: an operation and two values that are drawn for a law.
-/
import Derived.Test.YtemehbjlfiebdaaGreatX39
namespace Go.Proofs.YtemehbjlfiebdaaGreat
open Go.RowKit
set_option linter.unusedVariables false
set_option linter.unusedSimpArgs false
namespace Sums
/-- A value that stands at lo or above. -/
def Sv (w : World) (lo : Nat) (s : Value) (l : List M.Cl) : Prop := ∃ g gc, s = .slice (some ⟨g, 0, none⟩) l.length gc ∧ lo ≤ g ∧ g < w.heap.size ∧ l.length ≤ gc ∧ Row w g 0 l ∧ l.length ≤ 1000 ∧ ∀ c ∈ l, c.ok
theorem row_blk {w w' : World} {g off : Nat} {l : List M.Cl} (h : Row w g off l) (hb : w'.heap[g]? = w.heap[g]?) : Row w' g off l := by
  intro i hi
  obtain ⟨h0, h1, h2, h3, h4⟩ := h i hi
  have e : ∀ j, w'.cell? ⟨g, j, none⟩ = w.cell? ⟨g, j, none⟩ := fun j => by simp only [World.cell?, hb]
  exact ⟨(e _).trans h0, (e _).trans h1, (e _).trans h2, (e _).trans h3, (e _).trans h4⟩
theorem Sv.of {w : World} {B : Nat} {s : Value} {l : List M.Cl} (hr : Rs w B s l) (hs : ∃ g gc, s = .slice (some ⟨g, 0, none⟩) l.length gc) (hl : l.length ≤ 1000) (hok : ∀ c ∈ l, c.ok) : Sv w B s l := by
  obtain ⟨g, gc, rfl⟩ := hs
  obtain ⟨_, ⟨h1, _⟩ | ⟨b, cap, h1, h2, h3, h4⟩⟩ := hr.res
  · cases h1
  · cases h1
    exact ⟨g, gc, rfl, h2, h4.lt, h3, h4.row, hl, hok⟩
theorem Sv.ne {w : World} {B : Nat} {s : Value} {l : List M.Cl} (hr : Rs w B s l) (hne : l ≠ []) (hl : l.length ≤ 1000) (hok : ∀ c ∈ l, c.ok) : Sv w B s l := by
  obtain ⟨_, ⟨_, h2⟩ | ⟨b, cap, h1, h2, h3, h4⟩⟩ := hr.res
  · exact absurd h2 hne
  · exact ⟨b, cap, h1, h2, h4.lt, h3, h4.row, hl, hok⟩
theorem Sv.tch {w w' : World} {lo bs : Nat} {s : Value} {l : List M.Cl} (h : Sv w lo s l) (T : Tch w.heap.size bs w w') (hb : bs < lo) : Sv w' lo s l := by
  obtain ⟨g, gc, h1, h2, h3, h4, h5, h6⟩ := h
  exact ⟨g, gc, h1, h2, Nat.lt_of_lt_of_le h3 T.size, h4, row_blk h5 (T.block g h3 (by omega)), h6⟩
theorem Sv.below {w w' : World} {lo : Nat} {s : Value} {l : List M.Cl} (h : Sv w lo s l) (hb : Below w.heap.size w w') : Sv w' lo s l := by
  obtain ⟨g, gc, h1, h2, h3, h4, h5, h6⟩ := h
  exact ⟨g, gc, h1, h2, Nat.lt_of_lt_of_le h3 hb.size, h4, h5.below hb h3, h6⟩
theorem Sv.mono {w : World} {lo lo' : Nat} {s : Value} {l : List M.Cl} (h : Sv w lo s l) (hl : lo' ≤ lo) : Sv w lo' s l := by
  obtain ⟨g, gc, h1, h2, h3⟩ := h
  exact ⟨g, gc, h1, Nat.le_trans hl h2, h3⟩
/-- The source of a draw, some draws on. -/
structure Dr (w wk : World) (lo : Nat) (a : Option Addr) (len cap at_ : Nat) : Prop where
  src : Src wk w.heap.size a len cap at_
  bel : Below w.heap.size w wk
  lt : w.heap.size < lo
  le : lo ≤ wk.heap.size
section
variable {w wk w' : World} {lo len cap at_ at2 : Nat} {a : Option Addr}
theorem Dr.next (h : Dr w wk lo a len cap at_) (S : Src w' w.heap.size a len cap at2) (T : Tch wk.heap.size w.heap.size wk w') : Dr w w' lo a len cap at2 :=
  ⟨S, h.bel.trans (T.below h.bel.size (Nat.le_refl _)), h.lt, Nat.le_trans h.le T.size⟩
theorem Dr.below (h : Dr w wk lo a len cap at_) (hb : Below wk.heap.size wk w') : Dr w w' lo a len cap at_ :=
  ⟨h.src.below hb, h.bel.trans (hb.mono h.bel.size), h.lt, Nat.le_trans h.le hb.size⟩
theorem Dr.alloc (h : Dr w wk lo a len cap at_) (o : Obj) : Dr w (wk.alloc o) lo a len cap at_ := h.below ((Below.refl _ _).alloc (Nat.le_refl _) o)
end
theorem lv_two {w : World} {s1 s2 : Value} {l1 l2 : List M.Cl} {lo : Nat} (h1 : Sv w lo s1 l1) (h2 : Sv w lo s2 l2) : LV (w.alloc (.cells #[s1, s2] 24)) (some ⟨w.heap.size, 0, none⟩) [l1, l2] := by
  intro i hi
  have A := (Below.refl w.heap.size w).alloc (Nat.le_refl _) (.cells #[s1, s2] 24)
  obtain ⟨g1, c1, e1, _, q1, r1, w1, _⟩ := h1
  obtain ⟨g2, c2, e2, _, q2, r2, w2, _⟩ := h2
  have hz : (w.alloc (.cells #[s1, s2] 24)).heap.size = w.heap.size + 1 := by simp
  have hc : ∀ j, (w.alloc (.cells #[s1, s2] 24)).cell? ⟨w.heap.size, j, none⟩ = #[s1, s2][j]? := fun j => cell_of_row _ _ j _ _ (0, 0) (heap_alloc_new _ _)
  rcases i with _ | _ | i
  · exact ⟨w.heap.size, g1, 0, c1, rfl, by omega, (hc 0).trans (by rw [e1]; rfl), r1, by omega, w1.below A q1⟩
  · exact ⟨w.heap.size, g2, 0, c2, rfl, by omega, (hc 1).trans (by rw [e2]; rfl), r2, by omega, w2.below A q2⟩
  · simp at hi; omega
theorem arr_tot {l1 l2 : List M.Cl} (h1 : l1.length ≤ 4) (h2 : l2.length ≤ 4) : tot [l1, l2] [l1, l2].length ≤ 8192 := by
  have := Dv.tot_le3 (ps := [l1, l2]) (N := 4) (fun j hj => by
    rcases j with _ | _ | j
    · exact h1
    · exact h2
    · simp at hj; omega) 2 (by simp)
  exact Nat.le_trans this (by decide)
theorem arr_okS {l1 l2 : List M.Cl} (h1 : l1.length ≤ 4) (h2 : l2.length ≤ 4) (k1 : ∀ c ∈ l1, c.ok) (k2 : ∀ c ∈ l2, c.ok) : arrV [l1, l2] ≠ [] ∧ (arrV [l1, l2]).length ≤ 1000 ∧ ∀ c ∈ arrV [l1, l2], c.ok := by
  have h := J.made_len false [] [l1, l2] (fun h => by cases h)
  have ht := Dv.tot_le3 (ps := [l1, l2]) (N := 4) (fun j hj => by
    rcases j with _ | _ | j
    · exact h1
    · exact h2
    · simp at hj; omega) 2 (by simp)
  have hk := arrK_ok [l1, l2] (by simp) (fun j hj => by
    rcases j with _ | _ | j
    · exact k1
    · exact k2
    · simp at hj; omega) 2 (by simp)
  refine ⟨fun e => ?_, ?_, hk⟩
  · have h3 := h.1
    rw [show J.madeV false [] [l1, l2] = arrV [l1, l2] from rfl, e] at h3
    simp at h3
  · have h3 := h.2
    rw [show J.madeV false [] [l1, l2] = arrV [l1, l2] from rfl] at h3
    have : tot [l1, l2] [l1, l2].length ≤ 8 := Nat.le_trans ht (by decide)
    omega
theorem bare_ne1 {l : List M.Cl} (h : Bare l) : l ≠ [] := by
  intro e
  have := h.1
  rw [e] at this
  simp at this
theorem num_bare : Bare [(⟨3, 1, ByteArray.empty, ByteArray.empty, 0⟩ : M.Cl)] := ⟨by simp, rfl⟩
theorem num_ok' (x : Int) (h : -1000000000000000 ≤ x ∧ x ≤ 1000000000000000) : ∀ c ∈ [(⟨3, x, ByteArray.empty, ByteArray.empty, 0⟩ : M.Cl)], c.ok := by
  intro c hc
  rw [List.mem_singleton.1 hc]
  exact Dv.ok_num x h
end Sums
namespace Sums
set_option maxRecDepth 100000 in
set_option maxHeartbeats 8000000 in
theorem drawBinary_any (a : Option Addr) (len cap : Nat) (w : World) (hB : Byts w a len cap) (hl : len ≤ 1048600) : Calls Tryz.prog 5 #[.slice a len cap] w fun e w' => ∃ op s1 l1 s2 l2, e = .returned (.tuple #[.int .i64 op, s1, s2]) ∧ Sv w' w.heap.size s1 l1 ∧ Sv w' w.heap.size s2 l2 ∧ Below w.heap.size w w' := by
  have HS := hide (l1Source_any a len cap w hB.2 hB.1 hl)
  clear hB
  go_enter Tryz.func5, Tryz.ntmps5
  go_wp2_with fail
  refine (unhide HS).mono ?_
  rintro e w1 ⟨rfl, S1, B1⟩
  have D1 : Dr w w1 w1.heap.size a len cap 0 := ⟨S1, B1, S1.lt, Nat.le_refl _⟩
  clear HS S1 B1
  go_wp2_with fail
  refine (l1Next_any 11 w.heap.size len cap _ a _ D1.src (by decide) (by omega)).mono ?_
  rintro e w2 ⟨r1, rfl, hr1, S2, T2⟩
  have hr1' : r1 < 11 := by have := hr1 (by decide); omega
  have D2 := D1.next S2 T2
  clear hr1 S2 T2 D1
  go_wp2_with fail
  refine (l1Next_any 11 w.heap.size len cap _ a _ D2.src (by decide) (by omega)).mono ?_
  rintro e w3 ⟨r2, rfl, hr2, S3, T3⟩
  have hr2' : r2 < 11 := by have := hr2 (by decide); omega
  have D3 := D2.next S3 T3
  clear hr2 S3 T3 D2
  go_wp2_with fail
  refine (l1Next_any 11 w.heap.size len cap _ a _ D3.src (by decide) (by omega)).mono ?_
  rintro e w4 ⟨r3, rfl, hr3, S4, T4⟩
  have hr3' : r3 < 11 := by have := hr3 (by decide); omega
  have D4 := D3.next S4 T4
  clear hr3 S4 T4 D3
  go_wp2_with fail
  refine (l1Next_any 11 w.heap.size len cap _ a _ D4.src (by decide) (by omega)).mono ?_
  rintro e w5 ⟨r4, rfl, hr4, S5, T5⟩
  have hr4' : r4 < 11 := by have := hr4 (by decide); omega
  have D5 := D4.next S5 T5
  clear hr4 S5 T5 D4
  have hw1 : IntKind.i64.wrap (1 + (r1 : Int)) = 1 + (r1 : Int) := IntWalk.i64_in _ ⟨by omega, by omega⟩
  have hw2 : IntKind.i64.wrap (1 + (r2 : Int)) = 1 + (r2 : Int) := IntWalk.i64_in _ ⟨by omega, by omega⟩
  have hw3 : IntKind.i64.wrap (1 + (r3 : Int)) = 1 + (r3 : Int) := IntWalk.i64_in _ ⟨by omega, by omega⟩
  have hw4 : IntKind.i64.wrap (1 + (r4 : Int)) = 1 + (r4 : Int) := IntWalk.i64_in _ ⟨by omega, by omega⟩
  have hlt5 := D5.lt
  have hle5 := D5.le
  have HPK := hide (l1Pick_any [(1 + (r1 : Int) : Int), 1 + (r2 : Int), 1 + (r3 : Int), 1 + (r4 : Int), 0, 12] w5.heap.size w.heap.size len cap _ a (w5.alloc (.cells #[.int .i64 (1 + (r1 : Int)), .int .i64 (1 + (r2 : Int)), .int .i64 (1 + (r3 : Int)), .int .i64 (1 + (r4 : Int)), .int .i64 0, .int .i64 12] 2)) (D5.src.alloc _) ⟨_, heap_alloc_new _ _, rfl⟩ (by omega) (by simp) (by simp) (by omega))
  go_wp2_with fail
  refine (unhide HPK).mono ?_
  rintro e w6 ⟨⟨op, hop, rfl⟩, S6, T6⟩
  have D6 := (D5.alloc _).next S6 T6
  clear hop HPK S6 T6 D5 hlt5 hle5
  clear hw1 hw2 hw3 hw4 hr1' hr2' hr3' hr4'
  go_wp2_with fail
  refine (l1Next_any 4 w.heap.size len cap _ a _ D6.src (by decide) (by omega)).mono ?_
  rintro e w7 ⟨r0, rfl, hr0, S7, T7⟩
  have hr0' : r0 < 4 := by have := hr0 (by decide); omega
  have D7 := D6.next S7 T7
  clear hr0 S7 T7 D6
  by_cases e0 : r0 = 0
  · subst e0
    go_wp2_with fail
    refine (l1Next_any 90 w.heap.size len cap _ a _ D7.src (by decide) (by omega)).mono ?_
    rintro e w8 ⟨r5, rfl, hr5, S8, T8⟩
    have hr5' : r5 < 90 := by have := hr5 (by decide); omega
    have D8 := D7.next S8 T8
    clear hr5 S8 T8 D7
    have hlt8 := D8.lt
    have hle8 := D8.le
    have HPK := hide (l1Pick_any [((r5 : Int) : Int), 1000000000000000, -7, 40000000] w8.heap.size w.heap.size len cap _ a (w8.alloc (.cells #[.int .i64 ((r5 : Int)), .int .i64 1000000000000000, .int .i64 (-7), .int .i64 40000000] 2)) (D8.src.alloc _) ⟨_, heap_alloc_new _ _, rfl⟩ (by omega) (by simp) (by simp) (by omega))
    go_wp2_with fail
    refine (unhide HPK).mono ?_
    rintro e w9 ⟨⟨x, hx, rfl⟩, S9, T9⟩
    have D9 := (D8.alloc _).next S9 T9
    have hx' : -1000000000000000 ≤ x ∧ x ≤ 1000000000000000 := by
      simp only [List.mem_cons, List.not_mem_nil, or_false] at hx
      omega
    clear hx HPK S9 T9 D8 hlt8 hle8
    go_wp2_with fail
    refine (l1NumberO_any x _).mono ?_
    rintro e w10 ⟨s10, rfl, hr10, hb10⟩
    have D10 := D9.below hb10
    have Q1 := hide ((Sv.ne hr10 (by simp) (by simp) (num_ok' x hx')).mono D9.le)
    obtain ⟨a10, n10, c10, hs10⟩ := hr10.shape
    subst hs10
    clear hr10 hb10 D9
    go_wp2_with fail
    refine (l1Next_any 9 w.heap.size len cap _ a _ D10.src (by decide) (by omega)).mono ?_
    rintro e w11 ⟨r6, rfl, hr6, S11, T11⟩
    have hr6' : r6 < 9 := by have := hr6 (by decide); omega
    have D11 := D10.next S11 T11
    have Q1x := hide ((unhide Q1).tch T11 (by have := D10.lt; omega))
    clear Q1
    have Q1 := Q1x
    clear Q1x
    clear hr6 S11 T11 D10
    have hlt11 := D11.lt
    have hle11 := D11.le
    have HPK := hide (l1Pick_any [((r6 : Int) : Int), 0, -3, 1000000000000000, 40000000] w11.heap.size w.heap.size len cap _ a (w11.alloc (.cells #[.int .i64 ((r6 : Int)), .int .i64 0, .int .i64 (-3), .int .i64 1000000000000000, .int .i64 40000000] 2)) (D11.src.alloc _) ⟨_, heap_alloc_new _ _, rfl⟩ (by omega) (by simp) (by simp) (by omega))
    go_wp2_with fail
    refine (unhide HPK).mono ?_
    rintro e w12 ⟨⟨y, hy, rfl⟩, S12, T12⟩
    have D12 := (D11.alloc _).next S12 T12
    have hy' : -1000000000000000 ≤ y ∧ y ≤ 1000000000000000 := by
      simp only [List.mem_cons, List.not_mem_nil, or_false] at hy
      omega
    have Q1x := hide (((unhide Q1).below ((Below.refl _ _).alloc (Nat.le_refl _) _)).tch T12 (by omega))
    clear Q1
    have Q1 := Q1x
    clear Q1x
    clear hy HPK S12 T12 D11 hlt11 hle11
    go_wp2_with fail
    refine (l1NumberO_any y _).mono ?_
    rintro e w13 ⟨s13, rfl, hr13, hb13⟩
    have D13 := D12.below hb13
    have Q2 := hide ((Sv.ne hr13 (by simp) (by simp) (num_ok' y hy')).mono D12.le)
    have Q1x := hide ((unhide Q1).below hb13)
    clear Q1
    have Q1 := Q1x
    clear Q1x
    obtain ⟨a13, n13, c13, hs13⟩ := hr13.shape
    subst hs13
    clear hr13 hb13 D12
    go_wp2_with fail
    refine bodyPost_ret (v := .tuple #[.int .i64 op, .slice a10 n10 c10, .slice a13 n13 c13]) (by simp [results, Tryz.results5, go_sem]; try rfl) rfl ?_
    exact ⟨op, _, _, _, _, rfl, (unhide Q1).mono (Nat.le_of_lt D13.lt), (unhide Q2).mono (Nat.le_of_lt D13.lt), D13.bel⟩
  by_cases e1 : r0 = 1
  · subst e1
    go_wp2_with fail
    refine (Dv.says_2 w.heap.size len cap _ a _ D7.src (by omega)).mono ?_
    rintro e w8 ⟨s8, l1, at8, rfl, hr8, hba8, hl8, hok8, S8, hat8, T8⟩
    have D8 := D7.next S8 T8
    have Q1 := hide ((Sv.ne hr8 (bare_ne1 hba8) (by omega) hok8).mono D7.le)
    obtain ⟨a8, n8, c8, hs8⟩ := hr8.shape
    subst hs8
    clear hr8 S8 T8 D7
    go_wp2_with fail
    refine (Dv.says_2 w.heap.size len cap _ a _ D8.src (by omega)).mono ?_
    rintro e w9 ⟨s9, l2, at9, rfl, hr9, hba9, hl9, hok9, S9, hat9, T9⟩
    have D9 := D8.next S9 T9
    have Q2 := hide ((Sv.ne hr9 (bare_ne1 hba9) (by omega) hok9).mono D8.le)
    have Q1x := hide ((unhide Q1).tch T9 (by have := D8.lt; omega))
    clear Q1
    have Q1 := Q1x
    clear Q1x
    obtain ⟨a9, n9, c9, hs9⟩ := hr9.shape
    subst hs9
    clear hr9 S9 T9 D8
    go_wp2_with fail
    refine bodyPost_ret (v := .tuple #[.int .i64 op, .slice a8 n8 c8, .slice a9 n9 c9]) (by simp [results, Tryz.results5, go_sem]; try rfl) rfl ?_
    exact ⟨op, _, l1, _, l2, rfl, (unhide Q1).mono (Nat.le_of_lt D9.lt), (unhide Q2).mono (Nat.le_of_lt D9.lt), D9.bel⟩
  by_cases e2 : r0 = 2
  · subst e2
    go_wp2_with fail
    refine (Dv.says_2 w.heap.size len cap _ a _ D7.src (by omega)).mono ?_
    rintro e w8 ⟨s8, l1, at8, rfl, hr8, hba8, hl8, hok8, S8, hat8, T8⟩
    have D8 := D7.next S8 T8
    have Q1 := hide ((Sv.ne hr8 (bare_ne1 hba8) (by omega) hok8).mono D7.le)
    obtain ⟨a8, n8, c8, hs8⟩ := hr8.shape
    subst hs8
    clear hr8 S8 T8 D7
    go_wp2_with fail
    refine (Dv.says_2 w.heap.size len cap _ a _ D8.src (by omega)).mono ?_
    rintro e w9 ⟨s9, l2, at9, rfl, hr9, hba9, hl9, hok9, S9, hat9, T9⟩
    have D9 := D8.next S9 T9
    have Q2 := hide ((Sv.ne hr9 (bare_ne1 hba9) (by omega) hok9).mono D8.le)
    have Q1x := hide ((unhide Q1).tch T9 (by have := D8.lt; omega))
    clear Q1
    have Q1 := Q1x
    clear Q1x
    obtain ⟨a9, n9, c9, hs9⟩ := hr9.shape
    subst hs9
    clear hr9 S9 T9 D8
    have HAR := hide (l1ArrayO_any (some ⟨w9.heap.size, 0, none⟩) 2 [l1, l2] (w9.alloc (.cells #[.slice a8 n8 c8, .slice a9 n9 c9] 24)) (lv_two (unhide Q1) (unhide Q2)) (by simp) (by simp) (arr_tot (show l1.length ≤ 4 by omega) (show l2.length ≤ 4 by omega)) (fun j hj => by
      rcases j with _ | _ | j
      · exact hba8
      · exact hba9
      · simp at hj; omega))
    have HOKA := hide (arr_okS (show l1.length ≤ 4 by omega) (show l2.length ≤ 4 by omega) hok8 hok9)
    have hwl9 := D9.le
    go_wp2_with fail
    refine (unhide HAR).mono ?_
    rintro e w10 ⟨s10, rfl, hr10, hb10⟩
    have D10 := (D9.alloc _).below hb10
    have QA := hide ((Sv.ne hr10 (unhide HOKA).1 (unhide HOKA).2.1 (unhide HOKA).2.2).mono (show w1.heap.size ≤ _ by simp; omega))
    obtain ⟨a10, n10, c10, hs10⟩ := hr10.shape
    subst hs10
    clear hr10 hb10 HAR HOKA D9 hwl9 Q1 Q2
    go_wp2_with fail
    refine (Dv.says_2 w.heap.size len cap _ a _ D10.src (by omega)).mono ?_
    rintro e w11 ⟨s11, l3, at11, rfl, hr11, hba11, hl11, hok11, S11, hat11, T11⟩
    have D11 := D10.next S11 T11
    have Q3 := hide ((Sv.ne hr11 (bare_ne1 hba11) (by omega) hok11).mono D10.le)
    have QAx := hide ((unhide QA).tch T11 (by have := D10.lt; omega))
    clear QA
    have QA := QAx
    clear QAx
    obtain ⟨a11, n11, c11, hs11⟩ := hr11.shape
    subst hs11
    clear hr11 S11 T11 D10
    go_wp2_with fail
    refine (l1NumberO_any 1 _).mono ?_
    rintro e w12 ⟨s12, rfl, hr12, hb12⟩
    have D12 := D11.below hb12
    have Q4 := hide ((Sv.ne hr12 (by simp) (by simp) (num_ok' 1 (by omega))).mono D11.le)
    have Q3x := hide ((unhide Q3).below hb12)
    clear Q3
    have Q3 := Q3x
    clear Q3x
    have QAx := hide ((unhide QA).below hb12)
    clear QA
    have QA := QAx
    clear QAx
    obtain ⟨a12, n12, c12, hs12⟩ := hr12.shape
    subst hs12
    clear hr12 hb12 D11
    have HAR := hide (l1ArrayO_any (some ⟨w12.heap.size, 0, none⟩) 2 [l3, [⟨3, 1, ByteArray.empty, ByteArray.empty, 0⟩]] (w12.alloc (.cells #[.slice a11 n11 c11, .slice a12 n12 c12] 24)) (lv_two (unhide Q3) (unhide Q4)) (by simp) (by simp) (arr_tot (show l3.length ≤ 4 by omega) (show [⟨3, 1, ByteArray.empty, ByteArray.empty, 0⟩].length ≤ 4 by simp)) (fun j hj => by
      rcases j with _ | _ | j
      · exact hba11
      · exact num_bare
      · simp at hj; omega))
    have HOKA := hide (arr_okS (show l3.length ≤ 4 by omega) (show [⟨3, 1, ByteArray.empty, ByteArray.empty, 0⟩].length ≤ 4 by simp) hok11 (num_ok' 1 (by decide)))
    have hwl12 := D12.le
    go_wp2_with fail
    refine (unhide HAR).mono ?_
    rintro e w13 ⟨s13, rfl, hr13, hb13⟩
    have D13 := (D12.alloc _).below hb13
    have QB := hide ((Sv.ne hr13 (unhide HOKA).1 (unhide HOKA).2.1 (unhide HOKA).2.2).mono (show w1.heap.size ≤ _ by simp; omega))
    have QAx := hide (((unhide QA).below ((Below.refl _ _).alloc (Nat.le_refl _) _)).below hb13)
    clear QA
    have QA := QAx
    clear QAx
    obtain ⟨a13, n13, c13, hs13⟩ := hr13.shape
    subst hs13
    clear hr13 hb13 HAR HOKA D12 hwl12 Q3 Q4
    go_wp2_with fail
    refine bodyPost_ret (v := .tuple #[.int .i64 op, .slice a10 n10 c10, .slice a13 n13 c13]) (by simp [results, Tryz.results5, go_sem]; try rfl) rfl ?_
    exact ⟨op, _, _, _, _, rfl, (unhide QA).mono (Nat.le_of_lt D13.lt), (unhide QB).mono (Nat.le_of_lt D13.lt), D13.bel⟩
  have k0 : ((r0 : Int) == 0) = false := by rw [beq_eq_false_iff_ne]; omega
  have k1 : ((r0 : Int) == 1) = false := by rw [beq_eq_false_iff_ne]; omega
  have k2 : ((r0 : Int) == 2) = false := by rw [beq_eq_false_iff_ne]; omega
  clear e0 e1 e2
  go_wp2_with fail
  refine (l1Bent_any w.heap.size len cap _ a _ D7.src (by omega)).mono ?_
  rintro e w8 ⟨s8, l1, at8, rfl, hr8, hl8, hok8, S8, hat8, T8, g8, gc8, rfl⟩
  have D8 := D7.next S8 T8
  have Q1 := hide ((Sv.of hr8 ⟨_, _, rfl⟩ (by omega) hok8).mono D7.le)
  clear hr8 S8 T8 D7
  go_wp2_with fail
  refine (l1Bent_any w.heap.size len cap _ a _ D8.src (by omega)).mono ?_
  rintro e w9 ⟨s9, l2, at9, rfl, hr9, hl9, hok9, S9, hat9, T9, g9, gc9, rfl⟩
  have D9 := D8.next S9 T9
  have Q2 := hide ((Sv.of hr9 ⟨_, _, rfl⟩ (by omega) hok9).mono D8.le)
  have Q1x := hide ((unhide Q1).tch T9 (by have := D8.lt; omega))
  clear Q1
  have Q1 := Q1x
  clear Q1x
  clear hr9 S9 T9 D8
  go_wp2_with fail
  refine bodyPost_ret (v := .tuple #[.int .i64 op, .slice (some ⟨g8, 0, none⟩) l1.length gc8, .slice (some ⟨g9, 0, none⟩) l2.length gc9]) (by simp [results, Tryz.results5, go_sem]; try rfl) rfl ?_
  exact ⟨op, _, l1, _, l2, rfl, (unhide Q1).mono (Nat.le_of_lt D9.lt), (unhide Q2).mono (Nat.le_of_lt D9.lt), D9.bel⟩
end Sums
end Go.Proofs.YtemehbjlfiebdaaGreat
