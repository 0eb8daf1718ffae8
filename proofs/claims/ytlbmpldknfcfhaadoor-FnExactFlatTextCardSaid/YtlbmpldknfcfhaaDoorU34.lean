/-
  spec.l13All whatever the value; spec.l1Array, spec.l13Get over slices that lie at any place; spec.l13Paths.
-/
import Derived.Test.YtlbmpldknfcfhaaDoorU19
import Derived.Test.YtlbmpldknfcfhaaDoorU31
import Derived.Test.YtlbmpldknfcfhaaDoorU32
import Derived.Test.YtlbmpldknfcfhaaDoorU33
namespace Go.Proofs.YtlbmpldknfcfhaaDoor
open Go.RowKit
set_option linter.unusedVariables false
set_option linter.unusedSimpArgs false

/-- The slice from a on, wherever it lies, holds slices, the i-th of which holds the cells of the i-th list. -/
def LO (w : World) (a : Option Addr) (ps : List (List M.Cl)) : Prop :=
  ∀ i, i < ps.length → ∃ g o b off c, a = some ⟨g, o, none⟩ ∧ g < w.heap.size ∧ w.cell? ⟨g, o + i, none⟩ = some (.slice (some ⟨b, off, none⟩) (ps.getD i []).length c) ∧ (ps.getD i []).length ≤ c ∧ b < w.heap.size ∧ Row w b off (ps.getD i [])
theorem LO.below {w w' : World} {a : Option Addr} {ps : List (List M.Cl)} (h : LO w a ps) (hb : Below w.heap.size w w') : LO w' a ps := by
  intro i hi
  obtain ⟨g, o, b, off, c, rfl, h1, h2, h3, h4, h5⟩ := h i hi
  exact ⟨g, o, b, off, c, rfl, Nat.lt_of_lt_of_le h1 hb.size, (hb.cell h1).trans h2, h3, Nat.lt_of_lt_of_le h4 hb.size, h5.below hb h4⟩
set_option maxHeartbeats 1000000 in
theorem l1ArrayR_any (a : Option Addr) (cap : Nat) (ps : List (List M.Cl)) (w : World) (hL : LO w a ps) (hcap : ps.length ≤ cap) (hn : ps.length ≤ 4096) (hv : ∀ j, j < ps.length → M.valueFault (ps.getD j []) = 0) :
    Calls Tryd.prog 65 #[.slice a ps.length cap] w fun e w' => ∃ s, e = .returned s ∧ Res w' w.heap.size s (arrV ps) ∧ Below w.heap.size w w' := by
  have HL := hide hL
  have HV := hide hv
  clear hL hv
  obtain ⟨i0, hi, hz0, hz1, hz2⟩ := info_parts Tryd.info44
  go_enter Tryd.func65, Tryd.ntmps65
  go_wp2_with fail
  go_loopg [3, 4] ps.length (fun gh s3 s4 wr => ∃ k : Nat, Hid (gh = ps.length - k) ∧ s4 = .int .i64 k ∧ k ≤ ps.length ∧ wr.ownsRow w.heap.size 44 5 s3 (arrK ps k).length (flat (arrK ps k)) ∧ Below w.heap.size w wr)
  case atStart => exact ⟨0, rfl, rfl, by omega, one_own w w.heap.size _ (headCl 5 ps.length) rfl (Nat.le_refl _), (Below.refl _ _).alloc (Nat.le_refl _) _⟩
  case round =>
    obtain ⟨k, hg, rfl, hk, hown, hbel⟩ := hrel
    by_cases hlt : k < ps.length
    · obtain ⟨g, o, b, off, c, rfl, hgl, f0, hc, hb, hr⟩ := ((unhide HL).below hbel) k hlt
      have hp := fault_len ((unhide HV) k hlt)
      have hal := arrK_length ps k
      have hts := tot_small ps k hk (fun j hj => (fault_len ((unhide HV) j (by omega))).2)
      have hsucc := hide (show flat (arrK ps k) ++ flat (ps.getD k []) = flat (arrK ps (k + 1)) by rw [arrK_succ ps k hlt, flat_append])
      have hsl := hide (show (arrK ps k).length + (ps.getD k []).length = (arrK ps (k + 1)).length by rw [arrK_succ ps k hlt, List.length_append])
      have hnews := hide (row_words hr)
      have hone := hide (flat_one (ps.getD k []))
      have HFL := hide (flat_length (ps.getD k []))
      clear hr
      generalize ps.getD k [] = p at *
      have hb63 : (arrK ps k).length + p.length ≤ maxLen := by unfold maxLen; omega
      have hby : ((arrK ps k).length + p.length) * 56 ≤ 140737488355328 := by omega
      have hbse := hide (ownsRow_base hown)
      have HOWN := hide hown
      have hbase := hbel.size
      clear hown hal hts
      go_wp2_with (at_builtin; refine wpList_append_own _ rfl (.tmp 15) (.tmp 19) 27 rfl w.heap.size 44 i0 _ 5 56 Tryd.underlying27 hi hz0 hz1 hz2 rfl (by decide) _ (arrK ps k).length _ rfl (unhide HOWN) ⟨b, off, none⟩ p.length c (flat p) rfl (unhide HFL) (unhide hnews) (unhide hone) hb63 hby hbase ?_)
      intro v' w2 ho2 hg2 _
      rw [unhide hsucc, unhide hsl] at ho2
      have B2 : Below w.heap.size w w2 := hbel.grown hg2 hbase (unhide hbse)
      have HO2 := hide ho2
      clear ho2 hg2 f0
      go_wp2_with fail
      go_roundg (ps.length - (k + 1))
      case rel => exact ⟨k + 1, rfl, by go_num, by omega, unhide HO2, B2⟩
      case measure => have := hg.out; omega
    · have hke : k = ps.length := by omega
      have hal := arrK_length ps k
      have hts := tot_small ps k hk (fun j hj => (fault_len ((unhide HV) j (by omega))).2)
      have fin := hide (show Res wr w.heap.size u3 (arrV ps) by unfold arrV; rw [← hke]; exact res_of_owns hown (by omega))
      clear hke hown hal hts
      go_wp2_with fail
      go_ret
      exact ⟨_, rfl, unhide fin, hbel⟩

namespace Al
/-- The cells of a path. -/
def pathC (p : List M.Cl) : List M.Cl := headCl 5 p.length :: p
theorem pathC_length (p : List M.Cl) : (pathC p).length = p.length + 1 := by simp [pathC]
def ones (p : List M.Cl) : List (List M.Cl) := p.map fun c => [c]
theorem ones_length (p : List M.Cl) : (ones p).length = p.length := by simp [ones]
theorem ones_getD (p : List M.Cl) (i : Nat) (hi : i < p.length) : (ones p).getD i [] = [p.getD i M.zero] := by
  simp [ones, List.getD_eq_getElem?_getD, hi]
theorem ones_flatten (p : List M.Cl) : (ones p).flatten = p := by
  induction p with
  | nil => rfl
  | cons c p ih => rw [show ones (c :: p) = [c] :: ones p from rfl, List.flatten_cons, ih]; rfl
theorem arr_ones (p : List M.Cl) : arrV (ones p) = pathC p := by
  unfold arrV arrK pathC
  rw [List.take_length, ones_flatten, ones_length]
theorem ones_valid {p : List M.Cl} (h : ∀ c ∈ p, Pth.Stp c) : ∀ j, j < (ones p).length → M.valueFault ((ones p).getD j []) = 0 := by
  intro j hj
  rw [ones_length] at hj
  rw [ones_getD p j hj]
  exact (h _ (getD_mem p j hj)).val
theorem ones_lo {w : World} {a : Option Addr} {p : List M.Cl} (h : Pth.PL w a p) : LO w a (ones p) := by
  intro i hi
  rw [ones_length] at hi
  rcases h with h | ⟨g, o, rfl, h1, h2⟩
  · rw [h] at hi; simp at hi
  · obtain ⟨b, off, c, q1, q2, q3, q4⟩ := h2 i hi
    rw [ones_getD p i hi]
    exact ⟨g, o, b, off, c, rfl, h1, q1, q2, q3, q4⟩
theorem l1ArrayPL_any (pa : Option Addr) (pc : Nat) (p : List M.Cl) (w : World) (h : Pth.PL w pa p) (hc : p.length ≤ pc) (hn : p.length ≤ 4096) (hs : ∀ c ∈ p, Pth.Stp c) :
    Calls Tryd.prog 65 #[.slice pa p.length pc] w fun e w' => ∃ s, e = .returned s ∧ Res w' w.heap.size s (pathC p) ∧ Below w.heap.size w w' := by
  have := l1ArrayR_any pa pc (ones p) w (ones_lo h) (by rw [ones_length]; exact hc) (by rw [ones_length]; exact hn) (ones_valid hs)
  rwa [ones_length, arr_ones] at this

/-- l13All, whatever the value. -/
theorem all_says : ∀ f, AllSays f
  | 0 => fun v b off cap pa pc ahead leaves w hv hf => by have := (M.fault_zero hv).1; omega
  | f + 1 => by
    intro v b off cap pa pc ahead leaves w hv hf hrow hb hcap hpt hnil hpc hpc' hsz
    cases leaves
    · exact all_every f (hide (all_says f)) v b off cap pa pc ahead w hv hf hrow hb hcap hpt hnil hpc hpc' hsz
    · by_cases h0 : (v.getD 0 M.zero).n = 0
      · exact all_leaf f (hide (all_says f)) v b off cap pa pc ahead w hv hf hrow hb hcap hpt hnil hpc hpc' hsz h0
      · exact all_not f (hide (all_says f)) v b off cap pa pc ahead w hv hf hrow hb hcap hpt hnil hpc hpc' hsz h0
/-- The steps of all paths. -/
def steps (leaves : Bool) (v : List M.Cl) : List (List M.Cl) := all leaves v.length v []
theorem steps_len (leaves : Bool) {v : List M.Cl} (hv : M.valueFault v = 0) : (steps leaves v).length ≤ 200 := Nat.le_trans (all_len leaves _ v [] hv) (M.fault_zero hv).2.1
theorem steps_at (leaves : Bool) {v : List M.Cl} (hv : M.valueFault v = 0) {i : Nat} (hi : i < (steps leaves v).length) : (∀ c ∈ (steps leaves v).getD i [], Pth.Stp c) ∧ ((steps leaves v).getD i []).length + 1 ≤ v.length ∧ ∃ u, Pth.getS v ((steps leaves v).getD i []) = (0, u) ∧ M.valueFault u = 0 := by
  have hm : (steps leaves v).getD i [] ∈ steps leaves v := by rw [List.getD_eq_getElem?_getD, List.getElem?_eq_getElem hi]; exact List.getElem_mem hi
  obtain ⟨q, e, h1, h2, u, h3, h4⟩ := (all_leads leaves _ v [] _ hv hm).ex
  rw [List.nil_append] at e
  rw [e]
  exact ⟨h1, h2, u, h3, h4⟩
theorem l13All_any (leaves : Bool) (v : List M.Cl) (b off cap : Nat) (w : World) (hv : M.valueFault v = 0) (hrow : Row w b off v) (hb : b < w.heap.size) (hcap : v.length ≤ cap) :
    Calls Tryd.prog 64 #[.slice (some ⟨b, off, none⟩) v.length cap, .slice none 0 0, .bool leaves] w fun e w' => ∃ s, e = .returned s ∧ PPL w' w.heap.size s (steps leaves v) ∧ Below w.heap.size w w' :=
  all_says v.length v b off cap none 0 [] leaves w hv (Nat.le_refl _) hrow hb hcap (PT.nil _ _) (fun _ => ⟨rfl, rfl⟩) (Nat.zero_le _) (by omega) (by have := (M.fault_zero hv).2.1; simp; omega)
/-- A path out of a row of them. -/
theorem PPL.at {w : World} {B : Nat} {s : Value} {L : List (List M.Cl)} (h : PPL w B s L) (hL : 0 < L.length) : ∃ g c cur, s = .slice (some ⟨g, 0, none⟩) L.length c ∧ L.length ≤ c ∧ B ≤ g ∧ w.heap[g]? = some (.cells cur 50 (0, 0)) ∧ ∀ i, i < L.length → ∃ pa pc, cur.toList[i]? = some (.slice pa (L.getD i []).length pc) ∧ (L.getD i []).length ≤ pc ∧ pc ≤ 9223372036854775807 ∧ PT w pa (L.getD i []) := by
  obtain ⟨xs, ⟨h1, ⟨h2, h3⟩ | ⟨g, cap, cur, h2, h3, h4, h5, h6, h7, h8⟩⟩, h9⟩ := h
  · omega
  · refine ⟨g, cap, cur, h2, h5, h3, h4, fun i hi => ?_⟩
    obtain ⟨pa, pc, q1, q2⟩ := h9 i hi
    exact ⟨pa, pc, by rw [← q1, ← h8, List.getElem?_take_of_lt (by omega)], q2⟩

/-- What PathsIn and LeavesIn tell. -/
def pathsOut (leaves : Bool) (v : List M.Cl) : Int × List (List M.Cl) := if M.valueFault v ≠ 0 then (M.valueFault v, []) else (0, (steps leaves v).map pathC)
theorem paths_bad {leaves : Bool} {v : List M.Cl} (h : M.valueFault v ≠ 0) : pathsOut leaves v = (M.valueFault v, []) := if_pos h
theorem paths_ok {leaves : Bool} {v : List M.Cl} (h : M.valueFault v = 0) : pathsOut leaves v = (0, (steps leaves v).map pathC) := if_neg (by simp [h])
/-- The ledger of l13Paths. -/
structure Lp (w W wr : World) (sv : Value) (ps : List (List M.Cl)) : Prop where
  rs : Own wr w.heap.size 52 [.int .i64 0, .slice none 0 0]
  gt : Own wr W.heap.size 52 [.int .i64 0, sv]
  ss : SS wr (W.heap.size + 1) sv ps
  bel : Below W.heap.size W wr
  lo : w.heap.size < W.heap.size
  low : Below w.heap.size w W
theorem Lp.start {w W : World} (hr : Own W w.heap.size 52 [.int .i64 0, .slice none 0 0]) (hB : Below w.heap.size w W) : Lp w W (W.alloc (.cells #[.int .i64 0, .slice none 0 0] 52)) (.slice none 0 0) [] :=
  ⟨hr.alloc _, ⟨_, heap_alloc_new _ _, rfl⟩, SS.nil _ _, (Below.refl _ _).alloc (Nat.le_refl _) _, hr.lt, hB⟩
theorem _root_.Go.Proofs.YtlbmpldknfcfhaaDoor.SS.keepB {w w' : World} {B : Nat} {s : Value} {ps : List (List M.Cl)} (h : SS w B s ps) (hk : ∀ k, B ≤ k → w'.heap[k]? = w.heap[k]?) : SS w' B s ps := by
  obtain ⟨ss, h1, ⟨h2, h3⟩, h4⟩ := h
  refine ⟨ss, h1, ⟨h2, ?_⟩, fun i hi => ?_⟩
  · rcases h3 with h3 | ⟨g, cap, cur, q1, q2, q3, q4⟩
    · exact .inl h3
    · exact .inr ⟨g, cap, cur, q1, q2, (hk g q2).trans q3, q4⟩
  · obtain ⟨n1, n2 | ⟨b, cap, q1, q2, q3, q4⟩⟩ := h4 i hi
    · exact ⟨n1, .inl n2⟩
    · exact ⟨n1, .inr ⟨b, cap, q1, q2, q3, q4.keep (hk b q2)⟩⟩
theorem Lp.next {w W wr W2 W3 : World} {sv s v' : Value} {ps : List (List M.Cl)} {p : List M.Cl} (h : Lp w W wr sv ps) (ss : List Value) (hl : ss.length = ps.length)
    (hown : wr.ownsRow (W.heap.size + 1) 27 1 sv ps.length ss) (hres : ∀ i, i < ps.length → Res wr (W.heap.size + 1) (ss.getD i (.slice none 0 0)) (ps.getD i [])) (hb : Below wr.heap.size wr W2) (hs : Res W2 wr.heap.size s p)
    (ho : W3.ownsRow (W.heap.size + 1) 27 1 v' (ps.length + 1) (ss ++ [s])) (hg : (W2.alloc (.cells #[s] 27)).grownBy W3 sv.ownBlock) :
    Lp w W (W3.setCell ⟨W.heap.size, 1, none⟩ v') v' (ps ++ [p]) := by
  have hge := ownsRow_base hown
  have hsz : W.heap.size < wr.heap.size := h.gt.lt
  have hbA : Below W2.heap.size W2 (W2.alloc (.cells #[s] 27)) := (Below.refl _ _).alloc (Nat.le_refl _) _
  have b1 : Below (W.heap.size + 1) wr W3 := ((hb.trans (hbA.mono hb.size)).mono (by omega)).grown hg (by have := hb.size; simp; omega) hge
  have hss := SS.snoc (o := .cells #[s] 27) (k := ps.length) rfl hl (row_below hown hb) (fun i hi => (hres i hi).below hb) (hs.mono (by omega)) hg ho
  refine ⟨?_, ?_, ?_, ?_, h.lo, h.low⟩
  · exact (h.rs.below b1 (by have := h.lo; omega)).setOther _ _ (by have := h.lo; show w.heap.size ≠ W.heap.size; omega)
  · exact (h.gt.below b1 (by omega)).set 1 v'
  · exact hss.keepB (fun k hk => heap_setCell_other _ ⟨W.heap.size, 1, none⟩ k v' (by show k ≠ W.heap.size; omega))
  · exact (h.bel.trans (b1.mono (by omega))).setCell (Nat.le_refl _) _
set_option maxRecDepth 100000 in
set_option maxHeartbeats 4000000 in
theorem l13Paths_any (leaves : Bool) (v : List M.Cl) (b off cap : Nat) (w : World) (hrow : Row w b off v) (hb : b < w.heap.size) (hn : v.length ≤ 1048576) (hcap : v.length ≤ cap) (hok : ∀ c ∈ v, c.ok) :
    Calls Tryd.prog 41 #[.slice (some ⟨b, off, none⟩) v.length cap, .bool leaves] w (AnsS w (pathsOut leaves v)) := by
  have HB0 := hide (fun o => (show Below w.heap.size w (w.alloc o) from (Below.refl _ _).alloc (Nat.le_refl _) o))
  have HF := hide (fun o => specFault_any v b off cap (w.alloc o) (hrow.below ((unhide HB0) o) hb) (by simp; omega) hn hcap hok)
  have HA := hide (fun W (h : Below w.heap.size w W) hv => l13All_any leaves v b off cap W hv (hrow.below h hb) (Nat.lt_of_lt_of_le hb h.size) hcap)
  clear hrow hok hn
  obtain ⟨i0, hi, hz0, hz1, hz2⟩ := info_parts Tryd.info27
  go_enter Tryd.func41, Tryd.ntmps41
  go_wp2_with fail
  refine ((unhide HF) _).mono ?_
  rintro e w1 ⟨rfl, hb1⟩
  have hR : Own w1 w.heap.size 52 [.int .i64 0, .slice none 0 0] := Own.below ⟨_, heap_alloc_new _ _, rfl⟩ hb1 (by simp)
  have B1 : Below w.heap.size w w1 := ((unhide HB0) _).trans (hb1.mono (by simp))
  clear hb1 HF HB0
  by_cases hv : M.valueFault v = 0
  · rw [hv]
    have HP := hide ((unhide HA) w1 B1 hv)
    have FIN := hide (paths_ok (leaves := leaves) hv)
    have hLn := steps_len leaves hv
    have HST := hide (fun i hi => steps_at leaves hv (i := i) hi)
    have hvl := (M.fault_zero hv).2.1
    clear HA hv
    generalize steps leaves v = L at *
    go_wp2_with fail
    refine (unhide HP).mono ?_
    rintro e w2 ⟨s, rfl, hpp, hb2⟩
    have B2 : Below w.heap.size w w2 := B1.trans (hb2.mono B1.size)
    have R2 := hide (hR.below hb2 hR.lt)
    have hsh : ∃ a c, s = .slice a L.length c := by
      obtain ⟨xs, ⟨_, ⟨h2, h3⟩ | ⟨g, cap, cur, h2, _⟩⟩, _⟩ := hpp
      · exact ⟨none, 0, by rw [h2, h3]⟩
      · exact ⟨_, _, h2⟩
    obtain ⟨sa, sc, hs'⟩ := hsh
    subst hs'
    have HPP := hide hpp
    have L0 := hide (Lp.start (unhide R2) B2)
    clear hb2 hR B1 HP hpp
    obtain ⟨n, hN⟩ : ∃ n, n = L.length := ⟨_, rfl⟩
    have HN := hide hN
    rw [← hN] at hLn ⊢
    clear hN
    have hnI : ¬ (200 : Int) < (n : Int) := by omega
    go_wp2_with fail
    generalize hW4 : w2.alloc (.cells #[.int .i64 0, .slice none 0 0] 52) = w4 at *
    clear hW4
    go_loopg [8] n (fun g s8 wr => ∃ (k : Nat) (sv : Value), Hid (g = n - k) ∧ s8 = .int .i64 (k : Int) ∧ k ≤ n ∧ Hid (Lp w w2 wr sv ((L.take k).map pathC)))
    case atStart => exact ⟨0, .slice none 0 0, rfl, rfl, by omega, by rw [List.take_zero]; exact unhide L0⟩
    case round =>
      clear L0
      obtain ⟨k, sv, hg, rfl, hk, hL⟩ := hrel
      by_cases hlt : k < n
      · obtain ⟨gp, gc, cur, esl, hgc, hgB, hgh, hgx⟩ := PPL.at (unhide HPP) (by rw [← unhide HN]; omega)
        simp only [Value.slice.injEq] at esl
        obtain ⟨rfl, _, rfl⟩ := esl
        obtain ⟨pa, pc, hx, hpc, hpm, hpt⟩ := hgx k (by rw [← unhide HN]; exact hlt)
        have hst := (unhide HST) k (by rw [← unhide HN]; exact hlt)
        have hgl : gp < w2.heap.size := (Array.getElem?_eq_some_iff.1 hgh).1
        have TK := hide (show (L.take (k + 1)).map pathC = (L.take k).map pathC ++ [pathC (L.getD k [])] by
          rw [List.take_succ_eq_append_getElem (by rw [← unhide HN]; exact hlt), List.map_append]
          simp [List.getD_eq_getElem?_getD, List.getElem?_eq_getElem (show k < L.length by rw [← unhide HN]; exact hlt)])
        have HAR := hide (fun W (hW : Below w2.heap.size w2 W) => l1ArrayPL_any pa pc (L.getD k []) W (hpt.pl.below (B := 0) hW) hpc (by omega) hst.1)
        have hq1 := hst.2.1
        have hpl : Hid (((L.take k).map pathC).length = k) := hide (by rw [List.length_map, List.length_take, ← unhide HN]; omega)
        clear hst hpt hgx
        generalize L.getD k [] = q at *
        generalize (L.take k).map pathC = ps at *
        obtain ⟨ss, hsl, hown, hres⟩ := hL.out.ss
        have hownk : wr.ownsRow (w2.heap.size + 1) 27 1 sv k ss := by have := hown; rwa [hpl.out] at this
        have hge := ownsRow_base hown
        have HO := hide hown
        have HOK := hide hownk
        have HRS := hide hres
        have HSL := hide hsl
        have g1 := hL.out.gt.cell 1
        simp only [List.getElem?_cons_zero, List.getElem?_cons_succ] at g1
        have hgh2 : wr.heap[gp]? = some (.cells cur 50 (0, 0)) := (hL.out.bel.block gp hgl).trans hgh
        have hgtl := hL.out.gt.lt
        have hsz2 := hL.out.bel.size
        have HGE := hide hge
        -- what holds as long as the store has not come up
        have KEEP := hide (show ∀ W : World, (W.heap[w2.heap.size]? = wr.heap[w2.heap.size]? ∧ W.heap[gp]? = wr.heap[gp]?) → W.cell? ⟨w2.heap.size, 1, none⟩ = some sv ∧ W.cell? ⟨gp, k, none⟩ = some (.slice pa q.length pc) from fun W hW => ⟨(cell_block hW.1).trans g1, (cell_block hW.2).trans ((cell_in hgh2).trans hx)⟩)
        have SB := hide (show ∀ W : World, Below wr.heap.size wr W → (W.heap[w2.heap.size]? = wr.heap[w2.heap.size]? ∧ W.heap[gp]? = wr.heap[gp]?) from fun W hW => ⟨hW.block _ hgtl, hW.block _ (by omega)⟩)
        obtain ⟨va, vn, vc, hvs⟩ := row_shape hown
        subst hvs
        clear hown hownk hres hsl hge g1 hgh hgh2 hx
        have B0 := Below.refl wr.heap.size wr
        have s0 : (0 : Int) ≤ (k : Int) := by omega
        have s1 : (k : Int) < (n : Int) := by omega
        go_upto_region 11 with fail
        refine Z.region 10 (fun W => W.heap[w2.heap.size]? = wr.heap[w2.heap.size]? ∧ W.heap[gp]? = wr.heap[gp]?) (by kernel_rfl) ⟨rfl, rfl⟩ (fun hHeld => ?_)
        refine Z.take (i := 0) (d := 29) (v := .pointer (some ⟨w2.heap.size, 1, none⟩)) rfl rfl (by kernel_rfl) (by kernel_rfl) (by kernel_rfl) (by kernel_rfl) (fun _ _ _ h => h) (Or.inl ⟨by rfl, ?_⟩) hHeld ?_
        · intro w' hSw; go_simp
        simp only [Act.put, List.setIfInBounds_toArray, List.set_cons_zero, List.set_cons_succ]
        refine Z.take (i := 1) (d := 30) (v := .slice va vn vc) rfl rfl (by kernel_rfl) (by kernel_rfl) (by kernel_rfl) (by kernel_rfl) (fun _ _ _ h => h) (Or.inl ⟨by rfl, ?_⟩) hHeld ?_
        · intro w' hSw; have g1 := ((unhide KEEP) _ hSw).1; go_simp
        simp only [Act.put, List.setIfInBounds_toArray, List.set_cons_zero, List.set_cons_succ]
        refine Z.take (i := 2) (d := 31) (v := .slice (some ⟨gp, 0, none⟩) n sc) rfl rfl (by kernel_rfl) (by kernel_rfl) (by kernel_rfl) (by kernel_rfl) (fun _ _ _ h => h) (Or.inl ⟨by rfl, ?_⟩) hHeld ?_
        · intro w' hSw; go_simp
        simp only [Act.put, List.setIfInBounds_toArray, List.set_cons_zero, List.set_cons_succ]
        refine Z.take (i := 3) (d := 32) (v := .int .i64 (k : Int)) rfl rfl (by kernel_rfl) (by kernel_rfl) (by kernel_rfl) (by kernel_rfl) (fun _ _ _ h => h) (Or.inl ⟨by rfl, ?_⟩) hHeld ?_
        · intro w' hSw; go_simp
        simp only [Act.put, List.setIfInBounds_toArray, List.set_cons_zero, List.set_cons_succ]
        refine Z.take (i := 4) (d := 33) (v := .pointer (some ⟨gp, k, none⟩)) rfl rfl (by kernel_rfl) (by kernel_rfl) (by kernel_rfl) (by kernel_rfl) (fun _ _ _ h => h) (Or.inl ⟨by rfl, ?_⟩) hHeld ?_
        · intro w' hSw; go_simp
        simp only [Act.put, List.setIfInBounds_toArray, List.set_cons_zero, List.set_cons_succ]
        refine Z.take (i := 5) (d := 34) (v := .slice pa q.length pc) rfl rfl (by kernel_rfl) (by kernel_rfl) (by kernel_rfl) (by kernel_rfl) (fun _ _ _ h => h) (Or.inl ⟨by rfl, ?_⟩) hHeld ?_
        · intro w' hSw; have g1 := ((unhide KEEP) _ hSw).2; go_simp
        simp only [Act.put, List.setIfInBounds_toArray, List.set_cons_zero, List.set_cons_succ]
        refine Z.only (i := 6) (d := 35) rfl rfl (by kernel_rfl) (by rfl) (fun K hK => ?_)
        go_simp
        refine ((unhide HAR) _ (hL.out.bel.trans (B0.drew.mono hsz2))).mono ?_
        rintro e W2 ⟨s35, rfl, hr35, hb35⟩
        have BW2 : Below wr.heap.size wr W2 := B0.drew.trans (hb35.mono (Nat.le_refl _))
        obtain ⟨xa, xn, xc, hx35⟩ := hr35.shape
        subst hx35
        have HR35 := hide (show Res W2 wr.heap.size (.slice xa xn xc) (pathC q) from hr35)
        go_simp
        refine hK.out (.slice xa xn xc) W2 ((unhide SB) _ BW2) ?_
        clear hK K hr35 hb35
        simp only [Act.put, List.setIfInBounds_toArray, List.set_cons_zero, List.set_cons_succ]
        obtain ⟨W3, hW3⟩ : ∃ W3, W3 = W2.alloc (.cells #[.slice xa xn xc] 27) := ⟨_, rfl⟩
        have BW3 : Below W2.heap.size W2 W3 := by rw [hW3]; exact (Below.refl _ _).alloc (Nat.le_refl _) _
        have hN3 : ∀ j u, ([Value.slice xa xn xc] : List Value)[j]? = some u → W3.cell? ((⟨W2.heap.size, 0, none⟩ : Addr).add j) = some u := by rw [hW3]; exact one_val W2 _ _
        have HW3 := hide hW3
        have BWr3 : Below wr.heap.size wr W3 := BW2.trans (BW3.mono BW2.size)
        refine Z.ready (rs := [7]) (by kernel_rfl) (by simp) (Z.val_cons (i := 7) (d := 36) (v := .slice (some ⟨W2.heap.size, 0, none⟩) 1 1) (w' := W3) rfl (by rfl) (fun K hK => ?_) (fun _ => (unhide SB) _ BWr3) ?_ Z.All.nil)
        · go_simp
          rw [← hW3]
          exact hK.out
        simp only [Act.put, List.setIfInBounds_toArray, List.set_cons_zero, List.set_cons_succ]
        clear hW3
        have HO3 := hide (row_below (unhide HOK) BWr3)
        refine Z.only (i := 8) (d := 37) rfl rfl (by kernel_rfl) (by rfl) (fun K hK => ?_)
        refine wp_row _ (.tmp 30) (.tmp 36) 50 rfl 27 i0 (.slice none 0 0) 24 Tryd.underlying50 hi hz0 hz1 hz2 rfl (w2.heap.size + 1) (.slice va vn vc) k ss rfl (unhide HO3) (.slice (some ⟨W2.heap.size, 0, none⟩) 1 1) rfl [.slice xa xn xc] (.inr ⟨_, 1, rfl, hN3⟩) (by intro u hu; rw [List.mem_singleton.1 hu]; rfl) (by unfold maxLen; simp; omega) (by simp; omega) (by have := BWr3.size; omega) ?_
        intro v37 W4 ho4 hg4
        have S4 : W4.heap[w2.heap.size]? = wr.heap[w2.heap.size]? ∧ W4.heap[gp]? = wr.heap[gp]? := by
          have hne : ∀ j, j ≤ w2.heap.size → some j ≠ (Value.slice va vn vc).ownBlock := fun j hj e => by have := (unhide HGE) j e.symm; omega
          exact ⟨(hg4.block _ (by have := BWr3.size; omega) (hne _ (Nat.le_refl _))).trans (BWr3.block _ hgtl), (hg4.block _ (by have := BWr3.size; omega) (hne _ (by omega))).trans (BWr3.block _ (by omega))⟩
        have NEXT := hide (Lp.next hL.out ss (unhide HSL) (unhide HO) (unhide HRS) BW2 (unhide HR35) (v' := v37) (W3 := W4) (by rw [hpl.out]; exact ho4) (by rw [← unhide HW3]; exact hg4))
        obtain ⟨ya, yn, yc, hy⟩ := row_shape ho4
        subst hy
        refine hK.out (.slice ya yn yc) W4 S4 ?_
        clear hK K ho4 hg4
        simp only [Act.put, List.setIfInBounds_toArray, List.set_cons_zero, List.set_cons_succ]
        have c1 : W4.cell? ⟨w2.heap.size, 1, none⟩ = some (.slice va vn vc) := ((unhide KEEP) W4 S4).1
        have z1 : W4.frozen? ⟨w2.heap.size, 1, none⟩ = false := by
          have h := (show Own W4 w2.heap.size 52 _ from by obtain ⟨c, h1, h2⟩ := hL.out.gt; exact ⟨c, S4.1.trans h1, h2⟩)
          exact h.frozen 1
        refine Z.take (i := 9) (d := 38) (v := .pointer (some ⟨w2.heap.size, 1, none⟩)) rfl rfl (by kernel_rfl) (by kernel_rfl) (by kernel_rfl) (by kernel_rfl) (fun _ _ _ h => h) (Or.inl ⟨by rfl, ?_⟩) S4 ?_
        · intro w' hSw; go_simp
        simp only [Act.put, List.setIfInBounds_toArray, List.set_cons_zero, List.set_cons_succ]
        refine Z.last_at (w' := W4.setCell ⟨w2.heap.size, 1, none⟩ (.slice ya yn yc)) rfl (by kernel_rfl) (by rfl) (fun K hK => ?_) ?_
        · go_simp
          exact hK.out
        refine Z.done (by kernel_rfl) ?_ _
        generalize W4.setCell ⟨w2.heap.size, 1, none⟩ (.slice ya yn yc) = W5 at *
        clear c1 z1 S4 HO3 BWr3 HW3 hN3 BW3 HR35 BW2 B0 hL HAR KEEP SB HO HOK HRS HSL HGE
        go_wp2_with fail
        go_roundg (n - (k + 1))
        case rel => exact ⟨k + 1, _, rfl, by go_num, by omega, by rw [unhide TK]; exact unhide NEXT⟩
        case measure => have := hg.out; omega
      · have hke : k = n := by omega
        obtain ⟨va, vn, vc, hvs⟩ : ∃ a m c, sv = .slice a m c := by obtain ⟨ss, _, ho, _⟩ := hL.out.ss; exact row_shape ho
        subst hvs
        have hps : (L.take k).map pathC = L.map pathC := by rw [hke, unhide HN, List.take_length]
        have hne : ∀ i, i < (L.map pathC).length → (L.map pathC).getD i [] ≠ [] := fun i hi => by
          rw [List.length_map] at hi
          rw [List.getD_eq_getElem?_getD, List.getElem?_map, List.getElem?_eq_getElem hi]
          simp [pathC]
        have BB := hide (hL.out.low.trans (hL.out.bel.mono hL.out.low.size))
        have hSS := hL.out.ss
        rw [hps] at hSS
        have hlo := hL.out.lo
        have HPS := hide (hSS.ps hne)
        have E := hide (show ∀ x y, PS ((wr.setCell ⟨w.heap.size, 0, none⟩ x).setCell ⟨w.heap.size, 1, none⟩ y) w.heap.size ((wr.setCell ⟨w.heap.size, 0, none⟩ x).setCell ⟨w.heap.size, 1, none⟩ y).heap.size (.slice va vn vc) (L.map pathC) from fun x y => by
          rw [size_setCell2]
          exact ((unhide HPS).keep fun k h1 _ _ => heap_setCell2 wr _ x y k (by omega)).mono (by omega) (Nat.le_refl _))
        have q0 := hL.out.gt.cell 0
        have q1 := hL.out.gt.cell 1
        have p0 := hL.out.rs.cell 0
        have p1 := hL.out.rs.cell 1
        have y0 := hL.out.rs.frozen 0
        have y1 := hL.out.rs.frozen 1
        simp only [List.getElem?_cons_zero, List.getElem?_cons_succ] at q0 q1 p0 p1
        clear hke hL hSS hne hps HPS
        go_wp2_with fail
        refine bodyPost_ret (v := .agg #[.int .i64 0, .slice va vn vc]) (by simp [results, Tryd.results41, go_sem, p0, p1]) rfl (ansS_of (unhide FIN) ((unhide E) _ _) (store_below (unhide BB) _ _))
  · have fin := hide (paths_bad (leaves := leaves) hv)
    generalize M.valueFault v = q at *
    have hz' : (q == 0) = false := by simp [hv]
    have r0 := hR.cell 0
    have r1 := hR.cell 1
    have z0 := hR.frozen 0
    have z1 := hR.frozen 1
    simp only [List.getElem?_cons_zero, List.getElem?_cons_succ] at r0 r1
    clear hv HA
    go_wp2_with fail
    refine bodyPost_ret (v := .agg #[.int .i64 q, .slice none 0 0]) (by simp [results, Tryd.results41, go_sem, r0, r1]) rfl (ansS_of (unhide fin) (.inl ⟨rfl, rfl⟩) (store_below B1 _ _))
end Al
end Go.Proofs.YtlbmpldknfcfhaaDoor
