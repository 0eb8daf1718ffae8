/-
  spec.l3Sum.
-/
import Derived.Test.YtjoghcolfehkcaaSum1
namespace Go.Proofs.Ytjoghcolfehkcaa
open Go.RowKit
set_option linter.unusedVariables false

set_option maxRecDepth 100000 in
set_option maxHeartbeats 8000000 in
theorem l3Sum_any (v : List M.Cl) (b off cap : Nat) (w : World) (hv : M.valueFault v = 0) (hrow : Row w b off v) (hb : b < w.heap.size) (hcap : v.length ≤ cap) (hok : ∀ c ∈ v, c.ok) :
    Calls Try.prog 93 #[.slice (some ⟨b, off, none⟩) v.length cap] w (Ans w (sumOut v)) := by
  have hl1 := (M.fault_zero hv).1
  have hl2 := (M.fault_zero hv).2.1
  have B0 : ∀ o, Below w.heap.size w (w.alloc o) := fun o => (Below.refl _ _).alloc (Nat.le_refl _) o
  have HB0 := hide B0
  clear B0
  have hR0 : Own (w.alloc (.cells #[.int .i64 0, .slice none 0 0] 26)) w.heap.size 26 [.int .i64 0, .slice none 0 0] := ⟨_, heap_alloc_new _ _, rfl⟩
  have HR0 := hide hR0
  clear hR0
  obtain ⟨q0, q1, q2, q3, q4⟩ := hrow 0 (by omega)
  simp only [Nat.zero_mul, Nat.add_zero] at q0 q1 q2 q3 q4
  have f0 : ∀ o, (w.alloc o).cell? ⟨b, off, none⟩ = some (.int .i64 (v.getD 0 M.zero).kind) := fun o => (((unhide HB0) o).cell hb).trans q0
  have f1 : ∀ o, (w.alloc o).cell? ⟨b, off + 1, none⟩ = some (.int .i64 (v.getD 0 M.zero).num) := fun o => (((unhide HB0) o).cell hb).trans q1
  have f2 : ∀ o, (w.alloc o).cell? ⟨b, off + 2, none⟩ = some (.string (v.getD 0 M.zero).text) := fun o => (((unhide HB0) o).cell hb).trans q2
  have f3 : ∀ o, (w.alloc o).cell? ⟨b, off + 3, none⟩ = some (.string (v.getD 0 M.zero).key) := fun o => (((unhide HB0) o).cell hb).trans q3
  have f4 : ∀ o, (w.alloc o).cell? ⟨b, off + 4, none⟩ = some (.int .i64 (v.getD 0 M.zero).n) := fun o => (((unhide HB0) o).cell hb).trans q4
  clear q0 q1 q2 q3 q4
  by_cases kk : (v.getD 0 M.zero).kind = 5 ∨ (v.getD 0 M.zero).kind = 6
  · have fin := hide (sum_ok hv kk)
    obtain ⟨hal, hav, hao, hane⟩ := subs_all hv hok
    have HV := hide hav
    have OK := hide hao
    have HNE := hide hane
    have HPA := hide (fun w' (r : Row w' b off v) hb' => l1Parts_any v b off cap w' hv r hb' hcap hok)
    clear hav hao hane hv hok
    generalize v.getD 0 M.zero = c at *
    have hh := hide (l1Holds_yes c.kind c.num c.n c.text c.key (w.alloc (.cells #[.int .i64 0, .slice none 0 0] 26)) kk)
    clear kk
    go_enter Try.func93, Try.ntmps93
    go_wp2_with fail
    refine (unhide hh).mono ?_
    rintro e1 w1 ⟨rfl, hw1⟩
    have hR1 : Own w1 w.heap.size 26 [.int .i64 0, .slice none 0 0] := by rw [hw1]; exact (unhide HR0).alloc _
    have B1 : Below w.heap.size w w1 := by rw [hw1]; exact ((unhide HB0) _).alloc (by simp) _
    clear hw1 f0 f1 f2 f3 f4 hh HR0 HB0
    go_wp2_with fail
    refine (l3Null_any _).mono ?_
    rintro e2 w2 ⟨s2, rfl, hr2, hb2⟩
    have B2 : Below w.heap.size w w2 := B1.trans (hb2.mono B1.size)
    have hR2 := hR1.below hb2 hR1.lt
    have hr2' : Res w2 (w.heap.size + 1) s2 [M.zero] := hr2.mono hR1.lt
    obtain ⟨a1, n1, c1, rfl⟩ := hr2.shape
    have hlt2 := hR2.lt
    clear hr2 hb2 hR1 B1
    have hb2' : ∀ o, b < (w2.alloc o).heap.size := fun o => by have := B2.size; simp; omega
    have HROW := hide (fun o => hrow.below (B2.alloc B2.size o) hb)
    have HB2 := hide hb2'
    clear hb2'
    have HS : Hid (∀ (o : Obj) (w3 : World) (s3 : Value), o = .cells #[.int .i64 0, .slice a1 n1 c1] 26 → SS w3 (w2.alloc o).heap.size s3 (subs v 0) → Below (w2.alloc o).heap.size (w2.alloc o) w3 → Sm w w3 (w2.alloc o).heap.size w3.heap.size w2.heap.size s3 (subs v 0) 0 ∧ PS w3 (w2.alloc o).heap.size w3.heap.size s3 (subs v 0)) := fun o w3 s3 ho h3 hb3 => by
      subst ho
      have hbo : Own (w2.alloc (.cells #[.int .i64 0, .slice a1 n1 c1] 26)) w2.heap.size 26 [.int .i64 0, .slice a1 n1 c1] := ⟨_, heap_alloc_new _ _, rfl⟩
      have hp3 := h3.ps (unhide HNE)
      exact ⟨Sm.first ((hr2'.alloc _).below hb3) (hbo.below hb3 hbo.lt) ((hR2.alloc _).below hb3 (hR2.alloc _).lt) hp3 ((B2.alloc B2.size _).trans (hb3.mono (B2.alloc B2.size _).size)) hlt2 (.inr (by simp)), hp3⟩
    clear hr2' hR2 hrow
    go_wp2_with fail
    refine ((unhide HPA) _ ((unhide HROW) _) ((unhide HB2) _)).mono ?_
    rintro e3 w3 ⟨s3, rfl, hs3, hb3⟩
    obtain ⟨hsm0, hp3⟩ := HS.out _ _ _ rfl hs3 hb3
    obtain ⟨a, c0, rfl⟩ := hp3.form
    obtain ⟨m, hm⟩ : ∃ m, m = (subs v 0).length := ⟨_, rfl⟩
    have HM := hide hm
    rw [← hm] at fin hsm0 hal ⊢
    have hs2 := hide hsm0
    clear hm hsm0 hp3 hs3 hb3 HS HPA HROW HB2 HNE B2
    generalize (w2.alloc (.cells #[.int .i64 0, .slice a1 n1 c1] 26)).heap.size = lo at *
    generalize w3.heap.size = hi at *
    generalize w2.heap.size = bs at *
    generalize subs v 0 = ps at *
    go_wp2_with fail
    go_loopg [5] m (fun gh s5 wr => ∃ k : Nat, Hid (gh = m - k) ∧ s5 = .int .i64 k ∧ k ≤ m ∧ Hid (Sm w wr lo hi bs (.slice a m c0) ps k))
    case atStart => exact ⟨0, rfl, rfl, by omega, unhide hs2⟩
    case round =>
      obtain ⟨k, hg, rfl, hk, hsm⟩ := hrel
      obtain ⟨ba, ca, h1, h2, h3, h4, h5, h6, h7, h8, h9, h10, h11, h12⟩ := hsm.out
      by_cases hlt : k < m
      · have hlt2 : k < ps.length := by rw [← unhide HM]; exact hlt
        obtain ⟨g, β, γ, rfl, f, hγ, hβ, hrowp⟩ := h9.at (i := k) hlt2
        have cb := h1.cell 1
        simp only [List.getElem?_cons_zero, List.getElem?_cons_succ] at cb
        generalize he : addIn (sumK ps k).2 (ps.getD k []) = R
        obtain ⟨c7, l7⟩ := R
        have hvk := (unhide HV) k hlt2
        have HC := l3Add_any (sumK ps k).2 ba 0 ca (ps.getD k []) β 0 γ wr.drew h6 hvk (show Row wr.drew ba 0 (sumK ps k).2 from h4.row) h4.lt (by have := (fault_len h6).2; omega) h2 h7 (show Row wr.drew β 0 (ps.getD k []) from hrowp) hβ (by have := (fault_len hvk).2; omega) hγ ((unhide OK) k hlt2)
        rw [he] at HC
        have HC := hide HC
        have HN := hide (fun (w7 : World) (s7 : Value) (hb : Below wr.drew.heap.size wr.drew w7) (hr : Res w7 wr.drew.heap.size s7 l7) (h0 : c7 = 0) => Sm.next hsm.out.drew hb hr he h0 hvk ((unhide OK) k hlt2))
        have HPUT := hide (fun (w7 : World) (s7 : Value) (hb : Below wr.drew.heap.size wr.drew w7) (hr : Res w7 wr.drew.heap.size s7 l7) => Sm.put hsm.out.drew hb hr c7)
        have FIN : Hid (c7 ≠ 0 → sumOut v = (c7, l7)) := fun h0 => (unhide fin).trans ((sumK_stop (k := k + 1) (by rw [sumK_go h5, he]; exact h0) m (by omega)).trans (by rw [sumK_go h5, he]))
        generalize (sumK ps k).2.length = x1 at h1 cb HC
        generalize (ps.getD k []).length = x2 at f HC
        have hne : w.heap.size ≠ bs := by omega
        clear he h2 h3 h4 h5 h6 h7 h9 h12 hrowp hγ hvk hlt2 hsm hs2 fin
        go_wp2_with fail
        go_region_with (go_at_call 120; refine (unhide HC).mono ?_; rintro e7 w7 ⟨s7, rfl, hr7, hb7⟩; obtain ⟨p1, p2, p3, p4, p5⟩ := (unhide HPUT) _ _ hb7 hr7; have q1 := h1.drew.below hb7 h1.drew.lt; have q8 := h8.drew.below hb7 h8.drew.lt; have y0 := q1.cell 0; have y1 := q1.cell 1; have z0 := q1.frozen 0; have z1 := q1.frozen 1; have r0 := q8.cell 0; have r1 := q8.cell 1; have t0 := q8.frozen 0; have t1 := q8.frozen 1; simp only [List.getElem?_cons_zero, List.getElem?_cons_succ] at y0 y1 r0 r1; have HNX := hide ((unhide HN) _ _ hb7 hr7); have HE := hide (Ans.storeC p5 (Nat.lt_succ_self _) p4); obtain ⟨a7, n7, m7, rfl⟩ := hr7.shape; clear hr7 hb7 p1 p2 p3 p4 p5 q1 q8)
        all_goals
          by_cases h0 : c7 = 0
          · have hnx := hide ((unhide HNX) h0)
            subst h0
            go_wp2_with fail
            go_roundg (m - (k + 1))
            case rel => exact ⟨k + 1, rfl, by go_num, by omega, unhide hnx⟩
            case measure => have := hg.out; omega
          · have fin := hide (FIN.out h0)
            have d0 : (c7 != 0) = true := by simpa using h0
            go_wp2_with fail
            refine bodyPost_ret (v := .agg #[.int .i64 c7, .slice a7 n7 m7]) (by simp [results, Try.results93, go_sem, r0, r1]) rfl (ans_of (unhide fin) ((unhide HE) _ _).1 ((unhide HE) _ _).2)
      · have hke : k = m := by omega
        subst hke
        have fin2 := hide ((unhide fin).trans (show sumK ps k = (0, (sumK ps k).2) from Prod.ext h5 rfl))
        have hres : Res wr (w.heap.size + 1) (.slice (some ⟨ba, 0, none⟩) (sumK ps k).2.length ca) (sumK ps k).2 := ⟨by have := (fault_len h6).2; omega, .inr ⟨ba, ca, rfl, by omega, h2, h4⟩⟩
        have HE := hide (Ans.storeC hres (Nat.lt_succ_self _) h10)
        have y0 := h1.cell 0
        have y1 := h1.cell 1
        have r0 := h8.cell 0
        have r1 := h8.cell 1
        have t0 := h8.frozen 0
        have t1 := h8.frozen 1
        simp only [List.getElem?_cons_zero, List.getElem?_cons_succ] at y0 y1 r0 r1
        generalize (sumK ps k).2.length = x1 at y1 HE
        clear hres h1 h2 h3 h4 h5 h6 h7 h8 h9 h10 hsm hs2 fin
        go_wp2_with fail
        refine bodyPost_ret (v := .agg #[.int .i64 0, .slice (some ⟨ba, 0, none⟩) x1 ca]) (by simp [results, Try.results93, go_sem, r0, r1]) rfl (ans_of (unhide fin2) ((unhide HE) _ _).1 ((unhide HE) _ _).2)
  · have fin := hide (sum_no hv kk)
    generalize v.getD 0 M.zero = c at *
    have hh := hide (l1Holds_no c.kind c.num c.n c.text c.key (w.alloc (.cells #[.int .i64 0, .slice none 0 0] 26)) kk)
    clear kk hv hok
    go_enter Try.func93, Try.ntmps93
    go_wp2_with fail
    refine (unhide hh).mono ?_
    rintro e1 w1 ⟨rfl, hw1⟩
    have hR1 : Own w1 w.heap.size 26 [.int .i64 0, .slice none 0 0] := by rw [hw1]; exact (unhide HR0).alloc _
    have B1 : Below w.heap.size w w1 := by rw [hw1]; exact ((unhide HB0) _).alloc (by simp) _
    clear hw1 f0 f1 f2 f3 f4 hh HR0 HB0
    go_wp2_with fail
    refine (l3Bad_any _ _).mono ?_
    rintro ec wc ⟨sc, rfl, hrc, hbc⟩
    have hRc := hR1.below hbc hR1.lt
    have r0 := hRc.cell 0
    have r1 := hRc.cell 1
    have z0 := hRc.frozen 0
    have z1 := hRc.frozen 1
    simp only [List.getElem?_cons_zero, List.getElem?_cons_succ] at r0 r1
    have HE := hide (Ans.store hrc B1 hR1.lt hbc)
    obtain ⟨ac, mc, cc, rfl⟩ := hrc.shape
    clear hrc hbc
    go_wp2_with fail
    refine bodyPost_ret (v := .agg #[.int .i64 6, .slice ac mc cc]) (by simp [results, Try.results93, go_sem, r0, r1]) rfl (ans_of (unhide fin) ((unhide HE) _ _).1 ((unhide HE) _ _).2)

end Go.Proofs.Ytjoghcolfehkcaa
