/-
  The walk over a list of values, summed up: what holds ahead of each round.
-/
import Derived.Test.YtjoghcolfehkcaaSum0
import Derived.Test.YtjoghcolfehkcaaEachT
import Derived.Test.YtjoghcolfehkcaaAddT
import Derived.Test.YtjoghcolfehkcaaAddU
namespace Go.Proofs.Ytjoghcolfehkcaa
open Go.RowKit
set_option linter.unusedVariables false

/-- The call's answer lies at w.heap.size and is empty yet; the sum of the first k lists lies at bs. -/
def Sm (w wr : World) (lo hi bs : Nat) (s : Value) (ps : List (List M.Cl)) (k : Nat) : Prop :=
  ∃ ba ca : Nat, Own wr bs 26 [.int .i64 0, .slice (some ⟨ba, 0, none⟩) (sumK ps k).2.length ca] ∧ (sumK ps k).2.length ≤ ca ∧ w.heap.size < ba ∧ OwnG wr ba 55 (sumK ps k).2 ∧ (sumK ps k).1 = 0 ∧ M.valueFault (sumK ps k).2 = 0 ∧ (∀ c ∈ (sumK ps k).2, c.ok) ∧
    Own wr w.heap.size 26 [.int .i64 0, .slice none 0 0] ∧ PS wr lo hi s ps ∧ Below w.heap.size w wr ∧ w.heap.size < bs ∧ (hi ≤ bs ∨ bs < lo)
theorem Sm.drew {w wr : World} {lo hi bs : Nat} {s : Value} {ps : List (List M.Cl)} {k : Nat} (h : Sm w wr lo hi bs s ps k) : Sm w wr.drew lo hi bs s ps k := by
  obtain ⟨ba, ca, h1, h2, h3, h4, h5, h6, h7, h8, h9, h10, h11, h12⟩ := h
  exact ⟨ba, ca, h1, h2, h3, h4, h5, h6, h7, h8, h9, h10.drew, h11, h12⟩
/-- One round's answer was stored as the sum. -/
theorem Sm.put {w wr w7 : World} {lo hi bs : Nat} {s s7 : Value} {ps : List (List M.Cl)} {k : Nat} {l7 : List M.Cl} (h : Sm w wr lo hi bs s ps k) (hb : Below wr.heap.size wr w7) (hr : Res w7 wr.heap.size s7 l7) (c7 : Int) :
    Own ((w7.setCell ⟨bs, 0, none⟩ (.int .i64 c7)).setCell ⟨bs, 1, none⟩ s7) w.heap.size 26 [.int .i64 0, .slice none 0 0] ∧ Own ((w7.setCell ⟨bs, 0, none⟩ (.int .i64 c7)).setCell ⟨bs, 1, none⟩ s7) bs 26 [.int .i64 c7, s7] ∧
    PS ((w7.setCell ⟨bs, 0, none⟩ (.int .i64 c7)).setCell ⟨bs, 1, none⟩ s7) lo hi s ps ∧ Below w.heap.size w ((w7.setCell ⟨bs, 0, none⟩ (.int .i64 c7)).setCell ⟨bs, 1, none⟩ s7) ∧ Res ((w7.setCell ⟨bs, 0, none⟩ (.int .i64 c7)).setCell ⟨bs, 1, none⟩ s7) (w.heap.size + 1) s7 l7 := by
  obtain ⟨ba, ca, h1, h2, h3, h4, h5, h6, h7, h8, h9, h10, h11, h12⟩ := h
  have hl := h1.lt
  have q1 := h1.below hb hl
  have q8 := h8.below hb h8.lt
  have hne : ∀ b, s7.ownBlock = some b → b ≠ bs := fun b hb' => by have := hr.base b hb'; omega
  have hs := h10.size
  refine ⟨(q8.setOther _ _ (by simp; omega)).setOther _ _ (by simp; omega), ?_, ?_, ?_, ?_⟩
  · have := (q1.set 0 (.int .i64 c7)).set 1 s7
    simpa using this
  · exact (h9.below hb).keep fun j h1 h2 _ => heap_setCell2 w7 bs _ _ j (by omega)
  · exact ((h10.trans (hb.mono hs)).setCell (by simp; omega) _).setCell (by simp; omega) _
  · exact ((hr.mono (by omega)).setOther _ _ hne).setOther _ _ hne
theorem Sm.next {w wr w7 : World} {lo hi bs : Nat} {s s7 : Value} {ps : List (List M.Cl)} {k : Nat} {l7 : List M.Cl} {c7 : Int} (h : Sm w wr lo hi bs s ps k) (hb : Below wr.heap.size wr w7) (hr : Res w7 wr.heap.size s7 l7) (he : addIn (sumK ps k).2 (ps.getD k []) = (c7, l7)) (h0 : c7 = 0) (hp : M.valueFault (ps.getD k []) = 0) (hok' : ∀ c ∈ ps.getD k [], c.ok) :
    Sm w ((w7.setCell ⟨bs, 0, none⟩ (.int .i64 0)).setCell ⟨bs, 1, none⟩ s7) lo hi bs s ps (k + 1) := by
  subst h0
  obtain ⟨p1, p2, p3, p4, p5⟩ := h.put hb hr 0
  obtain ⟨ba, ca, h1, h2, h3, h4, h5, h6, h7, h8, h9, h10, h11, h12⟩ := h
  have hz : (addIn (sumK ps k).2 (ps.getD k [])).1 = 0 := by rw [he]
  obtain ⟨n1, n2, n3⟩ := acc_step h6 h7 hp hok' h5 hz
  have e : (sumK ps (k + 1)).2 = l7 := by rw [sumK_go h5, he]
  rw [e] at n2 n3
  obtain ⟨b, c, rfl, hc, hB, ho⟩ := res_nonempty p5 n2
  exact ⟨b, c, by rw [e]; exact p2, by rw [e]; exact hc, by omega, by rw [e]; exact ho, n1, by rw [e]; exact n2, by rw [e]; exact n3, p1, p3, p4, h11, h12⟩
/-- The walk begins: null was stored. -/
theorem Sm.first {w w1 : World} {lo hi bs : Nat} {s sv : Value} {ps : List (List M.Cl)} (hr : Res w1 (w.heap.size + 1) sv [M.zero]) (hb : Own w1 bs 26 [.int .i64 0, sv]) (ho : Own w1 w.heap.size 26 [.int .i64 0, .slice none 0 0]) (hp : PS w1 lo hi s ps) (hB : Below w.heap.size w w1) (hbs : w.heap.size < bs) (hd : hi ≤ bs ∨ bs < lo) : Sm w w1 lo hi bs s ps 0 := by
  obtain ⟨z1, z2⟩ := zero_valid
  obtain ⟨b, c, rfl, hc, hB', ho'⟩ := res_nonempty hr z1
  exact ⟨b, c, hb, hc, by omega, ho', rfl, z1, z2, ho, hp, hB, hbs, hd⟩

set_option maxRecDepth 100000 in
set_option maxHeartbeats 8000000 in
theorem sumOf_any (s : Value) (ps : List (List M.Cl)) (lo hi : Nat) (w : World) (hp : PS w lo hi s ps) (hhi : hi ≤ w.heap.size) (hn : ps.length ≤ 200) (hv : ∀ j, j < ps.length → M.valueFault (ps.getD j []) = 0) (hok : OkS ps) :
    Calls Try.prog 94 #[s] w (Ans w (sumK ps ps.length)) := by
  have HV := hide hv
  have OK := hide hok
  clear hv hok
  have B0 : ∀ o, Below w.heap.size w (w.alloc o) := fun o => (Below.refl _ _).alloc (Nat.le_refl _) o
  have HB0 := hide B0
  clear B0
  have hR0 : Own (w.alloc (.cells #[.int .i64 0, .slice none 0 0] 26)) w.heap.size 26 [.int .i64 0, .slice none 0 0] := ⟨_, heap_alloc_new _ _, rfl⟩
  have HR0 := hide hR0
  clear hR0
  obtain ⟨a, c, rfl⟩ := hp.form
  obtain ⟨m, hm⟩ : ∃ m, m = ps.length := ⟨_, rfl⟩
  have HM := hide hm
  rw [← hm] at hp hn ⊢
  clear hm
  have HP0 := hide hp
  clear hp
  go_enter Try.func94, Try.ntmps94
  go_wp2_with fail
  refine (nullResult_any _).mono ?_
  rintro e1 w1 ⟨s1, rfl, hr1, hb1⟩
  have B1 : Below w.heap.size w w1 := ((unhide HB0) _).trans (hb1.mono (by simp))
  have hR1 := (unhide HR0).below hb1 (unhide HR0).lt
  have hP1 := (unhide HP0).below B1
  have hr1' : Res w1 (w.heap.size + 1) s1 [M.zero] := hr1.mono (by simp)
  obtain ⟨a1, n1, c1, rfl⟩ := hr1.shape
  have hlt1 := hR1.lt
  clear hr1 hb1
  have HS : Hid (∀ o : Obj, o = .cells #[.int .i64 0, .slice a1 n1 c1] 26 → Sm w (w1.alloc o) lo hi w1.heap.size (.slice a m c) ps 0) := fun o ho => by
    subst ho
    exact Sm.first (hr1'.alloc _) ⟨_, heap_alloc_new _ _, rfl⟩ (hR1.alloc _) (hP1.alloc _) (B1.alloc B1.size _) hlt1 (.inl (by omega))
  clear hr1' hR1 hP1
  go_wp2_with fail
  have hs2 := hide (HS.out _ rfl)
  clear HS
  generalize w1.alloc (.cells #[.int .i64 0, .slice a1 n1 c1] 26) = w2 at *
  generalize w1.heap.size = bs at *
  clear B1 HB0 HR0 HP0
  go_loopg [9] m (fun gh s9 wr => ∃ k : Nat, Hid (gh = m - k) ∧ s9 = .int .i64 k ∧ k ≤ m ∧ Hid (Sm w wr lo hi bs (.slice a m c) ps k))
  case atStart => exact ⟨0, rfl, rfl, by omega, unhide hs2⟩
  case round =>
    obtain ⟨k, hg, rfl, hk, hsm⟩ := hrel
    obtain ⟨ba, ca, h1, h2, h3, h4, h5, h6, h7, h8, h9, h10, h11, h12⟩ := hsm.out
    by_cases hlt : k < m
    · have hlt2 : k < ps.length := by rw [← unhide HM]; exact hlt
      obtain ⟨g, β, γ, rfl, f, hγ, hβ, hrowp⟩ := h9.at (i := k) hlt2
      have cb := h1.cell 1
      simp only [List.getElem?_cons_zero, List.getElem?_cons_succ] at cb
      generalize he : addIn (sumK ps k).2 (ps.getD k []) = R
      obtain ⟨c7, l7⟩ := R
      have hvk := (unhide HV) k hlt2
      have HC := addTwo_any (sumK ps k).2 ba 0 ca (ps.getD k []) β 0 γ wr h6 hvk h4.row h4.lt (by have := (fault_len h6).2; omega) h2 h7 hrowp hβ (by have := (fault_len hvk).2; omega) hγ ((unhide OK) k hlt2)
      rw [he] at HC
      have HC := hide HC
      have HN := hide (fun (w7 : World) (s7 : Value) (hb : Below wr.heap.size wr w7) (hr : Res w7 wr.heap.size s7 l7) (h0 : c7 = 0) => Sm.next hsm.out hb hr he h0 hvk ((unhide OK) k hlt2))
      have HPUT := hide (fun (w7 : World) (s7 : Value) (hb : Below wr.heap.size wr w7) (hr : Res w7 wr.heap.size s7 l7) => Sm.put hsm.out hb hr c7)
      have FIN : Hid (c7 ≠ 0 → sumK ps m = (c7, l7)) := fun h0 => (sumK_stop (k := k + 1) (by rw [sumK_go h5, he]; exact h0) m (by omega)).trans (by rw [sumK_go h5, he])
      generalize (sumK ps k).2.length = x1 at h1 cb HC
      generalize (ps.getD k []).length = x2 at f HC
      clear he h2 h3 h4 h5 h6 h7 h9 h12 hrowp hγ hvk hlt2 hsm hs2
      go_wp2_with fail
      refine (unhide HC).mono ?_
      rintro e7 w7 ⟨s7, rfl, hr7, hb7⟩
      obtain ⟨p1, p2, p3, p4, p5⟩ := (unhide HPUT) _ _ hb7 hr7
      have q1 := h1.below hb7 h1.lt
      have q8 := h8.below hb7 h8.lt
      have y0 := q1.cell 0
      have y1 := q1.cell 1
      have z0 := q1.frozen 0
      have z1 := q1.frozen 1
      simp only [List.getElem?_cons_zero, List.getElem?_cons_succ] at y0 y1
      have HNX := hide ((unhide HN) _ _ hb7 hr7)
      have r0 := q8.cell 0
      have r1 := q8.cell 1
      have t0 := q8.frozen 0
      have t1 := q8.frozen 1
      simp only [List.getElem?_cons_zero, List.getElem?_cons_succ] at r0 r1
      have hne : w.heap.size ≠ bs := by omega
      have HE := hide (Ans.storeC p5 (Nat.lt_succ_self _) p4)
      obtain ⟨a7, n7, m7, rfl⟩ := hr7.shape
      clear hr7 hb7 p1 p2 p3 p4 p5 HN HPUT q1 q8 f cb HC h1 h8 h10
      by_cases h0 : c7 = 0
      · have hnx := hide ((unhide HNX) h0)
        subst h0
        go_wp2_with fail
        go_roundg (m - (k + 1))
        case rel => exact ⟨k + 1, rfl, by go_num, by omega, unhide hnx⟩
        case measure => have := hg.out; omega
      · have fin := hide (FIN.out h0)
        have d0 : (c7 != 0) = true := by simpa using h0
        go_wp2_with fail
        refine bodyPost_ret (v := .agg #[.int .i64 c7, .slice a7 n7 m7]) (by simp [results, Try.results94, go_sem, r0, r1]) rfl (ans_of (unhide fin) ((unhide HE) _ _).1 ((unhide HE) _ _).2)
    · have hke : k = m := by omega
      subst hke
      have fin := hide (show sumK ps k = (0, (sumK ps k).2) from Prod.ext h5 rfl)
      have hres : Res wr (w.heap.size + 1) (.slice (some ⟨ba, 0, none⟩) (sumK ps k).2.length ca) (sumK ps k).2 := ⟨by have := (fault_len h6).2; omega, .inr ⟨ba, ca, rfl, by omega, h2, h4⟩⟩
      have HE := hide (Ans.storeC hres (Nat.lt_succ_self _) h10)
      have y0 := h1.cell 0
      have y1 := h1.cell 1
      have r0 := h8.cell 0
      have r1 := h8.cell 1
      have t0 := h8.frozen 0
      have t1 := h8.frozen 1
      simp only [List.getElem?_cons_zero, List.getElem?_cons_succ] at y0 y1 r0 r1
      generalize (sumK ps k).2.length = x1 at y1 HE
      clear hres h1 h2 h3 h4 h5 h6 h7 h8 h9 h10 hsm hs2
      go_wp2_with fail
      refine bodyPost_ret (v := .agg #[.int .i64 0, .slice (some ⟨ba, 0, none⟩) x1 ca]) (by simp [results, Try.results94, go_sem, r0, r1]) rfl (ans_of (unhide fin) ((unhide HE) _ _).1 ((unhide HE) _ _).2)

end Go.Proofs.Ytjoghcolfehkcaa
