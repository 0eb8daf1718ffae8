/-
  Lists that are summed up, one behind the other.
  The walk over a list of values, summed up: what holds ahead of each round.
-/
import Derived.Test.YtemehbjlfiebdaaGreatX16
import Derived.Test.YtemehbjlfiebdaaGreatX42
import Derived.Test.YtemehbjlfiebdaaGreatX45
import Derived.Test.YtemehbjlfiebdaaGreatX48
namespace Go.Proofs.YtemehbjlfiebdaaGreat
open Go.RowKit
set_option linter.unusedVariables false

theorem PS.at {w : World} {lo hi : Nat} {a : Option Addr} {c n : Nat} {ps : List (List M.Cl)} (h : PS w lo hi (.slice a n c) ps) {i : Nat} (hi' : i < ps.length) : ∃ g b cc, a = some ⟨g, 0, none⟩ ∧ w.cell? ⟨g, i, none⟩ = some (.slice (some ⟨b, 0, none⟩) (ps.getD i []).length cc) ∧ (ps.getD i []).length ≤ cc ∧ b < w.heap.size ∧ Row w b 0 (ps.getD i []) := by
  rcases h with ⟨_, rfl⟩ | ⟨g, cap, xs, β, γ, h1, h2, h3, h4, h5, h6⟩
  · simp at hi'
  · cases h1
    obtain ⟨q1, q2, q3, q4, q5⟩ := h6 i hi'
    exact ⟨g, β i, γ i, rfl, (h5.cell i).trans q1, q2, q5.lt, q5.row⟩
theorem acc_step {ps : List (List M.Cl)} {k : Nat} (hv : M.valueFault (sumK ps k).2 = 0) (hok : ∀ c ∈ (sumK ps k).2, c.ok) (hp : M.valueFault (ps.getD k []) = 0) (hok' : ∀ c ∈ ps.getD k [], c.ok) (h0 : (sumK ps k).1 = 0) (hz : (addIn (sumK ps k).2 (ps.getD k [])).1 = 0) : (sumK ps (k + 1)).1 = 0 ∧ M.valueFault (sumK ps (k + 1)).2 = 0 ∧ ∀ c ∈ (sumK ps (k + 1)).2, c.ok := by
  rw [sumK_go h0]
  exact ⟨hz, add_valid hv hp hok hok' hz⟩
theorem res_nonempty {w : World} {B : Nat} {s : Value} {l : List M.Cl} (h : Res w B s l) (hv : M.valueFault l = 0) : ∃ b c, s = .slice (some ⟨b, 0, none⟩) l.length c ∧ l.length ≤ c ∧ B ≤ b ∧ OwnG w b 33 l := by
  obtain ⟨_, ⟨_, rfl⟩ | ⟨b, cap, h1, h2, h3, h4⟩⟩ := h
  · have := (fault_len hv).1; simp at this
  · exact ⟨b, cap, h1, h3, h2, h4⟩

end Go.Proofs.YtemehbjlfiebdaaGreat

namespace Go.Proofs.YtemehbjlfiebdaaGreat
open Go.RowKit
set_option linter.unusedVariables false

theorem cell_keep {w w' : World} {b : Nat} (h : w'.heap[b]? = w.heap[b]?) (j : Nat) : w'.cell? ⟨b, j, none⟩ = w.cell? ⟨b, j, none⟩ := by
  unfold World.cell?
  simp only [h]
theorem Row.keep {w w' : World} {b off : Nat} {l : List M.Cl} (h : Row w b off l) (hk : w'.heap[b]? = w.heap[b]?) : Row w' b off l := by
  intro i hi
  obtain ⟨h0, h1, h2, h3, h4⟩ := h i hi
  exact ⟨(cell_keep hk _).trans h0, (cell_keep hk _).trans h1, (cell_keep hk _).trans h2, (cell_keep hk _).trans h3, (cell_keep hk _).trans h4⟩
/-- A list of lists that is read, wherever its rows lie, but not in the block bs. -/
def Vw (w : World) (bs : Nat) (s : Value) (ps : List (List M.Cl)) : Prop := ∃ a c, s = .slice a ps.length c ∧ ∀ i, i < ps.length → ∃ g o b off cc : Nat, a = some ⟨g, o, none⟩ ∧ g ≠ bs ∧ b ≠ bs ∧ g < w.heap.size ∧ b < w.heap.size ∧ w.cell? ⟨g, o + i, none⟩ = some (.slice (some ⟨b, off, none⟩) (ps.getD i []).length cc) ∧ (ps.getD i []).length ≤ cc ∧ Row w b off (ps.getD i [])
theorem Vw.keep {w w' : World} {bs : Nat} {s : Value} {ps : List (List M.Cl)} (h : Vw w bs s ps) (hs : w.heap.size ≤ w'.heap.size) (hk : ∀ k, k < w.heap.size → k ≠ bs → w'.heap[k]? = w.heap[k]?) : Vw w' bs s ps := by
  obtain ⟨a, c, h1, h2⟩ := h
  refine ⟨a, c, h1, fun i hi => ?_⟩
  obtain ⟨g, o, b, off, cc, q1, q2, q3, q4, q5, q6, q7, q8⟩ := h2 i hi
  exact ⟨g, o, b, off, cc, q1, q2, q3, by omega, by omega, (cell_keep (hk g q4 q2) _).trans q6, q7, q8.keep (hk b q5 q3)⟩
theorem Vw.below {w w' : World} {bs : Nat} {s : Value} {ps : List (List M.Cl)} (h : Vw w bs s ps) (hb : Below w.heap.size w w') : Vw w' bs s ps := h.keep hb.size fun k hk _ => hb.block k hk
theorem PS.vw {w : World} {lo hi bs : Nat} {s : Value} {ps : List (List M.Cl)} (h : PS w lo hi s ps) (hd : hi ≤ bs ∨ bs < lo) : Vw w bs s ps := by
  rcases h with ⟨rfl, rfl⟩ | ⟨g, cap, xs, β, γ, h1, h2, h3, h4, h5, h6⟩
  · exact ⟨none, 0, rfl, fun i hi => by simp at hi⟩
  · refine ⟨_, cap, h1, fun i hi => ?_⟩
    obtain ⟨q1, q2, q3, q4, q5⟩ := h6 i hi
    exact ⟨g, 0, β i, 0, γ i, rfl, by omega, by omega, h5.lt, q5.lt, by rw [Nat.zero_add]; exact (h5.cell i).trans q1, q2, q5.row⟩

/-- The call's answer lies at w.heap.size and is empty yet; the sum of the first k lists lies at bs. -/
def Sm (w wr : World) (bs : Nat) (s : Value) (ps : List (List M.Cl)) (k : Nat) : Prop :=
  ∃ ba ca : Nat, Own wr bs 28 [.int .i64 0, .slice (some ⟨ba, 0, none⟩) (sumK ps k).2.length ca] ∧ (sumK ps k).2.length ≤ ca ∧ w.heap.size < ba ∧ OwnG wr ba 33 (sumK ps k).2 ∧ (sumK ps k).1 = 0 ∧ M.valueFault (sumK ps k).2 = 0 ∧ (∀ c ∈ (sumK ps k).2, c.ok) ∧
    Own wr w.heap.size 28 [.int .i64 0, .slice none 0 0] ∧ Vw wr bs s ps ∧ Below w.heap.size w wr ∧ w.heap.size < bs
/-- One round's answer was stored as the sum. -/
theorem Sm.put {w wr w7 : World} {bs : Nat} {s s7 : Value} {ps : List (List M.Cl)} {k : Nat} {l7 : List M.Cl} (h : Sm w wr bs s ps k) (hb : Below wr.heap.size wr w7) (hr : Res w7 wr.heap.size s7 l7) (c7 : Int) :
    Own ((w7.setCell ⟨bs, 0, none⟩ (.int .i64 c7)).setCell ⟨bs, 1, none⟩ s7) w.heap.size 28 [.int .i64 0, .slice none 0 0] ∧ Own ((w7.setCell ⟨bs, 0, none⟩ (.int .i64 c7)).setCell ⟨bs, 1, none⟩ s7) bs 28 [.int .i64 c7, s7] ∧
    Vw ((w7.setCell ⟨bs, 0, none⟩ (.int .i64 c7)).setCell ⟨bs, 1, none⟩ s7) bs s ps ∧ Below w.heap.size w ((w7.setCell ⟨bs, 0, none⟩ (.int .i64 c7)).setCell ⟨bs, 1, none⟩ s7) ∧ Res ((w7.setCell ⟨bs, 0, none⟩ (.int .i64 c7)).setCell ⟨bs, 1, none⟩ s7) (w.heap.size + 1) s7 l7 := by
  obtain ⟨ba, ca, h1, h2, h3, h4, h5, h6, h7, h8, h9, h10, h11⟩ := h
  have hl := h1.lt
  have q1 := h1.below hb hl
  have q8 := h8.below hb h8.lt
  have hne : ∀ b, s7.ownBlock = some b → b ≠ bs := fun b hb' => by have := hr.base b hb'; omega
  have hs := h10.size
  refine ⟨(q8.setOther _ _ (by simp; omega)).setOther _ _ (by simp; omega), ?_, ?_, ?_, ?_⟩
  · have := (q1.set 0 (.int .i64 c7)).set 1 s7
    simpa using this
  · exact (h9.below hb).keep (by simp) fun j _ hj => heap_setCell2 w7 bs _ _ j hj
  · exact ((h10.trans (hb.mono hs)).setCell (by simp; omega) _).setCell (by simp; omega) _
  · exact ((hr.mono (by omega)).setOther _ _ hne).setOther _ _ hne
theorem Sm.next {w wr w7 : World} {bs : Nat} {s s7 : Value} {ps : List (List M.Cl)} {k : Nat} {l7 : List M.Cl} {c7 : Int} (h : Sm w wr bs s ps k) (hb : Below wr.heap.size wr w7) (hr : Res w7 wr.heap.size s7 l7) (he : addIn (sumK ps k).2 (ps.getD k []) = (c7, l7)) (h0 : c7 = 0) (hp : M.valueFault (ps.getD k []) = 0) (hok' : ∀ c ∈ ps.getD k [], c.ok) :
    Sm w ((w7.setCell ⟨bs, 0, none⟩ (.int .i64 0)).setCell ⟨bs, 1, none⟩ s7) bs s ps (k + 1) := by
  subst h0
  obtain ⟨p1, p2, p3, p4, p5⟩ := h.put hb hr 0
  obtain ⟨ba, ca, h1, h2, h3, h4, h5, h6, h7, h8, h9, h10, h11⟩ := h
  have hz : (addIn (sumK ps k).2 (ps.getD k [])).1 = 0 := by rw [he]
  obtain ⟨n1, n2, n3⟩ := acc_step h6 h7 hp hok' h5 hz
  have e : (sumK ps (k + 1)).2 = l7 := by rw [sumK_go h5, he]
  rw [e] at n2 n3
  obtain ⟨b, c, rfl, hc, hB, ho⟩ := res_nonempty p5 n2
  exact ⟨b, c, by rw [e]; exact p2, by rw [e]; exact hc, by omega, by rw [e]; exact ho, n1, by rw [e]; exact n2, by rw [e]; exact n3, p1, p3, p4, h11⟩
/-- The walk begins: null was stored. -/
theorem Sm.first {w w1 : World} {bs : Nat} {s sv : Value} {ps : List (List M.Cl)} (hr : Res w1 (w.heap.size + 1) sv [M.zero]) (hb : Own w1 bs 28 [.int .i64 0, sv]) (ho : Own w1 w.heap.size 28 [.int .i64 0, .slice none 0 0]) (hp : Vw w1 bs s ps) (hB : Below w.heap.size w w1) (hbs : w.heap.size < bs) : Sm w w1 bs s ps 0 := by
  obtain ⟨z1, z2⟩ := zero_valid
  obtain ⟨b, c, rfl, hc, hB', ho'⟩ := res_nonempty hr z1
  exact ⟨b, c, hb, hc, by omega, ho', rfl, z1, z2, ho, hp, hB, hbs⟩

set_option maxRecDepth 100000 in
set_option maxHeartbeats 8000000 in
theorem sumOf_any (s : Value) (ps : List (List M.Cl)) (w : World) (hp : ∀ bs, w.heap.size < bs → Vw w bs s ps) (hn : ps.length ≤ 200) (hv : ∀ j, j < ps.length → M.valueFault (ps.getD j []) = 0) (hok : OkS ps) :
    Calls Tryz.prog 36 #[s] w (Ans w (sumK ps ps.length)) := by
  have HV := hide hv
  have OK := hide hok
  clear hv hok
  have B0 : ∀ o, Below w.heap.size w (w.alloc o) := fun o => (Below.refl _ _).alloc (Nat.le_refl _) o
  have HB0 := hide B0
  clear B0
  have hR0 : Own (w.alloc (.cells #[.int .i64 0, .slice none 0 0] 28)) w.heap.size 28 [.int .i64 0, .slice none 0 0] := ⟨_, heap_alloc_new _ _, rfl⟩
  have HR0 := hide hR0
  clear hR0
  obtain ⟨a, c, rfl, _⟩ := hp (w.heap.size + 1) (by omega)
  obtain ⟨m, hm⟩ : ∃ m, m = ps.length := ⟨_, rfl⟩
  have HM := hide hm
  rw [← hm] at hp hn ⊢
  clear hm
  have HP0 := hide hp
  clear hp
  go_enter Tryz.func36, Tryz.ntmps36
  go_wp2_with fail
  refine (nullResult_any _).mono ?_
  rintro e1 w1 ⟨s1, rfl, hr1, hb1⟩
  have B1 : Below w.heap.size w w1 := ((unhide HB0) _).trans (hb1.mono (by simp))
  have hR1 := (unhide HR0).below hb1 (unhide HR0).lt
  have hP1 := fun bs hbs => ((unhide HP0) bs hbs).below B1
  have hr1' : Res w1 (w.heap.size + 1) s1 [M.zero] := hr1.mono (by simp)
  obtain ⟨a1, n1, c1, rfl⟩ := hr1.shape
  have hlt1 := hR1.lt
  clear hr1 hb1
  have HS : Hid (∀ o : Obj, o = .cells #[.int .i64 0, .slice a1 n1 c1] 28 → Sm w (w1.alloc o) w1.heap.size (.slice a m c) ps 0) := fun o ho => by
    subst ho
    exact Sm.first (hr1'.alloc _) ⟨_, heap_alloc_new _ _, rfl⟩ (hR1.alloc _) ((hP1 _ hlt1).below ((Below.refl _ _).alloc (Nat.le_refl _) _)) (B1.alloc B1.size _) hlt1
  clear hr1' hR1 hP1
  go_wp2_with fail
  have hs2 := hide (HS.out _ rfl)
  clear HS
  generalize w1.alloc (.cells #[.int .i64 0, .slice a1 n1 c1] 28) = w2 at *
  generalize w1.heap.size = bs at *
  clear B1 HB0 HR0 HP0
  go_loopg [9] m (fun gh s9 wr => ∃ k : Nat, Hid (gh = m - k) ∧ s9 = .int .i64 k ∧ k ≤ m ∧ Hid (Sm w wr bs (.slice a m c) ps k))
  case atStart => exact ⟨0, rfl, rfl, by omega, unhide hs2⟩
  case round =>
    obtain ⟨k, hg, rfl, hk, hsm⟩ := hrel
    obtain ⟨ba, ca, h1, h2, h3, h4, h5, h6, h7, h8, h9, h10, h11⟩ := hsm.out
    by_cases hlt : k < m
    · have hlt2 : k < ps.length := by rw [← unhide HM]; exact hlt
      obtain ⟨a', c', hs', hat⟩ := h9
      obtain ⟨g, o, β, ω, γ, ha', _, _, _, hβ, f, hγ, hrowp⟩ := hat k hlt2
      have haa : a = a' := by injection hs'
      clear hs' hat
      subst haa
      subst ha'
      have cb := h1.cell 1
      simp only [List.getElem?_cons_zero, List.getElem?_cons_succ] at cb
      generalize he : addIn (sumK ps k).2 (ps.getD k []) = R
      obtain ⟨c7, l7⟩ := R
      have hvk := (unhide HV) k hlt2
      have HC := addTwo_any (sumK ps k).2 ba 0 ca (ps.getD k []) β ω γ wr h6 hvk h4.row h4.lt (by have := (fault_len h6).2; omega) h2 h7 hrowp hβ (by have := (fault_len hvk).2; omega) hγ ((unhide OK) k hlt2)
      rw [he] at HC
      have HC := hide HC
      have HN := hide (fun (w7 : World) (s7 : Value) (hb : Below wr.heap.size wr w7) (hr : Res w7 wr.heap.size s7 l7) (h0 : c7 = 0) => Sm.next hsm.out hb hr he h0 hvk ((unhide OK) k hlt2))
      have HPUT := hide (fun (w7 : World) (s7 : Value) (hb : Below wr.heap.size wr w7) (hr : Res w7 wr.heap.size s7 l7) => Sm.put hsm.out hb hr c7)
      have FIN : Hid (c7 ≠ 0 → sumK ps m = (c7, l7)) := fun h0 => (sumK_stop (k := k + 1) (by rw [sumK_go h5, he]; exact h0) m (by omega)).trans (by rw [sumK_go h5, he])
      generalize (sumK ps k).2.length = x1 at h1 cb HC
      generalize (ps.getD k []).length = x2 at f HC
      clear he h2 h3 h4 h5 h6 h7 hrowp hγ hvk hlt2 hsm hs2
      go_wp2_with fail
      refine (unhide HC).mono ?_
      rintro e7 w7 ⟨s7, rfl, hr7, hb7⟩
      obtain ⟨p1, p2, p3, p4, p5⟩ := (unhide HPUT) _ _ hb7 hr7
      have q1 := h1.below hb7 h1.lt
      have q8 := h8.below hb7 h8.lt
      have y0 := q1.cell 0
      have y1 := q1.cell 1
      have z0 := q1.frozen 0
      have z1 := q1.frozen 1
      simp only [List.getElem?_cons_zero, List.getElem?_cons_succ] at y0 y1
      have HNX := hide ((unhide HN) _ _ hb7 hr7)
      have r0 := q8.cell 0
      have r1 := q8.cell 1
      have t0 := q8.frozen 0
      have t1 := q8.frozen 1
      simp only [List.getElem?_cons_zero, List.getElem?_cons_succ] at r0 r1
      have hne : w.heap.size ≠ bs := by omega
      have HE := hide (Ans.storeC p5 (Nat.lt_succ_self _) p4)
      obtain ⟨a7, n7, m7, rfl⟩ := hr7.shape
      clear hr7 hb7 p1 p2 p3 p4 p5 HN HPUT q1 q8 f cb HC h1 h8 h10
      by_cases h0 : c7 = 0
      · have hnx := hide ((unhide HNX) h0)
        subst h0
        go_wp2_with fail
        go_roundg (m - (k + 1))
        case rel => exact ⟨k + 1, rfl, by go_num, by omega, unhide hnx⟩
        case measure => have := hg.out; omega
      · have fin := hide (FIN.out h0)
        have d0 : (c7 != 0) = true := by simpa using h0
        go_wp2_with fail
        refine bodyPost_ret (v := .agg #[.int .i64 c7, .slice a7 n7 m7]) (by simp [results, Tryz.results36, go_sem, r0, r1]) rfl (ans_of (unhide fin) ((unhide HE) _ _).1 ((unhide HE) _ _).2)
    · have hke : k = m := by omega
      subst hke
      have fin := hide (show sumK ps k = (0, (sumK ps k).2) from Prod.ext h5 rfl)
      have hres : Res wr (w.heap.size + 1) (.slice (some ⟨ba, 0, none⟩) (sumK ps k).2.length ca) (sumK ps k).2 := ⟨by have := (fault_len h6).2; omega, .inr ⟨ba, ca, rfl, by omega, h2, h4⟩⟩
      have HE := hide (Ans.storeC hres (Nat.lt_succ_self _) h10)
      have y0 := h1.cell 0
      have y1 := h1.cell 1
      have r0 := h8.cell 0
      have r1 := h8.cell 1
      have t0 := h8.frozen 0
      have t1 := h8.frozen 1
      simp only [List.getElem?_cons_zero, List.getElem?_cons_succ] at y0 y1 r0 r1
      generalize (sumK ps k).2.length = x1 at y1 HE
      clear hres h1 h2 h3 h4 h5 h6 h7 h8 h9 h10 hsm hs2
      go_wp2_with fail
      refine bodyPost_ret (v := .agg #[.int .i64 0, .slice (some ⟨ba, 0, none⟩) x1 ca]) (by simp [results, Tryz.results36, go_sem, r0, r1]) rfl (ans_of (unhide fin) ((unhide HE) _ _).1 ((unhide HE) _ _).2)

end Go.Proofs.YtemehbjlfiebdaaGreat
