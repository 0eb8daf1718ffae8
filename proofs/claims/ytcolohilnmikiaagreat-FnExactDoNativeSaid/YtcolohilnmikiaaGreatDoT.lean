/-
  Lists that are summed up, one behind the other.
  The walk over a list of values, summed up: what holds ahead of each round.
  spec.l3Sum.
  spec.AddAll and impl.AddAll.
  impl.DoNative and spec.DoNative: what is done with a value.
-/
import Derived.Test.YtcolohilnmikiaaGreatAdd0
import Derived.Test.YtcolohilnmikiaaGreatEachT
import Derived.Test.YtcolohilnmikiaaGreatAddT
import Derived.Test.YtcolohilnmikiaaGreatAddU
import Derived.Test.YtcolohilnmikiaaGreatDepT
import Derived.Test.YtcolohilnmikiaaGreatTypT
import Derived.Test.YtcolohilnmikiaaGreatKeyT
import Derived.Test.YtcolohilnmikiaaGreatSrtT
import Derived.Test.YtcolohilnmikiaaGreatSrtS
import Derived.Test.YtcolohilnmikiaaGreatKey0
namespace Go.Proofs.YtcolohilnmikiaaGreat
open Go.RowKit
set_option linter.unusedVariables false

theorem PS.form {w : World} {lo hi : Nat} {s : Value} {ps : List (List M.Cl)} (h : PS w lo hi s ps) : ∃ a c, s = .slice a ps.length c := by
  rcases h with ⟨rfl, rfl⟩ | ⟨g, cap, xs, β, γ, rfl, _⟩
  · exact ⟨_, _, rfl⟩
  · exact ⟨_, _, rfl⟩
theorem PS.at {w : World} {lo hi : Nat} {a : Option Addr} {c n : Nat} {ps : List (List M.Cl)} (h : PS w lo hi (.slice a n c) ps) {i : Nat} (hi' : i < ps.length) : ∃ g b cc, a = some ⟨g, 0, none⟩ ∧ w.cell? ⟨g, i, none⟩ = some (.slice (some ⟨b, 0, none⟩) (ps.getD i []).length cc) ∧ (ps.getD i []).length ≤ cc ∧ b < w.heap.size ∧ Row w b 0 (ps.getD i []) := by
  rcases h with ⟨_, rfl⟩ | ⟨g, cap, xs, β, γ, h1, h2, h3, h4, h5, h6⟩
  · simp at hi'
  · cases h1
    obtain ⟨q1, q2, q3, q4, q5⟩ := h6 i hi'
    exact ⟨g, β i, γ i, rfl, (h5.cell i).trans q1, q2, q5.lt, q5.row⟩
/-- What the loop of a sum holds: the cell of the sum. -/
def Acc (w : World) (base bs : Nat) (ps : List (List M.Cl)) (k : Nat) : Prop :=
  ∃ ba ca : Nat, Own w bs 26 [.int .i64 0, .slice (some ⟨ba, 0, none⟩) (sumK ps k).2.length ca] ∧ (sumK ps k).2.length ≤ ca ∧ base ≤ ba ∧ ba ≠ bs ∧ OwnG w ba 40 (sumK ps k).2 ∧ (sumK ps k).1 = 0 ∧ M.valueFault (sumK ps k).2 = 0 ∧ ∀ c ∈ (sumK ps k).2, c.ok
theorem acc_step {ps : List (List M.Cl)} {k : Nat} (hv : M.valueFault (sumK ps k).2 = 0) (hok : ∀ c ∈ (sumK ps k).2, c.ok) (hp : M.valueFault (ps.getD k []) = 0) (hok' : ∀ c ∈ ps.getD k [], c.ok) (h0 : (sumK ps k).1 = 0) (hz : (addIn (sumK ps k).2 (ps.getD k [])).1 = 0) : (sumK ps (k + 1)).1 = 0 ∧ M.valueFault (sumK ps (k + 1)).2 = 0 ∧ ∀ c ∈ (sumK ps (k + 1)).2, c.ok := by
  rw [sumK_go h0]
  exact ⟨hz, add_valid hv hp hok hok' hz⟩
theorem OwnG.setFar {w : World} {b : Nat} {t : TypeId} {l : List M.Cl} (h : OwnG w b t l) (p q : Addr) (x y : Value) (hp : b ≠ p.block) (hq : b ≠ q.block) : OwnG ((w.setCell p x).setCell q y) b t l := (h.setOther p x hp).setOther q y hq
theorem res_nonempty {w : World} {B : Nat} {s : Value} {l : List M.Cl} (h : Res w B s l) (hv : M.valueFault l = 0) : ∃ b c, s = .slice (some ⟨b, 0, none⟩) l.length c ∧ l.length ≤ c ∧ B ≤ b ∧ OwnG w b 40 l := by
  obtain ⟨_, ⟨_, rfl⟩ | ⟨b, cap, h1, h2, h3, h4⟩⟩ := h
  · have := (fault_len hv).1; simp at this
  · exact ⟨b, cap, h1, h3, h2, h4⟩

end Go.Proofs.YtcolohilnmikiaaGreat

namespace Go.Proofs.YtcolohilnmikiaaGreat
open Go.RowKit
set_option linter.unusedVariables false

theorem cell_keep {w w' : World} {b : Nat} (h : w'.heap[b]? = w.heap[b]?) (j : Nat) : w'.cell? ⟨b, j, none⟩ = w.cell? ⟨b, j, none⟩ := by
  unfold World.cell?
  simp only [h]
theorem Row.keep {w w' : World} {b off : Nat} {l : List M.Cl} (h : Row w b off l) (hk : w'.heap[b]? = w.heap[b]?) : Row w' b off l := by
  intro i hi
  obtain ⟨h0, h1, h2, h3, h4⟩ := h i hi
  exact ⟨(cell_keep hk _).trans h0, (cell_keep hk _).trans h1, (cell_keep hk _).trans h2, (cell_keep hk _).trans h3, (cell_keep hk _).trans h4⟩
/-- A list of lists that is read, wherever its rows lie, but not in the block bs. -/
def Vw (w : World) (bs : Nat) (s : Value) (ps : List (List M.Cl)) : Prop := ∃ a c, s = .slice a ps.length c ∧ ∀ i, i < ps.length → ∃ g o b off cc : Nat, a = some ⟨g, o, none⟩ ∧ g ≠ bs ∧ b ≠ bs ∧ g < w.heap.size ∧ b < w.heap.size ∧ w.cell? ⟨g, o + i, none⟩ = some (.slice (some ⟨b, off, none⟩) (ps.getD i []).length cc) ∧ (ps.getD i []).length ≤ cc ∧ Row w b off (ps.getD i [])
theorem Vw.keep {w w' : World} {bs : Nat} {s : Value} {ps : List (List M.Cl)} (h : Vw w bs s ps) (hs : w.heap.size ≤ w'.heap.size) (hk : ∀ k, k < w.heap.size → k ≠ bs → w'.heap[k]? = w.heap[k]?) : Vw w' bs s ps := by
  obtain ⟨a, c, h1, h2⟩ := h
  refine ⟨a, c, h1, fun i hi => ?_⟩
  obtain ⟨g, o, b, off, cc, q1, q2, q3, q4, q5, q6, q7, q8⟩ := h2 i hi
  exact ⟨g, o, b, off, cc, q1, q2, q3, by omega, by omega, (cell_keep (hk g q4 q2) _).trans q6, q7, q8.keep (hk b q5 q3)⟩
theorem Vw.below {w w' : World} {bs : Nat} {s : Value} {ps : List (List M.Cl)} (h : Vw w bs s ps) (hb : Below w.heap.size w w') : Vw w' bs s ps := h.keep hb.size fun k hk _ => hb.block k hk
theorem Vw.drew {w : World} {bs : Nat} {s : Value} {ps : List (List M.Cl)} (h : Vw w bs s ps) : Vw w.drew bs s ps := h
theorem PS.vw {w : World} {lo hi bs : Nat} {s : Value} {ps : List (List M.Cl)} (h : PS w lo hi s ps) (hd : hi ≤ bs ∨ bs < lo) : Vw w bs s ps := by
  rcases h with ⟨rfl, rfl⟩ | ⟨g, cap, xs, β, γ, h1, h2, h3, h4, h5, h6⟩
  · exact ⟨none, 0, rfl, fun i hi => by simp at hi⟩
  · refine ⟨_, cap, h1, fun i hi => ?_⟩
    obtain ⟨q1, q2, q3, q4, q5⟩ := h6 i hi
    exact ⟨g, 0, β i, 0, γ i, rfl, by omega, by omega, h5.lt, q5.lt, by rw [Nat.zero_add]; exact (h5.cell i).trans q1, q2, q5.row⟩

/-- The call's answer lies at w.heap.size and is empty yet; the sum of the first k lists lies at bs. -/
def Sm (w wr : World) (bs : Nat) (s : Value) (ps : List (List M.Cl)) (k : Nat) : Prop :=
  ∃ ba ca : Nat, Own wr bs 26 [.int .i64 0, .slice (some ⟨ba, 0, none⟩) (sumK ps k).2.length ca] ∧ (sumK ps k).2.length ≤ ca ∧ w.heap.size < ba ∧ OwnG wr ba 40 (sumK ps k).2 ∧ (sumK ps k).1 = 0 ∧ M.valueFault (sumK ps k).2 = 0 ∧ (∀ c ∈ (sumK ps k).2, c.ok) ∧
    Own wr w.heap.size 26 [.int .i64 0, .slice none 0 0] ∧ Vw wr bs s ps ∧ Below w.heap.size w wr ∧ w.heap.size < bs
theorem Sm.drew {w wr : World} {bs : Nat} {s : Value} {ps : List (List M.Cl)} {k : Nat} (h : Sm w wr bs s ps k) : Sm w wr.drew bs s ps k := by
  obtain ⟨ba, ca, h1, h2, h3, h4, h5, h6, h7, h8, h9, h10, h11⟩ := h
  exact ⟨ba, ca, h1, h2, h3, h4, h5, h6, h7, h8, h9, h10.drew, h11⟩
/-- One round's answer was stored as the sum. -/
theorem Sm.put {w wr w7 : World} {bs : Nat} {s s7 : Value} {ps : List (List M.Cl)} {k : Nat} {l7 : List M.Cl} (h : Sm w wr bs s ps k) (hb : Below wr.heap.size wr w7) (hr : Res w7 wr.heap.size s7 l7) (c7 : Int) :
    Own ((w7.setCell ⟨bs, 0, none⟩ (.int .i64 c7)).setCell ⟨bs, 1, none⟩ s7) w.heap.size 26 [.int .i64 0, .slice none 0 0] ∧ Own ((w7.setCell ⟨bs, 0, none⟩ (.int .i64 c7)).setCell ⟨bs, 1, none⟩ s7) bs 26 [.int .i64 c7, s7] ∧
    Vw ((w7.setCell ⟨bs, 0, none⟩ (.int .i64 c7)).setCell ⟨bs, 1, none⟩ s7) bs s ps ∧ Below w.heap.size w ((w7.setCell ⟨bs, 0, none⟩ (.int .i64 c7)).setCell ⟨bs, 1, none⟩ s7) ∧ Res ((w7.setCell ⟨bs, 0, none⟩ (.int .i64 c7)).setCell ⟨bs, 1, none⟩ s7) (w.heap.size + 1) s7 l7 := by
  obtain ⟨ba, ca, h1, h2, h3, h4, h5, h6, h7, h8, h9, h10, h11⟩ := h
  have hl := h1.lt
  have q1 := h1.below hb hl
  have q8 := h8.below hb h8.lt
  have hne : ∀ b, s7.ownBlock = some b → b ≠ bs := fun b hb' => by have := hr.base b hb'; omega
  have hs := h10.size
  refine ⟨(q8.setOther _ _ (by simp; omega)).setOther _ _ (by simp; omega), ?_, ?_, ?_, ?_⟩
  · have := (q1.set 0 (.int .i64 c7)).set 1 s7
    simpa using this
  · exact (h9.below hb).keep (by simp) fun j _ hj => heap_setCell2 w7 bs _ _ j hj
  · exact ((h10.trans (hb.mono hs)).setCell (by simp; omega) _).setCell (by simp; omega) _
  · exact ((hr.mono (by omega)).setOther _ _ hne).setOther _ _ hne
theorem Sm.next {w wr w7 : World} {bs : Nat} {s s7 : Value} {ps : List (List M.Cl)} {k : Nat} {l7 : List M.Cl} {c7 : Int} (h : Sm w wr bs s ps k) (hb : Below wr.heap.size wr w7) (hr : Res w7 wr.heap.size s7 l7) (he : addIn (sumK ps k).2 (ps.getD k []) = (c7, l7)) (h0 : c7 = 0) (hp : M.valueFault (ps.getD k []) = 0) (hok' : ∀ c ∈ ps.getD k [], c.ok) :
    Sm w ((w7.setCell ⟨bs, 0, none⟩ (.int .i64 0)).setCell ⟨bs, 1, none⟩ s7) bs s ps (k + 1) := by
  subst h0
  obtain ⟨p1, p2, p3, p4, p5⟩ := h.put hb hr 0
  obtain ⟨ba, ca, h1, h2, h3, h4, h5, h6, h7, h8, h9, h10, h11⟩ := h
  have hz : (addIn (sumK ps k).2 (ps.getD k [])).1 = 0 := by rw [he]
  obtain ⟨n1, n2, n3⟩ := acc_step h6 h7 hp hok' h5 hz
  have e : (sumK ps (k + 1)).2 = l7 := by rw [sumK_go h5, he]
  rw [e] at n2 n3
  obtain ⟨b, c, rfl, hc, hB, ho⟩ := res_nonempty p5 n2
  exact ⟨b, c, by rw [e]; exact p2, by rw [e]; exact hc, by omega, by rw [e]; exact ho, n1, by rw [e]; exact n2, by rw [e]; exact n3, p1, p3, p4, h11⟩
/-- The walk begins: null was stored. -/
theorem Sm.first {w w1 : World} {bs : Nat} {s sv : Value} {ps : List (List M.Cl)} (hr : Res w1 (w.heap.size + 1) sv [M.zero]) (hb : Own w1 bs 26 [.int .i64 0, sv]) (ho : Own w1 w.heap.size 26 [.int .i64 0, .slice none 0 0]) (hp : Vw w1 bs s ps) (hB : Below w.heap.size w w1) (hbs : w.heap.size < bs) : Sm w w1 bs s ps 0 := by
  obtain ⟨z1, z2⟩ := zero_valid
  obtain ⟨b, c, rfl, hc, hB', ho'⟩ := res_nonempty hr z1
  exact ⟨b, c, hb, hc, by omega, ho', rfl, z1, z2, ho, hp, hB, hbs⟩

set_option maxRecDepth 100000 in
set_option maxHeartbeats 8000000 in
theorem sumOf_any (s : Value) (ps : List (List M.Cl)) (w : World) (hp : ∀ bs, w.heap.size < bs → Vw w bs s ps) (hn : ps.length ≤ 200) (hv : ∀ j, j < ps.length → M.valueFault (ps.getD j []) = 0) (hok : OkS ps) :
    Calls Tryz.prog 54 #[s] w (Ans w (sumK ps ps.length)) := by
  have HV := hide hv
  have OK := hide hok
  clear hv hok
  have B0 : ∀ o, Below w.heap.size w (w.alloc o) := fun o => (Below.refl _ _).alloc (Nat.le_refl _) o
  have HB0 := hide B0
  clear B0
  have hR0 : Own (w.alloc (.cells #[.int .i64 0, .slice none 0 0] 26)) w.heap.size 26 [.int .i64 0, .slice none 0 0] := ⟨_, heap_alloc_new _ _, rfl⟩
  have HR0 := hide hR0
  clear hR0
  obtain ⟨a, c, rfl, _⟩ := hp (w.heap.size + 1) (by omega)
  obtain ⟨m, hm⟩ : ∃ m, m = ps.length := ⟨_, rfl⟩
  have HM := hide hm
  rw [← hm] at hp hn ⊢
  clear hm
  have HP0 := hide hp
  clear hp
  go_enter Tryz.func54, Tryz.ntmps54
  go_wp2_with fail
  refine (nullResult_any _).mono ?_
  rintro e1 w1 ⟨s1, rfl, hr1, hb1⟩
  have B1 : Below w.heap.size w w1 := ((unhide HB0) _).trans (hb1.mono (by simp))
  have hR1 := (unhide HR0).below hb1 (unhide HR0).lt
  have hP1 := fun bs hbs => ((unhide HP0) bs hbs).below B1
  have hr1' : Res w1 (w.heap.size + 1) s1 [M.zero] := hr1.mono (by simp)
  obtain ⟨a1, n1, c1, rfl⟩ := hr1.shape
  have hlt1 := hR1.lt
  clear hr1 hb1
  have HS : Hid (∀ o : Obj, o = .cells #[.int .i64 0, .slice a1 n1 c1] 26 → Sm w (w1.alloc o) w1.heap.size (.slice a m c) ps 0) := fun o ho => by
    subst ho
    exact Sm.first (hr1'.alloc _) ⟨_, heap_alloc_new _ _, rfl⟩ (hR1.alloc _) ((hP1 _ hlt1).below ((Below.refl _ _).alloc (Nat.le_refl _) _)) (B1.alloc B1.size _) hlt1
  clear hr1' hR1 hP1
  go_wp2_with fail
  have hs2 := hide (HS.out _ rfl)
  clear HS
  generalize w1.alloc (.cells #[.int .i64 0, .slice a1 n1 c1] 26) = w2 at *
  generalize w1.heap.size = bs at *
  clear B1 HB0 HR0 HP0
  go_loopg [9] m (fun gh s9 wr => ∃ k : Nat, Hid (gh = m - k) ∧ s9 = .int .i64 k ∧ k ≤ m ∧ Hid (Sm w wr bs (.slice a m c) ps k))
  case atStart => exact ⟨0, rfl, rfl, by omega, unhide hs2⟩
  case round =>
    obtain ⟨k, hg, rfl, hk, hsm⟩ := hrel
    obtain ⟨ba, ca, h1, h2, h3, h4, h5, h6, h7, h8, h9, h10, h11⟩ := hsm.out
    by_cases hlt : k < m
    · have hlt2 : k < ps.length := by rw [← unhide HM]; exact hlt
      obtain ⟨a', c', hs', hat⟩ := h9
      obtain ⟨g, o, β, ω, γ, ha', _, _, _, hβ, f, hγ, hrowp⟩ := hat k hlt2
      have haa : a = a' := by injection hs'
      clear hs' hat
      subst haa
      subst ha'
      have cb := h1.cell 1
      simp only [List.getElem?_cons_zero, List.getElem?_cons_succ] at cb
      generalize he : addIn (sumK ps k).2 (ps.getD k []) = R
      obtain ⟨c7, l7⟩ := R
      have hvk := (unhide HV) k hlt2
      have HC := addTwo_any (sumK ps k).2 ba 0 ca (ps.getD k []) β ω γ wr h6 hvk h4.row h4.lt (by have := (fault_len h6).2; omega) h2 h7 hrowp hβ (by have := (fault_len hvk).2; omega) hγ ((unhide OK) k hlt2)
      rw [he] at HC
      have HC := hide HC
      have HN := hide (fun (w7 : World) (s7 : Value) (hb : Below wr.heap.size wr w7) (hr : Res w7 wr.heap.size s7 l7) (h0 : c7 = 0) => Sm.next hsm.out hb hr he h0 hvk ((unhide OK) k hlt2))
      have HPUT := hide (fun (w7 : World) (s7 : Value) (hb : Below wr.heap.size wr w7) (hr : Res w7 wr.heap.size s7 l7) => Sm.put hsm.out hb hr c7)
      have FIN : Hid (c7 ≠ 0 → sumK ps m = (c7, l7)) := fun h0 => (sumK_stop (k := k + 1) (by rw [sumK_go h5, he]; exact h0) m (by omega)).trans (by rw [sumK_go h5, he])
      generalize (sumK ps k).2.length = x1 at h1 cb HC
      generalize (ps.getD k []).length = x2 at f HC
      clear he h2 h3 h4 h5 h6 h7 hrowp hγ hvk hlt2 hsm hs2
      go_wp2_with fail
      refine (unhide HC).mono ?_
      rintro e7 w7 ⟨s7, rfl, hr7, hb7⟩
      obtain ⟨p1, p2, p3, p4, p5⟩ := (unhide HPUT) _ _ hb7 hr7
      have q1 := h1.below hb7 h1.lt
      have q8 := h8.below hb7 h8.lt
      have y0 := q1.cell 0
      have y1 := q1.cell 1
      have z0 := q1.frozen 0
      have z1 := q1.frozen 1
      simp only [List.getElem?_cons_zero, List.getElem?_cons_succ] at y0 y1
      have HNX := hide ((unhide HN) _ _ hb7 hr7)
      have r0 := q8.cell 0
      have r1 := q8.cell 1
      have t0 := q8.frozen 0
      have t1 := q8.frozen 1
      simp only [List.getElem?_cons_zero, List.getElem?_cons_succ] at r0 r1
      have hne : w.heap.size ≠ bs := by omega
      have HE := hide (Ans.storeC p5 (Nat.lt_succ_self _) p4)
      obtain ⟨a7, n7, m7, rfl⟩ := hr7.shape
      clear hr7 hb7 p1 p2 p3 p4 p5 HN HPUT q1 q8 f cb HC h1 h8 h10
      by_cases h0 : c7 = 0
      · have hnx := hide ((unhide HNX) h0)
        subst h0
        go_wp2_with fail
        go_roundg (m - (k + 1))
        case rel => exact ⟨k + 1, rfl, by go_num, by omega, unhide hnx⟩
        case measure => have := hg.out; omega
      · have fin := hide (FIN.out h0)
        have d0 : (c7 != 0) = true := by simpa using h0
        go_wp2_with fail
        refine bodyPost_ret (v := .agg #[.int .i64 c7, .slice a7 n7 m7]) (by simp [results, Tryz.results54, go_sem, r0, r1]) rfl (ans_of (unhide fin) ((unhide HE) _ _).1 ((unhide HE) _ _).2)
    · have hke : k = m := by omega
      subst hke
      have fin := hide (show sumK ps k = (0, (sumK ps k).2) from Prod.ext h5 rfl)
      have hres : Res wr (w.heap.size + 1) (.slice (some ⟨ba, 0, none⟩) (sumK ps k).2.length ca) (sumK ps k).2 := ⟨by have := (fault_len h6).2; omega, .inr ⟨ba, ca, rfl, by omega, h2, h4⟩⟩
      have HE := hide (Ans.storeC hres (Nat.lt_succ_self _) h10)
      have y0 := h1.cell 0
      have y1 := h1.cell 1
      have r0 := h8.cell 0
      have r1 := h8.cell 1
      have t0 := h8.frozen 0
      have t1 := h8.frozen 1
      simp only [List.getElem?_cons_zero, List.getElem?_cons_succ] at y0 y1 r0 r1
      generalize (sumK ps k).2.length = x1 at y1 HE
      clear hres h1 h2 h3 h4 h5 h6 h7 h8 h9 h10 hsm hs2
      go_wp2_with fail
      refine bodyPost_ret (v := .agg #[.int .i64 0, .slice (some ⟨ba, 0, none⟩) x1 ca]) (by simp [results, Tryz.results54, go_sem, r0, r1]) rfl (ans_of (unhide fin) ((unhide HE) _ _).1 ((unhide HE) _ _).2)

end Go.Proofs.YtcolohilnmikiaaGreat

namespace Go.Proofs.YtcolohilnmikiaaGreat
open Go.RowKit
set_option linter.unusedVariables false

set_option maxRecDepth 100000 in
set_option maxHeartbeats 8000000 in
theorem l3Sum_any (v : List M.Cl) (b off cap : Nat) (w : World) (hv : M.valueFault v = 0) (hrow : Row w b off v) (hb : b < w.heap.size) (hcap : v.length ≤ cap) (hok : ∀ c ∈ v, c.ok) :
    Calls Tryz.prog 36 #[.slice (some ⟨b, off, none⟩) v.length cap] w (Ans w (sumOut v)) := by
  have hl1 := (M.fault_zero hv).1
  have hl2 := (M.fault_zero hv).2.1
  have B0 : ∀ o, Below w.heap.size w (w.alloc o) := fun o => (Below.refl _ _).alloc (Nat.le_refl _) o
  have HB0 := hide B0
  clear B0
  have hR0 : Own (w.alloc (.cells #[.int .i64 0, .slice none 0 0] 26)) w.heap.size 26 [.int .i64 0, .slice none 0 0] := ⟨_, heap_alloc_new _ _, rfl⟩
  have HR0 := hide hR0
  clear hR0
  obtain ⟨q0, q1, q2, q3, q4⟩ := hrow 0 (by omega)
  simp only [Nat.zero_mul, Nat.add_zero] at q0 q1 q2 q3 q4
  have f0 : ∀ o, (w.alloc o).cell? ⟨b, off, none⟩ = some (.int .i64 (v.getD 0 M.zero).kind) := fun o => (((unhide HB0) o).cell hb).trans q0
  have f1 : ∀ o, (w.alloc o).cell? ⟨b, off + 1, none⟩ = some (.int .i64 (v.getD 0 M.zero).num) := fun o => (((unhide HB0) o).cell hb).trans q1
  have f2 : ∀ o, (w.alloc o).cell? ⟨b, off + 2, none⟩ = some (.string (v.getD 0 M.zero).text) := fun o => (((unhide HB0) o).cell hb).trans q2
  have f3 : ∀ o, (w.alloc o).cell? ⟨b, off + 3, none⟩ = some (.string (v.getD 0 M.zero).key) := fun o => (((unhide HB0) o).cell hb).trans q3
  have f4 : ∀ o, (w.alloc o).cell? ⟨b, off + 4, none⟩ = some (.int .i64 (v.getD 0 M.zero).n) := fun o => (((unhide HB0) o).cell hb).trans q4
  clear q0 q1 q2 q3 q4
  by_cases kk : (v.getD 0 M.zero).kind = 5 ∨ (v.getD 0 M.zero).kind = 6
  · have fin := hide (sum_ok hv kk)
    obtain ⟨hal, hav, hao, hane⟩ := subs_all hv hok
    have HV := hide hav
    have OK := hide hao
    have HNE := hide hane
    have HPA := hide (fun w' (r : Row w' b off v) hb' => l1Parts_any v b off cap w' hv r hb' hcap hok)
    clear hav hao hane hv hok
    generalize v.getD 0 M.zero = c at *
    have hh := hide (l1Holds_yes c.kind c.num c.n c.text c.key (w.alloc (.cells #[.int .i64 0, .slice none 0 0] 26)) kk)
    clear kk
    go_enter Tryz.func36, Tryz.ntmps36
    go_wp2_with fail
    refine (unhide hh).mono ?_
    rintro e1 w1 ⟨rfl, hw1⟩
    have hR1 : Own w1 w.heap.size 26 [.int .i64 0, .slice none 0 0] := by rw [hw1]; exact (unhide HR0).alloc _
    have B1 : Below w.heap.size w w1 := by rw [hw1]; exact ((unhide HB0) _).alloc (by simp) _
    clear hw1 f0 f1 f2 f3 f4 hh HR0 HB0
    go_wp2_with fail
    refine (l3Null_any _).mono ?_
    rintro e2 w2 ⟨s2, rfl, hr2, hb2⟩
    have B2 : Below w.heap.size w w2 := B1.trans (hb2.mono B1.size)
    have hR2 := hR1.below hb2 hR1.lt
    have hr2' : Res w2 (w.heap.size + 1) s2 [M.zero] := hr2.mono hR1.lt
    obtain ⟨a1, n1, c1, rfl⟩ := hr2.shape
    have hlt2 := hR2.lt
    clear hr2 hb2 hR1 B1
    have hb2' : ∀ o, b < (w2.alloc o).heap.size := fun o => by have := B2.size; simp; omega
    have HROW := hide (fun o => hrow.below (B2.alloc B2.size o) hb)
    have HB2 := hide hb2'
    clear hb2'
    have HS : Hid (∀ (o : Obj) (w3 : World) (s3 : Value), o = .cells #[.int .i64 0, .slice a1 n1 c1] 26 → SS w3 (w2.alloc o).heap.size s3 (subs v 0) → Below (w2.alloc o).heap.size (w2.alloc o) w3 → Sm w w3 w2.heap.size s3 (subs v 0) 0 ∧ PS w3 (w2.alloc o).heap.size w3.heap.size s3 (subs v 0)) := fun o w3 s3 ho h3 hb3 => by
      subst ho
      have hbo : Own (w2.alloc (.cells #[.int .i64 0, .slice a1 n1 c1] 26)) w2.heap.size 26 [.int .i64 0, .slice a1 n1 c1] := ⟨_, heap_alloc_new _ _, rfl⟩
      have hp3 := h3.ps (unhide HNE)
      exact ⟨Sm.first ((hr2'.alloc _).below hb3) (hbo.below hb3 hbo.lt) ((hR2.alloc _).below hb3 (hR2.alloc _).lt) (hp3.vw (.inr (by simp))) ((B2.alloc B2.size _).trans (hb3.mono (B2.alloc B2.size _).size)) hlt2, hp3⟩
    clear hr2' hR2 hrow
    go_wp2_with fail
    refine ((unhide HPA) _ ((unhide HROW) _) ((unhide HB2) _)).mono ?_
    rintro e3 w3 ⟨s3, rfl, hs3, hb3⟩
    obtain ⟨hsm0, hp3⟩ := HS.out _ _ _ rfl hs3 hb3
    obtain ⟨a, c0, rfl⟩ := hp3.form
    obtain ⟨m, hm⟩ : ∃ m, m = (subs v 0).length := ⟨_, rfl⟩
    have HM := hide hm
    rw [← hm] at fin hsm0 hal ⊢
    have hs2 := hide hsm0
    clear hm hsm0 hp3 hs3 hb3 HS HPA HROW HB2 HNE B2
    generalize w2.heap.size = bs at *
    generalize subs v 0 = ps at *
    go_wp2_with fail
    go_loopg [5] m (fun gh s5 wr => ∃ k : Nat, Hid (gh = m - k) ∧ s5 = .int .i64 k ∧ k ≤ m ∧ Hid (Sm w wr bs (.slice a m c0) ps k))
    case atStart => exact ⟨0, rfl, rfl, by omega, unhide hs2⟩
    case round =>
      obtain ⟨k, hg, rfl, hk, hsm⟩ := hrel
      obtain ⟨ba, ca, h1, h2, h3, h4, h5, h6, h7, h8, h9, h10, h11⟩ := hsm.out
      by_cases hlt : k < m
      · have hlt2 : k < ps.length := by rw [← unhide HM]; exact hlt
        obtain ⟨a', c', hs', hat⟩ := h9
        obtain ⟨g, o, β, ω, γ, ha', _, _, _, hβ, f, hγ, hrowp⟩ := hat k hlt2
        have haa : a = a' := by injection hs'
        clear hs' hat
        subst haa
        subst ha'
        have cb := h1.cell 1
        simp only [List.getElem?_cons_zero, List.getElem?_cons_succ] at cb
        generalize he : addIn (sumK ps k).2 (ps.getD k []) = R
        obtain ⟨c7, l7⟩ := R
        have hvk := (unhide HV) k hlt2
        have HC := l3Add_any (sumK ps k).2 ba 0 ca (ps.getD k []) β ω γ wr.drew h6 hvk (show Row wr.drew ba 0 (sumK ps k).2 from h4.row) h4.lt (by have := (fault_len h6).2; omega) h2 h7 (show Row wr.drew β ω (ps.getD k []) from hrowp) hβ (by have := (fault_len hvk).2; omega) hγ ((unhide OK) k hlt2)
        rw [he] at HC
        have HC := hide HC
        have HN := hide (fun (w7 : World) (s7 : Value) (hb : Below wr.drew.heap.size wr.drew w7) (hr : Res w7 wr.drew.heap.size s7 l7) (h0 : c7 = 0) => Sm.next hsm.out.drew hb hr he h0 hvk ((unhide OK) k hlt2))
        have HPUT := hide (fun (w7 : World) (s7 : Value) (hb : Below wr.drew.heap.size wr.drew w7) (hr : Res w7 wr.drew.heap.size s7 l7) => Sm.put hsm.out.drew hb hr c7)
        have FIN : Hid (c7 ≠ 0 → sumOut v = (c7, l7)) := fun h0 => (unhide fin).trans ((sumK_stop (k := k + 1) (by rw [sumK_go h5, he]; exact h0) m (by omega)).trans (by rw [sumK_go h5, he]))
        generalize (sumK ps k).2.length = x1 at h1 cb HC
        generalize (ps.getD k []).length = x2 at f HC
        have hne : w.heap.size ≠ bs := by omega
        clear he h2 h3 h4 h5 h6 h7 hrowp hγ hvk hlt2 hsm hs2 fin
        go_wp2_with fail
        go_region_with (go_at_call 66; refine (unhide HC).mono ?_; rintro e7 w7 ⟨s7, rfl, hr7, hb7⟩; obtain ⟨p1, p2, p3, p4, p5⟩ := (unhide HPUT) _ _ hb7 hr7; have q1 := h1.drew.below hb7 h1.drew.lt; have q8 := h8.drew.below hb7 h8.drew.lt; have y0 := q1.cell 0; have y1 := q1.cell 1; have z0 := q1.frozen 0; have z1 := q1.frozen 1; have r0 := q8.cell 0; have r1 := q8.cell 1; have t0 := q8.frozen 0; have t1 := q8.frozen 1; simp only [List.getElem?_cons_zero, List.getElem?_cons_succ] at y0 y1 r0 r1; have HNX := hide ((unhide HN) _ _ hb7 hr7); have HE := hide (Ans.storeC p5 (Nat.lt_succ_self _) p4); obtain ⟨a7, n7, m7, rfl⟩ := hr7.shape; clear hr7 hb7 p1 p2 p3 p4 p5 q1 q8)
        all_goals
          by_cases h0 : c7 = 0
          · have hnx := hide ((unhide HNX) h0)
            subst h0
            go_wp2_with fail
            go_roundg (m - (k + 1))
            case rel => exact ⟨k + 1, rfl, by go_num, by omega, unhide hnx⟩
            case measure => have := hg.out; omega
          · have fin := hide (FIN.out h0)
            have d0 : (c7 != 0) = true := by simpa using h0
            go_wp2_with fail
            refine bodyPost_ret (v := .agg #[.int .i64 c7, .slice a7 n7 m7]) (by simp [results, Tryz.results36, go_sem, r0, r1]) rfl (ans_of (unhide fin) ((unhide HE) _ _).1 ((unhide HE) _ _).2)
      · have hke : k = m := by omega
        subst hke
        have fin2 := hide ((unhide fin).trans (show sumK ps k = (0, (sumK ps k).2) from Prod.ext h5 rfl))
        have hres : Res wr (w.heap.size + 1) (.slice (some ⟨ba, 0, none⟩) (sumK ps k).2.length ca) (sumK ps k).2 := ⟨by have := (fault_len h6).2; omega, .inr ⟨ba, ca, rfl, by omega, h2, h4⟩⟩
        have HE := hide (Ans.storeC hres (Nat.lt_succ_self _) h10)
        have y0 := h1.cell 0
        have y1 := h1.cell 1
        have r0 := h8.cell 0
        have r1 := h8.cell 1
        have t0 := h8.frozen 0
        have t1 := h8.frozen 1
        simp only [List.getElem?_cons_zero, List.getElem?_cons_succ] at y0 y1 r0 r1
        generalize (sumK ps k).2.length = x1 at y1 HE
        clear hres h1 h2 h3 h4 h5 h6 h7 h8 h9 h10 hsm hs2 fin
        go_wp2_with fail
        refine bodyPost_ret (v := .agg #[.int .i64 0, .slice (some ⟨ba, 0, none⟩) x1 ca]) (by simp [results, Tryz.results36, go_sem, r0, r1]) rfl (ans_of (unhide fin2) ((unhide HE) _ _).1 ((unhide HE) _ _).2)
  · have fin := hide (sum_no hv kk)
    generalize v.getD 0 M.zero = c at *
    have hh := hide (l1Holds_no c.kind c.num c.n c.text c.key (w.alloc (.cells #[.int .i64 0, .slice none 0 0] 26)) kk)
    clear kk hv hok
    go_enter Tryz.func36, Tryz.ntmps36
    go_wp2_with fail
    refine (unhide hh).mono ?_
    rintro e1 w1 ⟨rfl, hw1⟩
    have hR1 : Own w1 w.heap.size 26 [.int .i64 0, .slice none 0 0] := by rw [hw1]; exact (unhide HR0).alloc _
    have B1 : Below w.heap.size w w1 := by rw [hw1]; exact ((unhide HB0) _).alloc (by simp) _
    clear hw1 f0 f1 f2 f3 f4 hh HR0 HB0
    go_wp2_with fail
    refine (l3Bad_any _ _).mono ?_
    rintro ec wc ⟨sc, rfl, hrc, hbc⟩
    have hRc := hR1.below hbc hR1.lt
    have r0 := hRc.cell 0
    have r1 := hRc.cell 1
    have z0 := hRc.frozen 0
    have z1 := hRc.frozen 1
    simp only [List.getElem?_cons_zero, List.getElem?_cons_succ] at r0 r1
    have HE := hide (Ans.store hrc B1 hR1.lt hbc)
    obtain ⟨ac, mc, cc, rfl⟩ := hrc.shape
    clear hrc hbc
    go_wp2_with fail
    refine bodyPost_ret (v := .agg #[.int .i64 6, .slice ac mc cc]) (by simp [results, Tryz.results36, go_sem, r0, r1]) rfl (ans_of (unhide fin) ((unhide HE) _ _).1 ((unhide HE) _ _).2)

end Go.Proofs.YtcolohilnmikiaaGreat

namespace Go.Proofs.YtcolohilnmikiaaGreat
open Go.RowKit
set_option linter.unusedVariables false

theorem sum_of_each (v : List M.Cl) (hok : ∀ c ∈ v, c.ok) : ((eachOut v).1 ≠ 0 ∧ sumOut v = ((eachOut v).1, [])) ∨ ((eachOut v).1 = 0 ∧ sumOut v = sumK (eachOut v).2 (eachOut v).2.length ∧ (eachOut v).2.length ≤ 200 ∧ (∀ j, j < (eachOut v).2.length → M.valueFault ((eachOut v).2.getD j []) = 0) ∧ OkS (eachOut v).2) := by
  by_cases hv : M.valueFault v = 0
  · by_cases kk : (v.getD 0 M.zero).kind = 5 ∨ (v.getD 0 M.zero).kind = 6
    · right
      rw [each_ok hv kk, sum_ok hv kk]
      obtain ⟨a, b, c, _⟩ := subs_all hv hok
      exact ⟨rfl, rfl, a, b, c⟩
    · left
      rw [each_no hv kk, sum_no hv kk]
      exact ⟨by decide, rfl⟩
  · left
    rw [each_bad hv, sum_bad hv]
    exact ⟨hv, rfl⟩

set_option maxRecDepth 100000 in
set_option maxHeartbeats 4000000 in
theorem implAddAll_any (v : List M.Cl) (b off cap : Nat) (w : World) (hrow : Row w b off v) (hb : b < w.heap.size) (hn : v.length ≤ 1048576) (hcap : v.length ≤ cap) (hok : ∀ c ∈ v, c.ok) :
    Calls Tryz.prog 24 #[.slice (some ⟨b, off, none⟩) v.length cap] w (Ans w (sumOut v)) := by
  have OK := hide hok
  have HSE := hide (sum_of_each v hok)
  have B0 : ∀ o, Below w.heap.size w (w.alloc o) := fun o => (Below.refl _ _).alloc (Nat.le_refl _) o
  have HB0 := hide B0
  clear B0
  clear hok
  go_enter Tryz.func24, Tryz.ntmps24
  go_wp2_with fail
  refine (implEachOf_any v b off cap _ (hrow.below ((unhide HB0) _) hb) (by simp; omega) hn hcap (unhide OK)).mono ?_
  rintro e1 w1 ⟨s1, rfl, hr1, hb1⟩
  have hR : Own w1 w.heap.size 26 [.int .i64 0, .slice none 0 0] := Own.below ⟨_, heap_alloc_new _ _, rfl⟩ hb1 (by simp)
  have B1 : Below w.heap.size w w1 := ((unhide HB0) _).trans (hb1.mono (by simp))
  have hp1 := hr1.ps
  clear hb1 hr1
  generalize eachOut v = E at *
  obtain ⟨ec, el⟩ := E
  obtain ⟨a1, n1, c1, rfl⟩ := hp1.shape
  have HP1 := hide (fun o => hp1.alloc o)
  have hRA := hide (fun o => hR.alloc o)
  have HBA := hide (fun o => B1.alloc B1.size o)
  have hne : w.heap.size ≠ w1.heap.size := by have := hR.lt; omega
  clear hp1
  rcases unhide HSE with ⟨hz, hs⟩ | ⟨hz, hs, hl, hv, ho⟩
  · simp only at hz hs
    have fin := hide hs
    have d0 : (ec != 0) = true := by simpa using hz
    have r0 := fun o => ((unhide hRA) o).cell 0
    have r1 := fun o => ((unhide hRA) o).cell 1
    have z0 := fun o => ((unhide hRA) o).frozen 0
    have z1 := fun o => ((unhide hRA) o).frozen 1
    simp only [List.getElem?_cons_zero, List.getElem?_cons_succ] at r0 r1
    have HE := hide (fun o => store_below ((unhide HBA) o))
    clear hs HSE
    go_wp2_with fail
    refine bodyPost_ret (v := .agg #[.int .i64 ec, .slice none 0 0]) (by simp [results, Tryz.results24, go_sem, r0, r1]) rfl (ans_of (unhide fin) (resNil _ _) ((unhide HE) _ _ _))
  · simp only at hz hs hl hv ho
    subst hz
    have HG := hide (fun o => sumOf_any _ el _ (fun bs hbs => ((unhide HP1) o).vw (.inl (by simp at hbs; omega))) hl hv ho)
    have fin := hide hs
    generalize sumK el el.length = R at *
    obtain ⟨rc, rl⟩ := R
    clear hs hl hv ho HSE
    go_wp2_with fail
    refine ((unhide HG) _).mono ?_
    rintro ec wc ⟨sc, rfl, hrc, hbc⟩
    have hRc := ((unhide hRA) _).below hbc ((unhide hRA) _).lt
    have r0 := hRc.cell 0
    have r1 := hRc.cell 1
    have z0 := hRc.frozen 0
    have z1 := hRc.frozen 1
    simp only [List.getElem?_cons_zero, List.getElem?_cons_succ] at r0 r1
    have HE := hide (Ans.store hrc ((unhide HBA) _) ((unhide hRA) _).lt hbc)
    obtain ⟨ac, mc, cc, rfl⟩ := hrc.shape
    clear hrc hbc
    go_wp2_with fail
    refine bodyPost_ret (v := .agg #[.int .i64 rc, .slice ac mc cc]) (by simp [results, Tryz.results24, go_sem, r0, r1]) rfl (ans_of (unhide fin) ((unhide HE) _ _).1 ((unhide HE) _ _).2)

end Go.Proofs.YtcolohilnmikiaaGreat

namespace Go.Proofs.YtcolohilnmikiaaGreat
open Go.RowKit
set_option linter.unusedVariables false

def upTo (v : List M.Cl) : Int × List M.Cl := if (v.getD 0 M.zero).kind = 3 then rngOut (v.getD 0 M.zero).num else (6, [])
def doIn (d : Int) (v : List M.Cl) : Int × List M.Cl :=
  if d = 1 then lenOut v else if d = 2 then keysOut v else if d = 3 then typOut v else if d = 4 then sortOut v else if d = 5 then sumOut v else if d = 6 then upTo v else if d = 7 then deepOut v else if d = 8 then (1, []) else (3, [])
def doOut (d : Int) (v : List M.Cl) : Int × List M.Cl := if M.valueFault v ≠ 0 then (M.valueFault v, []) else doIn d v
theorem do_bad {d : Int} {v : List M.Cl} (h : M.valueFault v ≠ 0) : doOut d v = (M.valueFault v, []) := if_pos h
theorem do_ok {d : Int} {v : List M.Cl} (h : M.valueFault v = 0) : doOut d v = doIn d v := by unfold doOut; rw [if_neg (by simp [h])]
theorem do_no {d : Int} {v : List M.Cl} (h : d < 1 ∨ 8 < d) : doIn d v = (3, []) := by
  unfold doIn
  rw [if_neg (by omega), if_neg (by omega), if_neg (by omega), if_neg (by omega), if_neg (by omega), if_neg (by omega), if_neg (by omega), if_neg (by omega)]
theorem l3Sort_anyD (v : List M.Cl) (b off cap : Nat) (w : World) (hv : M.valueFault v = 0) (hrow : Row w b off v) (hb : b < w.heap.size) (hcap : v.length ≤ cap) (hok : ∀ c ∈ v, c.ok) :
    Calls Tryz.prog 35 #[.slice (some ⟨b, off, none⟩) v.length cap] w (Ans w (sortIn v)) := by
  by_cases k5 : (v.getD 0 M.zero).kind = 5
  · exact l3Sort_arr v b off cap w hv hrow hb hcap hok k5
  · exact l3Sort_no v b off cap w hv hrow hb hcap k5

theorem Ans.store2 {w w1 w2 : World} {b : Nat} {s : Value} {l : List M.Cl} (hr : Res w2 w1.heap.size s l) (B1 : Below w.heap.size w w1) (hsz : b + 1 ≤ w1.heap.size) (hb : Below w1.heap.size w1 w2) (x y : Value) (hwb : w.heap.size ≤ b := by omega) :
    Res ((w2.setCell ⟨b, 0, none⟩ x).setCell ⟨b, 1, none⟩ y) w.heap.size s l ∧ Below w.heap.size w ((w2.setCell ⟨b, 0, none⟩ x).setCell ⟨b, 1, none⟩ y) := by
  refine ⟨?_, ((B1.trans (hb.mono B1.size)).setCell hwb _).setCell hwb _⟩
  obtain ⟨h1, h2 | ⟨g, cap, h3, h4, h5, ⟨ys, ⟨c, h6, h7⟩, h8⟩⟩⟩ := hr
  · exact ⟨h1, .inl h2⟩
  · exact ⟨h1, .inr ⟨g, cap, h3, by have := B1.size; omega, h5, ⟨ys, ⟨c, ((heap_setCell_other _ ⟨b, 1, none⟩ g y (by simp only; omega)).trans (heap_setCell_other _ ⟨b, 0, none⟩ g x (by simp only; omega))).trans h6, h7⟩, h8⟩⟩⟩
set_option maxHeartbeats 1000000 in
theorem rangeUpTo_any (c : M.Cl) (w : World) (hc : c.ok) :
    Calls Tryz.prog 25 #[c.agg] w (Ans w (if c.kind = 3 then rngOut c.num else (6, []))) := by
  obtain ⟨_, ⟨c0, c1⟩, _⟩ := hc
  obtain ⟨kind, num, text, key, n⟩ := c
  unfold M.Cl.agg
  simp only at c0 c1 ⊢
  by_cases k3 : kind = 3
  · subst k3
    obtain ⟨w0, hw0⟩ : ∃ w0, w0 = (w.alloc (.cells #[.int .i64 3, .int .i64 num, .string text, .string key, .int .i64 n] 40)).alloc (.cells #[.int .i64 0, .slice none 0 0] 26) := ⟨_, rfl⟩
    have hR : Own w0 (w.heap.size + 1) 26 [.int .i64 0, .slice none 0 0] := by rw [hw0]; exact ⟨_, by simpa using heap_alloc_new (w.alloc (.cells #[.int .i64 3, .int .i64 num, .string text, .string key, .int .i64 n] 40)) (.cells #[.int .i64 0, .slice none 0 0] 26), rfl⟩
    have B0 : Below w.heap.size w w0 := by rw [hw0]; exact ((Below.refl _ _).alloc (Nat.le_refl _) _).alloc (by simp) _
    have HG := hide (implRange_any num w0 c0 c1)
    have fin := hide (show (if (3 : Int) = 3 then rngOut num else (6, [])) = rngOut num from if_pos rfl)
    generalize hRR : rngOut num = R at *
    obtain ⟨rc, rl⟩ := R
    clear hRR
    go_enter Tryz.func25, Tryz.ntmps25
    go_wp2_with fail
    rw [← hw0]
    clear hw0
    refine (unhide HG).mono ?_
    rintro ec wc ⟨sc, rfl, hrc, hbc⟩
    have hRc := hR.below hbc hR.lt
    have r0 := hRc.cell 0
    have r1 := hRc.cell 1
    have z0 := hRc.frozen 0
    have z1 := hRc.frozen 1
    simp only [List.getElem?_cons_zero, List.getElem?_cons_succ] at r0 r1
    have HE := hide (fun x y => Ans.store2 hrc B0 hR.lt hbc x y)
    obtain ⟨ac, mc, cc, rfl⟩ := hrc.shape
    clear hrc hbc
    go_wp2_with fail
    refine bodyPost_ret (v := .agg #[.int .i64 rc, .slice ac mc cc]) (by simp [results, Tryz.results25, go_sem, r0, r1]) rfl (ans_of (unhide fin) ((unhide HE) _ _).1 ((unhide HE) _ _).2)
  · rw [if_neg k3]
    have g1 : (kind != 3) = true := by simpa using k3
    have HB : Hid (∀ o o', Below w.heap.size w ((w.alloc o).alloc o')) := fun o o' => ((Below.refl _ _).alloc (Nat.le_refl _) o).alloc (by simp) o'
    clear k3
    go_enter Tryz.func25, Tryz.ntmps25
    go_wp2_with fail
    refine bodyPost_ret (v := .agg #[.int .i64 6, .slice none 0 0]) (by simp [results, Tryz.results25, go_sem]; try rfl) rfl (ans_of rfl ⟨by simp, .inl ⟨rfl, rfl⟩⟩ ?_)
    repeat (first | exact HB.out _ _ | refine Below.setCell ?_ (by omega) _)

set_option maxRecDepth 100000 in
set_option maxHeartbeats 8000000 in
theorem implDoNative_any (v : List M.Cl) (b off cap : Nat) (d : Int) (w : World) (hrow : Row w b off v) (hb : b < w.heap.size) (hn : v.length ≤ 1048576) (hcap : v.length ≤ cap) (hok : ∀ c ∈ v, c.ok) :
    Calls Tryz.prog 7 #[.int .i64 d, .slice (some ⟨b, off, none⟩) v.length cap] w (Ans w (doOut d v)) := by
  have OK := hide hok
  have B0 : ∀ o, Below w.heap.size w (w.alloc o) := fun o => (Below.refl _ _).alloc (Nat.le_refl _) o
  have HB0 := hide B0
  clear B0 hok
  go_enter Tryz.func7, Tryz.ntmps7
  go_wp2_with fail
  refine (implFault_any v b off cap _ (hrow.below ((unhide HB0) _) hb) (by simp; omega) hn hcap (unhide OK)).mono ?_
  rintro e1 w1 ⟨rfl, hb1⟩
  have hR : Own w1 w.heap.size 26 [.int .i64 0, .slice none 0 0] := Own.below ⟨_, heap_alloc_new _ _, rfl⟩ hb1 (by simp)
  have B1 : Below w.heap.size w w1 := ((unhide HB0) _).trans (hb1.mono (by simp))
  have hrow1 := hrow.below B1 hb
  have hb1' : b < w1.heap.size := Nat.lt_of_lt_of_le hb B1.size
  clear hb1
  by_cases hv : M.valueFault v = 0
  case neg =>
    have fin := hide (do_bad (d := d) hv)
    generalize M.valueFault v = q at *
    have hq : (q != 0) = true := by simpa using hv
    have r0 := hR.cell 0
    have r1 := hR.cell 1
    have z0 := hR.frozen 0
    have z1 := hR.frozen 1
    simp only [List.getElem?_cons_zero, List.getElem?_cons_succ] at r0 r1
    go_wp2_with fail
    refine bodyPost_ret (v := .agg #[.int .i64 q, .slice none 0 0]) (by simp [results, Tryz.results7, go_sem, r0, r1]) rfl (ans_of (unhide fin) ⟨by simp, .inl ⟨rfl, rfl⟩⟩ ((B1.setCell (Nat.le_refl _) _).setCell (Nat.le_refl _) _))
  case pos =>
  rw [hv]
  have FN := hide (do_ok (d := d) hv)
  by_cases e1 : d = 1
  case pos =>
    subst e1
    have fin := hide ((unhide FN).trans (show doIn 1 v = lenOut v from rfl))
    have HG := hide (implLengthOf_any v b off cap w1 hrow1 hb1' hn hcap (unhide OK))
    clear hv FN OK hrow1 hrow
    generalize hRR : lenOut v = R at *
    obtain ⟨rc, rl⟩ := R
    clear hRR
    go_wp2_with fail
    refine (unhide HG).mono ?_
    rintro ec wc ⟨sc, rfl, hrc, hbc⟩
    have hRc := hR.below hbc hR.lt
    have r0 := hRc.cell 0
    have r1 := hRc.cell 1
    have z0 := hRc.frozen 0
    have z1 := hRc.frozen 1
    simp only [List.getElem?_cons_zero, List.getElem?_cons_succ] at r0 r1
    have HE := hide (Ans.store hrc B1 hR.lt hbc)
    obtain ⟨ac, mc, cc, rfl⟩ := hrc.shape
    clear hrc hbc
    go_wp2_with fail
    refine bodyPost_ret (v := .agg #[.int .i64 rc, .slice ac mc cc]) (by simp [results, Tryz.results7, go_sem, r0, r1]) rfl (ans_of (unhide fin) ((unhide HE) _ _).1 ((unhide HE) _ _).2)
  by_cases e2 : d = 2
  case pos =>
    subst e2
    have fin := hide ((unhide FN).trans (show doIn 2 v = keysOut v from rfl))
    have HG := hide (implKeysOf_any v b off cap w1 hrow1 hb1' hn hcap (unhide OK))
    clear hv FN OK hrow1 hrow
    generalize hRR : keysOut v = R at *
    obtain ⟨rc, rl⟩ := R
    clear hRR
    go_wp2_with fail
    refine (unhide HG).mono ?_
    rintro ec wc ⟨sc, rfl, hrc, hbc⟩
    have hRc := hR.below hbc hR.lt
    have r0 := hRc.cell 0
    have r1 := hRc.cell 1
    have z0 := hRc.frozen 0
    have z1 := hRc.frozen 1
    simp only [List.getElem?_cons_zero, List.getElem?_cons_succ] at r0 r1
    have HE := hide (Ans.store hrc B1 hR.lt hbc)
    obtain ⟨ac, mc, cc, rfl⟩ := hrc.shape
    clear hrc hbc
    go_wp2_with fail
    refine bodyPost_ret (v := .agg #[.int .i64 rc, .slice ac mc cc]) (by simp [results, Tryz.results7, go_sem, r0, r1]) rfl (ans_of (unhide fin) ((unhide HE) _ _).1 ((unhide HE) _ _).2)
  by_cases e3 : d = 3
  case pos =>
    subst e3
    have fin := hide ((unhide FN).trans (show doIn 3 v = typOut v from rfl))
    have HG := hide (implTypeOf_any v b off cap w1 hrow1 hb1' hn hcap (unhide OK))
    clear hv FN OK hrow1 hrow
    generalize hRR : typOut v = R at *
    obtain ⟨rc, rl⟩ := R
    clear hRR
    go_wp2_with fail
    refine (unhide HG).mono ?_
    rintro ec wc ⟨sc, rfl, hrc, hbc⟩
    have hRc := hR.below hbc hR.lt
    have r0 := hRc.cell 0
    have r1 := hRc.cell 1
    have z0 := hRc.frozen 0
    have z1 := hRc.frozen 1
    simp only [List.getElem?_cons_zero, List.getElem?_cons_succ] at r0 r1
    have HE := hide (Ans.store hrc B1 hR.lt hbc)
    obtain ⟨ac, mc, cc, rfl⟩ := hrc.shape
    clear hrc hbc
    go_wp2_with fail
    refine bodyPost_ret (v := .agg #[.int .i64 rc, .slice ac mc cc]) (by simp [results, Tryz.results7, go_sem, r0, r1]) rfl (ans_of (unhide fin) ((unhide HE) _ _).1 ((unhide HE) _ _).2)
  by_cases e4 : d = 4
  case pos =>
    subst e4
    have fin := hide ((unhide FN).trans (show doIn 4 v = sortOut v from rfl))
    have HG := hide (implSortOf_any v b off cap w1 hrow1 hb1' hn hcap (unhide OK))
    clear hv FN OK hrow1 hrow
    generalize hRR : sortOut v = R at *
    obtain ⟨rc, rl⟩ := R
    clear hRR
    go_wp2_with fail
    refine (unhide HG).mono ?_
    rintro ec wc ⟨sc, rfl, hrc, hbc⟩
    have hRc := hR.below hbc hR.lt
    have r0 := hRc.cell 0
    have r1 := hRc.cell 1
    have z0 := hRc.frozen 0
    have z1 := hRc.frozen 1
    simp only [List.getElem?_cons_zero, List.getElem?_cons_succ] at r0 r1
    have HE := hide (Ans.store hrc B1 hR.lt hbc)
    obtain ⟨ac, mc, cc, rfl⟩ := hrc.shape
    clear hrc hbc
    go_wp2_with fail
    refine bodyPost_ret (v := .agg #[.int .i64 rc, .slice ac mc cc]) (by simp [results, Tryz.results7, go_sem, r0, r1]) rfl (ans_of (unhide fin) ((unhide HE) _ _).1 ((unhide HE) _ _).2)
  by_cases e5 : d = 5
  case pos =>
    subst e5
    have fin := hide ((unhide FN).trans (show doIn 5 v = sumOut v from rfl))
    have HG := hide (implAddAll_any v b off cap w1 hrow1 hb1' hn hcap (unhide OK))
    clear hv FN OK hrow1 hrow
    generalize hRR : sumOut v = R at *
    obtain ⟨rc, rl⟩ := R
    clear hRR
    go_wp2_with fail
    refine (unhide HG).mono ?_
    rintro ec wc ⟨sc, rfl, hrc, hbc⟩
    have hRc := hR.below hbc hR.lt
    have r0 := hRc.cell 0
    have r1 := hRc.cell 1
    have z0 := hRc.frozen 0
    have z1 := hRc.frozen 1
    simp only [List.getElem?_cons_zero, List.getElem?_cons_succ] at r0 r1
    have HE := hide (Ans.store hrc B1 hR.lt hbc)
    obtain ⟨ac, mc, cc, rfl⟩ := hrc.shape
    clear hrc hbc
    go_wp2_with fail
    refine bodyPost_ret (v := .agg #[.int .i64 rc, .slice ac mc cc]) (by simp [results, Tryz.results7, go_sem, r0, r1]) rfl (ans_of (unhide fin) ((unhide HE) _ _).1 ((unhide HE) _ _).2)
  by_cases e7 : d = 7
  case pos =>
    subst e7
    have fin := hide ((unhide FN).trans (show doIn 7 v = deepOut v from rfl))
    have HG := hide (implDeepOf_any v b off cap w1 hrow1 hb1' hn hcap (unhide OK))
    clear hv FN OK hrow1 hrow
    generalize hRR : deepOut v = R at *
    obtain ⟨rc, rl⟩ := R
    clear hRR
    go_wp2_with fail
    refine (unhide HG).mono ?_
    rintro ec wc ⟨sc, rfl, hrc, hbc⟩
    have hRc := hR.below hbc hR.lt
    have r0 := hRc.cell 0
    have r1 := hRc.cell 1
    have z0 := hRc.frozen 0
    have z1 := hRc.frozen 1
    simp only [List.getElem?_cons_zero, List.getElem?_cons_succ] at r0 r1
    have HE := hide (Ans.store hrc B1 hR.lt hbc)
    obtain ⟨ac, mc, cc, rfl⟩ := hrc.shape
    clear hrc hbc
    go_wp2_with fail
    refine bodyPost_ret (v := .agg #[.int .i64 rc, .slice ac mc cc]) (by simp [results, Tryz.results7, go_sem, r0, r1]) rfl (ans_of (unhide fin) ((unhide HE) _ _).1 ((unhide HE) _ _).2)
  by_cases e6 : d = 6
  case pos =>
    subst e6
    have hl1 := (M.fault_zero hv).1
    obtain ⟨f0, f1, f2, f3, f4⟩ := hrow1 0 (by omega)
    simp only [Nat.zero_mul, Nat.add_zero] at f0 f1 f2 f3 f4
    have HG := hide (rangeUpTo_any (v.getD 0 M.zero) w1 ((unhide OK) _ (getD_mem v 0 (by omega))))
    have fin := hide ((unhide FN).trans (show doIn 6 v = (if (v.getD 0 M.zero).kind = 3 then rngOut (v.getD 0 M.zero).num else (6, [])) from rfl))
    unfold M.Cl.agg at HG
    clear hv FN OK hrow1 hrow
    generalize hRR : (if (v.getD 0 M.zero).kind = 3 then rngOut (v.getD 0 M.zero).num else (6, [])) = R at *
    obtain ⟨rc, rl⟩ := R
    clear hRR
    generalize v.getD 0 M.zero = c at *
    go_wp2_with fail
    refine (unhide HG).mono ?_
    rintro ec wc ⟨sc, rfl, hrc, hbc⟩
    have hRc := hR.below hbc hR.lt
    have r0 := hRc.cell 0
    have r1 := hRc.cell 1
    have z0 := hRc.frozen 0
    have z1 := hRc.frozen 1
    simp only [List.getElem?_cons_zero, List.getElem?_cons_succ] at r0 r1
    have HE := hide (Ans.store hrc B1 hR.lt hbc)
    obtain ⟨ac, mc, cc, rfl⟩ := hrc.shape
    clear hrc hbc
    go_wp2_with fail
    refine bodyPost_ret (v := .agg #[.int .i64 rc, .slice ac mc cc]) (by simp [results, Tryz.results7, go_sem, r0, r1]) rfl (ans_of (unhide fin) ((unhide HE) _ _).1 ((unhide HE) _ _).2)
  by_cases e8 : d = 8
  case pos =>
    subst e8
    have fin := hide ((unhide FN).trans (show doIn 8 v = (1, []) from rfl))
    clear hv FN OK hrow1 hrow
    have r0 := hR.cell 0
    have r1 := hR.cell 1
    have z0 := hR.frozen 0
    have z1 := hR.frozen 1
    simp only [List.getElem?_cons_zero, List.getElem?_cons_succ] at r0 r1
    go_wp2_with fail
    refine bodyPost_ret (v := .agg #[.int .i64 1, .slice none 0 0]) (by simp [results, Tryz.results7, go_sem, r0, r1]) rfl (ans_of (unhide fin) ⟨by simp, .inl ⟨rfl, rfl⟩⟩ ((B1.setCell (Nat.le_refl _) _).setCell (Nat.le_refl _) _))
  have fin := hide ((unhide FN).trans (do_no (v := v) (by omega)))
  have g1 : (d == 1) = false := by simpa using e1
  have g2 : (d == 2) = false := by simpa using e2
  have g3 : (d == 3) = false := by simpa using e3
  have g4 : (d == 4) = false := by simpa using e4
  have g5 : (d == 5) = false := by simpa using e5
  have g6 : (d == 6) = false := by simpa using e6
  have g7 : (d == 7) = false := by simpa using e7
  have g8 : (d == 8) = false := by simpa using e8
  clear hv FN OK hrow1 hrow e1 e2 e3 e4 e5 e6 e7 e8
  have r0 := hR.cell 0
  have r1 := hR.cell 1
  have z0 := hR.frozen 0
  have z1 := hR.frozen 1
  simp only [List.getElem?_cons_zero, List.getElem?_cons_succ] at r0 r1
  go_wp2_with fail
  refine bodyPost_ret (v := .agg #[.int .i64 3, .slice none 0 0]) (by simp [results, Tryz.results7, go_sem, r0, r1]) rfl (ans_of (unhide fin) ⟨by simp, .inl ⟨rfl, rfl⟩⟩ ((B1.setCell (Nat.le_refl _) _).setCell (Nat.le_refl _) _))

set_option maxRecDepth 100000 in
set_option maxHeartbeats 8000000 in
theorem l6Do_any (v : List M.Cl) (b off cap : Nat) (d : Int) (w : World) (hv : M.valueFault v = 0) (hrow : Row w b off v) (hb : b < w.heap.size) (hcap : v.length ≤ cap) (hok : ∀ c ∈ v, c.ok) (n0 : 1 ≤ d) (n1 : d ≤ 8) :
    Calls Tryz.prog 17 #[.int .i64 d, .slice (some ⟨b, off, none⟩) v.length cap] w (Ans w (doIn d v)) := by
  have OK := hide hok
  clear hok
  obtain ⟨w1, hw1⟩ : ∃ w1, w1 = w.alloc (.cells #[.int .i64 0, .slice none 0 0] 26) := ⟨_, rfl⟩
  have hR : Own w1 w.heap.size 26 [.int .i64 0, .slice none 0 0] := by rw [hw1]; exact ⟨_, heap_alloc_new _ _, rfl⟩
  have B1 : Below w.heap.size w w1 := by rw [hw1]; exact (Below.refl _ _).alloc (Nat.le_refl _) _
  have hrow1 := hrow.below B1 hb
  have hb1' : b < w1.heap.size := Nat.lt_of_lt_of_le hb B1.size
  by_cases e1 : d = 1
  case pos =>
    subst e1
    have fin := hide ((show doIn 1 v = lenOut v from rfl).trans (len_ok hv))
    have HG := hide (l3Length_any v b off cap w1 hv hrow1 hb1' hcap (unhide OK))
    clear hv OK hrow1 hrow n0 n1
    generalize hRR : lenIn (v.getD 0 M.zero) = R at *
    obtain ⟨rc, rl⟩ := R
    clear hRR
    go_enter Tryz.func17, Tryz.ntmps17
    go_wp2_with fail
    rw [← hw1]
    refine (unhide HG).mono ?_
    rintro ec wc ⟨sc, rfl, hrc, hbc⟩
    have hRc := hR.below hbc hR.lt
    have r0 := hRc.cell 0
    have r1 := hRc.cell 1
    have z0 := hRc.frozen 0
    have z1 := hRc.frozen 1
    simp only [List.getElem?_cons_zero, List.getElem?_cons_succ] at r0 r1
    have HE := hide (Ans.store hrc B1 hR.lt hbc)
    obtain ⟨ac, mc, cc, rfl⟩ := hrc.shape
    clear hrc hbc
    go_wp2_with fail
    refine bodyPost_ret (v := .agg #[.int .i64 rc, .slice ac mc cc]) (by simp [results, Tryz.results17, go_sem, r0, r1]) rfl (ans_of (unhide fin) ((unhide HE) _ _).1 ((unhide HE) _ _).2)
  by_cases e2 : d = 2
  case pos =>
    subst e2
    have fin := hide ((show doIn 2 v = keysOut v from rfl).trans (keys_ok hv))
    have HG := hide (l3Keys_any v b off cap w1 hv hrow1 hb1' hcap (unhide OK))
    clear hv OK hrow1 hrow n0 n1
    generalize hRR : keysL v = R at *
    obtain ⟨rc, rl⟩ := R
    clear hRR
    go_enter Tryz.func17, Tryz.ntmps17
    go_wp2_with fail
    rw [← hw1]
    refine (unhide HG).mono ?_
    rintro ec wc ⟨sc, rfl, hrc, hbc⟩
    have hRc := hR.below hbc hR.lt
    have r0 := hRc.cell 0
    have r1 := hRc.cell 1
    have z0 := hRc.frozen 0
    have z1 := hRc.frozen 1
    simp only [List.getElem?_cons_zero, List.getElem?_cons_succ] at r0 r1
    have HE := hide (Ans.store hrc B1 hR.lt hbc)
    obtain ⟨ac, mc, cc, rfl⟩ := hrc.shape
    clear hrc hbc
    go_wp2_with fail
    refine bodyPost_ret (v := .agg #[.int .i64 rc, .slice ac mc cc]) (by simp [results, Tryz.results17, go_sem, r0, r1]) rfl (ans_of (unhide fin) ((unhide HE) _ _).1 ((unhide HE) _ _).2)
  by_cases e3 : d = 3
  case pos =>
    subst e3
    have fin := hide ((show doIn 3 v = typOut v from rfl).trans (typ_ok hv))
    have HG := hide (l3Type_any v b off cap w1 hv hrow1 hb1' hcap (unhide OK))
    clear hv OK hrow1 hrow n0 n1
    generalize hRR : typIn (v.getD 0 M.zero) = R at *
    obtain ⟨rc, rl⟩ := R
    clear hRR
    go_enter Tryz.func17, Tryz.ntmps17
    go_wp2_with fail
    rw [← hw1]
    refine (unhide HG).mono ?_
    rintro ec wc ⟨sc, rfl, hrc, hbc⟩
    have hRc := hR.below hbc hR.lt
    have r0 := hRc.cell 0
    have r1 := hRc.cell 1
    have z0 := hRc.frozen 0
    have z1 := hRc.frozen 1
    simp only [List.getElem?_cons_zero, List.getElem?_cons_succ] at r0 r1
    have HE := hide (Ans.store hrc B1 hR.lt hbc)
    obtain ⟨ac, mc, cc, rfl⟩ := hrc.shape
    clear hrc hbc
    go_wp2_with fail
    refine bodyPost_ret (v := .agg #[.int .i64 rc, .slice ac mc cc]) (by simp [results, Tryz.results17, go_sem, r0, r1]) rfl (ans_of (unhide fin) ((unhide HE) _ _).1 ((unhide HE) _ _).2)
  by_cases e4 : d = 4
  case pos =>
    subst e4
    have fin := hide ((show doIn 4 v = sortOut v from rfl).trans (sort_ok hv))
    have HG := hide (l3Sort_anyD v b off cap w1 hv hrow1 hb1' hcap (unhide OK))
    clear hv OK hrow1 hrow n0 n1
    generalize hRR : sortIn v = R at *
    obtain ⟨rc, rl⟩ := R
    clear hRR
    go_enter Tryz.func17, Tryz.ntmps17
    go_wp2_with fail
    rw [← hw1]
    refine (unhide HG).mono ?_
    rintro ec wc ⟨sc, rfl, hrc, hbc⟩
    have hRc := hR.below hbc hR.lt
    have r0 := hRc.cell 0
    have r1 := hRc.cell 1
    have z0 := hRc.frozen 0
    have z1 := hRc.frozen 1
    simp only [List.getElem?_cons_zero, List.getElem?_cons_succ] at r0 r1
    have HE := hide (Ans.store hrc B1 hR.lt hbc)
    obtain ⟨ac, mc, cc, rfl⟩ := hrc.shape
    clear hrc hbc
    go_wp2_with fail
    refine bodyPost_ret (v := .agg #[.int .i64 rc, .slice ac mc cc]) (by simp [results, Tryz.results17, go_sem, r0, r1]) rfl (ans_of (unhide fin) ((unhide HE) _ _).1 ((unhide HE) _ _).2)
  by_cases e5 : d = 5
  case pos =>
    subst e5
    have fin := hide ((show doIn 5 v = sumOut v from rfl))
    have HG := hide (l3Sum_any v b off cap w1 hv hrow1 hb1' hcap (unhide OK))
    clear hv OK hrow1 hrow n0 n1
    generalize hRR : sumOut v = R at *
    obtain ⟨rc, rl⟩ := R
    clear hRR
    go_enter Tryz.func17, Tryz.ntmps17
    go_wp2_with fail
    rw [← hw1]
    refine (unhide HG).mono ?_
    rintro ec wc ⟨sc, rfl, hrc, hbc⟩
    have hRc := hR.below hbc hR.lt
    have r0 := hRc.cell 0
    have r1 := hRc.cell 1
    have z0 := hRc.frozen 0
    have z1 := hRc.frozen 1
    simp only [List.getElem?_cons_zero, List.getElem?_cons_succ] at r0 r1
    have HE := hide (Ans.store hrc B1 hR.lt hbc)
    obtain ⟨ac, mc, cc, rfl⟩ := hrc.shape
    clear hrc hbc
    go_wp2_with fail
    refine bodyPost_ret (v := .agg #[.int .i64 rc, .slice ac mc cc]) (by simp [results, Tryz.results17, go_sem, r0, r1]) rfl (ans_of (unhide fin) ((unhide HE) _ _).1 ((unhide HE) _ _).2)
  by_cases e7 : d = 7
  case pos =>
    subst e7
    have fin := hide ((show doIn 7 v = deepOut v from rfl).trans (dpo_ok hv))
    have HG := hide (l6Deep_any v b off cap w1 hv hrow1 hb1' hcap (unhide OK))
    clear hv OK hrow1 hrow n0 n1
    generalize hRR : deepIn v = R at *
    obtain ⟨rc, rl⟩ := R
    clear hRR
    go_enter Tryz.func17, Tryz.ntmps17
    go_wp2_with fail
    rw [← hw1]
    refine (unhide HG).mono ?_
    rintro ec wc ⟨sc, rfl, hrc, hbc⟩
    have hRc := hR.below hbc hR.lt
    have r0 := hRc.cell 0
    have r1 := hRc.cell 1
    have z0 := hRc.frozen 0
    have z1 := hRc.frozen 1
    simp only [List.getElem?_cons_zero, List.getElem?_cons_succ] at r0 r1
    have HE := hide (Ans.store hrc B1 hR.lt hbc)
    obtain ⟨ac, mc, cc, rfl⟩ := hrc.shape
    clear hrc hbc
    go_wp2_with fail
    refine bodyPost_ret (v := .agg #[.int .i64 rc, .slice ac mc cc]) (by simp [results, Tryz.results17, go_sem, r0, r1]) rfl (ans_of (unhide fin) ((unhide HE) _ _).1 ((unhide HE) _ _).2)
  by_cases e6 : d = 6
  case pos =>
    subst e6
    have hl1 := (M.fault_zero hv).1
    obtain ⟨f0, f1, f2, f3, f4⟩ := hrow1 0 (by omega)
    simp only [Nat.zero_mul, Nat.add_zero] at f0 f1 f2 f3 f4
    rw [hw1] at f0 f1
    have hbd := (unhide OK) _ (getD_mem v 0 (by omega))
    have fin0 := hide (show doIn 6 v = (if (v.getD 0 M.zero).kind = 3 then rngOut (v.getD 0 M.zero).num else (6, [])) from rfl)
    have HG := hide (specRange_any (v.getD 0 M.zero).num w1 hbd.2.1.1 hbd.2.1.2)
    clear hv OK hrow1 hrow n0 n1 f2 f3 f4 hbd
    generalize v.getD 0 M.zero = c at *
    by_cases k3 : c.kind = 3
    · have fin := hide ((unhide fin0).trans (if_pos k3))
      rw [k3] at f0
      clear k3
      generalize hRR : rngOut c.num = R at *
      obtain ⟨rc, rl⟩ := R
      clear hRR
      go_enter Tryz.func17, Tryz.ntmps17
      go_wp2_with fail
      rw [← hw1]
      refine (unhide HG).mono ?_
      rintro ec wc ⟨sc, rfl, hrc, hbc⟩
      have hRc := hR.below hbc hR.lt
      have r0 := hRc.cell 0
      have r1 := hRc.cell 1
      have z0 := hRc.frozen 0
      have z1 := hRc.frozen 1
      simp only [List.getElem?_cons_zero, List.getElem?_cons_succ] at r0 r1
      have HE := hide (Ans.store hrc B1 hR.lt hbc)
      obtain ⟨ac, mc, cc, rfl⟩ := hrc.shape
      clear hrc hbc
      go_wp2_with fail
      refine bodyPost_ret (v := .agg #[.int .i64 rc, .slice ac mc cc]) (by simp [results, Tryz.results17, go_sem, r0, r1]) rfl (ans_of (unhide fin) ((unhide HE) _ _).1 ((unhide HE) _ _).2)
    · have fin := hide ((unhide fin0).trans (if_neg k3))
      have g1 : (c.kind != 3) = true := by simpa using k3
      clear k3
      go_enter Tryz.func17, Tryz.ntmps17
      go_wp2_with fail
      rw [← hw1]
      refine (l3Bad_any _ _).mono ?_
      rintro ec wc ⟨sc, rfl, hrc, hbc⟩
      have hRc := hR.below hbc hR.lt
      have r0 := hRc.cell 0
      have r1 := hRc.cell 1
      have z0 := hRc.frozen 0
      have z1 := hRc.frozen 1
      simp only [List.getElem?_cons_zero, List.getElem?_cons_succ] at r0 r1
      have HE := hide (Ans.store hrc B1 hR.lt hbc)
      obtain ⟨ac, mc, cc, rfl⟩ := hrc.shape
      clear hrc hbc
      go_wp2_with fail
      refine bodyPost_ret (v := .agg #[.int .i64 6, .slice ac mc cc]) (by simp [results, Tryz.results17, go_sem, r0, r1]) rfl (ans_of (unhide fin) ((unhide HE) _ _).1 ((unhide HE) _ _).2)
  obtain rfl : d = 8 := by omega
  have fin := hide (show doIn 8 v = (1, []) from rfl)
  clear hv OK hrow1 hrow n0 n1
  go_enter Tryz.func17, Tryz.ntmps17
  go_wp2_with fail
  rw [← hw1]
  refine (l3Bad_any _ _).mono ?_
  rintro ec wc ⟨sc, rfl, hrc, hbc⟩
  have hRc := hR.below hbc hR.lt
  have r0 := hRc.cell 0
  have r1 := hRc.cell 1
  have z0 := hRc.frozen 0
  have z1 := hRc.frozen 1
  simp only [List.getElem?_cons_zero, List.getElem?_cons_succ] at r0 r1
  have HE := hide (Ans.store hrc B1 hR.lt hbc)
  obtain ⟨ac, mc, cc, rfl⟩ := hrc.shape
  clear hrc hbc
  go_wp2_with fail
  refine bodyPost_ret (v := .agg #[.int .i64 1, .slice ac mc cc]) (by simp [results, Tryz.results17, go_sem, r0, r1]) rfl (ans_of (unhide fin) ((unhide HE) _ _).1 ((unhide HE) _ _).2)

set_option maxRecDepth 100000 in
set_option maxHeartbeats 8000000 in
theorem specDoNative_any (v : List M.Cl) (b off cap : Nat) (d : Int) (w : World) (hrow : Row w b off v) (hb : b < w.heap.size) (hn : v.length ≤ 1048576) (hcap : v.length ≤ cap) (hok : ∀ c ∈ v, c.ok) :
    Calls Tryz.prog 5 #[.int .i64 d, .slice (some ⟨b, off, none⟩) v.length cap] w (Ans w (doOut d v)) := by
  have OK := hide hok
  have B0 : ∀ o, Below w.heap.size w (w.alloc o) := fun o => (Below.refl _ _).alloc (Nat.le_refl _) o
  have HB0 := hide B0
  clear B0 hok
  go_enter Tryz.func5, Tryz.ntmps5
  go_wp2_with fail
  refine (specFault_any v b off cap _ (hrow.below ((unhide HB0) _) hb) (by simp; omega) hn hcap (unhide OK)).mono ?_
  rintro e1 w1 ⟨rfl, hb1⟩
  have hR : Own w1 w.heap.size 26 [.int .i64 0, .slice none 0 0] := Own.below ⟨_, heap_alloc_new _ _, rfl⟩ hb1 (by simp)
  have B1 : Below w.heap.size w w1 := ((unhide HB0) _).trans (hb1.mono (by simp))
  have hrow1 := hrow.below B1 hb
  have hb1' : b < w1.heap.size := Nat.lt_of_lt_of_le hb B1.size
  clear hb1
  by_cases hv : M.valueFault v = 0
  case neg =>
    have fin := hide (do_bad (d := d) hv)
    generalize M.valueFault v = q at *
    have hq : (q != 0) = true := by simpa using hv
    go_wp2_with fail
    refine (l3Bad_any _ _).mono ?_
    rintro ec wc ⟨sc, rfl, hrc, hbc⟩
    have hRc := hR.below hbc hR.lt
    have r0 := hRc.cell 0
    have r1 := hRc.cell 1
    have z0 := hRc.frozen 0
    have z1 := hRc.frozen 1
    simp only [List.getElem?_cons_zero, List.getElem?_cons_succ] at r0 r1
    have HE := hide (Ans.store hrc B1 hR.lt hbc)
    obtain ⟨ac, mc, cc, rfl⟩ := hrc.shape
    clear hrc hbc
    go_wp2_with fail
    refine bodyPost_ret (v := .agg #[.int .i64 q, .slice ac mc cc]) (by simp [results, Tryz.results5, go_sem, r0, r1]) rfl (ans_of (unhide fin) ((unhide HE) _ _).1 ((unhide HE) _ _).2)
  case pos =>
  rw [hv]
  have FN := hide (do_ok (d := d) hv)
  by_cases hd : 1 ≤ d ∧ d ≤ 8
  · have HG := hide (l6Do_any v b off cap d w1 hv hrow1 hb1' hcap (unhide OK) hd.1 hd.2)
    have fin := FN
    clear hv OK hrow1 hrow FN
    generalize hRR : doIn d v = R at *
    obtain ⟨rc, rl⟩ := R
    clear hRR
    go_wp2_with fail
    refine (l1In_yes d 1 8 _ hd.1 hd.2).mono ?_
    rintro e2 w2 ⟨rfl, hw2⟩
    subst w2
    go_wp2_with fail
    refine (unhide HG).mono ?_
    rintro ec wc ⟨sc, rfl, hrc, hbc⟩
    have hRc := hR.below hbc hR.lt
    have r0 := hRc.cell 0
    have r1 := hRc.cell 1
    have z0 := hRc.frozen 0
    have z1 := hRc.frozen 1
    simp only [List.getElem?_cons_zero, List.getElem?_cons_succ] at r0 r1
    have HE := hide (Ans.store hrc B1 hR.lt hbc)
    obtain ⟨ac, mc, cc, rfl⟩ := hrc.shape
    clear hrc hbc
    go_wp2_with fail
    refine bodyPost_ret (v := .agg #[.int .i64 rc, .slice ac mc cc]) (by simp [results, Tryz.results5, go_sem, r0, r1]) rfl (ans_of (unhide fin) ((unhide HE) _ _).1 ((unhide HE) _ _).2)
  · have fin := hide ((unhide FN).trans (do_no (v := v) (by omega)))
    clear hv OK hrow1 hrow FN
    go_wp2_with fail
    refine (l1In_no d 1 8 _ (by omega)).mono ?_
    rintro e2 w2 ⟨rfl, hw2⟩
    subst w2
    go_wp2_with fail
    refine (l3Bad_any _ _).mono ?_
    rintro ec wc ⟨sc, rfl, hrc, hbc⟩
    have hRc := hR.below hbc hR.lt
    have r0 := hRc.cell 0
    have r1 := hRc.cell 1
    have z0 := hRc.frozen 0
    have z1 := hRc.frozen 1
    simp only [List.getElem?_cons_zero, List.getElem?_cons_succ] at r0 r1
    have HE := hide (Ans.store hrc B1 hR.lt hbc)
    obtain ⟨ac, mc, cc, rfl⟩ := hrc.shape
    clear hrc hbc
    go_wp2_with fail
    refine bodyPost_ret (v := .agg #[.int .i64 3, .slice ac mc cc]) (by simp [results, Tryz.results5, go_sem, r0, r1]) rfl (ans_of (unhide fin) ((unhide HE) _ _).1 ((unhide HE) _ _).2)

end Go.Proofs.YtcolohilnmikiaaGreat
