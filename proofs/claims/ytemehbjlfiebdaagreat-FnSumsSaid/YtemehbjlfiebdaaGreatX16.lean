/-
  Lists of lists of cells and lists of texts, wherever their slices lie: what those are told that read them.
  Answers that tell a code and a value, and the small makers of them.
  An answer that holds lists of cells: what the laws' helpers find, mark and find again in it.
  spec.EachOf and impl.EachOf.
-/
import Derived.Test.YtemehbjlfiebdaaGreatX03
import Derived.Test.YtemehbjlfiebdaaGreatX11
import Derived.Test.YtemehbjlfiebdaaGreatX13
import Derived.Test.YtemehbjlfiebdaaGreatX14
import Derived.Test.YtemehbjlfiebdaaGreatX15
import Derived.Deep.RegionHeld
import Derived.Deep.Slices
namespace Go.Proofs.YtemehbjlfiebdaaGreat
open Go.RowKit
set_option linter.unusedVariables false

/-- The slice from a on holds slices, the i-th of which holds the cells of the i-th list. -/
def LV (w : World) (a : Option Addr) (ps : List (List M.Cl)) : Prop :=
  ∀ i, i < ps.length → ∃ g b off c, a = some ⟨g, 0, none⟩ ∧ g < w.heap.size ∧ w.cell? ⟨g, i, none⟩ = some (.slice (some ⟨b, off, none⟩) (ps.getD i []).length c) ∧ (ps.getD i []).length ≤ c ∧ b < w.heap.size ∧ Row w b off (ps.getD i [])
theorem LV.below {w w' : World} {a : Option Addr} {ps : List (List M.Cl)} (h : LV w a ps) (hb : Below w.heap.size w w') : LV w' a ps := by
  intro i hi
  obtain ⟨g, b, off, c, rfl, h1, h2, h3, h4, h5⟩ := h i hi
  exact ⟨g, b, off, c, rfl, Nat.lt_of_lt_of_le h1 hb.size, (hb.cell h1).trans h2, h3, Nat.lt_of_lt_of_le h4 hb.size, h5.below hb h4⟩
/-- The slice from a on holds the texts. -/
def TV (w : World) (a : Option Addr) (ks : List ByteArray) : Prop := ∀ i, i < ks.length → ∃ g, a = some ⟨g, 0, none⟩ ∧ g < w.heap.size ∧ w.cell? ⟨g, i, none⟩ = some (.string (ks.getD i ByteArray.empty))
theorem row_at {w : World} {base g cap n : Nat} {e : TypeId} {cur : Array Value} {xs : List Value} {i : Nat} (hh : w.heap[g]? = some (.cells cur e (0, 0))) (ht : cur.toList.take (n * 1) = xs) (hi : i < n) : w.cell? ⟨g, i, none⟩ = xs[i]? := by
  rw [cell_of_row w g i cur e (0, 0) hh]
  have h3 : cur.toList[i]? = xs[i]? := by rw [← ht, List.getElem?_take, if_pos (by omega)]
  have h4 : cur[i]? = cur.toList[i]? := by simp
  rw [h4, h3]

theorem SS.lv {w : World} {B : Nat} {v : Value} {ps : List (List M.Cl)} (h : SS w B v ps) (hne : ∀ i, i < ps.length → ps.getD i [] ≠ []) : ∃ a c, v = .slice a ps.length c ∧ ps.length ≤ c ∧ LV w a ps := by
  obtain ⟨ss, hl, ho, hr⟩ := h
  obtain ⟨_, ⟨rfl, h0⟩ | ⟨g, cap, cur, rfl, hg, hh, hnc, hcm, hcs, ht⟩⟩ := ho
  · exact ⟨none, 0, by rw [h0], by omega, fun i hi => by omega⟩
  · refine ⟨_, cap, rfl, hnc, fun i hi => ?_⟩
    obtain ⟨b, c, e, hc, hO⟩ := res_any (hr i hi) (hne i hi)
    refine ⟨g, b, 0, c, rfl, (Array.getElem?_eq_some_iff.1 hh).1, ?_, hc, hO.lt, hO.row⟩
    rw [row_at (base := 0) (cap := 0) hh ht hi, List.getElem?_eq_getElem (by omega)]
    rw [List.getD_eq_getElem?_getD, List.getElem?_eq_getElem (by omega)] at e
    simp only [Option.getD_some] at e
    rw [e]
theorem KS.tv {w : World} {B : Nat} {v : Value} {ks : List ByteArray} (h : KS w B v ks) : ∃ a c, v = .slice a ks.length c ∧ ks.length ≤ c ∧ TV w a ks := by
  obtain ⟨_, ⟨rfl, h0⟩ | ⟨g, cap, cur, rfl, hg, hh, hnc, hcm, hcs, ht⟩⟩ := h
  · exact ⟨none, 0, by rw [h0], by omega, fun i hi => by omega⟩
  · refine ⟨_, cap, rfl, hnc, fun i hi => ⟨g, rfl, (Array.getElem?_eq_some_iff.1 hh).1, ?_⟩⟩
    rw [row_at (base := 0) (cap := 0) hh ht hi, List.getElem?_map, List.getElem?_eq_getElem hi, List.getD_eq_getElem?_getD, List.getElem?_eq_getElem hi]
    rfl

/-- What a part of a value without a fault is. -/
theorem subs_all {v : List M.Cl} (hv : M.valueFault v = 0) (hok : ∀ c ∈ v, c.ok) : (subs v 0).length ≤ 200 ∧ (∀ j, j < (subs v 0).length → M.valueFault ((subs v 0).getD j []) = 0) ∧ OkS (subs v 0) ∧ ∀ j, j < (subs v 0).length → (subs v 0).getD j [] ≠ [] := by
  have hl := (M.fault_zero hv).1
  have hmem : ∀ j, j < (subs v 0).length → (subs v 0).getD j [] ∈ subs v 0 := fun j hj => by
    rw [List.getD_eq_getElem?_getD, List.getElem?_eq_getElem hj]; exact List.getElem_mem hj
  have h1 : ∀ j, j < (subs v 0).length → M.valueFault ((subs v 0).getD j []) = 0 := fun j hj => (subs_ok hv hok (by omega) _ (hmem j hj)).1
  refine ⟨by rw [subs_length]; exact (M.places_in hv 0 (by omega)).2.2.2, h1, fun j hj => (subs_ok hv hok (by omega) _ (hmem j hj)).2.2, fun j hj e => ?_⟩
  have := (fault_len (h1 j hj)).1
  rw [e] at this
  simp at this

set_option maxHeartbeats 1000000 in
theorem firstFaultV_any (a : Option Addr) (cap : Nat) (ps : List (List M.Cl)) (w : World) (hL : LV w a ps) (hcap : ps.length ≤ cap) (hn : ps.length ≤ 1048576) (hln : ∀ j, j < ps.length → (ps.getD j []).length ≤ 1048576) (hok : OkS ps) :
    Calls Tryz.prog 20 #[.slice a ps.length cap] w fun e w' => e = .returned (.int .i64 (firstBad ps)) ∧ Below w.heap.size w w' := by
  have HL := hide hL
  have OK := hide hok
  have HN := hide hln
  clear hL hok hln
  go_enter Tryz.func20, Tryz.ntmps20
  go_wp2_with fail
  go_loopg [8] ps.length (fun gh s8 wr => ∃ k : Nat, Hid (gh = ps.length - k) ∧ s8 = .int .i64 k ∧ k ≤ ps.length ∧ Hid (∀ j, j < k → M.valueFault (ps.getD j []) = 0) ∧ Below w.heap.size w wr)
  case atStart => exact ⟨0, rfl, rfl, by omega, fun j hj => absurd hj (by omega), Below.refl _ _⟩
  case round =>
    obtain ⟨k, hg, rfl, hk, hall, hbel⟩ := hrel
    by_cases hlt : k < ps.length
    · obtain ⟨g, b, off, c, rfl, hgl, f0, hc, hb, hr⟩ := ((unhide HL).below hbel) k hlt
      have hq := (unhide HN) k hlt
      have hok := hide ((unhide OK) k hlt)
      have hhit := hide (fun hz => firstBad_hit ps k hall.out hlt hz)
      have hnext := hide (fun (h0 : M.valueFault (ps.getD k []) = 0) j (hj : j < k + 1) => show M.valueFault (ps.getD j []) = 0 by
        by_cases e : j = k
        · subst e; exact h0
        · exact hall.out j (by omega))
      generalize ps.getD k [] = p at *
      go_wp2_with fail
      refine (implFault_any p b off c _ hr hb hq hc (unhide hok)).mono ?_
      rintro e1 w1 ⟨rfl, hb1⟩
      have B1 : Below w.heap.size w w1 := hbel.trans (hb1.mono hbel.size)
      clear hr f0 hok hb1 hbel
      generalize hqq : M.valueFault p = q at *
      by_cases hz : q = 0
      · subst hz
        have hn2 := hide ((unhide hnext) rfl)
        clear hhit hnext
        go_wp2_with fail
        go_roundg (ps.length - (k + 1))
        case rel => exact ⟨k + 1, rfl, by go_num, by omega, unhide hn2, B1⟩
        case measure => have := hg.out; omega
      · have fin := hide ((unhide hhit) hz)
        have hz' : (q == 0) = false := by simp [hz]
        clear hhit hnext hqq
        go_wp2_with fail
        go_ret
        exact ⟨ret_int (unhide fin).symm, B1⟩
    · have hke : k = ps.length := by omega
      have fin := hide (firstBad_none ps (by rw [← hke]; exact hall.out))
      clear hke
      go_wp2_with fail
      go_ret
      exact ⟨ret_int (unhide fin).symm, hbel⟩

end Go.Proofs.YtemehbjlfiebdaaGreat

namespace Go.Proofs.YtemehbjlfiebdaaGreat
open Go.RowKit
set_option linter.unusedVariables false

/-- The call told the code and the cells of out, these in memory of their own. -/
def Ans (w : World) (out : Int × List M.Cl) (e : Ending) (w' : World) : Prop := ∃ s, e = .returned (.agg #[.int .i64 out.1, s]) ∧ Res w' w.heap.size s out.2 ∧ Below w.heap.size w w'
theorem ans_of {w w' : World} {out : Int × List M.Cl} {c : Int} {s : Value} {l : List M.Cl} (fin : out = (c, l)) (hr : Res w' w.heap.size s l) (hb : Below w.heap.size w w') : Ans w out (.returned (.agg #[.int .i64 c, s])) w' := by
  subst fin; exact ⟨s, rfl, hr, hb⟩
theorem resNil (w : World) (B : Nat) : Res w B (.slice none 0 0) [] := ⟨by simp, .inl ⟨rfl, rfl⟩⟩
/-- What was told is stored into the call's own answer. -/
theorem Ans.store {w w1 w2 : World} {s : Value} {l : List M.Cl} (hr : Res w2 w1.heap.size s l) (B1 : Below w.heap.size w w1) (hsz : w.heap.size < w1.heap.size) (hb : Below w1.heap.size w1 w2) (x y : Value) :
    Res ((w2.setCell ⟨w.heap.size, 0, none⟩ x).setCell ⟨w.heap.size, 1, none⟩ y) w.heap.size s l ∧ Below w.heap.size w ((w2.setCell ⟨w.heap.size, 0, none⟩ x).setCell ⟨w.heap.size, 1, none⟩ y) := by
  have hne : ∀ b, s.ownBlock = some b → b ≠ w.heap.size := fun b h => by have := hr.base b h; omega
  exact ⟨((hr.mono B1.size).setOther _ _ hne).setOther _ _ hne, ((B1.trans (hb.mono B1.size)).setCell (Nat.le_refl _) _).setCell (Nat.le_refl _) _⟩
theorem store_below {w w1 : World} (B1 : Below w.heap.size w w1) (x y : Value) : Below w.heap.size w ((w1.setCell ⟨w.heap.size, 0, none⟩ x).setCell ⟨w.heap.size, 1, none⟩ y) := (B1.setCell (Nat.le_refl _) _).setCell (Nat.le_refl _) _

/-- A row of one cell, laid by a literal. -/
theorem one_cell (w : World) (B b : Nat) (c : M.Cl) (hb : b = w.heap.size) (hB : B ≤ w.heap.size) : Res (w.alloc (.cells #[.int .i64 c.kind, .int .i64 c.num, .string c.text, .string c.key, .int .i64 c.n] 33)) B (.slice (some ⟨b, 0, none⟩) 1 1) [c] := by
  subst hb
  refine ⟨by simp, .inr ⟨w.heap.size, 1, rfl, hB, by simp, ⟨_, ⟨_, heap_alloc_new _ _, rfl⟩, by simp, fun i hi => ?_⟩⟩⟩
  simp only [List.length_cons, List.length_nil] at hi
  obtain rfl : i = 0 := by omega
  exact ⟨rfl, rfl, rfl, rfl, rfl⟩

set_option maxHeartbeats 400000 in
theorem l3Bad_any (c : Int) (w : World) : Calls Tryz.prog 23 #[.int .i64 c] w (Ans w (c, [])) := by
  go_enter Tryz.func23, Tryz.ntmps23
  go_wp2_with fail
  refine bodyPost_ret (v := .agg #[.int .i64 c, .slice none 0 0]) (by simp [results, Tryz.results23, go_sem]) rfl (ans_of rfl (resNil _ _) ((Below.refl _ _).alloc (Nat.le_refl _) _))

set_option maxHeartbeats 400000 in
theorem nullResult_any (w : World) : Calls Tryz.prog 60 #[] w (Ans w (0, [M.zero])) := by
  go_enter Tryz.func60, Tryz.ntmps60
  go_wp2_with fail
  refine bodyPost_ret (v := .agg #[.int .i64 0, .slice (some ⟨w.heap.size + 1, 0, none⟩) 1 1]) (by simp [results, Tryz.results60, go_sem]) rfl (ans_of rfl ?_ ?_)
  · exact one_cell (w.alloc _) w.heap.size (w.heap.size + 1) M.zero (by simp) (by simp)
  · exact ((Below.refl _ _).alloc (Nat.le_refl _) _).alloc (by simp) _

end Go.Proofs.YtemehbjlfiebdaaGreat

namespace Go.Proofs.YtemehbjlfiebdaaGreat
open Go.RowKit
set_option linter.unusedVariables false

/-- All but what lies from block lo on and ahead of block hi is as it was. -/
structure Out (lo hi : Nat) (w w' : World) : Prop where
  os : w'.os = w.os
  tape : w'.tape = w.tape
  output : w'.output = w.output
  size : w.heap.size ≤ w'.heap.size
  block : ∀ k, k < w.heap.size → (k < lo ∨ hi ≤ k) → w'.heap[k]? = w.heap[k]?
/-- The same, without a word of what is shared. -/
def PS (w : World) (lo hi : Nat) (v : Value) (ps : List (List M.Cl)) : Prop :=
  (v = .slice none 0 0 ∧ ps = []) ∨ ∃ (g cap : Nat) (xs : List Value) (β γ : Nat → Nat), v = .slice (some ⟨g, 0, none⟩) ps.length cap ∧ ps.length ≤ cap ∧ lo ≤ g ∧ g < hi ∧ Own w g 24 xs ∧
    (∀ i, i < ps.length → xs[i]? = some (.slice (some ⟨β i, 0, none⟩) (ps.getD i []).length (γ i)) ∧ (ps.getD i []).length ≤ γ i ∧ lo ≤ β i ∧ β i < hi ∧ OwnG w (β i) 33 (ps.getD i []))
theorem SS.ps {w : World} {B : Nat} {v : Value} {ps : List (List M.Cl)} (h : SS w B v ps) (hne : ∀ i, i < ps.length → ps.getD i [] ≠ []) : PS w B w.heap.size v ps := by
  obtain ⟨ss, hl, ho, hr⟩ := h
  obtain ⟨_, ⟨rfl, h0⟩ | ⟨g, cap, cur, rfl, hg, hh, hnc, hcm, hcs, ht⟩⟩ := ho
  · exact .inl ⟨rfl, List.length_eq_zero_iff.1 h0⟩
  · haveI : Inhabited (Nat × Nat) := ⟨(0, 0)⟩
    obtain ⟨σ, hσ⟩ := Go.Deep.choose_lt (n := ps.length) (p := fun i (t : Nat × Nat) => ss.getD i (.slice none 0 0) = .slice (some ⟨t.1, 0, none⟩) (ps.getD i []).length t.2 ∧ (ps.getD i []).length ≤ t.2 ∧ B ≤ t.1 ∧ OwnG w t.1 33 (ps.getD i [])) (fun i hi => by
      obtain ⟨_, ⟨_, e⟩ | ⟨b, c, h1, h2, h3, h4⟩⟩ := hr i hi
      · exact absurd e (hne i hi)
      · exact ⟨(b, c), h1, h3, h2, h4⟩)
    refine .inr ⟨g, cap, cur.toList, fun i => (σ i).1, fun i => (σ i).2, rfl, hnc, hg, (Array.getElem?_eq_some_iff.1 hh).1, ⟨cur, hh, rfl⟩, fun i hi => ⟨?_, (hσ i hi).2.1, (hσ i hi).2.2.1, (hσ i hi).2.2.2.lt, (hσ i hi).2.2.2⟩⟩
    have h3 : cur.toList[i]? = ss[i]? := by rw [← ht, List.getElem?_take, if_pos (by omega)]
    have e := (hσ i hi).1
    rw [List.getD_eq_getElem?_getD, List.getElem?_eq_getElem (by omega)] at e
    simp only [Option.getD_some] at e
    rw [h3, List.getElem?_eq_getElem (by omega), e]
end Go.Proofs.YtemehbjlfiebdaaGreat

namespace Go.Proofs.YtemehbjlfiebdaaGreat
open Go.RowKit
set_option linter.unusedVariables false

theorem heap_setCell2 (w : World) (b : Nat) (x y : Value) (k : Nat) (hk : k ≠ b) : ((w.setCell ⟨b, 0, none⟩ x).setCell ⟨b, 1, none⟩ y).heap[k]? = w.heap[k]? := (heap_setCell_other _ ⟨b, 1, none⟩ k y hk).trans (heap_setCell_other _ ⟨b, 0, none⟩ k x hk)
end Go.Proofs.YtemehbjlfiebdaaGreat
