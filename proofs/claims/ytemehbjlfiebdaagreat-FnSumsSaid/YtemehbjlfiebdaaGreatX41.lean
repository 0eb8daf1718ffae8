/-
  What the getters tell, plainly, and what those are told that lay slices of slices by a literal.
  The faults of two values, one behind the other.
  spec.LengthOf and impl.LengthOf.
  spec.RangeOf and impl.RangeOf.
  What KeysOf tells, plainly; texts and lists that do not touch one another.
  Lists of texts and of parts that are handed on to make an object.
  What DropKey tells, plainly: an object without one of its members has no fault.
  Lists of parts that are kept where another list grows.
-/
import Derived.Test.YtemehbjlfiebdaaGreatX16
import Derived.Test.YtemehbjlfiebdaaGreatX17
import Derived.Test.YtemehbjlfiebdaaGreatX22
import Derived.Maps.AppendAt
namespace Go.Proofs.YtemehbjlfiebdaaGreat
open Go.RowKit
set_option linter.unusedVariables false

/-- An element of a row of slices. -/
theorem SS.at {w : World} {B : Nat} {v : Value} {ps : List (List M.Cl)} (h : SS w B v ps) {i : Nat} (hi : i < ps.length) : ∃ g cap s, v = .slice (some ⟨g, 0, none⟩) ps.length cap ∧ ps.length ≤ cap ∧ w.cell? ⟨g, i, none⟩ = some s ∧ Res w B s (ps.getD i []) := by
  obtain ⟨ss, hl, ho, hr⟩ := h
  obtain ⟨_, ⟨rfl, h0⟩ | ⟨g, cap, cur, rfl, hg, hh, hnc, hcm, hcs, ht⟩⟩ := ho
  · omega
  · refine ⟨g, cap, ss.getD i (.slice none 0 0), rfl, hnc, ?_, hr i hi⟩
    rw [row_at (base := 0) (cap := 0) hh ht hi, List.getElem?_eq_getElem (by omega), List.getD_eq_getElem?_getD, List.getElem?_eq_getElem (by omega)]
    rfl

theorem LV.two (w : World) (g b off cap b' off' cap' : Nat) (v u : List M.Cl) (t : TypeId) (hg : g = w.heap.size) (hrow : Row w b off v) (hb : b < w.heap.size) (hcap : v.length ≤ cap) (hrow' : Row w b' off' u) (hb' : b' < w.heap.size) (hcap' : u.length ≤ cap') : LV (w.alloc (.cells #[.slice (some ⟨b, off, none⟩) v.length cap, .slice (some ⟨b', off', none⟩) u.length cap'] t)) (some ⟨g, 0, none⟩) [v, u] := by
  subst hg
  intro i hi
  simp only [List.length_cons, List.length_nil] at hi
  by_cases h0 : i = 0
  · subst h0
    exact ⟨w.heap.size, b, off, cap, rfl, by simp, World.cell?_alloc_mark w _ _ (0, 0) 0, hcap, by simp; omega, hrow.below ((Below.refl _ _).alloc (Nat.le_refl _) _) hb⟩
  · obtain rfl : i = 1 := by omega
    exact ⟨w.heap.size, b', off', cap', rfl, by simp, World.cell?_alloc_mark w _ _ (0, 0) 1, hcap', by simp; omega, hrow'.below ((Below.refl _ _).alloc (Nat.le_refl _) _) hb'⟩
theorem okS_two {v u : List M.Cl} (h : ∀ c ∈ v, c.ok) (h' : ∀ c ∈ u, c.ok) : OkS [v, u] := by
  intro i hi
  simp only [List.length_cons, List.length_nil] at hi
  by_cases h0 : i = 0
  · subst h0; exact h
  · obtain rfl : i = 1 := by omega
    exact h'
theorem len_two {v u : List M.Cl} (h : v.length ≤ 1048576) (h' : u.length ≤ 1048576) : ∀ j, j < [v, u].length → ([v, u].getD j []).length ≤ 1048576 := by
  intro i hi
  simp only [List.length_cons, List.length_nil] at hi
  by_cases h0 : i = 0
  · subst h0; exact h
  · obtain rfl : i = 1 := by omega
    exact h'
theorem firstBad_one (v : List M.Cl) : firstBad [v] = M.valueFault v := by
  unfold firstBad; split
  · rename_i h; rw [h]; rfl
  · rfl
theorem firstBad_two (v u : List M.Cl) : firstBad [v, u] = if M.valueFault v = 0 then M.valueFault u else M.valueFault v := by
  rw [firstBad, firstBad_one]

end Go.Proofs.YtemehbjlfiebdaaGreat

namespace Go.Proofs.YtemehbjlfiebdaaGreat
open Go.RowKit
set_option linter.unusedVariables false

def bothOut (v u : List M.Cl) : Int := if M.valueFault v ≠ 0 then M.valueFault v else M.valueFault u
set_option maxHeartbeats 1000000 in
theorem l3Both_any (v : List M.Cl) (b off cap : Nat) (u : List M.Cl) (b' off' cap' : Nat) (w : World) (hrow : Row w b off v) (hb : b < w.heap.size) (hn : v.length ≤ 1048576) (hcap : v.length ≤ cap) (hok : ∀ c ∈ v, c.ok) (hrow' : Row w b' off' u) (hb' : b' < w.heap.size) (hn' : u.length ≤ 1048576) (hcap' : u.length ≤ cap') (hok' : ∀ c ∈ u, c.ok) :
    Calls Tryz.prog 22 #[.slice (some ⟨b, off, none⟩) v.length cap, .slice (some ⟨b', off', none⟩) u.length cap'] w fun e w' => e = .returned (.int .i64 (bothOut v u)) ∧ Below w.heap.size w w' := by
  have OK := hide hok
  have OK' := hide hok'
  clear hok hok'
  go_enter Tryz.func22, Tryz.ntmps22
  go_wp2_with fail
  refine (specFault_any v b off cap _ hrow hb hn hcap (unhide OK)).mono ?_
  rintro e1 w1 ⟨rfl, hb1⟩
  generalize hq : M.valueFault v = q
  by_cases hz : q = 0
  · subst hz
    have fin := hide (show bothOut v u = M.valueFault u by unfold bothOut; rw [if_neg (by simp [hq])])
    clear hq
    go_wp2_with fail
    refine (specFault_any u b' off' cap' _ (hrow'.below hb1 hb') (Nat.lt_of_lt_of_le hb' hb1.size) hn' hcap' (unhide OK')).mono ?_
    rintro e2 w2 ⟨rfl, hb2⟩
    go_wp2_with fail
    go_ret
    exact ⟨ret_int (unhide fin).symm, hb1.trans (hb2.mono hb1.size)⟩
  · have fin := hide (show bothOut v u = q by unfold bothOut; rw [if_pos (by rw [hq]; exact hz), hq])
    have hz' : (q == 0) = false := by simp [hz]
    clear hq
    go_wp2_with fail
    go_ret
    exact ⟨ret_int (unhide fin).symm, hb1⟩
theorem firstBad_both (v u : List M.Cl) : firstBad [v, u] = bothOut v u := by
  rw [firstBad_two]; unfold bothOut
  by_cases h : M.valueFault v = 0
  · rw [if_pos h, if_neg (by simp [h])]
  · rw [if_neg h, if_pos h]
theorem both_zero {v u : List M.Cl} (h : bothOut v u = 0) : M.valueFault v = 0 ∧ M.valueFault u = 0 := by
  unfold bothOut at h
  by_cases h1 : M.valueFault v = 0
  · rw [if_neg (by simp [h1])] at h; exact ⟨h1, h⟩
  · rw [if_pos h1] at h; exact absurd h h1
end Go.Proofs.YtemehbjlfiebdaaGreat

namespace Go.Proofs.YtemehbjlfiebdaaGreat
open Go.RowKit
set_option linter.unusedVariables false

/-- The size of a number. -/
def size (n : Int) : Int := if n < 0 then -n else n
/-- What is known of a cell that has no fault. -/
theorem code_bd {c : M.Cl} (h : M.cellCode c = 0) : 0 ≤ c.kind ∧ c.kind ≤ 6 ∧ -1000000000000000 ≤ c.num ∧ c.num ≤ 1000000000000000 ∧ 0 ≤ c.n ∧ c.n ≤ 200 ∧ M.textOk c.text = true ∧ M.textOk c.key = true := by
  unfold M.cellCode at h
  split at h
  · cases h
  split at h
  · cases h
  split at h
  · cases h
  split at h
  · rename_i h4; exact ⟨by omega, by omega, by omega, by omega, by omega, by omega, h4.1, h4.2⟩
  · cases h
theorem textOk_size {s : ByteArray} (h : M.textOk s = true) : s.size ≤ 60 := by
  unfold M.textOk at h
  rw [Bool.and_eq_true] at h
  exact of_decide_eq_true h.1

set_option maxHeartbeats 400000 in
theorem l3Size_any (n : Int) (w : World) (n0 : -1000000000000000 ≤ n) (n1 : n ≤ 1000000000000000) : Calls Tryz.prog 75 #[.int .i64 n] w fun e w' => e = .returned (.int .i64 (size n)) ∧ w' = w := by
  by_cases h : n < 0
  · have fin := hide (show size n = -n from if_pos h)
    go_enter Tryz.func75, Tryz.ntmps75
    go_wp2
    go_ret
    exact ⟨ret_int (unhide fin).symm, rfl⟩
  · have fin := hide (show size n = n from if_neg h)
    go_enter Tryz.func75, Tryz.ntmps75
    go_wp2
    go_ret
    exact ⟨ret_int (unhide fin).symm, rfl⟩
set_option maxHeartbeats 400000 in
theorem sizeOf_any (n : Int) (w : World) (n0 : -1000000000000000 ≤ n) (n1 : n ≤ 1000000000000000) : Calls Tryz.prog 64 #[.int .i64 n] w fun e w' => e = .returned (.int .i64 (size n)) ∧ w' = w := by
  by_cases h : n < 0
  · have fin := hide (show size n = -n from if_pos h)
    have h1 : ¬ -n ≤ n := by omega
    go_enter Tryz.func64, Tryz.ntmps64
    go_wp2
    go_ret
    exact ⟨ret_int (unhide fin).symm, rfl⟩
  · have fin := hide (show size n = n from if_neg h)
    have h1 : -n ≤ n := by omega
    go_enter Tryz.func64, Tryz.ntmps64
    go_wp2
    go_ret
    exact ⟨ret_int (unhide fin).symm, rfl⟩

theorem size_bd {n : Int} (n0 : -1000000000000000 ≤ n) (n1 : n ≤ 1000000000000000) : ¬ (size n < -1000000000000000 ∨ 1000000000000000 < size n) := by unfold size; split <;> omega

end Go.Proofs.YtemehbjlfiebdaaGreat

namespace Go.Proofs.YtemehbjlfiebdaaGreat
open Go.RowKit
set_option linter.unusedVariables false

end Go.Proofs.YtemehbjlfiebdaaGreat

namespace Go.Proofs.YtemehbjlfiebdaaGreat
open Go.RowKit
set_option linter.unusedVariables false

def TextsOk (ks : List ByteArray) : Prop := ∀ j, j < ks.length → M.textOk (ks.getD j ByteArray.empty) = true
theorem keys_text {v : List M.Cl} (hv : M.valueFault v = 0) : TextsOk (keysAt v 0) := by
  intro j hj
  have hl := (M.fault_zero hv).1
  rw [keysAt_length] at hj
  rw [show (keysAt v 0).getD j ByteArray.empty = (v.getD (M.iter v j 1) M.zero).key from by simp [keysAt, M.places, List.getD_eq_getElem?_getD, hj]]
  obtain ⟨h1, h2, h3, _⟩ := M.places_in hv 0 (by omega)
  have h5 := h1 j hj
  simp only [Nat.zero_add] at h5
  have h := code_at hv (M.iter v j 1) (by omega)
  unfold M.cellCode at h
  split at h
  · cases h
  split at h
  · cases h
  split at h
  · cases h
  split at h
  · rename_i h4; exact h4.2
  · cases h
/-- A row of texts stays, where a row of another kind grows. -/
theorem KS.grown {w w' : World} {B base : Nat} {v s : Value} {ks : List ByteArray} {n size : Nat} {e : TypeId} {xs : List Value} (h : KS w B v ks) (ho : w.ownsRow base e size s n xs) (hne : e ≠ 9) (hg : w.grownBy w' s.ownBlock) : KS w' B v ks := by
  obtain ⟨h1, h2 | ⟨g, cap, cur, h3, h4, h5, h6⟩⟩ := h
  · exact ⟨h1, .inl h2⟩
  · obtain ⟨c, hc, ec⟩ := grown_own hg (b := g) (t := 9) (ys := cur.toList) ⟨cur, h5, rfl⟩ (other_block ho (b := g) (t := 9) (ys := cur.toList) ⟨cur, h5, rfl⟩ hne)
    have : c = cur := Array.toList_inj.1 ec
    subst this
    exact ⟨h1, .inr ⟨g, cap, c, h3, h4, hc, h6⟩⟩
theorem SS.ownsRow {w : World} {B : Nat} {v : Value} {ps : List (List M.Cl)} (h : SS w B v ps) : ∃ xs, w.ownsRow B 24 1 v ps.length xs := by obtain ⟨ss, _, h2, _⟩ := h; exact ⟨ss, h2⟩
theorem SS.alloc {w : World} {B : Nat} {v : Value} {ps : List (List M.Cl)} (h : SS w B v ps) (o : Obj) : SS (w.alloc o) B v ps := h.below ((Below.refl _ _).alloc (Nat.le_refl _) o)

end Go.Proofs.YtemehbjlfiebdaaGreat

namespace Go.Proofs.YtemehbjlfiebdaaGreat
open Go.RowKit
set_option linter.unusedVariables false

theorem KS.row {w : World} {B : Nat} {v : Value} {ks : List ByteArray} {k : Nat} (h : KS w B v ks) (hk : ks.length = k) : w.ownsRow B 9 1 v k (ks.map Value.string) := by
  subst hk; exact h
/-- What is known of an object that is made. -/
theorem obj_made {ks : List ByteArray} {ps : List (List M.Cl)} (hlen : ks.length = ps.length) (hn : ks.length ≤ 4096) (hv : ∀ j, j < ps.length → M.valueFault (ps.getD j []) = 0) (hok : OkS ps) (hk : TextsOk ks) : objV ks ps ≠ [] ∧ (objV ks ps).length ≤ 1048576 ∧ ∀ c ∈ objV ks ps, c.ok := by
  have hst := St.stand_lt ks ks.length
  have hsl := St.stand_length ks ks.length
  have hL : ∀ p ∈ St.stand ks ks.length, (ps.getD p []).length ≤ 200 := fun p hp => (fault_len (hv p (by have := hst p hp; omega))).2
  refine ⟨by unfold objV objK; simp, ?_, ?_⟩
  · have := objK_length ks ps _ hL _ (Nat.le_refl _)
    unfold objV
    omega
  · refine objK_ok ks ps _ (by omega) (fun p hp => hok p (by have := hst p hp; omega)) (fun p hp => ?_) _ (Nat.le_refl _)
    have := hk p (hst p hp)
    unfold M.textOk at this
    rw [Bool.and_eq_true] at this
    have := of_decide_eq_true this.1
    omega
end Go.Proofs.YtemehbjlfiebdaaGreat

namespace Go.Proofs.YtemehbjlfiebdaaGreat
open Go.RowKit
set_option linter.unusedVariables false

end Go.Proofs.YtemehbjlfiebdaaGreat

namespace Go.Proofs.YtemehbjlfiebdaaGreat
open Go.RowKit
set_option linter.unusedVariables false

theorem SS.keptB {w w' : World} {B base : Nat} {v s : Value} {ps : List (List M.Cl)} {n : Nat} {xs : List Value} (h : SS w B v ps) (ho : w.ownsRow base 24 1 s n xs) (hne : v.ownBlock = none ∨ v.ownBlock ≠ s.ownBlock) (hg : w.grownBy w' s.ownBlock) : SS w' B v ps := by
  obtain ⟨ss, hl, hown, hres⟩ := h
  exact ⟨ss, hl, hown.kept hg hne, fun i hi => grown_res ho hg (hres i hi) (by decide)⟩
theorem KSrow_mono {w : World} {B B' : Nat} {e : TypeId} {size : Nat} {v : Value} {n : Nat} {xs : List Value} (h : w.ownsRow B e size v n xs) (hB : B' ≤ B) : w.ownsRow B' e size v n xs := by
  obtain ⟨h1, h2 | ⟨g, cap, cur, h3, h4, h5⟩⟩ := h
  · exact ⟨h1, .inl h2⟩
  · exact ⟨h1, .inr ⟨g, cap, cur, h3, by omega, h5⟩⟩
theorem SS.mono {w : World} {B B' : Nat} {v : Value} {ps : List (List M.Cl)} (h : SS w B v ps) (hB : B' ≤ B) : SS w B' v ps := by
  obtain ⟨ss, hl, hown, hres⟩ := h
  exact ⟨ss, hl, KSrow_mono hown hB, fun i hi => (hres i hi).mono hB⟩
/-- Two slices lie in unlike blocks. -/
def Apart (s t : Value) : Prop := ∀ g, t.ownBlock = some g → s.ownBlock ≠ some g
theorem Apart.or {s t : Value} (h : Apart s t) : t.ownBlock = none ∨ t.ownBlock ≠ s.ownBlock := by
  cases ht : t.ownBlock with
  | none => exact .inl rfl
  | some g => exact .inr fun e => h g ht e.symm
theorem Apart.next {s s' t : Value} {n : Nat} (h : Apart s t) (ht : ∀ g, t.ownBlock = some g → g < n) (hat : s'.ownBlock = s.ownBlock ∨ s'.ownBlock = some n) : Apart s' t := by
  intro g hg e
  rcases hat with hat | hat
  · exact h g hg (hat.symm.trans e)
  · rw [hat] at e
    have := ht g hg
    simp only [Option.some.injEq] at e
    omega
theorem row_blt {w : World} {base : Nat} {e : TypeId} {size : Nat} {v : Value} {n : Nat} {xs : List Value} (h : w.ownsRow base e size v n xs) : ∀ g, v.ownBlock = some g → base ≤ g ∧ g < w.heap.size := h.lt

end Go.Proofs.YtemehbjlfiebdaaGreat
