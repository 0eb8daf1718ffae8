/-
  spec.RangeOf and impl.RangeOf.
  What KeysOf tells, plainly; texts and lists that do not touch one another.
  Lists of texts and of parts that are handed on to make an object.
-/
import Derived.Test.YtfcglmkbfdfaeaaS18
import Derived.Test.YtfcglmkbfdfaeaaS23
import Derived.Test.YtfcglmkbfdfaeaaS24
namespace Go.Proofs.Ytfcglmkbfdfaeaa
open Go.RowKit
set_option linter.unusedVariables false

end Go.Proofs.Ytfcglmkbfdfaeaa

namespace Go.Proofs.Ytfcglmkbfdfaeaa
open Go.RowKit
set_option linter.unusedVariables false

def TextsOk (ks : List ByteArray) : Prop := ∀ j, j < ks.length → M.textOk (ks.getD j ByteArray.empty) = true
theorem keys_text {v : List M.Cl} (hv : M.valueFault v = 0) : TextsOk (keysAt v 0) := by
  intro j hj
  have hl := (M.fault_zero hv).1
  rw [keysAt_length] at hj
  rw [show (keysAt v 0).getD j ByteArray.empty = (v.getD (M.iter v j 1) M.zero).key from by simp [keysAt, M.places, List.getD_eq_getElem?_getD, hj]]
  obtain ⟨h1, h2, h3, _⟩ := M.places_in hv 0 (by omega)
  have h5 := h1 j hj
  simp only [Nat.zero_add] at h5
  have h := code_at hv (M.iter v j 1) (by omega)
  unfold M.cellCode at h
  split at h
  · cases h
  split at h
  · cases h
  split at h
  · cases h
  split at h
  · rename_i h4; exact h4.2
  · cases h
/-- A row of texts stays, where a row of another kind grows. -/
theorem KS.grown {w w' : World} {B base : Nat} {v s : Value} {ks : List ByteArray} {n size : Nat} {e : TypeId} {xs : List Value} (h : KS w B v ks) (ho : w.ownsRow base e size s n xs) (hne : e ≠ 9) (hg : w.grownBy w' s.ownBlock) : KS w' B v ks := by
  obtain ⟨h1, h2 | ⟨g, cap, cur, h3, h4, h5, h6⟩⟩ := h
  · exact ⟨h1, .inl h2⟩
  · obtain ⟨c, hc, ec⟩ := grown_own hg (b := g) (t := 9) (ys := cur.toList) ⟨cur, h5, rfl⟩ (other_block ho (b := g) (t := 9) (ys := cur.toList) ⟨cur, h5, rfl⟩ hne)
    have : c = cur := Array.toList_inj.1 ec
    subst this
    exact ⟨h1, .inr ⟨g, cap, c, h3, h4, hc, h6⟩⟩
theorem KS.alloc {w : World} {B : Nat} {v : Value} {ks : List ByteArray} (h : KS w B v ks) (o : Obj) : KS (w.alloc o) B v ks := h.below ((Below.refl _ _).alloc (Nat.le_refl _) o)
theorem SS.alloc {w : World} {B : Nat} {v : Value} {ps : List (List M.Cl)} (h : SS w B v ps) (o : Obj) : SS (w.alloc o) B v ps := h.below ((Below.refl _ _).alloc (Nat.le_refl _) o)

end Go.Proofs.Ytfcglmkbfdfaeaa

namespace Go.Proofs.Ytfcglmkbfdfaeaa
open Go.RowKit
set_option linter.unusedVariables false

theorem KS.snoc {w3 : World} {B : Nat} {v' : Value} {ks : List ByteArray} {key : ByteArray} {k : Nat} (hk : ks.length = k) (ho : w3.ownsRow B 9 1 v' (k + 1) (ks.map Value.string ++ [.string key])) : KS w3 B v' (ks ++ [key]) := by
  subst hk
  unfold KS
  simpa using ho
theorem KS.row {w : World} {B : Nat} {v : Value} {ks : List ByteArray} {k : Nat} (h : KS w B v ks) (hk : ks.length = k) : w.ownsRow B 9 1 v k (ks.map Value.string) := by
  subst hk; exact h
/-- Parts, and one more that lies elsewhere. -/
theorem SS.lvSnoc {w2 w3 : World} {o : Obj} {B k : Nat} {s v' : Value} {ps : List (List M.Cl)} {u : List M.Cl} {ss : List Value} {b off cap : Nat} (hk : ps.length = k) (hl : ss.length = ps.length) (hown : w2.ownsRow B 24 1 s ps.length ss) (hres : ∀ i, i < ps.length → Res w2 B (ss.getD i (.slice none 0 0)) (ps.getD i [])) (hne : ∀ i, i < ps.length → ps.getD i [] ≠ []) (hg : (w2.alloc o).grownBy w3 s.ownBlock) (ho : w3.ownsRow B 24 1 v' (k + 1) (ss ++ [.slice (some ⟨b, off, none⟩) u.length cap])) (hrow : Row w3 b off u) (hb : b < w3.heap.size) (hcap : u.length ≤ cap) :
    ∃ a c, v' = .slice a (ps ++ [u]).length c ∧ (ps ++ [u]).length ≤ c ∧ LV w3 a (ps ++ [u]) := by
  subst hk
  have keep : ∀ (r : Value) (l : List M.Cl), Res w2 B r l → Res w3 B r l := fun r l h => grown_res (hown.alloc o) hg (h.alloc o) (by decide)
  obtain ⟨_, ⟨_, h0⟩ | ⟨g, c, cur, rfl, hgB, hh, hnc, hcm, hcs, ht⟩⟩ := ho
  · omega
  · refine ⟨some ⟨g, 0, none⟩, c, by simp, by simpa using hnc, fun i hi => ?_⟩
    rw [List.length_append] at hi
    simp only [List.length_cons, List.length_nil] at hi
    have hcell := row_at (base := 0) (cap := 0) (i := i) hh ht (by omega)
    by_cases e : i < ps.length
    · obtain ⟨bi, ci, he, hci, hO⟩ := res_any (keep _ _ (hres i e)) (hne i e)
      rw [show (ps ++ [u]).getD i [] = ps.getD i [] from by rw [List.getD_eq_getElem?_getD, List.getElem?_append_left e, ← List.getD_eq_getElem?_getD]]
      refine ⟨g, bi, 0, ci, rfl, (Array.getElem?_eq_some_iff.1 hh).1, ?_, hci, hO.lt, hO.row⟩
      rw [hcell, List.getElem?_append_left (by omega), List.getElem?_eq_getElem (by omega)]
      rw [List.getD_eq_getElem?_getD, List.getElem?_eq_getElem (by omega)] at he
      simp only [Option.getD_some] at he
      rw [he]
    · obtain rfl : i = ps.length := by omega
      rw [show (ps ++ [u]).getD ps.length [] = u from by rw [List.getD_eq_getElem?_getD, List.getElem?_append_right (Nat.le_refl _), Nat.sub_self]; rfl]
      refine ⟨g, b, off, cap, rfl, (Array.getElem?_eq_some_iff.1 hh).1, ?_, hcap, hb, hrow⟩
      rw [hcell, List.getElem?_append_right (by omega), hl, Nat.sub_self]
      rfl
theorem TV.one (w : World) (g : Nat) (key : ByteArray) (t : TypeId) (hg : g = w.heap.size) : TV (w.alloc (.cells #[.string key] t)) (some ⟨g, 0, none⟩) [key] := by
  subst hg
  intro i hi
  simp only [List.length_cons, List.length_nil] at hi
  obtain rfl : i = 0 := by omega
  exact ⟨w.heap.size, rfl, by simp, World.cell?_alloc_mark w _ _ (0, 0) 0⟩
/-- What is known of an object that is made. -/
theorem obj_made {ks : List ByteArray} {ps : List (List M.Cl)} (hlen : ks.length = ps.length) (hn : ks.length ≤ 4096) (hv : ∀ j, j < ps.length → M.valueFault (ps.getD j []) = 0) (hok : OkS ps) (hk : TextsOk ks) : objV ks ps ≠ [] ∧ (objV ks ps).length ≤ 1048576 ∧ ∀ c ∈ objV ks ps, c.ok := by
  have hst := St.stand_lt ks ks.length
  have hsl := St.stand_length ks ks.length
  have hL : ∀ p ∈ St.stand ks ks.length, (ps.getD p []).length ≤ 200 := fun p hp => (fault_len (hv p (by have := hst p hp; omega))).2
  refine ⟨by unfold objV objK; simp, ?_, ?_⟩
  · have := objK_length ks ps _ hL _ (Nat.le_refl _)
    unfold objV
    omega
  · refine objK_ok ks ps _ (by omega) (fun p hp => hok p (by have := hst p hp; omega)) (fun p hp => ?_) _ (Nat.le_refl _)
    have := hk p (hst p hp)
    unfold M.textOk at this
    rw [Bool.and_eq_true] at this
    have := of_decide_eq_true this.1
    omega
theorem texts_snoc {ks : List ByteArray} {key : ByteArray} (h : TextsOk ks) (hk : M.textOk key = true) : TextsOk (ks ++ [key]) := by
  intro j hj
  rw [List.length_append] at hj
  simp only [List.length_cons, List.length_nil] at hj
  by_cases e : j < ks.length
  · rw [List.getD_eq_getElem?_getD, List.getElem?_append_left e, ← List.getD_eq_getElem?_getD]; exact h j e
  · obtain rfl : j = ks.length := by omega
    rw [List.getD_eq_getElem?_getD, List.getElem?_append_right (Nat.le_refl _), Nat.sub_self]; exact hk
theorem parts_snoc {P : List M.Cl → Prop} {ps : List (List M.Cl)} {u : List M.Cl} (h : ∀ j, j < ps.length → P (ps.getD j [])) (hu : P u) : ∀ j, j < (ps ++ [u]).length → P ((ps ++ [u]).getD j []) := by
  intro j hj
  rw [List.length_append] at hj
  simp only [List.length_cons, List.length_nil] at hj
  by_cases e : j < ps.length
  · rw [List.getD_eq_getElem?_getD, List.getElem?_append_left e, ← List.getD_eq_getElem?_getD]; exact h j e
  · obtain rfl : j = ps.length := by omega
    rw [List.getD_eq_getElem?_getD, List.getElem?_append_right (Nat.le_refl _), Nat.sub_self]; exact hu

/-- What SetKey tells, of values without a fault and a key that fits. -/
def setIn (v : List M.Cl) (key : ByteArray) (u : List M.Cl) : Int × List M.Cl := if (v.getD 0 M.zero).kind ≠ 0 ∧ (v.getD 0 M.zero).kind ≠ 6 then (6, []) else told (objV (keysAt v 0 ++ [key]) (subs v 0 ++ [u]))
def setOut (v : List M.Cl) (key : ByteArray) (u : List M.Cl) : Int × List M.Cl := if bothOut v u ≠ 0 then (bothOut v u, []) else if M.textOk key = true then setIn v key u else (5, [])
theorem set_bad {v : List M.Cl} {key : ByteArray} {u : List M.Cl} (h : bothOut v u ≠ 0) : setOut v key u = (bothOut v u, []) := if_pos h
theorem set_text {v : List M.Cl} {key : ByteArray} {u : List M.Cl} (h : bothOut v u = 0) (ht : M.textOk key = false) : setOut v key u = (5, []) := by unfold setOut; rw [if_neg (by simp [h]), if_neg (by simp [ht])]
theorem set_ok {v : List M.Cl} {key : ByteArray} {u : List M.Cl} (h : bothOut v u = 0) (ht : M.textOk key = true) : setOut v key u = setIn v key u := by unfold setOut; rw [if_neg (by simp [h]), if_pos ht]
theorem set_kind {v : List M.Cl} {key : ByteArray} {u : List M.Cl} (h0 : (v.getD 0 M.zero).kind ≠ 0) (h6 : (v.getD 0 M.zero).kind ≠ 6) : setIn v key u = (6, []) := if_pos ⟨h0, h6⟩
theorem set_some {v : List M.Cl} {key : ByteArray} {u : List M.Cl} (h : (v.getD 0 M.zero).kind = 0 ∨ (v.getD 0 M.zero).kind = 6) : setIn v key u = told (objV (keysAt v 0 ++ [key]) (subs v 0 ++ [u])) := if_neg fun g => by
  rcases h with h | h
  · exact g.1 h
  · exact g.2 h
theorem null_parts {v : List M.Cl} (hv : M.valueFault v = 0) (h : (v.getD 0 M.zero).kind ≠ 5) (h' : (v.getD 0 M.zero).kind ≠ 6) : keysAt v 0 = [] ∧ subs v 0 = [] := by
  have := arity_null hv h h'
  unfold keysAt subs M.places
  rw [this]
  exact ⟨rfl, rfl⟩
theorem app_string (key : ByteArray) : ∀ u ∈ ([Value.string key] : List Value), u.oneCell' = true := by
  intro u hu; simp only [List.mem_cons, List.not_mem_nil, or_false] at hu; subst hu; rfl

end Go.Proofs.Ytfcglmkbfdfaeaa
