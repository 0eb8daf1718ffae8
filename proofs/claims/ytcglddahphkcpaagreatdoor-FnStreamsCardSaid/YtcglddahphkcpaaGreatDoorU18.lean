/-
  What the getters tell, plainly, and what those are told that lay slices of slices by a literal.
  The faults of two values, one behind the other.
  spec.GetKey and impl.GetKey.
  spec.RangeOf and impl.RangeOf.
  What KeysOf tells, plainly; texts and lists that do not touch one another.
  Lists of texts and of parts that are handed on to make an object.
  Lists that are joined, and what a sum of two values is, plainly.
-/
import Derived.Test.YtcglddahphkcpaaGreatDoorU10
import Derived.Test.YtcglddahphkcpaaGreatDoorU15
import Derived.Test.YtcglddahphkcpaaGreatDoorU17
import Derived.Laws.AppendOwnNone
namespace Go.Proofs.YtcglddahphkcpaaGreatDoor
open Go.RowKit
set_option linter.unusedVariables false

theorem code_fields' {c : M.Cl} (h : M.cellCode c = 0) : (c.kind ≠ 3 → c.num = 0) ∧ (c.kind ≠ 4 → c.text.toList = []) ∧ (c.kind ≠ 5 → c.kind ≠ 6 → c.n = 0) := by
  unfold M.cellCode at h
  split at h
  · cases h
  split at h
  · cases h
  rename_i h1
  refine ⟨fun hk => ?_, fun hk => ?_, fun hk hk' => ?_⟩
  · by_cases e : c.num = 0
    · exact e
    · exact absurd (.inl ⟨e, hk⟩) h1
  · by_cases e : c.text.toList = []
    · exact e
    · exact absurd (.inr (.inl ⟨e, hk⟩)) h1
  · by_cases e : c.n = 0
    · exact e
    · exact absurd (.inr (.inr ⟨e, hk, hk'⟩)) h1
/-- The member of a key; null, if there is none. -/
def getV (v : List M.Cl) (key : ByteArray) : List M.Cl := match (List.range (M.arity v 0)).find? (fun j => (v.getD (M.iter v j 1) M.zero).key.toList == key.toList) with
  | some j => part v (M.iter v j 1)
  | none => [M.zero]
def getOut (v : List M.Cl) (key : ByteArray) : Int × List M.Cl := if (v.getD 0 M.zero).kind ≠ 0 ∧ (v.getD 0 M.zero).kind ≠ 6 then (6, []) else (0, getV v key)
theorem getV_hit {v : List M.Cl} {key : ByteArray} {k : Nat} (hk : k < M.arity v 0) (h : ∀ j, j < k → ((v.getD (M.iter v j 1) M.zero).key.toList == key.toList) = false) (hh : ((v.getD (M.iter v k 1) M.zero).key.toList == key.toList) = true) : getV v key = part v (M.iter v k 1) := by
  unfold getV
  rw [List.find?_range_eq_some.2 ⟨hh, List.mem_range.2 hk, fun j hj => by rw [h j hj]; rfl⟩]
theorem getV_none {v : List M.Cl} {key : ByteArray} (h : ∀ j, j < M.arity v 0 → ((v.getD (M.iter v j 1) M.zero).key.toList == key.toList) = false) : getV v key = [M.zero] := by
  unfold getV
  rw [List.find?_range_eq_none.2 fun j hj => by rw [h j hj]; rfl]
theorem get_kind {v : List M.Cl} {key : ByteArray} (h0 : (v.getD 0 M.zero).kind ≠ 0) (h6 : (v.getD 0 M.zero).kind ≠ 6) : getOut v key = (6, []) := if_pos ⟨h0, h6⟩
theorem get_some {v : List M.Cl} {key : ByteArray} (h : (v.getD 0 M.zero).kind = 0 ∨ (v.getD 0 M.zero).kind = 6) : getOut v key = (0, getV v key) := if_neg fun g => by
  rcases h with h | h
  · exact g.1 h
  · exact g.2 h
theorem arity_null {v : List M.Cl} (hv : M.valueFault v = 0) (h : (v.getD 0 M.zero).kind ≠ 5) (h' : (v.getD 0 M.zero).kind ≠ 6) : M.arity v 0 = 0 := by
  have hl := (M.fault_zero hv).1
  have := (code_fields' (M.first_zero (M.fault_zero hv).2.2.1 _ (getD_mem v 0 (by omega)))).2.2 h h'
  unfold M.arity
  rw [this]
  rfl
/-- The element of a number, from the end on, if it is below 0; null, if there is none. -/
def idxV (v : List M.Cl) (n : Int) : List M.Cl := if n < -(M.arity v 0 : Int) ∨ (M.arity v 0 : Int) ≤ n then [M.zero] else part v (M.iter v (if n < 0 then n + M.arity v 0 else n).toNat 1)
def idxOut (v : List M.Cl) (n : Int) : Int × List M.Cl := if (v.getD 0 M.zero).kind ≠ 0 ∧ (v.getD 0 M.zero).kind ≠ 5 then (6, []) else (0, idxV v n)
theorem idx_some {v : List M.Cl} {n : Int} (h : (v.getD 0 M.zero).kind = 0 ∨ (v.getD 0 M.zero).kind = 5) : idxOut v n = (0, idxV v n) := if_neg fun g => by
  rcases h with h | h
  · exact g.1 h
  · exact g.2 h
theorem idx_pos {v : List M.Cl} {k : Nat} (h2 : k < M.arity v 0) : idxV v k = part v (M.iter v k 1) := by
  unfold idxV; rw [if_neg (by omega), if_neg (by omega), Int.toNat_natCast]
def getKeyOut (v : List M.Cl) (key : ByteArray) : Int × List M.Cl := if M.valueFault v ≠ 0 then (M.valueFault v, []) else if M.textOk key = true then getOut v key else (5, [])
theorem gk_bad {v : List M.Cl} {key : ByteArray} (h : M.valueFault v ≠ 0) : getKeyOut v key = (M.valueFault v, []) := if_pos h
theorem gk_text {v : List M.Cl} {key : ByteArray} (h : M.valueFault v = 0) (ht : M.textOk key = false) : getKeyOut v key = (5, []) := by unfold getKeyOut; rw [if_neg (by simp [h]), if_neg (by simp [ht])]
theorem gk_ok {v : List M.Cl} {key : ByteArray} (h : M.valueFault v = 0) (ht : M.textOk key = true) : getKeyOut v key = getOut v key := by unfold getKeyOut; rw [if_neg (by simp [h]), if_pos ht]
/-- An element of a row of slices. -/
theorem SS.at {w : World} {B : Nat} {v : Value} {ps : List (List M.Cl)} (h : SS w B v ps) {i : Nat} (hi : i < ps.length) : ∃ g cap s, v = .slice (some ⟨g, 0, none⟩) ps.length cap ∧ ps.length ≤ cap ∧ w.cell? ⟨g, i, none⟩ = some s ∧ Res w B s (ps.getD i []) := by
  obtain ⟨ss, hl, ho, hr⟩ := h
  obtain ⟨_, ⟨rfl, h0⟩ | ⟨g, cap, cur, rfl, hg, hh, hnc, hcm, hcs, ht⟩⟩ := ho
  · omega
  · refine ⟨g, cap, ss.getD i (.slice none 0 0), rfl, hnc, ?_, hr i hi⟩
    rw [row_at (base := 0) (cap := 0) hh ht hi, List.getElem?_eq_getElem (by omega), List.getD_eq_getElem?_getD, List.getElem?_eq_getElem (by omega)]
    rfl

theorem LV.one (w : World) (g b off cap : Nat) (v : List M.Cl) (t : TypeId) (hg : g = w.heap.size) (hrow : Row w b off v) (hb : b < w.heap.size) (hcap : v.length ≤ cap) : LV (w.alloc (.cells #[.slice (some ⟨b, off, none⟩) v.length cap] t)) (some ⟨g, 0, none⟩) [v] := by
  subst hg
  intro i hi
  simp only [List.length_cons, List.length_nil] at hi
  obtain rfl : i = 0 := by omega
  exact ⟨w.heap.size, b, off, cap, rfl, by simp, World.cell?_alloc_mark w _ _ (0, 0) 0, hcap, by simp; omega, hrow.below ((Below.refl _ _).alloc (Nat.le_refl _) _) hb⟩
theorem LV.two (w : World) (g b off cap b' off' cap' : Nat) (v u : List M.Cl) (t : TypeId) (hg : g = w.heap.size) (hrow : Row w b off v) (hb : b < w.heap.size) (hcap : v.length ≤ cap) (hrow' : Row w b' off' u) (hb' : b' < w.heap.size) (hcap' : u.length ≤ cap') : LV (w.alloc (.cells #[.slice (some ⟨b, off, none⟩) v.length cap, .slice (some ⟨b', off', none⟩) u.length cap'] t)) (some ⟨g, 0, none⟩) [v, u] := by
  subst hg
  intro i hi
  simp only [List.length_cons, List.length_nil] at hi
  by_cases h0 : i = 0
  · subst h0
    exact ⟨w.heap.size, b, off, cap, rfl, by simp, World.cell?_alloc_mark w _ _ (0, 0) 0, hcap, by simp; omega, hrow.below ((Below.refl _ _).alloc (Nat.le_refl _) _) hb⟩
  · obtain rfl : i = 1 := by omega
    exact ⟨w.heap.size, b', off', cap', rfl, by simp, World.cell?_alloc_mark w _ _ (0, 0) 1, hcap', by simp; omega, hrow'.below ((Below.refl _ _).alloc (Nat.le_refl _) _) hb'⟩
theorem okS_one {v : List M.Cl} (h : ∀ c ∈ v, c.ok) : OkS [v] := by
  intro i hi
  simp only [List.length_cons, List.length_nil] at hi
  obtain rfl : i = 0 := by omega
  exact h
theorem okS_two {v u : List M.Cl} (h : ∀ c ∈ v, c.ok) (h' : ∀ c ∈ u, c.ok) : OkS [v, u] := by
  intro i hi
  simp only [List.length_cons, List.length_nil] at hi
  by_cases h0 : i = 0
  · subst h0; exact h
  · obtain rfl : i = 1 := by omega
    exact h'
theorem len_one {v : List M.Cl} (h : v.length ≤ 1048576) : ∀ j, j < [v].length → ([v].getD j []).length ≤ 1048576 := by
  intro i hi
  simp only [List.length_cons, List.length_nil] at hi
  obtain rfl : i = 0 := by omega
  exact h
theorem len_two {v u : List M.Cl} (h : v.length ≤ 1048576) (h' : u.length ≤ 1048576) : ∀ j, j < [v, u].length → ([v, u].getD j []).length ≤ 1048576 := by
  intro i hi
  simp only [List.length_cons, List.length_nil] at hi
  by_cases h0 : i = 0
  · subst h0; exact h
  · obtain rfl : i = 1 := by omega
    exact h'
theorem firstBad_one (v : List M.Cl) : firstBad [v] = M.valueFault v := by
  unfold firstBad; split
  · rename_i h; rw [h]; rfl
  · rfl
theorem firstBad_two (v u : List M.Cl) : firstBad [v, u] = if M.valueFault v = 0 then M.valueFault u else M.valueFault v := by
  rw [firstBad, firstBad_one]

/-- The fault of the values, and then that of the key. -/
def keyedOut (ps : List (List M.Cl)) (key : ByteArray) : Int := if firstBad ps ≠ 0 then firstBad ps else if M.textOk key = true then 0 else 5

set_option maxHeartbeats 1000000 in
theorem keyedFault_any (key : ByteArray) (a : Option Addr) (cap : Nat) (ps : List (List M.Cl)) (w : World) (hL : LV w a ps) (hcap : ps.length ≤ cap) (hn : ps.length ≤ 1048576) (hln : ∀ j, j < ps.length → (ps.getD j []).length ≤ 1048576) (hok : OkS ps) (hk : key.size ≤ 9223372036854775807) :
    Calls Tryz.prog 202 #[.string key, .slice a ps.length cap] w fun e w' => e = .returned (.int .i64 (keyedOut ps key)) ∧ Below w.heap.size w w' := by
  have H := hide (firstFaultV_any a cap ps w hL hcap hn hln hok)
  have HT := hide (textFits_any key)
  clear hL hok hln
  go_enter Tryz.func202, Tryz.ntmps202
  go_wp2_with fail
  refine (unhide H).mono ?_
  rintro e1 w1 ⟨rfl, hb1⟩
  generalize hq : firstBad ps = q
  by_cases hz : q = 0
  · subst hz
    go_wp2_with fail
    refine ((unhide HT) _ hk).mono ?_
    rintro e2 w2 ⟨rfl, rfl⟩
    have fin := hide (show keyedOut ps key = if M.textOk key = true then 0 else 5 by unfold keyedOut; rw [if_neg (by simp [hq])])
    cases ht : M.textOk key with
    | true =>
      rw [ht] at fin
      clear ht hq
      go_wp2_with fail
      go_ret
      exact ⟨ret_int (unhide fin).symm, hb1⟩
    | false =>
      rw [ht] at fin
      clear ht hq
      go_wp2_with fail
      go_ret
      exact ⟨ret_int (unhide fin).symm, hb1⟩
  · have fin := hide (show keyedOut ps key = q by unfold keyedOut; rw [if_pos (by rw [hq]; exact hz), hq])
    have hz' : (q == 0) = false := by simp [hz]
    clear hq
    go_wp2_with fail
    go_ret
    exact ⟨ret_int (unhide fin).symm, hb1⟩

end Go.Proofs.YtcglddahphkcpaaGreatDoor

namespace Go.Proofs.YtcglddahphkcpaaGreatDoor
open Go.RowKit
set_option linter.unusedVariables false

def bothOut (v u : List M.Cl) : Int := if M.valueFault v ≠ 0 then M.valueFault v else M.valueFault u
theorem firstBad_both (v u : List M.Cl) : firstBad [v, u] = bothOut v u := by
  rw [firstBad_two]; unfold bothOut
  by_cases h : M.valueFault v = 0
  · rw [if_pos h, if_neg (by simp [h])]
  · rw [if_neg h, if_pos h]
theorem both_zero {v u : List M.Cl} (h : bothOut v u = 0) : M.valueFault v = 0 ∧ M.valueFault u = 0 := by
  unfold bothOut at h
  by_cases h1 : M.valueFault v = 0
  · rw [if_neg (by simp [h1])] at h; exact ⟨h1, h⟩
  · rw [if_pos h1] at h; exact absurd h h1
end Go.Proofs.YtcglddahphkcpaaGreatDoor

namespace Go.Proofs.YtcglddahphkcpaaGreatDoor
open Go.RowKit
set_option linter.unusedVariables false

theorem subs_getD' (v : List M.Cl) (i : Nat) (hi : i < M.arity v 0) : (subs v 0).getD i [] = part v (M.iter v i 1) := by
  simp [subs, M.places, List.getD_eq_getElem?_getD, hi]

end Go.Proofs.YtcglddahphkcpaaGreatDoor

namespace Go.Proofs.YtcglddahphkcpaaGreatDoor
open Go.RowKit
set_option linter.unusedVariables false

end Go.Proofs.YtcglddahphkcpaaGreatDoor

namespace Go.Proofs.YtcglddahphkcpaaGreatDoor
open Go.RowKit
set_option linter.unusedVariables false

def TextsOk (ks : List ByteArray) : Prop := ∀ j, j < ks.length → M.textOk (ks.getD j ByteArray.empty) = true
theorem keys_text {v : List M.Cl} (hv : M.valueFault v = 0) : TextsOk (keysAt v 0) := by
  intro j hj
  have hl := (M.fault_zero hv).1
  rw [keysAt_length] at hj
  rw [show (keysAt v 0).getD j ByteArray.empty = (v.getD (M.iter v j 1) M.zero).key from by simp [keysAt, M.places, List.getD_eq_getElem?_getD, hj]]
  obtain ⟨h1, h2, h3, _⟩ := M.places_in hv 0 (by omega)
  have h5 := h1 j hj
  simp only [Nat.zero_add] at h5
  have h := code_at hv (M.iter v j 1) (by omega)
  unfold M.cellCode at h
  split at h
  · cases h
  split at h
  · cases h
  split at h
  · cases h
  split at h
  · rename_i h4; exact h4.2
  · cases h
/-- A row of texts stays, where a row of another kind grows. -/
theorem KS.grown {w w' : World} {B base : Nat} {v s : Value} {ks : List ByteArray} {n size : Nat} {e : TypeId} {xs : List Value} (h : KS w B v ks) (ho : w.ownsRow base e size s n xs) (hne : e ≠ 9) (hg : w.grownBy w' s.ownBlock) : KS w' B v ks := by
  obtain ⟨h1, h2 | ⟨g, cap, cur, h3, h4, h5, h6⟩⟩ := h
  · exact ⟨h1, .inl h2⟩
  · obtain ⟨c, hc, ec⟩ := grown_own hg (b := g) (t := 9) (ys := cur.toList) ⟨cur, h5, rfl⟩ (other_block ho (b := g) (t := 9) (ys := cur.toList) ⟨cur, h5, rfl⟩ hne)
    have : c = cur := Array.toList_inj.1 ec
    subst this
    exact ⟨h1, .inr ⟨g, cap, c, h3, h4, hc, h6⟩⟩
theorem KS.alloc {w : World} {B : Nat} {v : Value} {ks : List ByteArray} (h : KS w B v ks) (o : Obj) : KS (w.alloc o) B v ks := h.below ((Below.refl _ _).alloc (Nat.le_refl _) o)
end Go.Proofs.YtcglddahphkcpaaGreatDoor

namespace Go.Proofs.YtcglddahphkcpaaGreatDoor
open Go.RowKit
set_option linter.unusedVariables false

theorem KS.snoc {w3 : World} {B : Nat} {v' : Value} {ks : List ByteArray} {key : ByteArray} {k : Nat} (hk : ks.length = k) (ho : w3.ownsRow B 9 1 v' (k + 1) (ks.map Value.string ++ [.string key])) : KS w3 B v' (ks ++ [key]) := by
  subst hk
  unfold KS
  simpa using ho
theorem KS.row {w : World} {B : Nat} {v : Value} {ks : List ByteArray} {k : Nat} (h : KS w B v ks) (hk : ks.length = k) : w.ownsRow B 9 1 v k (ks.map Value.string) := by
  subst hk; exact h
/-- Parts, and one more that lies elsewhere. -/
theorem SS.lvSnoc {w2 w3 : World} {o : Obj} {B k : Nat} {s v' : Value} {ps : List (List M.Cl)} {u : List M.Cl} {ss : List Value} {b off cap : Nat} (hk : ps.length = k) (hl : ss.length = ps.length) (hown : w2.ownsRow B 24 1 s ps.length ss) (hres : ∀ i, i < ps.length → Res w2 B (ss.getD i (.slice none 0 0)) (ps.getD i [])) (hne : ∀ i, i < ps.length → ps.getD i [] ≠ []) (hg : (w2.alloc o).grownBy w3 s.ownBlock) (ho : w3.ownsRow B 24 1 v' (k + 1) (ss ++ [.slice (some ⟨b, off, none⟩) u.length cap])) (hrow : Row w3 b off u) (hb : b < w3.heap.size) (hcap : u.length ≤ cap) :
    ∃ a c, v' = .slice a (ps ++ [u]).length c ∧ (ps ++ [u]).length ≤ c ∧ LV w3 a (ps ++ [u]) := by
  subst hk
  have keep : ∀ (r : Value) (l : List M.Cl), Res w2 B r l → Res w3 B r l := fun r l h => grown_res (hown.alloc o) hg (h.alloc o) (by decide)
  obtain ⟨_, ⟨_, h0⟩ | ⟨g, c, cur, rfl, hgB, hh, hnc, hcm, hcs, ht⟩⟩ := ho
  · omega
  · refine ⟨some ⟨g, 0, none⟩, c, by simp, by simpa using hnc, fun i hi => ?_⟩
    rw [List.length_append] at hi
    simp only [List.length_cons, List.length_nil] at hi
    have hcell := row_at (base := 0) (cap := 0) (i := i) hh ht (by omega)
    by_cases e : i < ps.length
    · obtain ⟨bi, ci, he, hci, hO⟩ := res_any (keep _ _ (hres i e)) (hne i e)
      rw [show (ps ++ [u]).getD i [] = ps.getD i [] from by rw [List.getD_eq_getElem?_getD, List.getElem?_append_left e, ← List.getD_eq_getElem?_getD]]
      refine ⟨g, bi, 0, ci, rfl, (Array.getElem?_eq_some_iff.1 hh).1, ?_, hci, hO.lt, hO.row⟩
      rw [hcell, List.getElem?_append_left (by omega), List.getElem?_eq_getElem (by omega)]
      rw [List.getD_eq_getElem?_getD, List.getElem?_eq_getElem (by omega)] at he
      simp only [Option.getD_some] at he
      rw [he]
    · obtain rfl : i = ps.length := by omega
      rw [show (ps ++ [u]).getD ps.length [] = u from by rw [List.getD_eq_getElem?_getD, List.getElem?_append_right (Nat.le_refl _), Nat.sub_self]; rfl]
      refine ⟨g, b, off, cap, rfl, (Array.getElem?_eq_some_iff.1 hh).1, ?_, hcap, hb, hrow⟩
      rw [hcell, List.getElem?_append_right (by omega), hl, Nat.sub_self]
      rfl
/-- What is known of an object that is made. -/
theorem obj_made {ks : List ByteArray} {ps : List (List M.Cl)} (hlen : ks.length = ps.length) (hn : ks.length ≤ 4096) (hv : ∀ j, j < ps.length → M.valueFault (ps.getD j []) = 0) (hok : OkS ps) (hk : TextsOk ks) : objV ks ps ≠ [] ∧ (objV ks ps).length ≤ 1048576 ∧ ∀ c ∈ objV ks ps, c.ok := by
  have hst := St.stand_lt ks ks.length
  have hsl := St.stand_length ks ks.length
  have hL : ∀ p ∈ St.stand ks ks.length, (ps.getD p []).length ≤ 200 := fun p hp => (fault_len (hv p (by have := hst p hp; omega))).2
  refine ⟨by unfold objV objK; simp, ?_, ?_⟩
  · have := objK_length ks ps _ hL _ (Nat.le_refl _)
    unfold objV
    omega
  · refine objK_ok ks ps _ (by omega) (fun p hp => hok p (by have := hst p hp; omega)) (fun p hp => ?_) _ (Nat.le_refl _)
    have := hk p (hst p hp)
    unfold M.textOk at this
    rw [Bool.and_eq_true] at this
    have := of_decide_eq_true this.1
    omega
theorem texts_snoc {ks : List ByteArray} {key : ByteArray} (h : TextsOk ks) (hk : M.textOk key = true) : TextsOk (ks ++ [key]) := by
  intro j hj
  rw [List.length_append] at hj
  simp only [List.length_cons, List.length_nil] at hj
  by_cases e : j < ks.length
  · rw [List.getD_eq_getElem?_getD, List.getElem?_append_left e, ← List.getD_eq_getElem?_getD]; exact h j e
  · obtain rfl : j = ks.length := by omega
    rw [List.getD_eq_getElem?_getD, List.getElem?_append_right (Nat.le_refl _), Nat.sub_self]; exact hk
theorem parts_snoc {P : List M.Cl → Prop} {ps : List (List M.Cl)} {u : List M.Cl} (h : ∀ j, j < ps.length → P (ps.getD j [])) (hu : P u) : ∀ j, j < (ps ++ [u]).length → P ((ps ++ [u]).getD j []) := by
  intro j hj
  rw [List.length_append] at hj
  simp only [List.length_cons, List.length_nil] at hj
  by_cases e : j < ps.length
  · rw [List.getD_eq_getElem?_getD, List.getElem?_append_left e, ← List.getD_eq_getElem?_getD]; exact h j e
  · obtain rfl : j = ps.length := by omega
    rw [List.getD_eq_getElem?_getD, List.getElem?_append_right (Nat.le_refl _), Nat.sub_self]; exact hu

/-- What SetKey tells, of values without a fault and a key that fits. -/
def setIn (v : List M.Cl) (key : ByteArray) (u : List M.Cl) : Int × List M.Cl := if (v.getD 0 M.zero).kind ≠ 0 ∧ (v.getD 0 M.zero).kind ≠ 6 then (6, []) else told (objV (keysAt v 0 ++ [key]) (subs v 0 ++ [u]))
def setOut (v : List M.Cl) (key : ByteArray) (u : List M.Cl) : Int × List M.Cl := if bothOut v u ≠ 0 then (bothOut v u, []) else if M.textOk key = true then setIn v key u else (5, [])
theorem set_bad {v : List M.Cl} {key : ByteArray} {u : List M.Cl} (h : bothOut v u ≠ 0) : setOut v key u = (bothOut v u, []) := if_pos h
theorem set_text {v : List M.Cl} {key : ByteArray} {u : List M.Cl} (h : bothOut v u = 0) (ht : M.textOk key = false) : setOut v key u = (5, []) := by unfold setOut; rw [if_neg (by simp [h]), if_neg (by simp [ht])]
theorem set_ok {v : List M.Cl} {key : ByteArray} {u : List M.Cl} (h : bothOut v u = 0) (ht : M.textOk key = true) : setOut v key u = setIn v key u := by unfold setOut; rw [if_neg (by simp [h]), if_pos ht]
theorem set_kind {v : List M.Cl} {key : ByteArray} {u : List M.Cl} (h0 : (v.getD 0 M.zero).kind ≠ 0) (h6 : (v.getD 0 M.zero).kind ≠ 6) : setIn v key u = (6, []) := if_pos ⟨h0, h6⟩
theorem set_some {v : List M.Cl} {key : ByteArray} {u : List M.Cl} (h : (v.getD 0 M.zero).kind = 0 ∨ (v.getD 0 M.zero).kind = 6) : setIn v key u = told (objV (keysAt v 0 ++ [key]) (subs v 0 ++ [u])) := if_neg fun g => by
  rcases h with h | h
  · exact g.1 h
  · exact g.2 h
theorem app_string (key : ByteArray) : ∀ u ∈ ([Value.string key] : List Value), u.oneCell' = true := by
  intro u hu; simp only [List.mem_cons, List.not_mem_nil, or_false] at hu; subst hu; rfl

end Go.Proofs.YtcglddahphkcpaaGreatDoor

namespace Go.Proofs.YtcglddahphkcpaaGreatDoor
open Go.RowKit
set_option linter.unusedVariables false

theorem SS.one {w : World} {B : Nat} {v : Value} {ps : List (List M.Cl)} {ss : List Value} (hl : ss.length = ps.length) (hr : ∀ i, i < ps.length → Res w B (ss.getD i (.slice none 0 0)) (ps.getD i [])) : ∀ u ∈ ss, u.oneCell' = true := by
  intro u hu
  obtain ⟨i, hi, rfl⟩ := List.getElem_of_mem hu
  have := hr i (by omega)
  rw [List.getD_eq_getElem?_getD, List.getElem?_eq_getElem hi] at this
  obtain ⟨a, n, c, e⟩ := this.shape
  simp only [Option.getD_some] at e
  rw [e]; rfl
theorem told_str (s : ByteArray) : told [strCl s] = strOut s := by
  cases h : M.textOk s with
  | false =>
    have hne : s.toList ≠ [] := by
      intro e
      have hs : s = ByteArray.empty := bytes_ext (by rw [e, empty_toList])
      rw [hs] at h
      exact absurd h (by decide)
    have hc : M.cellCode (strCl s) = 5 := by
      unfold strCl M.cellCode
      simp only
      rw [if_neg (by omega), if_neg, if_neg (by omega), if_neg (by simp [h])]
      intro g
      rcases g with g | g | g
      · exact g.1 rfl
      · exact g.2 rfl
      · exact g.1 rfl
    have hf : M.valueFault [strCl s] = 5 := by unfold M.valueFault; rw [if_neg (by simp)]; simp [M.firstCode, hc]
    rw [str_bad h, told_bad (by rw [hf]; decide), hf]
  | true => rw [str_ok h, told_ok (one_valid (code_str h) empty_toList rfl).1]; rfl
theorem zero_valid : M.valueFault [M.zero] = 0 ∧ ∀ c ∈ [M.zero], c.ok := by
  refine ⟨(one_valid (c := M.zero) ?_ empty_toList rfl).1, fun c hc => ?_⟩
  · unfold M.zero M.cellCode
    simp only
    rw [if_neg (by omega), if_neg, if_neg (by omega), if_pos ⟨by decide, by decide⟩]
    intro g
    rcases g with g | g | g
    · exact g.1 rfl
    · exact g.1 empty_toList
    · exact g.1 rfl
  · simp only [List.mem_cons, List.not_mem_nil, or_false] at hc
    subst hc
    unfold M.zero M.Cl.ok
    simp only
    refine ⟨by omega, by omega, by omega, by decide, by decide⟩

end Go.Proofs.YtcglddahphkcpaaGreatDoor
