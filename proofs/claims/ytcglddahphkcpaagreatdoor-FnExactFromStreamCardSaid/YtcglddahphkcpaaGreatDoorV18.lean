/-
  Answers that tell a code and a value, and the small makers of them.
  What the getters tell, plainly, and what those are told that lay slices of slices by a literal.
  The faults of two values, one behind the other.
  spec.EachOf and impl.EachOf.
-/
import Derived.Test.YtcglddahphkcpaaGreatDoorV03
import Derived.Test.YtcglddahphkcpaaGreatDoorV17
namespace Go.Proofs.YtcglddahphkcpaaGreatDoor
open Go.RowKit
set_option linter.unusedVariables false

/-- The call told the code and the cells of out, these in memory of their own. -/
def Ans (w : World) (out : Int × List M.Cl) (e : Ending) (w' : World) : Prop := ∃ s, e = .returned (.agg #[.int .i64 out.1, s]) ∧ Res w' w.heap.size s out.2 ∧ Below w.heap.size w w'
theorem ans_of {w w' : World} {out : Int × List M.Cl} {c : Int} {s : Value} {l : List M.Cl} (fin : out = (c, l)) (hr : Res w' w.heap.size s l) (hb : Below w.heap.size w w') : Ans w out (.returned (.agg #[.int .i64 c, s])) w' := by
  subst fin; exact ⟨s, rfl, hr, hb⟩
theorem resNil (w : World) (B : Nat) : Res w B (.slice none 0 0) [] := ⟨by simp, .inl ⟨rfl, rfl⟩⟩
/-- What was told is stored into the call's own answer. -/
theorem Ans.store {w w1 w2 : World} {s : Value} {l : List M.Cl} (hr : Res w2 w1.heap.size s l) (B1 : Below w.heap.size w w1) (hsz : w.heap.size < w1.heap.size) (hb : Below w1.heap.size w1 w2) (x y : Value) :
    Res ((w2.setCell ⟨w.heap.size, 0, none⟩ x).setCell ⟨w.heap.size, 1, none⟩ y) w.heap.size s l ∧ Below w.heap.size w ((w2.setCell ⟨w.heap.size, 0, none⟩ x).setCell ⟨w.heap.size, 1, none⟩ y) := by
  have hne : ∀ b, s.ownBlock = some b → b ≠ w.heap.size := fun b h => by have := hr.base b h; omega
  exact ⟨((hr.mono B1.size).setOther _ _ hne).setOther _ _ hne, ((B1.trans (hb.mono B1.size)).setCell (Nat.le_refl _) _).setCell (Nat.le_refl _) _⟩
theorem store_below {w w1 : World} (B1 : Below w.heap.size w w1) (x y : Value) : Below w.heap.size w ((w1.setCell ⟨w.heap.size, 0, none⟩ x).setCell ⟨w.heap.size, 1, none⟩ y) := (B1.setCell (Nat.le_refl _) _).setCell (Nat.le_refl _) _

/-- A row of one cell, laid by a literal. -/
theorem one_cell (w : World) (B b : Nat) (c : M.Cl) (hb : b = w.heap.size) (hB : B ≤ w.heap.size) : Res (w.alloc (.cells #[.int .i64 c.kind, .int .i64 c.num, .string c.text, .string c.key, .int .i64 c.n] 111)) B (.slice (some ⟨b, 0, none⟩) 1 1) [c] := by
  subst hb
  refine ⟨by simp, .inr ⟨w.heap.size, 1, rfl, hB, by simp, ⟨_, ⟨_, heap_alloc_new _ _, rfl⟩, by simp, fun i hi => ?_⟩⟩⟩
  simp only [List.length_cons, List.length_nil] at hi
  obtain rfl : i = 0 := by omega
  exact ⟨rfl, rfl, rfl, rfl, rfl⟩

set_option maxHeartbeats 400000 in
theorem l3Bad_any (c : Int) (w : World) : Calls Tryz.prog 131 #[.int .i64 c] w (Ans w (c, [])) := by
  go_enter Tryz.func131, Tryz.ntmps131
  go_wp2_with fail
  refine bodyPost_ret (v := .agg #[.int .i64 c, .slice none 0 0]) (by simp [results, Tryz.results131, go_sem]) rfl (ans_of rfl (resNil _ _) ((Below.refl _ _).alloc (Nat.le_refl _) _))

set_option maxHeartbeats 400000 in
theorem l3Null_any (w : World) : Calls Tryz.prog 33 #[] w fun e w' => ∃ s, e = .returned s ∧ Res w' w.heap.size s [M.zero] ∧ Below w.heap.size w w' := by
  go_enter Tryz.func33, Tryz.ntmps33
  go_wp2_with fail
  go_ret
  exact ⟨_, rfl, one_cell w w.heap.size w.heap.size M.zero rfl (Nat.le_refl _), (Below.refl _ _).alloc (Nat.le_refl _) _⟩
set_option maxHeartbeats 400000 in
theorem nullResult_any (w : World) : Calls Tryz.prog 38 #[] w (Ans w (0, [M.zero])) := by
  go_enter Tryz.func38, Tryz.ntmps38
  go_wp2_with fail
  refine bodyPost_ret (v := .agg #[.int .i64 0, .slice (some ⟨w.heap.size + 1, 0, none⟩) 1 1]) (by simp [results, Tryz.results38, go_sem]) rfl (ans_of rfl ?_ ?_)
  · exact one_cell (w.alloc _) w.heap.size (w.heap.size + 1) M.zero (by simp) (by simp)
  · exact ((Below.refl _ _).alloc (Nat.le_refl _) _).alloc (by simp) _

end Go.Proofs.YtcglddahphkcpaaGreatDoor

namespace Go.Proofs.YtcglddahphkcpaaGreatDoor
open Go.RowKit
set_option linter.unusedVariables false

theorem code_fields' {c : M.Cl} (h : M.cellCode c = 0) : (c.kind ≠ 3 → c.num = 0) ∧ (c.kind ≠ 4 → c.text.toList = []) ∧ (c.kind ≠ 5 → c.kind ≠ 6 → c.n = 0) := by
  unfold M.cellCode at h
  split at h
  · cases h
  split at h
  · cases h
  rename_i h1
  refine ⟨fun hk => ?_, fun hk => ?_, fun hk hk' => ?_⟩
  · by_cases e : c.num = 0
    · exact e
    · exact absurd (.inl ⟨e, hk⟩) h1
  · by_cases e : c.text.toList = []
    · exact e
    · exact absurd (.inr (.inl ⟨e, hk⟩)) h1
  · by_cases e : c.n = 0
    · exact e
    · exact absurd (.inr (.inr ⟨e, hk, hk'⟩)) h1
/-- The member of a key; null, if there is none. -/
def getV (v : List M.Cl) (key : ByteArray) : List M.Cl := match (List.range (M.arity v 0)).find? (fun j => (v.getD (M.iter v j 1) M.zero).key.toList == key.toList) with
  | some j => part v (M.iter v j 1)
  | none => [M.zero]
def getOut (v : List M.Cl) (key : ByteArray) : Int × List M.Cl := if (v.getD 0 M.zero).kind ≠ 0 ∧ (v.getD 0 M.zero).kind ≠ 6 then (6, []) else (0, getV v key)
theorem getV_hit {v : List M.Cl} {key : ByteArray} {k : Nat} (hk : k < M.arity v 0) (h : ∀ j, j < k → ((v.getD (M.iter v j 1) M.zero).key.toList == key.toList) = false) (hh : ((v.getD (M.iter v k 1) M.zero).key.toList == key.toList) = true) : getV v key = part v (M.iter v k 1) := by
  unfold getV
  rw [List.find?_range_eq_some.2 ⟨hh, List.mem_range.2 hk, fun j hj => by rw [h j hj]; rfl⟩]
theorem getV_none {v : List M.Cl} {key : ByteArray} (h : ∀ j, j < M.arity v 0 → ((v.getD (M.iter v j 1) M.zero).key.toList == key.toList) = false) : getV v key = [M.zero] := by
  unfold getV
  rw [List.find?_range_eq_none.2 fun j hj => by rw [h j hj]; rfl]
theorem get_kind {v : List M.Cl} {key : ByteArray} (h0 : (v.getD 0 M.zero).kind ≠ 0) (h6 : (v.getD 0 M.zero).kind ≠ 6) : getOut v key = (6, []) := if_pos ⟨h0, h6⟩
theorem get_some {v : List M.Cl} {key : ByteArray} (h : (v.getD 0 M.zero).kind = 0 ∨ (v.getD 0 M.zero).kind = 6) : getOut v key = (0, getV v key) := if_neg fun g => by
  rcases h with h | h
  · exact g.1 h
  · exact g.2 h
theorem arity_null {v : List M.Cl} (hv : M.valueFault v = 0) (h : (v.getD 0 M.zero).kind ≠ 5) (h' : (v.getD 0 M.zero).kind ≠ 6) : M.arity v 0 = 0 := by
  have hl := (M.fault_zero hv).1
  have := (code_fields' (M.first_zero (M.fault_zero hv).2.2.1 _ (getD_mem v 0 (by omega)))).2.2 h h'
  unfold M.arity
  rw [this]
  rfl
theorem get_null {v : List M.Cl} {key : ByteArray} (hv : M.valueFault v = 0) (h : (v.getD 0 M.zero).kind = 0) : getOut v key = (0, [M.zero]) := by
  rw [get_some (.inl h), getV_none]
  intro j hj
  rw [arity_null hv (by rw [h]; decide) (by rw [h]; decide)] at hj
  omega

/-- The element of a number, from the end on, if it is below 0; null, if there is none. -/
def idxV (v : List M.Cl) (n : Int) : List M.Cl := if n < -(M.arity v 0 : Int) ∨ (M.arity v 0 : Int) ≤ n then [M.zero] else part v (M.iter v (if n < 0 then n + M.arity v 0 else n).toNat 1)
def idxOut (v : List M.Cl) (n : Int) : Int × List M.Cl := if (v.getD 0 M.zero).kind ≠ 0 ∧ (v.getD 0 M.zero).kind ≠ 5 then (6, []) else (0, idxV v n)
theorem idx_some {v : List M.Cl} {n : Int} (h : (v.getD 0 M.zero).kind = 0 ∨ (v.getD 0 M.zero).kind = 5) : idxOut v n = (0, idxV v n) := if_neg fun g => by
  rcases h with h | h
  · exact g.1 h
  · exact g.2 h
theorem idx_pos {v : List M.Cl} {k : Nat} (h2 : k < M.arity v 0) : idxV v k = part v (M.iter v k 1) := by
  unfold idxV; rw [if_neg (by omega), if_neg (by omega), Int.toNat_natCast]
def getKeyOut (v : List M.Cl) (key : ByteArray) : Int × List M.Cl := if M.valueFault v ≠ 0 then (M.valueFault v, []) else if M.textOk key = true then getOut v key else (5, [])
theorem gk_bad {v : List M.Cl} {key : ByteArray} (h : M.valueFault v ≠ 0) : getKeyOut v key = (M.valueFault v, []) := if_pos h
theorem gk_text {v : List M.Cl} {key : ByteArray} (h : M.valueFault v = 0) (ht : M.textOk key = false) : getKeyOut v key = (5, []) := by unfold getKeyOut; rw [if_neg (by simp [h]), if_neg (by simp [ht])]
theorem gk_ok {v : List M.Cl} {key : ByteArray} (h : M.valueFault v = 0) (ht : M.textOk key = true) : getKeyOut v key = getOut v key := by unfold getKeyOut; rw [if_neg (by simp [h]), if_pos ht]
/-- An element of a row of slices. -/
theorem SS.at {w : World} {B : Nat} {v : Value} {ps : List (List M.Cl)} (h : SS w B v ps) {i : Nat} (hi : i < ps.length) : ∃ g cap s, v = .slice (some ⟨g, 0, none⟩) ps.length cap ∧ ps.length ≤ cap ∧ w.cell? ⟨g, i, none⟩ = some s ∧ Res w B s (ps.getD i []) := by
  obtain ⟨ss, hl, ho, hr⟩ := h
  obtain ⟨_, ⟨rfl, h0⟩ | ⟨g, cap, cur, rfl, hg, hh, hnc, hcm, hcs, ht⟩⟩ := ho
  · omega
  · refine ⟨g, cap, ss.getD i (.slice none 0 0), rfl, hnc, ?_, hr i hi⟩
    rw [row_at (base := 0) (cap := 0) hh ht hi, List.getElem?_eq_getElem (by omega), List.getD_eq_getElem?_getD, List.getElem?_eq_getElem (by omega)]
    rfl

theorem LV.one (w : World) (g b off cap : Nat) (v : List M.Cl) (t : TypeId) (hg : g = w.heap.size) (hrow : Row w b off v) (hb : b < w.heap.size) (hcap : v.length ≤ cap) : LV (w.alloc (.cells #[.slice (some ⟨b, off, none⟩) v.length cap] t)) (some ⟨g, 0, none⟩) [v] := by
  subst hg
  intro i hi
  simp only [List.length_cons, List.length_nil] at hi
  obtain rfl : i = 0 := by omega
  exact ⟨w.heap.size, b, off, cap, rfl, by simp, World.cell?_alloc_mark w _ _ (0, 0) 0, hcap, by simp; omega, hrow.below ((Below.refl _ _).alloc (Nat.le_refl _) _) hb⟩
theorem LV.two (w : World) (g b off cap b' off' cap' : Nat) (v u : List M.Cl) (t : TypeId) (hg : g = w.heap.size) (hrow : Row w b off v) (hb : b < w.heap.size) (hcap : v.length ≤ cap) (hrow' : Row w b' off' u) (hb' : b' < w.heap.size) (hcap' : u.length ≤ cap') : LV (w.alloc (.cells #[.slice (some ⟨b, off, none⟩) v.length cap, .slice (some ⟨b', off', none⟩) u.length cap'] t)) (some ⟨g, 0, none⟩) [v, u] := by
  subst hg
  intro i hi
  simp only [List.length_cons, List.length_nil] at hi
  by_cases h0 : i = 0
  · subst h0
    exact ⟨w.heap.size, b, off, cap, rfl, by simp, World.cell?_alloc_mark w _ _ (0, 0) 0, hcap, by simp; omega, hrow.below ((Below.refl _ _).alloc (Nat.le_refl _) _) hb⟩
  · obtain rfl : i = 1 := by omega
    exact ⟨w.heap.size, b', off', cap', rfl, by simp, World.cell?_alloc_mark w _ _ (0, 0) 1, hcap', by simp; omega, hrow'.below ((Below.refl _ _).alloc (Nat.le_refl _) _) hb'⟩
theorem okS_one {v : List M.Cl} (h : ∀ c ∈ v, c.ok) : OkS [v] := by
  intro i hi
  simp only [List.length_cons, List.length_nil] at hi
  obtain rfl : i = 0 := by omega
  exact h
theorem okS_two {v u : List M.Cl} (h : ∀ c ∈ v, c.ok) (h' : ∀ c ∈ u, c.ok) : OkS [v, u] := by
  intro i hi
  simp only [List.length_cons, List.length_nil] at hi
  by_cases h0 : i = 0
  · subst h0; exact h
  · obtain rfl : i = 1 := by omega
    exact h'
theorem len_one {v : List M.Cl} (h : v.length ≤ 1048576) : ∀ j, j < [v].length → ([v].getD j []).length ≤ 1048576 := by
  intro i hi
  simp only [List.length_cons, List.length_nil] at hi
  obtain rfl : i = 0 := by omega
  exact h
theorem len_two {v u : List M.Cl} (h : v.length ≤ 1048576) (h' : u.length ≤ 1048576) : ∀ j, j < [v, u].length → ([v, u].getD j []).length ≤ 1048576 := by
  intro i hi
  simp only [List.length_cons, List.length_nil] at hi
  by_cases h0 : i = 0
  · subst h0; exact h
  · obtain rfl : i = 1 := by omega
    exact h'
theorem firstBad_one (v : List M.Cl) : firstBad [v] = M.valueFault v := by
  unfold firstBad; split
  · rename_i h; rw [h]; rfl
  · rfl
theorem firstBad_two (v u : List M.Cl) : firstBad [v, u] = if M.valueFault v = 0 then M.valueFault u else M.valueFault v := by
  rw [firstBad, firstBad_one]

/-- The fault of the values, and then that of the key. -/
def keyedOut (ps : List (List M.Cl)) (key : ByteArray) : Int := if firstBad ps ≠ 0 then firstBad ps else if M.textOk key = true then 0 else 5

set_option maxHeartbeats 1000000 in
theorem keyedFault_any (key : ByteArray) (a : Option Addr) (cap : Nat) (ps : List (List M.Cl)) (w : World) (hL : LV w a ps) (hcap : ps.length ≤ cap) (hn : ps.length ≤ 1048576) (hln : ∀ j, j < ps.length → (ps.getD j []).length ≤ 1048576) (hok : OkS ps) (hk : key.size ≤ 9223372036854775807) :
    Calls Tryz.prog 202 #[.string key, .slice a ps.length cap] w fun e w' => e = .returned (.int .i64 (keyedOut ps key)) ∧ Below w.heap.size w w' := by
  have H := hide (firstFaultV_any a cap ps w hL hcap hn hln hok)
  have HT := hide (textFits_any key)
  clear hL hok hln
  go_enter Tryz.func202, Tryz.ntmps202
  go_wp2_with fail
  refine (unhide H).mono ?_
  rintro e1 w1 ⟨rfl, hb1⟩
  generalize hq : firstBad ps = q
  by_cases hz : q = 0
  · subst hz
    go_wp2_with fail
    refine ((unhide HT) _ hk).mono ?_
    rintro e2 w2 ⟨rfl, rfl⟩
    have fin := hide (show keyedOut ps key = if M.textOk key = true then 0 else 5 by unfold keyedOut; rw [if_neg (by simp [hq])])
    cases ht : M.textOk key with
    | true =>
      rw [ht] at fin
      clear ht hq
      go_wp2_with fail
      go_ret
      exact ⟨ret_int (unhide fin).symm, hb1⟩
    | false =>
      rw [ht] at fin
      clear ht hq
      go_wp2_with fail
      go_ret
      exact ⟨ret_int (unhide fin).symm, hb1⟩
  · have fin := hide (show keyedOut ps key = q by unfold keyedOut; rw [if_pos (by rw [hq]; exact hz), hq])
    have hz' : (q == 0) = false := by simp [hz]
    clear hq
    go_wp2_with fail
    go_ret
    exact ⟨ret_int (unhide fin).symm, hb1⟩

end Go.Proofs.YtcglddahphkcpaaGreatDoor

namespace Go.Proofs.YtcglddahphkcpaaGreatDoor
open Go.RowKit
set_option linter.unusedVariables false

def bothOut (v u : List M.Cl) : Int := if M.valueFault v ≠ 0 then M.valueFault v else M.valueFault u
set_option maxHeartbeats 1000000 in
theorem l3Both_any (v : List M.Cl) (b off cap : Nat) (u : List M.Cl) (b' off' cap' : Nat) (w : World) (hrow : Row w b off v) (hb : b < w.heap.size) (hn : v.length ≤ 1048576) (hcap : v.length ≤ cap) (hok : ∀ c ∈ v, c.ok) (hrow' : Row w b' off' u) (hb' : b' < w.heap.size) (hn' : u.length ≤ 1048576) (hcap' : u.length ≤ cap') (hok' : ∀ c ∈ u, c.ok) :
    Calls Tryz.prog 134 #[.slice (some ⟨b, off, none⟩) v.length cap, .slice (some ⟨b', off', none⟩) u.length cap'] w fun e w' => e = .returned (.int .i64 (bothOut v u)) ∧ Below w.heap.size w w' := by
  have OK := hide hok
  have OK' := hide hok'
  clear hok hok'
  go_enter Tryz.func134, Tryz.ntmps134
  go_wp2_with fail
  refine (specFault_any v b off cap _ hrow hb hn hcap (unhide OK)).mono ?_
  rintro e1 w1 ⟨rfl, hb1⟩
  generalize hq : M.valueFault v = q
  by_cases hz : q = 0
  · subst hz
    have fin := hide (show bothOut v u = M.valueFault u by unfold bothOut; rw [if_neg (by simp [hq])])
    clear hq
    go_wp2_with fail
    refine (specFault_any u b' off' cap' _ (hrow'.below hb1 hb') (Nat.lt_of_lt_of_le hb' hb1.size) hn' hcap' (unhide OK')).mono ?_
    rintro e2 w2 ⟨rfl, hb2⟩
    go_wp2_with fail
    go_ret
    exact ⟨ret_int (unhide fin).symm, hb1.trans (hb2.mono hb1.size)⟩
  · have fin := hide (show bothOut v u = q by unfold bothOut; rw [if_pos (by rw [hq]; exact hz), hq])
    have hz' : (q == 0) = false := by simp [hz]
    clear hq
    go_wp2_with fail
    go_ret
    exact ⟨ret_int (unhide fin).symm, hb1⟩
theorem firstBad_both (v u : List M.Cl) : firstBad [v, u] = bothOut v u := by
  rw [firstBad_two]; unfold bothOut
  by_cases h : M.valueFault v = 0
  · rw [if_pos h, if_neg (by simp [h])]
  · rw [if_neg h, if_pos h]
theorem both_zero {v u : List M.Cl} (h : bothOut v u = 0) : M.valueFault v = 0 ∧ M.valueFault u = 0 := by
  unfold bothOut at h
  by_cases h1 : M.valueFault v = 0
  · rw [if_neg (by simp [h1])] at h; exact ⟨h1, h⟩
  · rw [if_pos h1] at h; exact absurd h h1
end Go.Proofs.YtcglddahphkcpaaGreatDoor

namespace Go.Proofs.YtcglddahphkcpaaGreatDoor
open Go.RowKit
set_option linter.unusedVariables false

/-- The call told the code and the lists of out. -/
def AnsS (w : World) (out : Int × List (List M.Cl)) (e : Ending) (w' : World) : Prop := ∃ s, e = .returned (.agg #[.int .i64 out.1, s]) ∧ PS w' w.heap.size w'.heap.size s out.2 ∧ Below w.heap.size w w'
def AnsR (w : World) (out : Int × List (List M.Cl)) (e : Ending) (w' : World) : Prop := ∃ s, e = .returned (.agg #[.int .i64 out.1, s]) ∧ PR w' w.heap.size w'.heap.size s out.2 ∧ Below w.heap.size w w'
theorem ansS_of {w w' : World} {out : Int × List (List M.Cl)} {c : Int} {s : Value} {l : List (List M.Cl)} (fin : out = (c, l)) (hr : PS w' w.heap.size w'.heap.size s l) (hb : Below w.heap.size w w') : AnsS w out (.returned (.agg #[.int .i64 c, s])) w' := by
  subst fin; exact ⟨s, rfl, hr, hb⟩
theorem ansR_of {w w' : World} {out : Int × List (List M.Cl)} {c : Int} {s : Value} {l : List (List M.Cl)} (fin : out = (c, l)) (hr : PR w' w.heap.size w'.heap.size s l) (hb : Below w.heap.size w w') : AnsR w out (.returned (.agg #[.int .i64 c, s])) w' := by
  subst fin; exact ⟨s, rfl, hr, hb⟩
theorem size_setCell2 (w : World) (p q : Addr) (x y : Value) : ((w.setCell p x).setCell q y).heap.size = w.heap.size := by simp
theorem heap_setCell2 (w : World) (b : Nat) (x y : Value) (k : Nat) (hk : k ≠ b) : ((w.setCell ⟨b, 0, none⟩ x).setCell ⟨b, 1, none⟩ y).heap[k]? = w.heap[k]? := (heap_setCell_other _ ⟨b, 1, none⟩ k y hk).trans (heap_setCell_other _ ⟨b, 0, none⟩ k x hk)
theorem PS.stored {w w1 w2 : World} {s : Value} {l : List (List M.Cl)} (hr : PS w2 w1.heap.size w2.heap.size s l) (B1 : Below w.heap.size w w1) (hsz : w.heap.size < w1.heap.size) (hb : Below w1.heap.size w1 w2) (x y : Value) :
    PS ((w2.setCell ⟨w.heap.size, 0, none⟩ x).setCell ⟨w.heap.size, 1, none⟩ y) w.heap.size ((w2.setCell ⟨w.heap.size, 0, none⟩ x).setCell ⟨w.heap.size, 1, none⟩ y).heap.size s l ∧ Below w.heap.size w ((w2.setCell ⟨w.heap.size, 0, none⟩ x).setCell ⟨w.heap.size, 1, none⟩ y) := by
  refine ⟨?_, ((B1.trans (hb.mono B1.size)).setCell (Nat.le_refl _) _).setCell (Nat.le_refl _) _⟩
  rw [size_setCell2]
  exact (hr.keep fun k h1 _ _ => heap_setCell2 w2 _ x y k (by omega)).mono (by omega) (Nat.le_refl _)
theorem PR.mono {w : World} {lo hi lo' hi' : Nat} {v : Value} {ps : List (List M.Cl)} (h : PR w lo hi v ps) (h1 : lo' ≤ lo) (h2 : hi ≤ hi') : PR w lo' hi' v ps := by
  rcases h with h | ⟨g, cap, xs, β, γ, q1, q2, q3, q4, q5, q6, q7⟩
  · exact .inl h
  · exact .inr ⟨g, cap, xs, β, γ, q1, q2, by omega, by omega, q5, fun i hi => ⟨(q6 i hi).1, (q6 i hi).2.1, by have := (q6 i hi).2.2.1; omega, by have := (q6 i hi).2.2.2.1; omega, (q6 i hi).2.2.2.2⟩, q7⟩
theorem PR.stored {w w1 w2 : World} {s : Value} {l : List (List M.Cl)} (hr : PR w2 w1.heap.size w2.heap.size s l) (B1 : Below w.heap.size w w1) (hsz : w.heap.size < w1.heap.size) (hb : Below w1.heap.size w1 w2) (x y : Value) :
    PR ((w2.setCell ⟨w.heap.size, 0, none⟩ x).setCell ⟨w.heap.size, 1, none⟩ y) w.heap.size ((w2.setCell ⟨w.heap.size, 0, none⟩ x).setCell ⟨w.heap.size, 1, none⟩ y).heap.size s l ∧ Below w.heap.size w ((w2.setCell ⟨w.heap.size, 0, none⟩ x).setCell ⟨w.heap.size, 1, none⟩ y) := by
  refine ⟨?_, ((B1.trans (hb.mono B1.size)).setCell (Nat.le_refl _) _).setCell (Nat.le_refl _) _⟩
  rw [size_setCell2]
  exact (hr.keep fun k h1 _ _ => heap_setCell2 w2 _ x y k (by omega)).mono (by omega) (Nat.le_refl _)

end Go.Proofs.YtcglddahphkcpaaGreatDoor
