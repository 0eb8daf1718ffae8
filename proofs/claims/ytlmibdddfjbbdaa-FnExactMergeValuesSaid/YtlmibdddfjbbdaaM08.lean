/-
  Where a value ends and how deep it is: spec.l1Shape returns the plain function M.walk.
-/
import Derived.Test.YtlmibdddfjbbdaaM00
import Derived.Test.YtlmibdddfjbbdaaM01
import Derived.Deep.RegionWith
namespace Go.Proofs.Ytlmibdddfjbbdaa
open Go.RowKit
set_option linter.unusedVariables false

theorem walk_eq (v : List M.Cl) (f at' : Nat) (c : M.Cl) (hc : c = v.getD at' M.zero) : M.walk v (f + 1) at' = (M.kids (M.walk v f) v c c.n.toNat 0 (at' + 1) 0 ByteArray.empty).map fun r => (r.1, r.2 + 1) := by subst hc; rfl

theorem kids_stop (rec : Nat → Option (Nat × Nat)) (v : List M.Cl) (c : M.Cl) (m k e d : Nat) (last : ByteArray) (h : M.bad v c k e last = true) (hm : 0 < m) : M.kids rec v c m k e d last = none := by
  cases m with
  | zero => omega
  | succ m => simp [M.kids, h]
theorem kids_none (rec : Nat → Option (Nat × Nat)) (v : List M.Cl) (c : M.Cl) (m k e d : Nat) (last : ByteArray) (hr : rec e = none) (hm : 0 < m) : M.kids rec v c m k e d last = none := by
  cases m with
  | zero => omega
  | succ m => simp only [M.kids, hr]; split <;> rfl
theorem kids_some (rec : Nat → Option (Nat × Nat)) (v : List M.Cl) (c : M.Cl) (m k e d : Nat) (last : ByteArray) (h : M.bad v c k e last = false) (e' d' : Nat) (hr : rec e = some (e', d')) (hm : 0 < m) :
    M.kids rec v c m k e d last = M.kids rec v c (m - 1) (k + 1) e' (max d d') (v.getD e M.zero).key := by
  cases m with
  | zero => omega
  | succ m => simp [M.kids, h, hr]

/-- What spec.l1Shape answers. -/
def shOut (r : Option (Nat × Nat)) : Value := match r with | none => .tuple #[.int .i64 (-1), .int .i64 0] | some (e, d) => .tuple #[.int .i64 e, .int .i64 d]

theorem sh_none (v : List M.Cl) (f at' : Nat) (c : M.Cl) (K : Option (Nat × Nat)) (h1 : M.walk v (f + 1) at' = (M.kids (M.walk v f) v c c.n.toNat 0 (at' + 1) 0 ByteArray.empty).map fun r => (r.1, r.2 + 1))
    (h2 : M.kids (M.walk v f) v c c.n.toNat 0 (at' + 1) 0 ByteArray.empty = K) (h3 : K = none) : shOut (M.walk v (f + 1) at') = .tuple #[.int .i64 (-1), .int .i64 0] := by rw [h1, h2, h3]; rfl
theorem sh_some (v : List M.Cl) (f at' e d : Nat) (c : M.Cl) (K : Option (Nat × Nat)) (h1 : M.walk v (f + 1) at' = (M.kids (M.walk v f) v c c.n.toNat 0 (at' + 1) 0 ByteArray.empty).map fun r => (r.1, r.2 + 1))
    (h2 : M.kids (M.walk v f) v c c.n.toNat 0 (at' + 1) 0 ByteArray.empty = K) (h3 : K = some (e, d)) : shOut (M.walk v (f + 1) at') = .tuple #[.int .i64 e, .int .i64 ((d : Int) + 1)] := by rw [h1, h2, h3]; rfl

/-- The ways on which a part may not begin. -/
theorem bad_end (v : List M.Cl) (c : M.Cl) (k e : Nat) (last : ByteArray) (h : v.length ≤ e) : M.bad v c k e last = true := by unfold M.bad; rw [if_neg (by omega)]
theorem bad_five (v : List M.Cl) (c ce : M.Cl) (k e : Nat) (last : ByteArray) (hlt : e < v.length) (hce : ce = v.getD e M.zero) (h5 : c.kind = 5) (hk : ce.key.toList ≠ []) : M.bad v c k e last = true := by
  subst hce; unfold M.bad; rw [if_pos hlt, decide_eq_true h5, decide_eq_true hk]; rfl
theorem bad_six (v : List M.Cl) (c ce : M.Cl) (k e : Nat) (last : ByteArray) (hlt : e < v.length) (hce : ce = v.getD e M.zero) (h6 : c.kind = 6) (hk : 0 < k) (hle : M.keyLe ce.key last = true) : M.bad v c k e last = true := by
  subst hce; unfold M.bad; rw [if_pos hlt, decide_eq_true h6, decide_eq_true hk, hle]; simp
theorem good_of (v : List M.Cl) (c ce : M.Cl) (k e : Nat) (last : ByteArray) (hlt : e < v.length) (hce : ce = v.getD e M.zero) (h5 : c.kind = 5 → ce.key.toList = []) (h6 : c.kind = 6 → 0 < k → M.keyLe ce.key last = false) : M.bad v c k e last = false := by
  subst hce; unfold M.bad; rw [if_pos hlt]
  simp only [Bool.or_eq_false_iff, Bool.and_eq_false_iff, decide_eq_false_iff_not]
  constructor
  · by_cases h : c.kind = 5
    · exact .inr (fun g => g (h5 h))
    · exact .inl h
  · by_cases h : c.kind = 6
    · by_cases g : 0 < k
      · exact .inr (h6 h g)
      · exact .inl (.inr g)
    · exact .inl (.inl h)

/-- One round, decided: what it comes to. -/
theorem round_cases (v : List M.Cl) (c ce : M.Cl) (k e : Nat) (last : ByteArray) (hlt : e < v.length) (hce : ce = v.getD e M.zero) (P : Prop)
    (b5 : (c.kind == 5) = true → ce.key.toList ≠ [] → M.bad v c k e last = true → P)
    (b6 : (c.kind == 5) = false → (c.kind == 6) = true → 0 < k → (Op.bytesLess ce.key.toList last.toList || (ce.key.toList == last.toList)) = true → M.bad v c k e last = true → P)
    (g5 : (c.kind == 5) = true → (c.kind == 6) = false → ce.key.toList = [] → M.bad v c k e last = false → P)
    (g6 : (c.kind == 5) = false → (c.kind == 6) = true → ¬ 0 < k → M.bad v c k e last = false → P)
    (g6' : (c.kind == 5) = false → (c.kind == 6) = true → 0 < k → (Op.bytesLess ce.key.toList last.toList || (ce.key.toList == last.toList)) = false → M.bad v c k e last = false → P)
    (g0 : (c.kind == 5) = false → (c.kind == 6) = false → M.bad v c k e last = false → P) : P := by
  by_cases h5 : c.kind = 5
  · have n6 : ¬ c.kind = 6 := by omega
    by_cases hk : ce.key.toList = []
    · exact g5 (by simp [h5]) (by simp [n6]) hk (good_of v c ce k e last hlt hce (fun _ => hk) (fun h => absurd h n6))
    · exact b5 (by simp [h5]) hk (bad_five v c ce k e last hlt hce h5 hk)
  · by_cases h6 : c.kind = 6
    · by_cases h0 : 0 < k
      · cases hle : M.keyLe ce.key last
        · exact g6' (by simp [h5]) (by simp [h6]) h0 hle (good_of v c ce k e last hlt hce (fun h => absurd h h5) (fun _ _ => hle))
        · exact b6 (by simp [h5]) (by simp [h6]) h0 hle (bad_six v c ce k e last hlt hce h6 h0 hle)
      · exact g6 (by simp [h5]) (by simp [h6]) h0 (good_of v c ce k e last hlt hce (fun h => absurd h h5) (fun _ h => absurd h h0))
    · exact g0 (by simp [h5]) (by simp [h6]) (good_of v c ce k e last hlt hce (fun h => absurd h h5) (fun h => absurd h h6))

end Go.Proofs.Ytlmibdddfjbbdaa
