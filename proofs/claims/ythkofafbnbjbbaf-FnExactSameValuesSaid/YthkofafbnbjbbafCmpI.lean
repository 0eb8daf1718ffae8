/-
  The library's small comparisons, by their contracts.
-/
import Derived.Test.YthkofafbnbjbbafCmpU
import Derived.Lib.Bytealg
import Derived.Deep.RegionHeld3
namespace Go.Proofs.Ythkofafbnbjbbaf
open Go.RowKit
set_option linter.unusedVariables false

set_option maxHeartbeats 1000000 in
theorem cmpInt64_any (a b : Int) (w : World) : Calls Try.prog 71 #[.int .i64 a, .int .i64 b] w fun e w' => e = .returned (.int .i64 (sgn a b)) ∧ w' = w := by
  have ea : (a == a) = true := by simp
  have eb : (b == b) = true := by simp
  rcases (show a < b ∨ b < a ∨ a = b by omega) with h | h | rfl
  · have fin := hide (show sgn a b = -1 by unfold sgn; rw [if_pos h])
    go_enter Try.func71, Try.ntmps71
    go_wp2
    go_ret
    exact ⟨ret_int (unhide fin).symm, rfl⟩
  · have fin := hide (show sgn a b = 1 by unfold sgn; rw [if_neg (by omega), if_pos h])
    go_enter Try.func71, Try.ntmps71
    go_wp2
    go_ret
    exact ⟨ret_int (unhide fin).symm, rfl⟩
  · have fin := hide (show sgn a a = 0 by unfold sgn; rw [if_neg (by omega), if_neg (by omega)])
    go_enter Try.func71, Try.ntmps71
    go_wp2
    go_ret
    exact ⟨ret_int (unhide fin).symm, rfl⟩

set_option maxHeartbeats 1000000 in
theorem cmpInt_any (a b : Int) (w : World) : Calls Try.prog 68 #[.int .i64 a, .int .i64 b] w fun e w' => e = .returned (.int .i64 (sgn a b)) ∧ w' = w := by
  have ea : (a == a) = true := by simp
  have eb : (b == b) = true := by simp
  rcases (show a < b ∨ b < a ∨ a = b by omega) with h | h | rfl
  · have fin := hide (show sgn a b = -1 by unfold sgn; rw [if_pos h])
    go_enter Try.func68, Try.ntmps68
    go_wp2
    go_ret
    exact ⟨ret_int (unhide fin).symm, rfl⟩
  · have fin := hide (show sgn a b = 1 by unfold sgn; rw [if_neg (by omega), if_pos h])
    go_enter Try.func68, Try.ntmps68
    go_wp2
    go_ret
    exact ⟨ret_int (unhide fin).symm, rfl⟩
  · have fin := hide (show sgn a a = 0 by unfold sgn; rw [if_neg (by omega), if_neg (by omega)])
    go_enter Try.func68, Try.ntmps68
    go_wp2
    go_ret
    exact ⟨ret_int (unhide fin).symm, rfl⟩

theorem compareBytes_eq (x y : List UInt8) : Lib.compareBytes x y = if Op.bytesLess x y = true then -1 else if (x == y) = true then 0 else 1 := by
  induction x generalizing y with
  | nil => cases y with
    | nil => rfl
    | cons b y => rfl
  | cons a x ih =>
    cases y with
    | nil => rfl
    | cons b y =>
      rw [Lib.compareBytes]
      by_cases h1 : a < b
      · rw [if_pos h1, if_pos (by simp [Op.bytesLess, h1])]
      · rw [if_neg h1]
        by_cases h2 : b < a
        · have hne : ¬ a = b := by intro h; subst h; exact h1 h2
          rw [if_pos h2, if_neg (by simp [Op.bytesLess, h1, hne]), if_neg (by simp [hne])]
        · have he : a = b := UInt8.le_antisymm (UInt8.not_lt.1 h2) (UInt8.not_lt.1 h1)
          subst he
          rw [if_neg h2, ih y]
          simp [Op.bytesLess, h1]

theorem cmpstr_run (a b : ByteArray) (w : World) : (callFunc 76 #[.string a, .string b]).run Try.prog w = .ok (.value (.int .i64 (cmpK a b))) w := by
  rw [run_callFunc_extern Try.func76 (by kernel_rfl) (by kernel_rfl) (by kernel_rfl) (e := Extern.BytealgCompare.compare) (by kernel_rfl), Lib.run_compareString, compareBytes_eq]
  unfold cmpK
  rw [ByteArray.toList_eq, ByteArray.toList_eq]
  rfl

set_option maxHeartbeats 1000000 in
theorem strCompare_any (a b : ByteArray) (w : World) : Calls Try.prog 72 #[.string a, .string b] w fun e w' => e = .returned (.int .i64 (cmpK a b)) ∧ w' = w := by
  have hr := cmpstr_run a b
  generalize cmpK a b = q at *
  go_enter Try.func72, Try.ntmps72
  go_wp2
  go_ret
  exact ⟨rfl, rfl⟩

/-- The first of three that is not 0. -/
def or3 (a b c : Int) : Int := if a ≠ 0 then a else if b ≠ 0 then b else c

set_option maxHeartbeats 1000000 in
theorem cmpOr_any (g : Nat) (a b c : Int) (w : World) (h0 : w.cell? ⟨g, 0, none⟩ = some (.int .i64 a)) (h1 : w.cell? ⟨g, 1, none⟩ = some (.int .i64 b)) (h2 : w.cell? ⟨g, 2, none⟩ = some (.int .i64 c)) :
    Calls Try.prog 70 #[.slice (some ⟨g, 0, none⟩) 3 3] w fun e w' => e = .returned (.int .i64 (or3 a b c)) ∧ w' = w := by
  by_cases ha : a = 0
  · subst ha
    by_cases hb : b = 0
    · subst hb
      by_cases hc : c = 0
      · subst hc
        go_enter Try.func70, Try.ntmps70
        go_wp2_with fail
        refine wp_loop_rounds 4 ?_
        rw [rounds_succ]
        go_wp2_with fail
        rw [rounds_succ]
        go_wp2_with fail
        rw [rounds_succ]
        go_wp2_with fail
        rw [rounds_succ]
        go_wp2_with fail
        go_ret
        exact ⟨rfl, rfl⟩
      · have fin := hide (show or3 0 0 c = c by simp [or3])
        have e : (c == 0) = false := by simp [hc]
        go_enter Try.func70, Try.ntmps70
        go_wp2_with fail
        refine wp_loop_rounds 3 ?_
        rw [rounds_succ]
        go_wp2_with fail
        rw [rounds_succ]
        go_wp2_with fail
        rw [rounds_succ]
        go_wp2_with fail
        go_ret
        exact ⟨ret_int (unhide fin).symm, rfl⟩
    · have fin := hide (show or3 0 b c = b by simp [or3, hb])
      have e : (b == 0) = false := by simp [hb]
      go_enter Try.func70, Try.ntmps70
      go_wp2_with fail
      refine wp_loop_rounds 2 ?_
      rw [rounds_succ]
      go_wp2_with fail
      rw [rounds_succ]
      go_wp2_with fail
      go_ret
      exact ⟨ret_int (unhide fin).symm, rfl⟩
  · have fin := hide (show or3 a b c = a by simp [or3, ha])
    have e : (a == 0) = false := by simp [ha]
    go_enter Try.func70, Try.ntmps70
    go_wp2_with fail
    refine wp_loop_rounds 1 ?_
    rw [rounds_succ]
    go_wp2_with fail
    go_ret
    exact ⟨ret_int (unhide fin).symm, rfl⟩

/-- What impl.compareCells answers. -/
def orCells (x y : M.Cl) : Int := or3 (sgn x.kind y.kind) (sgn x.num y.num) (cmpK x.text y.text)

set_option maxRecDepth 100000 in
set_option maxHeartbeats 2000000 in
theorem compareCells_any (x y : M.Cl) (w : World) :
    Calls Try.prog 66 #[.agg #[.int .i64 x.kind, .int .i64 x.num, .string x.text, .string x.key, .int .i64 x.n], .agg #[.int .i64 y.kind, .int .i64 y.num, .string y.text, .string y.key, .int .i64 y.n]] w fun e w' => e = .returned (.int .i64 (orCells x y)) ∧ Below w.heap.size w w' := by
  have fin := hide (show orCells x y = or3 (sgn x.kind y.kind) (sgn x.num y.num) (cmpK x.text y.text) from rfl)
  have H1 := hide (cmpInt64_any x.kind y.kind)
  have H2 := hide (cmpInt64_any x.num y.num)
  have H3 := hide (strCompare_any x.text y.text)
  generalize sgn x.kind y.kind = q1 at *
  generalize sgn x.num y.num = q2 at *
  generalize cmpK x.text y.text = q3 at *
  go_enter Try.func66, Try.ntmps66
  go_wp2_with fail
  go_region_held3 (fun w' => w'.cell? ⟨w.heap.size, 0, none⟩ = some (.int .i64 x.kind) ∧ w'.cell? ⟨w.heap.size + 1, 0, none⟩ = some (.int .i64 y.kind) ∧ w'.cell? ⟨w.heap.size, 1, none⟩ = some (.int .i64 x.num) ∧ w'.cell? ⟨w.heap.size + 1, 1, none⟩ = some (.int .i64 y.num) ∧ w'.cell? ⟨w.heap.size, 2, none⟩ = some (.string x.text) ∧ w'.cell? ⟨w.heap.size + 1, 2, none⟩ = some (.string y.text)) (simp [go_sem, World.cell?_alloc_past])
    (first
      | (go_at_call_of 71 x.kind; refine ((unhide H1) _).mono ?_; rintro e w' ⟨rfl, hw⟩; subst hw)
      | (go_at_call_of 71 x.num; refine ((unhide H2) _).mono ?_; rintro e w' ⟨rfl, hw⟩; subst hw)
      | (go_at_call 72; refine ((unhide H3) _).mono ?_; rintro e w' ⟨rfl, hw⟩; subst hw)
      | (go_at_call 70; refine (cmpOr_any _ q1 q2 q3 _ ?_ ?_ ?_).mono ?_; (simp [go_sem]); (simp [go_sem]); (simp [go_sem]); rintro e w' ⟨rfl, hw⟩; subst hw))
  go_wp2_with fail
  go_ret
  refine ⟨ret_int (unhide fin).symm, ?_⟩
  repeat (first | exact Below.refl _ _ | refine Below.drew ?_ | refine Below.alloc ?_ (by simp <;> omega) _)

/-- Two cells without a fault of one kind: what parts them but their lists. -/
theorem orCells_kind {x y : M.Cl} (h : x.kind ≠ y.kind) : orCells x y ≠ 0 ∧ orCells x y = if x.kind < y.kind then -1 else 1 := by
  unfold orCells or3 sgn
  by_cases h1 : x.kind < y.kind
  · simp [h1]
  · have h2 : y.kind < x.kind := by omega
    simp [h1, h2]
theorem sgn_self (a : Int) : sgn a a = 0 := by unfold sgn; simp
theorem cmpK_self (a : ByteArray) : cmpK a a = 0 := by unfold cmpK; rw [bytesLess_irrefl]; simp
theorem orCells_same {x y : M.Cl} (h : x.kind = y.kind) : orCells x y = if sgn x.num y.num ≠ 0 then sgn x.num y.num else cmpK x.text y.text := by
  unfold orCells or3; rw [h, sgn_self]; simp

/-- What the code of a cell says of its fields. -/
theorem code_fields {c : M.Cl} (h : M.cellCode c = 0) : (c.kind ≠ 3 → c.num = 0) ∧ (c.kind ≠ 4 → c.text.toList = []) ∧ (c.kind ≠ 5 → c.kind ≠ 6 → c.n = 0) := by
  unfold M.cellCode at h
  split at h
  · cases h
  split at h
  · cases h
  rename_i h2
  refine ⟨fun h3 => ?_, fun h3 => ?_, fun h3 h4 => ?_⟩
  · by_cases e : c.num = 0
    · exact e
    · exact absurd (.inl ⟨e, h3⟩) h2
  · by_cases e : c.text.toList = []
    · exact e
    · exact absurd (.inr (.inl ⟨e, h3⟩)) h2
  · by_cases e : c.n = 0
    · exact e
    · exact absurd (.inr (.inr ⟨e, h3, h4⟩)) h2

theorem cmpK_nil {a b : ByteArray} (ha : a.toList = []) (hb : b.toList = []) : cmpK a b = 0 := by
  unfold cmpK; rw [ha, hb]; rfl

end Go.Proofs.Ythkofafbnbjbbaf
