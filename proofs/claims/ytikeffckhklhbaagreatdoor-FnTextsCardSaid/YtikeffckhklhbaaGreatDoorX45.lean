/-
  The library's small comparisons, by their contracts.
  impl.compareKeys: the keys of two lists of places.
  impl.compareAt returns the plain order of the parts at two places.
  impl.compareAt, case by case, and by induction on the length of the part.
-/
import Derived.Test.YtikeffckhklhbaaGreatDoorX20
import Derived.Test.YtikeffckhklhbaaGreatDoorX21
import Derived.BigQuiet
import Derived.Deep.QuietTactic
import Derived.Deep.RegionHeld3
import Derived.Lib.Bytealg
namespace Go.Proofs.YtikeffckhklhbaaGreatDoor
open Go.RowKit
set_option linter.unusedVariables false

set_option maxHeartbeats 1000000 in
theorem cmpInt64_any (a b : Int) (w : World) : Calls Tryz.prog 72 #[.int .i64 a, .int .i64 b] w fun e w' => e = .returned (.int .i64 (sgn a b)) ∧ w' = w := by
  have ea : (a == a) = true := by simp
  have eb : (b == b) = true := by simp
  rcases (show a < b ∨ b < a ∨ a = b by omega) with h | h | rfl
  · have fin := hide (show sgn a b = -1 by unfold sgn; rw [if_pos h])
    go_enter Tryz.func72, Tryz.ntmps72
    go_wp2
    go_ret
    exact ⟨ret_int (unhide fin).symm, rfl⟩
  · have fin := hide (show sgn a b = 1 by unfold sgn; rw [if_neg (by omega), if_pos h])
    go_enter Tryz.func72, Tryz.ntmps72
    go_wp2
    go_ret
    exact ⟨ret_int (unhide fin).symm, rfl⟩
  · have fin := hide (show sgn a a = 0 by unfold sgn; rw [if_neg (by omega), if_neg (by omega)])
    go_enter Tryz.func72, Tryz.ntmps72
    go_wp2
    go_ret
    exact ⟨ret_int (unhide fin).symm, rfl⟩

set_option maxHeartbeats 1000000 in
theorem cmpInt_any (a b : Int) (w : World) : Calls Tryz.prog 47 #[.int .i64 a, .int .i64 b] w fun e w' => e = .returned (.int .i64 (sgn a b)) ∧ w' = w := by
  have ea : (a == a) = true := by simp
  have eb : (b == b) = true := by simp
  rcases (show a < b ∨ b < a ∨ a = b by omega) with h | h | rfl
  · have fin := hide (show sgn a b = -1 by unfold sgn; rw [if_pos h])
    go_enter Tryz.func47, Tryz.ntmps47
    go_wp2
    go_ret
    exact ⟨ret_int (unhide fin).symm, rfl⟩
  · have fin := hide (show sgn a b = 1 by unfold sgn; rw [if_neg (by omega), if_pos h])
    go_enter Tryz.func47, Tryz.ntmps47
    go_wp2
    go_ret
    exact ⟨ret_int (unhide fin).symm, rfl⟩
  · have fin := hide (show sgn a a = 0 by unfold sgn; rw [if_neg (by omega), if_neg (by omega)])
    go_enter Tryz.func47, Tryz.ntmps47
    go_wp2
    go_ret
    exact ⟨ret_int (unhide fin).symm, rfl⟩

theorem compareBytes_eq (x y : List UInt8) : Lib.compareBytes x y = if Op.bytesLess x y = true then -1 else if (x == y) = true then 0 else 1 := by
  induction x generalizing y with
  | nil => cases y with
    | nil => rfl
    | cons b y => rfl
  | cons a x ih =>
    cases y with
    | nil => rfl
    | cons b y =>
      rw [Lib.compareBytes]
      by_cases h1 : a < b
      · rw [if_pos h1, if_pos (by simp [Op.bytesLess, h1])]
      · rw [if_neg h1]
        by_cases h2 : b < a
        · have hne : ¬ a = b := by intro h; subst h; exact h1 h2
          rw [if_pos h2, if_neg (by simp [Op.bytesLess, h1, hne]), if_neg (by simp [hne])]
        · have he : a = b := UInt8.le_antisymm (UInt8.not_lt.1 h2) (UInt8.not_lt.1 h1)
          subst he
          rw [if_neg h2, ih y]
          simp [Op.bytesLess, h1]

theorem cmpstr_run (a b : ByteArray) (w : World) : (callFunc 108 #[.string a, .string b]).run Tryz.prog w = .ok (.value (.int .i64 (cmpK a b))) w := by
  rw [run_callFunc_extern Tryz.func108 (by kernel_rfl) (by kernel_rfl) (by kernel_rfl) (e := Extern.BytealgCompare.compare) (by kernel_rfl), Lib.run_compareString, compareBytes_eq]
  unfold cmpK
  rw [ByteArray.toList_eq, ByteArray.toList_eq]
  rfl

set_option maxHeartbeats 1000000 in
theorem strCompare_any (a b : ByteArray) (w : World) : Calls Tryz.prog 73 #[.string a, .string b] w fun e w' => e = .returned (.int .i64 (cmpK a b)) ∧ w' = w := by
  have hr := cmpstr_run a b
  generalize cmpK a b = q at *
  go_enter Tryz.func73, Tryz.ntmps73
  go_wp2
  go_ret
  exact ⟨rfl, rfl⟩

/-- The first of three that is not 0. -/
def or3 (a b c : Int) : Int := if a ≠ 0 then a else if b ≠ 0 then b else c

set_option maxHeartbeats 1000000 in
theorem cmpOr_any (g : Nat) (a b c : Int) (w : World) (h0 : w.cell? ⟨g, 0, none⟩ = some (.int .i64 a)) (h1 : w.cell? ⟨g, 1, none⟩ = some (.int .i64 b)) (h2 : w.cell? ⟨g, 2, none⟩ = some (.int .i64 c)) :
    Calls Tryz.prog 71 #[.slice (some ⟨g, 0, none⟩) 3 3] w fun e w' => e = .returned (.int .i64 (or3 a b c)) ∧ w' = w := by
  by_cases ha : a = 0
  · subst ha
    by_cases hb : b = 0
    · subst hb
      by_cases hc : c = 0
      · subst hc
        go_enter Tryz.func71, Tryz.ntmps71
        go_wp2_with fail
        refine wp_loop_rounds 4 ?_
        rw [rounds_succ]
        go_wp2_with fail
        rw [rounds_succ]
        go_wp2_with fail
        rw [rounds_succ]
        go_wp2_with fail
        rw [rounds_succ]
        go_wp2_with fail
        go_ret
        exact ⟨rfl, rfl⟩
      · have fin := hide (show or3 0 0 c = c by simp [or3])
        have e : (c == 0) = false := by simp [hc]
        go_enter Tryz.func71, Tryz.ntmps71
        go_wp2_with fail
        refine wp_loop_rounds 3 ?_
        rw [rounds_succ]
        go_wp2_with fail
        rw [rounds_succ]
        go_wp2_with fail
        rw [rounds_succ]
        go_wp2_with fail
        go_ret
        exact ⟨ret_int (unhide fin).symm, rfl⟩
    · have fin := hide (show or3 0 b c = b by simp [or3, hb])
      have e : (b == 0) = false := by simp [hb]
      go_enter Tryz.func71, Tryz.ntmps71
      go_wp2_with fail
      refine wp_loop_rounds 2 ?_
      rw [rounds_succ]
      go_wp2_with fail
      rw [rounds_succ]
      go_wp2_with fail
      go_ret
      exact ⟨ret_int (unhide fin).symm, rfl⟩
  · have fin := hide (show or3 a b c = a by simp [or3, ha])
    have e : (a == 0) = false := by simp [ha]
    go_enter Tryz.func71, Tryz.ntmps71
    go_wp2_with fail
    refine wp_loop_rounds 1 ?_
    rw [rounds_succ]
    go_wp2_with fail
    go_ret
    exact ⟨ret_int (unhide fin).symm, rfl⟩

/-- What impl.compareCells answers. -/
def orCells (x y : M.Cl) : Int := or3 (sgn x.kind y.kind) (sgn x.num y.num) (cmpK x.text y.text)

set_option maxRecDepth 100000 in
set_option maxHeartbeats 2000000 in
theorem compareCells_any (x y : M.Cl) (w : World) :
    Calls Tryz.prog 44 #[.agg #[.int .i64 x.kind, .int .i64 x.num, .string x.text, .string x.key, .int .i64 x.n], .agg #[.int .i64 y.kind, .int .i64 y.num, .string y.text, .string y.key, .int .i64 y.n]] w fun e w' => e = .returned (.int .i64 (orCells x y)) ∧ Below w.heap.size w w' := by
  have fin := hide (show orCells x y = or3 (sgn x.kind y.kind) (sgn x.num y.num) (cmpK x.text y.text) from rfl)
  have H1 := hide (cmpInt64_any x.kind y.kind)
  have H2 := hide (cmpInt64_any x.num y.num)
  have H3 := hide (strCompare_any x.text y.text)
  generalize sgn x.kind y.kind = q1 at *
  generalize sgn x.num y.num = q2 at *
  generalize cmpK x.text y.text = q3 at *
  go_enter Tryz.func44, Tryz.ntmps44
  go_wp2_with fail
  go_region_held3 (fun w' => w'.cell? ⟨w.heap.size, 0, none⟩ = some (.int .i64 x.kind) ∧ w'.cell? ⟨w.heap.size + 1, 0, none⟩ = some (.int .i64 y.kind) ∧ w'.cell? ⟨w.heap.size, 1, none⟩ = some (.int .i64 x.num) ∧ w'.cell? ⟨w.heap.size + 1, 1, none⟩ = some (.int .i64 y.num) ∧ w'.cell? ⟨w.heap.size, 2, none⟩ = some (.string x.text) ∧ w'.cell? ⟨w.heap.size + 1, 2, none⟩ = some (.string y.text)) (simp [go_sem, World.cell?_alloc_past])
    (first
      | (go_at_call_of 72 x.kind; refine ((unhide H1) _).mono ?_; rintro e w' ⟨rfl, hw⟩; subst hw)
      | (go_at_call_of 72 x.num; refine ((unhide H2) _).mono ?_; rintro e w' ⟨rfl, hw⟩; subst hw)
      | (go_at_call 73; refine ((unhide H3) _).mono ?_; rintro e w' ⟨rfl, hw⟩; subst hw)
      | (go_at_call 71; refine (cmpOr_any _ q1 q2 q3 _ ?_ ?_ ?_).mono ?_; (simp [go_sem]); (simp [go_sem]); (simp [go_sem]); rintro e w' ⟨rfl, hw⟩; subst hw))
  go_wp2_with fail
  go_ret
  refine ⟨ret_int (unhide fin).symm, ?_⟩
  repeat (first | exact Below.refl _ _ | refine Below.drew ?_ | refine Below.alloc ?_ (by simp <;> omega) _)

/-- Two cells without a fault of one kind: what parts them but their lists. -/
theorem orCells_kind {x y : M.Cl} (h : x.kind ≠ y.kind) : orCells x y ≠ 0 ∧ orCells x y = if x.kind < y.kind then -1 else 1 := by
  unfold orCells or3 sgn
  by_cases h1 : x.kind < y.kind
  · simp [h1]
  · have h2 : y.kind < x.kind := by omega
    simp [h1, h2]
theorem sgn_self (a : Int) : sgn a a = 0 := by unfold sgn; simp
theorem cmpK_self (a : ByteArray) : cmpK a a = 0 := by unfold cmpK; rw [bytesLess_irrefl]; simp
theorem orCells_same {x y : M.Cl} (h : x.kind = y.kind) : orCells x y = if sgn x.num y.num ≠ 0 then sgn x.num y.num else cmpK x.text y.text := by
  unfold orCells or3; rw [h, sgn_self]; simp

/-- What the code of a cell says of its fields. -/
theorem code_fields {c : M.Cl} (h : M.cellCode c = 0) : (c.kind ≠ 3 → c.num = 0) ∧ (c.kind ≠ 4 → c.text.toList = []) ∧ (c.kind ≠ 5 → c.kind ≠ 6 → c.n = 0) := by
  unfold M.cellCode at h
  split at h
  · cases h
  split at h
  · cases h
  rename_i h2
  refine ⟨fun h3 => ?_, fun h3 => ?_, fun h3 h4 => ?_⟩
  · by_cases e : c.num = 0
    · exact e
    · exact absurd (.inl ⟨e, h3⟩) h2
  · by_cases e : c.text.toList = []
    · exact e
    · exact absurd (.inr (.inl ⟨e, h3⟩)) h2
  · by_cases e : c.n = 0
    · exact e
    · exact absurd (.inr (.inr ⟨e, h3, h4⟩)) h2

theorem cmpK_nil {a b : ByteArray} (ha : a.toList = []) (hb : b.toList = []) : cmpK a b = 0 := by
  unfold cmpK; rw [ha, hb]; rfl

end Go.Proofs.YtikeffckhklhbaaGreatDoor

namespace Go.Proofs.YtikeffckhklhbaaGreatDoor
open Go.RowKit
set_option linter.unusedVariables false

theorem sgn_len (a b : Nat) : sgn (a : Int) (b : Int) = lenSign a b := by
  unfold sgn lenSign
  by_cases h : a < b
  · rw [if_pos (by omega), if_pos h]
  · rw [if_neg (by omega), if_neg h]
    by_cases h' : b < a
    · rw [if_pos (by omega), if_pos h']
    · rw [if_neg (by omega), if_neg h']

theorem keysAt_getD (v : List M.Cl) (a i : Nat) (hi : i < M.arity v a) : (keysAt v a).getD i ByteArray.empty = (v.getD (M.iter v i (a + 1)) M.zero).key := by
  simp [keysAt, M.places, List.getD_eq_getElem?_getD, hi]
theorem subs_getD (v : List M.Cl) (a i : Nat) (hi : i < M.arity v a) : (subs v a).getD i [] = part v (M.iter v i (a + 1)) := by
  simp [subs, M.places, List.getD_eq_getElem?_getD, hi]

set_option maxRecDepth 100000 in
set_option maxHeartbeats 2000000 in
theorem compareKeys_none (s t : Value) (a a' : Option Addr) (c c' n n' : Nat) (w : World) (h : n = 0 ∨ n' = 0) (hn : n ≤ 200) (hn' : n' ≤ 200) :
    Calls Tryz.prog 46 #[s, .slice a n c, t, .slice a' n' c'] w fun e w' => e = .returned (.int .i64 (lenSign n n')) ∧ Below w.heap.size w w' := by
  have HS := hide (sgn_len n n')
  have h2 : (n = 0 ∧ n' = 0) ∨ (n = 0 ∧ 0 < n') ∨ (0 < n ∧ n' = 0) := by omega
  clear h
  rcases h2 with ⟨rfl, rfl⟩ | ⟨rfl, h2⟩ | ⟨h2, rfl⟩
  all_goals
    go_enter Tryz.func46, Tryz.ntmps46
    go_wp2_with fail
    refine wp_loop_rounds 1 ?_
    rw [rounds_succ]
    go_wp2_with fail
    refine (cmpInt_any _ _ _).mono ?_
    rintro e w1 ⟨rfl, rfl⟩
    go_wp2_with fail
    go_ret
    exact ⟨ret_int (by first | exact unhide HS | (have := unhide HS; simpa using this)), Below.refl _ _⟩

set_option maxRecDepth 100000 in
set_option maxHeartbeats 4000000 in
theorem compareKeys_some (v u : List M.Cl) (b off cap b' off' cap' i j : Nat) (g g' c c' m m' : Nat) (w : World) (hr : Row w b off v) (hb : b < w.heap.size) (hcap : v.length ≤ cap) (hr' : Row w b' off' u) (hb' : b' < w.heap.size) (hcap' : u.length ≤ cap')
    (hm : m = M.arity v i) (hm' : m' = M.arity u j) (ho : OwnI w g (firstPl v i m)) (ho' : OwnI w g' (firstPl u j m')) (hc : m ≤ c) (hc' : m' ≤ c') (hp : 0 < m) (hp' : 0 < m') (hn : m ≤ 200) (hn' : m' ≤ 200) (hl : v.length ≤ 200) (hl' : u.length ≤ 200)
    (hin : ∀ k, k < m → M.iter v k (i + 1) < v.length) (hin' : ∀ k, k < m' → M.iter u k (j + 1) < u.length) :
    Calls Tryz.prog 46 #[.slice (some ⟨b, off, none⟩) v.length cap, .slice (some ⟨g, 0, none⟩) m c, .slice (some ⟨b', off', none⟩) u.length cap', .slice (some ⟨g', 0, none⟩) m' c'] w fun e w' => e = .returned (.int .i64 (lex cmpK (keysAt v i) (keysAt u j))) ∧ Below w.heap.size w w' := by
  have HS := hide (sgn_len m m')
  have KL : (keysAt v i).length = m := by rw [keysAt_length, hm]
  have KL' : (keysAt u j).length = m' := by rw [keysAt_length, hm']
  have HKL := hide KL
  have HKL' := hide KL'
  have HG := hide (fun k (hk : k < m) => keysAt_getD v i k (by omega))
  have HG' := hide (fun k (hk : k < m') => keysAt_getD u j k (by omega))
  have HIN := hide hin
  have HIN' := hide hin'
  have HO := hide ho
  have HO' := hide ho'
  have HR := hide hr
  have HR' := hide hr'
  clear hm hm' KL KL' hin hin' ho ho' hr hr'
  have hcase : m ≤ m' ∨ m' < m := by omega
  rcases hcase with hcs | hcs
  all_goals
    go_enter Tryz.func46, Tryz.ntmps46
    go_wp2_with fail
    go_loopg [16] m (fun gn s16 wr => ∃ k : Nat, Hid (gn = m - k) ∧ s16 = .int .i64 k ∧ k ≤ m ∧ k ≤ m' ∧ Hid (∀ l, l < k → cmpK ((keysAt v i).getD l ByteArray.empty) ((keysAt u j).getD l ByteArray.empty) = 0) ∧ Below w.heap.size w wr)
    case atStart => exact ⟨0, rfl, rfl, by omega, by omega, fun l hl => absurd hl (by omega), Below.refl _ _⟩
    case round =>
      obtain ⟨k, hg, rfl, hk, hk', hall, hbel⟩ := hrel
      by_cases hlt : k < m ∧ k < m'
      · obtain ⟨hlt, hlt'⟩ := hlt
        have hA := (unhide HIN) k hlt
        have hB := (unhide HIN') k hlt'
        have f1 := ((unhide HO).below hbel (unhide HO).lt).cell (i := k) (by rw [firstPl_length]; exact hlt)
        have f2 := ((unhide HO').below hbel (unhide HO').lt).cell (i := k) (by rw [firstPl_length]; exact hlt')
        rw [firstPl_getD v i m k hlt] at f1
        rw [firstPl_getD u j m' k hlt'] at f2
        have r1 := (((unhide HR).below hbel hb) _ hA).2.2.2.1
        have r2 := (((unhide HR').below hbel hb') _ hB).2.2.2.1
        have hhit := hide (lex_hit cmpK ByteArray.empty (keysAt v i) (keysAt u j) k hall.out (by rw [unhide HKL]; exact hlt) (by rw [unhide HKL']; exact hlt'))
        have hnext := hide (fun (h0 : cmpK ((keysAt v i).getD k ByteArray.empty) ((keysAt u j).getD k ByteArray.empty) = 0) l (hl : l < k + 1) => show cmpK ((keysAt v i).getD l ByteArray.empty) ((keysAt u j).getD l ByteArray.empty) = 0 by
          by_cases e : l = k
          · subst e; exact h0
          · exact hall.out l (by omega))
        rw [(unhide HG) k hlt, (unhide HG') k hlt'] at hhit hnext
        generalize (v.getD (M.iter v k (i + 1)) M.zero).key = x at *
        generalize (u.getD (M.iter u k (j + 1)) M.zero).key = y at *
        generalize M.iter v k (i + 1) = p1 at *
        generalize M.iter u k (j + 1) = p2 at *
        have H3 := hide (strCompare_any x y)
        have a1 : (k : Int) < (m : Int) := by omega
        have a2 : (k : Int) < (m' : Int) := by omega
        have a3 : (p1 : Int) < (v.length : Int) := by omega
        have a4 : (p2 : Int) < (u.length : Int) := by omega
        generalize hqq : cmpK x y = q at *
        clear hqq
        go_wp2_with fail
        go_region_held3 (fun w' => w'.cell? ⟨g, k, none⟩ = some (.int .i64 p1) ∧ w'.cell? ⟨g', k, none⟩ = some (.int .i64 p2) ∧ w'.cell? ⟨b, off + p1 * 5 + 3, none⟩ = some (.string x) ∧ w'.cell? ⟨b', off' + p2 * 5 + 3, none⟩ = some (.string y)) (simp [go_sem, f1, f2, r1, r2])
          (first | (go_at_call 73; refine ((unhide H3) _).mono ?_; rintro e w' ⟨rfl, hw⟩; subst hw))
        by_cases hz : q = 0
        · subst hz
          have hn2 := hide ((unhide hnext) rfl)
          clear hhit hnext
          go_wp2_with fail
          go_roundg (m - (k + 1))
          case rel => exact ⟨k + 1, rfl, by go_num, by omega, by omega, unhide hn2, hbel.drew⟩
          case measure => have := hg.out; omega
        · have fin := hide ((unhide hhit) hz)
          have hz' : (q == 0) = false := by simp [hz]
          clear hhit hnext
          go_wp2_with fail
          go_ret
          exact ⟨ret_int (unhide fin).symm, hbel.drew⟩
      · have fin := hide (lex_end cmpK ByteArray.empty (keysAt v i) (keysAt u j) k hall.out (by rw [unhide HKL, unhide HKL']; omega))
        rw [unhide HKL, unhide HKL'] at fin
        go_wp2_with fail
        refine (cmpInt_any _ _ _).mono ?_
        rintro e w1 ⟨rfl, hw1⟩
        subst hw1
        go_wp2_with fail
        go_ret
        exact ⟨ret_int ((unhide HS).trans (unhide fin).symm), hbel⟩

end Go.Proofs.YtikeffckhklhbaaGreatDoor

namespace Go.Proofs.YtikeffckhklhbaaGreatDoor
open Go.RowKit
set_option linter.unusedVariables false

/-- What is promised of impl.compareAt for parts of at most f cells. -/
def CatSays (v u : List M.Cl) (b off cap b' off' cap' : Nat) (f : Nat) : Prop := ∀ (i j : Nat) (w : World), i < v.length → j < u.length → (part v i).length ≤ f → Row w b off v → b < w.heap.size → Row w b' off' u → b' < w.heap.size →
  Calls Tryz.prog 21 #[.slice (some ⟨b, off, none⟩) v.length cap, .int .i64 i, .slice (some ⟨b', off', none⟩) u.length cap', .int .i64 j] w fun e w' => e = .returned (.int .i64 (cmpL f (part v i) (part u j))) ∧ Below w.heap.size w w'

section
variable {v u : List M.Cl} {i j : Nat}
theorem cmpL_part (f : Nat) (hv : M.valueFault v = 0) (hu : M.valueFault u = 0) (hi : i < v.length) (hj : j < u.length) : cmpL (f + 1) (part v i) (part u j) =
    if (v.getD i M.zero).kind ≠ (u.getD j M.zero).kind then (if (v.getD i M.zero).kind < (u.getD j M.zero).kind then -1 else 1)
    else if (v.getD i M.zero).kind = 3 then sgn (v.getD i M.zero).num (u.getD j M.zero).num
    else if (v.getD i M.zero).kind = 4 then cmpK (v.getD i M.zero).text (u.getD j M.zero).text
    else if (v.getD i M.zero).kind = 5 then lex (cmpL f) (subs v i) (subs u j)
    else if (v.getD i M.zero).kind = 6 then (if lex cmpK (keysAt v i) (keysAt u j) ≠ 0 then lex cmpK (keysAt v i) (keysAt u j) else lex (cmpL f) (subs v i) (subs u j))
    else 0 := by
  rw [cmpL, part_zero hv hi, part_zero hu hj, (subs_part hv hi).1, (subs_part hv hi).2, (subs_part hu hj).1, (subs_part hu hj).2]

theorem no_parts (hv : M.valueFault v = 0) (hi : i < v.length) (h5 : (v.getD i M.zero).kind ≠ 5) (h6 : (v.getD i M.zero).kind ≠ 6) : subs v i = [] := by
  have hc := (code_fields (code_at hv i hi)).2.2 h5 h6
  have : (subs v i).length = 0 := by rw [subs_length]; unfold M.arity; rw [hc]; rfl
  exact List.length_eq_zero_iff.1 this

theorem cat_early (f : Nat) (hv : M.valueFault v = 0) (hu : M.valueFault u = 0) (hi : i < v.length) (hj : j < u.length) (h : orCells (v.getD i M.zero) (u.getD j M.zero) ≠ 0) : cmpL (f + 1) (part v i) (part u j) = orCells (v.getD i M.zero) (u.getD j M.zero) := by
  rw [cmpL_part f hv hu hi hj]
  have cx := code_fields (code_at hv i hi)
  have cy := code_fields (code_at hu j hj)
  generalize v.getD i M.zero = x at *
  generalize u.getD j M.zero = y at *
  by_cases hk : x.kind = y.kind
  · rw [if_neg (fun g => g hk)]
    have ho := orCells_same hk
    by_cases k3 : x.kind = 3
    · rw [if_pos k3]
      have ht : cmpK x.text y.text = 0 := cmpK_nil (cx.2.1 (by omega)) (cy.2.1 (by omega))
      rw [ht] at ho
      by_cases hs : sgn x.num y.num = 0
      · rw [if_neg (fun g => g hs)] at ho; exact absurd ho h
      · rw [if_pos hs] at ho; exact ho.symm
    · have hn : sgn x.num y.num = 0 := by rw [cx.1 k3, cy.1 (by omega)]; rfl
      rw [hn, if_neg (fun g => g rfl)] at ho
      rw [if_neg k3]
      by_cases k4 : x.kind = 4
      · rw [if_pos k4, ho]
      · have ht : cmpK x.text y.text = 0 := cmpK_nil (cx.2.1 k4) (cy.2.1 (by omega))
        rw [ht] at ho
        exact absurd ho h
  · rw [if_pos hk]
    exact (orCells_kind hk).2.symm

theorem cat_rest (f : Nat) (hv : M.valueFault v = 0) (hu : M.valueFault u = 0) (hi : i < v.length) (hj : j < u.length) (h : orCells (v.getD i M.zero) (u.getD j M.zero) = 0) :
    cmpL (f + 1) (part v i) (part u j) = if (v.getD i M.zero).kind = 6 ∧ lex cmpK (keysAt v i) (keysAt u j) ≠ 0 then lex cmpK (keysAt v i) (keysAt u j) else lex (cmpL f) (subs v i) (subs u j) := by
  rw [cmpL_part f hv hu hi hj]
  have n1 := no_parts hv hi
  have n2 := no_parts hu hj
  generalize v.getD i M.zero = x at *
  generalize u.getD j M.zero = y at *
  by_cases hk : x.kind = y.kind
  · rw [if_neg (fun g => g hk)]
    have ho := orCells_same hk
    rw [h] at ho
    by_cases k6 : x.kind = 6
    · rw [if_neg (by omega), if_neg (by omega), if_neg (by omega), if_pos k6]
      by_cases hl : lex cmpK (keysAt v i) (keysAt u j) ≠ 0
      · rw [if_pos hl, if_pos ⟨k6, hl⟩]
      · rw [if_neg hl, if_neg (fun g => hl g.2)]
    · rw [if_neg k6]
      rw [if_neg (show ¬ (x.kind = 6 ∧ lex cmpK (keysAt v i) (keysAt u j) ≠ 0) from fun g => k6 g.1)]
      by_cases k5 : x.kind = 5
      · rw [if_neg (by omega), if_neg (by omega), if_pos k5]
      · rw [if_neg k5, n1 k5 k6, n2 (by omega) (by omega)]
        have hs : sgn x.num y.num = 0 := by
          by_cases hs : sgn x.num y.num = 0
          · exact hs
          · rw [if_pos hs] at ho; exact ho.symm
        rw [if_neg (fun g => g hs)] at ho
        by_cases k3 : x.kind = 3
        · rw [if_pos k3, hs]; rfl
        · rw [if_neg k3]
          by_cases k4 : x.kind = 4
          · rw [if_pos k4, ← ho]; rfl
          · rw [if_neg k4]; rfl
  · exact absurd h (orCells_kind hk).1
end

theorem ResI.form {w : World} {B : Nat} {s : Value} {l : List Int} (h : ResI w B s l) : ∃ a c, s = .slice a l.length c := by
  obtain ⟨_, ⟨rfl, rfl⟩ | ⟨b, cap, rfl, _⟩⟩ := h
  · exact ⟨_, _, rfl⟩
  · exact ⟨_, _, rfl⟩
theorem ResI.some {w : World} {B : Nat} {s : Value} {l : List Int} (h : ResI w B s l) (hl : 0 < l.length) : ∃ g c, s = .slice (some ⟨g, 0, none⟩) l.length c ∧ l.length ≤ c ∧ OwnI w g l := by
  obtain ⟨_, ⟨_, rfl⟩ | ⟨b, cap, h1, _, h3, h4⟩⟩ := h
  · simp at hl
  · exact ⟨b, cap, h1, h3, h4⟩

/-- impl.compareKeys, whatever the two lists are. -/
theorem compareKeys_any (v u : List M.Cl) (b off cap b' off' cap' i j : Nat) (s s' : Value) (B B' : Nat) (w : World) (hv : M.valueFault v = 0) (hu : M.valueFault u = 0) (hi : i < v.length) (hj : j < u.length) (hr : Row w b off v) (hb : b < w.heap.size) (hcap : v.length ≤ cap) (hr' : Row w b' off' u) (hb' : b' < w.heap.size) (hcap' : u.length ≤ cap')
    (h : ResI w B s (firstPl v i (M.arity v i))) (h' : ResI w B' s' (firstPl u j (M.arity u j))) :
    Calls Tryz.prog 46 #[.slice (some ⟨b, off, none⟩) v.length cap, s, .slice (some ⟨b', off', none⟩) u.length cap', s'] w fun e w' => e = .returned (.int .i64 (lex cmpK (keysAt v i) (keysAt u j))) ∧ Below w.heap.size w w' := by
  have p1 := M.places_in hv i hi
  have p2 := M.places_in hu j hj
  by_cases hz : M.arity v i = 0 ∨ M.arity u j = 0
  · obtain ⟨a, c, rfl⟩ := h.form
    obtain ⟨a', c', rfl⟩ := h'.form
    rw [firstPl_length, firstPl_length]
    have fin := lex_end cmpK ByteArray.empty (keysAt v i) (keysAt u j) 0 (fun l hl => absurd hl (by omega)) (by rw [keysAt_length, keysAt_length]; omega)
    rw [keysAt_length, keysAt_length] at fin
    rw [fin]
    exact compareKeys_none _ _ a a' c c' _ _ w hz p1.2.2.2 p2.2.2.2
  · obtain ⟨g, c, rfl, hc, ho⟩ := h.some (by rw [firstPl_length]; omega)
    obtain ⟨g', c', rfl, hc', ho'⟩ := h'.some (by rw [firstPl_length]; omega)
    rw [firstPl_length] at hc hc'
    rw [firstPl_length, firstPl_length]
    exact compareKeys_some v u b off cap b' off' cap' i j g g' c c' _ _ w hr hb hcap hr' hb' hcap' rfl rfl ho ho' hc hc' (by omega) (by omega) p1.2.2.2 p2.2.2.2 (M.fault_zero hv).2.1 (M.fault_zero hu).2.1 (fun k hk => by have := p1.1 k hk; have := p1.2.2.1; omega) (fun k hk => by have := p2.1 k hk; have := p2.2.2.1; omega)

end Go.Proofs.YtikeffckhklhbaaGreatDoor

namespace Go.Proofs.YtikeffckhklhbaaGreatDoor
open Go.RowKit
set_option linter.unusedVariables false

set_option maxRecDepth 100000 in
set_option maxHeartbeats 8000000 in
theorem cat_kind (v u : List M.Cl) (b off cap b' off' cap' f i j : Nat) (IH : Hid (CatSays v u b off cap b' off' cap' f)) (w : World) (HV : Hid (M.valueFault v = 0)) (HU : Hid (M.valueFault u = 0)) (hi : i < v.length) (hj : j < u.length) (hpl : (part v i).length ≤ f + 1) (hr : Row w b off v) (hb : b < w.heap.size) (hr' : Row w b' off' u) (hb' : b' < w.heap.size) (hcap : v.length ≤ cap) (hcap' : u.length ≤ cap') (x y : M.Cl) (hx : x = v.getD i M.zero) (hy : y = u.getD j M.zero) (hor : orCells x y ≠ 0) (g1 : (x.kind == y.kind) = false) :
    Calls Tryz.prog 21 #[.slice (some ⟨b, off, none⟩) v.length cap, .int .i64 i, .slice (some ⟨b', off', none⟩) u.length cap', .int .i64 j] w fun e w' => e = .returned (.int .i64 (cmpL (f + 1) (part v i) (part u j))) ∧ Below w.heap.size w w' := by
  have hl := (M.fault_zero (unhide HV)).2.1
  have hl' := (M.fault_zero (unhide HU)).2.1
  obtain ⟨x0, x1, x2, x3, x4⟩ := hr i hi
  obtain ⟨y0, y1, y2, y3, y4⟩ := hr' j hj
  rw [← hx] at x0 x1 x2 x3 x4
  rw [← hy] at y0 y1 y2 y3 y4
  have HROW := hide hr
  have HROW' := hide hr'
  have fin := hide (cat_early f (unhide HV) (unhide HU) hi hj (by rw [← hx, ← hy]; exact hor))
  rw [← hx, ← hy] at fin
  have HNE := hide hor
  have a1 : (i : Int) < (v.length : Int) := by omega
  have a2 : (j : Int) < (u.length : Int) := by omega
  have n1 : b ≠ w.heap.size := by omega
  have n2 : b' ≠ w.heap.size := by omega
  clear hr hr' hx hy hpl hor
  go_enter Tryz.func21, Tryz.ntmps21
  go_wp2_with fail
  go_region
  · clear x0 x1 x2 x3 x4 y0 y1 y2 y3 y4
    go_wp2_with fail
    refine (compareCells_any x y _).mono ?_
    rintro e w0 ⟨rfl, hb0⟩
    have B : Below w.heap.size w w0 := ((((Below.refl _ _).alloc (Nat.le_refl _) _).alloc (by simp) _).drew).trans (hb0.mono (by simp <;> omega))
    clear hb0
    generalize orCells x y = q at *
    have hq0 : (q == 0) = false := by simp [unhide HNE]
    go_wp2_with fail
    go_ret
    exact ⟨ret_int (unhide fin).symm, B⟩
  · clear x0 x1 x2 x3 x4 y0 y1 y2 y3 y4
    go_wp2_with fail
    refine (compareCells_any x y _).mono ?_
    rintro e w0 ⟨rfl, hb0⟩
    have B : Below w.heap.size w w0 := ((((Below.refl _ _).alloc (Nat.le_refl _) _).alloc (by simp) _).drew).trans (hb0.mono (by simp <;> omega))
    clear hb0
    generalize orCells x y = q at *
    have hq0 : (q == 0) = false := by simp [unhide HNE]
    go_wp2_with fail
    go_ret
    exact ⟨ret_int (unhide fin).symm, B⟩

set_option maxRecDepth 100000 in
set_option maxHeartbeats 8000000 in
theorem cat_num (v u : List M.Cl) (b off cap b' off' cap' f i j : Nat) (IH : Hid (CatSays v u b off cap b' off' cap' f)) (w : World) (HV : Hid (M.valueFault v = 0)) (HU : Hid (M.valueFault u = 0)) (hi : i < v.length) (hj : j < u.length) (hpl : (part v i).length ≤ f + 1) (hr : Row w b off v) (hb : b < w.heap.size) (hr' : Row w b' off' u) (hb' : b' < w.heap.size) (hcap : v.length ≤ cap) (hcap' : u.length ≤ cap') (x y : M.Cl) (hx : x = v.getD i M.zero) (hy : y = u.getD j M.zero) (hor : orCells x y ≠ 0) (g1 : (x.kind == y.kind) = true) (g2 : (x.num == y.num) = false) :
    Calls Tryz.prog 21 #[.slice (some ⟨b, off, none⟩) v.length cap, .int .i64 i, .slice (some ⟨b', off', none⟩) u.length cap', .int .i64 j] w fun e w' => e = .returned (.int .i64 (cmpL (f + 1) (part v i) (part u j))) ∧ Below w.heap.size w w' := by
  have hl := (M.fault_zero (unhide HV)).2.1
  have hl' := (M.fault_zero (unhide HU)).2.1
  obtain ⟨x0, x1, x2, x3, x4⟩ := hr i hi
  obtain ⟨y0, y1, y2, y3, y4⟩ := hr' j hj
  rw [← hx] at x0 x1 x2 x3 x4
  rw [← hy] at y0 y1 y2 y3 y4
  have HROW := hide hr
  have HROW' := hide hr'
  have fin := hide (cat_early f (unhide HV) (unhide HU) hi hj (by rw [← hx, ← hy]; exact hor))
  rw [← hx, ← hy] at fin
  have HNE := hide hor
  have a1 : (i : Int) < (v.length : Int) := by omega
  have a2 : (j : Int) < (u.length : Int) := by omega
  have n1 : b ≠ w.heap.size := by omega
  have n2 : b' ≠ w.heap.size := by omega
  clear hr hr' hx hy hpl hor
  go_enter Tryz.func21, Tryz.ntmps21
  go_wp2_with fail
  go_region
  · clear x0 x1 x2 x3 x4 y0 y1 y2 y3 y4
    go_wp2_with fail
    refine (compareCells_any x y _).mono ?_
    rintro e w0 ⟨rfl, hb0⟩
    have B : Below w.heap.size w w0 := ((((Below.refl _ _).alloc (Nat.le_refl _) _).alloc (by simp) _).drew).trans (hb0.mono (by simp <;> omega))
    clear hb0
    generalize orCells x y = q at *
    have hq0 : (q == 0) = false := by simp [unhide HNE]
    go_wp2_with fail
    go_ret
    exact ⟨ret_int (unhide fin).symm, B⟩
  · clear x0 x1 x2 x3 x4 y0 y1 y2 y3 y4
    go_wp2_with fail
    refine (compareCells_any x y _).mono ?_
    rintro e w0 ⟨rfl, hb0⟩
    have B : Below w.heap.size w w0 := ((((Below.refl _ _).alloc (Nat.le_refl _) _).alloc (by simp) _).drew).trans (hb0.mono (by simp <;> omega))
    clear hb0
    generalize orCells x y = q at *
    have hq0 : (q == 0) = false := by simp [unhide HNE]
    go_wp2_with fail
    go_ret
    exact ⟨ret_int (unhide fin).symm, B⟩

set_option maxRecDepth 100000 in
set_option maxHeartbeats 8000000 in
theorem cat_text (v u : List M.Cl) (b off cap b' off' cap' f i j : Nat) (IH : Hid (CatSays v u b off cap b' off' cap' f)) (w : World) (HV : Hid (M.valueFault v = 0)) (HU : Hid (M.valueFault u = 0)) (hi : i < v.length) (hj : j < u.length) (hpl : (part v i).length ≤ f + 1) (hr : Row w b off v) (hb : b < w.heap.size) (hr' : Row w b' off' u) (hb' : b' < w.heap.size) (hcap : v.length ≤ cap) (hcap' : u.length ≤ cap') (x y : M.Cl) (hx : x = v.getD i M.zero) (hy : y = u.getD j M.zero) (hor : orCells x y ≠ 0) (g1 : (x.kind == y.kind) = true) (g2 : (x.num == y.num) = true) (g3 : (x.text.toList == y.text.toList) = false) :
    Calls Tryz.prog 21 #[.slice (some ⟨b, off, none⟩) v.length cap, .int .i64 i, .slice (some ⟨b', off', none⟩) u.length cap', .int .i64 j] w fun e w' => e = .returned (.int .i64 (cmpL (f + 1) (part v i) (part u j))) ∧ Below w.heap.size w w' := by
  have hl := (M.fault_zero (unhide HV)).2.1
  have hl' := (M.fault_zero (unhide HU)).2.1
  obtain ⟨x0, x1, x2, x3, x4⟩ := hr i hi
  obtain ⟨y0, y1, y2, y3, y4⟩ := hr' j hj
  rw [← hx] at x0 x1 x2 x3 x4
  rw [← hy] at y0 y1 y2 y3 y4
  have HROW := hide hr
  have HROW' := hide hr'
  have fin := hide (cat_early f (unhide HV) (unhide HU) hi hj (by rw [← hx, ← hy]; exact hor))
  rw [← hx, ← hy] at fin
  have HNE := hide hor
  have a1 : (i : Int) < (v.length : Int) := by omega
  have a2 : (j : Int) < (u.length : Int) := by omega
  have n1 : b ≠ w.heap.size := by omega
  have n2 : b' ≠ w.heap.size := by omega
  clear hr hr' hx hy hpl hor
  go_enter Tryz.func21, Tryz.ntmps21
  go_wp2_with fail
  go_region
  · clear x0 x1 x2 x3 x4 y0 y1 y2 y3 y4
    go_wp2_with fail
    refine (compareCells_any x y _).mono ?_
    rintro e w0 ⟨rfl, hb0⟩
    have B : Below w.heap.size w w0 := ((((Below.refl _ _).alloc (Nat.le_refl _) _).alloc (by simp) _).drew).trans (hb0.mono (by simp <;> omega))
    clear hb0
    generalize orCells x y = q at *
    have hq0 : (q == 0) = false := by simp [unhide HNE]
    go_wp2_with fail
    go_ret
    exact ⟨ret_int (unhide fin).symm, B⟩
  · clear x0 x1 x2 x3 x4 y0 y1 y2 y3 y4
    go_wp2_with fail
    refine (compareCells_any x y _).mono ?_
    rintro e w0 ⟨rfl, hb0⟩
    have B : Below w.heap.size w w0 := ((((Below.refl _ _).alloc (Nat.le_refl _) _).alloc (by simp) _).drew).trans (hb0.mono (by simp <;> omega))
    clear hb0
    generalize orCells x y = q at *
    have hq0 : (q == 0) = false := by simp [unhide HNE]
    go_wp2_with fail
    go_ret
    exact ⟨ret_int (unhide fin).symm, B⟩

end Go.Proofs.YtikeffckhklhbaaGreatDoor
