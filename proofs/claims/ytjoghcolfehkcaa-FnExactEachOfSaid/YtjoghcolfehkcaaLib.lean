/-
  The laws' own helpers over cells: what they measure, copy and compare, each by its contract.
-/
import Derived.Test.YtjoghcolfehkcaaText
import Derived.Test.YtjoghcolfehkcaaMem
import Derived.Deep.RegionWith
namespace Go.Proofs.Ytjoghcolfehkcaa
open Go.RowKit
set_option linter.unusedVariables false

set_option maxHeartbeats 400000 in
/-- laws.toCell: the same five fields. -/
theorem toCell_any (kind num n : Int) (text key : ByteArray) (w : World) :
    Calls Try.prog 55 #[.agg #[.int .i64 kind, .int .i64 num, .string text, .string key, .int .i64 n]] w fun e w' => e = .returned (.agg #[.int .i64 kind, .int .i64 num, .string text, .string key, .int .i64 n]) ∧ Below w.heap.size w w' := by
  go_enter Try.func55, Try.ntmps55
  go_wp2
  exact bodyPost_ret (v := .agg #[.int .i64 kind, .int .i64 num, .string text, .string key, .int .i64 n]) (by simp [results, Try.results55, go_sem]) rfl ⟨rfl, (((Below.refl _ _).alloc (Nat.le_refl _) _).alloc (by simp) _).alloc (by simp <;> omega) _⟩

set_option maxHeartbeats 400000 in
/-- laws.szCell. -/
theorem szCell_any (kind num n left : Int) (text key : ByteArray) (w : World) (h0 : 0 ≤ left) (h1 : left ≤ 1048576) (ht : text.size ≤ 9223372036854775807) (hk : key.size ≤ 9223372036854775807) :
    Calls Try.prog 52 #[.agg #[.int .i64 kind, .int .i64 num, .string text, .string key, .int .i64 n], .int .i64 left] w fun e w' => ∃ r : Int, e = .returned (.int .i64 r) ∧ (r = -1 ∨ (0 ≤ r ∧ r = left - text.size - key.size)) ∧ Below w.heap.size w w' := by
  by_cases c1 : left - text.size < 0
  · go_enter Try.func52, Try.ntmps52
    go_wp2
    go_ret
    exact ⟨_, rfl, .inl rfl, (Below.refl _ _).alloc (Nat.le_refl _) _⟩
  by_cases c2 : left - text.size - key.size < 0
  · go_enter Try.func52, Try.ntmps52
    go_wp2
    go_ret
    exact ⟨_, rfl, .inl rfl, (Below.refl _ _).alloc (Nat.le_refl _) _⟩
  · go_enter Try.func52, Try.ntmps52
    go_wp2
    go_ret
    exact ⟨_, rfl, .inr ⟨by omega, rfl⟩, (Below.refl _ _).alloc (Nat.le_refl _) _⟩

set_option maxHeartbeats 400000 in
/-- laws.szCellS of a slice that has cells. -/
theorem szCellS_any (b off cap : Nat) (l : List M.Cl) (left : Int) (w : World) (hrow : Row w b off l) (hb : b < w.heap.size) (hcap : cap ≤ 9223372036854775807) (hl : l.length ≤ cap) (hok : ∀ c ∈ l, c.ok) (h0 : 0 ≤ left) (h1 : left ≤ 1048576) :
    Calls Try.prog 16 #[.slice (some ⟨b, off, none⟩) l.length cap, .int .i64 left] w fun e w' => ∃ r : Int, e = .returned (.int .i64 r) ∧ ((r < 0) ∨ (0 ≤ r ∧ r = left - l.length - szAll l)) ∧ Below w.heap.size w w' := by
  by_cases c1 : left - l.length < 0
  · go_enter Try.func16, Try.ntmps16
    go_wp2
    go_ret
    exact ⟨_, rfl, .inl (by decide), Below.refl _ _⟩
  have c2 : (l.length : Int) ≤ left := by omega
  go_enter Try.func16, Try.ntmps16
  go_wp2_with fail
  go_loopw [1, 5] (fun u i wr => ∃ (k : Nat) (q : Int), k ≤ l.length ∧ i = .int .i64 k ∧ u = .int .i64 q ∧ 0 ≤ q ∧ q ≤ 1048576 ∧ Hid (q = left - l.length - szAll (l.take k)) ∧ Below w.heap.size w wr) (fun _ i _ => l.length - (intOf i).toNat)
  case atStart => exact ⟨0, _, by omega, rfl, rfl, by omega, by omega, by simp [Hid, szAll], Below.refl _ _⟩
  case round =>
    obtain ⟨k, q, hk, rfl, rfl, hq0, hq1, hq, hbel⟩ := hrel
    by_cases hlt : k < l.length
    · obtain ⟨c, hc⟩ : ∃ c, c = l.getD k M.zero := ⟨_, rfl⟩
      have hco := hok _ (getD_mem l k hlt)
      obtain ⟨f0, f1, f2, f3, f4⟩ := (hrow.below hbel hb) k hlt
      have hst := hide (szAll_take l k hlt)
      rw [← hc] at hco f0 f1 f2 f3 f4 hst
      have hsz1 := hco.2.2.2.1
      have hsz2 := hco.2.2.2.2
      clear hco
      have HC := hide hc
      clear hc
      go_wp2_with fail
      refine (szCell_any c.kind c.num c.n q c.text c.key _ hq0 hq1 hsz1 hsz2).mono ?_
      rintro e w1 ⟨r, rfl, hr, hb1⟩
      have hb2 : Below w.heap.size w w1 := hbel.trans (hb1.mono (by exact hbel.size))
      rcases hr with rfl | ⟨hr0, hr1⟩
      · go_wp2_with fail
        go_ret
        exact ⟨_, rfl, .inl (by decide), hb2⟩
      · have hr2 : r ≤ 1048576 := by omega
        have HR := hide hr1
        clear hr1
        go_wp2_with fail
        go_roundw
        case rel =>
          refine ⟨k + 1, r, by omega, by go_num, rfl, hr0, hr2, ?_, hb2⟩
          have e1 := unhide hst
          have e2 := unhide HR
          have e3 := hq.out
          show r = _
          rw [e1]; omega
        case measure => simp [intOf]; omega
    · have hke : k = l.length := by omega
      have e3 := hq
      rw [hke, List.take_length] at e3
      clear hq hke
      go_wp2_with fail
      go_ret
      exact ⟨_, rfl, .inr ⟨hq0, e3.out⟩, hbel⟩

set_option maxHeartbeats 400000 in
/-- laws.szCellS of a slice that has none. -/
theorem szCellS_none (a : Option Addr) (cap : Nat) (left : Int) (w : World) (hcap : cap ≤ 9223372036854775807) (h0 : 0 ≤ left) (h1 : left ≤ 1048576) :
    Calls Try.prog 16 #[.slice a 0 cap, .int .i64 left] w fun e w' => e = .returned (.int .i64 left) ∧ Below w.heap.size w w' := by
  go_enter Try.func16, Try.ntmps16
  go_wp2_with fail
  refine wp_loop_rounds 1 ?_
  rw [rounds_succ]
  go_wp2_with fail
  go_ret
  exact ⟨by simp, Below.refl _ _⟩

end Go.Proofs.Ytjoghcolfehkcaa
