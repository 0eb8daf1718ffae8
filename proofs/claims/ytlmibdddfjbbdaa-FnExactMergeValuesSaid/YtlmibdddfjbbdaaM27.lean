/-
  Lists of lists of cells and lists of texts, wherever their slices lie: what those are told that read them.
  impl.layObject of texts and lists that lie anywhere.
-/
import Derived.Test.YtlmibdddfjbbdaaM15
import Derived.Test.YtlmibdddfjbbdaaM17
import Derived.Test.YtlmibdddfjbbdaaM22
import Derived.Test.YtlmibdddfjbbdaaM24
namespace Go.Proofs.Ytlmibdddfjbbdaa
open Go.RowKit
set_option linter.unusedVariables false

/-- The slice from a on holds slices, the i-th of which holds the cells of the i-th list. -/
def LV (w : World) (a : Option Addr) (ps : List (List M.Cl)) : Prop :=
  ∀ i, i < ps.length → ∃ g b off c, a = some ⟨g, 0, none⟩ ∧ g < w.heap.size ∧ w.cell? ⟨g, i, none⟩ = some (.slice (some ⟨b, off, none⟩) (ps.getD i []).length c) ∧ (ps.getD i []).length ≤ c ∧ b < w.heap.size ∧ Row w b off (ps.getD i [])
theorem LV.below {w w' : World} {a : Option Addr} {ps : List (List M.Cl)} (h : LV w a ps) (hb : Below w.heap.size w w') : LV w' a ps := by
  intro i hi
  obtain ⟨g, b, off, c, rfl, h1, h2, h3, h4, h5⟩ := h i hi
  exact ⟨g, b, off, c, rfl, Nat.lt_of_lt_of_le h1 hb.size, (hb.cell h1).trans h2, h3, Nat.lt_of_lt_of_le h4 hb.size, h5.below hb h4⟩
/-- The slice from a on holds the texts. -/
def TV (w : World) (a : Option Addr) (ks : List ByteArray) : Prop := ∀ i, i < ks.length → ∃ g, a = some ⟨g, 0, none⟩ ∧ g < w.heap.size ∧ w.cell? ⟨g, i, none⟩ = some (.string (ks.getD i ByteArray.empty))
theorem TV.below {w w' : World} {a : Option Addr} {ks : List ByteArray} (h : TV w a ks) (hb : Below w.heap.size w w') : TV w' a ks := by
  intro i hi
  obtain ⟨g, rfl, h1, h2⟩ := h i hi
  exact ⟨g, rfl, Nat.lt_of_lt_of_le h1 hb.size, (hb.cell h1).trans h2⟩

theorem row_at {w : World} {base g cap n : Nat} {e : TypeId} {cur : Array Value} {xs : List Value} {i : Nat} (hh : w.heap[g]? = some (.cells cur e (0, 0))) (ht : cur.toList.take (n * 1) = xs) (hi : i < n) : w.cell? ⟨g, i, none⟩ = xs[i]? := by
  rw [cell_of_row w g i cur e (0, 0) hh]
  have h3 : cur.toList[i]? = xs[i]? := by rw [← ht, List.getElem?_take, if_pos (by omega)]
  have h4 : cur[i]? = cur.toList[i]? := by simp
  rw [h4, h3]

theorem SS.lv {w : World} {B : Nat} {v : Value} {ps : List (List M.Cl)} (h : SS w B v ps) (hne : ∀ i, i < ps.length → ps.getD i [] ≠ []) : ∃ a c, v = .slice a ps.length c ∧ ps.length ≤ c ∧ LV w a ps := by
  obtain ⟨ss, hl, ho, hr⟩ := h
  obtain ⟨_, ⟨rfl, h0⟩ | ⟨g, cap, cur, rfl, hg, hh, hnc, hcm, hcs, ht⟩⟩ := ho
  · exact ⟨none, 0, by rw [h0], by omega, fun i hi => by omega⟩
  · refine ⟨_, cap, rfl, hnc, fun i hi => ?_⟩
    obtain ⟨b, c, e, hc, hO⟩ := res_any (hr i hi) (hne i hi)
    refine ⟨g, b, 0, c, rfl, (Array.getElem?_eq_some_iff.1 hh).1, ?_, hc, hO.lt, hO.row⟩
    rw [row_at (base := 0) (cap := 0) hh ht hi, List.getElem?_eq_getElem (by omega)]
    rw [List.getD_eq_getElem?_getD, List.getElem?_eq_getElem (by omega)] at e
    simp only [Option.getD_some] at e
    rw [e]
theorem KS.tv {w : World} {B : Nat} {v : Value} {ks : List ByteArray} (h : KS w B v ks) : ∃ a c, v = .slice a ks.length c ∧ ks.length ≤ c ∧ TV w a ks := by
  obtain ⟨_, ⟨rfl, h0⟩ | ⟨g, cap, cur, rfl, hg, hh, hnc, hcm, hcs, ht⟩⟩ := h
  · exact ⟨none, 0, by rw [h0], by omega, fun i hi => by omega⟩
  · refine ⟨_, cap, rfl, hnc, fun i hi => ⟨g, rfl, (Array.getElem?_eq_some_iff.1 hh).1, ?_⟩⟩
    rw [row_at (base := 0) (cap := 0) hh ht hi, List.getElem?_map, List.getElem?_eq_getElem hi, List.getD_eq_getElem?_getD, List.getElem?_eq_getElem hi]
    rfl

set_option maxHeartbeats 1000000 in
theorem firstFaultV_any (a : Option Addr) (cap : Nat) (ps : List (List M.Cl)) (w : World) (hL : LV w a ps) (hcap : ps.length ≤ cap) (hn : ps.length ≤ 1048576) (hln : ∀ j, j < ps.length → (ps.getD j []).length ≤ 1048576) (hok : OkS ps) :
    Calls Try.prog 19 #[.slice a ps.length cap] w fun e w' => e = .returned (.int .i64 (firstBad ps)) ∧ Below w.heap.size w w' := by
  have HL := hide hL
  have OK := hide hok
  have HN := hide hln
  clear hL hok hln
  go_enter Try.func19, Try.ntmps19
  go_wp2_with fail
  go_loopg [8] ps.length (fun gh s8 wr => ∃ k : Nat, Hid (gh = ps.length - k) ∧ s8 = .int .i64 k ∧ k ≤ ps.length ∧ Hid (∀ j, j < k → M.valueFault (ps.getD j []) = 0) ∧ Below w.heap.size w wr)
  case atStart => exact ⟨0, rfl, rfl, by omega, fun j hj => absurd hj (by omega), Below.refl _ _⟩
  case round =>
    obtain ⟨k, hg, rfl, hk, hall, hbel⟩ := hrel
    by_cases hlt : k < ps.length
    · obtain ⟨g, b, off, c, rfl, hgl, f0, hc, hb, hr⟩ := ((unhide HL).below hbel) k hlt
      have hq := (unhide HN) k hlt
      have hok := hide ((unhide OK) k hlt)
      have hhit := hide (fun hz => firstBad_hit ps k hall.out hlt hz)
      have hnext := hide (fun (h0 : M.valueFault (ps.getD k []) = 0) j (hj : j < k + 1) => show M.valueFault (ps.getD j []) = 0 by
        by_cases e : j = k
        · subst e; exact h0
        · exact hall.out j (by omega))
      generalize ps.getD k [] = p at *
      go_wp2_with fail
      refine (implFault_any p b off c _ hr hb hq hc (unhide hok)).mono ?_
      rintro e1 w1 ⟨rfl, hb1⟩
      have B1 : Below w.heap.size w w1 := hbel.trans (hb1.mono hbel.size)
      clear hr f0 hok hb1 hbel
      generalize hqq : M.valueFault p = q at *
      by_cases hz : q = 0
      · subst hz
        have hn2 := hide ((unhide hnext) rfl)
        clear hhit hnext
        go_wp2_with fail
        go_roundg (ps.length - (k + 1))
        case rel => exact ⟨k + 1, rfl, by go_num, by omega, unhide hn2, B1⟩
        case measure => have := hg.out; omega
      · have fin := hide ((unhide hhit) hz)
        have hz' : (q == 0) = false := by simp [hz]
        clear hhit hnext hqq
        go_wp2_with fail
        go_ret
        exact ⟨ret_int (unhide fin).symm, B1⟩
    · have hke : k = ps.length := by omega
      have fin := hide (firstBad_none ps (by rw [← hke]; exact hall.out))
      clear hke
      go_wp2_with fail
      go_ret
      exact ⟨ret_int (unhide fin).symm, hbel⟩

end Go.Proofs.Ytlmibdddfjbbdaa

namespace Go.Proofs.Ytlmibdddfjbbdaa
open Go.RowKit
set_option linter.unusedVariables false

set_option maxHeartbeats 1000000 in
theorem standing_none (a : Option Addr) (kc : Nat) (w : World) :
    Calls Try.prog 43 #[.slice a 0 kc] w fun e w' => e = .returned (.slice none 0 0) ∧ Below w.heap.size w w' := by
  go_enter Try.func43, Try.ntmps43
  go_wp2_with fail
  refine wp_loop_rounds 1 ?_
  rw [rounds_succ]
  go_wp2_with fail
  refine (sortStable_none _ _).mono ?_
  rintro r w2 ⟨rfl, rfl⟩
  go_wp2_with fail
  refine wp_loop_rounds 1 ?_
  rw [rounds_succ]
  go_wp2_with fail
  go_ret
  exact ⟨rfl, (Below.refl _ _).alloc (Nat.le_refl _) _⟩
theorem objV_nil' : objV [] [] = [headCl 6 0] := rfl
set_option maxHeartbeats 1000000 in
theorem layObject_none (a a' : Option Addr) (kc lc : Nat) (w : World) :
    Calls Try.prog 34 #[.slice a 0 kc, .slice a' 0 lc] w fun e w' => ∃ s, e = .returned s ∧ Res w' w.heap.size s (objV [] []) ∧ Below w.heap.size w w' := by
  go_enter Try.func34, Try.ntmps34
  go_wp2_with fail
  refine (standing_none _ _ _).mono ?_
  rintro e1 w1 ⟨rfl, hb1⟩
  go_wp2_with fail
  refine wp_loop_rounds 1 ?_
  rw [rounds_succ]
  go_wp2_with fail
  go_ret
  refine ⟨_, rfl, ?_, ?_⟩
  · rw [objV_nil']; exact res_of_owns (one_own w1 w.heap.size _ (headCl 6 0) rfl hb1.size) (by simp)
  · exact hb1.alloc hb1.size _

end Go.Proofs.Ytlmibdddfjbbdaa
