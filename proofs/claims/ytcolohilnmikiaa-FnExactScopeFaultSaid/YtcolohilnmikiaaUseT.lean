/-
  UsesOf: how many nodes have an op; an answer of two numbers.
-/
import Derived.Test.YtcolohilnmikiaaTreI
namespace Go.Proofs.Ytcolohilnmikiaa
open Go.RowKit
set_option linter.unusedVariables false
set_option linter.unusedSimpArgs false

namespace Tr
def uses (l : List Nd) (op : Int) : Nat → Nat
  | 0 => 0
  | k + 1 => uses l op k + if (l.getD k Nd.zero).op = op then 1 else 0
theorem uses_le (l : List Nd) (op : Int) (k : Nat) : uses l op k ≤ k := by
  induction k with
  | zero => exact Nat.le_refl _
  | succ k ih => rw [uses]; split <;> omega
def usesOut (l : List Nd) (op : Int) : Int × Int := if fault l ≠ 0 then (fault l, 0) else (0, uses l op l.length)
end Tr
/-- An answer of two numbers, read off its own block. -/
theorem ires_of {w : World} {b : Nat} {x y : Int} (h : Own w b 30 [.int .i64 x, .int .i64 y]) : w.cell? ⟨b, 0, none⟩ = some (.int .i64 x) ∧ w.cell? ⟨b, 1, none⟩ = some (.int .i64 y) := ⟨h.cell 0, h.cell 1⟩

set_option maxRecDepth 100000 in
set_option maxHeartbeats 2000000 in
theorem specUsesOf_any (b : Nat) (l : List Nd) (op : Int) (w : World) (hrow : Nd.Row w b 0 l) (hb : b < w.heap.size) (hn : l.length ≤ 1048576) (hsz : ∀ i, i < l.length → (l.getD i Nd.zero).text.size ≤ 1048576) (hok : ∀ c ∈ l, c.ok) :
    Calls Try.prog 25 #[.slice (some ⟨b, 0, none⟩) l.length l.length, .int .i64 op] w fun e w' => e = .returned (.agg #[.int .i64 (Tr.usesOut l op).1, .int .i64 (Tr.usesOut l op).2]) ∧ Below w.heap.size w w' := by
  have HR := hide hrow
  have HS := hide hsz
  have HK := hide hok
  clear hrow hsz hok
  obtain ⟨w0, hw0⟩ : ∃ w0, w0 = w.alloc (.cells #[.int .i64 0, .int .i64 0] 30) := ⟨_, rfl⟩
  have B0 : Below w.heap.size w w0 := by rw [hw0]; exact (Below.refl _ _).alloc (Nat.le_refl _) _
  have O0 : Own w0 w.heap.size 30 [.int .i64 0, .int .i64 0] := by rw [hw0]; exact ⟨_, heap_alloc_new _ _, rfl⟩
  have HC := hide (specTreeFault_any b l w0 ((unhide HR).below B0 hb) (Nat.lt_of_lt_of_le hb B0.size) hn (unhide HS) (unhide HK))
  go_enter Try.func25, Try.ntmps25
  go_wp2_with fail
  rw [← hw0]
  clear hw0
  refine (unhide HC).mono ?_
  rintro e w1 ⟨rfl, hb1⟩
  have B1 : Below w.heap.size w w1 := B0.trans (hb1.mono B0.size)
  have O1 := O0.below hb1 O0.lt
  clear O0 B0 hb1 HC
  by_cases hf : Tr.fault l = 0
  case neg =>
    have fin := hide (show Tr.usesOut l op = (Tr.fault l, 0) by unfold Tr.usesOut; rw [if_pos hf])
    generalize Tr.fault l = q at *
    have g1 : (q != 0) = true := by simpa using hf
    obtain ⟨c0, c1⟩ := ires_of O1
    have z0 := O1.frozen 0
    have z1 := O1.frozen 1
    have O2 := hide ((O1.set 0 (.int .i64 q)).set 1 (.int .i64 0))
    clear hf O1
    go_wp2_with fail
    obtain ⟨q0, q1⟩ := ires_of (x := q) (y := 0) (unhide O2)
    clear c0 c1 z0 z1 O2
    have B2 : Below w.heap.size w ((w1.setCell ⟨w.heap.size, 0, none⟩ (.int .i64 q)).setCell ⟨w.heap.size, 1, none⟩ (.int .i64 0)) := (B1.setCell (Nat.le_refl _) _).setCell (Nat.le_refl _) _
    generalize (w1.setCell ⟨w.heap.size, 0, none⟩ (.int .i64 q)).setCell ⟨w.heap.size, 1, none⟩ (.int .i64 0) = W at *
    refine bodyPost_ret (v := .agg #[.int .i64 q, .int .i64 0]) (by simp [results, Try.results25, go_sem, q0, q1]; try rfl) rfl ⟨by rw [unhide fin], B2⟩
  case pos =>
  have h200 : l.length ≤ 200 := by
    by_cases h : 200 < l.length
    · rw [Tr.fault_many (.inr h)] at hf; exact absurd hf (by decide)
    · omega
  have fin := hide (show Tr.usesOut l op = (0, (Tr.uses l op l.length : Int)) by unfold Tr.usesOut; rw [if_neg (by simpa using hf)])
  rw [hf]
  clear hf
  go_wp2_with fail
  go_loopg [6, 7] l.length (fun gh s6 s7 wr => ∃ k u : Nat, Hid (gh = l.length - k) ∧ s7 = .int .i64 k ∧ k ≤ l.length ∧ s6 = .int .i64 u ∧ u ≤ k ∧ Hid (u = Tr.uses l op k) ∧ Below w1.heap.size w1 wr)
  case atStart => exact ⟨0, 0, rfl, rfl, by omega, rfl, by omega, rfl, Below.refl _ _⟩
  case round =>
    obtain ⟨k, u, hg, rfl, hk, rfl, hu, hud, hbel⟩ := hrel
    have BW : Below w.heap.size w wr := B1.trans (hbel.mono B1.size)
    by_cases hlt : k < l.length
    · have hltI : (k : Int) < (l.length : Int) := by omega
      obtain ⟨f0, f1, f2, f3, f4, f5⟩ := ((unhide HR).below BW hb) k hlt
      simp only [Nat.zero_add] at f0 f1 f2 f3 f4 f5
      have hs := hide (show Tr.uses l op (k + 1) = Tr.uses l op k + if (l.getD k Nd.zero).op = op then 1 else 0 from rfl)
      generalize l.getD k Nd.zero = n at *
      have HB : Hid (∀ o, Below w1.heap.size w1 (wr.alloc o)) := fun o => hbel.alloc hbel.size o
      clear hlt
      by_cases he : n.op = op
      · have g1 : (n.op == op) = true := by simp [he]
        have hn2 := hide (show u + 1 = Tr.uses l op (k + 1) by rw [unhide hs, if_pos he, hud.out])
        clear he hs
        go_wp2_with fail
        go_roundg (l.length - (k + 1))
        case rel => exact ⟨k + 1, u + 1, rfl, by go_num, by omega, by go_num, by omega, unhide hn2, hbel⟩
        case measure => have := hg.out; omega
      · have g1 : (n.op == op) = false := by simpa using he
        have hn2 := hide (show u = Tr.uses l op (k + 1) by rw [unhide hs, if_neg he, hud.out]; rfl)
        clear he hs
        go_wp2_with fail
        go_roundg (l.length - (k + 1))
        case rel => exact ⟨k + 1, u, rfl, by go_num, by omega, rfl, by omega, unhide hn2, hbel⟩
        case measure => have := hg.out; omega
    · have hke : k = l.length := by omega
      have fin2 := hide (show Tr.usesOut l op = (0, (u : Int)) by rw [unhide fin, hud.out, hke])
      have O3 := O1.below hbel O1.lt
      obtain ⟨c0, c1⟩ := ires_of O3
      have z0 := O3.frozen 0
      have z1 := O3.frozen 1
      have O2 := hide ((O3.set 0 (.int .i64 0)).set 1 (.int .i64 u))
      clear hke O3 O1
      go_wp2_with fail
      obtain ⟨q0, q1⟩ := ires_of (x := 0) (y := u) (unhide O2)
      clear c0 c1 z0 z1 O2
      have B2 : Below w.heap.size w ((wr.setCell ⟨w.heap.size, 0, none⟩ (.int .i64 0)).setCell ⟨w.heap.size, 1, none⟩ (.int .i64 u)) := (BW.setCell (Nat.le_refl _) _).setCell (Nat.le_refl _) _
      generalize (wr.setCell ⟨w.heap.size, 0, none⟩ (.int .i64 0)).setCell ⟨w.heap.size, 1, none⟩ (.int .i64 u) = W at *
      refine bodyPost_ret (v := .agg #[.int .i64 0, .int .i64 u]) (by simp [results, Try.results25, go_sem, q0, q1]; try rfl) rfl ⟨by rw [unhide fin2], B2⟩

set_option maxRecDepth 100000 in
set_option maxHeartbeats 2000000 in
theorem implUsesOf_any (b : Nat) (l : List Nd) (op : Int) (w : World) (hrow : Nd.Row w b 0 l) (hb : b < w.heap.size) (hn : l.length ≤ 1048576) (hsz : ∀ i, i < l.length → (l.getD i Nd.zero).text.size ≤ 1048576) (hok : ∀ c ∈ l, c.ok) :
    Calls Try.prog 26 #[.slice (some ⟨b, 0, none⟩) l.length l.length, .int .i64 op] w fun e w' => e = .returned (.agg #[.int .i64 (Tr.usesOut l op).1, .int .i64 (Tr.usesOut l op).2]) ∧ Below w.heap.size w w' := by
  have HR := hide hrow
  have HS := hide hsz
  have HK := hide hok
  clear hrow hsz hok
  obtain ⟨w0, hw0⟩ : ∃ w0, w0 = w.alloc (.cells #[.int .i64 0, .int .i64 0] 30) := ⟨_, rfl⟩
  have B0 : Below w.heap.size w w0 := by rw [hw0]; exact (Below.refl _ _).alloc (Nat.le_refl _) _
  have O0 : Own w0 w.heap.size 30 [.int .i64 0, .int .i64 0] := by rw [hw0]; exact ⟨_, heap_alloc_new _ _, rfl⟩
  have HC := hide (implTreeFault_any b l w0 ((unhide HR).below B0 hb) (Nat.lt_of_lt_of_le hb B0.size) hn (unhide HS))
  go_enter Try.func26, Try.ntmps26
  go_wp2_with fail
  rw [← hw0]
  clear hw0
  refine (unhide HC).mono ?_
  rintro e w1 ⟨rfl, hb1⟩
  have B1 : Below w.heap.size w w1 := B0.trans (hb1.mono B0.size)
  have O1 := O0.below hb1 O0.lt
  clear O0 B0 hb1 HC
  by_cases hf : Tr.fault l = 0
  case neg =>
    have fin := hide (show Tr.usesOut l op = (Tr.fault l, 0) by unfold Tr.usesOut; rw [if_pos hf])
    generalize Tr.fault l = q at *
    have g1 : (q != 0) = true := by simpa using hf
    obtain ⟨c0, c1⟩ := ires_of O1
    have z0 := O1.frozen 0
    have z1 := O1.frozen 1
    have O2 := hide ((O1.set 0 (.int .i64 q)).set 1 (.int .i64 0))
    clear hf O1
    go_wp2_with fail
    obtain ⟨q0, q1⟩ := ires_of (x := q) (y := 0) (unhide O2)
    clear c0 c1 z0 z1 O2
    have B2 : Below w.heap.size w ((w1.setCell ⟨w.heap.size, 0, none⟩ (.int .i64 q)).setCell ⟨w.heap.size, 1, none⟩ (.int .i64 0)) := (B1.setCell (Nat.le_refl _) _).setCell (Nat.le_refl _) _
    generalize (w1.setCell ⟨w.heap.size, 0, none⟩ (.int .i64 q)).setCell ⟨w.heap.size, 1, none⟩ (.int .i64 0) = W at *
    refine bodyPost_ret (v := .agg #[.int .i64 q, .int .i64 0]) (by simp [results, Try.results26, go_sem, q0, q1]; try rfl) rfl ⟨by rw [unhide fin], B2⟩
  case pos =>
  have h200 : l.length ≤ 200 := by
    by_cases h : 200 < l.length
    · rw [Tr.fault_many (.inr h)] at hf; exact absurd hf (by decide)
    · omega
  have fin := hide (show Tr.usesOut l op = (0, (Tr.uses l op l.length : Int)) by unfold Tr.usesOut; rw [if_neg (by simpa using hf)])
  rw [hf]
  clear hf
  go_wp2_with fail
  go_loopg [6, 17] l.length (fun gh s6 s7 wr => ∃ k u : Nat, Hid (gh = l.length - k) ∧ s7 = .int .i64 k ∧ k ≤ l.length ∧ s6 = .int .i64 u ∧ u ≤ k ∧ Hid (u = Tr.uses l op k) ∧ Below w1.heap.size w1 wr)
  case atStart => exact ⟨0, 0, rfl, rfl, by omega, rfl, by omega, rfl, Below.refl _ _⟩
  case round =>
    obtain ⟨k, u, hg, rfl, hk, rfl, hu, hud, hbel⟩ := hrel
    have BW : Below w.heap.size w wr := B1.trans (hbel.mono B1.size)
    by_cases hlt : k < l.length
    · have hltI : (k : Int) < (l.length : Int) := by omega
      obtain ⟨f0, f1, f2, f3, f4, f5⟩ := ((unhide HR).below BW hb) k hlt
      simp only [Nat.zero_add] at f0 f1 f2 f3 f4 f5
      have hs := hide (show Tr.uses l op (k + 1) = Tr.uses l op k + if (l.getD k Nd.zero).op = op then 1 else 0 from rfl)
      generalize l.getD k Nd.zero = n at *
      have HB : Hid (∀ o, Below w1.heap.size w1 (wr.alloc o)) := fun o => hbel.alloc hbel.size o
      clear hlt
      by_cases he : n.op = op
      · have g1 : (n.op == op) = true := by simp [he]
        have hn2 := hide (show u + 1 = Tr.uses l op (k + 1) by rw [unhide hs, if_pos he, hud.out])
        clear he hs
        go_wp2_with fail
        go_roundg (l.length - (k + 1))
        case rel => exact ⟨k + 1, u + 1, rfl, by go_num, by omega, by go_num, by omega, unhide hn2, HB.out _⟩
        case measure => have := hg.out; omega
      · have g1 : (n.op == op) = false := by simpa using he
        have hn2 := hide (show u = Tr.uses l op (k + 1) by rw [unhide hs, if_neg he, hud.out]; rfl)
        clear he hs
        go_wp2_with fail
        go_roundg (l.length - (k + 1))
        case rel => exact ⟨k + 1, u, rfl, by go_num, by omega, rfl, by omega, unhide hn2, HB.out _⟩
        case measure => have := hg.out; omega
    · have hke : k = l.length := by omega
      have fin2 := hide (show Tr.usesOut l op = (0, (u : Int)) by rw [unhide fin, hud.out, hke])
      have O3 := O1.below hbel O1.lt
      obtain ⟨c0, c1⟩ := ires_of O3
      have z0 := O3.frozen 0
      have z1 := O3.frozen 1
      have O2 := hide ((O3.set 0 (.int .i64 0)).set 1 (.int .i64 u))
      clear hke O3 O1
      go_wp2_with fail
      obtain ⟨q0, q1⟩ := ires_of (x := 0) (y := u) (unhide O2)
      clear c0 c1 z0 z1 O2
      have B2 : Below w.heap.size w ((wr.setCell ⟨w.heap.size, 0, none⟩ (.int .i64 0)).setCell ⟨w.heap.size, 1, none⟩ (.int .i64 u)) := (BW.setCell (Nat.le_refl _) _).setCell (Nat.le_refl _) _
      generalize (wr.setCell ⟨w.heap.size, 0, none⟩ (.int .i64 0)).setCell ⟨w.heap.size, 1, none⟩ (.int .i64 u) = W at *
      refine bodyPost_ret (v := .agg #[.int .i64 0, .int .i64 u]) (by simp [results, Try.results26, go_sem, q0, q1]; try rfl) rfl ⟨by rw [unhide fin2], B2⟩

set_option maxHeartbeats 1000000 in
theorem eqIntResult_tr (x y : Int) (w : World) : Calls Try.prog 18 #[.agg #[.int .i64 x, .int .i64 y], .agg #[.int .i64 x, .int .i64 y]] w fun e w' => e = .returned (.bool true) ∧ Below w.heap.size w w' := by
  have HB : Hid (∀ o o', Below w.heap.size w ((w.alloc o).alloc o')) := fun o o' => ((Below.refl _ _).alloc (Nat.le_refl _) o).alloc (by simp [go_sem] <;> omega) o'
  go_enter Try.func18, Try.ntmps18
  go_wp2_with fail
  go_ret
  exact ⟨rfl, HB.out _ _⟩

end Go.Proofs.Ytcolohilnmikiaa
