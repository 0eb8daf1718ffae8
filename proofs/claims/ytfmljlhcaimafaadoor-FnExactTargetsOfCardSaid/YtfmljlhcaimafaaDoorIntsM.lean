/-
  Marks in a list of numbers, and in an answer that holds one.
-/
import Derived.Test.YtfmljlhcaimafaaDoorChildT
namespace Go.Proofs.YtfmljlhcaimafaaDoor
open Go.RowKit
set_option linter.unusedVariables false

set_option maxHeartbeats 400000 in
theorem eqInt64S_none (a a' : Option Addr) (cap cap' : Nat) (w : World) :
    Calls Tryd.prog 36 #[.slice a 0 cap, .slice a' 0 cap'] w fun e w' => e = .returned (.bool true) ∧ Below w.heap.size w w' := by
  go_enter Tryd.func36, Tryd.ntmps36
  go_wp2_with fail
  refine wp_loop_rounds 1 ?_
  rw [rounds_succ]
  go_wp2_with fail
  go_ret
  exact ⟨rfl, Below.refl _ _⟩

set_option maxHeartbeats 1000000 in
theorem eqInt64S_same (b cap b' cap' : Nat) (l : List Int) (w : World) (h : OwnI w b l) (h' : OwnI w b' l) (hn : l.length ≤ 1048576) (h1 : l.length ≤ cap) (h2 : l.length ≤ cap') :
    Calls Tryd.prog 36 #[.slice (some ⟨b, 0, none⟩) l.length cap, .slice (some ⟨b', 0, none⟩) l.length cap'] w fun e w' => e = .returned (.bool true) ∧ Below w.heap.size w w' := by
  go_enter Tryd.func36, Tryd.ntmps36
  go_wp2_with fail
  go_loopw [5] (fun i wr => ∃ k : Nat, k ≤ l.length ∧ i = .int .i64 k ∧ Below w.heap.size w wr) (fun i _ => l.length - (intOf i).toNat)
  case atStart => exact ⟨0, by omega, rfl, Below.refl _ _⟩
  case round =>
    obtain ⟨k, hk, rfl, hbel⟩ := hrel
    by_cases hlt : k < l.length
    · have f := (h.below hbel h.lt).cell hlt
      have g := (h'.below hbel h'.lt).cell hlt
      generalize l.getD k 0 = x at *
      have hlt' : (k : Int) < (l.length : Int) := by omega
      go_wp2_with fail
      go_quiet (fail)
      go_wp2_with fail
      go_roundw
      case rel => exact ⟨k + 1, by omega, by go_num, below_drewN hbel _⟩
      case measure => simp [intOf]; omega
    · go_wp2_with fail
      go_ret
      exact ⟨rfl, hbel⟩

def markedI (n : Nat) (k : Int) : List Int := (List.range n).map fun (i : Nat) => k + (i : Int)
theorem markedI_length (n : Nat) (k : Int) : (markedI n k).length = n := by simp [markedI]
theorem markedI_getD (n : Nat) (k : Int) (i : Nat) (hi : i < n) : (markedI n k).getD i 0 = k + i := by simp [markedI, List.getD_eq_getElem?_getD, hi]

set_option maxHeartbeats 1000000 in
theorem markInt64S_any (b cap : Nat) (l : List Int) (k : Int) (w : World) (ho : OwnI w b l) (hn : l.length ≤ 1048576) (hcap : l.length ≤ cap) (k0 : 0 ≤ k) (k1 : k ≤ 100000000000) :
    Calls Tryd.prog 37 #[.slice (some ⟨b, 0, none⟩) l.length cap, .int .i64 k] w fun e w' => e = .returned (.int .i64 (k + l.length)) ∧ OwnI w' b (markedI l.length k) ∧ But w.heap.size b w w' := by
  have hblt := ho.lt
  go_enter Tryd.func37, Tryd.ntmps37
  go_wp2_with fail
  go_loopg [1, 5] l.length (fun g s1 s5 wr => ∃ (i : Nat) (q : Int) (xs : List Value), Hid (g = l.length - i) ∧ s5 = .int .i64 i ∧ s1 = .int .i64 q ∧ i ≤ l.length ∧ 0 ≤ q ∧ q ≤ 200000000000 ∧ Hid (q = k + i) ∧ Own wr b 2 xs ∧ Hid (l.length ≤ xs.length ∧ ∀ j, j < i → xs[j]? = some (.int .i64 (k + j))) ∧ But w.heap.size b w wr)
  case atStart =>
    obtain ⟨xs, o1, o2, _⟩ := ho
    exact ⟨0, k, xs, rfl, rfl, rfl, by omega, k0, by omega, by simp [Hid], o1, ⟨o2, fun i hi => absurd hi (by omega)⟩, But.refl _ _ _⟩
  case round =>
    clear ho
    obtain ⟨i, q, xs, hg, rfl, rfl, hi, q0, q1, hq, hown, hwords, hbut⟩ := hrel
    by_cases hlt : i < l.length
    · obtain ⟨v0, g0⟩ := some_of_lt (xs := xs) (j := i) (by have := hwords.out.1; omega)
      have i0 := (hown.cell i).trans g0
      have z0 := hown.frozen i
      have G0 := hide g0
      clear g0
      go_wp2_with fail
      go_roundg (l.length - (i + 1))
      case rel =>
        refine ⟨i + 1, _, _, rfl, by go_num, rfl, by omega, by omega, ?_, ?_, hown.set i _, ⟨?_, ?_⟩, hbut.trans (But.set _ b i _ _)⟩
        · have := hq.out; omega
        · show _ = _; have := hq.out; omega
        · have := hwords.out.1; simpa using this
        · intro j hj
          have h5 := hq.out
          have h6 := hwords.out.1
          by_cases e : j = i
          · subst e; rw [List.getElem?_set_self (by omega), h5]
          · rw [List.getElem?_set_ne (by omega)]; exact hwords.out.2 j (by omega)
      case measure => have := hg.out; omega
    · have hie : i = l.length := by omega
      have fin : OwnI wr b (markedI l.length k) := ⟨xs, hown, by rw [markedI_length]; exact hwords.out.1, fun j hj => by
        rw [markedI_length] at hj
        rw [markedI_getD _ _ _ hj]; exact hwords.out.2 j (by omega)⟩
      have hq' := hq.out
      rw [hie] at hq'
      have HQ := hide hq'
      clear hie hq'
      go_wp2_with fail
      go_ret
      exact ⟨ret_int (unhide HQ), fin, hbut⟩

set_option maxHeartbeats 1000000 in
theorem heldInt64S_any (b cap n : Nat) (k : Int) (w : World) (ho : OwnI w b (markedI n k)) (hn : n ≤ 1048576) (hcap : n ≤ cap) (k0 : 0 ≤ k) (k1 : k ≤ 100000000000) :
    Calls Tryd.prog 38 #[.slice (some ⟨b, 0, none⟩) n cap, .int .i64 k] w fun e w' => e = .returned (.int .i64 (k + n)) ∧ Below w.heap.size w w' := by
  have HO := hide ho
  clear ho
  go_enter Tryd.func38, Tryd.ntmps38
  go_wp2_with fail
  go_loopg [1, 5] n (fun g s1 s5 wr => ∃ (i : Nat) (q : Int), Hid (g = n - i) ∧ s5 = .int .i64 i ∧ s1 = .int .i64 q ∧ i ≤ n ∧ 0 ≤ q ∧ q ≤ 200000000000 ∧ Hid (q = k + i) ∧ Below w.heap.size w wr)
  case atStart => exact ⟨0, k, rfl, rfl, rfl, by omega, k0, by omega, by simp [Hid], Below.refl _ _⟩
  case round =>
    obtain ⟨i, q, hg, rfl, rfl, hi, q0, q1, hq, hbel⟩ := hrel
    by_cases hlt : i < n
    · have f := ((unhide HO).below hbel (unhide HO).lt).cell (i := i) (by rw [markedI_length]; exact hlt)
      rw [markedI_getD n k i hlt, show k + (i : Int) = q from by have := hq.out; omega] at f
      go_wp2_with fail
      go_roundg (n - (i + 1))
      case rel =>
        refine ⟨i + 1, _, rfl, by go_num, rfl, by omega, by omega, ?_, ?_, hbel⟩
        · have := hq.out; omega
        · show _ = _; have := hq.out; omega
      case measure => have := hg.out; omega
    · have hie : i = n := by omega
      have hq' := hq.out
      rw [hie] at hq'
      have HQ := hide hq'
      clear hie hq'
      go_wp2_with fail
      go_ret
      exact ⟨ret_int (unhide HQ), hbel⟩

set_option maxHeartbeats 400000 in
theorem markInt64S_none (k : Int) (w : World) :
    Calls Tryd.prog 37 #[.slice none 0 0, .int .i64 k] w fun e w' => e = .returned (.int .i64 k) ∧ Below w.heap.size w w' := by
  go_enter Tryd.func37, Tryd.ntmps37
  go_wp2_with fail
  refine wp_loop_rounds 1 ?_
  rw [rounds_succ]
  go_wp2_with fail
  go_ret
  exact ⟨rfl, Below.refl _ _⟩
set_option maxHeartbeats 400000 in
theorem heldInt64S_none (k : Int) (w : World) :
    Calls Tryd.prog 38 #[.slice none 0 0, .int .i64 k] w fun e w' => e = .returned (.int .i64 k) ∧ Below w.heap.size w w' := by
  go_enter Tryd.func38, Tryd.ntmps38
  go_wp2_with fail
  refine wp_loop_rounds 1 ?_
  rw [rounds_succ]
  go_wp2_with fail
  go_ret
  exact ⟨rfl, Below.refl _ _⟩

theorem eqInt64S_res (s s' : Value) (B B' : Nat) (l : List Int) (w : World) (h : ResI w B s l) (h' : ResI w B' s' l) :
    Calls Tryd.prog 36 #[s, s'] w fun e w' => e = .returned (.bool true) ∧ Below w.heap.size w w' := by
  obtain ⟨hn, ⟨rfl, hl⟩ | ⟨b, cap, rfl, h2, h3, h4⟩⟩ := h
  · subst hl
    obtain ⟨_, ⟨rfl, _⟩ | ⟨b', cap', rfl, g2, g3, g4⟩⟩ := h'
    · exact eqInt64S_none _ _ _ _ _
    · exact eqInt64S_none _ _ _ _ _
  · obtain ⟨_, ⟨rfl, rfl⟩ | ⟨b', cap', rfl, g2, g3, g4⟩⟩ := h'
    · exact eqInt64S_none _ _ _ _ _
    · exact eqInt64S_same b cap b' cap' l w h4 g4 hn h3 g3

theorem markInt64S_res (s : Value) (B : Nat) (l : List Int) (k : Int) (w : World) (h : ResI w B s l) (k0 : 0 ≤ k) (k1 : k ≤ 100000000000) :
    Calls Tryd.prog 37 #[s, .int .i64 k] w fun e w' => e = .returned (.int .i64 (k + l.length)) ∧ ResI w' B s (markedI l.length k) ∧ ButV s w w' := by
  obtain ⟨hn, ⟨rfl, rfl⟩ | ⟨b, cap, rfl, h2, h3, h4⟩⟩ := h
  · refine (markInt64S_none k w).mono ?_
    rintro e w' ⟨rfl, hb⟩
    exact ⟨by simp, ⟨by simp [markedI], .inl ⟨rfl, rfl⟩⟩, ⟨hb.os, hb.tape, hb.output, hb.size, fun i hi _ => hb.block i hi⟩⟩
  · refine (markInt64S_any b cap l k w h4 hn h3 k0 k1).mono ?_
    rintro e w' ⟨rfl, ho, hb⟩
    refine ⟨rfl, ⟨by rw [markedI_length]; exact hn, .inr ⟨b, cap, by rw [markedI_length], h2, by rw [markedI_length]; exact h3, ho⟩⟩, ⟨hb.os, hb.tape, hb.output, hb.size, fun i hi hne => hb.block i hi (fun e => hne (by rw [e]; rfl))⟩⟩

theorem heldInt64S_res (s : Value) (B n : Nat) (k : Int) (w : World) (h : ResI w B s (markedI n k)) (k0 : 0 ≤ k) (k1 : k ≤ 100000000000) :
    Calls Tryd.prog 38 #[s, .int .i64 k] w fun e w' => e = .returned (.int .i64 (k + n)) ∧ Below w.heap.size w w' := by
  obtain ⟨hn, ⟨rfl, hl⟩ | ⟨b, cap, rfl, h2, h3, h4⟩⟩ := h
  · have : n = 0 := by have := congrArg List.length hl; rwa [markedI_length] at this
    subst this
    refine (heldInt64S_none k w).mono ?_
    rintro e w' ⟨rfl, hb⟩
    exact ⟨by simp, hb⟩
  · rw [markedI_length] at hn h3 ⊢
    exact heldInt64S_any b cap n k w h4 hn h3 k0 k1

set_option maxHeartbeats 1000000 in
theorem eqIntsResult_any (code : Int) (s s' : Value) (B B' : Nat) (l : List Int) (w : World) (h : ResI w B s l) (h' : ResI w B' s' l) :
    Calls Tryd.prog 18 #[.agg #[.int .i64 code, s], .agg #[.int .i64 code, s']] w fun e w' => e = .returned (.bool true) ∧ Below w.heap.size w w' := by
  have HB : ∀ o o', Below w.heap.size w ((w.alloc o).alloc o') := fun o o' => ((Below.refl _ _).alloc (Nat.le_refl _) _).alloc (by simp) _
  have H := hide (fun o o' => eqInt64S_res s s' B B' l ((w.alloc o).alloc o') ((h.alloc o).alloc o') ((h'.alloc o).alloc o'))
  obtain ⟨a, n, cap, rfl⟩ := h.shape
  obtain ⟨a', n', cap', rfl⟩ := h'.shape
  clear h h'
  have HB' := hide HB
  clear HB
  go_enter Tryd.func18, Tryd.ntmps18
  go_wp2_with fail
  refine ((unhide H) _ _).mono ?_
  rintro e w1 ⟨rfl, hb1⟩
  go_wp2_with fail
  go_ret
  exact ⟨rfl, ((unhide HB') _ _).trans (hb1.mono (by simp <;> omega))⟩

set_option maxHeartbeats 1000000 in
theorem markIntsResult_any (code : Int) (s : Value) (B : Nat) (l : List Int) (k : Int) (w : World) (h : ResI w B s l) (k0 : 0 ≤ k) (k1 : k ≤ 100000000000) :
    Calls Tryd.prog 19 #[.agg #[.int .i64 code, s], .int .i64 k] w fun e w' => e = .returned (.int .i64 (k + l.length)) ∧ ResI w' B s (markedI l.length k) ∧ ButV s w w' := by
  have H := hide (fun o => markInt64S_res s B l k (w.alloc o) (h.alloc o) k0 k1)
  obtain ⟨a, n, cap, rfl⟩ := h.shape
  clear h
  go_enter Tryd.func19, Tryd.ntmps19
  go_wp2_with fail
  refine ((unhide H) _).mono ?_
  rintro e w1 ⟨rfl, hr, hb⟩
  go_wp2_with fail
  go_ret
  refine ⟨rfl, hr, ⟨hb.os, hb.tape, hb.output, by have := hb.size; simp at this; omega, fun i hi hne => ?_⟩⟩
  rw [hb.block i (by simp; omega) hne]
  exact Below.heap_alloc _ _ _ hi

set_option maxHeartbeats 1000000 in
theorem heldIntsResult_any (code : Int) (s : Value) (B n : Nat) (k : Int) (w : World) (h : ResI w B s (markedI n k)) (k0 : 0 ≤ k) (k1 : k ≤ 100000000000) (hn : n ≤ 1048576) :
    Calls Tryd.prog 20 #[.agg #[.int .i64 code, s], .int .i64 k] w fun e w' => e = .returned (.int .i64 (k + n)) ∧ Below w.heap.size w w' := by
  have H := hide (fun o => heldInt64S_res s B n k (w.alloc o) (h.alloc o) k0 k1)
  obtain ⟨a, m, cap, rfl⟩ := h.shape
  clear h
  go_enter Tryd.func20, Tryd.ntmps20
  go_wp2_with fail
  refine ((unhide H) _).mono ?_
  rintro e w1 ⟨rfl, hb⟩
  go_wp2_with fail
  go_ret
  exact ⟨rfl, ((Below.refl _ _).alloc (Nat.le_refl _) _).trans (hb.mono (by simp))⟩

end Go.Proofs.YtfmljlhcaimafaaDoor
