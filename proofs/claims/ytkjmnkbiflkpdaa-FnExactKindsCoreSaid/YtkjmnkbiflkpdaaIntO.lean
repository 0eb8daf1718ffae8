/-
  An answer that holds a list of numbers that lie in a row or in an array within a struct: what the laws' helpers find, mark and find again in it.
-/
import Derived.Test.YtkjmnkbiflkpdaaRes
import Derived.Deep.QuietTactic
import Derived.BigQuiet
namespace Go.Proofs.Ytkjmnkbiflkpdaa
open Go.RowKit
set_option linter.unusedVariables false

/-- A block of the call's own that holds the numbers ns from the cell o on. -/
def OwnO (w : World) (b o : Nat) (ns : List Int) : Prop := ∃ t xs, Own w b t xs ∧ o + ns.length ≤ xs.length ∧ ∀ i, i < ns.length → xs[o + i]? = some (.int .i64 (ns.getD i 0))
theorem OwnO.lt {w : World} {b o : Nat} {l : List Int} (h : OwnO w b o l) : b < w.heap.size := by obtain ⟨t, xs, ho, _⟩ := h; exact ho.lt
theorem OwnO.below {B : Nat} {w w' : World} {b o : Nat} {l : List Int} (h : OwnO w b o l) (hb : Below B w w') (hB : b < B) : OwnO w' b o l := by
  obtain ⟨t, xs, ho, hw⟩ := h; exact ⟨t, xs, ho.below hb hB, hw⟩
theorem OwnO.cell {w : World} {b o : Nat} {l : List Int} (h : OwnO w b o l) {i : Nat} (hi : i < l.length) : w.cell? ⟨b, o + i, none⟩ = some (.int .i64 (l.getD i 0)) := by
  obtain ⟨t, xs, ho, _, hw⟩ := h; exact (ho.cell (o + i)).trans (hw i hi)
def ResO (w : World) (B : Nat) (s : Value) (l : List Int) : Prop :=
  l.length ≤ 1048576 ∧ ((s = .slice none 0 0 ∧ l = []) ∨ ∃ b o cap, s = .slice (some ⟨b, o, none⟩) l.length cap ∧ B ≤ b ∧ l.length ≤ cap ∧ OwnO w b o l)
theorem ResO.below {w w' : World} {B : Nat} {s : Value} {l : List Int} (h : ResO w B s l) (hb : Below w.heap.size w w') : ResO w' B s l := by
  obtain ⟨hn, h | ⟨b, o, cap, h1, h2, h3, h4⟩⟩ := h
  · exact ⟨hn, .inl h⟩
  · exact ⟨hn, .inr ⟨b, o, cap, h1, h2, h3, h4.below hb h4.lt⟩⟩
theorem ResO.alloc {w : World} {B : Nat} {s : Value} {l : List Int} (h : ResO w B s l) (o : Obj) : ResO (w.alloc o) B s l := h.below ((Below.refl _ _).alloc (Nat.le_refl _) o)
theorem ResO.mono {w : World} {B B' : Nat} {s : Value} {l : List Int} (h : ResO w B s l) (hB : B' ≤ B) : ResO w B' s l := by
  obtain ⟨hn, h | ⟨b, o, cap, h1, h2, h3, h4⟩⟩ := h
  · exact ⟨hn, .inl h⟩
  · exact ⟨hn, .inr ⟨b, o, cap, h1, by omega, h3, h4⟩⟩
theorem ResO.base {w : World} {B : Nat} {s : Value} {l : List Int} (h : ResO w B s l) : ∀ b, s.ownBlock = some b → B ≤ b := by
  obtain ⟨hn, ⟨rfl, _⟩ | ⟨b, o, cap, rfl, h2, h3, h4⟩⟩ := h
  · intro b hb; simp [Value.ownBlock] at hb
  · intro c hc; simp only [Value.ownBlock, Option.some.injEq] at hc; omega
theorem ResO.lt {w : World} {B : Nat} {s : Value} {l : List Int} (h : ResO w B s l) : ∀ b, s.ownBlock = some b → b < w.heap.size := by
  obtain ⟨hn, ⟨rfl, _⟩ | ⟨b, o, cap, rfl, h2, h3, h4⟩⟩ := h
  · intro b hb; simp [Value.ownBlock] at hb
  · intro c hc; simp only [Value.ownBlock, Option.some.injEq] at hc; have := h4.lt; omega
/-- Kept where its block is kept. -/
theorem ResO.kept {w w' : World} {B : Nat} {s : Value} {l : List Int} (h : ResO w B s l) (hk : ∀ b, s.ownBlock = some b → w'.heap[b]? = w.heap[b]?) : ResO w' B s l := by
  obtain ⟨hn, h | ⟨b, o, cap, h1, h2, h3, t, xs, ⟨c, q1, q2⟩, h5⟩⟩ := h
  · exact ⟨hn, .inl h⟩
  · exact ⟨hn, .inr ⟨b, o, cap, h1, h2, h3, t, xs, ⟨c, (hk b (by rw [h1]; rfl)).trans q1, q2⟩, h5⟩⟩
theorem ButV.resO {s : Value} {w w' : World} (h : ButV s w w') {B : Nat} {r : Value} {l : List Int} (hr : ResO w B r l) (hne : ∀ b, s.ownBlock = some b → r.ownBlock ≠ some b) : ResO w' B r l := by
  obtain ⟨hn, g | ⟨b, o, cap, rfl, h2, h3, t, xs, h4, h5⟩⟩ := hr
  · exact ⟨hn, .inl g⟩
  · exact ⟨hn, .inr ⟨b, o, cap, rfl, h2, h3, t, xs, h.own h4 (fun e => hne b e rfl), h5⟩⟩
theorem ResO.shape {w : World} {B : Nat} {s : Value} {l : List Int} (h : ResO w B s l) : ∃ a n cap, s = .slice a n cap := by
  obtain ⟨_, ⟨rfl, _⟩ | ⟨b, o, cap, rfl, _⟩⟩ := h
  · exact ⟨_, _, _, rfl⟩
  · exact ⟨_, _, _, rfl⟩

set_option maxHeartbeats 400000 in
theorem eqInt64SO_none (a a' : Option Addr) (cap cap' : Nat) (w : World) :
    Calls Try.prog 27 #[.slice a 0 cap, .slice a' 0 cap'] w fun e w' => e = .returned (.bool true) ∧ Below w.heap.size w w' := by
  go_enter Try.func27, Try.ntmps27
  go_wp2_with fail
  refine wp_loop_rounds 1 ?_
  rw [rounds_succ]
  go_wp2_with fail
  go_ret
  exact ⟨rfl, Below.refl _ _⟩

set_option maxHeartbeats 1000000 in
theorem eqInt64SO_same (b o cap b' o' cap' : Nat) (l : List Int) (w : World) (h : OwnO w b o l) (h' : OwnO w b' o' l) (hn : l.length ≤ 1048576) (h1 : l.length ≤ cap) (h2 : l.length ≤ cap') :
    Calls Try.prog 27 #[.slice (some ⟨b, o, none⟩) l.length cap, .slice (some ⟨b', o', none⟩) l.length cap'] w fun e w' => e = .returned (.bool true) ∧ Below w.heap.size w w' := by
  go_enter Try.func27, Try.ntmps27
  go_wp2_with fail
  go_loopw [5] (fun i wr => ∃ k : Nat, k ≤ l.length ∧ i = .int .i64 k ∧ Below w.heap.size w wr) (fun i _ => l.length - (intOf i).toNat)
  case atStart => exact ⟨0, by omega, rfl, Below.refl _ _⟩
  case round =>
    obtain ⟨k, hk, rfl, hbel⟩ := hrel
    by_cases hlt : k < l.length
    · have f := (h.below hbel h.lt).cell hlt
      have g := (h'.below hbel h'.lt).cell hlt
      generalize l.getD k 0 = x at *
      have hlt' : (k : Int) < (l.length : Int) := by omega
      go_wp2_with fail
      go_quiet (fail)
      go_wp2_with fail
      go_roundw
      case rel => exact ⟨k + 1, by omega, by go_num, below_drewN hbel _⟩
      case measure => simp [intOf]; omega
    · go_wp2_with fail
      go_ret
      exact ⟨rfl, hbel⟩

def markedO (n : Nat) (k : Int) : List Int := (List.range n).map fun (i : Nat) => k + (i : Int)
theorem markedO_length (n : Nat) (k : Int) : (markedO n k).length = n := by simp [markedO]
theorem markedO_getD (n : Nat) (k : Int) (i : Nat) (hi : i < n) : (markedO n k).getD i 0 = k + i := by simp [markedO, List.getD_eq_getElem?_getD, hi]

set_option maxHeartbeats 1000000 in
theorem markInt64SO_any (b o cap : Nat) (l : List Int) (k : Int) (w : World) (ho : OwnO w b o l) (hn : l.length ≤ 1048576) (hcap : l.length ≤ cap) (k0 : 0 ≤ k) (k1 : k ≤ 100000000000) :
    Calls Try.prog 29 #[.slice (some ⟨b, o, none⟩) l.length cap, .int .i64 k] w fun e w' => e = .returned (.int .i64 (k + l.length)) ∧ OwnO w' b o (markedO l.length k) ∧ But w.heap.size b w w' := by
  have hblt := ho.lt
  obtain ⟨ty, xs0, o1, o2, _⟩ := ho
  go_enter Try.func29, Try.ntmps29
  go_wp2_with fail
  go_loopg [1, 5] l.length (fun g s1 s5 wr => ∃ (i : Nat) (q : Int) (xs : List Value), Hid (g = l.length - i) ∧ s5 = .int .i64 i ∧ s1 = .int .i64 q ∧ i ≤ l.length ∧ 0 ≤ q ∧ q ≤ 200000000000 ∧ Hid (q = k + i) ∧ Own wr b ty xs ∧ Hid (o + l.length ≤ xs.length ∧ ∀ j, j < i → xs[o + j]? = some (.int .i64 (k + j))) ∧ But w.heap.size b w wr)
  case atStart =>
    exact ⟨0, k, xs0, rfl, rfl, rfl, by omega, k0, by omega, by simp [Hid], o1, ⟨o2, fun i hi => absurd hi (by omega)⟩, But.refl _ _ _⟩
  case round =>
    clear o1 o2
    obtain ⟨i, q, xs, hg, rfl, rfl, hi, q0, q1, hq, hown, hwords, hbut⟩ := hrel
    by_cases hlt : i < l.length
    · obtain ⟨v0, g0⟩ := some_of_lt (xs := xs) (j := o + i) (by have := hwords.out.1; omega)
      have i0 := (hown.cell (o + i)).trans g0
      have z0 := hown.frozen (o + i)
      have G0 := hide g0
      clear g0
      go_wp2_with fail
      go_roundg (l.length - (i + 1))
      case rel =>
        refine ⟨i + 1, _, _, rfl, by go_num, rfl, by omega, by omega, ?_, ?_, hown.set (o + i) _, ⟨?_, ?_⟩, hbut.trans (But.set _ b (o + i) _ _)⟩
        · have := hq.out; omega
        · show _ = _; have := hq.out; omega
        · have := hwords.out.1; simpa using this
        · intro j hj
          have h5 := hq.out
          have h6 := hwords.out.1
          by_cases e : j = i
          · subst e; rw [List.getElem?_set_self (by omega), h5]
          · rw [List.getElem?_set_ne (by omega)]; exact hwords.out.2 j (by omega)
      case measure => have := hg.out; omega
    · have hie : i = l.length := by omega
      have fin : OwnO wr b o (markedO l.length k) := ⟨ty, xs, hown, by rw [markedO_length]; exact hwords.out.1, fun j hj => by
        rw [markedO_length] at hj
        rw [markedO_getD _ _ _ hj]; exact hwords.out.2 j (by omega)⟩
      have hq' := hq.out
      rw [hie] at hq'
      have HQ := hide hq'
      clear hie hq'
      go_wp2_with fail
      go_ret
      exact ⟨ret_int (unhide HQ), fin, hbut⟩

set_option maxHeartbeats 1000000 in
theorem heldInt64SO_any (b o cap n : Nat) (k : Int) (w : World) (ho : OwnO w b o (markedO n k)) (hn : n ≤ 1048576) (hcap : n ≤ cap) (k0 : 0 ≤ k) (k1 : k ≤ 100000000000) :
    Calls Try.prog 30 #[.slice (some ⟨b, o, none⟩) n cap, .int .i64 k] w fun e w' => e = .returned (.int .i64 (k + n)) ∧ Below w.heap.size w w' := by
  have HO := hide ho
  clear ho
  go_enter Try.func30, Try.ntmps30
  go_wp2_with fail
  go_loopg [1, 5] n (fun g s1 s5 wr => ∃ (i : Nat) (q : Int), Hid (g = n - i) ∧ s5 = .int .i64 i ∧ s1 = .int .i64 q ∧ i ≤ n ∧ 0 ≤ q ∧ q ≤ 200000000000 ∧ Hid (q = k + i) ∧ Below w.heap.size w wr)
  case atStart => exact ⟨0, k, rfl, rfl, rfl, by omega, k0, by omega, by simp [Hid], Below.refl _ _⟩
  case round =>
    obtain ⟨i, q, hg, rfl, rfl, hi, q0, q1, hq, hbel⟩ := hrel
    by_cases hlt : i < n
    · have f := ((unhide HO).below hbel (unhide HO).lt).cell (i := i) (by rw [markedO_length]; exact hlt)
      rw [markedO_getD n k i hlt, show k + (i : Int) = q from by have := hq.out; omega] at f
      go_wp2_with fail
      go_roundg (n - (i + 1))
      case rel =>
        refine ⟨i + 1, _, rfl, by go_num, rfl, by omega, by omega, ?_, ?_, hbel⟩
        · have := hq.out; omega
        · show _ = _; have := hq.out; omega
      case measure => have := hg.out; omega
    · have hie : i = n := by omega
      have hq' := hq.out
      rw [hie] at hq'
      have HQ := hide hq'
      clear hie hq'
      go_wp2_with fail
      go_ret
      exact ⟨ret_int (unhide HQ), hbel⟩

set_option maxHeartbeats 400000 in
theorem markInt64SO_none (k : Int) (w : World) :
    Calls Try.prog 29 #[.slice none 0 0, .int .i64 k] w fun e w' => e = .returned (.int .i64 k) ∧ Below w.heap.size w w' := by
  go_enter Try.func29, Try.ntmps29
  go_wp2_with fail
  refine wp_loop_rounds 1 ?_
  rw [rounds_succ]
  go_wp2_with fail
  go_ret
  exact ⟨rfl, Below.refl _ _⟩
set_option maxHeartbeats 400000 in
theorem heldInt64SO_none (k : Int) (w : World) :
    Calls Try.prog 30 #[.slice none 0 0, .int .i64 k] w fun e w' => e = .returned (.int .i64 k) ∧ Below w.heap.size w w' := by
  go_enter Try.func30, Try.ntmps30
  go_wp2_with fail
  refine wp_loop_rounds 1 ?_
  rw [rounds_succ]
  go_wp2_with fail
  go_ret
  exact ⟨rfl, Below.refl _ _⟩

theorem eqInt64SO_res (s s' : Value) (B B' : Nat) (l : List Int) (w : World) (h : ResO w B s l) (h' : ResO w B' s' l) :
    Calls Try.prog 27 #[s, s'] w fun e w' => e = .returned (.bool true) ∧ Below w.heap.size w w' := by
  obtain ⟨hn, ⟨rfl, hl⟩ | ⟨b, o, cap, rfl, h2, h3, h4⟩⟩ := h
  · subst hl
    obtain ⟨_, ⟨rfl, _⟩ | ⟨b', o', cap', rfl, g2, g3, g4⟩⟩ := h'
    · exact eqInt64SO_none _ _ _ _ _
    · exact eqInt64SO_none _ _ _ _ _
  · obtain ⟨_, ⟨rfl, rfl⟩ | ⟨b', o', cap', rfl, g2, g3, g4⟩⟩ := h'
    · exact eqInt64SO_none _ _ _ _ _
    · exact eqInt64SO_same b o cap b' o' cap' l w h4 g4 hn h3 g3

theorem markInt64SO_res (s : Value) (B : Nat) (l : List Int) (k : Int) (w : World) (h : ResO w B s l) (k0 : 0 ≤ k) (k1 : k ≤ 100000000000) :
    Calls Try.prog 29 #[s, .int .i64 k] w fun e w' => e = .returned (.int .i64 (k + l.length)) ∧ ResO w' B s (markedO l.length k) ∧ ButV s w w' := by
  obtain ⟨hn, ⟨rfl, rfl⟩ | ⟨b, o, cap, rfl, h2, h3, h4⟩⟩ := h
  · refine (markInt64SO_none k w).mono ?_
    rintro e w' ⟨rfl, hb⟩
    exact ⟨by simp, ⟨by simp [markedO], .inl ⟨rfl, rfl⟩⟩, ⟨hb.os, hb.tape, hb.output, hb.size, fun i hi _ => hb.block i hi⟩⟩
  · refine (markInt64SO_any b o cap l k w h4 hn h3 k0 k1).mono ?_
    rintro e w' ⟨rfl, ho, hb⟩
    refine ⟨rfl, ⟨by rw [markedO_length]; exact hn, .inr ⟨b, o, cap, by rw [markedO_length], h2, by rw [markedO_length]; exact h3, ho⟩⟩, ⟨hb.os, hb.tape, hb.output, hb.size, fun i hi hne => hb.block i hi (fun e => hne (by rw [e]; rfl))⟩⟩

theorem heldInt64SO_res (s : Value) (B n : Nat) (k : Int) (w : World) (h : ResO w B s (markedO n k)) (k0 : 0 ≤ k) (k1 : k ≤ 100000000000) :
    Calls Try.prog 30 #[s, .int .i64 k] w fun e w' => e = .returned (.int .i64 (k + n)) ∧ Below w.heap.size w w' := by
  obtain ⟨hn, ⟨rfl, hl⟩ | ⟨b, o, cap, rfl, h2, h3, h4⟩⟩ := h
  · have : n = 0 := by have := congrArg List.length hl; rwa [markedO_length] at this
    subst this
    refine (heldInt64SO_none k w).mono ?_
    rintro e w' ⟨rfl, hb⟩
    exact ⟨by simp, hb⟩
  · rw [markedO_length] at hn h3 ⊢
    exact heldInt64SO_any b o cap n k w h4 hn h3 k0 k1

set_option maxHeartbeats 1000000 in
theorem eqIntsResultO_any (code : Int) (s s' : Value) (B B' : Nat) (l : List Int) (w : World) (h : ResO w B s l) (h' : ResO w B' s' l) :
    Calls Try.prog 14 #[.agg #[.int .i64 code, s], .agg #[.int .i64 code, s']] w fun e w' => e = .returned (.bool true) ∧ Below w.heap.size w w' := by
  have HB : ∀ o o', Below w.heap.size w ((w.alloc o).alloc o') := fun o o' => ((Below.refl _ _).alloc (Nat.le_refl _) _).alloc (by simp) _
  have H := hide (fun o o' => eqInt64SO_res s s' B B' l ((w.alloc o).alloc o') ((h.alloc o).alloc o') ((h'.alloc o).alloc o'))
  obtain ⟨a, n, cap, rfl⟩ := h.shape
  obtain ⟨a', n', cap', rfl⟩ := h'.shape
  clear h h'
  have HB' := hide HB
  clear HB
  go_enter Try.func14, Try.ntmps14
  go_wp2_with fail
  refine ((unhide H) _ _).mono ?_
  rintro e w1 ⟨rfl, hb1⟩
  go_wp2_with fail
  go_ret
  exact ⟨rfl, ((unhide HB') _ _).trans (hb1.mono (by simp <;> omega))⟩

set_option maxHeartbeats 1000000 in
theorem markIntsResultO_any (code : Int) (s : Value) (B : Nat) (l : List Int) (k : Int) (w : World) (h : ResO w B s l) (k0 : 0 ≤ k) (k1 : k ≤ 100000000000) :
    Calls Try.prog 16 #[.agg #[.int .i64 code, s], .int .i64 k] w fun e w' => e = .returned (.int .i64 (k + l.length)) ∧ ResO w' B s (markedO l.length k) ∧ ButV s w w' := by
  have H := hide (fun o => markInt64SO_res s B l k (w.alloc o) (h.alloc o) k0 k1)
  obtain ⟨a, n, cap, rfl⟩ := h.shape
  clear h
  go_enter Try.func16, Try.ntmps16
  go_wp2_with fail
  refine ((unhide H) _).mono ?_
  rintro e w1 ⟨rfl, hr, hb⟩
  go_wp2_with fail
  go_ret
  refine ⟨rfl, hr, ⟨hb.os, hb.tape, hb.output, by have := hb.size; simp at this; omega, fun i hi hne => ?_⟩⟩
  rw [hb.block i (by simp; omega) hne]
  exact Below.heap_alloc _ _ _ hi

set_option maxHeartbeats 1000000 in
theorem heldIntsResultO_any (code : Int) (s : Value) (B n : Nat) (k : Int) (w : World) (h : ResO w B s (markedO n k)) (k0 : 0 ≤ k) (k1 : k ≤ 100000000000) (hn : n ≤ 1048576) :
    Calls Try.prog 17 #[.agg #[.int .i64 code, s], .int .i64 k] w fun e w' => e = .returned (.int .i64 (k + n)) ∧ Below w.heap.size w w' := by
  have H := hide (fun o => heldInt64SO_res s B n k (w.alloc o) (h.alloc o) k0 k1)
  obtain ⟨a, m, cap, rfl⟩ := h.shape
  clear h
  go_enter Try.func17, Try.ntmps17
  go_wp2_with fail
  refine ((unhide H) _).mono ?_
  rintro e w1 ⟨rfl, hb⟩
  go_wp2_with fail
  go_ret
  exact ⟨rfl, ((Below.refl _ _).alloc (Nat.le_refl _) _).trans (hb.mono (by simp))⟩

end Go.Proofs.Ytkjmnkbiflkpdaa
