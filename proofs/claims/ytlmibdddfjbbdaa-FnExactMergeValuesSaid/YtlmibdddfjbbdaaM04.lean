/-
  laws.heldCellS finds the told numbers in a row that holds them.
  An answer that holds a list of cells: what it is that it lies in memory of its own, and what the laws' helpers find, mark and find again in it.
-/
import Derived.Test.YtlmibdddfjbbdaaM03
namespace Go.Proofs.Ytlmibdddfjbbdaa
open Go.RowKit
set_option linter.unusedVariables false

set_option maxRecDepth 100000 in
set_option maxHeartbeats 4000000 in
theorem heldCellS_any (b cap n : Nat) (k : Int) (w : World) (hrow : Row w b 0 (marked n k)) (hb : b < w.heap.size) (hn : n ≤ 1048576) (hcap : n ≤ cap) (k0 : 0 ≤ k) (k1 : k ≤ 100000000000) :
    Calls Try.prog 24 #[.slice (some ⟨b, 0, none⟩) n cap, .int .i64 k] w fun e w' => e = .returned (.int .i64 (k + 5 * n)) ∧ Below w.heap.size w w' := by
  have HROW := hide hrow
  clear hrow
  go_enter Try.func24, Try.ntmps24
  go_wp2_with fail
  go_loopg [1, 5] n (fun g s1 s5 wr => ∃ (i : Nat) (q : Int), Hid (g = n - i) ∧ s5 = .int .i64 i ∧ s1 = .int .i64 q ∧ i ≤ n ∧ 0 ≤ q ∧ q ≤ 200000000000 ∧ Hid (q = k + 5 * i) ∧ Below w.heap.size w wr)
  case atStart => exact ⟨0, k, rfl, rfl, rfl, by omega, k0, by omega, by simp [Hid], Below.refl _ _⟩
  case round =>
    obtain ⟨i, q, hg, rfl, rfl, hi, q0, q1, hq, hbel⟩ := hrel
    by_cases hlt : i < n
    · obtain ⟨f0, f1, f2, f3, f4⟩ := ((unhide HROW).below hbel hb) i (by rw [marked_length]; exact hlt)
      rw [marked_getD n k i hlt] at f0 f1 f2 f3 f4
      have e5 : k + 5 * (i : Int) = q := by have := hq.out; omega
      simp only [markCl, e5, Nat.zero_add] at f0 f1 f2 f3 f4
      clear e5
      rw [show q + 2 = q + 1 + 1 from by omega] at f2
      rw [show q + 3 = q + 1 + 1 + 1 from by omega] at f3
      rw [show q + 4 = q + 1 + 1 + 1 + 1 from by omega] at f4
      have hbr : b < wr.heap.size := Nat.lt_of_lt_of_le hb hbel.size
      generalize ht2 : mt (q + 1 + 1) = t2 at *
      generalize ht3 : mt (q + 1 + 1 + 1) = t3 at *
      have HT2 := hide ht2
      have HT3 := hide ht3
      clear ht2 ht3
      go_wp2_with fail
      go_region_with (go_at_call 23; refine (markText_any _ _ (by omega)).mono ?_; rintro e w1 ⟨rfl, hb1⟩; rw [unhide HT2]; have c2 : w1.cell? ⟨b, i * 5 + 2, none⟩ = some (.string t2) := (hb1.cell (by exact hbr)).trans f2)
      all_goals
        have B1 : Below w.heap.size w w1 := hbel.drew.trans (hb1.mono (by exact hbel.size))
        have c3 : w1.cell? ⟨b, i * 5 + 3, none⟩ = some (.string t3) := (hb1.cell (by exact hbr)).trans f3
        have c4 : w1.cell? ⟨b, i * 5 + 4, none⟩ = some (.int .i64 (q + 1 + 1 + 1 + 1)) := (hb1.cell (by exact hbr)).trans f4
        have hbr1 : b < w1.heap.size := Nat.lt_of_lt_of_le hb B1.size
        clear f0 f1 f2 f3 f4 hb1
        go_wp2_with fail
        go_region_with (go_at_call 23; refine (markText_any _ _ (by omega)).mono ?_; rintro e w2 ⟨rfl, hb2⟩; rw [unhide HT3]; have d3 : w2.cell? ⟨b, i * 5 + 3, none⟩ = some (.string t3) := (hb2.cell (by exact hbr1)).trans c3)
        all_goals
          have B2 : Below w.heap.size w w2 := B1.drew.trans (hb2.mono (by exact B1.size))
          have d4 : w2.cell? ⟨b, i * 5 + 4, none⟩ = some (.int .i64 (q + 1 + 1 + 1 + 1)) := (hb2.cell (by exact hbr1)).trans c4
          clear hb2 c3 c4
          go_wp2_with fail
          go_roundg (n - (i + 1))
          case rel =>
            refine ⟨i + 1, _, rfl, by go_num, rfl, by omega, by omega, ?_, ?_, B2⟩
            · have := hq.out; omega
            · show _ = _; have := hq.out; omega
          case measure => have := hg.out; omega
    · have hie : i = n := by omega
      have hq' := hq.out
      rw [hie] at hq'
      have HQ := hide hq'
      clear hie hq'
      go_wp2_with fail
      go_ret
      exact ⟨ret_int (unhide HQ), hbel⟩

end Go.Proofs.Ytlmibdddfjbbdaa

namespace Go.Proofs.Ytlmibdddfjbbdaa
open Go.RowKit
set_option linter.unusedVariables false

/-- The slice value s holds the cells l, in a block of its own from number B on; or it is nil and there are none. -/
def Res (w : World) (B : Nat) (s : Value) (l : List M.Cl) : Prop :=
  l.length ≤ 1048576 ∧ ((s = .slice none 0 0 ∧ l = []) ∨ ∃ b cap, s = .slice (some ⟨b, 0, none⟩) l.length cap ∧ B ≤ b ∧ l.length ≤ cap ∧ OwnG w b 41 l)

theorem Res.below {w w' : World} {B : Nat} {s : Value} {l : List M.Cl} (h : Res w B s l) (hb : Below w.heap.size w w') : Res w' B s l := by
  obtain ⟨hn, h | ⟨b, cap, h1, h2, h3, h4⟩⟩ := h
  · exact ⟨hn, .inl h⟩
  · exact ⟨hn, .inr ⟨b, cap, h1, h2, h3, h4.below hb h4.lt⟩⟩
theorem Res.alloc {w : World} {B : Nat} {s : Value} {l : List M.Cl} (h : Res w B s l) (o : Obj) : Res (w.alloc o) B s l := h.below ((Below.refl _ _).alloc (Nat.le_refl _) o)
theorem Res.mono {w : World} {B B' : Nat} {s : Value} {l : List M.Cl} (h : Res w B s l) (hB : B' ≤ B) : Res w B' s l := by
  obtain ⟨hn, h | ⟨b, cap, h1, h2, h3, h4⟩⟩ := h
  · exact ⟨hn, .inl h⟩
  · exact ⟨hn, .inr ⟨b, cap, h1, by omega, h3, h4⟩⟩

/-- All that was there is as it was, but for the block of s. -/
structure ButV (s : Value) (w w' : World) : Prop where
  os : w'.os = w.os
  tape : w'.tape = w.tape
  output : w'.output = w.output
  size : w.heap.size ≤ w'.heap.size
  block : ∀ k, k < w.heap.size → s.ownBlock ≠ some k → w'.heap[k]? = w.heap[k]?

theorem ButV.own {s : Value} {w w' : World} (h : ButV s w w') {c : Nat} {t : TypeId} {xs : List Value} (ho : Own w c t xs) (hn : s.ownBlock ≠ some c) : Own w' c t xs := by
  obtain ⟨r, h1, h2⟩ := ho
  have hc : c < w.heap.size := (Array.getElem?_eq_some_iff.1 h1).1
  exact ⟨r, (h.block c hc hn).trans h1, h2⟩
theorem ButV.ownG {s : Value} {w w' : World} (h : ButV s w w') {c : Nat} {t : TypeId} {l : List M.Cl} (ho : OwnG w c t l) (hn : s.ownBlock ≠ some c) : OwnG w' c t l := by
  obtain ⟨xs, h1, h2⟩ := ho
  exact ⟨xs, h.own h1 hn, h2⟩
theorem ButV.below {s : Value} {w w' : World} (h : ButV s w w') {B : Nat} (hB : B ≤ w.heap.size) (hs : ∀ b, s.ownBlock = some b → B ≤ b) : Below B w w' :=
  ⟨h.os, h.tape, h.output, h.size, fun k hk => h.block k (by omega) (fun e => by have := hs k e; omega)⟩
theorem Res.base {w : World} {B : Nat} {s : Value} {l : List M.Cl} (h : Res w B s l) : ∀ b, s.ownBlock = some b → B ≤ b := by
  obtain ⟨hn, ⟨rfl, _⟩ | ⟨b, cap, rfl, h2, h3, h4⟩⟩ := h
  · intro b hb; simp [Value.ownBlock] at hb
  · intro c hc; simp only [Value.ownBlock, Option.some.injEq] at hc; omega
theorem Res.lt {w : World} {B : Nat} {s : Value} {l : List M.Cl} (h : Res w B s l) : ∀ b, s.ownBlock = some b → b < w.heap.size := by
  obtain ⟨hn, ⟨rfl, _⟩ | ⟨b, cap, rfl, h2, h3, h4⟩⟩ := h
  · intro b hb; simp [Value.ownBlock] at hb
  · intro c hc; simp only [Value.ownBlock, Option.some.injEq] at hc; have := h4.lt; omega
theorem ButV.res {s : Value} {w w' : World} (h : ButV s w w') {B : Nat} {r : Value} {l : List M.Cl} (hr : Res w B r l) (hne : ∀ b, s.ownBlock = some b → r.ownBlock ≠ some b) : Res w' B r l := by
  obtain ⟨hn, g | ⟨b, cap, rfl, h2, h3, h4⟩⟩ := hr
  · exact ⟨hn, .inl g⟩
  · exact ⟨hn, .inr ⟨b, cap, rfl, h2, h3, h.ownG h4 (fun e => hne b e rfl)⟩⟩

set_option maxHeartbeats 400000 in
theorem eqCellS_none (a a' : Option Addr) (cap cap' : Nat) (w : World) :
    Calls Try.prog 9 #[.slice a 0 cap, .slice a' 0 cap'] w fun e w' => e = .returned (.bool true) ∧ Below w.heap.size w w' := by
  go_enter Try.func9, Try.ntmps9
  go_wp2_with fail
  refine wp_loop_rounds 1 ?_
  rw [rounds_succ]
  go_wp2_with fail
  go_ret
  exact ⟨rfl, Below.refl _ _⟩

theorem eqCellS_res (s s' : Value) (B B' : Nat) (l : List M.Cl) (w : World) (h : Res w B s l) (h' : Res w B' s' l) :
    Calls Try.prog 9 #[s, s'] w fun e w' => e = .returned (.bool true) ∧ Below w.heap.size w w' := by
  obtain ⟨hn, ⟨rfl, hl⟩ | ⟨b, cap, rfl, h2, h3, h4⟩⟩ := h
  · subst hl
    obtain ⟨_, ⟨rfl, _⟩ | ⟨b', cap', rfl, g2, g3, g4⟩⟩ := h'
    · exact eqCellS_none _ _ _ _ _
    · exact eqCellS_none _ _ _ _ _
  · obtain ⟨_, ⟨rfl, rfl⟩ | ⟨b', cap', rfl, g2, g3, g4⟩⟩ := h'
    · exact eqCellS_none _ _ _ _ _
    · exact eqCellS_same b 0 cap b' 0 cap' l w h4.row h4.lt g4.row g4.lt hn h3 g3

/-- The shape of an answer's slice: the walk wants to see it. -/
theorem Res.shape {w : World} {B : Nat} {s : Value} {l : List M.Cl} (h : Res w B s l) : ∃ a n cap, s = .slice a n cap := by
  obtain ⟨_, ⟨rfl, _⟩ | ⟨b, cap, rfl, _⟩⟩ := h
  · exact ⟨_, _, _, rfl⟩
  · exact ⟨_, _, _, rfl⟩

set_option maxHeartbeats 1000000 in
theorem eqValueResult_any (code : Int) (s s' : Value) (B B' : Nat) (l : List M.Cl) (w : World) (h : Res w B s l) (h' : Res w B' s' l) :
    Calls Try.prog 8 #[.agg #[.int .i64 code, s], .agg #[.int .i64 code, s']] w fun e w' => e = .returned (.bool true) ∧ Below w.heap.size w w' := by
  have HB : ∀ o o', Below w.heap.size w ((w.alloc o).alloc o') := fun o o' => ((Below.refl _ _).alloc (Nat.le_refl _) _).alloc (by simp) _
  have H := hide (fun o o' => eqCellS_res s s' B B' l ((w.alloc o).alloc o') ((h.alloc o).alloc o') ((h'.alloc o).alloc o'))
  obtain ⟨a, n, cap, rfl⟩ := h.shape
  obtain ⟨a', n', cap', rfl⟩ := h'.shape
  clear h h'
  have HB' := hide HB
  clear HB
  go_enter Try.func8, Try.ntmps8
  go_wp2_with fail
  refine ((unhide H) _ _).mono ?_
  rintro e w1 ⟨rfl, hb1⟩
  go_wp2_with fail
  go_ret
  exact ⟨rfl, ((unhide HB') _ _).trans (hb1.mono (by simp <;> omega))⟩

set_option maxHeartbeats 400000 in
theorem markCellS_none (k : Int) (w : World) :
    Calls Try.prog 10 #[.slice none 0 0, .int .i64 k] w fun e w' => e = .returned (.int .i64 k) ∧ Below w.heap.size w w' := by
  go_enter Try.func10, Try.ntmps10
  go_wp2_with fail
  refine wp_loop_rounds 1 ?_
  rw [rounds_succ]
  go_wp2_with fail
  go_ret
  exact ⟨rfl, Below.refl _ _⟩

set_option maxHeartbeats 400000 in
theorem heldCellS_none (k : Int) (w : World) :
    Calls Try.prog 24 #[.slice none 0 0, .int .i64 k] w fun e w' => e = .returned (.int .i64 k) ∧ Below w.heap.size w w' := by
  go_enter Try.func24, Try.ntmps24
  go_wp2_with fail
  refine wp_loop_rounds 1 ?_
  rw [rounds_succ]
  go_wp2_with fail
  go_ret
  exact ⟨rfl, Below.refl _ _⟩

theorem markCellS_res (s : Value) (B : Nat) (l : List M.Cl) (k : Int) (w : World) (h : Res w B s l) (k0 : 0 ≤ k) (k1 : k ≤ 100000000000) :
    Calls Try.prog 10 #[s, .int .i64 k] w fun e w' => e = .returned (.int .i64 (k + 5 * l.length)) ∧ Res w' B s (marked l.length k) ∧ ButV s w w' := by
  obtain ⟨hn, ⟨rfl, rfl⟩ | ⟨b, cap, rfl, h2, h3, h4⟩⟩ := h
  · refine (markCellS_none k w).mono ?_
    rintro e w' ⟨rfl, hb⟩
    exact ⟨by simp, ⟨by simp [marked], .inl ⟨rfl, rfl⟩⟩, ⟨hb.os, hb.tape, hb.output, hb.size, fun i hi _ => hb.block i hi⟩⟩
  · refine (markCellS_any b cap l k w h4 hn h3 k0 k1).mono ?_
    rintro e w' ⟨rfl, ho, hb⟩
    refine ⟨rfl, ⟨by rw [marked_length]; exact hn, .inr ⟨b, cap, by rw [marked_length], h2, by rw [marked_length]; exact h3, ho⟩⟩, ⟨hb.os, hb.tape, hb.output, hb.size, fun i hi hne => hb.block i hi (fun e => hne (by rw [e]; rfl))⟩⟩

theorem heldCellS_res (s : Value) (B n : Nat) (k : Int) (w : World) (h : Res w B s (marked n k)) (k0 : 0 ≤ k) (k1 : k ≤ 100000000000) :
    Calls Try.prog 24 #[s, .int .i64 k] w fun e w' => e = .returned (.int .i64 (k + 5 * n)) ∧ Below w.heap.size w w' := by
  obtain ⟨hn, ⟨rfl, hl⟩ | ⟨b, cap, rfl, h2, h3, h4⟩⟩ := h
  · have : n = 0 := by have := congrArg List.length hl; rwa [marked_length] at this
    subst this
    refine (heldCellS_none k w).mono ?_
    rintro e w' ⟨rfl, hb⟩
    exact ⟨by simp, hb⟩
  · rw [marked_length] at hn h3 ⊢
    exact heldCellS_any b cap n k w h4.row h4.lt hn h3 k0 k1

set_option maxHeartbeats 1000000 in
theorem markValueResult_any (code : Int) (s : Value) (B : Nat) (l : List M.Cl) (k : Int) (w : World) (h : Res w B s l) (k0 : 0 ≤ k) (k1 : k ≤ 100000000000) :
    Calls Try.prog 11 #[.agg #[.int .i64 code, s], .int .i64 k] w fun e w' => e = .returned (.int .i64 (k + 5 * l.length)) ∧ Res w' B s (marked l.length k) ∧ ButV s w w' := by
  have H := hide (fun o => markCellS_res s B l k (w.alloc o) (h.alloc o) k0 k1)
  have hs := hide h.shape
  obtain ⟨a, n, cap, rfl⟩ := h.shape
  clear h hs
  go_enter Try.func11, Try.ntmps11
  go_wp2_with fail
  refine ((unhide H) _).mono ?_
  rintro e w1 ⟨rfl, hr, hb⟩
  go_wp2_with fail
  go_ret
  refine ⟨rfl, hr, ⟨hb.os, hb.tape, hb.output, by have := hb.size; simp at this; omega, fun i hi hne => ?_⟩⟩
  rw [hb.block i (by simp; omega) hne]
  exact Below.heap_alloc _ _ _ hi

set_option maxHeartbeats 1000000 in
theorem heldValueResult_any (code : Int) (s : Value) (B n : Nat) (k : Int) (w : World) (h : Res w B s (marked n k)) (k0 : 0 ≤ k) (k1 : k ≤ 100000000000) (hn : n ≤ 1048576) :
    Calls Try.prog 12 #[.agg #[.int .i64 code, s], .int .i64 k] w fun e w' => e = .returned (.int .i64 (k + 5 * n)) ∧ Below w.heap.size w w' := by
  have H := hide (fun o => heldCellS_res s B n k (w.alloc o) (h.alloc o) k0 k1)
  obtain ⟨a, m, cap, rfl⟩ := h.shape
  clear h
  go_enter Try.func12, Try.ntmps12
  go_wp2_with fail
  refine ((unhide H) _).mono ?_
  rintro e w1 ⟨rfl, hb⟩
  go_wp2_with fail
  go_ret
  exact ⟨rfl, ((Below.refl _ _).alloc (Nat.le_refl _) _).trans (hb.mono (by simp))⟩

theorem ownsRow_base {w : World} {base : Nat} {e : TypeId} {size : Nat} {v : Value} {n : Nat} {xs : List Value} (h : w.ownsRow base e size v n xs) : ∀ k, v.ownBlock = some k → base ≤ k := by
  obtain ⟨_, ⟨rfl, _⟩ | ⟨g, cap, cur, rfl, hg, _⟩⟩ := h
  · intro k hk; simp [Value.ownBlock] at hk
  · intro k hk; simp only [Value.ownBlock, Option.some.injEq] at hk; omega
theorem OwnG.setOther {w : World} {b : Nat} {t : TypeId} {l : List M.Cl} (h : OwnG w b t l) (p : Addr) (u : Value) (hp : b ≠ p.block) : OwnG (w.setCell p u) b t l := by
  obtain ⟨xs, h1, h2⟩ := h; exact ⟨xs, h1.setOther p u hp, h2⟩
theorem Res.setOther {w : World} {B : Nat} {s : Value} {l : List M.Cl} (h : Res w B s l) (p : Addr) (u : Value) (hp : ∀ b, s.ownBlock = some b → b ≠ p.block) : Res (w.setCell p u) B s l := by
  obtain ⟨hn, h | ⟨b, cap, rfl, h2, h3, h4⟩⟩ := h
  · exact ⟨hn, .inl h⟩
  · exact ⟨hn, .inr ⟨b, cap, rfl, h2, h3, h4.setOther p u (hp b rfl)⟩⟩

end Go.Proofs.Ytlmibdddfjbbdaa
