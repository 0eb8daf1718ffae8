/-
  laws.heldCellS finds the told numbers in a row that holds them.
  An answer that holds a list of cells: what it is that it lies in memory of its own, and what the laws' helpers find, mark and find again in it.
-/
import Derived.Test.YtakdlcgiieaieaaDoorMarkC
namespace Go.Proofs.YtakdlcgiieaieaaDoor
open Go.RowKit
set_option linter.unusedVariables false

end Go.Proofs.YtakdlcgiieaieaaDoor

namespace Go.Proofs.YtakdlcgiieaieaaDoor
open Go.RowKit
set_option linter.unusedVariables false

/-- The slice value s holds the cells l, in a block of its own from number B on; or it is nil and there are none. -/
def Res (w : World) (B : Nat) (s : Value) (l : List M.Cl) : Prop :=
  l.length ≤ 1048576 ∧ ((s = .slice none 0 0 ∧ l = []) ∨ ∃ b cap, s = .slice (some ⟨b, 0, none⟩) l.length cap ∧ B ≤ b ∧ l.length ≤ cap ∧ OwnG w b 55 l)

theorem Res.below {w w' : World} {B : Nat} {s : Value} {l : List M.Cl} (h : Res w B s l) (hb : Below w.heap.size w w') : Res w' B s l := by
  obtain ⟨hn, h | ⟨b, cap, h1, h2, h3, h4⟩⟩ := h
  · exact ⟨hn, .inl h⟩
  · exact ⟨hn, .inr ⟨b, cap, h1, h2, h3, h4.below hb h4.lt⟩⟩
theorem Res.alloc {w : World} {B : Nat} {s : Value} {l : List M.Cl} (h : Res w B s l) (o : Obj) : Res (w.alloc o) B s l := h.below ((Below.refl _ _).alloc (Nat.le_refl _) o)
theorem Res.mono {w : World} {B B' : Nat} {s : Value} {l : List M.Cl} (h : Res w B s l) (hB : B' ≤ B) : Res w B' s l := by
  obtain ⟨hn, h | ⟨b, cap, h1, h2, h3, h4⟩⟩ := h
  · exact ⟨hn, .inl h⟩
  · exact ⟨hn, .inr ⟨b, cap, h1, by omega, h3, h4⟩⟩

/-- All that was there is as it was, but for the block of s. -/
structure ButV (s : Value) (w w' : World) : Prop where
  os : w'.os = w.os
  tape : w'.tape = w.tape
  output : w'.output = w.output
  size : w.heap.size ≤ w'.heap.size
  block : ∀ k, k < w.heap.size → s.ownBlock ≠ some k → w'.heap[k]? = w.heap[k]?

theorem ButV.own {s : Value} {w w' : World} (h : ButV s w w') {c : Nat} {t : TypeId} {xs : List Value} (ho : Own w c t xs) (hn : s.ownBlock ≠ some c) : Own w' c t xs := by
  obtain ⟨r, h1, h2⟩ := ho
  have hc : c < w.heap.size := (Array.getElem?_eq_some_iff.1 h1).1
  exact ⟨r, (h.block c hc hn).trans h1, h2⟩
theorem ButV.ownG {s : Value} {w w' : World} (h : ButV s w w') {c : Nat} {t : TypeId} {l : List M.Cl} (ho : OwnG w c t l) (hn : s.ownBlock ≠ some c) : OwnG w' c t l := by
  obtain ⟨xs, h1, h2⟩ := ho
  exact ⟨xs, h.own h1 hn, h2⟩
theorem ButV.below {s : Value} {w w' : World} (h : ButV s w w') {B : Nat} (hB : B ≤ w.heap.size) (hs : ∀ b, s.ownBlock = some b → B ≤ b) : Below B w w' :=
  ⟨h.os, h.tape, h.output, h.size, fun k hk => h.block k (by omega) (fun e => by have := hs k e; omega)⟩
theorem Res.base {w : World} {B : Nat} {s : Value} {l : List M.Cl} (h : Res w B s l) : ∀ b, s.ownBlock = some b → B ≤ b := by
  obtain ⟨hn, ⟨rfl, _⟩ | ⟨b, cap, rfl, h2, h3, h4⟩⟩ := h
  · intro b hb; simp [Value.ownBlock] at hb
  · intro c hc; simp only [Value.ownBlock, Option.some.injEq] at hc; omega
theorem Res.lt {w : World} {B : Nat} {s : Value} {l : List M.Cl} (h : Res w B s l) : ∀ b, s.ownBlock = some b → b < w.heap.size := by
  obtain ⟨hn, ⟨rfl, _⟩ | ⟨b, cap, rfl, h2, h3, h4⟩⟩ := h
  · intro b hb; simp [Value.ownBlock] at hb
  · intro c hc; simp only [Value.ownBlock, Option.some.injEq] at hc; have := h4.lt; omega
theorem ButV.res {s : Value} {w w' : World} (h : ButV s w w') {B : Nat} {r : Value} {l : List M.Cl} (hr : Res w B r l) (hne : ∀ b, s.ownBlock = some b → r.ownBlock ≠ some b) : Res w' B r l := by
  obtain ⟨hn, g | ⟨b, cap, rfl, h2, h3, h4⟩⟩ := hr
  · exact ⟨hn, .inl g⟩
  · exact ⟨hn, .inr ⟨b, cap, rfl, h2, h3, h.ownG h4 (fun e => hne b e rfl)⟩⟩

set_option maxHeartbeats 400000 in
theorem eqCellS_none (a a' : Option Addr) (cap cap' : Nat) (w : World) :
    Calls Tryd.prog 23 #[.slice a 0 cap, .slice a' 0 cap'] w fun e w' => e = .returned (.bool true) ∧ Below w.heap.size w w' := by
  go_enter Tryd.func23, Tryd.ntmps23
  go_wp2_with fail
  refine wp_loop_rounds 1 ?_
  rw [rounds_succ]
  go_wp2_with fail
  go_ret
  exact ⟨rfl, Below.refl _ _⟩

theorem eqCellS_res (s s' : Value) (B B' : Nat) (l : List M.Cl) (w : World) (h : Res w B s l) (h' : Res w B' s' l) :
    Calls Tryd.prog 23 #[s, s'] w fun e w' => e = .returned (.bool true) ∧ Below w.heap.size w w' := by
  obtain ⟨hn, ⟨rfl, hl⟩ | ⟨b, cap, rfl, h2, h3, h4⟩⟩ := h
  · subst hl
    obtain ⟨_, ⟨rfl, _⟩ | ⟨b', cap', rfl, g2, g3, g4⟩⟩ := h'
    · exact eqCellS_none _ _ _ _ _
    · exact eqCellS_none _ _ _ _ _
  · obtain ⟨_, ⟨rfl, rfl⟩ | ⟨b', cap', rfl, g2, g3, g4⟩⟩ := h'
    · exact eqCellS_none _ _ _ _ _
    · exact eqCellS_same b 0 cap b' 0 cap' l w h4.row h4.lt g4.row g4.lt hn h3 g3

/-- The shape of an answer's slice: the walk wants to see it. -/
theorem Res.shape {w : World} {B : Nat} {s : Value} {l : List M.Cl} (h : Res w B s l) : ∃ a n cap, s = .slice a n cap := by
  obtain ⟨_, ⟨rfl, _⟩ | ⟨b, cap, rfl, _⟩⟩ := h
  · exact ⟨_, _, _, rfl⟩
  · exact ⟨_, _, _, rfl⟩

theorem ownsRow_base {w : World} {base : Nat} {e : TypeId} {size : Nat} {v : Value} {n : Nat} {xs : List Value} (h : w.ownsRow base e size v n xs) : ∀ k, v.ownBlock = some k → base ≤ k := by
  obtain ⟨_, ⟨rfl, _⟩ | ⟨g, cap, cur, rfl, hg, _⟩⟩ := h
  · intro k hk; simp [Value.ownBlock] at hk
  · intro k hk; simp only [Value.ownBlock, Option.some.injEq] at hk; omega
theorem OwnG.setOther {w : World} {b : Nat} {t : TypeId} {l : List M.Cl} (h : OwnG w b t l) (p : Addr) (u : Value) (hp : b ≠ p.block) : OwnG (w.setCell p u) b t l := by
  obtain ⟨xs, h1, h2⟩ := h; exact ⟨xs, h1.setOther p u hp, h2⟩
theorem Res.setOther {w : World} {B : Nat} {s : Value} {l : List M.Cl} (h : Res w B s l) (p : Addr) (u : Value) (hp : ∀ b, s.ownBlock = some b → b ≠ p.block) : Res (w.setCell p u) B s l := by
  obtain ⟨hn, h | ⟨b, cap, rfl, h2, h3, h4⟩⟩ := h
  · exact ⟨hn, .inl h⟩
  · exact ⟨hn, .inr ⟨b, cap, rfl, h2, h3, h4.setOther p u (hp b rfl)⟩⟩

end Go.Proofs.YtakdlcgiieaieaaDoor
