/-
  Rows of keys and of parts that are built by appends, beside one another.
-/
import Derived.Test.YthbiclpifeobkaaQ15
import Derived.Test.YthbiclpifeobkaaQ24
namespace Go.Proofs.Ythbiclpifeobkaa
open Go.RowKit
set_option linter.unusedVariables false
set_option linter.unusedSimpArgs false

namespace Dc
theorem ks_grown {w w' : World} {B base : Nat} {v s : Value} {ks : List ByteArray} {n size : Nat} {e : TypeId} {xs : List Value} (h : KS w B v ks) (ho : w.ownsRow base e size s n xs) (hne : e ≠ 9) (hg : w.grownBy w' s.ownBlock) : KS w' B v ks := by
  obtain ⟨h1, h2 | ⟨g, cap, cur, h3, h4, h5, h6⟩⟩ := h
  · exact ⟨h1, .inl h2⟩
  · obtain ⟨c, hc, ec⟩ := grown_own hg (b := g) (t := 9) (ys := cur.toList) ⟨cur, h5, rfl⟩ (other_block ho (b := g) (t := 9) (ys := cur.toList) ⟨cur, h5, rfl⟩ hne)
    have : c = cur := Array.toList_inj.1 ec
    subst this
    exact ⟨h1, .inr ⟨g, cap, c, h3, h4, hc, h6⟩⟩
theorem ss_grown {w w' : World} {B base : Nat} {v s : Value} {ps : List (List M.Cl)} {e : TypeId} {size n : Nat} {xs : List Value} (h : SS w B v ps) (ho : w.ownsRow base e size s n xs) (h1 : e ≠ 24) (h2 : e ≠ 44) (hg : w.grownBy w' s.ownBlock) : SS w' B v ps := by
  obtain ⟨ss, hl, hown, hres⟩ := h
  refine ⟨ss, hl, hown.kept hg ?_, fun i hi => grown_res ho hg (hres i hi) h2⟩
  obtain ⟨_, ⟨rfl, _⟩ | ⟨g, cap, cur, rfl, _, hh, _⟩⟩ := hown
  · exact .inl rfl
  · refine .inr fun e => ?_
    exact other_block ho (b := g) (t := 24) (ys := cur.toList) ⟨cur, hh, rfl⟩ h1 (by rw [← e]; rfl)
theorem ks_alloc {w : World} {B : Nat} {v : Value} {ks : List ByteArray} (h : KS w B v ks) (o : Obj) : KS (w.alloc o) B v ks := h.below ((Below.refl _ _).alloc (Nat.le_refl _) o)
theorem ss_alloc {w : World} {B : Nat} {v : Value} {ps : List (List M.Cl)} (h : SS w B v ps) (o : Obj) : SS (w.alloc o) B v ps := h.below ((Below.refl _ _).alloc (Nat.le_refl _) o)
theorem ks_empty (w : World) (B b : Nat) (hb : b = w.heap.size) (hB : B ≤ b) : KS (w.alloc (.cells #[] 9)) B (.slice (some ⟨b, 0, none⟩) 0 0) [] := by
  subst hb
  exact ⟨rfl, .inr ⟨w.heap.size, 0, #[], rfl, hB, heap_alloc_new _ _, Nat.le_refl _, by simp [maxLen], rfl, rfl⟩⟩
theorem ks_nil (w : World) (B : Nat) : KS w B (.slice none 0 0) [] := World.ownsRow_nil _ _ _ _
theorem one_str (key : ByteArray) : ∀ u ∈ ([Value.string key] : List Value), u.oneCell' = true := by
  intro u hu; simp only [List.mem_cons, List.not_mem_nil, or_false] at hu; subst hu; rfl
/-- The two rows. -/
structure Rw (wr : World) (B : Nat) (sk sl : Value) (ks : List ByteArray) (ps : List (List M.Cl)) : Prop where
  keys : KS wr B sk ks
  list : SS wr B sl ps
/-- A key more. -/
theorem Rw.key {wr w3 : World} {B : Nat} {sk sl v' : Value} {ks : List ByteArray} {ps : List (List M.Cl)} {o : Obj} {key : ByteArray} (h : Rw wr B sk sl ks ps) (hg : (wr.alloc o).grownBy w3 sk.ownBlock) (ho : w3.ownsRow B 9 1 v' (ks.length + 1) (ks.map Value.string ++ [.string key])) : Rw w3 B v' sl (ks ++ [key]) ps := by
  refine ⟨?_, ss_grown (ss_alloc h.list o) (ks_alloc h.keys o) (by decide) (by decide) hg⟩
  unfold KS
  simpa using ho
/-- A part more. -/
theorem Rw.part {wr w3 : World} {B : Nat} {sk sl v' sp : Value} {ks : List ByteArray} {ps : List (List M.Cl)} {o : Obj} {p : List M.Cl} {ss : List Value} (h : Rw wr B sk sl ks ps) (hl : ss.length = ps.length) (hown : wr.ownsRow B 24 1 sl ps.length ss) (hres : ∀ i, i < ps.length → Res wr B (ss.getD i (.slice none 0 0)) (ps.getD i [])) (hp : Res wr B sp p) (hg : (wr.alloc o).grownBy w3 sl.ownBlock) (ho : w3.ownsRow B 24 1 v' (ps.length + 1) (ss ++ [sp])) : Rw w3 B sk v' ks (ps ++ [p]) :=
  ⟨ks_grown (ks_alloc h.keys o) (hown.alloc o) (by decide) hg, SS.snoc rfl hl hown hres hp hg ho⟩
theorem bare_ne {ps : List (List M.Cl)} (h : ∀ j, j < ps.length → Bare (ps.getD j [])) : ∀ j, j < ps.length → ps.getD j [] ≠ [] := by
  intro j hj e
  have := (h j hj).1
  rw [e] at this
  simp at this
end Dc

end Go.Proofs.Ythbiclpifeobkaa
