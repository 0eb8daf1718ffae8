/-
  An answer that holds a list of numbers: what it is that it lies in memory of its own, and what the laws' helpers find, mark and find again in it.
  The places of a value's parts: spec.l1Children and impl.childPlaces.
-/
import Derived.Test.YtokcefcjkjhnbaaRes
import Derived.Test.YtokcefcjkjhnbaaEndT
import Derived.Test.YtokcefcjkjhnbaaKids
import Derived.Deep.QuietTactic
import Derived.BigQuiet
namespace Go.Proofs.Ytokcefcjkjhnbaa
open Go.RowKit
set_option linter.unusedVariables false

/-- A row of the call's own that begins with the numbers ns. -/
def OwnI (w : World) (b : Nat) (ns : List Int) : Prop := ∃ xs, Own w b 2 xs ∧ ns.length ≤ xs.length ∧ ∀ i, i < ns.length → xs[i]? = some (.int .i64 (ns.getD i 0))
theorem OwnI.lt {w : World} {b : Nat} {l : List Int} (h : OwnI w b l) : b < w.heap.size := by obtain ⟨xs, ho, _⟩ := h; exact ho.lt
theorem OwnI.below {B : Nat} {w w' : World} {b : Nat} {l : List Int} (h : OwnI w b l) (hb : Below B w w') (hB : b < B) : OwnI w' b l := by
  obtain ⟨xs, ho, hw⟩ := h; exact ⟨xs, ho.below hb hB, hw⟩
theorem But.ownI {B b : Nat} {w w' : World} (h : But B b w w') {c : Nat} {l : List Int} (ho : OwnI w c l) (hc : c < B) (hn : c ≠ b) : OwnI w' c l := by
  obtain ⟨xs, h1, h2⟩ := ho; exact ⟨xs, h.own h1 hc hn, h2⟩
theorem OwnI.cell {w : World} {b : Nat} {l : List Int} (h : OwnI w b l) {i : Nat} (hi : i < l.length) : w.cell? ⟨b, i, none⟩ = some (.int .i64 (l.getD i 0)) := by
  obtain ⟨xs, ho, _, hw⟩ := h; exact (ho.cell i).trans (hw i hi)

def ResI (w : World) (B : Nat) (s : Value) (l : List Int) : Prop :=
  l.length ≤ 1048576 ∧ ((s = .slice none 0 0 ∧ l = []) ∨ ∃ b cap, s = .slice (some ⟨b, 0, none⟩) l.length cap ∧ B ≤ b ∧ l.length ≤ cap ∧ OwnI w b l)
theorem ResI.below {w w' : World} {B : Nat} {s : Value} {l : List Int} (h : ResI w B s l) (hb : Below w.heap.size w w') : ResI w' B s l := by
  obtain ⟨hn, h | ⟨b, cap, h1, h2, h3, h4⟩⟩ := h
  · exact ⟨hn, .inl h⟩
  · exact ⟨hn, .inr ⟨b, cap, h1, h2, h3, h4.below hb h4.lt⟩⟩
theorem ResI.alloc {w : World} {B : Nat} {s : Value} {l : List Int} (h : ResI w B s l) (o : Obj) : ResI (w.alloc o) B s l := h.below ((Below.refl _ _).alloc (Nat.le_refl _) o)
theorem ResI.mono {w : World} {B B' : Nat} {s : Value} {l : List Int} (h : ResI w B s l) (hB : B' ≤ B) : ResI w B' s l := by
  obtain ⟨hn, h | ⟨b, cap, h1, h2, h3, h4⟩⟩ := h
  · exact ⟨hn, .inl h⟩
  · exact ⟨hn, .inr ⟨b, cap, h1, by omega, h3, h4⟩⟩
theorem ResI.base {w : World} {B : Nat} {s : Value} {l : List Int} (h : ResI w B s l) : ∀ b, s.ownBlock = some b → B ≤ b := by
  obtain ⟨hn, ⟨rfl, _⟩ | ⟨b, cap, rfl, h2, h3, h4⟩⟩ := h
  · intro b hb; simp [Value.ownBlock] at hb
  · intro c hc; simp only [Value.ownBlock, Option.some.injEq] at hc; omega
theorem ResI.lt {w : World} {B : Nat} {s : Value} {l : List Int} (h : ResI w B s l) : ∀ b, s.ownBlock = some b → b < w.heap.size := by
  obtain ⟨hn, ⟨rfl, _⟩ | ⟨b, cap, rfl, h2, h3, h4⟩⟩ := h
  · intro b hb; simp [Value.ownBlock] at hb
  · intro c hc; simp only [Value.ownBlock, Option.some.injEq] at hc; have := h4.lt; omega
theorem ButV.ownI {s : Value} {w w' : World} (h : ButV s w w') {c : Nat} {l : List Int} (ho : OwnI w c l) (hn : s.ownBlock ≠ some c) : OwnI w' c l := by
  obtain ⟨xs, h1, h2⟩ := ho; exact ⟨xs, h.own h1 hn, h2⟩
theorem ButV.resI {s : Value} {w w' : World} (h : ButV s w w') {B : Nat} {r : Value} {l : List Int} (hr : ResI w B r l) (hne : ∀ b, s.ownBlock = some b → r.ownBlock ≠ some b) : ResI w' B r l := by
  obtain ⟨hn, g | ⟨b, cap, rfl, h2, h3, h4⟩⟩ := hr
  · exact ⟨hn, .inl g⟩
  · exact ⟨hn, .inr ⟨b, cap, rfl, h2, h3, h.ownI h4 (fun e => hne b e rfl)⟩⟩
theorem ResI.shape {w : World} {B : Nat} {s : Value} {l : List Int} (h : ResI w B s l) : ∃ a n cap, s = .slice a n cap := by
  obtain ⟨_, ⟨rfl, _⟩ | ⟨b, cap, rfl, _⟩⟩ := h
  · exact ⟨_, _, _, rfl⟩
  · exact ⟨_, _, _, rfl⟩
theorem ResI.setOther {w : World} {B : Nat} {s : Value} {l : List Int} (h : ResI w B s l) (p : Addr) (u : Value) (hp : ∀ b, s.ownBlock = some b → b ≠ p.block) : ResI (w.setCell p u) B s l := by
  obtain ⟨hn, h | ⟨b, cap, rfl, h2, h3, ⟨xs, h4, h5⟩⟩⟩ := h
  · exact ⟨hn, .inl h⟩
  · exact ⟨hn, .inr ⟨b, cap, rfl, h2, h3, ⟨xs, h4.setOther p u (hp b rfl), h5⟩⟩⟩

/-- An owned row of numbers is an answer's row. -/
theorem resI_of_owns {w : World} {B : Nat} {v : Value} {l : List Int} (h : w.ownsRow B 2 1 v l.length (l.map (Value.int .i64))) (hn : l.length ≤ 1048576) : ResI w B v l := by
  obtain ⟨h1, ⟨rfl, h2⟩ | ⟨g, cap, cur, rfl, hg, hh, hnc, hcm, hcs, ht⟩⟩ := h
  · exact ⟨hn, .inl ⟨rfl, List.length_eq_zero_iff.1 h2⟩⟩
  · refine ⟨hn, .inr ⟨g, cap, rfl, hg, hnc, ⟨cur.toList, ⟨cur, hh, rfl⟩, ?_, ?_⟩⟩⟩
    · simp only [Array.length_toList]; omega
    · intro i hi
      have : cur.toList[i]? = (l.map (Value.int .i64))[i]? := by rw [← ht, List.getElem?_take, if_pos (by omega)]
      rw [this, List.getElem?_map, List.getElem?_eq_getElem hi, List.getD_eq_getElem?_getD, List.getElem?_eq_getElem hi]; rfl

end Go.Proofs.Ytokcefcjkjhnbaa

namespace Go.Proofs.Ytokcefcjkjhnbaa
open Go.RowKit
set_option linter.unusedVariables false

theorem Try.info2 : (Try.prog.info? 2).map (fun i => (i.zero, i.size, i.bytes)) = some (some (.int .i64 0), 1, 8) := by kernel_rfl

/-- The first k places, as numbers. -/
def firstPl (v : List M.Cl) (a k : Nat) : List Int := (List.range k).map fun (j : Nat) => (M.iter v j (a + 1) : Int)
theorem firstPl_length (v : List M.Cl) (a k : Nat) : (firstPl v a k).length = k := by simp [firstPl]
theorem firstPl_succ (v : List M.Cl) (a k : Nat) : (firstPl v a k).map (Value.int .i64) ++ [.int .i64 (M.iter v k (a + 1))] = (firstPl v a (k + 1)).map (Value.int .i64) := by
  simp [firstPl, List.range_succ]

theorem one_word (w : World) (x : Int) : ∀ j u, ([Value.int .i64 x] : List Value)[j]? = some u → (w.alloc (.cells #[.int .i64 x] 2)).cell? ((⟨w.heap.size, 0, none⟩ : Addr).add j) = some u := by
  intro j u hu
  match j, hu with
  | 0, hu =>
    simp only [List.getElem?_cons_zero, Option.some.injEq] at hu
    subst hu
    have a0 : (⟨w.heap.size, 0, none⟩ : Addr).add 0 = ⟨w.heap.size, 0, none⟩ := by simp [Addr.add]
    rw [a0]
    exact World.cell?_alloc_mark w #[.int .i64 x] 2 (0, 0) 0


theorem one_plain (x : Int) : ∀ u ∈ ([Value.int .i64 x] : List Value), u.oneCell' = true := by
  intro u hu; simp only [List.mem_cons, List.not_mem_nil, or_false] at hu; subst hu; rfl

theorem ownsRow_below {B : Nat} {w w' : World} {base : Nat} {e : TypeId} {size : Nat} {v : Value} {n : Nat} {xs : List Value} (h : w.ownsRow base e size v n xs) (hb : Below w.heap.size w w') : w'.ownsRow base e size v n xs := by
  obtain ⟨h1, h2 | ⟨g, cap, cur, h3, h4, h5, h6⟩⟩ := h
  · exact ⟨h1, .inl h2⟩
  · exact ⟨h1, .inr ⟨g, cap, cur, h3, h4, (hb.block g (Array.getElem?_eq_some_iff.1 h5).1).trans h5, h6⟩⟩

end Go.Proofs.Ytokcefcjkjhnbaa
