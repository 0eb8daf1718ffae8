/-
  The laws' marks: laws.markText, laws.markCellS write told numbers into a row of the call's own; laws.heldCellS finds them there.
  laws.markCellS writes told numbers into a row of the call's own, and laws.heldCellS finds them there.
  laws.heldCellS finds the told numbers in a row that holds them.
  An answer that holds a list of cells: what it is that it lies in memory of its own, and what the laws' helpers find, mark and find again in it.
-/
import Derived.Test.YtlbmpldknfcfhaaDoorU02
import Derived.Deep.LoopGhost
import Derived.Laws.IdiomStrings
namespace Go.Proofs.YtlbmpldknfcfhaaDoor
open Go.RowKit
set_option linter.unusedVariables false

end Go.Proofs.YtlbmpldknfcfhaaDoor

namespace Go.Proofs.YtlbmpldknfcfhaaDoor
open Go.RowKit
set_option linter.unusedVariables false

/-- As Words, where the row may be longer. -/
def WordsG (xs : List Value) (l : List M.Cl) (k : Nat) : Prop :=
  l.length * 5 ≤ xs.length ∧ ∀ i, i < k → xs[i * 5]? = some (.int .i64 (l.getD i M.zero).kind) ∧ xs[i * 5 + 1]? = some (.int .i64 (l.getD i M.zero).num) ∧ xs[i * 5 + 2]? = some (.string (l.getD i M.zero).text) ∧ xs[i * 5 + 3]? = some (.string (l.getD i M.zero).key) ∧ xs[i * 5 + 4]? = some (.int .i64 (l.getD i M.zero).n)

/-- A row of the call's own that begins with the cells of l. -/
def OwnG (w : World) (b : Nat) (t : TypeId) (l : List M.Cl) : Prop := ∃ xs, Own w b t xs ∧ WordsG xs l l.length
theorem OwnG.row {w : World} {b : Nat} {t : TypeId} {l : List M.Cl} (h : OwnG w b t l) : Row w b 0 l := by
  obtain ⟨xs, ho, _, hw⟩ := h
  intro i hi
  obtain ⟨h0, h1, h2, h3, h4⟩ := hw i hi
  simp only [Nat.zero_add]
  exact ⟨(ho.cell _).trans h0, (ho.cell _).trans h1, (ho.cell _).trans h2, (ho.cell _).trans h3, (ho.cell _).trans h4⟩
theorem OwnG.lt {w : World} {b : Nat} {t : TypeId} {l : List M.Cl} (h : OwnG w b t l) : b < w.heap.size := by obtain ⟨xs, ho, _⟩ := h; exact ho.lt
theorem OwnG.below {B : Nat} {w w' : World} {b : Nat} {t : TypeId} {l : List M.Cl} (h : OwnG w b t l) (hb : Below B w w') (hB : b < B) : OwnG w' b t l := by
  obtain ⟨xs, ho, hw⟩ := h; exact ⟨xs, ho.below hb hB, hw⟩
end Go.Proofs.YtlbmpldknfcfhaaDoor

namespace Go.Proofs.YtlbmpldknfcfhaaDoor
open Go.RowKit
set_option linter.unusedVariables false

end Go.Proofs.YtlbmpldknfcfhaaDoor

namespace Go.Proofs.YtlbmpldknfcfhaaDoor
open Go.RowKit
set_option linter.unusedVariables false

/-- The slice value s holds the cells l, in a block of its own from number B on; or it is nil and there are none. -/
def Res (w : World) (B : Nat) (s : Value) (l : List M.Cl) : Prop :=
  l.length ≤ 1048576 ∧ ((s = .slice none 0 0 ∧ l = []) ∨ ∃ b cap, s = .slice (some ⟨b, 0, none⟩) l.length cap ∧ B ≤ b ∧ l.length ≤ cap ∧ OwnG w b 44 l)

theorem Res.below {w w' : World} {B : Nat} {s : Value} {l : List M.Cl} (h : Res w B s l) (hb : Below w.heap.size w w') : Res w' B s l := by
  obtain ⟨hn, h | ⟨b, cap, h1, h2, h3, h4⟩⟩ := h
  · exact ⟨hn, .inl h⟩
  · exact ⟨hn, .inr ⟨b, cap, h1, h2, h3, h4.below hb h4.lt⟩⟩
theorem Res.alloc {w : World} {B : Nat} {s : Value} {l : List M.Cl} (h : Res w B s l) (o : Obj) : Res (w.alloc o) B s l := h.below ((Below.refl _ _).alloc (Nat.le_refl _) o)
theorem Res.mono {w : World} {B B' : Nat} {s : Value} {l : List M.Cl} (h : Res w B s l) (hB : B' ≤ B) : Res w B' s l := by
  obtain ⟨hn, h | ⟨b, cap, h1, h2, h3, h4⟩⟩ := h
  · exact ⟨hn, .inl h⟩
  · exact ⟨hn, .inr ⟨b, cap, h1, by omega, h3, h4⟩⟩

theorem Res.base {w : World} {B : Nat} {s : Value} {l : List M.Cl} (h : Res w B s l) : ∀ b, s.ownBlock = some b → B ≤ b := by
  obtain ⟨hn, ⟨rfl, _⟩ | ⟨b, cap, rfl, h2, h3, h4⟩⟩ := h
  · intro b hb; simp [Value.ownBlock] at hb
  · intro c hc; simp only [Value.ownBlock, Option.some.injEq] at hc; omega
/-- The shape of an answer's slice: the walk wants to see it. -/
theorem Res.shape {w : World} {B : Nat} {s : Value} {l : List M.Cl} (h : Res w B s l) : ∃ a n cap, s = .slice a n cap := by
  obtain ⟨_, ⟨rfl, _⟩ | ⟨b, cap, rfl, _⟩⟩ := h
  · exact ⟨_, _, _, rfl⟩
  · exact ⟨_, _, _, rfl⟩

theorem ownsRow_base {w : World} {base : Nat} {e : TypeId} {size : Nat} {v : Value} {n : Nat} {xs : List Value} (h : w.ownsRow base e size v n xs) : ∀ k, v.ownBlock = some k → base ≤ k := by
  obtain ⟨_, ⟨rfl, _⟩ | ⟨g, cap, cur, rfl, hg, _⟩⟩ := h
  · intro k hk; simp [Value.ownBlock] at hk
  · intro k hk; simp only [Value.ownBlock, Option.some.injEq] at hk; omega
theorem OwnG.setOther {w : World} {b : Nat} {t : TypeId} {l : List M.Cl} (h : OwnG w b t l) (p : Addr) (u : Value) (hp : b ≠ p.block) : OwnG (w.setCell p u) b t l := by
  obtain ⟨xs, h1, h2⟩ := h; exact ⟨xs, h1.setOther p u hp, h2⟩
theorem Res.setOther {w : World} {B : Nat} {s : Value} {l : List M.Cl} (h : Res w B s l) (p : Addr) (u : Value) (hp : ∀ b, s.ownBlock = some b → b ≠ p.block) : Res (w.setCell p u) B s l := by
  obtain ⟨hn, h | ⟨b, cap, rfl, h2, h3, h4⟩⟩ := h
  · exact ⟨hn, .inl h⟩
  · exact ⟨hn, .inr ⟨b, cap, rfl, h2, h3, h4.setOther p u (hp b rfl)⟩⟩

end Go.Proofs.YtlbmpldknfcfhaaDoor
