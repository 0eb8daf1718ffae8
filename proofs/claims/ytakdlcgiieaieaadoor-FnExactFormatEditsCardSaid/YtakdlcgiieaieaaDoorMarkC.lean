/-
  The laws' marks: laws.markText, laws.markCellS write told numbers into a row of the call's own; laws.heldCellS finds them there.
  laws.markCellS writes told numbers into a row of the call's own, and laws.heldCellS finds them there.
-/
import Derived.Test.YtakdlcgiieaieaaDoorEq
import Derived.Deep.LoopGhost
import Derived.Laws.IdiomStrings
namespace Go.Proofs.YtakdlcgiieaieaaDoor
open Go.RowKit
set_option linter.unusedVariables false

theorem ret_str {a b : ByteArray} (h : a = b) : Ending.returned (.string a) = .returned (.string b) := by rw [h]

/-- The decimal digits of q ahead of o, f rounds at most. -/
def mtGo : Nat → Int → ByteArray → ByteArray
  | 0, _, o => o
  | f + 1, q, o => if 0 < q then mtGo f (q / 10) (⟨#[UInt8.ofNat (48 + q % 10).toNat]⟩ ++ o) else o
/-- What laws.markText answers. -/
def mt (k : Int) : ByteArray := if k ≤ 0 then ⟨#[109, 48]⟩ else ⟨#[109]⟩ ++ mtGo k.toNat k ByteArray.empty

theorem mtGo_zero (f : Nat) (q : Int) (o : ByteArray) (h : q ≤ 0) : mtGo f q o = o := by
  cases f with
  | zero => rfl
  | succ f => rw [mtGo, if_neg (by omega)]
theorem mtGo_step (f : Nat) (q : Int) (o : ByteArray) (h : 0 < q) (hf : 0 < f) : mtGo f q o = mtGo (f - 1) (q / 10) (⟨#[UInt8.ofNat (48 + q % 10).toNat]⟩ ++ o) := by
  cases f with
  | zero => omega
  | succ f => rw [mtGo, if_pos h]; rfl

theorem conv_digit (w : World) (x : Int) (h0 : 0 ≤ x) (h1 : x ≤ 255) :
    (convert 42 9 (.slice (some ⟨w.heap.size, 0, none⟩) 1 1)).run Tryd.prog (w.alloc (.cells #[.int .u8 x] 5)) = .ok (.string ⟨#[UInt8.ofNat x.toNat]⟩) (w.alloc (.cells #[.int .u8 x] 5)) := by
  have := run_convert_bytes_back (P := Tryd.prog) (w.alloc (.cells #[.int .u8 x] 5)) 42 9 5 ⟨w.heap.size, 0, none⟩ 1 [UInt8.ofNat x.toNat] Tryd.underlying42 Tryd.underlying5 Tryd.underlying9 (by
    intro j hj
    simp only [List.length_cons, List.length_nil] at hj
    obtain rfl : j = 0 := by omega
    have e : ((UInt8.ofNat x.toNat).toNat : Int) = x := by
      rw [UInt8.toNat_ofNat']; omega
    simp only [List.getElem_cons_zero, e]
    have a0 : (⟨w.heap.size, 0, none⟩ : Addr).add 0 = ⟨w.heap.size, 0, none⟩ := by simp [Addr.add]
    rw [a0]
    exact World.cell?_alloc_mark w #[.int .u8 x] 5 (0, 0) 0)
  exact this

end Go.Proofs.YtakdlcgiieaieaaDoor

namespace Go.Proofs.YtakdlcgiieaieaaDoor
open Go.RowKit
set_option linter.unusedVariables false

/-- Below block number B all but block b is as it was. -/
structure But (B b : Nat) (w w' : World) : Prop where
  os : w'.os = w.os
  tape : w'.tape = w.tape
  output : w'.output = w.output
  size : w.heap.size ≤ w'.heap.size
  block : ∀ k, k < B → k ≠ b → w'.heap[k]? = w.heap[k]?

theorem But.refl (B b : Nat) (w : World) : But B b w w := ⟨rfl, rfl, rfl, Nat.le_refl _, fun _ _ _ => rfl⟩
theorem But.trans {B b : Nat} {u v w : World} (h : But B b u v) (k : But B b v w) : But B b u w :=
  ⟨k.os.trans h.os, k.tape.trans h.tape, k.output.trans h.output, Nat.le_trans h.size k.size, fun i h1 h2 => (k.block i h1 h2).trans (h.block i h1 h2)⟩
theorem But.ofBelow {B b : Nat} {w w' : World} (h : Below B w w') : But B b w w' := ⟨h.os, h.tape, h.output, h.size, fun k hk _ => h.block k hk⟩
theorem But.set (B b j : Nat) (w : World) (u : Value) : But B b w (w.setCell ⟨b, j, none⟩ u) :=
  ⟨rfl, rfl, rfl, by simp [World.setCell], fun k _ hk => Below.heap_setCell _ _ _ _ (by simpa using hk)⟩
theorem But.below {B B' b : Nat} {w w' : World} (h : But B b w w') (h1 : B' ≤ B) (h2 : B' ≤ b) : Below B' w w' :=
  ⟨h.os, h.tape, h.output, h.size, fun k hk => h.block k (by omega) (by omega)⟩
theorem But.own {B b : Nat} {w w' : World} (h : But B b w w') {c : Nat} {t : TypeId} {xs : List Value} (ho : Own w c t xs) (hc : c < B) (hn : c ≠ b) : Own w' c t xs := by
  obtain ⟨r, h1, h2⟩ := ho
  exact ⟨r, (h.block c hc hn).trans h1, h2⟩
theorem But.mono {B B' b : Nat} {w w' : World} (h : But B b w w') (h1 : B' ≤ B) : But B' b w w' := ⟨h.os, h.tape, h.output, h.size, fun k hk hn => h.block k (by omega) hn⟩
theorem But.ownRow {B b : Nat} {w w' : World} (h : But B b w w') {c : Nat} {t : TypeId} {l : List M.Cl} (ho : OwnRow w c t l) (hc : c < B) (hn : c ≠ b) : OwnRow w' c t l := by
  obtain ⟨xs, h1, h2⟩ := ho
  exact ⟨xs, h.own h1 hc hn, h2⟩

/-- As Words, where the row may be longer. -/
def WordsG (xs : List Value) (l : List M.Cl) (k : Nat) : Prop :=
  l.length * 5 ≤ xs.length ∧ ∀ i, i < k → xs[i * 5]? = some (.int .i64 (l.getD i M.zero).kind) ∧ xs[i * 5 + 1]? = some (.int .i64 (l.getD i M.zero).num) ∧ xs[i * 5 + 2]? = some (.string (l.getD i M.zero).text) ∧ xs[i * 5 + 3]? = some (.string (l.getD i M.zero).key) ∧ xs[i * 5 + 4]? = some (.int .i64 (l.getD i M.zero).n)

theorem WordsG.step {xs : List Value} {l : List M.Cl} {k : Nat} (h : WordsG xs l k) (hk : k < l.length) (c : M.Cl) (hc : c = l.getD k M.zero) :
    WordsG (((((xs.set (k * 5) (.int .i64 c.kind)).set (k * 5 + 1) (.int .i64 c.num)).set (k * 5 + 2) (.string c.text)).set (k * 5 + 3) (.string c.key)).set (k * 5 + 4) (.int .i64 c.n)) l (k + 1) := by
  subst hc
  obtain ⟨hl, hw⟩ := h
  have g := set5_get xs k (.int .i64 (l.getD k M.zero).kind) (.int .i64 (l.getD k M.zero).num) (.string (l.getD k M.zero).text) (.string (l.getD k M.zero).key) (.int .i64 (l.getD k M.zero).n) (by omega)
  refine ⟨by simpa using hl, fun i hi => ?_⟩
  by_cases e : i = k
  · subst e; exact ⟨g.1, g.2.1, g.2.2.1, g.2.2.2.1, g.2.2.2.2.1⟩
  · have o := g.2.2.2.2.2
    have hw' := hw i (by omega)
    exact ⟨(o _ (by omega)).trans hw'.1, (o _ (by omega)).trans hw'.2.1, (o _ (by omega)).trans hw'.2.2.1, (o _ (by omega)).trans hw'.2.2.2.1, (o _ (by omega)).trans hw'.2.2.2.2⟩

/-- A row of the call's own that begins with the cells of l. -/
def OwnG (w : World) (b : Nat) (t : TypeId) (l : List M.Cl) : Prop := ∃ xs, Own w b t xs ∧ WordsG xs l l.length
theorem OwnRow.wide {w : World} {b : Nat} {t : TypeId} {l : List M.Cl} (h : OwnRow w b t l) : OwnG w b t l := by
  obtain ⟨xs, h1, h2, h3⟩ := h; exact ⟨xs, h1, by omega, h3⟩
theorem OwnG.row {w : World} {b : Nat} {t : TypeId} {l : List M.Cl} (h : OwnG w b t l) : Row w b 0 l := by
  obtain ⟨xs, ho, _, hw⟩ := h
  intro i hi
  obtain ⟨h0, h1, h2, h3, h4⟩ := hw i hi
  simp only [Nat.zero_add]
  exact ⟨(ho.cell _).trans h0, (ho.cell _).trans h1, (ho.cell _).trans h2, (ho.cell _).trans h3, (ho.cell _).trans h4⟩
theorem OwnG.lt {w : World} {b : Nat} {t : TypeId} {l : List M.Cl} (h : OwnG w b t l) : b < w.heap.size := by obtain ⟨xs, ho, _⟩ := h; exact ho.lt
theorem OwnG.below {B : Nat} {w w' : World} {b : Nat} {t : TypeId} {l : List M.Cl} (h : OwnG w b t l) (hb : Below B w w') (hB : b < B) : OwnG w' b t l := by
  obtain ⟨xs, ho, hw⟩ := h; exact ⟨xs, ho.below hb hB, hw⟩
theorem But.ownG {B b : Nat} {w w' : World} (h : But B b w w') {c : Nat} {t : TypeId} {l : List M.Cl} (ho : OwnG w c t l) (hc : c < B) (hn : c ≠ b) : OwnG w' c t l := by
  obtain ⟨xs, h1, h2⟩ := ho
  exact ⟨xs, h.own h1 hc hn, h2⟩

/-- The cells that laws.markCellS leaves. -/
def markCl (k : Int) (i : Nat) : M.Cl := ⟨k + 5 * i, k + 5 * i + 1, mt (k + 5 * i + 2), mt (k + 5 * i + 3), k + 5 * i + 4⟩
def marked (n : Nat) (k : Int) : List M.Cl := (List.range n).map (markCl k)
theorem marked_length (n : Nat) (k : Int) : (marked n k).length = n := by simp [marked]
theorem marked_getD (n : Nat) (k : Int) (i : Nat) (hi : i < n) : (marked n k).getD i M.zero = markCl k i := by simp [marked, List.getD_eq_getElem?_getD, hi]

end Go.Proofs.YtakdlcgiieaieaaDoor
