/-
  A list of lists of cells that came in as an argument, opened.
-/
import Derived.Test.YthaabakpcokomaaR18
import Derived.Test.YthaabakpcokomaaR46
import Derived.Deep.LoopGhost
namespace Go.Proofs.Ythaabakpcokomaa
open Go.RowKit Go.ChangeShapes Go.WideShapes
set_option linter.unusedVariables false

/-- One list that came in: its head, its capacity, its cells. -/
structure Ar where
  a : Option Addr
  cap : Nat
  l : List M.Cl
def Ar.val (e : Ar) : Value := .slice e.a e.l.length e.cap
def Ar.zero : Ar := ⟨none, 0, []⟩

def Lists (w : World) (a : Option Addr) (cap : Nat) (es : List Ar) : Prop :=
  cap ≤ 9223372036854775807 ∧ es.length ≤ cap ∧ (∀ e ∈ es, Cells w e.a e.cap e.l) ∧ (es = [] ∨ ∃ b off, a = some ⟨b, off, none⟩ ∧ b < w.heap.size ∧ ∀ i, i < es.length → w.cell? ⟨b, off + i, none⟩ = some (es.getD i Ar.zero).val)

section
variable {H : Type} {enc : TypeId × Value → H} {w : World} {base : Nat} {spare : Nat → Bool} {held : Bool}
end

def lists (es : List Ar) : List (List M.Cl) := es.map Ar.l
end Go.Proofs.Ythaabakpcokomaa
