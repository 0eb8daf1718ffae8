/-
  What is kept while the parts of a value are drawn.
-/
import Derived.Test.YthbiclpifeobkaaS29
namespace Go.Proofs.Ythbiclpifeobkaa
open Go.RowKit
set_option linter.unusedVariables false
set_option linter.unusedSimpArgs false

namespace Dv
theorem getD_app {α : Type} (ps : List α) (p z : α) (Q : α → Prop) (h : ∀ j, j < ps.length → Q (ps.getD j z)) (hp : Q p) : ∀ j, j < (ps ++ [p]).length → Q ((ps ++ [p]).getD j z) := fun j hj => by
  rw [List.getD_eq_getElem?_getD]
  rw [List.length_append] at hj
  by_cases e : j < ps.length
  · rw [List.getElem?_append_left e, ← List.getD_eq_getElem?_getD]; exact h j e
  · have : j = ps.length := by simp at hj; omega
    subst this
    rw [List.getElem?_append_right (Nat.le_refl _), Nat.sub_self]
    exact hp
/-- Keys and parts so far. -/
structure Lp (w wr : World) (bs : Nat) (a : Option Addr) (len cap N : Nat) (sk sl : Value) (ks : List ByteArray) (ps : List (List M.Cl)) (at2 : Nat) : Prop where
  rw : Dc.Rw wr w.heap.size sk sl ks ps
  bare : ∀ j, j < ps.length → Bare (ps.getD j [])
  sz : ∀ j, j < ps.length → (ps.getD j []).length ≤ N
  ok : ∀ j, j < ps.length → ∀ c ∈ ps.getD j [], c.ok
  kok : ∀ j, j < ks.length → (ks.getD j ByteArray.empty).size ≤ 100
  src : Src wr bs a len cap at2
  tch : Tch w.heap.size bs w wr
  lt : bs < w.heap.size
section
variable {w wr w2 w3 : World} {bs len cap N at2 at3 : Nat} {a : Option Addr} {sk sl v' sp : Value} {ks : List ByteArray} {ps : List (List M.Cl)}
theorem Lp.call (h : Lp w wr bs a len cap N sk sl ks ps at2) (hS : Src w2 bs a len cap at3) (hT : Tch wr.heap.size bs wr w2) : Lp w w2 bs a len cap N sk sl ks ps at3 :=
  ⟨rw_kept h.rw (Tch.kept hT h.lt), h.bare, h.sz, h.ok, h.kok, hS, h.tch.trans (hT.mono h.tch.size), h.lt⟩
theorem grown_tch {o : Obj} {row : Option Nat} (h : Tch w.heap.size bs w wr) (hg : (wr.alloc o).grownBy w3 row) (hr : ∀ k, row = some k → w.heap.size ≤ k) : Tch w.heap.size bs w w3 :=
  ⟨hg.os.trans h.os, hg.tape.trans h.tape, hg.output.trans h.output, Nat.le_trans h.size (by have := hg.size; simp at this; omega), fun k hk hn => by
    have h1 : k < wr.heap.size := Nat.lt_of_lt_of_le hk h.size
    have h2 := hg.block k (by simp; omega) (fun e => by have := hr k e.symm; omega)
    rw [h2, heap_alloc_old _ _ h1]
    exact h.block k hk hn⟩
theorem grown_src {o : Obj} {row : Option Nat} (h : Src wr bs a len cap at2) (hg : (wr.alloc o).grownBy w3 row) (hr : ∀ k, row = some k → bs < k) : Src w3 bs a len cap at2 := h.keep fun k hk => by
  have h1 : k < wr.heap.size := by have := h.lt; omega
  have h2 := hg.block k (by simp; omega) (fun e => by have := hr k e.symm; omega)
  rw [h2, heap_alloc_old _ _ h1]
theorem Lp.part (h : Lp w wr bs a len cap N sk sl ks ps at2) {p : List M.Cl} {o : Obj} {ss : List Value} (hp : Res wr w.heap.size sp p) (hb : Bare p) (hl : p.length ≤ N) (hok : ∀ c ∈ p, c.ok) (hsl : ss.length = ps.length) (hown : wr.ownsRow w.heap.size 24 1 sl ps.length ss) (hres : ∀ i, i < ps.length → Res wr w.heap.size (ss.getD i (.slice none 0 0)) (ps.getD i []))
    (hg : (wr.alloc o).grownBy w3 sl.ownBlock) (ho : w3.ownsRow w.heap.size 24 1 v' (ps.length + 1) (ss ++ [sp])) : Lp w w3 bs a len cap N sk v' ks (ps ++ [p]) at2 :=
  ⟨h.rw.part hsl hown hres hp hg ho, getD_app ps p [] Bare h.bare hb, getD_app ps p [] (fun x => x.length ≤ N) h.sz hl, getD_app ps p [] (fun x => ∀ c ∈ x, c.ok) h.ok hok, h.kok, grown_src h.src hg (fun k e => by have := ownsRow_base hown k e; have := h.lt; omega), grown_tch h.tch hg (ownsRow_base hown), h.lt⟩
theorem Lp.key (h : Lp w wr bs a len cap N sk sl ks ps at2) {key : ByteArray} {o : Obj} (hk : key.size ≤ 100) (hg : (wr.alloc o).grownBy w3 sk.ownBlock) (ho : w3.ownsRow w.heap.size 9 1 v' (ks.length + 1) (ks.map Value.string ++ [.string key])) : Lp w w3 bs a len cap N v' sl (ks ++ [key]) ps at2 :=
  ⟨h.rw.key hg ho, h.bare, h.sz, h.ok, getD_app ks key ByteArray.empty (fun x => x.size ≤ 100) h.kok hk, grown_src h.src hg (fun k e => by have := ownsRow_base h.rw.keys k e; have := h.lt; omega), grown_tch h.tch hg (ownsRow_base h.rw.keys), h.lt⟩
end
theorem tot_le3 {ps : List (List M.Cl)} {N : Nat} (hs : ∀ j, j < ps.length → (ps.getD j []).length ≤ N) : ∀ k, k ≤ ps.length → tot ps k ≤ k * N := by
  intro k
  induction k with
  | zero => intro _; simp [tot]
  | succ k ih =>
    intro hk
    have h1 := ih (by omega)
    have h2 := tot_succ ps k (by omega)
    have h3 := hs k (by omega)
    rw [h2, Nat.add_mul]
    omega
end Dv

end Go.Proofs.Ythbiclpifeobkaa
