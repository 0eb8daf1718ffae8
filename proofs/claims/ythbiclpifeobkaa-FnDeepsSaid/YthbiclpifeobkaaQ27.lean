/-
  What is kept while values are drawn.
-/
import Derived.Test.YthbiclpifeobkaaQ17
import Derived.Test.YthbiclpifeobkaaQ25
import Derived.Test.YthbiclpifeobkaaQ26
namespace Go.Proofs.Ythbiclpifeobkaa
open Go.RowKit
set_option linter.unusedVariables false
set_option linter.unusedSimpArgs false

namespace Dv
section
variable {w w' : World} {B : Nat}
theorem res_kept {s : Value} {l : List M.Cl} (h : Res w B s l) (hk : ∀ b, B ≤ b → b < w.heap.size → w'.heap[b]? = w.heap[b]?) : Res w' B s l := by
  obtain ⟨hn, h | ⟨b, cap, h1, h2, h3, xs, ho, hw⟩⟩ := h
  · exact ⟨hn, .inl h⟩
  · have hl := ho.lt
    obtain ⟨c, q1, q2⟩ := ho
    exact ⟨hn, .inr ⟨b, cap, h1, h2, h3, xs, ⟨c, (hk b h2 hl).trans q1, q2⟩, hw⟩⟩
theorem owns_kept {e : TypeId} {k : Nat} {v : Value} {n : Nat} {xs : List Value} (h : w.ownsRow B e k v n xs) (hk : ∀ b, B ≤ b → b < w.heap.size → w'.heap[b]? = w.heap[b]?) : w'.ownsRow B e k v n xs := by
  obtain ⟨h1, h2 | ⟨g, cap, cur, h3, h4, h5, h6⟩⟩ := h
  · exact ⟨h1, .inl h2⟩
  · exact ⟨h1, .inr ⟨g, cap, cur, h3, h4, (hk g h4 (Array.getElem?_eq_some_iff.1 h5).1).trans h5, h6⟩⟩
theorem rw_kept {sk sl : Value} {ks : List ByteArray} {ps : List (List M.Cl)} (h : Dc.Rw w B sk sl ks ps) (hk : ∀ b, B ≤ b → b < w.heap.size → w'.heap[b]? = w.heap[b]?) : Dc.Rw w' B sk sl ks ps := by
  obtain ⟨h1, ss, h2, h3, h4⟩ := h
  exact ⟨owns_kept h1 hk, ss, h2, owns_kept h3 hk, fun i hi => res_kept (h4 i hi) hk⟩
theorem Tch.kept {bs : Nat} (h : Tch w.heap.size bs w w') (hB : bs < B) : ∀ b, B ≤ b → b < w.heap.size → w'.heap[b]? = w.heap[b]? := fun b h1 h2 => h.block b h2 (by omega)
end
/-- A value that was drawn: a row of its own, its first cell without a key, no more than N cells; the source has gone on. -/
def Out (w : World) (bs : Nat) (a : Option Addr) (len cap at_ N K : Nat) (e : Ending) (w' : World) : Prop :=
  ∃ s l at2, e = .returned s ∧ Rs w' w.heap.size s l ∧ Bare l ∧ l.length ≤ N ∧ (∀ c ∈ l, c.ok) ∧ Src w' bs a len cap at2 ∧ at2 ≤ at_ + K ∧ Tch w.heap.size bs w w'
def Says (d : Int) (N K mx : Nat) : Prop := ∀ (bs len cap at_ : Nat) (a : Option Addr) (w : World), Src w bs a len cap at_ → at_ ≤ mx →
  Calls Try.prog 79 #[.pointer (some ⟨bs, 0, none⟩), .int .i64 d] w (Out w bs a len cap at_ N K)
theorem out_one {w w1 w2 : World} {bs len cap at_ at2 N K : Nat} {a : Option Addr} {s : Value} {c : M.Cl} (hT : Tch w.heap.size bs w w1) (hS : Src w1 bs a len cap at2) (h : Rs w2 w1.heap.size s [c]) (hb : Below w1.heap.size w1 w2) (hk : c.key = ByteArray.empty) (ho : c.ok) (hN : 1 ≤ N) (hK : at2 ≤ at_ + K) : Out w bs a len cap at_ N K (.returned s) w2 := by
  refine ⟨s, [c], at2, rfl, h.mono hT.size, ⟨by simp, ?_⟩, by simpa using hN, fun x hx => ?_, hS.below hb, hK, hT.trans ((Tch.of_below' hb).mono hT.size)⟩
  · obtain ⟨k, n, t, ky, m⟩ := c
    simp only at hk
    subst hk
    rfl
  · rw [List.mem_singleton] at hx
    rw [hx]; exact ho
theorem ok_mk {k n m : Int} {t ky : ByteArray} (hk : -100000 ≤ k ∧ k ≤ 100000) (hn : -5000000000000000000 ≤ n ∧ n ≤ 5000000000000000000) (hm : -100000 ≤ m ∧ m ≤ 100000) (ht : t.size ≤ 100000) (hy : ky.size ≤ 100000) : (⟨k, n, t, ky, m⟩ : M.Cl).ok := by
  unfold M.Cl.ok
  simp only
  omega
theorem ok_kind (k : Int) (h : 0 ≤ k ∧ k ≤ 10) : (⟨k, 0, ByteArray.empty, ByteArray.empty, 0⟩ : M.Cl).ok := ok_mk (by omega) (by omega) (by omega) (by decide) (by decide)
theorem ok_num (n : Int) (h : -1000000000000000 ≤ n ∧ n ≤ 1000000000000000) : (⟨3, n, ByteArray.empty, ByteArray.empty, 0⟩ : M.Cl).ok := ok_mk (by omega) (by omega) (by omega) (by decide) (by decide)
theorem ok_str (t : ByteArray) (h : t.size ≤ 100) : (⟨4, 0, t, ByteArray.empty, 0⟩ : M.Cl).ok := ok_mk (by omega) (by omega) (by omega) (by omega) (by decide)
end Dv

end Go.Proofs.Ythbiclpifeobkaa
