/-
  The library's stable sort of a row of places, whole.
  impl.standingMembers tells the places that stand.
-/
import Derived.Test.YtakdlcgiieaieaaDoorStZc
import Derived.Test.YtakdlcgiieaieaaDoorArrS
namespace Go.Proofs.YtakdlcgiieaieaaDoor
open Go.RowKit
set_option linter.unusedVariables false

end Go.Proofs.YtakdlcgiieaieaaDoor

namespace Go.Proofs.YtakdlcgiieaieaaDoor
open Go.RowKit
set_option linter.unusedVariables false

theorem Tryd.info3 : (Tryd.prog.info? 3).map (fun i => (i.zero, i.size, i.bytes)) = some (some (.int .i64 0), 1, 8) := by kernel_rfl

def natV (L : List Nat) : List Value := L.map fun p => Value.int .i64 (p : Nat)
theorem natV_length (L : List Nat) : (natV L).length = L.length := by simp [natV]
theorem natV_snoc (L : List Nat) (p : Nat) : natV L ++ [Value.int .i64 (p : Nat)] = natV (L ++ [p]) := by simp [natV]
theorem natV_get (L : List Nat) (i : Nat) (hi : i < L.length) : (natV L)[i]? = some (.int .i64 (L.getD i 0 : Nat)) := by
  simp [natV, List.getElem?_map, List.getElem?_eq_getElem hi, List.getD_eq_getElem?_getD]
theorem one_int (w : World) (x : Nat) : ∀ j u, ([Value.int .i64 (x : Nat)] : List Value)[j]? = some u → (w.alloc (.cells #[.int .i64 (x : Nat)] 3)).cell? ((⟨w.heap.size, 0, none⟩ : Addr).add j) = some u := by
  intro j u hu
  match j, hu with
  | 0, hu =>
    simp only [List.getElem?_cons_zero, Option.some.injEq] at hu
    subst hu
    have a0 : (⟨w.heap.size, 0, none⟩ : Addr).add 0 = ⟨w.heap.size, 0, none⟩ := by simp [Addr.add]
    rw [a0]
    exact World.cell?_alloc_mark w #[.int .i64 (x : Nat)] 3 (0, 0) 0
theorem one_int_plain (x : Nat) : ∀ u ∈ ([Value.int .i64 (x : Nat)] : List Value), u.oneCell' = true := by
  intro u hu; simp only [List.mem_cons, List.not_mem_nil, or_false] at hu; subst hu; rfl
theorem ownF_of_owns {w : World} {B g cap n : Nat} (h : w.ownsRow B 3 1 (.slice (some ⟨g, 0, none⟩) n cap) n (natV (List.range n))) : OwnF w g n (fun k => k) ∧ B ≤ g ∧ n ≤ cap := by
  obtain ⟨h1, ⟨h2, _⟩ | ⟨g', cap', cur, h2, hg, hh, hnc, hcm, hcs, ht⟩⟩ := h
  · cases h2
  · cases h2
    refine ⟨⟨cur.toList, ⟨cur, hh, rfl⟩, by simp only [Array.length_toList]; omega, fun i hi => ?_⟩, hg, hnc⟩
    have : cur.toList[i]? = (natV (List.range n))[i]? := by rw [← ht, List.getElem?_take, if_pos (by omega)]
    rw [this, natV_get _ _ (by simpa using hi)]
    simp [List.getD_eq_getElem?_getD, hi]
theorem ownsRow_mono {w : World} {B B' : Nat} {e : TypeId} {size : Nat} {v : Value} {n : Nat} {xs : List Value} (h : w.ownsRow B e size v n xs) (hB : B' ≤ B) : w.ownsRow B' e size v n xs := by
  obtain ⟨h1, h2 | ⟨g, cap, cur, h3, h4, h5⟩⟩ := h
  · exact ⟨h1, .inl h2⟩
  · exact ⟨h1, .inr ⟨g, cap, cur, h3, by omega, h5⟩⟩
theorem ownsRow_drewN {w : World} {B : Nat} {e : TypeId} {size : Nat} {v : Value} {n : Nat} {xs : List Value} (h : w.ownsRow B e size v n xs) (k : Nat) : (w.drewN k).ownsRow B e size v n xs := h
theorem below_drewN {B : Nat} {a w : World} (h : Below B a w) (k : Nat) : Below B a (w.drewN k) := ⟨h.os, h.tape, h.output, h.size, h.block⟩
theorem kept_yes (ks : List ByteArray) (n : Nat) (f : Nat → Nat) (k : Nat) (h : St.keep ks n f k = true) : St.kept ks n f (k + 1) = St.kept ks n f k ++ [f k] := by
  show (if St.keep ks n f k = true then _ else _) = _
  rw [if_pos h]
theorem kept_no (ks : List ByteArray) (n : Nat) (f : Nat → Nat) (k : Nat) (h : ¬ St.keep ks n f k = true) : St.kept ks n f (k + 1) = St.kept ks n f k := by
  show (if St.keep ks n f k = true then _ else _) = _
  rw [if_neg h]
theorem kept_len (ks : List ByteArray) (n : Nat) (f : Nat → Nat) : ∀ k, (St.kept ks n f k).length ≤ k
  | 0 => by simp [St.kept]
  | k + 1 => by
    have := kept_len ks n f k
    by_cases h : St.keep ks n f k = true
    · rw [kept_yes ks n f k h, List.length_append]; simp; omega
    · rw [kept_no ks n f k h]; omega

end Go.Proofs.YtakdlcgiieaieaaDoor
