/-
  spec.l14Merge: what the places of a name tell; the ledger of its loop.
-/
import Derived.Test.YtlmibdddfjbbdaaM42
import Derived.Test.YtlmibdddfjbbdaaM44
import Derived.Test.YtlmibdddfjbbdaaM45
import Derived.Test.YtlmibdddfjbbdaaM46
namespace Go.Proofs.Ytlmibdddfjbbdaa
open Go.RowKit
set_option linter.unusedVariables false
set_option linter.unusedSimpArgs false
namespace Mg
theorem keys_at (v : List M.Cl) {j : Nat} (hj : j < M.arity v 0) : (keysAt v 0).getD j ByteArray.empty = keyAt v j := by
  simp [keysAt, M.places, keyAt, List.getD_eq_getElem?_getD, hj]
theorem subs_at (v : List M.Cl) {j : Nat} (hj : j < M.arity v 0) : (subs v 0).getD j [] = part v (M.iter v j 1) := by
  simp [subs, M.places, List.getD_eq_getElem?_getD, hj]
/-- A name's place and its member agree. -/
theorem place_mem (v : List M.Cl) (key : ByteArray) : (placeI (keysAt v 0) key = -1 ∧ memV v key = []) ∨ ∃ k : Nat, k < M.arity v 0 ∧ placeI (keysAt v 0) key = (k : Int) ∧ memV v key = (subs v 0).getD k [] := by
  have hlen : (keysAt v 0).length = M.arity v 0 := keysAt_length v 0
  cases hf : (List.range (M.arity v 0)).find? (fun j => (keyAt v j).toList == key.toList) with
  | none =>
    have h := List.find?_range_eq_none.1 hf
    refine .inl ⟨place_none (fun j hj => ?_), memV_none (fun j hj => by simpa using h j hj)⟩
    rw [keys_at v (by omega)]
    simpa using h j (by omega)
  | some k =>
    obtain ⟨h1, h2, h3⟩ := List.find?_range_eq_some.1 hf
    have hk := List.mem_range.1 h2
    refine .inr ⟨k, hk, place_hit (by omega) (fun j hj => ?_) ?_, ?_⟩
    · rw [keys_at v (by omega)]; simpa using h3 j hj
    · rw [keys_at v hk]; exact h1
    · rw [subs_at v hk]; exact memV_hit hk (fun j hj => by simpa using h3 j hj) h1
theorem mem_ne {v : List M.Cl} (hv : M.valueFault v = 0) {y : ByteArray} (h : y ∈ keysAt v 0) : memV v y ≠ [] := by
  have hlen : (keysAt v 0).length = M.arity v 0 := keysAt_length v 0
  obtain ⟨j, hj, e⟩ := List.getElem_of_mem h
  have hj' : j < M.arity v 0 := by omega
  have ek : keyAt v j = y := by rw [← keys_at v hj', List.getD_eq_getElem?_getD, List.getElem?_eq_getElem hj]; exact e
  rcases place_mem v y with ⟨h1, h2⟩ | ⟨k, hk, _, h2⟩
  · exfalso
    have : ((List.range (keysAt v 0).length).find? (fun j => ((keysAt v 0).getD j ByteArray.empty).toList == y.toList)) ≠ none := by
      intro hn
      have := List.find?_range_eq_none.1 hn j hj
      rw [keys_at v hj', ek] at this
      simp at this
    unfold placeI at h1
    split at h1
    · omega
    · rename_i hn; exact this hn
  · rw [h2, subs_at v hk]
    have := (part_lt hv hk).2.2.2
    intro e; rw [e] at this; simp at this
/-- A name of either is a member of one of them. -/
theorem names_one {a b : List M.Cl} (ha : M.valueFault a = 0) (hb : M.valueFault b = 0) {y : ByteArray} (h : y ∈ names a b) (he : memV b y = []) : memV a y ≠ [] := by
  rcases names_mem h with h | h
  · exact mem_ne ha h
  · exact absurd he (mem_ne hb h)
theorem getD_in {l : List ByteArray} {k : Nat} (h : k < l.length) : l.getD k ByteArray.empty ∈ l := by
  rw [List.getD_eq_getElem?_getD, List.getElem?_eq_getElem h]; exact List.getElem_mem h
/-- Where the loop's rows lie: the answer's names in the first block or past B2, the lists of names between them. -/
structure Led (w W : World) (B2 : Nat) (s5 s6 s7 s8 s9 : Value) (K : List ByteArray) (Q : List (List M.Cl)) (ka kb ks : List ByteArray) : Prop where
  bel : Below w.heap.size w W
  lo : w.heap.size < B2
  hi : B2 ≤ W.heap.size
  keys : KS W w.heap.size s5 K
  list : SS W w.heap.size s6 Q
  mine : KS W w.heap.size s7 ka
  yours : KS W w.heap.size s8 kb
  all : KS W w.heap.size s9 ks
  far : ∀ g, s5.ownBlock = some g → g = w.heap.size ∨ B2 ≤ g
  n7 : ∀ g, s7.ownBlock = some g → w.heap.size < g ∧ g < B2
  n8 : ∀ g, s8.ownBlock = some g → w.heap.size < g ∧ g < B2
  n9 : ∀ g, s9.ownBlock = some g → w.heap.size < g ∧ g < B2
theorem Led.below {w W W' : World} {B2 : Nat} {s5 s6 s7 s8 s9 : Value} {K : List ByteArray} {Q : List (List M.Cl)} {ka kb ks : List ByteArray} (h : Led w W B2 s5 s6 s7 s8 s9 K Q ka kb ks) (hb : Below W.heap.size W W') : Led w W' B2 s5 s6 s7 s8 s9 K Q ka kb ks :=
  ⟨h.bel.trans (hb.mono h.bel.size), h.lo, Nat.le_trans h.hi hb.size, ownsRow_below (B := 0) h.keys hb, h.list.below hb, ownsRow_below (B := 0) h.mine hb, ownsRow_below (B := 0) h.yours hb, ownsRow_below (B := 0) h.all hb, h.far, h.n7, h.n8, h.n9⟩
theorem apart {s5 s : Value} {lo B2 : Nat} (hf : ∀ g, s5.ownBlock = some g → g = lo ∨ B2 ≤ g) (hn : ∀ g, s.ownBlock = some g → lo < g ∧ g < B2) : s.ownBlock = none ∨ s.ownBlock ≠ s5.ownBlock := by
  cases h : s.ownBlock with
  | none => exact .inl rfl
  | some g =>
    refine .inr fun e => ?_
    have h1 := hn g h
    have h2 := hf g e.symm
    omega
/-- A name laid behind the names. -/
theorem Led.pushK {w W w' : World} {B2 : Nat} {s5 s6 s7 s8 s9 v' : Value} {K : List ByteArray} {Q : List (List M.Cl)} {ka kb ks : List ByteArray} {y : ByteArray} {o : Obj} (h : Led w W B2 s5 s6 s7 s8 s9 K Q ka kb ks)
    (ho : w'.ownsRow w.heap.size 9 1 v' (K.length + 1) (K.map Value.string ++ [Value.string y])) (hg : (W.alloc o).grownBy w' s5.ownBlock) (hw : v'.ownBlock = s5.ownBlock ∨ v'.ownBlock = some (W.heap.size + 1)) : Led w w' B2 v' s6 s7 s8 s9 (K ++ [y]) Q ka kb ks := by
  have hB : Below W.heap.size W (W.alloc o) := (Below.refl _ _).alloc (Nat.le_refl _) _
  have h1 := h.below hB
  refine ⟨(h1.bel).grown hg h1.bel.size (fun q hq => ownsRow_base h1.keys q hq), h.lo, Nat.le_trans h1.hi hg.size, by unfold KS; simpa using ho, h1.list.keptT h1.keys (by decide) (by decide) hg, h1.mine.keptB h1.keys (apart h.far h.n7) hg, h1.yours.keptB h1.keys (apart h.far h.n8) hg, h1.all.keptB h1.keys (apart h.far h.n9) hg, fun g hg2 => ?_, h.n7, h.n8, h.n9⟩
  rcases hw with e | e
  · exact h.far g (by rw [← e]; exact hg2)
  · rw [e] at hg2
    injection hg2 with e2
    have := h.hi
    omega
theorem Led.keepK {w W w' : World} {B2 : Nat} {s5 s6 s7 s8 s9 : Value} {K : List ByteArray} {Q : List (List M.Cl)} {ka kb ks : List ByteArray} {o : Obj} (h : Led w W B2 s5 s6 s7 s8 s9 K Q ka kb ks) (hg : (W.alloc o).grownBy w' s5.ownBlock) {C : Nat} {s : Value} {l : List M.Cl} (hr : Res W C s l) : Res w' C s l := by
  have hB : Below W.heap.size W (W.alloc o) := (Below.refl _ _).alloc (Nat.le_refl _) _
  exact grown_res (h.below hB).keys hg (hr.below hB) (by decide)
/-- A member laid behind the members. -/
theorem Led.pushL {w W w' : World} {B2 : Nat} {s5 s6 s7 s8 s9 v' s : Value} {K : List ByteArray} {Q : List (List M.Cl)} {ka kb ks : List ByteArray} {l : List M.Cl} {ss : List Value} {o : Obj} (h : Led w W B2 s5 s6 s7 s8 s9 K Q ka kb ks) (hl : ss.length = Q.length) (hown : W.ownsRow w.heap.size 24 1 s6 Q.length ss) (hres : ∀ i, i < Q.length → Res W w.heap.size (ss.getD i (.slice none 0 0)) (Q.getD i [])) (hr : Res W w.heap.size s l)
    (ho : w'.ownsRow w.heap.size 24 1 v' (Q.length + 1) (ss ++ [s])) (hg : (W.alloc o).grownBy w' s6.ownBlock) : Led w w' B2 s5 v' s7 s8 s9 K (Q ++ [l]) ka kb ks := by
  have hB : Below W.heap.size W (W.alloc o) := (Below.refl _ _).alloc (Nat.le_refl _) _
  have h1 := h.below hB
  have hown1 := hown.alloc o
  refine ⟨(h1.bel).grown hg h1.bel.size (fun q hq => ownsRow_base hown1 q hq), h.lo, Nat.le_trans h1.hi hg.size, row_grown hown1 h1.keys (by decide) hg, SS.snoc rfl hl hown hres hr hg ho, row_grown hown1 h1.mine (by decide) hg, row_grown hown1 h1.yours (by decide) hg, row_grown hown1 h1.all (by decide) hg, h.far, h.n7, h.n8, h.n9⟩
theorem ks_near {W : World} {B : Nat} {s : Value} {ks : List ByteArray} (h : KS W B s ks) : ∀ g, s.ownBlock = some g → B ≤ g ∧ g < W.heap.size := by
  intro g hg
  refine ⟨ownsRow_base h g hg, ?_⟩
  obtain ⟨_, ⟨h1, _⟩ | ⟨g2, c, cur, h1, _, h3, _⟩⟩ := h
  · rw [h1] at hg; cases hg
  · rw [h1] at hg
    simp only [Value.ownBlock, Option.some.injEq] at hg
    subst hg
    exact (Array.getElem?_eq_some_iff.1 h3).1
theorem ks_of {W : World} {B n c : Nat} {a : Option Addr} {ks : List ByteArray} (h : KS W B (.slice a n c) ks) : n = ks.length ∧ n ≤ c ∧ TV W a ks := by
  obtain ⟨a', c', e, h1, h2⟩ := h.tv
  simp only [Value.slice.injEq] at e
  obtain ⟨rfl, rfl, rfl⟩ := e
  exact ⟨rfl, h1, h2⟩
theorem ks_cell {W : World} {B n c g : Nat} {ks : List ByteArray} (h : KS W B (.slice (some ⟨g, 0, none⟩) n c) ks) {k : Nat} (hk : k < ks.length) : W.cell? ⟨g, k, none⟩ = some (.string (ks.getD k ByteArray.empty)) := by
  obtain ⟨g', e, _, h2⟩ := (ks_of h).2.2 k hk
  simp only [Option.some.injEq, Addr.mk.injEq] at e
  obtain ⟨rfl, _⟩ := e
  exact h2
theorem res_row {W : World} {B b n c : Nat} {l : List M.Cl} (h : Res W B (.slice (some ⟨b, 0, none⟩) n c) l) (hl : l ≠ []) : n = l.length ∧ n ≤ c ∧ b < W.heap.size ∧ Row W b 0 l := by
  obtain ⟨b', c', e, h1, h2, h3⟩ := (show NR W B (.slice (some ⟨b, 0, none⟩) n c) l from .inr ⟨hl, h⟩).mem hl
  simp only [Value.slice.injEq, Option.some.injEq, Addr.mk.injEq] at e
  obtain ⟨⟨rfl, _⟩, rfl, rfl⟩ := e
  exact ⟨rfl, h1, h2, h3⟩
/-- A name's place and its member, of a value without fault. -/
theorem place_val {v : List M.Cl} (hv : M.valueFault v = 0) (key : ByteArray) : (placeI (keysAt v 0) key = -1 ∧ memV v key = []) ∨ ∃ k : Nat, k < (subs v 0).length ∧ placeI (keysAt v 0) key = (k : Int) ∧ (subs v 0).getD k [] = memV v key ∧ memV v key ≠ [] ∧ M.valueFault (memV v key) = 0 ∧ (memV v key).length + 1 ≤ v.length := by
  rcases place_mem v key with h | ⟨k, hk, h1, h2⟩
  · exact .inl h
  · have h3 : memV v key ≠ [] := by
      rw [h2, subs_at v hk]
      have := (part_lt hv hk).2.2.2
      intro e; rw [e] at this; simp at this
    rcases memV_val hv key with h4 | ⟨h4, _, h5⟩
    · exact absurd h4 h3
    · exact .inr ⟨k, by rw [subs_length]; exact hk, h1, h2.symm, h3, h4, h5⟩
end Mg
end Go.Proofs.Ytlmibdddfjbbdaa
