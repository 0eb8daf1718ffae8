/-
  Rows of numbers and of lists of numbers in memory of the call's own: what a tree's nodes name, laid out.
-/
import Derived.Test.YtokcefcjkjhnbaaTreN
import Derived.Test.YtokcefcjkjhnbaaTreA
import Derived.Deep.LoopGhost
import Derived.Deep.QuietTactic
import Derived.BigQuiet
import Derived.Maps.AppendAt
namespace Go.Proofs.Ytokcefcjkjhnbaa
open Go.RowKit
set_option linter.unusedVariables false

namespace Tr
theorem owns_below {w w' : World} {base : Nat} {e : TypeId} {size : Nat} {v : Value} {n : Nat} {xs : List Value} (h : w.ownsRow base e size v n xs) (hb : Below w.heap.size w w') : w'.ownsRow base e size v n xs := by
  obtain ⟨h1, h2 | ⟨g, cap, cur, h3, h4, h5, h6⟩⟩ := h
  · exact ⟨h1, .inl h2⟩
  · exact ⟨h1, .inr ⟨g, cap, cur, h3, h4, (hb.block g (Array.getElem?_eq_some_iff.1 h5).1).trans h5, h6⟩⟩
theorem owns_base {w : World} {base : Nat} {e : TypeId} {size : Nat} {v : Value} {n : Nat} {xs : List Value} (h : w.ownsRow base e size v n xs) : ∀ k, v.ownBlock = some k → base ≤ k := by
  obtain ⟨_, ⟨rfl, _⟩ | ⟨g, cap, cur, rfl, hg, _⟩⟩ := h
  · intro k hk; simp [Value.ownBlock] at hk
  · intro k hk; simp only [Value.ownBlock, Option.some.injEq] at hk; omega
theorem owns_mono {w : World} {base base' : Nat} {e : TypeId} {size : Nat} {v : Value} {n : Nat} {xs : List Value} (h : w.ownsRow base e size v n xs) (hb : base' ≤ base) : w.ownsRow base' e size v n xs := by
  obtain ⟨h1, h2 | ⟨g, cap, cur, h3, h4, h5, h6⟩⟩ := h
  · exact ⟨h1, .inl h2⟩
  · exact ⟨h1, .inr ⟨g, cap, cur, h3, by omega, h5, h6⟩⟩
theorem grown_own {w w' : World} {row : Option Nat} (hg : w.grownBy w' row) {b : Nat} {t : TypeId} {ys : List Value} (ho : Own w b t ys) (hne : row ≠ some b) : Own w' b t ys := by
  obtain ⟨c, hc, e⟩ := ho
  exact ⟨c, (hg.block b (Array.getElem?_eq_some_iff.1 hc).1 (fun h => hne h.symm)).trans hc, e⟩
/-- A row of one type is no row of another. -/
theorem owns_ne {w : World} {base : Nat} {e t : TypeId} {size : Nat} {v : Value} {n b : Nat} {xs ys : List Value} (h : w.ownsRow base e size v n xs) (ho : Own w b t ys) (hne : e ≠ t) : v.ownBlock ≠ some b := by
  obtain ⟨_, ⟨rfl, _⟩ | ⟨g, cap, cur, rfl, hg, hh, _⟩⟩ := h
  · simp [Value.ownBlock]
  · obtain ⟨c, hc, _⟩ := ho
    simp only [Value.ownBlock, ne_eq, Option.some.injEq]
    rintro rfl
    rw [hh] at hc
    simp only [Option.some.injEq, Obj.cells.injEq] at hc
    exact hne hc.2.1
/-- The cell of an owned row of one-cell elements. -/
theorem owns_cell {w : World} {base g cap n m : Nat} {e : TypeId} {xs : List Value} (h : w.ownsRow base e 1 (.slice (some ⟨g, 0, none⟩) n cap) m xs) (j : Nat) (hj : j < m) : w.cell? ⟨g, j, none⟩ = xs[j]? := by
  obtain ⟨h1, ⟨h2, _⟩ | ⟨g', cap', cur, h3, h4, h5, h6, h7, h8, h9⟩⟩ := h
  · cases h2
  · simp only [Value.slice.injEq, Option.some.injEq, Addr.mk.injEq, and_true] at h3
    obtain ⟨rfl, rfl, rfl⟩ := h3
    rw [cell_of_row w g j cur e (0, 0) h5, ← h9, List.getElem?_take, if_pos (by omega)]
    simp
/-- A slice up to a place is a row of the call's own, too. -/
theorem owns_take {w : World} {base g cap n r : Nat} {e : TypeId} {xs : List Value} (h : w.ownsRow base e 1 (.slice (some ⟨g, 0, none⟩) n cap) n xs) (hr : r ≤ n) : w.ownsRow base e 1 (.slice (some ⟨g, 0, none⟩) r cap) r (xs.take r) := by
  obtain ⟨h1, ⟨h2, _⟩ | ⟨g', cap', cur, h3, h4, h5, h6, h7, h8, h9⟩⟩ := h
  · cases h2
  · simp only [Value.slice.injEq, Option.some.injEq, Addr.mk.injEq, and_true] at h3
    obtain ⟨rfl, _, rfl⟩ := h3
    refine ⟨by rw [List.length_take]; omega, .inr ⟨g, cap, cur, rfl, h4, h5, by omega, h7, h8, ?_⟩⟩
    rw [← h9, List.take_take]; congr 1; omega
theorem one_word (w : World) (x : Int) : ∀ j u, ([Value.int .i64 x] : List Value)[j]? = some u → (w.alloc (.cells #[.int .i64 x] 2)).cell? ((⟨w.heap.size, 0, none⟩ : Addr).add j) = some u := by
  intro j u hu
  match j, hu with
  | 0, hu =>
    simp only [List.getElem?_cons_zero, Option.some.injEq] at hu
    subst hu
    have a0 : (⟨w.heap.size, 0, none⟩ : Addr).add 0 = ⟨w.heap.size, 0, none⟩ := by simp [Addr.add]
    rw [a0]
    exact World.cell?_alloc_mark w #[.int .i64 x] 2 (0, 0) 0
theorem one_plain (x : Int) : ∀ u ∈ ([Value.int .i64 x] : List Value), u.oneCell' = true := by
  intro u hu; simp only [List.mem_cons, List.not_mem_nil, or_false] at hu; subst hu; rfl
theorem one_slice (w : World) (a : Option Addr) (n c : Nat) : ∀ j u, ([Value.slice a n c] : List Value)[j]? = some u → (w.alloc (.cells #[.slice a n c] 45)).cell? ((⟨w.heap.size, 0, none⟩ : Addr).add j) = some u := by
  intro j u hu
  match j, hu with
  | 0, hu =>
    simp only [List.getElem?_cons_zero, Option.some.injEq] at hu
    subst hu
    have a0 : (⟨w.heap.size, 0, none⟩ : Addr).add 0 = ⟨w.heap.size, 0, none⟩ := by simp [Addr.add]
    rw [a0]
    exact World.cell?_alloc_mark w #[.slice a n c] 45 (0, 0) 0
theorem one_slice_plain (a : Option Addr) (n c : Nat) : ∀ u ∈ ([Value.slice a n c] : List Value), u.oneCell' = true := by
  intro u hu; simp only [List.mem_cons, List.not_mem_nil, or_false] at hu; subst hu; rfl
theorem infoI : (Try.prog.info? 2).map (fun i => (i.zero, i.size, i.bytes)) = some (some (.int .i64 0), 1, 8) := by kernel_rfl
theorem infoS : (Try.prog.info? 45).map (fun i => (i.zero, i.size, i.bytes)) = some (some (.slice none 0 0), 1, 24) := by kernel_rfl

def npV (n : Nd) (g : Nat) : Value := .slice (some ⟨g, 0, none⟩) (kids n.op) 3
def npL (l : List Nd) (gs : List Nat) : List Value := (List.range gs.length).map fun j => npV (l.getD j Nd.zero) (gs.getD j 0)
theorem npL_length (l : List Nd) (gs : List Nat) : (npL l gs).length = gs.length := by simp [npL]
theorem npL_get (l : List Nd) (gs : List Nat) (j : Nat) (hj : j < gs.length) : (npL l gs)[j]? = some (npV (l.getD j Nd.zero) (gs.getD j 0)) := by
  unfold npL; rw [List.getElem?_map, List.getElem?_range hj]; rfl
theorem getD_snoc_lt {α : Type} (gs : List α) (g d : α) (j : Nat) (hj : j < gs.length) : (gs ++ [g]).getD j d = gs.getD j d := by
  rw [List.getD_eq_getElem?_getD, List.getElem?_append_left hj, List.getD_eq_getElem?_getD]
theorem getD_snoc_eq {α : Type} (gs : List α) (g d : α) : (gs ++ [g]).getD gs.length d = g := by
  rw [List.getD_eq_getElem?_getD, List.getElem?_append_right (Nat.le_refl _)]; simp
theorem npL_snoc (l : List Nd) (gs : List Nat) (g : Nat) : npL l (gs ++ [g]) = npL l gs ++ [npV (l.getD gs.length Nd.zero) g] := by
  unfold npL
  rw [List.length_append, List.length_cons, List.length_nil, Nat.zero_add, List.range_succ, List.map_append]
  congr 1
  · refine List.map_congr_left fun j hj => ?_
    rw [getD_snoc_lt gs g 0 j (List.mem_range.1 hj)]
  · simp only [List.map_cons, List.map_nil]
    rw [getD_snoc_eq]
/-- What each of the first nodes names lies in a row of its own, and these rows one behind the other. -/
def NP (w : World) (B : Nat) (v : Value) (l : List Nd) (gs : List Nat) : Prop :=
  w.ownsRow B 45 1 v gs.length (npL l gs) ∧ ∀ j, j < gs.length → B ≤ gs.getD j 0 ∧ Own w (gs.getD j 0) 2 [.int .i64 (l.getD j Nd.zero).a, .int .i64 (l.getD j Nd.zero).b, .int .i64 (l.getD j Nd.zero).c]
theorem NP.below {w w' : World} {B : Nat} {v : Value} {l : List Nd} {gs : List Nat} (h : NP w B v l gs) (hb : Below w.heap.size w w') : NP w' B v l gs :=
  ⟨owns_below h.1 hb, fun j hj => ⟨(h.2 j hj).1, (h.2 j hj).2.below hb (h.2 j hj).2.lt⟩⟩
theorem NP.nil (w : World) (B : Nat) (l : List Nd) : NP w B (.slice none 0 0) l [] := ⟨World.ownsRow_nil _ _ _ _, fun j hj => by simp at hj⟩
theorem NP.snoc {w w' : World} {B g : Nat} {v v' : Value} {l : List Nd} {gs : List Nat} (h : NP w B v l gs) (hB : B ≤ g) (ho : Own w g 2 [.int .i64 (l.getD gs.length Nd.zero).a, .int .i64 (l.getD gs.length Nd.zero).b, .int .i64 (l.getD gs.length Nd.zero).c])
    (hg : w.grownBy w' v.ownBlock) (hv : w'.ownsRow B 45 1 v' (gs.length + 1) (npL l gs ++ [npV (l.getD gs.length Nd.zero) g])) : NP w' B v' l (gs ++ [g]) := by
  refine ⟨?_, fun j hj => ?_⟩
  · rw [npL_snoc, List.length_append]; exact hv
  · rw [List.length_append] at hj
    simp only [List.length_cons, List.length_nil] at hj
    by_cases e : j < gs.length
    · rw [getD_snoc_lt gs g 0 j e]
      exact ⟨(h.2 j e).1, grown_own hg (h.2 j e).2 (owns_ne h.1 (h.2 j e).2 (by decide))⟩
    · obtain rfl : j = gs.length := by omega
      rw [getD_snoc_eq]
      exact ⟨hB, grown_own hg ho (owns_ne h.1 ho (by decide))⟩
/-- A list of numbers that is read. -/
def IV (w : World) (a : Option Addr) (n : Nat) (xs : List Int) : Prop := xs.length = n ∧ (n = 0 ∨ ∃ b o, a = some ⟨b, o, none⟩ ∧ ∀ j, j < n → w.cell? ⟨b, o + j, none⟩ = some (.int .i64 (xs.getD j 0)))
theorem list_same {xs ys : List Int} (hl : xs.length = ys.length) (h : ∀ j, j < xs.length → xs.getD j 0 = ys.getD j 0) : xs = ys := by
  refine List.ext_getElem hl fun j h1 h2 => ?_
  have := h j h1
  rw [List.getD_eq_getElem?_getD, List.getElem?_eq_getElem h1, List.getD_eq_getElem?_getD, List.getElem?_eq_getElem h2] at this
  exact this
theorem list_other {xs ys : List Int} {j : Nat} (h : xs.getD j 0 ≠ ys.getD j 0) : xs ≠ ys := fun e => h (by rw [e])
end Tr

theorem field_links (a b c : Int) (fv : Value) (w : World) : (Instr.field 138 (.agg #[.int .i64 a, .int .i64 b, .int .i64 c, fv]) 0).run Try.prog w = .ok (.int .i64 a) w := by kernel_rfl

set_option maxRecDepth 100000 in
set_option maxHeartbeats 1000000 in
theorem namedPlaces_any (b : Nat) (l : List Nd) (w : World) (hrow : Nd.Row w b 0 l) (hb : b < w.heap.size) (h200 : l.length ≤ 200) (hop : ∀ i, i < l.length → 1 ≤ (l.getD i Nd.zero).op ∧ (l.getD i Nd.zero).op ≤ 24) :
    Calls Try.prog 70 #[.slice (some ⟨b, 0, none⟩) l.length l.length] w fun e w' => ∃ v gs, e = .returned v ∧ gs.length = l.length ∧ Tr.NP w' w.heap.size v l gs ∧ Below w.heap.size w w' := by
  have HR := hide hrow
  have HOP := hide hop
  clear hrow hop
  obtain ⟨i0, hi, hz0, hz1, hz2⟩ := info_parts Tr.infoS
  go_enter Try.func70, Try.ntmps70
  go_wp2_with fail
  go_loopg [3, 9] l.length (fun gh s3 s9 wr => ∃ (k : Nat) (gs : List Nat), Hid (gh = l.length - k) ∧ s9 = .int .i64 k ∧ k ≤ l.length ∧ Hid (gs.length = k) ∧ Tr.NP wr w.heap.size s3 l gs ∧ Below w.heap.size w wr)
  case atStart => exact ⟨0, [], rfl, rfl, by omega, rfl, Tr.NP.nil _ _ _, Below.refl _ _⟩
  case round =>
    obtain ⟨k, gs, hg, rfl, hk, hgl, hnp, hbel⟩ := hrel
    by_cases hlt : k < l.length
    · have hltI : (k : Int) < (l.length : Int) := by omega
      have hopk := (unhide HOP) k hlt
      obtain ⟨f0, f1, f2, f3, f4, f5⟩ := ((unhide HR).below hbel hb) k hlt
      simp only [Nat.zero_add] at f0 f1 f2 f3 f4 f5
      obtain ⟨n, hn⟩ : ∃ n, n = l.getD k Nd.zero := ⟨_, rfl⟩
      rw [← hn] at f0 f1 f2 f3 f4 f5 hopk
      have HN := hide hn
      have HS := hide (fun wq => shapeOf_any n.op wq hopk.1 hopk.2)
      have hkl := Tr.kids_le n.op
      have hklI : (Tr.kids n.op : Int) ≤ 3 := by omega
      have hkl0 : (0 : Int) ≤ (Tr.kids n.op : Int) := by omega
      clear hn hlt hopk
      obtain ⟨w1, hw1⟩ : ∃ w1, w1 = (wr.alloc (.cells #[.int .i64 n.op, .int .i64 n.a, .int .i64 n.b, .int .i64 n.c, .int .i64 n.num, .string n.text] 71)).alloc (.cells #[.int .i64 n.a, .int .i64 n.b, .int .i64 n.c] 2) := ⟨_, rfl⟩
      have B1 : Below wr.heap.size wr w1 := by rw [hw1]; exact ((Below.refl _ _).alloc (Nat.le_refl _) _).alloc (by simp <;> omega) _
      have O1 : Own w1 (wr.heap.size + 1) 2 [.int .i64 n.a, .int .i64 n.b, .int .i64 n.c] := by
        rw [hw1]
        have e : (wr.alloc (.cells #[.int .i64 n.op, .int .i64 n.a, .int .i64 n.b, .int .i64 n.c, .int .i64 n.num, .string n.text] 71)).heap.size = wr.heap.size + 1 := by simp
        rw [← e]
        exact ⟨_, heap_alloc_new _ _, rfl⟩
      have HNP := hide hnp
      clear hnp
      go_wp2_with fail
      refine ((unhide HS) _).mono ?_
      rintro e w2 ⟨rfl, hb2⟩
      rw [← hw1] at hb2
      clear hw1 HS f0 f1 f2 f3 f4 f5
      have B2 : Below wr.heap.size wr w2 := B1.trans (hb2.mono B1.size)
      have O2 := O1.below hb2 O1.lt
      have hnp2 := (unhide HNP).below B2
      have hown' := hide (fun o => hnp2.1.alloc o)
      have hone := hide (Tr.one_slice w2 (some ⟨wr.heap.size + 1, 0, none⟩) (Tr.kids n.op) 3)
      have honep := hide (Tr.one_slice_plain (some ⟨wr.heap.size + 1, 0, none⟩) (Tr.kids n.op) 3)
      have hgl' := hgl.out
      have hb63 : gs.length + 1 ≤ maxLen := by unfold maxLen; omega
      have hby : (gs.length + 1) * 24 ≤ 140737488355328 := by omega
      have hbase : w.heap.size ≤ w2.heap.size + 1 := by have := hbel.size; have := B2.size; omega
      have hbse := hide (Tr.owns_base hnp2.1)
      have HN2 := hide hnp2
      have HO2 := hide O2
      clear hnp2 O2 hgl'
      unfold shapeV
      have hfl := field_links (Tr.kids n.op) (Tr.low n.op) (Tr.high n.op) (fitsV n.op)
      go_wp2_with (at_builtin; refine wpList_append_own_at _ rfl (.tmp 20) (.tmp 27) 108 rfl w.heap.size 45 i0 (.slice none 0 0) 1 24 Try.underlying108 hi hz0 hz1 hz2 rfl (by decide) _ gs.length _ rfl ((unhide hown') _) ⟨w2.heap.size, 0, none⟩ 1 1 [.slice (some ⟨wr.heap.size + 1, 0, none⟩) (Tr.kids n.op) 3] rfl rfl (unhide hone) (unhide honep) hb63 hby (by simpa using hbase) ?_)
      intro v' w3 ho3 hg3 _ _
      have B3 : Below w.heap.size w w3 := ((hbel.trans (B2.mono hbel.size)).alloc (by have := hbel.size; have := B2.size; omega) _).grown hg3 (by simpa using hbase) (unhide hbse)
      have hnp3 : Tr.NP w3 w.heap.size v' l (gs ++ [wr.heap.size + 1]) := by
        have e := hgl.out
        refine Tr.NP.snoc ((unhide HN2).below ((Below.refl _ _).alloc (Nat.le_refl _) _)) (by have := hbel.size; omega) ?_ hg3 ?_
        · rw [e, ← unhide HN]; exact (unhide HO2).below ((Below.refl _ _).alloc (Nat.le_refl _) _) (unhide HO2).lt
        · have e2 : l.getD gs.length Nd.zero = n := by rw [e]; exact (unhide HN).symm
          rw [e2]; exact ho3
      clear ho3 hg3
      have HN3 := hide hnp3
      clear hnp3
      go_wp2_with fail
      go_roundg (l.length - (k + 1))
      case rel => exact ⟨k + 1, _, rfl, by go_num, by omega, by (show _ = _; rw [List.length_append, hgl.out]; rfl), unhide HN3, B3⟩
      case measure => have := hg.out; omega
    · have hke : k = l.length := by omega
      have fin := hide (show gs.length = l.length by rw [hgl.out, hke])
      obtain ⟨aa, nn, cc, hsh⟩ : ∃ a n c, u3 = .slice a n c := by
        obtain ⟨⟨_, ⟨h, _⟩ | ⟨g, cap, cur, h, _⟩⟩, _⟩ := hnp
        · exact ⟨_, _, _, h⟩
        · exact ⟨_, _, _, h⟩
      subst hsh
      have HNP := hide hnp
      clear hnp hke
      go_wp2_with fail
      go_ret
      exact ⟨_, gs, rfl, unhide fin, unhide HNP, hbel⟩

set_option maxRecDepth 100000 in
set_option maxHeartbeats 1000000 in
theorem equalInts_any (a a' : Option Addr) (n c c' : Nat) (xs ys : List Int) (w : World) (hx : Tr.IV w a n xs) (hy : Tr.IV w a' n ys) (hn : n ≤ 1000) (hc : n ≤ c) (hc' : n ≤ c') :
    Calls Try.prog 102 #[.slice a n c, .slice a' n c'] w fun e w' => e = .returned (.bool (decide (xs = ys))) ∧ Below w.heap.size w w' := by
  obtain ⟨lx, hx⟩ := hx
  obtain ⟨ly, hy⟩ := hy
  have hsame := hide (fun h => Tr.list_same (xs := xs) (ys := ys) (by omega) h)
  have hoth := hide (fun j h => Tr.list_other (xs := xs) (ys := ys) (j := j) h)
  have LX := hide lx
  clear lx ly
  by_cases h0 : n = 0
  · subst h0
    have fin := hide ((unhide hsame) (fun j hj => absurd hj (by have := unhide LX; omega)))
    go_enter Try.func102, Try.ntmps102
    go_wp2_with fail
    refine wp_loop_rounds 1 ?_
    rw [rounds_succ]
    go_wp2_with fail
    go_ret
    exact ⟨ret_bool (decide_eq_true (unhide fin)).symm, Below.refl _ _⟩
  · obtain ⟨b, o, rfl, hcx⟩ : ∃ b o, a = some ⟨b, o, none⟩ ∧ ∀ j, j < n → w.cell? ⟨b, o + j, none⟩ = some (.int .i64 (xs.getD j 0)) := by rcases hx with h | h; exact absurd h h0; exact h
    obtain ⟨b', o', rfl, hcy⟩ : ∃ b o, a' = some ⟨b, o, none⟩ ∧ ∀ j, j < n → w.cell? ⟨b, o + j, none⟩ = some (.int .i64 (ys.getD j 0)) := by rcases hy with h | h; exact absurd h h0; exact h
    have hblt : b < w.heap.size := block_lt_of_cell ((hcx 0 (by omega)).trans rfl)
    have hblt' : b' < w.heap.size := block_lt_of_cell ((hcy 0 (by omega)).trans rfl)
    have HX := hide hcx
    have HY := hide hcy
    clear hcx hcy hx hy h0
    go_enter Try.func102, Try.ntmps102
    go_wp2_with fail
    go_loopg [13] n (fun gh s13 wr => ∃ k : Nat, Hid (gh = n - k) ∧ s13 = .int .i64 k ∧ k ≤ n ∧ Hid (∀ j, j < k → xs.getD j 0 = ys.getD j 0) ∧ Below w.heap.size w wr)
    case atStart => exact ⟨0, rfl, rfl, by omega, fun j hj => absurd hj (by omega), Below.refl _ _⟩
    case round =>
      obtain ⟨k, hg, rfl, hk, hall, hbel⟩ := hrel
      by_cases hlt : k < n
      · have f1 := (hbel.cell (by exact hblt)).trans ((unhide HX) k hlt)
        have f2 := (hbel.cell (by exact hblt')).trans ((unhide HY) k hlt)
        have hno := hide ((unhide hoth) k)
        have hnext : Hid (xs.getD k 0 = ys.getD k 0 → ∀ j, j < k + 1 → xs.getD j 0 = ys.getD j 0) := fun h j hj => by
          by_cases e : j = k
          · subst e; exact h
          · exact hall.out j (by omega)
        generalize xs.getD k 0 = x at f1 hno hnext
        generalize ys.getD k 0 = y at f2 hno hnext
        have hltI : (k : Int) < (n : Int) := by omega
        clear hlt
        by_cases hxy : x = y
        · have hn2 := hide (hnext.out hxy)
          have g1 : (x != y) = false := by simp [hxy]
          clear hxy hnext hno
          go_wp2_with fail
          go_quiet (fail)
          go_wp2_with fail
          go_roundg (n - (k + 1))
          case rel => exact ⟨k + 1, rfl, by go_num, by omega, unhide hn2, below_drewN hbel _⟩
          case measure => have := hg.out; omega
        · have fin := hide ((unhide hno) hxy)
          have g1 : (x != y) = true := by simpa using hxy
          clear hxy hnext hno
          go_wp2_with fail
          go_quiet (fail)
          go_wp2_with fail
          go_ret
          exact ⟨ret_bool (decide_eq_false (unhide fin)).symm, below_drewN hbel _⟩
      · have hke : k = n := by omega
        have fin := hide ((unhide hsame) (fun j hj => hall.out j (by have := unhide LX; omega)))
        clear hke
        go_wp2_with fail
        go_ret
        exact ⟨ret_bool (decide_eq_true (unhide fin)).symm, hbel⟩

end Go.Proofs.Ytokcefcjkjhnbaa
