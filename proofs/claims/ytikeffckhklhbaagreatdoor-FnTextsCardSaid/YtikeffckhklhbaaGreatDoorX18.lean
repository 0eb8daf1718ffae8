/-
  A text between quotes: spec.l2Quote makes it as a string, impl.appendQuoted lays it behind a row of bytes of the call's own.
-/
import Derived.Test.YtikeffckhklhbaaGreatDoorX00
import Derived.Test.YtikeffckhklhbaaGreatDoorX01
import Derived.Deep.LoopGhost
import Derived.Laws.IdiomStrings
import Derived.Lib.BufferKept
import Derived.Lib.OthersKept
namespace Go.Proofs.YtikeffckhklhbaaGreatDoor
open Go.RowKit
set_option linter.unusedVariables false

namespace J
def bytes (l : List UInt8) : ByteArray := ⟨l.toArray⟩
theorem bytes_size (l : List UInt8) : (bytes l).size = l.length := by simp [bytes, ByteArray.size]
theorem ba_eq {a b : ByteArray} (h : a.data = b.data) : a = b := by cases a; cases b; simp only at h; rw [h]
theorem bytes_append (a b : List UInt8) : bytes a ++ bytes b = bytes (a ++ b) := by
  refine ba_eq ?_
  rw [ByteArray.data_append]
  simp [bytes]
def esc (b : UInt8) : List UInt8 := if b.toNat = 34 ∨ b.toNat = 92 then [92, b] else [b]
def quoteK (s : ByteArray) (k : Nat) : List UInt8 := 34 :: (s.data.toList.take k).flatMap esc
def quote (s : ByteArray) : List UInt8 := quoteK s s.size ++ [34]
theorem quoteK_zero (s : ByteArray) : quoteK s 0 = [34] := by simp [quoteK]
theorem quoteK_yes (s : ByteArray) (k : Nat) (h : k < s.size) (hb : s[k].toNat = 34 ∨ s[k].toNat = 92) : quoteK s (k + 1) = quoteK s k ++ [92] ++ [s[k]] := by
  unfold quoteK
  rw [take_snoc s k h, List.flatMap_append]
  simp [esc, hb]
theorem quoteK_no (s : ByteArray) (k : Nat) (h : k < s.size) (hb : ¬ (s[k].toNat = 34 ∨ s[k].toNat = 92)) : quoteK s (k + 1) = quoteK s k ++ [s[k]] := by
  unfold quoteK
  rw [take_snoc s k h, List.flatMap_append]
  simp only [not_or] at hb
  simp [esc, hb]
theorem quoteK_length (s : ByteArray) (k : Nat) (h : k ≤ s.size) : (quoteK s k).length ≤ 2 * k + 1 := by
  induction k with
  | zero => simp [quoteK]
  | succ k ih =>
    have := ih (by omega)
    by_cases hb : s[k].toNat = 34 ∨ s[k].toNat = 92
    · rw [quoteK_yes s k (by omega) hb]; simp; omega
    · rw [quoteK_no s k (by omega) hb]; simp; omega
theorem quote_length (s : ByteArray) : (quote s).length ≤ 2 * s.size + 2 := by
  have := quoteK_length s s.size (Nat.le_refl _)
  unfold quote
  simp; omega
/-- The words of bytes in memory. -/
def bv (l : List UInt8) : List Value := l.map fun b => Value.int .u8 (b.toNat : Int)
theorem bv_snoc (l : List UInt8) (b : UInt8) : bv l ++ [Value.int .u8 (b.toNat : Int)] = bv (l ++ [b]) := by simp [bv]
theorem one_plain (x : Int) : ∀ u ∈ ([Value.int .u8 x] : List Value), u.oneCell' = true := by
  intro u hu; simp only [List.mem_cons, List.not_mem_nil, or_false] at hu; subst hu; rfl
theorem one_word (w : World) (x : Int) : ∀ j u, ([Value.int .u8 x] : List Value)[j]? = some u → (w.alloc (.cells #[.int .u8 x] 5)).cell? ((⟨w.heap.size, 0, none⟩ : Addr).add j) = some u := by
  intro j u hu
  match j, hu with
  | 0, hu =>
    simp only [List.getElem?_cons_zero, Option.some.injEq] at hu
    subst hu
    have a0 : (⟨w.heap.size, 0, none⟩ : Addr).add 0 = ⟨w.heap.size, 0, none⟩ := by simp [Addr.add]
    rw [a0]
    exact World.cell?_alloc_mark w #[.int .u8 x] 5 (0, 0) 0
theorem owns_base {w : World} {base : Nat} {e : TypeId} {size : Nat} {v : Value} {n : Nat} {xs : List Value} (h : w.ownsRow base e size v n xs) : ∀ k, v.ownBlock = some k → base ≤ k := by
  obtain ⟨_, ⟨rfl, _⟩ | ⟨g, cap, cur, rfl, hg, _⟩⟩ := h
  · intro k hk; simp [Value.ownBlock] at hk
  · intro k hk; simp only [Value.ownBlock, Option.some.injEq] at hk; omega
/-- A row of bytes, made a string. -/
theorem owns_cells {w : World} {base g cap n : Nat} {l : List UInt8} (h : w.ownsRow base 5 1 (.slice (some ⟨g, 0, none⟩) n cap) l.length (bv l)) : ∀ j (hj : j < l.length), w.cell? ((⟨g, 0, none⟩ : Addr).add j) = some (.int .u8 (l[j].toNat : Int)) := by
  intro j hj
  obtain ⟨_, ⟨h2, _⟩ | ⟨g', cap', cur, h2, hg, hh, hnc, hcm, hcs, ht⟩⟩ := h
  · cases h2
  · cases h2
    have a0 : (⟨g, 0, none⟩ : Addr).add j = ⟨g, j, none⟩ := by unfold Addr.add; split <;> simp_all
    rw [a0, cell_of_row w g j cur 5 (0, 0) hh]
    have h3 : cur.toList[j]? = (bv l)[j]? := by rw [← ht, List.getElem?_take, if_pos (by omega)]
    have h4 : cur[j]? = cur.toList[j]? := by simp
    rw [h4, h3]
    simp [bv, List.getElem?_map, List.getElem?_eq_getElem hj]
theorem owns_row {w : World} {base : Nat} {e : TypeId} {size : Nat} {v : Value} {n : Nat} {xs : List Value} (h : w.ownsRow base e size v n xs) : ∀ k, v.ownBlock = some k → ∃ c fz, w.heap[k]? = some (.cells c e fz) := by
  obtain ⟨_, ⟨rfl, _⟩ | ⟨g, cap, cur, rfl, hg, hh, _⟩⟩ := h
  · intro k hk; simp [Value.ownBlock] at hk
  · intro k hk; simp only [Value.ownBlock, Option.some.injEq] at hk; subst hk; exact ⟨_, _, hh⟩
end J
/-- Below base nothing has turned, and of the old blocks none but rows of bytes. -/
def Bk (base : Nat) (w w' : World) : Prop := Below base w w' ∧ Lib.OthersKept 5 none w w'
theorem Bk.refl (base : Nat) (w : World) : Bk base w w := ⟨Below.refl _ _, Lib.OthersKept.refl _ _ _⟩
theorem Bk.size {base : Nat} {w w' : World} (h : Bk base w w') : w.heap.size ≤ w'.heap.size := h.1.size
theorem Bk.alloc {base : Nat} {w w' : World} (h : Bk base w w') (hb : base ≤ w'.heap.size) (o : Obj) : Bk base w (w'.alloc o) := ⟨h.1.alloc hb o, h.2.alloc o⟩
theorem Bk.grown {base : Nat} {a w w' : World} {row : Option Nat} (h : Bk base a w) (hg : w.grownBy w' row) (hB : base ≤ w.heap.size) (hr : ∀ k, row = some k → base ≤ k) (hrow : ∀ k, row = some k → ∃ c fz, w.heap[k]? = some (.cells c 5 fz)) : Bk base a w' := ⟨h.1.grown hg hB hr, h.2.grown hg hrow⟩
theorem Bk.trans {base : Nat} {a b c : World} (h : Bk base a b) (k : Bk base b c) : Bk base a c := ⟨h.1.trans k.1, h.2.trans k.2⟩
theorem Bk.below {base : Nat} {a w w' : World} (h : Bk base a w) (hb : Below w.heap.size w w') (hB : base ≤ w.heap.size) : Bk base a w' := ⟨h.1.trans (hb.mono hB), h.2.below hb⟩
theorem Bk.own {base : Nat} {w w' : World} (h : Bk base w w') {b : Nat} {t : TypeId} {xs : List Value} (ho : Own w b t xs) (ht : t ≠ 5) : Own w' b t xs := by
  obtain ⟨c, hc, e⟩ := ho
  exact ⟨c, h.2 b _ hc (by simp) (fun c' fz hx => by simp only [Obj.cells.injEq] at hx; exact ht hx.2.1), e⟩
theorem Tryz.info5 : (Tryz.prog.info? 5).map (fun i => (i.zero, i.size, i.bytes)) = some (some (.int .u8 0), 1, 1) := by kernel_rfl

set_option maxRecDepth 100000 in
set_option maxHeartbeats 2000000 in
theorem appendQuoted_any (base : Nat) (v : Value) (l : List UInt8) (s : ByteArray) (w : World) (hown0 : w.ownsRow base 5 1 v l.length (J.bv l)) (hs : s.size ≤ 60) (hl : l.length ≤ 200000000000) (hbase0 : base ≤ w.heap.size) :
    Calls Tryz.prog 32 #[v, .string s] w fun e w' => ∃ v', e = .returned v' ∧ w'.ownsRow base 5 1 v' (l ++ J.quote s).length (J.bv (l ++ J.quote s)) ∧ Bk base w w' := by
  obtain ⟨i0, hi, hz0, hz1, hz2⟩ := info_parts Tryz.info5
  have hb0 : Bk base w w := Bk.refl _ _
  obtain ⟨a0, n0, c0, rfl⟩ : ∃ a n c, v = .slice a n c := by
    obtain ⟨_, ⟨rfl, _⟩ | ⟨g, cap, cur, rfl, _⟩⟩ := hown0
    · exact ⟨_, _, _, rfl⟩
    · exact ⟨_, _, _, rfl⟩
  go_enter Tryz.func32, Tryz.ntmps32

  have hown1 := hide (fun o => (hown0).alloc o)
  have hone := hide (J.one_word w 34)
  have honep := hide (J.one_plain 34)
  have hb63 : (l).length + 1 ≤ maxLen := by unfold maxLen; omega
  have hby : ((l).length + 1) * 1 ≤ 140737488355328 := by omega
  have hbase : base ≤ w.heap.size + 1 := by have := (hb0).size; omega
  have hbse := hide (J.owns_base hown0)
  have hbsr := hide (fun o => J.owns_row ((hown0).alloc o))
  clear hown0
  go_wp2_with (at_builtin; refine wpList_append_own _ rfl (.tmp 6) (.tmp 7) 22 rfl base 5 i0 (.int .u8 0) 1 1 Tryz.underlying22 hi hz0 hz1 hz2 rfl (by decide) _ (l).length _ rfl ((unhide hown1) _) ⟨w.heap.size, 0, none⟩ 1 1 [.int .u8 34] rfl rfl (unhide hone) (unhide honep) hb63 hby (by simpa using hbase) ?_)
  intro vw0 w0 w0h hgw0 _
  have w0b : Bk base w w0 := ((hb0).alloc (by have := (hb0).size; omega) _).grown hgw0 (by simpa using hbase) (unhide hbse) ((unhide hbsr) _)
  obtain ⟨Lw0, ew0⟩ : ∃ L', L' = l ++ [34] := ⟨_, rfl⟩
  have w0o := hide (show w0.ownsRow base 5 1 vw0 Lw0.length (J.bv Lw0) by rw [ew0, List.length_append, ← J.bv_snoc]; exact w0h)
  have lw0 : Lw0.length ≤ (l).length + 1 := by rw [ew0, List.length_append]; exact Nat.le_refl _
  have Ew0 := hide ew0
  clear hgw0 w0h ew0 hown1 hone honep hb63 hby hbase hbse hbsr
  go_wp2_with fail

  go_loopg [0, 11] s.size (fun gh s0 s11 wr => ∃ k : Nat, Hid (gh = s.size - k) ∧ s11 = .int .i64 k ∧ k ≤ s.size ∧ wr.ownsRow base 5 1 s0 (l ++ J.quoteK s k).length (J.bv (l ++ J.quoteK s k)) ∧ Bk base w wr)
  case atStart => exact ⟨0, rfl, rfl, by omega, by rw [J.quoteK_zero, ← unhide Ew0]; exact unhide w0o, w0b⟩
  case round =>
    obtain ⟨k, hg, rfl, hk, hown, hbel⟩ := hrel
    have hql := J.quoteK_length s k hk
    have hll : (l ++ J.quoteK s k).length ≤ 200000000200 := by rw [List.length_append]; omega
    obtain ⟨L, hL⟩ : ∃ L, L = l ++ J.quoteK s k := ⟨_, rfl⟩
    rw [← hL] at hown hll
    have HL := hide hL
    clear hL hql
    obtain ⟨va, vn, vc, rfl⟩ : ∃ a n c, u0 = .slice a n c := by
      obtain ⟨_, ⟨rfl, _⟩ | ⟨g, cap, cur, rfl, _⟩⟩ := hown
      · exact ⟨_, _, _, rfl⟩
      · exact ⟨_, _, _, rfl⟩
    by_cases hlt : k < s.size
    · have hltz : (k : Int) < (s.size : Int) := by omega
      by_cases hb : s[k].toNat = 34 ∨ s[k].toNat = 92
      · have hq := hide (J.quoteK_yes s k hlt hb)
        by_cases h1 : (s[k].toNat : Int) = 34
        · have hb1 : ((s[k].toNat : Int) == 34) = true := by simp [h1]
          have H1 := hide h1
          clear h1 hb

          have hown1 := hide (fun o => (hown).alloc o)
          have hone := hide (J.one_word wr 92)
          have honep := hide (J.one_plain 92)
          have hb63 : (L).length + 1 ≤ maxLen := by unfold maxLen; omega
          have hby : ((L).length + 1) * 1 ≤ 140737488355328 := by omega
          have hbase : base ≤ wr.heap.size + 1 := by have := (hbel).size; omega
          have hbse := hide (J.owns_base hown)
          have hbsr := hide (fun o => J.owns_row ((hown).alloc o))
          clear hown
          go_wp2_with (at_builtin; refine wpList_append_own _ rfl (.tmp 24) (.tmp 25) 22 rfl base 5 i0 (.int .u8 0) 1 1 Tryz.underlying22 hi hz0 hz1 hz2 rfl (by decide) _ (L).length _ rfl ((unhide hown1) _) ⟨wr.heap.size, 0, none⟩ 1 1 [.int .u8 92] rfl rfl (unhide hone) (unhide honep) hb63 hby (by simpa using hbase) ?_)
          intro vw1 w1 w1h hgw1 _
          have w1b : Bk base w w1 := ((hbel).alloc (by have := (hbel).size; omega) _).grown hgw1 (by simpa using hbase) (unhide hbse) ((unhide hbsr) _)
          obtain ⟨Lw1, ew1⟩ : ∃ L', L' = L ++ [92] := ⟨_, rfl⟩
          have w1o := hide (show w1.ownsRow base 5 1 vw1 Lw1.length (J.bv Lw1) by rw [ew1, List.length_append, ← J.bv_snoc]; exact w1h)
          have lw1 : Lw1.length ≤ (L).length + 1 := by rw [ew1, List.length_append]; exact Nat.le_refl _
          have Ew1 := hide ew1
          clear hgw1 w1h ew1 hown1 hone honep hb63 hby hbase hbse hbsr
          replace w1o := unhide w1o
          have hown1 := hide (fun o => (w1o).alloc o)
          have hone := hide (J.one_word w1 s[k].toNat)
          have honep := hide (J.one_plain s[k].toNat)
          have hb63 : (Lw1).length + 1 ≤ maxLen := by unfold maxLen; omega
          have hby : ((Lw1).length + 1) * 1 ≤ 140737488355328 := by omega
          have hbase : base ≤ w1.heap.size + 1 := by have := (w1b).size; omega
          have hbse := hide (J.owns_base w1o)
          have hbsr := hide (fun o => J.owns_row ((w1o).alloc o))
          clear w1o
          go_wp2_with (at_builtin; refine wpList_append_own _ rfl (.tmp 27) (.tmp 31) 22 rfl base 5 i0 (.int .u8 0) 1 1 Tryz.underlying22 hi hz0 hz1 hz2 rfl (by decide) _ (Lw1).length _ rfl ((unhide hown1) _) ⟨w1.heap.size, 0, none⟩ 1 1 [.int .u8 s[k].toNat] rfl rfl (unhide hone) (unhide honep) hb63 hby (by simpa using hbase) ?_)
          intro vw2 w2 w2h hgw2 _
          have w2b : Bk base w w2 := ((w1b).alloc (by have := (w1b).size; omega) _).grown hgw2 (by simpa using hbase) (unhide hbse) ((unhide hbsr) _)
          obtain ⟨Lw2, ew2⟩ : ∃ L', L' = Lw1 ++ [s[k]] := ⟨_, rfl⟩
          have w2o := hide (show w2.ownsRow base 5 1 vw2 Lw2.length (J.bv Lw2) by rw [ew2, List.length_append, ← J.bv_snoc]; exact w2h)
          have lw2 : Lw2.length ≤ (Lw1).length + 1 := by rw [ew2, List.length_append]; exact Nat.le_refl _
          have Ew2 := hide ew2
          clear hgw2 w2h ew2 hown1 hone honep hb63 hby hbase hbse hbsr
          have w2n := hide (show w2.ownsRow base 5 1 vw2 (l ++ J.quoteK s (k + 1)).length (J.bv (l ++ J.quoteK s (k + 1))) by rw [← show Lw2 = l ++ J.quoteK s (k + 1) by rw [unhide Ew2, unhide Ew1, unhide HL, unhide hq]; simp]; exact unhide w2o)
          clear w2o
          go_wp2_with fail
          go_roundg (s.size - (k + 1))
          case rel => exact ⟨k + 1, rfl, by go_num, by omega, unhide w2n, w2b⟩
          case measure => have := hg.out; omega

        · have hb1 : ((s[k].toNat : Int) == 34) = false := by simp; omega
          have hb2 : ((s[k].toNat : Int) == 92) = true := by simp; omega
          clear h1 hb

          have hown1 := hide (fun o => (hown).alloc o)
          have hone := hide (J.one_word wr 92)
          have honep := hide (J.one_plain 92)
          have hb63 : (L).length + 1 ≤ maxLen := by unfold maxLen; omega
          have hby : ((L).length + 1) * 1 ≤ 140737488355328 := by omega
          have hbase : base ≤ wr.heap.size + 1 := by have := (hbel).size; omega
          have hbse := hide (J.owns_base hown)
          have hbsr := hide (fun o => J.owns_row ((hown).alloc o))
          clear hown
          go_wp2_with (at_builtin; refine wpList_append_own _ rfl (.tmp 24) (.tmp 25) 22 rfl base 5 i0 (.int .u8 0) 1 1 Tryz.underlying22 hi hz0 hz1 hz2 rfl (by decide) _ (L).length _ rfl ((unhide hown1) _) ⟨wr.heap.size, 0, none⟩ 1 1 [.int .u8 92] rfl rfl (unhide hone) (unhide honep) hb63 hby (by simpa using hbase) ?_)
          intro vw1 w1 w1h hgw1 _
          have w1b : Bk base w w1 := ((hbel).alloc (by have := (hbel).size; omega) _).grown hgw1 (by simpa using hbase) (unhide hbse) ((unhide hbsr) _)
          obtain ⟨Lw1, ew1⟩ : ∃ L', L' = L ++ [92] := ⟨_, rfl⟩
          have w1o := hide (show w1.ownsRow base 5 1 vw1 Lw1.length (J.bv Lw1) by rw [ew1, List.length_append, ← J.bv_snoc]; exact w1h)
          have lw1 : Lw1.length ≤ (L).length + 1 := by rw [ew1, List.length_append]; exact Nat.le_refl _
          have Ew1 := hide ew1
          clear hgw1 w1h ew1 hown1 hone honep hb63 hby hbase hbse hbsr
          replace w1o := unhide w1o
          have hown1 := hide (fun o => (w1o).alloc o)
          have hone := hide (J.one_word w1 s[k].toNat)
          have honep := hide (J.one_plain s[k].toNat)
          have hb63 : (Lw1).length + 1 ≤ maxLen := by unfold maxLen; omega
          have hby : ((Lw1).length + 1) * 1 ≤ 140737488355328 := by omega
          have hbase : base ≤ w1.heap.size + 1 := by have := (w1b).size; omega
          have hbse := hide (J.owns_base w1o)
          have hbsr := hide (fun o => J.owns_row ((w1o).alloc o))
          clear w1o
          go_wp2_with (at_builtin; refine wpList_append_own _ rfl (.tmp 27) (.tmp 31) 22 rfl base 5 i0 (.int .u8 0) 1 1 Tryz.underlying22 hi hz0 hz1 hz2 rfl (by decide) _ (Lw1).length _ rfl ((unhide hown1) _) ⟨w1.heap.size, 0, none⟩ 1 1 [.int .u8 s[k].toNat] rfl rfl (unhide hone) (unhide honep) hb63 hby (by simpa using hbase) ?_)
          intro vw2 w2 w2h hgw2 _
          have w2b : Bk base w w2 := ((w1b).alloc (by have := (w1b).size; omega) _).grown hgw2 (by simpa using hbase) (unhide hbse) ((unhide hbsr) _)
          obtain ⟨Lw2, ew2⟩ : ∃ L', L' = Lw1 ++ [s[k]] := ⟨_, rfl⟩
          have w2o := hide (show w2.ownsRow base 5 1 vw2 Lw2.length (J.bv Lw2) by rw [ew2, List.length_append, ← J.bv_snoc]; exact w2h)
          have lw2 : Lw2.length ≤ (Lw1).length + 1 := by rw [ew2, List.length_append]; exact Nat.le_refl _
          have Ew2 := hide ew2
          clear hgw2 w2h ew2 hown1 hone honep hb63 hby hbase hbse hbsr
          have w2n := hide (show w2.ownsRow base 5 1 vw2 (l ++ J.quoteK s (k + 1)).length (J.bv (l ++ J.quoteK s (k + 1))) by rw [← show Lw2 = l ++ J.quoteK s (k + 1) by rw [unhide Ew2, unhide Ew1, unhide HL, unhide hq]; simp]; exact unhide w2o)
          clear w2o
          go_wp2_with fail
          go_roundg (s.size - (k + 1))
          case rel => exact ⟨k + 1, rfl, by go_num, by omega, unhide w2n, w2b⟩
          case measure => have := hg.out; omega

      · have hq := hide (J.quoteK_no s k hlt hb)
        have hb1 : ((s[k].toNat : Int) == 34) = false := by simp; omega
        have hb2 : ((s[k].toNat : Int) == 92) = false := by simp; omega
        clear hb

        have hown1 := hide (fun o => (hown).alloc o)
        have hone := hide (J.one_word wr s[k].toNat)
        have honep := hide (J.one_plain s[k].toNat)
        have hb63 : (L).length + 1 ≤ maxLen := by unfold maxLen; omega
        have hby : ((L).length + 1) * 1 ≤ 140737488355328 := by omega
        have hbase : base ≤ wr.heap.size + 1 := by have := (hbel).size; omega
        have hbse := hide (J.owns_base hown)
        have hbsr := hide (fun o => J.owns_row ((hown).alloc o))
        clear hown
        go_wp2_with (at_builtin; refine wpList_append_own _ rfl (.tmp 27) (.tmp 31) 22 rfl base 5 i0 (.int .u8 0) 1 1 Tryz.underlying22 hi hz0 hz1 hz2 rfl (by decide) _ (L).length _ rfl ((unhide hown1) _) ⟨wr.heap.size, 0, none⟩ 1 1 [.int .u8 s[k].toNat] rfl rfl (unhide hone) (unhide honep) hb63 hby (by simpa using hbase) ?_)
        intro vw1 w1 w1h hgw1 _
        have w1b : Bk base w w1 := ((hbel).alloc (by have := (hbel).size; omega) _).grown hgw1 (by simpa using hbase) (unhide hbse) ((unhide hbsr) _)
        obtain ⟨Lw1, ew1⟩ : ∃ L', L' = L ++ [s[k]] := ⟨_, rfl⟩
        have w1o := hide (show w1.ownsRow base 5 1 vw1 Lw1.length (J.bv Lw1) by rw [ew1, List.length_append, ← J.bv_snoc]; exact w1h)
        have lw1 : Lw1.length ≤ (L).length + 1 := by rw [ew1, List.length_append]; exact Nat.le_refl _
        have Ew1 := hide ew1
        clear hgw1 w1h ew1 hown1 hone honep hb63 hby hbase hbse hbsr
        have w1n := hide (show w1.ownsRow base 5 1 vw1 (l ++ J.quoteK s (k + 1)).length (J.bv (l ++ J.quoteK s (k + 1))) by rw [← show Lw1 = l ++ J.quoteK s (k + 1) by rw [unhide Ew1, unhide HL, unhide hq]; simp]; exact unhide w1o)
        clear w1o
        go_wp2_with fail
        go_roundg (s.size - (k + 1))
        case rel => exact ⟨k + 1, rfl, by go_num, by omega, unhide w1n, w1b⟩
        case measure => have := hg.out; omega

    · have hltz : ¬ (k : Int) < (s.size : Int) := by omega
      have hke : k = s.size := by omega
      subst hke

      have hown1 := hide (fun o => (hown).alloc o)
      have hone := hide (J.one_word wr 34)
      have honep := hide (J.one_plain 34)
      have hb63 : (L).length + 1 ≤ maxLen := by unfold maxLen; omega
      have hby : ((L).length + 1) * 1 ≤ 140737488355328 := by omega
      have hbase : base ≤ wr.heap.size + 1 := by have := (hbel).size; omega
      have hbse := hide (J.owns_base hown)
      have hbsr := hide (fun o => J.owns_row ((hown).alloc o))
      clear hown
      go_wp2_with (at_builtin; refine wpList_append_own _ rfl (.tmp 34) (.tmp 35) 22 rfl base 5 i0 (.int .u8 0) 1 1 Tryz.underlying22 hi hz0 hz1 hz2 rfl (by decide) _ (L).length _ rfl ((unhide hown1) _) ⟨wr.heap.size, 0, none⟩ 1 1 [.int .u8 34] rfl rfl (unhide hone) (unhide honep) hb63 hby (by simpa using hbase) ?_)
      intro vw1 w1 w1h hgw1 _
      have w1b : Bk base w w1 := ((hbel).alloc (by have := (hbel).size; omega) _).grown hgw1 (by simpa using hbase) (unhide hbse) ((unhide hbsr) _)
      obtain ⟨Lw1, ew1⟩ : ∃ L', L' = L ++ [34] := ⟨_, rfl⟩
      have w1o := hide (show w1.ownsRow base 5 1 vw1 Lw1.length (J.bv Lw1) by rw [ew1, List.length_append, ← J.bv_snoc]; exact w1h)
      have lw1 : Lw1.length ≤ (L).length + 1 := by rw [ew1, List.length_append]; exact Nat.le_refl _
      have Ew1 := hide ew1
      clear hgw1 w1h ew1 hown1 hone honep hb63 hby hbase hbse hbsr
      have fin := hide (show w1.ownsRow base 5 1 vw1 (l ++ J.quote s).length (J.bv (l ++ J.quote s)) by unfold J.quote; rw [← List.append_assoc, ← unhide HL, ← unhide Ew1]; exact unhide w1o)
      clear w1o
      go_wp2_with fail
      go_ret
      exact ⟨_, rfl, unhide fin, w1b⟩

end Go.Proofs.YtikeffckhklhbaaGreatDoor
