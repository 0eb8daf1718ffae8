/-
  spec.l6One: leaves and calls with one part.
  spec.l6One: the arms with one part.
-/
import Derived.Test.YtmbefapdckhjdaaLowT
import Derived.Deep.RegionWith
import Derived.Deep.RegionHeld3
namespace Go.Proofs.Ytmbefapdckhjdaa
open Go.RowKit
set_option linter.unusedVariables false
set_option linter.unusedSimpArgs false


set_option maxRecDepth 100000 in
set_option maxHeartbeats 1000000 in
theorem l6One_leaf (base P b0 m mb mc tb lc : Nat) (v nv : Value) (rec : Lw.Rec) (ns : List ByteArray) (s : List Co) (l : List Nd) (i : Nat) (n : Nd) (hi : i < l.length) (hni : n = l.getD i Nd.zero) (hl : l.length ≤ lc) (hl2 : l.length ≤ 1048576) (tv : Value) (htv : tv = .slice (some ⟨tb, 0, none⟩) l.length lc) (T : World → Prop) (hT : ∀ x y, Below base x y → T x → T y) (hrow : ∀ x, T x → Nd.Row x tb 0 l) (w : World) (h : Lw.Ld base P tv w v s) (hn : s.length + m + mb + mc ≤ 2999) (hns : w.ownsRow b0 9 1 nv ns.length (ns.map Value.string)) (hw : T w) (h4 : ns.length ≤ 4000) (hop : (n.op = 1 ∨ n.op = 2 ∨ n.op = 3 ∨ n.op = 4 ∨ n.op = 15 ∨ n.op = 16 ∨ n.op = 24 ∨ n.op = 21 ∨ n.op = 22)) : Calls Try.prog 21 #[.pointer (some ⟨P, 0, none⟩), .int .i64 i, nv] w (Lw.Made base P tv v w ((Lw.lay rec (Lw.form n) ns s).1, (Lw.lay rec (Lw.form n) ns s).2.headD 0)) := by
  obtain ⟨R, hR⟩ : ∃ R, R = ((Lw.lay rec (Lw.form n) ns s).1, (Lw.lay rec (Lw.form n) ns s).2.headD 0) := ⟨_, rfl⟩
  have HC := hide (fun (W : World) (hb : Below w.heap.size w W) => l6Leaf_ld base P b0 tv v nv rec ns s n W (h.below hb) (by omega) (by omega) (Tr.owns_below hns hb) hop)
  rw [← hR] at HC ⊢
  have hk : ((Tr.kids n.op : Nat) : Int) = 0 := by rcases hop with q | q | q | q | q | q | q | q | q <;> rw [q] <;> rfl
  have hkb : (((Tr.kids n.op : Nat) : Int) == 0) = true := by rw [hk]; rfl
  have ho1 : 1 ≤ n.op := by omega
  have ho2 : n.op ≤ 24 := by omega
  clear hR
  obtain ⟨w0, hw0⟩ : ∃ w0, w0 = w.alloc (.cells #[.int .i64 n.op, .int .i64 n.a, .int .i64 n.b, .int .i64 n.c, .int .i64 n.num, .string n.text] 55) := ⟨_, rfl⟩
  have B0 : Below w.heap.size w w0 := by rw [hw0]; exact (Below.refl _ _).alloc (Nat.le_refl _) _
  have X0 : Own w0 w.heap.size 55 [.int .i64 n.op, .int .i64 n.a, .int .i64 n.b, .int .i64 n.c, .int .i64 n.num, .string n.text] := by rw [hw0]; exact ⟨_, heap_alloc_new _ _, rfl⟩
  have p0 := h.own.cell 0
  obtain ⟨f0, f1, f2, f3, f4, f5⟩ := hrow w hw i hi
  simp only [Nat.zero_add] at f0 f1 f2 f3 f4 f5
  rw [← hni] at f0 f1 f2 f3 f4 f5
  rw [htv] at p0
  simp only [List.getElem?_cons_zero] at p0
  have hiI : (i : Int) < (l.length : Int) := by omega
  clear h hns hw hrow hni hop hk
  go_enter Try.func21, Try.ntmps21
  have y0 := X0.cell 0
  have y1 := X0.cell 1
  have y2 := X0.cell 2
  have y3 := X0.cell 3
  have y4 := X0.cell 4
  have y5 := X0.cell 5
  simp only [List.getElem?_cons_zero, List.getElem?_cons_succ] at y0 y1 y2 y3 y4 y5
  go_wp2_with fail
  try rw [← hw0]
  clear hw0 f0 f1 f2 f3 f4 f5 p0
  refine (l5Kids_any n.op w0 ho1 ho2).mono ?_
  rintro e wk ⟨rfl, hwk⟩
  rw [hwk]
  clear hwk
  go_wp2_with fail
  refine ((unhide HC) w0 B0).mono ?_
  rintro e w1 ⟨v1, rfl, L1, F1⟩
  obtain ⟨q1, hq1⟩ : ∃ q, q = R.2 := ⟨_, rfl⟩
  rw [← hq1]
  have HQ := hide hq1
  clear hq1
  go_wp2_with fail
  go_ret
  exact ⟨v1, (by show Ending.returned (Value.int .i64 q1) = _; rw [unhide HQ]), L1, F1.ahead B0⟩

set_option maxRecDepth 100000 in
set_option maxHeartbeats 1000000 in
theorem l6One_23 (base P b0 m mb mc tb lc : Nat) (v nv : Value) (rec : Lw.Rec) (ns : List ByteArray) (s : List Co) (l : List Nd) (i : Nat) (n : Nd) (hi : i < l.length) (hni : n = l.getD i Nd.zero) (hl : l.length ≤ lc) (hl2 : l.length ≤ 1048576) (tv : Value) (htv : tv = .slice (some ⟨tb, 0, none⟩) l.length lc) (T : World → Prop) (hT : ∀ x y, Below base x y → T x → T y) (hrow : ∀ x, T x → Nd.Row x tb 0 l) (w : World) (h : Lw.Ld base P tv w v s) (hn : s.length + m ≤ 2995) (hns : w.ownsRow b0 9 1 nv ns.length (ns.map Value.string)) (hw : T w) (h4 : ns.length ≤ 4000) (hSa : Lw.Says base P tv nv b0 ns T rec m n.a) (hop : n.op = 23) : Calls Try.prog 21 #[.pointer (some ⟨P, 0, none⟩), .int .i64 i, nv] w (Lw.Made base P tv v w ((Lw.lay rec (Lw.form n) ns s).1, (Lw.lay rec (Lw.form n) ns s).2.headD 0)) := by
  obtain ⟨R, hR⟩ : ∃ R, R = ((Lw.lay rec (Lw.form n) ns s).1, (Lw.lay rec (Lw.form n) ns s).2.headD 0) := ⟨_, rfl⟩
  have HC := hide (fun (W : World) (hb : Below w.heap.size w W) => l6CallOne_ld base P b0 m tv v nv rec ns s n T hT W (h.below hb) (by omega) (Tr.owns_below hns hb) (hT _ _ (hb.mono h.base) hw) hSa)
  rw [Lw.form_23 hop] at hR
  rw [← hR] at HC
  rw [Lw.form_23 hop, ← hR]
  rw [hop] at HC
  clear hR
  obtain ⟨w0, hw0⟩ : ∃ w0, w0 = w.alloc (.cells #[.int .i64 23, .int .i64 n.a, .int .i64 n.b, .int .i64 n.c, .int .i64 n.num, .string n.text] 55) := ⟨_, rfl⟩
  have B0 : Below w.heap.size w w0 := by rw [hw0]; exact (Below.refl _ _).alloc (Nat.le_refl _) _
  have X0 : Own w0 w.heap.size 55 [.int .i64 23, .int .i64 n.a, .int .i64 n.b, .int .i64 n.c, .int .i64 n.num, .string n.text] := by rw [hw0]; exact ⟨_, heap_alloc_new _ _, rfl⟩
  have p0 := h.own.cell 0
  obtain ⟨f0, f1, f2, f3, f4, f5⟩ := hrow w hw i hi
  simp only [Nat.zero_add] at f0 f1 f2 f3 f4 f5
  rw [← hni] at f0 f1 f2 f3 f4 f5
  rw [hop] at f0
  rw [htv] at p0
  simp only [List.getElem?_cons_zero] at p0
  have hiI : (i : Int) < (l.length : Int) := by omega
  clear h hns hw hrow hni hop hSa
  go_enter Try.func21, Try.ntmps21
  have y0 := X0.cell 0
  have y1 := X0.cell 1
  have y2 := X0.cell 2
  have y3 := X0.cell 3
  have y4 := X0.cell 4
  have y5 := X0.cell 5
  simp only [List.getElem?_cons_zero, List.getElem?_cons_succ] at y0 y1 y2 y3 y4 y5
  go_wp2_with fail
  try rw [← hw0]
  clear hw0 f0 f1 f2 f3 f4 f5 p0
  refine (l5Kids_any 23 w0 (by decide) (by decide)).mono ?_
  rintro e wk ⟨rfl, hwk⟩
  rw [hwk]
  clear hwk
  go_wp2_with fail
  refine ((unhide HC) w0 B0).mono ?_
  rintro e w1 ⟨v1, rfl, L1, F1⟩
  obtain ⟨q1, hq1⟩ : ∃ q, q = R.2 := ⟨_, rfl⟩
  rw [← hq1]
  have HQ := hide hq1
  clear hq1
  go_wp2_with fail
  go_ret
  exact ⟨v1, (by show Ending.returned (Value.int .i64 q1) = _; rw [unhide HQ]), L1, F1.ahead B0⟩

end Go.Proofs.Ytmbefapdckhjdaa

namespace Go.Proofs.Ytmbefapdckhjdaa
open Go.RowKit
set_option linter.unusedVariables false
set_option linter.unusedSimpArgs false


theorem Lw.lay_12 (rec : Lw.Rec) (n : Nd) (ns : List ByteArray) (s : List Co) : Lw.lay rec (Lw.over 8 (Lw.l1 (.tree n.a))) ns s = ((rec n.a ns s).1 ++ [⟨8, (rec n.a ns s).2, 0, 0, 0, []⟩], [((rec n.a ns s).1.length : Int)]) := rfl
set_option maxRecDepth 100000 in
set_option maxHeartbeats 1000000 in
theorem l6One_12 (base P b0 m mb mc tb lc : Nat) (v nv : Value) (rec : Lw.Rec) (ns : List ByteArray) (s : List Co) (l : List Nd) (i : Nat) (n : Nd) (hi : i < l.length) (hni : n = l.getD i Nd.zero) (hl : l.length ≤ lc) (hl2 : l.length ≤ 1048576) (tv : Value) (htv : tv = .slice (some ⟨tb, 0, none⟩) l.length lc) (T : World → Prop) (hT : ∀ x y, Below base x y → T x → T y) (hrow : ∀ x, T x → Nd.Row x tb 0 l) (w : World) (h : Lw.Ld base P tv w v s) (hn : s.length + m + mb + mc ≤ 2999) (hns : w.ownsRow b0 9 1 nv ns.length (ns.map Value.string)) (hw : T w) (hSa : Lw.Says base P tv nv b0 ns T rec m n.a) (h4 : ns.length ≤ 4000) (hop : n.op = 12) : Calls Try.prog 21 #[.pointer (some ⟨P, 0, none⟩), .int .i64 i, nv] w (Lw.Made base P tv v w ((Lw.lay rec (Lw.form n) ns s).1, (Lw.lay rec (Lw.form n) ns s).2.headD 0)) := by
  obtain ⟨R, hR⟩ : ∃ R, R = ((Lw.lay rec (Lw.form n) ns s).1, (Lw.lay rec (Lw.form n) ns s).2.headD 0) := ⟨_, rfl⟩
  rw [← hR]
  rw [Lw.form_12 hop, Lw.lay_12] at hR
  have HR := hide hR
  have HSa := hide hSa
  obtain ⟨w0, hw0⟩ : ∃ w0, w0 = w.alloc (.cells #[.int .i64 12, .int .i64 n.a, .int .i64 n.b, .int .i64 n.c, .int .i64 n.num, .string n.text] 55) := ⟨_, rfl⟩
  have B0 : Below w.heap.size w w0 := by rw [hw0]; exact (Below.refl _ _).alloc (Nat.le_refl _) _
  have L0 := h.below B0
  have N0 : w0.ownsRow b0 9 1 nv ns.length (ns.map Value.string) := by rw [hw0]; exact hns.alloc _
  have T0 := hT _ _ (B0.mono h.base) hw
  have X0 : Own w0 w.heap.size 55 [.int .i64 12, .int .i64 n.a, .int .i64 n.b, .int .i64 n.c, .int .i64 n.num, .string n.text] := by rw [hw0]; exact ⟨_, heap_alloc_new _ _, rfl⟩
  have p0 := h.own.cell 0
  obtain ⟨f0, f1, f2, f3, f4, f5⟩ := hrow w hw i hi
  simp only [Nat.zero_add] at f0 f1 f2 f3 f4 f5
  rw [← hni] at f0 f1 f2 f3 f4 f5
  rw [hop] at f0
  rw [htv] at p0
  simp only [List.getElem?_cons_zero] at p0
  have hiI : (i : Int) < (l.length : Int) := by omega
  clear h hR hns hSa hw hrow hop hni
  go_enter Try.func21, Try.ntmps21
  have y0 := X0.cell 0
  simp only [List.getElem?_cons_zero, List.getElem?_cons_succ] at y0
  have x1 := X0.cell 1
  simp only [List.getElem?_cons_zero, List.getElem?_cons_succ] at x1
  have c1 := hide ((unhide HSa) v s w0 L0 N0 T0 (by omega))
  go_wp2_with fail
  try rw [← hw0]
  clear hw0 f0 f1 f2 f3 f4 f5 p0
  refine (l5Kids_any 12 w0 (by decide) (by decide)).mono ?_
  rintro e wk ⟨rfl, hwk⟩
  subst hwk
  go_wp2_with fail
  refine (unhide c1).1.mono ?_
  rintro e w1 ⟨v1, he1, l1, f1⟩
  have n1 := (unhide c1).2
  obtain ⟨q1, hq1⟩ : ∃ q, q = (rec n.a ns s).2 := ⟨_, rfl⟩
  rw [← hq1] at he1
  subst he1
  obtain ⟨s1, e1⟩ : ∃ sx, sx = (rec n.a ns s).1 := ⟨_, rfl⟩
  rw [← e1] at l1 n1
  have L1 := l1
  have E1 := hide e1
  have Q1 := hide hq1
  clear e1 l1 hq1 c1 x1
  have F1 := f1
  have N1 := L0.names f1 N0
  have T1 := hT _ _ (L0.frame f1) T0
  have X1 := L0.keep f1 X0 (by decide) (by decide)
  have y1 := X1.cell 0
  simp only [List.getElem?_cons_zero, List.getElem?_cons_succ] at y1
  obtain ⟨t0, ht0, hy0, hy1, hy2⟩ := info_parts Tr.infoT
  obtain ⟨wx, hwx⟩ : ∃ wx, wx = w1.alloc (.cells #[.int .i64 8, .int .i64 q1, .int .i64 0, .int .i64 0, .int .i64 0, .slice none 0 0] 82) := ⟨_, rfl⟩
  have BX : Below w1.heap.size w1 wx := by rw [hwx]; exact (Below.refl _ _).alloc (Nat.le_refl _) _
  have OX : Own wx w1.heap.size 82 [.int .i64 8, .int .i64 q1, .int .i64 0, .int .i64 0, .int .i64 0, .slice none 0 0] := by rw [hwx]; exact ⟨_, heap_alloc_new _ _, rfl⟩
  have XX := X1.below BX X1.lt
  have NX := Tr.owns_below N1 BX
  have LX := L1.below BX
  go_wp2_with fail
  refine (l6Same_12 _).mono ?_
  rintro e wk ⟨rfl, hwk⟩
  subst hwk
  go_wp2_with fail
  try rw [← hwx]
  clear hwx y1
  have KEEP := hide (show ∀ W, Below wx.heap.size wx W → (W.cell? ⟨w.heap.size, 5, none⟩ = some (.string n.text) ∧ Below wx.heap.size wx W) from fun W hb => ⟨(hb.cell (by exact XX.lt)).trans (XX.cell 5), hb⟩)
  have NMV := hide (show ∀ W, Below wx.heap.size wx W → W.ownsRow b0 9 1 nv ns.length (ns.map Value.string) from fun W hb => Tr.owns_below NX hb)
  go_region_held_law (fun w' => w'.cell? ⟨w.heap.size, 5, none⟩ = some (.string n.text) ∧ Below wx.heap.size wx w')
    (first | assumption | exact (unhide KEEP) _ (by assumption) | exact (unhide KEEP) _ (Below.refl _ _).drew | exact (unhide KEEP) _ (Ap.below_alloc (And.right (by assumption))))
    (first
      | (refine Ap.step_append_row ((wx.alloc (.cells #[] 9)).drew) rfl (.tmp 83) (.tmp 84) 57 rfl wx.heap.size 9 t0 (.string ByteArray.empty) 16 Try.underlying57 ht0 hy0 hy1 hy2 rfl (.slice (some ⟨wx.heap.size, 0, none⟩) 0 0) 0 [] rfl (Ap.owns_empty (by omega) (Ap.heapE _ _)) b0 9 _ ns.length (ns.map Value.string) rfl ((unhide NMV) _ (by exact And.right (by assumption))) (Tr.strs_plain ns) (by unfold maxLen; omega) (by omega) (Below.size (B := wx.heap.size) (by exact And.right (by assumption))) ?_
         intro v1' w1' ho1 hg1
         have hB1 : Below wx.heap.size wx w1' := Below.grown (by exact And.right (by assumption)) hg1 (Below.size (B := wx.heap.size) (by exact And.right (by assumption))) (by intro q hq; simp only [Value.ownBlock, Option.some.injEq] at hq; omega))
      | (refine Ap.step_append_row (((wx.alloc (.cells #[] 9)).alloc (.cells #[.string n.text] 9)).drew) rfl (.tmp 83) (.tmp 84) 57 rfl wx.heap.size 9 t0 (.string ByteArray.empty) 16 Try.underlying57 ht0 hy0 hy1 hy2 rfl (.slice (some ⟨wx.heap.size, 0, none⟩) 0 0) 0 [] rfl (Ap.owns_empty (by omega) (Ap.heapEK _ _ _)) b0 9 _ ns.length (ns.map Value.string) rfl ((unhide NMV) _ (by exact And.right (by assumption))) (Tr.strs_plain ns) (by unfold maxLen; omega) (by omega) (Below.size (B := wx.heap.size) (by exact And.right (by assumption))) ?_
         intro v1' w1' ho1 hg1
         have hB1 : Below wx.heap.size wx w1' := Below.grown (by exact And.right (by assumption)) hg1 (Below.size (B := wx.heap.size) (by exact And.right (by assumption))) (by intro q hq; simp only [Value.ownBlock, Option.some.injEq] at hq; omega)
         have hk1 : w1'.cell? ⟨wx.heap.size + 1, 0, none⟩ = some (.string n.text) := (World.grownBy.cell_far hg1 ⟨wx.heap.size + 1, 0, none⟩ (by simp) (Ap.ne_own (wx.heap.size + 1) wx.heap.size 0 0 (by omega))).trans (Ap.cellEK _ _ _))
      | (refine Ap.step_append_row (((wx.alloc (.cells #[.string n.text] 9)).alloc (.cells #[] 9)).drew) rfl (.tmp 83) (.tmp 84) 57 rfl wx.heap.size 9 t0 (.string ByteArray.empty) 16 Try.underlying57 ht0 hy0 hy1 hy2 rfl (.slice (some ⟨wx.heap.size + 1, 0, none⟩) 0 0) 0 [] rfl (Ap.owns_empty (by omega) (Ap.heapKE _ _ _)) b0 9 _ ns.length (ns.map Value.string) rfl ((unhide NMV) _ (by exact And.right (by assumption))) (Tr.strs_plain ns) (by unfold maxLen; omega) (by omega) (Below.size (B := wx.heap.size) (by exact And.right (by assumption))) ?_
         intro v1' w1' ho1 hg1
         have hB1 : Below wx.heap.size wx w1' := Below.grown (by exact And.right (by assumption)) hg1 (Below.size (B := wx.heap.size) (by exact And.right (by assumption))) (by intro q hq; simp only [Value.ownBlock, Option.some.injEq] at hq; omega)
         have hk1 : w1'.cell? ⟨wx.heap.size, 0, none⟩ = some (.string n.text) := (World.grownBy.cell_far hg1 ⟨wx.heap.size, 0, none⟩ (by simp <;> omega) (Ap.ne_own wx.heap.size (wx.heap.size + 1) 0 0 (by omega))).trans (Ap.cellKE _ _ _))
      | (refine Ap.step_append_any _ rfl (.tmp 85) (.tmp 88) 57 rfl wx.heap.size 9 t0 (.string ByteArray.empty) 1 16 Try.underlying57 ht0 hy0 hy1 hy2 rfl (by decide) _ (0 + ns.length) _ rfl (by first | exact ho1 | exact ho1.alloc _) _ _ _ [.string n.text] rfl rfl (Ap.one_of (by first | assumption | exact World.cell?_alloc_mark _ _ _ _ _ | simp)) (by intro u hu; simp only [List.mem_cons, List.not_mem_nil, or_false] at hu; subst hu; rfl) (by unfold maxLen; omega) (by omega) (Below.size (B := wx.heap.size) (by exact And.right (by assumption))) ?_
         intro v2' w2' ho2 hg2
         have hB2 : Below wx.heap.size wx w2' := Below.grown (by exact And.right (by assumption)) hg2 (Below.size (B := wx.heap.size) (by exact And.right (by assumption))) (Tr.owns_base ho1)))
  all_goals
    have LZ := LX.below hB2
    have XZ := XX.below hB2 XX.lt
    have OZ := OX.below hB2 OX.lt
    have FZ := (F1.behind BX).behind hB2
    have y2 := XZ.cell 0
    have o0 := OZ.cell 0
    have o1 := OZ.cell 1
    have o2 := OZ.cell 2
    have o3 := OZ.cell 3
    have o4 := OZ.cell 4
    have o5 := OZ.cell 5
    simp only [List.getElem?_cons_zero, List.getElem?_cons_succ] at y2 o0 o1 o2 o3 o4 o5
    clear hB2 hg2 hB1 hg1 ho1
    go_wp2_with fail
    refine (l5Kids_any 12 _ (by decide) (by decide)).mono ?_
    rintro e wk ⟨rfl, hwk⟩
    subst hwk
    go_wp2_with fail
    refine (l5Kids_any 12 _ (by decide) (by decide)).mono ?_
    rintro e wk ⟨rfl, hwk⟩
    subst hwk
    go_wp2_with fail
    refine (l6Put_ld base P tv v1 (.slice none 0 0) s1 8 q1 0 0 0 [] _ LZ (Lw.res_nil _ _) (by omega)).mono ?_
    rintro e w5 ⟨v5, rfl, L5, f5⟩
    go_wp2_with fail
    go_ret
    have e1 := unhide E1
    have hq1 := unhide Q1
    subst hq1 e1
    rw [unhide HR]
    exact ⟨v5, rfl, L5, (FZ.trans f5).ahead B0⟩

theorem Lw.lay_13 (rec : Lw.Rec) (n : Nd) (ns : List ByteArray) (s : List Co) : Lw.lay rec (Lw.over 9 (Lw.l1 (.tree n.a))) ns s = ((rec n.a ns s).1 ++ [⟨9, (rec n.a ns s).2, 0, 0, 0, []⟩], [((rec n.a ns s).1.length : Int)]) := rfl
set_option maxRecDepth 100000 in
set_option maxHeartbeats 1000000 in
theorem l6One_13 (base P b0 m mb mc tb lc : Nat) (v nv : Value) (rec : Lw.Rec) (ns : List ByteArray) (s : List Co) (l : List Nd) (i : Nat) (n : Nd) (hi : i < l.length) (hni : n = l.getD i Nd.zero) (hl : l.length ≤ lc) (hl2 : l.length ≤ 1048576) (tv : Value) (htv : tv = .slice (some ⟨tb, 0, none⟩) l.length lc) (T : World → Prop) (hT : ∀ x y, Below base x y → T x → T y) (hrow : ∀ x, T x → Nd.Row x tb 0 l) (w : World) (h : Lw.Ld base P tv w v s) (hn : s.length + m + mb + mc ≤ 2999) (hns : w.ownsRow b0 9 1 nv ns.length (ns.map Value.string)) (hw : T w) (hSa : Lw.Says base P tv nv b0 ns T rec m n.a) (h4 : ns.length ≤ 4000) (hop : n.op = 13) : Calls Try.prog 21 #[.pointer (some ⟨P, 0, none⟩), .int .i64 i, nv] w (Lw.Made base P tv v w ((Lw.lay rec (Lw.form n) ns s).1, (Lw.lay rec (Lw.form n) ns s).2.headD 0)) := by
  obtain ⟨R, hR⟩ : ∃ R, R = ((Lw.lay rec (Lw.form n) ns s).1, (Lw.lay rec (Lw.form n) ns s).2.headD 0) := ⟨_, rfl⟩
  rw [← hR]
  rw [Lw.form_13 hop, Lw.lay_13] at hR
  have HR := hide hR
  have HSa := hide hSa
  obtain ⟨w0, hw0⟩ : ∃ w0, w0 = w.alloc (.cells #[.int .i64 13, .int .i64 n.a, .int .i64 n.b, .int .i64 n.c, .int .i64 n.num, .string n.text] 55) := ⟨_, rfl⟩
  have B0 : Below w.heap.size w w0 := by rw [hw0]; exact (Below.refl _ _).alloc (Nat.le_refl _) _
  have L0 := h.below B0
  have N0 : w0.ownsRow b0 9 1 nv ns.length (ns.map Value.string) := by rw [hw0]; exact hns.alloc _
  have T0 := hT _ _ (B0.mono h.base) hw
  have X0 : Own w0 w.heap.size 55 [.int .i64 13, .int .i64 n.a, .int .i64 n.b, .int .i64 n.c, .int .i64 n.num, .string n.text] := by rw [hw0]; exact ⟨_, heap_alloc_new _ _, rfl⟩
  have p0 := h.own.cell 0
  obtain ⟨f0, f1, f2, f3, f4, f5⟩ := hrow w hw i hi
  simp only [Nat.zero_add] at f0 f1 f2 f3 f4 f5
  rw [← hni] at f0 f1 f2 f3 f4 f5
  rw [hop] at f0
  rw [htv] at p0
  simp only [List.getElem?_cons_zero] at p0
  have hiI : (i : Int) < (l.length : Int) := by omega
  clear h hR hns hSa hw hrow hop hni
  go_enter Try.func21, Try.ntmps21
  have y0 := X0.cell 0
  simp only [List.getElem?_cons_zero, List.getElem?_cons_succ] at y0
  have x1 := X0.cell 1
  simp only [List.getElem?_cons_zero, List.getElem?_cons_succ] at x1
  have c1 := hide ((unhide HSa) v s w0 L0 N0 T0 (by omega))
  go_wp2_with fail
  try rw [← hw0]
  clear hw0 f0 f1 f2 f3 f4 f5 p0
  refine (l5Kids_any 13 w0 (by decide) (by decide)).mono ?_
  rintro e wk ⟨rfl, hwk⟩
  subst hwk
  go_wp2_with fail
  refine (unhide c1).1.mono ?_
  rintro e w1 ⟨v1, he1, l1, f1⟩
  have n1 := (unhide c1).2
  obtain ⟨q1, hq1⟩ : ∃ q, q = (rec n.a ns s).2 := ⟨_, rfl⟩
  rw [← hq1] at he1
  subst he1
  obtain ⟨s1, e1⟩ : ∃ sx, sx = (rec n.a ns s).1 := ⟨_, rfl⟩
  rw [← e1] at l1 n1
  have L1 := l1
  have E1 := hide e1
  have Q1 := hide hq1
  clear e1 l1 hq1 c1 x1
  have F1 := f1
  have N1 := L0.names f1 N0
  have T1 := hT _ _ (L0.frame f1) T0
  have X1 := L0.keep f1 X0 (by decide) (by decide)
  have y1 := X1.cell 0
  simp only [List.getElem?_cons_zero, List.getElem?_cons_succ] at y1
  obtain ⟨t0, ht0, hy0, hy1, hy2⟩ := info_parts Tr.infoT
  obtain ⟨wx, hwx⟩ : ∃ wx, wx = w1.alloc (.cells #[.int .i64 9, .int .i64 q1, .int .i64 0, .int .i64 0, .int .i64 0, .slice none 0 0] 82) := ⟨_, rfl⟩
  have BX : Below w1.heap.size w1 wx := by rw [hwx]; exact (Below.refl _ _).alloc (Nat.le_refl _) _
  have OX : Own wx w1.heap.size 82 [.int .i64 9, .int .i64 q1, .int .i64 0, .int .i64 0, .int .i64 0, .slice none 0 0] := by rw [hwx]; exact ⟨_, heap_alloc_new _ _, rfl⟩
  have XX := X1.below BX X1.lt
  have NX := Tr.owns_below N1 BX
  have LX := L1.below BX
  go_wp2_with fail
  refine (l6Same_13 _).mono ?_
  rintro e wk ⟨rfl, hwk⟩
  subst hwk
  go_wp2_with fail
  try rw [← hwx]
  clear hwx y1
  have KEEP := hide (show ∀ W, Below wx.heap.size wx W → (W.cell? ⟨w.heap.size, 5, none⟩ = some (.string n.text) ∧ Below wx.heap.size wx W) from fun W hb => ⟨(hb.cell (by exact XX.lt)).trans (XX.cell 5), hb⟩)
  have NMV := hide (show ∀ W, Below wx.heap.size wx W → W.ownsRow b0 9 1 nv ns.length (ns.map Value.string) from fun W hb => Tr.owns_below NX hb)
  go_region_held_law (fun w' => w'.cell? ⟨w.heap.size, 5, none⟩ = some (.string n.text) ∧ Below wx.heap.size wx w')
    (first | assumption | exact (unhide KEEP) _ (by assumption) | exact (unhide KEEP) _ (Below.refl _ _).drew | exact (unhide KEEP) _ (Ap.below_alloc (And.right (by assumption))))
    (first
      | (refine Ap.step_append_row ((wx.alloc (.cells #[] 9)).drew) rfl (.tmp 83) (.tmp 84) 57 rfl wx.heap.size 9 t0 (.string ByteArray.empty) 16 Try.underlying57 ht0 hy0 hy1 hy2 rfl (.slice (some ⟨wx.heap.size, 0, none⟩) 0 0) 0 [] rfl (Ap.owns_empty (by omega) (Ap.heapE _ _)) b0 9 _ ns.length (ns.map Value.string) rfl ((unhide NMV) _ (by exact And.right (by assumption))) (Tr.strs_plain ns) (by unfold maxLen; omega) (by omega) (Below.size (B := wx.heap.size) (by exact And.right (by assumption))) ?_
         intro v1' w1' ho1 hg1
         have hB1 : Below wx.heap.size wx w1' := Below.grown (by exact And.right (by assumption)) hg1 (Below.size (B := wx.heap.size) (by exact And.right (by assumption))) (by intro q hq; simp only [Value.ownBlock, Option.some.injEq] at hq; omega))
      | (refine Ap.step_append_row (((wx.alloc (.cells #[] 9)).alloc (.cells #[.string n.text] 9)).drew) rfl (.tmp 83) (.tmp 84) 57 rfl wx.heap.size 9 t0 (.string ByteArray.empty) 16 Try.underlying57 ht0 hy0 hy1 hy2 rfl (.slice (some ⟨wx.heap.size, 0, none⟩) 0 0) 0 [] rfl (Ap.owns_empty (by omega) (Ap.heapEK _ _ _)) b0 9 _ ns.length (ns.map Value.string) rfl ((unhide NMV) _ (by exact And.right (by assumption))) (Tr.strs_plain ns) (by unfold maxLen; omega) (by omega) (Below.size (B := wx.heap.size) (by exact And.right (by assumption))) ?_
         intro v1' w1' ho1 hg1
         have hB1 : Below wx.heap.size wx w1' := Below.grown (by exact And.right (by assumption)) hg1 (Below.size (B := wx.heap.size) (by exact And.right (by assumption))) (by intro q hq; simp only [Value.ownBlock, Option.some.injEq] at hq; omega)
         have hk1 : w1'.cell? ⟨wx.heap.size + 1, 0, none⟩ = some (.string n.text) := (World.grownBy.cell_far hg1 ⟨wx.heap.size + 1, 0, none⟩ (by simp) (Ap.ne_own (wx.heap.size + 1) wx.heap.size 0 0 (by omega))).trans (Ap.cellEK _ _ _))
      | (refine Ap.step_append_row (((wx.alloc (.cells #[.string n.text] 9)).alloc (.cells #[] 9)).drew) rfl (.tmp 83) (.tmp 84) 57 rfl wx.heap.size 9 t0 (.string ByteArray.empty) 16 Try.underlying57 ht0 hy0 hy1 hy2 rfl (.slice (some ⟨wx.heap.size + 1, 0, none⟩) 0 0) 0 [] rfl (Ap.owns_empty (by omega) (Ap.heapKE _ _ _)) b0 9 _ ns.length (ns.map Value.string) rfl ((unhide NMV) _ (by exact And.right (by assumption))) (Tr.strs_plain ns) (by unfold maxLen; omega) (by omega) (Below.size (B := wx.heap.size) (by exact And.right (by assumption))) ?_
         intro v1' w1' ho1 hg1
         have hB1 : Below wx.heap.size wx w1' := Below.grown (by exact And.right (by assumption)) hg1 (Below.size (B := wx.heap.size) (by exact And.right (by assumption))) (by intro q hq; simp only [Value.ownBlock, Option.some.injEq] at hq; omega)
         have hk1 : w1'.cell? ⟨wx.heap.size, 0, none⟩ = some (.string n.text) := (World.grownBy.cell_far hg1 ⟨wx.heap.size, 0, none⟩ (by simp <;> omega) (Ap.ne_own wx.heap.size (wx.heap.size + 1) 0 0 (by omega))).trans (Ap.cellKE _ _ _))
      | (refine Ap.step_append_any _ rfl (.tmp 85) (.tmp 88) 57 rfl wx.heap.size 9 t0 (.string ByteArray.empty) 1 16 Try.underlying57 ht0 hy0 hy1 hy2 rfl (by decide) _ (0 + ns.length) _ rfl (by first | exact ho1 | exact ho1.alloc _) _ _ _ [.string n.text] rfl rfl (Ap.one_of (by first | assumption | exact World.cell?_alloc_mark _ _ _ _ _ | simp)) (by intro u hu; simp only [List.mem_cons, List.not_mem_nil, or_false] at hu; subst hu; rfl) (by unfold maxLen; omega) (by omega) (Below.size (B := wx.heap.size) (by exact And.right (by assumption))) ?_
         intro v2' w2' ho2 hg2
         have hB2 : Below wx.heap.size wx w2' := Below.grown (by exact And.right (by assumption)) hg2 (Below.size (B := wx.heap.size) (by exact And.right (by assumption))) (Tr.owns_base ho1)))
  all_goals
    have LZ := LX.below hB2
    have XZ := XX.below hB2 XX.lt
    have OZ := OX.below hB2 OX.lt
    have FZ := (F1.behind BX).behind hB2
    have y2 := XZ.cell 0
    have o0 := OZ.cell 0
    have o1 := OZ.cell 1
    have o2 := OZ.cell 2
    have o3 := OZ.cell 3
    have o4 := OZ.cell 4
    have o5 := OZ.cell 5
    simp only [List.getElem?_cons_zero, List.getElem?_cons_succ] at y2 o0 o1 o2 o3 o4 o5
    clear hB2 hg2 hB1 hg1 ho1
    go_wp2_with fail
    refine (l5Kids_any 13 _ (by decide) (by decide)).mono ?_
    rintro e wk ⟨rfl, hwk⟩
    subst hwk
    go_wp2_with fail
    refine (l5Kids_any 13 _ (by decide) (by decide)).mono ?_
    rintro e wk ⟨rfl, hwk⟩
    subst hwk
    go_wp2_with fail
    refine (l6Put_ld base P tv v1 (.slice none 0 0) s1 9 q1 0 0 0 [] _ LZ (Lw.res_nil _ _) (by omega)).mono ?_
    rintro e w5 ⟨v5, rfl, L5, f5⟩
    go_wp2_with fail
    go_ret
    have e1 := unhide E1
    have hq1 := unhide Q1
    subst hq1 e1
    rw [unhide HR]
    exact ⟨v5, rfl, L5, (FZ.trans f5).ahead B0⟩

theorem Lw.lay_14 (rec : Lw.Rec) (n : Nd) (ns : List ByteArray) (s : List Co) : Lw.lay rec (Lw.over 10 (Lw.l1 (.tree n.a))) ns s = ((rec n.a ns s).1 ++ [⟨10, (rec n.a ns s).2, 0, 0, 0, []⟩], [((rec n.a ns s).1.length : Int)]) := rfl
set_option maxRecDepth 100000 in
set_option maxHeartbeats 1000000 in
theorem l6One_14 (base P b0 m mb mc tb lc : Nat) (v nv : Value) (rec : Lw.Rec) (ns : List ByteArray) (s : List Co) (l : List Nd) (i : Nat) (n : Nd) (hi : i < l.length) (hni : n = l.getD i Nd.zero) (hl : l.length ≤ lc) (hl2 : l.length ≤ 1048576) (tv : Value) (htv : tv = .slice (some ⟨tb, 0, none⟩) l.length lc) (T : World → Prop) (hT : ∀ x y, Below base x y → T x → T y) (hrow : ∀ x, T x → Nd.Row x tb 0 l) (w : World) (h : Lw.Ld base P tv w v s) (hn : s.length + m + mb + mc ≤ 2999) (hns : w.ownsRow b0 9 1 nv ns.length (ns.map Value.string)) (hw : T w) (hSa : Lw.Says base P tv nv b0 ns T rec m n.a) (h4 : ns.length ≤ 4000) (hop : n.op = 14) : Calls Try.prog 21 #[.pointer (some ⟨P, 0, none⟩), .int .i64 i, nv] w (Lw.Made base P tv v w ((Lw.lay rec (Lw.form n) ns s).1, (Lw.lay rec (Lw.form n) ns s).2.headD 0)) := by
  obtain ⟨R, hR⟩ : ∃ R, R = ((Lw.lay rec (Lw.form n) ns s).1, (Lw.lay rec (Lw.form n) ns s).2.headD 0) := ⟨_, rfl⟩
  rw [← hR]
  rw [Lw.form_14 hop, Lw.lay_14] at hR
  have HR := hide hR
  have HSa := hide hSa
  obtain ⟨w0, hw0⟩ : ∃ w0, w0 = w.alloc (.cells #[.int .i64 14, .int .i64 n.a, .int .i64 n.b, .int .i64 n.c, .int .i64 n.num, .string n.text] 55) := ⟨_, rfl⟩
  have B0 : Below w.heap.size w w0 := by rw [hw0]; exact (Below.refl _ _).alloc (Nat.le_refl _) _
  have L0 := h.below B0
  have N0 : w0.ownsRow b0 9 1 nv ns.length (ns.map Value.string) := by rw [hw0]; exact hns.alloc _
  have T0 := hT _ _ (B0.mono h.base) hw
  have X0 : Own w0 w.heap.size 55 [.int .i64 14, .int .i64 n.a, .int .i64 n.b, .int .i64 n.c, .int .i64 n.num, .string n.text] := by rw [hw0]; exact ⟨_, heap_alloc_new _ _, rfl⟩
  have p0 := h.own.cell 0
  obtain ⟨f0, f1, f2, f3, f4, f5⟩ := hrow w hw i hi
  simp only [Nat.zero_add] at f0 f1 f2 f3 f4 f5
  rw [← hni] at f0 f1 f2 f3 f4 f5
  rw [hop] at f0
  rw [htv] at p0
  simp only [List.getElem?_cons_zero] at p0
  have hiI : (i : Int) < (l.length : Int) := by omega
  clear h hR hns hSa hw hrow hop hni
  go_enter Try.func21, Try.ntmps21
  have y0 := X0.cell 0
  simp only [List.getElem?_cons_zero, List.getElem?_cons_succ] at y0
  have x1 := X0.cell 1
  simp only [List.getElem?_cons_zero, List.getElem?_cons_succ] at x1
  have c1 := hide ((unhide HSa) v s w0 L0 N0 T0 (by omega))
  go_wp2_with fail
  try rw [← hw0]
  clear hw0 f0 f1 f2 f3 f4 f5 p0
  refine (l5Kids_any 14 w0 (by decide) (by decide)).mono ?_
  rintro e wk ⟨rfl, hwk⟩
  subst hwk
  go_wp2_with fail
  refine (unhide c1).1.mono ?_
  rintro e w1 ⟨v1, he1, l1, f1⟩
  have n1 := (unhide c1).2
  obtain ⟨q1, hq1⟩ : ∃ q, q = (rec n.a ns s).2 := ⟨_, rfl⟩
  rw [← hq1] at he1
  subst he1
  obtain ⟨s1, e1⟩ : ∃ sx, sx = (rec n.a ns s).1 := ⟨_, rfl⟩
  rw [← e1] at l1 n1
  have L1 := l1
  have E1 := hide e1
  have Q1 := hide hq1
  clear e1 l1 hq1 c1 x1
  have F1 := f1
  have N1 := L0.names f1 N0
  have T1 := hT _ _ (L0.frame f1) T0
  have X1 := L0.keep f1 X0 (by decide) (by decide)
  have y1 := X1.cell 0
  simp only [List.getElem?_cons_zero, List.getElem?_cons_succ] at y1
  obtain ⟨t0, ht0, hy0, hy1, hy2⟩ := info_parts Tr.infoT
  obtain ⟨wx, hwx⟩ : ∃ wx, wx = w1.alloc (.cells #[.int .i64 10, .int .i64 q1, .int .i64 0, .int .i64 0, .int .i64 0, .slice none 0 0] 82) := ⟨_, rfl⟩
  have BX : Below w1.heap.size w1 wx := by rw [hwx]; exact (Below.refl _ _).alloc (Nat.le_refl _) _
  have OX : Own wx w1.heap.size 82 [.int .i64 10, .int .i64 q1, .int .i64 0, .int .i64 0, .int .i64 0, .slice none 0 0] := by rw [hwx]; exact ⟨_, heap_alloc_new _ _, rfl⟩
  have XX := X1.below BX X1.lt
  have NX := Tr.owns_below N1 BX
  have LX := L1.below BX
  go_wp2_with fail
  refine (l6Same_14 _).mono ?_
  rintro e wk ⟨rfl, hwk⟩
  subst hwk
  go_wp2_with fail
  try rw [← hwx]
  clear hwx y1
  have KEEP := hide (show ∀ W, Below wx.heap.size wx W → (W.cell? ⟨w.heap.size, 5, none⟩ = some (.string n.text) ∧ Below wx.heap.size wx W) from fun W hb => ⟨(hb.cell (by exact XX.lt)).trans (XX.cell 5), hb⟩)
  have NMV := hide (show ∀ W, Below wx.heap.size wx W → W.ownsRow b0 9 1 nv ns.length (ns.map Value.string) from fun W hb => Tr.owns_below NX hb)
  go_region_held_law (fun w' => w'.cell? ⟨w.heap.size, 5, none⟩ = some (.string n.text) ∧ Below wx.heap.size wx w')
    (first | assumption | exact (unhide KEEP) _ (by assumption) | exact (unhide KEEP) _ (Below.refl _ _).drew | exact (unhide KEEP) _ (Ap.below_alloc (And.right (by assumption))))
    (first
      | (refine Ap.step_append_row ((wx.alloc (.cells #[] 9)).drew) rfl (.tmp 83) (.tmp 84) 57 rfl wx.heap.size 9 t0 (.string ByteArray.empty) 16 Try.underlying57 ht0 hy0 hy1 hy2 rfl (.slice (some ⟨wx.heap.size, 0, none⟩) 0 0) 0 [] rfl (Ap.owns_empty (by omega) (Ap.heapE _ _)) b0 9 _ ns.length (ns.map Value.string) rfl ((unhide NMV) _ (by exact And.right (by assumption))) (Tr.strs_plain ns) (by unfold maxLen; omega) (by omega) (Below.size (B := wx.heap.size) (by exact And.right (by assumption))) ?_
         intro v1' w1' ho1 hg1
         have hB1 : Below wx.heap.size wx w1' := Below.grown (by exact And.right (by assumption)) hg1 (Below.size (B := wx.heap.size) (by exact And.right (by assumption))) (by intro q hq; simp only [Value.ownBlock, Option.some.injEq] at hq; omega))
      | (refine Ap.step_append_row (((wx.alloc (.cells #[] 9)).alloc (.cells #[.string n.text] 9)).drew) rfl (.tmp 83) (.tmp 84) 57 rfl wx.heap.size 9 t0 (.string ByteArray.empty) 16 Try.underlying57 ht0 hy0 hy1 hy2 rfl (.slice (some ⟨wx.heap.size, 0, none⟩) 0 0) 0 [] rfl (Ap.owns_empty (by omega) (Ap.heapEK _ _ _)) b0 9 _ ns.length (ns.map Value.string) rfl ((unhide NMV) _ (by exact And.right (by assumption))) (Tr.strs_plain ns) (by unfold maxLen; omega) (by omega) (Below.size (B := wx.heap.size) (by exact And.right (by assumption))) ?_
         intro v1' w1' ho1 hg1
         have hB1 : Below wx.heap.size wx w1' := Below.grown (by exact And.right (by assumption)) hg1 (Below.size (B := wx.heap.size) (by exact And.right (by assumption))) (by intro q hq; simp only [Value.ownBlock, Option.some.injEq] at hq; omega)
         have hk1 : w1'.cell? ⟨wx.heap.size + 1, 0, none⟩ = some (.string n.text) := (World.grownBy.cell_far hg1 ⟨wx.heap.size + 1, 0, none⟩ (by simp) (Ap.ne_own (wx.heap.size + 1) wx.heap.size 0 0 (by omega))).trans (Ap.cellEK _ _ _))
      | (refine Ap.step_append_row (((wx.alloc (.cells #[.string n.text] 9)).alloc (.cells #[] 9)).drew) rfl (.tmp 83) (.tmp 84) 57 rfl wx.heap.size 9 t0 (.string ByteArray.empty) 16 Try.underlying57 ht0 hy0 hy1 hy2 rfl (.slice (some ⟨wx.heap.size + 1, 0, none⟩) 0 0) 0 [] rfl (Ap.owns_empty (by omega) (Ap.heapKE _ _ _)) b0 9 _ ns.length (ns.map Value.string) rfl ((unhide NMV) _ (by exact And.right (by assumption))) (Tr.strs_plain ns) (by unfold maxLen; omega) (by omega) (Below.size (B := wx.heap.size) (by exact And.right (by assumption))) ?_
         intro v1' w1' ho1 hg1
         have hB1 : Below wx.heap.size wx w1' := Below.grown (by exact And.right (by assumption)) hg1 (Below.size (B := wx.heap.size) (by exact And.right (by assumption))) (by intro q hq; simp only [Value.ownBlock, Option.some.injEq] at hq; omega)
         have hk1 : w1'.cell? ⟨wx.heap.size, 0, none⟩ = some (.string n.text) := (World.grownBy.cell_far hg1 ⟨wx.heap.size, 0, none⟩ (by simp <;> omega) (Ap.ne_own wx.heap.size (wx.heap.size + 1) 0 0 (by omega))).trans (Ap.cellKE _ _ _))
      | (refine Ap.step_append_any _ rfl (.tmp 85) (.tmp 88) 57 rfl wx.heap.size 9 t0 (.string ByteArray.empty) 1 16 Try.underlying57 ht0 hy0 hy1 hy2 rfl (by decide) _ (0 + ns.length) _ rfl (by first | exact ho1 | exact ho1.alloc _) _ _ _ [.string n.text] rfl rfl (Ap.one_of (by first | assumption | exact World.cell?_alloc_mark _ _ _ _ _ | simp)) (by intro u hu; simp only [List.mem_cons, List.not_mem_nil, or_false] at hu; subst hu; rfl) (by unfold maxLen; omega) (by omega) (Below.size (B := wx.heap.size) (by exact And.right (by assumption))) ?_
         intro v2' w2' ho2 hg2
         have hB2 : Below wx.heap.size wx w2' := Below.grown (by exact And.right (by assumption)) hg2 (Below.size (B := wx.heap.size) (by exact And.right (by assumption))) (Tr.owns_base ho1)))
  all_goals
    have LZ := LX.below hB2
    have XZ := XX.below hB2 XX.lt
    have OZ := OX.below hB2 OX.lt
    have FZ := (F1.behind BX).behind hB2
    have y2 := XZ.cell 0
    have o0 := OZ.cell 0
    have o1 := OZ.cell 1
    have o2 := OZ.cell 2
    have o3 := OZ.cell 3
    have o4 := OZ.cell 4
    have o5 := OZ.cell 5
    simp only [List.getElem?_cons_zero, List.getElem?_cons_succ] at y2 o0 o1 o2 o3 o4 o5
    clear hB2 hg2 hB1 hg1 ho1
    go_wp2_with fail
    refine (l5Kids_any 14 _ (by decide) (by decide)).mono ?_
    rintro e wk ⟨rfl, hwk⟩
    subst hwk
    go_wp2_with fail
    refine (l5Kids_any 14 _ (by decide) (by decide)).mono ?_
    rintro e wk ⟨rfl, hwk⟩
    subst hwk
    go_wp2_with fail
    refine (l6Put_ld base P tv v1 (.slice none 0 0) s1 10 q1 0 0 0 [] _ LZ (Lw.res_nil _ _) (by omega)).mono ?_
    rintro e w5 ⟨v5, rfl, L5, f5⟩
    go_wp2_with fail
    go_ret
    have e1 := unhide E1
    have hq1 := unhide Q1
    subst hq1 e1
    rw [unhide HR]
    exact ⟨v5, rfl, L5, (FZ.trans f5).ahead B0⟩

end Go.Proofs.Ytmbefapdckhjdaa
