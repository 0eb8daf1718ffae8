/-
  spec.l6One: arms 5, 6.
-/
import Derived.Test.YtmbefapdckhjdaaLowU
import Derived.Deep.RegionWith
import Derived.Deep.RegionHeld3
namespace Go.Proofs.Ytmbefapdckhjdaa
open Go.RowKit
set_option linter.unusedVariables false
set_option linter.unusedSimpArgs false


namespace Lw
theorem own_set {w : World} {c : Nat} {t : TypeId} {xs : List Value} (ho : Own w c t xs) {d j : Nat} {ys : List Value} (hd : Own w d 82 ys) (ht : t ≠ 82) (x : Value) : Own (w.setCell ⟨d, j, none⟩ x) c t xs := by
  have hne : c ≠ d := by
    intro e
    subst e
    obtain ⟨r, a1, _⟩ := ho
    obtain ⟨r', b1, _⟩ := hd
    rw [a1] at b1
    simp only [Option.some.injEq, Obj.cells.injEq] at b1
    exact ht b1.2.1
  obtain ⟨r, a1, a2⟩ := ho
  exact ⟨r, (heap_setCell_other _ ⟨d, j, none⟩ c x hne).trans a1, a2⟩
theorem names_set {w : World} {b0 n : Nat} {nv : Value} {xs : List Value} (h : w.ownsRow b0 9 1 nv n xs) {d j : Nat} {ys : List Value} (hd : Own w d 82 ys) (x : Value) : (w.setCell ⟨d, j, none⟩ x).ownsRow b0 9 1 nv n xs := by
  obtain ⟨h1, ⟨h2, h3⟩ | ⟨g, cap, cur, h4, hg, hh, h5⟩⟩ := h
  · exact ⟨h1, .inl ⟨h2, h3⟩⟩
  · refine ⟨h1, .inr ⟨g, cap, cur, h4, hg, (heap_setCell_other _ ⟨d, j, none⟩ g x ?_).trans hh, h5⟩⟩
    intro e
    have e' : g = d := e
    subst e'
    obtain ⟨r', b1, _⟩ := hd
    rw [hh] at b1
    simp only [Option.some.injEq, Obj.cells.injEq] at b1
    exact absurd b1.2.1 (by decide)
theorem names_slice {w : World} {b0 n : Nat} {nv : Value} {xs : List Value} (h : w.ownsRow b0 9 1 nv n xs) : ∃ a c, nv = .slice a n c := by
  obtain ⟨h1, ⟨h2, h3⟩ | ⟨g, cap, cur, h4, hg, hh, h5⟩⟩ := h
  · exact ⟨none, 0, by rw [h2, h3]⟩
  · exact ⟨_, cap, h4⟩
theorem set_below {w : World} {base d j : Nat} (h : base ≤ d) (x : Value) : Below base w (w.setCell ⟨d, j, none⟩ x) := (Below.refl base w).setCell h _
theorem res_set {w u : World} {B d j : Nat} {s x : Value} {l : List M.Cl} {ys : List Value} (h : Res w B s l) (hd : Own w d 82 ys) (hu : u = w.setCell ⟨d, j, none⟩ x) : Res u B s l := by
  rw [hu]
  exact h.setOther _ _ fun b hb e => res_ne h hd (by decide) (by rw [hb]; exact congrArg some e)
end Lw

theorem Lw.lay_5 (rec : Lw.Rec) (n : Nd) (ns : List ByteArray) (s : List Co) : Lw.lay rec (Lw.over 3 (Lw.l2 (.tree n.a) (.tree n.b))) ns s = ((rec n.b ns (rec n.a ns s).1).1 ++ [⟨3, (rec n.a ns s).2, (rec n.b ns (rec n.a ns s).1).2, 0, 0, []⟩], [((rec n.b ns (rec n.a ns s).1).1.length : Int)]) := rfl
set_option maxRecDepth 100000 in
set_option maxHeartbeats 4000000 in
theorem l6One_5 (base P b0 m mb mc tb lc : Nat) (v nv : Value) (rec : Lw.Rec) (ns : List ByteArray) (s : List Co) (l : List Nd) (i : Nat) (n : Nd) (hi : i < l.length) (hni : n = l.getD i Nd.zero) (hl : l.length ≤ lc) (hl2 : l.length ≤ 1048576) (tv : Value) (htv : tv = .slice (some ⟨tb, 0, none⟩) l.length lc) (T : World → Prop) (hT : ∀ x y, Below base x y → T x → T y) (hrow : ∀ x, T x → Nd.Row x tb 0 l) (w : World) (h : Lw.Ld base P tv w v s) (hn : s.length + m + mb + mc ≤ 2999) (hns : w.ownsRow b0 9 1 nv ns.length (ns.map Value.string)) (hw : T w) (hSa : Lw.Says base P tv nv b0 ns T rec m n.a) (hSb : Lw.Says base P tv nv b0 ns T rec mb n.b) (h4 : ns.length ≤ 4000) (hop : n.op = 5) : Calls Try.prog 21 #[.pointer (some ⟨P, 0, none⟩), .int .i64 i, nv] w (Lw.Made base P tv v w ((Lw.lay rec (Lw.form n) ns s).1, (Lw.lay rec (Lw.form n) ns s).2.headD 0)) := by
  obtain ⟨R, hR⟩ : ∃ R, R = ((Lw.lay rec (Lw.form n) ns s).1, (Lw.lay rec (Lw.form n) ns s).2.headD 0) := ⟨_, rfl⟩
  rw [← hR]
  rw [Lw.form_5 hop, Lw.lay_5] at hR
  have HR := hide hR
  have HSa := hide hSa
  have HSb := hide hSb
  obtain ⟨w0, hw0⟩ : ∃ w0, w0 = w.alloc (.cells #[.int .i64 5, .int .i64 n.a, .int .i64 n.b, .int .i64 n.c, .int .i64 n.num, .string n.text] 55) := ⟨_, rfl⟩
  have B0 : Below w.heap.size w w0 := by rw [hw0]; exact (Below.refl _ _).alloc (Nat.le_refl _) _
  have L0 := h.below B0
  have N0 : w0.ownsRow b0 9 1 nv ns.length (ns.map Value.string) := by rw [hw0]; exact hns.alloc _
  have T0 := hT _ _ (B0.mono h.base) hw
  have X0 : Own w0 w.heap.size 55 [.int .i64 5, .int .i64 n.a, .int .i64 n.b, .int .i64 n.c, .int .i64 n.num, .string n.text] := by rw [hw0]; exact ⟨_, heap_alloc_new _ _, rfl⟩
  have p0 := h.own.cell 0
  obtain ⟨f0, f1, f2, f3, f4, f5⟩ := hrow w hw i hi
  simp only [Nat.zero_add] at f0 f1 f2 f3 f4 f5
  rw [← hni] at f0 f1 f2 f3 f4 f5
  rw [hop] at f0
  rw [htv] at p0
  simp only [List.getElem?_cons_zero] at p0
  have hiI : (i : Int) < (l.length : Int) := by omega
  clear h hR hns hSa hSb hw hrow hop hni
  go_enter Try.func21, Try.ntmps21
  have y0 := X0.cell 0
  simp only [List.getElem?_cons_zero, List.getElem?_cons_succ] at y0
  have x1 := X0.cell 1
  simp only [List.getElem?_cons_zero, List.getElem?_cons_succ] at x1
  have c1 := hide ((unhide HSa) v s w0 L0 N0 T0 (by omega))
  go_wp2_with fail
  try rw [← hw0]
  clear hw0 f0 f1 f2 f3 f4 f5 p0
  refine (l5Kids_any 5 w0 (by decide) (by decide)).mono ?_
  rintro e wk ⟨rfl, hwk⟩
  rw [hwk]
  clear hwk
  go_wp2_with fail
  refine (unhide c1).1.mono ?_
  rintro e w1 ⟨v1, he1, l1, f1⟩
  have n1 := (unhide c1).2
  obtain ⟨q1, hq1⟩ : ∃ q, q = (rec n.a ns s).2 := ⟨_, rfl⟩
  rw [← hq1] at he1
  subst he1
  obtain ⟨s1, e1⟩ : ∃ sx, sx = (rec n.a ns s).1 := ⟨_, rfl⟩
  rw [← e1] at l1 n1
  have L1 := l1
  have E1 := hide e1
  have Q1 := hide hq1
  clear e1 l1 hq1 c1 x1
  have F1 := f1
  have N1 := L0.names f1 N0
  have T1 := hT _ _ (L0.frame f1) T0
  have X1 := L0.keep f1 X0 (by decide) (by decide)
  have y1 := X1.cell 0
  simp only [List.getElem?_cons_zero, List.getElem?_cons_succ] at y1
  obtain ⟨t0, ht0, hy0, hy1, hy2⟩ := info_parts Tr.infoT
  obtain ⟨wx, hwx⟩ : ∃ wx, wx = w1.alloc (.cells #[.int .i64 3, .int .i64 q1, .int .i64 0, .int .i64 0, .int .i64 0, .slice none 0 0] 82) := ⟨_, rfl⟩
  have BX : Below w1.heap.size w1 wx := by rw [hwx]; exact (Below.refl _ _).alloc (Nat.le_refl _) _
  have OX : Own wx w1.heap.size 82 [.int .i64 3, .int .i64 q1, .int .i64 0, .int .i64 0, .int .i64 0, .slice none 0 0] := by rw [hwx]; exact ⟨_, heap_alloc_new _ _, rfl⟩
  have XX := X1.below BX X1.lt
  have NX := Tr.owns_below N1 BX
  have TX := hT _ _ (BX.mono L1.base) T1
  have LX := L1.below BX
  have G1 := L1.fresh (Nat.le_refl w1.heap.size)
  have hne1 : ¬ w1.heap.size = w.heap.size := by have := X1.lt; omega
  have hne2 : ¬ w.heap.size = w1.heap.size := by have := X1.lt; omega
  have hsz1 : w0.heap.size ≤ w1.heap.size := F1.size
  have hbs1 : base ≤ w1.heap.size := L1.base
  go_wp2_with fail
  refine (l6Same_5 _).mono ?_
  rintro e wk ⟨rfl, hwk⟩
  rw [hwk]
  clear hwk
  go_wp2_with fail
  try rw [← hwx]
  clear hwx y1
  have KEEP := hide (show ∀ W, Below wx.heap.size wx W → (W.cell? ⟨w.heap.size, 5, none⟩ = some (.string n.text) ∧ Below wx.heap.size wx W) from fun W hb => ⟨(hb.cell (by exact XX.lt)).trans (XX.cell 5), hb⟩)
  have NMV := hide (show ∀ W, Below wx.heap.size wx W → W.ownsRow b0 9 1 nv ns.length (ns.map Value.string) from fun W hb => Tr.owns_below NX hb)
  go_region_held_law (fun w' => w'.cell? ⟨w.heap.size, 5, none⟩ = some (.string n.text) ∧ Below wx.heap.size wx w')
    (first | assumption | exact (unhide KEEP) _ (by assumption) | exact (unhide KEEP) _ (Below.refl _ _).drew | exact (unhide KEEP) _ (Ap.below_alloc (And.right (by assumption))))
    (first
      | (refine Ap.step_append_row ((wx.alloc (.cells #[] 9)).drew) rfl (.tmp 83) (.tmp 84) 57 rfl wx.heap.size 9 t0 (.string ByteArray.empty) 16 Try.underlying57 ht0 hy0 hy1 hy2 rfl (.slice (some ⟨wx.heap.size, 0, none⟩) 0 0) 0 [] rfl (Ap.owns_empty (by omega) (Ap.heapE _ _)) b0 9 _ ns.length (ns.map Value.string) rfl ((unhide NMV) _ (by exact And.right (by assumption))) (Tr.strs_plain ns) (by unfold maxLen; omega) (by omega) (Below.size (B := wx.heap.size) (by exact And.right (by assumption))) ?_
         intro v1' w1' ho1 hg1
         have hB1 : Below wx.heap.size wx w1' := Below.grown (by exact And.right (by assumption)) hg1 (Below.size (B := wx.heap.size) (by exact And.right (by assumption))) (by intro q hq; simp only [Value.ownBlock, Option.some.injEq] at hq; omega))
      | (refine Ap.step_append_row (((wx.alloc (.cells #[] 9)).alloc (.cells #[.string n.text] 9)).drew) rfl (.tmp 83) (.tmp 84) 57 rfl wx.heap.size 9 t0 (.string ByteArray.empty) 16 Try.underlying57 ht0 hy0 hy1 hy2 rfl (.slice (some ⟨wx.heap.size, 0, none⟩) 0 0) 0 [] rfl (Ap.owns_empty (by omega) (Ap.heapEK _ _ _)) b0 9 _ ns.length (ns.map Value.string) rfl ((unhide NMV) _ (by exact And.right (by assumption))) (Tr.strs_plain ns) (by unfold maxLen; omega) (by omega) (Below.size (B := wx.heap.size) (by exact And.right (by assumption))) ?_
         intro v1' w1' ho1 hg1
         have hB1 : Below wx.heap.size wx w1' := Below.grown (by exact And.right (by assumption)) hg1 (Below.size (B := wx.heap.size) (by exact And.right (by assumption))) (by intro q hq; simp only [Value.ownBlock, Option.some.injEq] at hq; omega)
         have hk1 : w1'.cell? ⟨wx.heap.size + 1, 0, none⟩ = some (.string n.text) := (World.grownBy.cell_far hg1 ⟨wx.heap.size + 1, 0, none⟩ (by simp) (Ap.ne_own (wx.heap.size + 1) wx.heap.size 0 0 (by omega))).trans (Ap.cellEK _ _ _))
      | (refine Ap.step_append_row (((wx.alloc (.cells #[.string n.text] 9)).alloc (.cells #[] 9)).drew) rfl (.tmp 83) (.tmp 84) 57 rfl wx.heap.size 9 t0 (.string ByteArray.empty) 16 Try.underlying57 ht0 hy0 hy1 hy2 rfl (.slice (some ⟨wx.heap.size + 1, 0, none⟩) 0 0) 0 [] rfl (Ap.owns_empty (by omega) (Ap.heapKE _ _ _)) b0 9 _ ns.length (ns.map Value.string) rfl ((unhide NMV) _ (by exact And.right (by assumption))) (Tr.strs_plain ns) (by unfold maxLen; omega) (by omega) (Below.size (B := wx.heap.size) (by exact And.right (by assumption))) ?_
         intro v1' w1' ho1 hg1
         have hB1 : Below wx.heap.size wx w1' := Below.grown (by exact And.right (by assumption)) hg1 (Below.size (B := wx.heap.size) (by exact And.right (by assumption))) (by intro q hq; simp only [Value.ownBlock, Option.some.injEq] at hq; omega)
         have hk1 : w1'.cell? ⟨wx.heap.size, 0, none⟩ = some (.string n.text) := (World.grownBy.cell_far hg1 ⟨wx.heap.size, 0, none⟩ (by simp <;> omega) (Ap.ne_own wx.heap.size (wx.heap.size + 1) 0 0 (by omega))).trans (Ap.cellKE _ _ _))
      | (refine Ap.step_append_any _ rfl (.tmp 85) (.tmp 88) 57 rfl wx.heap.size 9 t0 (.string ByteArray.empty) 1 16 Try.underlying57 ht0 hy0 hy1 hy2 rfl (by decide) _ (0 + ns.length) _ rfl (by first | exact ho1 | exact ho1.alloc _) _ _ _ [.string n.text] rfl rfl (Ap.one_of (by first | assumption | exact World.cell?_alloc_mark _ _ _ _ _ | simp)) (by intro u hu; simp only [List.mem_cons, List.not_mem_nil, or_false] at hu; subst hu; rfl) (by unfold maxLen; omega) (by omega) (Below.size (B := wx.heap.size) (by exact And.right (by assumption))) ?_
         intro v2' w2' ho2 hg2
         have hB2 : Below wx.heap.size wx w2' := Below.grown (by exact And.right (by assumption)) hg2 (Below.size (B := wx.heap.size) (by exact And.right (by assumption))) (Tr.owns_base ho1)))
  all_goals
    have LZ := LX.below hB2
    have XZ := XX.below hB2 XX.lt
    have OZ := OX.below hB2 OX.lt
    have FZ := (F1.behind BX).behind hB2
    have NZ := Tr.owns_below NX hB2
    have TZ := hT _ _ (hB2.mono LX.base) TX
    generalize w2' = wz at *
    clear hB2 hg2 hB1 hg1 ho1 ho2
    have a10 := XZ.cell 0
    have a11 := XZ.cell 1
    have a12 := XZ.cell 2
    have a13 := XZ.cell 3
    have a14 := XZ.cell 4
    have a15 := XZ.cell 5
    have o10 := OZ.cell 0
    have o11 := OZ.cell 1
    have o12 := OZ.cell 2
    have o13 := OZ.cell 3
    have o14 := OZ.cell 4
    have o15 := OZ.cell 5
    simp only [List.getElem?_cons_zero, List.getElem?_cons_succ] at a10 a11 a12 a13 a14 a15 o10 o11 o12 o13 o14 o15
    have z10 := OZ.frozen 0
    have z11 := OZ.frozen 1
    have z12 := OZ.frozen 2
    have z13 := OZ.frozen 3
    have z14 := OZ.frozen 4
    have z15 := OZ.frozen 5
    go_wp2_with fail
    clear a10 a11 a12 a13 a14 a15 o10 o11 o12 o13 o14 o15 z10 z11 z12 z13 z14 z15
    refine (l5Kids_any 5 _ (by decide) (by decide)).mono ?_
    rintro e wk ⟨rfl, hwk⟩
    rw [hwk]
    clear hwk
    have a20 := XZ.cell 0
    have a21 := XZ.cell 1
    have a22 := XZ.cell 2
    have a23 := XZ.cell 3
    have a24 := XZ.cell 4
    have a25 := XZ.cell 5
    have o20 := OZ.cell 0
    have o21 := OZ.cell 1
    have o22 := OZ.cell 2
    have o23 := OZ.cell 3
    have o24 := OZ.cell 4
    have o25 := OZ.cell 5
    simp only [List.getElem?_cons_zero, List.getElem?_cons_succ] at a20 a21 a22 a23 a24 a25 o20 o21 o22 o23 o24 o25
    have z20 := OZ.frozen 0
    have z21 := OZ.frozen 1
    have z22 := OZ.frozen 2
    have z23 := OZ.frozen 3
    have z24 := OZ.frozen 4
    have z25 := OZ.frozen 5
    have c2 := hide ((unhide HSb) v1 s1 wz LZ NZ TZ (by omega))
    go_wp2_with fail
    clear a20 a21 a22 a23 a24 a25 o20 o21 o22 o23 o24 o25 z20 z21 z22 z23 z24 z25
    refine (unhide c2).1.mono ?_
    rintro e w2 ⟨v2, he2, l2, f2⟩
    have n2 := (unhide c2).2
    obtain ⟨q2, hq2⟩ : ∃ q, q = (rec n.b ns s1).2 := ⟨_, rfl⟩
    rw [← hq2] at he2
    subst he2
    obtain ⟨s2, e2⟩ : ∃ sx, sx = (rec n.b ns s1).1 := ⟨_, rfl⟩
    rw [← e2] at l2 n2
    have L2 := l2
    have E2 := hide e2
    have Q2 := hide hq2
    clear e2 l2 hq2 c2
    have F2 := FZ.trans f2
    have N2 := LZ.names f2 NZ
    have T2 := hT _ _ (LZ.frame f2) TZ
    have X2 := LZ.keep f2 XZ (by decide) (by decide)
    have OB2 := f2.box OZ G1.1 G1.2
    have O2 := OB2.1
    have G2 : w1.heap.size ≠ P ∧ v2.ownBlock ≠ some w1.heap.size := ⟨G1.1, OB2.2⟩
    have a30 := X2.cell 0
    have a31 := X2.cell 1
    have a32 := X2.cell 2
    have a33 := X2.cell 3
    have a34 := X2.cell 4
    have a35 := X2.cell 5
    have o30 := O2.cell 0
    have o31 := O2.cell 1
    have o32 := O2.cell 2
    have o33 := O2.cell 3
    have o34 := O2.cell 4
    have o35 := O2.cell 5
    simp only [List.getElem?_cons_zero, List.getElem?_cons_succ] at a30 a31 a32 a33 a34 a35 o30 o31 o32 o33 o34 o35
    have z30 := O2.frozen 0
    have z31 := O2.frozen 1
    have z32 := O2.frozen 2
    have z33 := O2.frozen 3
    have z34 := O2.frozen 4
    have z35 := O2.frozen 5
    obtain ⟨u1, hu1⟩ : ∃ u, u = w2.setCell ⟨w1.heap.size, 2, none⟩ (.int .i64 q2) := ⟨_, rfl⟩
    have OS1 := O2.set 2 (.int .i64 q2)
    have XS1 := Lw.own_set (j := 2) X2 O2 (by decide) (.int .i64 q2)
    have NS1 := Lw.names_set (j := 2) N2 O2 (.int .i64 q2)
    have TS1 := hT _ _ (Lw.set_below (w := w2) (d := w1.heap.size) (j := 2) (by have := L1.base; omega) (.int .i64 q2)) T2
    have LS1 := L2.set (j := 2) G2.1 G2.2 (.int .i64 q2) ⟨_, O2⟩
    have FS1 := F2.set (j := 2) (c := w1.heap.size) (by omega) (.int .i64 q2)
    simp only [List.set_cons_zero, List.set_cons_succ] at OS1
    rw [← hu1] at OS1 XS1 NS1 TS1 LS1 FS1
    go_wp2_with fail
    try rw [← hu1]
    clear hu1
    clear a30 a31 a32 a33 a34 a35 o30 o31 o32 o33 o34 o35 z30 z31 z32 z33 z34 z35
    refine (l6Put_ld base P tv v2 (.slice none 0 0) s2 3 q1 q2 0 0 [] _ LS1 (Lw.res_nil _ _) (by omega)).mono ?_
    rintro e w9 ⟨v9, rfl, L9, f9⟩
    go_wp2_with fail
    go_ret
    have e1 := unhide E1
    have e2 := unhide E2
    have hq1 := unhide Q1
    have hq2 := unhide Q2
    subst hq2 e2 hq1 e1
    rw [unhide HR]
    exact ⟨v9, rfl, L9, (FS1.trans f9).ahead B0⟩

theorem Lw.lay_6 (rec : Lw.Rec) (n : Nd) (ns : List ByteArray) (s : List Co) : Lw.lay rec (Lw.over 4 (Lw.l2 (.tree n.a) (.tree n.b))) ns s = ((rec n.b ns (rec n.a ns s).1).1 ++ [⟨4, (rec n.a ns s).2, (rec n.b ns (rec n.a ns s).1).2, 0, 0, []⟩], [((rec n.b ns (rec n.a ns s).1).1.length : Int)]) := rfl
set_option maxRecDepth 100000 in
set_option maxHeartbeats 4000000 in
theorem l6One_6 (base P b0 m mb mc tb lc : Nat) (v nv : Value) (rec : Lw.Rec) (ns : List ByteArray) (s : List Co) (l : List Nd) (i : Nat) (n : Nd) (hi : i < l.length) (hni : n = l.getD i Nd.zero) (hl : l.length ≤ lc) (hl2 : l.length ≤ 1048576) (tv : Value) (htv : tv = .slice (some ⟨tb, 0, none⟩) l.length lc) (T : World → Prop) (hT : ∀ x y, Below base x y → T x → T y) (hrow : ∀ x, T x → Nd.Row x tb 0 l) (w : World) (h : Lw.Ld base P tv w v s) (hn : s.length + m + mb + mc ≤ 2999) (hns : w.ownsRow b0 9 1 nv ns.length (ns.map Value.string)) (hw : T w) (hSa : Lw.Says base P tv nv b0 ns T rec m n.a) (hSb : Lw.Says base P tv nv b0 ns T rec mb n.b) (h4 : ns.length ≤ 4000) (hop : n.op = 6) : Calls Try.prog 21 #[.pointer (some ⟨P, 0, none⟩), .int .i64 i, nv] w (Lw.Made base P tv v w ((Lw.lay rec (Lw.form n) ns s).1, (Lw.lay rec (Lw.form n) ns s).2.headD 0)) := by
  obtain ⟨R, hR⟩ : ∃ R, R = ((Lw.lay rec (Lw.form n) ns s).1, (Lw.lay rec (Lw.form n) ns s).2.headD 0) := ⟨_, rfl⟩
  rw [← hR]
  rw [Lw.form_6 hop, Lw.lay_6] at hR
  have HR := hide hR
  have HSa := hide hSa
  have HSb := hide hSb
  obtain ⟨w0, hw0⟩ : ∃ w0, w0 = w.alloc (.cells #[.int .i64 6, .int .i64 n.a, .int .i64 n.b, .int .i64 n.c, .int .i64 n.num, .string n.text] 55) := ⟨_, rfl⟩
  have B0 : Below w.heap.size w w0 := by rw [hw0]; exact (Below.refl _ _).alloc (Nat.le_refl _) _
  have L0 := h.below B0
  have N0 : w0.ownsRow b0 9 1 nv ns.length (ns.map Value.string) := by rw [hw0]; exact hns.alloc _
  have T0 := hT _ _ (B0.mono h.base) hw
  have X0 : Own w0 w.heap.size 55 [.int .i64 6, .int .i64 n.a, .int .i64 n.b, .int .i64 n.c, .int .i64 n.num, .string n.text] := by rw [hw0]; exact ⟨_, heap_alloc_new _ _, rfl⟩
  have p0 := h.own.cell 0
  obtain ⟨f0, f1, f2, f3, f4, f5⟩ := hrow w hw i hi
  simp only [Nat.zero_add] at f0 f1 f2 f3 f4 f5
  rw [← hni] at f0 f1 f2 f3 f4 f5
  rw [hop] at f0
  rw [htv] at p0
  simp only [List.getElem?_cons_zero] at p0
  have hiI : (i : Int) < (l.length : Int) := by omega
  clear h hR hns hSa hSb hw hrow hop hni
  go_enter Try.func21, Try.ntmps21
  have y0 := X0.cell 0
  simp only [List.getElem?_cons_zero, List.getElem?_cons_succ] at y0
  have x1 := X0.cell 1
  simp only [List.getElem?_cons_zero, List.getElem?_cons_succ] at x1
  have c1 := hide ((unhide HSa) v s w0 L0 N0 T0 (by omega))
  go_wp2_with fail
  try rw [← hw0]
  clear hw0 f0 f1 f2 f3 f4 f5 p0
  refine (l5Kids_any 6 w0 (by decide) (by decide)).mono ?_
  rintro e wk ⟨rfl, hwk⟩
  rw [hwk]
  clear hwk
  go_wp2_with fail
  refine (unhide c1).1.mono ?_
  rintro e w1 ⟨v1, he1, l1, f1⟩
  have n1 := (unhide c1).2
  obtain ⟨q1, hq1⟩ : ∃ q, q = (rec n.a ns s).2 := ⟨_, rfl⟩
  rw [← hq1] at he1
  subst he1
  obtain ⟨s1, e1⟩ : ∃ sx, sx = (rec n.a ns s).1 := ⟨_, rfl⟩
  rw [← e1] at l1 n1
  have L1 := l1
  have E1 := hide e1
  have Q1 := hide hq1
  clear e1 l1 hq1 c1 x1
  have F1 := f1
  have N1 := L0.names f1 N0
  have T1 := hT _ _ (L0.frame f1) T0
  have X1 := L0.keep f1 X0 (by decide) (by decide)
  have y1 := X1.cell 0
  simp only [List.getElem?_cons_zero, List.getElem?_cons_succ] at y1
  obtain ⟨t0, ht0, hy0, hy1, hy2⟩ := info_parts Tr.infoT
  obtain ⟨wx, hwx⟩ : ∃ wx, wx = w1.alloc (.cells #[.int .i64 4, .int .i64 q1, .int .i64 0, .int .i64 0, .int .i64 0, .slice none 0 0] 82) := ⟨_, rfl⟩
  have BX : Below w1.heap.size w1 wx := by rw [hwx]; exact (Below.refl _ _).alloc (Nat.le_refl _) _
  have OX : Own wx w1.heap.size 82 [.int .i64 4, .int .i64 q1, .int .i64 0, .int .i64 0, .int .i64 0, .slice none 0 0] := by rw [hwx]; exact ⟨_, heap_alloc_new _ _, rfl⟩
  have XX := X1.below BX X1.lt
  have NX := Tr.owns_below N1 BX
  have TX := hT _ _ (BX.mono L1.base) T1
  have LX := L1.below BX
  have G1 := L1.fresh (Nat.le_refl w1.heap.size)
  have hne1 : ¬ w1.heap.size = w.heap.size := by have := X1.lt; omega
  have hne2 : ¬ w.heap.size = w1.heap.size := by have := X1.lt; omega
  have hsz1 : w0.heap.size ≤ w1.heap.size := F1.size
  have hbs1 : base ≤ w1.heap.size := L1.base
  go_wp2_with fail
  refine (l6Same_6 _).mono ?_
  rintro e wk ⟨rfl, hwk⟩
  rw [hwk]
  clear hwk
  go_wp2_with fail
  try rw [← hwx]
  clear hwx y1
  have KEEP := hide (show ∀ W, Below wx.heap.size wx W → (W.cell? ⟨w.heap.size, 5, none⟩ = some (.string n.text) ∧ Below wx.heap.size wx W) from fun W hb => ⟨(hb.cell (by exact XX.lt)).trans (XX.cell 5), hb⟩)
  have NMV := hide (show ∀ W, Below wx.heap.size wx W → W.ownsRow b0 9 1 nv ns.length (ns.map Value.string) from fun W hb => Tr.owns_below NX hb)
  go_region_held_law (fun w' => w'.cell? ⟨w.heap.size, 5, none⟩ = some (.string n.text) ∧ Below wx.heap.size wx w')
    (first | assumption | exact (unhide KEEP) _ (by assumption) | exact (unhide KEEP) _ (Below.refl _ _).drew | exact (unhide KEEP) _ (Ap.below_alloc (And.right (by assumption))))
    (first
      | (refine Ap.step_append_row ((wx.alloc (.cells #[] 9)).drew) rfl (.tmp 83) (.tmp 84) 57 rfl wx.heap.size 9 t0 (.string ByteArray.empty) 16 Try.underlying57 ht0 hy0 hy1 hy2 rfl (.slice (some ⟨wx.heap.size, 0, none⟩) 0 0) 0 [] rfl (Ap.owns_empty (by omega) (Ap.heapE _ _)) b0 9 _ ns.length (ns.map Value.string) rfl ((unhide NMV) _ (by exact And.right (by assumption))) (Tr.strs_plain ns) (by unfold maxLen; omega) (by omega) (Below.size (B := wx.heap.size) (by exact And.right (by assumption))) ?_
         intro v1' w1' ho1 hg1
         have hB1 : Below wx.heap.size wx w1' := Below.grown (by exact And.right (by assumption)) hg1 (Below.size (B := wx.heap.size) (by exact And.right (by assumption))) (by intro q hq; simp only [Value.ownBlock, Option.some.injEq] at hq; omega))
      | (refine Ap.step_append_row (((wx.alloc (.cells #[] 9)).alloc (.cells #[.string n.text] 9)).drew) rfl (.tmp 83) (.tmp 84) 57 rfl wx.heap.size 9 t0 (.string ByteArray.empty) 16 Try.underlying57 ht0 hy0 hy1 hy2 rfl (.slice (some ⟨wx.heap.size, 0, none⟩) 0 0) 0 [] rfl (Ap.owns_empty (by omega) (Ap.heapEK _ _ _)) b0 9 _ ns.length (ns.map Value.string) rfl ((unhide NMV) _ (by exact And.right (by assumption))) (Tr.strs_plain ns) (by unfold maxLen; omega) (by omega) (Below.size (B := wx.heap.size) (by exact And.right (by assumption))) ?_
         intro v1' w1' ho1 hg1
         have hB1 : Below wx.heap.size wx w1' := Below.grown (by exact And.right (by assumption)) hg1 (Below.size (B := wx.heap.size) (by exact And.right (by assumption))) (by intro q hq; simp only [Value.ownBlock, Option.some.injEq] at hq; omega)
         have hk1 : w1'.cell? ⟨wx.heap.size + 1, 0, none⟩ = some (.string n.text) := (World.grownBy.cell_far hg1 ⟨wx.heap.size + 1, 0, none⟩ (by simp) (Ap.ne_own (wx.heap.size + 1) wx.heap.size 0 0 (by omega))).trans (Ap.cellEK _ _ _))
      | (refine Ap.step_append_row (((wx.alloc (.cells #[.string n.text] 9)).alloc (.cells #[] 9)).drew) rfl (.tmp 83) (.tmp 84) 57 rfl wx.heap.size 9 t0 (.string ByteArray.empty) 16 Try.underlying57 ht0 hy0 hy1 hy2 rfl (.slice (some ⟨wx.heap.size + 1, 0, none⟩) 0 0) 0 [] rfl (Ap.owns_empty (by omega) (Ap.heapKE _ _ _)) b0 9 _ ns.length (ns.map Value.string) rfl ((unhide NMV) _ (by exact And.right (by assumption))) (Tr.strs_plain ns) (by unfold maxLen; omega) (by omega) (Below.size (B := wx.heap.size) (by exact And.right (by assumption))) ?_
         intro v1' w1' ho1 hg1
         have hB1 : Below wx.heap.size wx w1' := Below.grown (by exact And.right (by assumption)) hg1 (Below.size (B := wx.heap.size) (by exact And.right (by assumption))) (by intro q hq; simp only [Value.ownBlock, Option.some.injEq] at hq; omega)
         have hk1 : w1'.cell? ⟨wx.heap.size, 0, none⟩ = some (.string n.text) := (World.grownBy.cell_far hg1 ⟨wx.heap.size, 0, none⟩ (by simp <;> omega) (Ap.ne_own wx.heap.size (wx.heap.size + 1) 0 0 (by omega))).trans (Ap.cellKE _ _ _))
      | (refine Ap.step_append_any _ rfl (.tmp 85) (.tmp 88) 57 rfl wx.heap.size 9 t0 (.string ByteArray.empty) 1 16 Try.underlying57 ht0 hy0 hy1 hy2 rfl (by decide) _ (0 + ns.length) _ rfl (by first | exact ho1 | exact ho1.alloc _) _ _ _ [.string n.text] rfl rfl (Ap.one_of (by first | assumption | exact World.cell?_alloc_mark _ _ _ _ _ | simp)) (by intro u hu; simp only [List.mem_cons, List.not_mem_nil, or_false] at hu; subst hu; rfl) (by unfold maxLen; omega) (by omega) (Below.size (B := wx.heap.size) (by exact And.right (by assumption))) ?_
         intro v2' w2' ho2 hg2
         have hB2 : Below wx.heap.size wx w2' := Below.grown (by exact And.right (by assumption)) hg2 (Below.size (B := wx.heap.size) (by exact And.right (by assumption))) (Tr.owns_base ho1)))
  all_goals
    have LZ := LX.below hB2
    have XZ := XX.below hB2 XX.lt
    have OZ := OX.below hB2 OX.lt
    have FZ := (F1.behind BX).behind hB2
    have NZ := Tr.owns_below NX hB2
    have TZ := hT _ _ (hB2.mono LX.base) TX
    generalize w2' = wz at *
    clear hB2 hg2 hB1 hg1 ho1 ho2
    have a10 := XZ.cell 0
    have a11 := XZ.cell 1
    have a12 := XZ.cell 2
    have a13 := XZ.cell 3
    have a14 := XZ.cell 4
    have a15 := XZ.cell 5
    have o10 := OZ.cell 0
    have o11 := OZ.cell 1
    have o12 := OZ.cell 2
    have o13 := OZ.cell 3
    have o14 := OZ.cell 4
    have o15 := OZ.cell 5
    simp only [List.getElem?_cons_zero, List.getElem?_cons_succ] at a10 a11 a12 a13 a14 a15 o10 o11 o12 o13 o14 o15
    have z10 := OZ.frozen 0
    have z11 := OZ.frozen 1
    have z12 := OZ.frozen 2
    have z13 := OZ.frozen 3
    have z14 := OZ.frozen 4
    have z15 := OZ.frozen 5
    go_wp2_with fail
    clear a10 a11 a12 a13 a14 a15 o10 o11 o12 o13 o14 o15 z10 z11 z12 z13 z14 z15
    refine (l5Kids_any 6 _ (by decide) (by decide)).mono ?_
    rintro e wk ⟨rfl, hwk⟩
    rw [hwk]
    clear hwk
    have a20 := XZ.cell 0
    have a21 := XZ.cell 1
    have a22 := XZ.cell 2
    have a23 := XZ.cell 3
    have a24 := XZ.cell 4
    have a25 := XZ.cell 5
    have o20 := OZ.cell 0
    have o21 := OZ.cell 1
    have o22 := OZ.cell 2
    have o23 := OZ.cell 3
    have o24 := OZ.cell 4
    have o25 := OZ.cell 5
    simp only [List.getElem?_cons_zero, List.getElem?_cons_succ] at a20 a21 a22 a23 a24 a25 o20 o21 o22 o23 o24 o25
    have z20 := OZ.frozen 0
    have z21 := OZ.frozen 1
    have z22 := OZ.frozen 2
    have z23 := OZ.frozen 3
    have z24 := OZ.frozen 4
    have z25 := OZ.frozen 5
    have c2 := hide ((unhide HSb) v1 s1 wz LZ NZ TZ (by omega))
    go_wp2_with fail
    clear a20 a21 a22 a23 a24 a25 o20 o21 o22 o23 o24 o25 z20 z21 z22 z23 z24 z25
    refine (unhide c2).1.mono ?_
    rintro e w2 ⟨v2, he2, l2, f2⟩
    have n2 := (unhide c2).2
    obtain ⟨q2, hq2⟩ : ∃ q, q = (rec n.b ns s1).2 := ⟨_, rfl⟩
    rw [← hq2] at he2
    subst he2
    obtain ⟨s2, e2⟩ : ∃ sx, sx = (rec n.b ns s1).1 := ⟨_, rfl⟩
    rw [← e2] at l2 n2
    have L2 := l2
    have E2 := hide e2
    have Q2 := hide hq2
    clear e2 l2 hq2 c2
    have F2 := FZ.trans f2
    have N2 := LZ.names f2 NZ
    have T2 := hT _ _ (LZ.frame f2) TZ
    have X2 := LZ.keep f2 XZ (by decide) (by decide)
    have OB2 := f2.box OZ G1.1 G1.2
    have O2 := OB2.1
    have G2 : w1.heap.size ≠ P ∧ v2.ownBlock ≠ some w1.heap.size := ⟨G1.1, OB2.2⟩
    have a30 := X2.cell 0
    have a31 := X2.cell 1
    have a32 := X2.cell 2
    have a33 := X2.cell 3
    have a34 := X2.cell 4
    have a35 := X2.cell 5
    have o30 := O2.cell 0
    have o31 := O2.cell 1
    have o32 := O2.cell 2
    have o33 := O2.cell 3
    have o34 := O2.cell 4
    have o35 := O2.cell 5
    simp only [List.getElem?_cons_zero, List.getElem?_cons_succ] at a30 a31 a32 a33 a34 a35 o30 o31 o32 o33 o34 o35
    have z30 := O2.frozen 0
    have z31 := O2.frozen 1
    have z32 := O2.frozen 2
    have z33 := O2.frozen 3
    have z34 := O2.frozen 4
    have z35 := O2.frozen 5
    obtain ⟨u1, hu1⟩ : ∃ u, u = w2.setCell ⟨w1.heap.size, 2, none⟩ (.int .i64 q2) := ⟨_, rfl⟩
    have OS1 := O2.set 2 (.int .i64 q2)
    have XS1 := Lw.own_set (j := 2) X2 O2 (by decide) (.int .i64 q2)
    have NS1 := Lw.names_set (j := 2) N2 O2 (.int .i64 q2)
    have TS1 := hT _ _ (Lw.set_below (w := w2) (d := w1.heap.size) (j := 2) (by have := L1.base; omega) (.int .i64 q2)) T2
    have LS1 := L2.set (j := 2) G2.1 G2.2 (.int .i64 q2) ⟨_, O2⟩
    have FS1 := F2.set (j := 2) (c := w1.heap.size) (by omega) (.int .i64 q2)
    simp only [List.set_cons_zero, List.set_cons_succ] at OS1
    rw [← hu1] at OS1 XS1 NS1 TS1 LS1 FS1
    go_wp2_with fail
    try rw [← hu1]
    clear hu1
    clear a30 a31 a32 a33 a34 a35 o30 o31 o32 o33 o34 o35 z30 z31 z32 z33 z34 z35
    refine (l6Put_ld base P tv v2 (.slice none 0 0) s2 4 q1 q2 0 0 [] _ LS1 (Lw.res_nil _ _) (by omega)).mono ?_
    rintro e w9 ⟨v9, rfl, L9, f9⟩
    go_wp2_with fail
    go_ret
    have e1 := unhide E1
    have e2 := unhide E2
    have hq1 := unhide Q1
    have hq2 := unhide Q2
    subst hq2 e2 hq1 e1
    rw [unhide HR]
    exact ⟨v9, rfl, L9, (FS1.trans f9).ahead B0⟩

end Go.Proofs.Ytmbefapdckhjdaa
