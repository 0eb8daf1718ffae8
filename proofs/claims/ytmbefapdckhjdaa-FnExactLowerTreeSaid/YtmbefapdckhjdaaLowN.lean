/-
  spec.l6One: arms 18.
  spec.l6One: arms 19.
  spec.l6One: arms 20.
-/
import Derived.Test.YtmbefapdckhjdaaLowV
import Derived.Deep.RegionWith
import Derived.Deep.RegionHeld3
namespace Go.Proofs.Ytmbefapdckhjdaa
open Go.RowKit
set_option linter.unusedVariables false
set_option linter.unusedSimpArgs false


theorem Lw.lay_18 (rec : Lw.Rec) (n : Nd) (ns : List ByteArray) (s : List Co) : Lw.lay rec (Lw.over 12 (Lw.l3 (.tree n.a) (.tree n.b) (.tree n.c))) ns s = ((rec n.c ns (rec n.b ns (rec n.a ns s).1).1).1 ++ [⟨12, (rec n.a ns s).2, (rec n.b ns (rec n.a ns s).1).2, (rec n.c ns (rec n.b ns (rec n.a ns s).1).1).2, 0, []⟩], [((rec n.c ns (rec n.b ns (rec n.a ns s).1).1).1.length : Int)]) := rfl
set_option maxRecDepth 100000 in
set_option maxHeartbeats 4000000 in
theorem l6One_18 (base P b0 m mb mc tb lc : Nat) (v nv : Value) (rec : Lw.Rec) (ns : List ByteArray) (s : List Co) (l : List Nd) (i : Nat) (n : Nd) (hi : i < l.length) (hni : n = l.getD i Nd.zero) (hl : l.length ≤ lc) (hl2 : l.length ≤ 1048576) (tv : Value) (htv : tv = .slice (some ⟨tb, 0, none⟩) l.length lc) (T : World → Prop) (hT : ∀ x y, Below base x y → T x → T y) (hrow : ∀ x, T x → Nd.Row x tb 0 l) (w : World) (h : Lw.Ld base P tv w v s) (hn : s.length + m + mb + mc ≤ 2999) (hns : w.ownsRow b0 9 1 nv ns.length (ns.map Value.string)) (hw : T w) (hSa : Lw.Says base P tv nv b0 ns T rec m n.a) (hSb : Lw.Says base P tv nv b0 ns T rec mb n.b) (h4 : ns.length ≤ 4000) (hSc : Lw.Says base P tv nv b0 ns T rec mc n.c) (hop : n.op = 18) : Calls Try.prog 21 #[.pointer (some ⟨P, 0, none⟩), .int .i64 i, nv] w (Lw.Made base P tv v w ((Lw.lay rec (Lw.form n) ns s).1, (Lw.lay rec (Lw.form n) ns s).2.headD 0)) := by
  obtain ⟨R, hR⟩ : ∃ R, R = ((Lw.lay rec (Lw.form n) ns s).1, (Lw.lay rec (Lw.form n) ns s).2.headD 0) := ⟨_, rfl⟩
  rw [← hR]
  rw [Lw.form_18 hop, Lw.lay_18] at hR
  have HR := hide hR
  have HSa := hide hSa
  have HSb := hide hSb
  have HSc := hide hSc
  obtain ⟨w0, hw0⟩ : ∃ w0, w0 = w.alloc (.cells #[.int .i64 18, .int .i64 n.a, .int .i64 n.b, .int .i64 n.c, .int .i64 n.num, .string n.text] 55) := ⟨_, rfl⟩
  have B0 : Below w.heap.size w w0 := by rw [hw0]; exact (Below.refl _ _).alloc (Nat.le_refl _) _
  have L0 := h.below B0
  have N0 : w0.ownsRow b0 9 1 nv ns.length (ns.map Value.string) := by rw [hw0]; exact hns.alloc _
  have T0 := hT _ _ (B0.mono h.base) hw
  have X0 : Own w0 w.heap.size 55 [.int .i64 18, .int .i64 n.a, .int .i64 n.b, .int .i64 n.c, .int .i64 n.num, .string n.text] := by rw [hw0]; exact ⟨_, heap_alloc_new _ _, rfl⟩
  have p0 := h.own.cell 0
  obtain ⟨f0, f1, f2, f3, f4, f5⟩ := hrow w hw i hi
  simp only [Nat.zero_add] at f0 f1 f2 f3 f4 f5
  rw [← hni] at f0 f1 f2 f3 f4 f5
  rw [hop] at f0
  rw [htv] at p0
  simp only [List.getElem?_cons_zero] at p0
  have hiI : (i : Int) < (l.length : Int) := by omega
  clear h hR hns hSa hSb hSc hw hrow hop hni
  go_enter Try.func21, Try.ntmps21
  have y0 := X0.cell 0
  simp only [List.getElem?_cons_zero, List.getElem?_cons_succ] at y0
  have x1 := X0.cell 1
  simp only [List.getElem?_cons_zero, List.getElem?_cons_succ] at x1
  have c1 := hide ((unhide HSa) v s w0 L0 N0 T0 (by omega))
  go_wp2_with fail
  try rw [← hw0]
  clear hw0 f0 f1 f2 f3 f4 f5 p0
  refine (l5Kids_any 18 w0 (by decide) (by decide)).mono ?_
  rintro e wk ⟨rfl, hwk⟩
  rw [hwk]
  clear hwk
  go_wp2_with fail
  refine (unhide c1).1.mono ?_
  rintro e w1 ⟨v1, he1, l1, f1⟩
  have n1 := (unhide c1).2
  obtain ⟨q1, hq1⟩ : ∃ q, q = (rec n.a ns s).2 := ⟨_, rfl⟩
  rw [← hq1] at he1
  subst he1
  obtain ⟨s1, e1⟩ : ∃ sx, sx = (rec n.a ns s).1 := ⟨_, rfl⟩
  rw [← e1] at l1 n1
  have L1 := l1
  have E1 := hide e1
  have Q1 := hide hq1
  clear e1 l1 hq1 c1 x1
  have F1 := f1
  have N1 := L0.names f1 N0
  have T1 := hT _ _ (L0.frame f1) T0
  have X1 := L0.keep f1 X0 (by decide) (by decide)
  have y1 := X1.cell 0
  simp only [List.getElem?_cons_zero, List.getElem?_cons_succ] at y1
  obtain ⟨t0, ht0, hy0, hy1, hy2⟩ := info_parts Tr.infoT
  obtain ⟨wx, hwx⟩ : ∃ wx, wx = w1.alloc (.cells #[.int .i64 12, .int .i64 q1, .int .i64 0, .int .i64 0, .int .i64 0, .slice none 0 0] 82) := ⟨_, rfl⟩
  have BX : Below w1.heap.size w1 wx := by rw [hwx]; exact (Below.refl _ _).alloc (Nat.le_refl _) _
  have OX : Own wx w1.heap.size 82 [.int .i64 12, .int .i64 q1, .int .i64 0, .int .i64 0, .int .i64 0, .slice none 0 0] := by rw [hwx]; exact ⟨_, heap_alloc_new _ _, rfl⟩
  have XX := X1.below BX X1.lt
  have NX := Tr.owns_below N1 BX
  have TX := hT _ _ (BX.mono L1.base) T1
  have LX := L1.below BX
  have G1 := L1.fresh (Nat.le_refl w1.heap.size)
  have hne1 : ¬ w1.heap.size = w.heap.size := by have := X1.lt; omega
  have hne2 : ¬ w.heap.size = w1.heap.size := by have := X1.lt; omega
  have hsz1 : w0.heap.size ≤ w1.heap.size := F1.size
  have hbs1 : base ≤ w1.heap.size := L1.base
  go_wp2_with fail
  refine (l6Same_18 _).mono ?_
  rintro e wk ⟨rfl, hwk⟩
  rw [hwk]
  clear hwk
  go_wp2_with fail
  try rw [← hwx]
  clear hwx y1
  have KEEP := hide (show ∀ W, Below wx.heap.size wx W → (W.cell? ⟨w.heap.size, 5, none⟩ = some (.string n.text) ∧ Below wx.heap.size wx W) from fun W hb => ⟨(hb.cell (by exact XX.lt)).trans (XX.cell 5), hb⟩)
  have NMV := hide (show ∀ W, Below wx.heap.size wx W → W.ownsRow b0 9 1 nv ns.length (ns.map Value.string) from fun W hb => Tr.owns_below NX hb)
  go_region_held_law (fun w' => w'.cell? ⟨w.heap.size, 5, none⟩ = some (.string n.text) ∧ Below wx.heap.size wx w')
    (first | assumption | exact (unhide KEEP) _ (by assumption) | exact (unhide KEEP) _ (Below.refl _ _).drew | exact (unhide KEEP) _ (Ap.below_alloc (And.right (by assumption))))
    (first
      | (refine Ap.step_append_row ((wx.alloc (.cells #[] 9)).drew) rfl (.tmp 83) (.tmp 84) 57 rfl wx.heap.size 9 t0 (.string ByteArray.empty) 16 Try.underlying57 ht0 hy0 hy1 hy2 rfl (.slice (some ⟨wx.heap.size, 0, none⟩) 0 0) 0 [] rfl (Ap.owns_empty (by omega) (Ap.heapE _ _)) b0 9 _ ns.length (ns.map Value.string) rfl ((unhide NMV) _ (by exact And.right (by assumption))) (Tr.strs_plain ns) (by unfold maxLen; omega) (by omega) (Below.size (B := wx.heap.size) (by exact And.right (by assumption))) ?_
         intro v1' w1' ho1 hg1
         have hB1 : Below wx.heap.size wx w1' := Below.grown (by exact And.right (by assumption)) hg1 (Below.size (B := wx.heap.size) (by exact And.right (by assumption))) (by intro q hq; simp only [Value.ownBlock, Option.some.injEq] at hq; omega))
      | (refine Ap.step_append_row (((wx.alloc (.cells #[] 9)).alloc (.cells #[.string n.text] 9)).drew) rfl (.tmp 83) (.tmp 84) 57 rfl wx.heap.size 9 t0 (.string ByteArray.empty) 16 Try.underlying57 ht0 hy0 hy1 hy2 rfl (.slice (some ⟨wx.heap.size, 0, none⟩) 0 0) 0 [] rfl (Ap.owns_empty (by omega) (Ap.heapEK _ _ _)) b0 9 _ ns.length (ns.map Value.string) rfl ((unhide NMV) _ (by exact And.right (by assumption))) (Tr.strs_plain ns) (by unfold maxLen; omega) (by omega) (Below.size (B := wx.heap.size) (by exact And.right (by assumption))) ?_
         intro v1' w1' ho1 hg1
         have hB1 : Below wx.heap.size wx w1' := Below.grown (by exact And.right (by assumption)) hg1 (Below.size (B := wx.heap.size) (by exact And.right (by assumption))) (by intro q hq; simp only [Value.ownBlock, Option.some.injEq] at hq; omega)
         have hk1 : w1'.cell? ⟨wx.heap.size + 1, 0, none⟩ = some (.string n.text) := (World.grownBy.cell_far hg1 ⟨wx.heap.size + 1, 0, none⟩ (by simp) (Ap.ne_own (wx.heap.size + 1) wx.heap.size 0 0 (by omega))).trans (Ap.cellEK _ _ _))
      | (refine Ap.step_append_row (((wx.alloc (.cells #[.string n.text] 9)).alloc (.cells #[] 9)).drew) rfl (.tmp 83) (.tmp 84) 57 rfl wx.heap.size 9 t0 (.string ByteArray.empty) 16 Try.underlying57 ht0 hy0 hy1 hy2 rfl (.slice (some ⟨wx.heap.size + 1, 0, none⟩) 0 0) 0 [] rfl (Ap.owns_empty (by omega) (Ap.heapKE _ _ _)) b0 9 _ ns.length (ns.map Value.string) rfl ((unhide NMV) _ (by exact And.right (by assumption))) (Tr.strs_plain ns) (by unfold maxLen; omega) (by omega) (Below.size (B := wx.heap.size) (by exact And.right (by assumption))) ?_
         intro v1' w1' ho1 hg1
         have hB1 : Below wx.heap.size wx w1' := Below.grown (by exact And.right (by assumption)) hg1 (Below.size (B := wx.heap.size) (by exact And.right (by assumption))) (by intro q hq; simp only [Value.ownBlock, Option.some.injEq] at hq; omega)
         have hk1 : w1'.cell? ⟨wx.heap.size, 0, none⟩ = some (.string n.text) := (World.grownBy.cell_far hg1 ⟨wx.heap.size, 0, none⟩ (by simp <;> omega) (Ap.ne_own wx.heap.size (wx.heap.size + 1) 0 0 (by omega))).trans (Ap.cellKE _ _ _))
      | (refine Ap.step_append_any _ rfl (.tmp 85) (.tmp 88) 57 rfl wx.heap.size 9 t0 (.string ByteArray.empty) 1 16 Try.underlying57 ht0 hy0 hy1 hy2 rfl (by decide) _ (0 + ns.length) _ rfl (by first | exact ho1 | exact ho1.alloc _) _ _ _ [.string n.text] rfl rfl (Ap.one_of (by first | assumption | exact World.cell?_alloc_mark _ _ _ _ _ | simp)) (by intro u hu; simp only [List.mem_cons, List.not_mem_nil, or_false] at hu; subst hu; rfl) (by unfold maxLen; omega) (by omega) (Below.size (B := wx.heap.size) (by exact And.right (by assumption))) ?_
         intro v2' w2' ho2 hg2
         have hB2 : Below wx.heap.size wx w2' := Below.grown (by exact And.right (by assumption)) hg2 (Below.size (B := wx.heap.size) (by exact And.right (by assumption))) (Tr.owns_base ho1)))
  all_goals
    have LZ := LX.below hB2
    have XZ := XX.below hB2 XX.lt
    have OZ := OX.below hB2 OX.lt
    have FZ := (F1.behind BX).behind hB2
    have NZ := Tr.owns_below NX hB2
    have TZ := hT _ _ (hB2.mono LX.base) TX
    generalize w2' = wz at *
    clear hB2 hg2 hB1 hg1 ho1 ho2
    have a10 := XZ.cell 0
    have a11 := XZ.cell 1
    have a12 := XZ.cell 2
    have a13 := XZ.cell 3
    have a14 := XZ.cell 4
    have a15 := XZ.cell 5
    have o10 := OZ.cell 0
    have o11 := OZ.cell 1
    have o12 := OZ.cell 2
    have o13 := OZ.cell 3
    have o14 := OZ.cell 4
    have o15 := OZ.cell 5
    simp only [List.getElem?_cons_zero, List.getElem?_cons_succ] at a10 a11 a12 a13 a14 a15 o10 o11 o12 o13 o14 o15
    have z10 := OZ.frozen 0
    have z11 := OZ.frozen 1
    have z12 := OZ.frozen 2
    have z13 := OZ.frozen 3
    have z14 := OZ.frozen 4
    have z15 := OZ.frozen 5
    go_wp2_with fail
    clear a10 a11 a12 a13 a14 a15 o10 o11 o12 o13 o14 o15 z10 z11 z12 z13 z14 z15
    refine (l5Kids_any 18 _ (by decide) (by decide)).mono ?_
    rintro e wk ⟨rfl, hwk⟩
    rw [hwk]
    clear hwk
    have a20 := XZ.cell 0
    have a21 := XZ.cell 1
    have a22 := XZ.cell 2
    have a23 := XZ.cell 3
    have a24 := XZ.cell 4
    have a25 := XZ.cell 5
    have o20 := OZ.cell 0
    have o21 := OZ.cell 1
    have o22 := OZ.cell 2
    have o23 := OZ.cell 3
    have o24 := OZ.cell 4
    have o25 := OZ.cell 5
    simp only [List.getElem?_cons_zero, List.getElem?_cons_succ] at a20 a21 a22 a23 a24 a25 o20 o21 o22 o23 o24 o25
    have z20 := OZ.frozen 0
    have z21 := OZ.frozen 1
    have z22 := OZ.frozen 2
    have z23 := OZ.frozen 3
    have z24 := OZ.frozen 4
    have z25 := OZ.frozen 5
    go_wp2_with fail
    clear a20 a21 a22 a23 a24 a25 o20 o21 o22 o23 o24 o25 z20 z21 z22 z23 z24 z25
    refine (l5Kids_any 18 _ (by decide) (by decide)).mono ?_
    rintro e wk ⟨rfl, hwk⟩
    rw [hwk]
    clear hwk
    have a30 := XZ.cell 0
    have a31 := XZ.cell 1
    have a32 := XZ.cell 2
    have a33 := XZ.cell 3
    have a34 := XZ.cell 4
    have a35 := XZ.cell 5
    have o30 := OZ.cell 0
    have o31 := OZ.cell 1
    have o32 := OZ.cell 2
    have o33 := OZ.cell 3
    have o34 := OZ.cell 4
    have o35 := OZ.cell 5
    simp only [List.getElem?_cons_zero, List.getElem?_cons_succ] at a30 a31 a32 a33 a34 a35 o30 o31 o32 o33 o34 o35
    have z30 := OZ.frozen 0
    have z31 := OZ.frozen 1
    have z32 := OZ.frozen 2
    have z33 := OZ.frozen 3
    have z34 := OZ.frozen 4
    have z35 := OZ.frozen 5
    have c2 := hide ((unhide HSb) v1 s1 wz LZ NZ TZ (by omega))
    go_wp2_with fail
    clear a30 a31 a32 a33 a34 a35 o30 o31 o32 o33 o34 o35 z30 z31 z32 z33 z34 z35
    refine (unhide c2).1.mono ?_
    rintro e w2 ⟨v2, he2, l2, f2⟩
    have n2 := (unhide c2).2
    obtain ⟨q2, hq2⟩ : ∃ q, q = (rec n.b ns s1).2 := ⟨_, rfl⟩
    rw [← hq2] at he2
    subst he2
    obtain ⟨s2, e2⟩ : ∃ sx, sx = (rec n.b ns s1).1 := ⟨_, rfl⟩
    rw [← e2] at l2 n2
    have L2 := l2
    have E2 := hide e2
    have Q2 := hide hq2
    clear e2 l2 hq2 c2
    have F2 := FZ.trans f2
    have N2 := LZ.names f2 NZ
    have T2 := hT _ _ (LZ.frame f2) TZ
    have X2 := LZ.keep f2 XZ (by decide) (by decide)
    have OB2 := f2.box OZ G1.1 G1.2
    have O2 := OB2.1
    have G2 : w1.heap.size ≠ P ∧ v2.ownBlock ≠ some w1.heap.size := ⟨G1.1, OB2.2⟩
    have a40 := X2.cell 0
    have a41 := X2.cell 1
    have a42 := X2.cell 2
    have a43 := X2.cell 3
    have a44 := X2.cell 4
    have a45 := X2.cell 5
    have o40 := O2.cell 0
    have o41 := O2.cell 1
    have o42 := O2.cell 2
    have o43 := O2.cell 3
    have o44 := O2.cell 4
    have o45 := O2.cell 5
    simp only [List.getElem?_cons_zero, List.getElem?_cons_succ] at a40 a41 a42 a43 a44 a45 o40 o41 o42 o43 o44 o45
    have z40 := O2.frozen 0
    have z41 := O2.frozen 1
    have z42 := O2.frozen 2
    have z43 := O2.frozen 3
    have z44 := O2.frozen 4
    have z45 := O2.frozen 5
    obtain ⟨u1, hu1⟩ : ∃ u, u = w2.setCell ⟨w1.heap.size, 2, none⟩ (.int .i64 q2) := ⟨_, rfl⟩
    have OS1 := O2.set 2 (.int .i64 q2)
    have XS1 := Lw.own_set (j := 2) X2 O2 (by decide) (.int .i64 q2)
    have NS1 := Lw.names_set (j := 2) N2 O2 (.int .i64 q2)
    have TS1 := hT _ _ (Lw.set_below (w := w2) (d := w1.heap.size) (j := 2) (by have := L1.base; omega) (.int .i64 q2)) T2
    have LS1 := L2.set (j := 2) G2.1 G2.2 (.int .i64 q2) ⟨_, O2⟩
    have FS1 := F2.set (j := 2) (c := w1.heap.size) (by omega) (.int .i64 q2)
    simp only [List.set_cons_zero, List.set_cons_succ] at OS1
    rw [← hu1] at OS1 XS1 NS1 TS1 LS1 FS1
    have c3 := hide ((unhide HSc) v2 s2 u1 LS1 NS1 TS1 (by omega))
    go_wp2_with fail
    try rw [← hu1]
    clear hu1
    clear a40 a41 a42 a43 a44 a45 o40 o41 o42 o43 o44 o45 z40 z41 z42 z43 z44 z45
    refine (unhide c3).1.mono ?_
    rintro e w3 ⟨v3, he3, l3, f3⟩
    have n3 := (unhide c3).2
    obtain ⟨q3, hq3⟩ : ∃ q, q = (rec n.c ns s2).2 := ⟨_, rfl⟩
    rw [← hq3] at he3
    subst he3
    obtain ⟨s3, e3⟩ : ∃ sx, sx = (rec n.c ns s2).1 := ⟨_, rfl⟩
    rw [← e3] at l3 n3
    have L3 := l3
    have E3 := hide e3
    have Q3 := hide hq3
    clear e3 l3 hq3 c3
    have F3 := FS1.trans f3
    have N3 := LS1.names f3 NS1
    have T3 := hT _ _ (LS1.frame f3) TS1
    have X3 := LS1.keep f3 XS1 (by decide) (by decide)
    have OB3 := f3.box OS1 G2.1 G2.2
    have O3 := OB3.1
    have G3 : w1.heap.size ≠ P ∧ v3.ownBlock ≠ some w1.heap.size := ⟨G2.1, OB3.2⟩
    have a50 := X3.cell 0
    have a51 := X3.cell 1
    have a52 := X3.cell 2
    have a53 := X3.cell 3
    have a54 := X3.cell 4
    have a55 := X3.cell 5
    have o50 := O3.cell 0
    have o51 := O3.cell 1
    have o52 := O3.cell 2
    have o53 := O3.cell 3
    have o54 := O3.cell 4
    have o55 := O3.cell 5
    simp only [List.getElem?_cons_zero, List.getElem?_cons_succ] at a50 a51 a52 a53 a54 a55 o50 o51 o52 o53 o54 o55
    have z50 := O3.frozen 0
    have z51 := O3.frozen 1
    have z52 := O3.frozen 2
    have z53 := O3.frozen 3
    have z54 := O3.frozen 4
    have z55 := O3.frozen 5
    obtain ⟨u2, hu2⟩ : ∃ u, u = w3.setCell ⟨w1.heap.size, 3, none⟩ (.int .i64 q3) := ⟨_, rfl⟩
    have OS2 := O3.set 3 (.int .i64 q3)
    have XS2 := Lw.own_set (j := 3) X3 O3 (by decide) (.int .i64 q3)
    have NS2 := Lw.names_set (j := 3) N3 O3 (.int .i64 q3)
    have TS2 := hT _ _ (Lw.set_below (w := w3) (d := w1.heap.size) (j := 3) (by have := L1.base; omega) (.int .i64 q3)) T3
    have LS2 := L3.set (j := 3) G3.1 G3.2 (.int .i64 q3) ⟨_, O3⟩
    have FS2 := F3.set (j := 3) (c := w1.heap.size) (by omega) (.int .i64 q3)
    simp only [List.set_cons_zero, List.set_cons_succ] at OS2
    rw [← hu2] at OS2 XS2 NS2 TS2 LS2 FS2
    go_wp2_with fail
    try rw [← hu2]
    clear hu2
    clear a50 a51 a52 a53 a54 a55 o50 o51 o52 o53 o54 o55 z50 z51 z52 z53 z54 z55
    refine (l6Put_ld base P tv v3 (.slice none 0 0) s3 12 q1 q2 q3 0 [] _ LS2 (Lw.res_nil _ _) (by omega)).mono ?_
    rintro e w9 ⟨v9, rfl, L9, f9⟩
    go_wp2_with fail
    go_ret
    have e1 := unhide E1
    have e2 := unhide E2
    have e3 := unhide E3
    have hq1 := unhide Q1
    have hq2 := unhide Q2
    have hq3 := unhide Q3
    subst hq3 e3 hq2 e2 hq1 e1
    rw [unhide HR]
    exact ⟨v9, rfl, L9, (FS2.trans f9).ahead B0⟩

end Go.Proofs.Ytmbefapdckhjdaa

namespace Go.Proofs.Ytmbefapdckhjdaa
open Go.RowKit
set_option linter.unusedVariables false
set_option linter.unusedSimpArgs false


theorem Lw.lay_19 (rec : Lw.Rec) (n : Nd) (ns : List ByteArray) (s : List Co) : Lw.lay rec (.bind 13 n.text (Lw.l2 (.tree n.a) (.tree n.b)) (Lw.l1 (.tree n.c))) ns s = ((rec n.c (ns ++ [n.text]) (rec n.b ns (rec n.a ns s).1).1).1 ++ [⟨13, (rec n.a ns s).2, (rec n.b ns (rec n.a ns s).1).2, (rec n.c (ns ++ [n.text]) (rec n.b ns (rec n.a ns s).1).1).2, (ns.length : Int), []⟩], [((rec n.c (ns ++ [n.text]) (rec n.b ns (rec n.a ns s).1).1).1.length : Int)]) := rfl
set_option maxRecDepth 100000 in
set_option maxHeartbeats 4000000 in
theorem l6One_19 (base P b0 m mb mc tb lc : Nat) (v nv : Value) (rec : Lw.Rec) (ns : List ByteArray) (s : List Co) (l : List Nd) (i : Nat) (n : Nd) (hi : i < l.length) (hni : n = l.getD i Nd.zero) (hl : l.length ≤ lc) (hl2 : l.length ≤ 1048576) (tv : Value) (htv : tv = .slice (some ⟨tb, 0, none⟩) l.length lc) (T : World → Prop) (hT : ∀ x y, Below base x y → T x → T y) (hrow : ∀ x, T x → Nd.Row x tb 0 l) (w : World) (h : Lw.Ld base P tv w v s) (hn : s.length + m + mb + mc ≤ 2999) (hns : w.ownsRow b0 9 1 nv ns.length (ns.map Value.string)) (hw : T w) (hSa : Lw.Says base P tv nv b0 ns T rec m n.a) (hSb : Lw.Says base P tv nv b0 ns T rec mb n.b) (h4 : ns.length ≤ 4000) (hSn : ∀ nv2 b2, Lw.Says base P tv nv2 b2 (ns ++ [n.text]) T rec mc n.c) (hop : n.op = 19) : Calls Try.prog 21 #[.pointer (some ⟨P, 0, none⟩), .int .i64 i, nv] w (Lw.Made base P tv v w ((Lw.lay rec (Lw.form n) ns s).1, (Lw.lay rec (Lw.form n) ns s).2.headD 0)) := by
  obtain ⟨R, hR⟩ : ∃ R, R = ((Lw.lay rec (Lw.form n) ns s).1, (Lw.lay rec (Lw.form n) ns s).2.headD 0) := ⟨_, rfl⟩
  rw [← hR]
  rw [Lw.form_19 hop, Lw.lay_19] at hR
  obtain ⟨na, nc, hnv⟩ := Lw.names_slice hns
  subst hnv
  have HR := hide hR
  have HSa := hide hSa
  have HSb := hide hSb
  have HSn := hide hSn
  obtain ⟨w0, hw0⟩ : ∃ w0, w0 = w.alloc (.cells #[.int .i64 19, .int .i64 n.a, .int .i64 n.b, .int .i64 n.c, .int .i64 n.num, .string n.text] 55) := ⟨_, rfl⟩
  have B0 : Below w.heap.size w w0 := by rw [hw0]; exact (Below.refl _ _).alloc (Nat.le_refl _) _
  have L0 := h.below B0
  have N0 : w0.ownsRow b0 9 1 (.slice na ns.length nc) ns.length (ns.map Value.string) := by rw [hw0]; exact hns.alloc _
  have T0 := hT _ _ (B0.mono h.base) hw
  have X0 : Own w0 w.heap.size 55 [.int .i64 19, .int .i64 n.a, .int .i64 n.b, .int .i64 n.c, .int .i64 n.num, .string n.text] := by rw [hw0]; exact ⟨_, heap_alloc_new _ _, rfl⟩
  have p0 := h.own.cell 0
  obtain ⟨f0, f1, f2, f3, f4, f5⟩ := hrow w hw i hi
  simp only [Nat.zero_add] at f0 f1 f2 f3 f4 f5
  rw [← hni] at f0 f1 f2 f3 f4 f5
  rw [hop] at f0
  rw [htv] at p0
  simp only [List.getElem?_cons_zero] at p0
  have hiI : (i : Int) < (l.length : Int) := by omega
  clear h hR hns hSa hSb hSn hw hrow hop hni
  go_enter Try.func21, Try.ntmps21
  have y0 := X0.cell 0
  simp only [List.getElem?_cons_zero, List.getElem?_cons_succ] at y0
  have x1 := X0.cell 1
  simp only [List.getElem?_cons_zero, List.getElem?_cons_succ] at x1
  have c1 := hide ((unhide HSa) v s w0 L0 N0 T0 (by omega))
  go_wp2_with fail
  try rw [← hw0]
  clear hw0 f0 f1 f2 f3 f4 f5 p0
  refine (l5Kids_any 19 w0 (by decide) (by decide)).mono ?_
  rintro e wk ⟨rfl, hwk⟩
  rw [hwk]
  clear hwk
  go_wp2_with fail
  refine (unhide c1).1.mono ?_
  rintro e w1 ⟨v1, he1, l1, f1⟩
  have n1 := (unhide c1).2
  obtain ⟨q1, hq1⟩ : ∃ q, q = (rec n.a ns s).2 := ⟨_, rfl⟩
  rw [← hq1] at he1
  subst he1
  obtain ⟨s1, e1⟩ : ∃ sx, sx = (rec n.a ns s).1 := ⟨_, rfl⟩
  rw [← e1] at l1 n1
  have L1 := l1
  have E1 := hide e1
  have Q1 := hide hq1
  clear e1 l1 hq1 c1 x1
  have F1 := f1
  have N1 := L0.names f1 N0
  have T1 := hT _ _ (L0.frame f1) T0
  have X1 := L0.keep f1 X0 (by decide) (by decide)
  have y1 := X1.cell 0
  simp only [List.getElem?_cons_zero, List.getElem?_cons_succ] at y1
  obtain ⟨t0, ht0, hy0, hy1, hy2⟩ := info_parts Tr.infoT
  obtain ⟨wx, hwx⟩ : ∃ wx, wx = w1.alloc (.cells #[.int .i64 13, .int .i64 q1, .int .i64 0, .int .i64 0, .int .i64 0, .slice none 0 0] 82) := ⟨_, rfl⟩
  have BX : Below w1.heap.size w1 wx := by rw [hwx]; exact (Below.refl _ _).alloc (Nat.le_refl _) _
  have OX : Own wx w1.heap.size 82 [.int .i64 13, .int .i64 q1, .int .i64 0, .int .i64 0, .int .i64 0, .slice none 0 0] := by rw [hwx]; exact ⟨_, heap_alloc_new _ _, rfl⟩
  have XX := X1.below BX X1.lt
  have NX := Tr.owns_below N1 BX
  have TX := hT _ _ (BX.mono L1.base) T1
  have LX := L1.below BX
  have G1 := L1.fresh (Nat.le_refl w1.heap.size)
  have hne1 : ¬ w1.heap.size = w.heap.size := by have := X1.lt; omega
  have hne2 : ¬ w.heap.size = w1.heap.size := by have := X1.lt; omega
  have hsz1 : w0.heap.size ≤ w1.heap.size := F1.size
  have hbs1 : base ≤ w1.heap.size := L1.base
  go_wp2_with fail
  refine (l6Same_19 _).mono ?_
  rintro e wk ⟨rfl, hwk⟩
  rw [hwk]
  clear hwk
  go_wp2_with fail
  try rw [← hwx]
  clear hwx y1
  have KEEP := hide (show ∀ W, Below wx.heap.size wx W → (W.cell? ⟨w.heap.size, 5, none⟩ = some (.string n.text) ∧ Below wx.heap.size wx W) from fun W hb => ⟨(hb.cell (by exact XX.lt)).trans (XX.cell 5), hb⟩)
  have NMV := hide (show ∀ W, Below wx.heap.size wx W → W.ownsRow b0 9 1 (.slice na ns.length nc) ns.length (ns.map Value.string) from fun W hb => Tr.owns_below NX hb)
  go_region_held_law (fun w' => w'.cell? ⟨w.heap.size, 5, none⟩ = some (.string n.text) ∧ Below wx.heap.size wx w')
    (first | assumption | exact (unhide KEEP) _ (by assumption) | exact (unhide KEEP) _ (Below.refl _ _).drew | exact (unhide KEEP) _ (Ap.below_alloc (And.right (by assumption))))
    (first
      | (refine Ap.step_append_row ((wx.alloc (.cells #[] 9)).drew) rfl (.tmp 83) (.tmp 84) 57 rfl wx.heap.size 9 t0 (.string ByteArray.empty) 16 Try.underlying57 ht0 hy0 hy1 hy2 rfl (.slice (some ⟨wx.heap.size, 0, none⟩) 0 0) 0 [] rfl (Ap.owns_empty (by omega) (Ap.heapE _ _)) b0 9 _ ns.length (ns.map Value.string) rfl ((unhide NMV) _ (by exact And.right (by assumption))) (Tr.strs_plain ns) (by unfold maxLen; omega) (by omega) (Below.size (B := wx.heap.size) (by exact And.right (by assumption))) ?_
         intro v1' w1' ho1 hg1
         have hB1 : Below wx.heap.size wx w1' := Below.grown (by exact And.right (by assumption)) hg1 (Below.size (B := wx.heap.size) (by exact And.right (by assumption))) (by intro q hq; simp only [Value.ownBlock, Option.some.injEq] at hq; omega))
      | (refine Ap.step_append_row (((wx.alloc (.cells #[] 9)).alloc (.cells #[.string n.text] 9)).drew) rfl (.tmp 83) (.tmp 84) 57 rfl wx.heap.size 9 t0 (.string ByteArray.empty) 16 Try.underlying57 ht0 hy0 hy1 hy2 rfl (.slice (some ⟨wx.heap.size, 0, none⟩) 0 0) 0 [] rfl (Ap.owns_empty (by omega) (Ap.heapEK _ _ _)) b0 9 _ ns.length (ns.map Value.string) rfl ((unhide NMV) _ (by exact And.right (by assumption))) (Tr.strs_plain ns) (by unfold maxLen; omega) (by omega) (Below.size (B := wx.heap.size) (by exact And.right (by assumption))) ?_
         intro v1' w1' ho1 hg1
         have hB1 : Below wx.heap.size wx w1' := Below.grown (by exact And.right (by assumption)) hg1 (Below.size (B := wx.heap.size) (by exact And.right (by assumption))) (by intro q hq; simp only [Value.ownBlock, Option.some.injEq] at hq; omega)
         have hk1 : w1'.cell? ⟨wx.heap.size + 1, 0, none⟩ = some (.string n.text) := (World.grownBy.cell_far hg1 ⟨wx.heap.size + 1, 0, none⟩ (by simp) (Ap.ne_own (wx.heap.size + 1) wx.heap.size 0 0 (by omega))).trans (Ap.cellEK _ _ _))
      | (refine Ap.step_append_row (((wx.alloc (.cells #[.string n.text] 9)).alloc (.cells #[] 9)).drew) rfl (.tmp 83) (.tmp 84) 57 rfl wx.heap.size 9 t0 (.string ByteArray.empty) 16 Try.underlying57 ht0 hy0 hy1 hy2 rfl (.slice (some ⟨wx.heap.size + 1, 0, none⟩) 0 0) 0 [] rfl (Ap.owns_empty (by omega) (Ap.heapKE _ _ _)) b0 9 _ ns.length (ns.map Value.string) rfl ((unhide NMV) _ (by exact And.right (by assumption))) (Tr.strs_plain ns) (by unfold maxLen; omega) (by omega) (Below.size (B := wx.heap.size) (by exact And.right (by assumption))) ?_
         intro v1' w1' ho1 hg1
         have hB1 : Below wx.heap.size wx w1' := Below.grown (by exact And.right (by assumption)) hg1 (Below.size (B := wx.heap.size) (by exact And.right (by assumption))) (by intro q hq; simp only [Value.ownBlock, Option.some.injEq] at hq; omega)
         have hk1 : w1'.cell? ⟨wx.heap.size, 0, none⟩ = some (.string n.text) := (World.grownBy.cell_far hg1 ⟨wx.heap.size, 0, none⟩ (by simp <;> omega) (Ap.ne_own wx.heap.size (wx.heap.size + 1) 0 0 (by omega))).trans (Ap.cellKE _ _ _))
      | (refine Ap.step_append_any _ rfl (.tmp 85) (.tmp 88) 57 rfl wx.heap.size 9 t0 (.string ByteArray.empty) 1 16 Try.underlying57 ht0 hy0 hy1 hy2 rfl (by decide) _ (0 + ns.length) _ rfl (by first | exact ho1 | exact ho1.alloc _) _ _ _ [.string n.text] rfl rfl (Ap.one_of (by first | assumption | exact World.cell?_alloc_mark _ _ _ _ _ | simp)) (by intro u hu; simp only [List.mem_cons, List.not_mem_nil, or_false] at hu; subst hu; rfl) (by unfold maxLen; omega) (by omega) (Below.size (B := wx.heap.size) (by exact And.right (by assumption))) ?_
         intro v2' w2' ho2 hg2
         have hB2 : Below wx.heap.size wx w2' := Below.grown (by exact And.right (by assumption)) hg2 (Below.size (B := wx.heap.size) (by exact And.right (by assumption))) (Tr.owns_base ho1)))
  all_goals
    have LZ := LX.below hB2
    have XZ := XX.below hB2 XX.lt
    have OZ := OX.below hB2 OX.lt
    have FZ := (F1.behind BX).behind hB2
    have NZ := Tr.owns_below NX hB2
    have TZ := hT _ _ (hB2.mono LX.base) TX
    have hlen2 : (ns ++ [n.text]).length = 0 + ns.length + 1 := by simp
    have hmap2 : (ns ++ [n.text]).map Value.string = ([] ++ ns.map Value.string) ++ [.string n.text] := by simp
    have IZ := ho2
    rw [← hlen2, ← hmap2] at IZ
    clear hlen2 hmap2
    generalize w2' = wz at *
    clear hB2 hg2 hB1 hg1 ho1 ho2
    have a10 := XZ.cell 0
    have a11 := XZ.cell 1
    have a12 := XZ.cell 2
    have a13 := XZ.cell 3
    have a14 := XZ.cell 4
    have a15 := XZ.cell 5
    have o10 := OZ.cell 0
    have o11 := OZ.cell 1
    have o12 := OZ.cell 2
    have o13 := OZ.cell 3
    have o14 := OZ.cell 4
    have o15 := OZ.cell 5
    simp only [List.getElem?_cons_zero, List.getElem?_cons_succ] at a10 a11 a12 a13 a14 a15 o10 o11 o12 o13 o14 o15
    have z10 := OZ.frozen 0
    have z11 := OZ.frozen 1
    have z12 := OZ.frozen 2
    have z13 := OZ.frozen 3
    have z14 := OZ.frozen 4
    have z15 := OZ.frozen 5
    have c2 := hide ((unhide HSb) v1 s1 wz LZ NZ TZ (by omega))
    go_wp2_with fail
    clear a10 a11 a12 a13 a14 a15 o10 o11 o12 o13 o14 o15 z10 z11 z12 z13 z14 z15
    refine (unhide c2).1.mono ?_
    rintro e w2 ⟨v2, he2, l2, f2⟩
    have n2 := (unhide c2).2
    obtain ⟨q2, hq2⟩ : ∃ q, q = (rec n.b ns s1).2 := ⟨_, rfl⟩
    rw [← hq2] at he2
    subst he2
    obtain ⟨s2, e2⟩ : ∃ sx, sx = (rec n.b ns s1).1 := ⟨_, rfl⟩
    rw [← e2] at l2 n2
    have L2 := l2
    have E2 := hide e2
    have Q2 := hide hq2
    clear e2 l2 hq2 c2
    have F2 := FZ.trans f2
    have N2 := LZ.names f2 NZ
    have T2 := hT _ _ (LZ.frame f2) TZ
    have X2 := LZ.keep f2 XZ (by decide) (by decide)
    have OB2 := f2.box OZ G1.1 G1.2
    have O2 := OB2.1
    have G2 : w1.heap.size ≠ P ∧ v2.ownBlock ≠ some w1.heap.size := ⟨G1.1, OB2.2⟩
    have I2 := LZ.names f2 IZ
    have a20 := X2.cell 0
    have a21 := X2.cell 1
    have a22 := X2.cell 2
    have a23 := X2.cell 3
    have a24 := X2.cell 4
    have a25 := X2.cell 5
    have o20 := O2.cell 0
    have o21 := O2.cell 1
    have o22 := O2.cell 2
    have o23 := O2.cell 3
    have o24 := O2.cell 4
    have o25 := O2.cell 5
    simp only [List.getElem?_cons_zero, List.getElem?_cons_succ] at a20 a21 a22 a23 a24 a25 o20 o21 o22 o23 o24 o25
    have z20 := O2.frozen 0
    have z21 := O2.frozen 1
    have z22 := O2.frozen 2
    have z23 := O2.frozen 3
    have z24 := O2.frozen 4
    have z25 := O2.frozen 5
    obtain ⟨u1, hu1⟩ : ∃ u, u = w2.setCell ⟨w1.heap.size, 2, none⟩ (.int .i64 q2) := ⟨_, rfl⟩
    have OS1 := O2.set 2 (.int .i64 q2)
    have XS1 := Lw.own_set (j := 2) X2 O2 (by decide) (.int .i64 q2)
    have NS1 := Lw.names_set (j := 2) N2 O2 (.int .i64 q2)
    have TS1 := hT _ _ (Lw.set_below (w := w2) (d := w1.heap.size) (j := 2) (by have := L1.base; omega) (.int .i64 q2)) T2
    have LS1 := L2.set (j := 2) G2.1 G2.2 (.int .i64 q2) ⟨_, O2⟩
    have FS1 := F2.set (j := 2) (c := w1.heap.size) (by omega) (.int .i64 q2)
    simp only [List.set_cons_zero, List.set_cons_succ] at OS1
    rw [← hu1] at OS1 XS1 NS1 TS1 LS1 FS1
    have IS1 := Lw.names_set (j := 2) I2 O2 (.int .i64 q2)
    rw [← hu1] at IS1
    have c3 := hide ((unhide HSn _ _) v2 s2 u1 LS1 IS1 TS1 (by omega))
    go_wp2_with fail
    try rw [← hu1]
    clear hu1
    clear a20 a21 a22 a23 a24 a25 o20 o21 o22 o23 o24 o25 z20 z21 z22 z23 z24 z25
    refine (unhide c3).1.mono ?_
    rintro e w3 ⟨v3, he3, l3, f3⟩
    have n3 := (unhide c3).2
    obtain ⟨q3, hq3⟩ : ∃ q, q = (rec n.c (ns ++ [n.text]) s2).2 := ⟨_, rfl⟩
    rw [← hq3] at he3
    subst he3
    obtain ⟨s3, e3⟩ : ∃ sx, sx = (rec n.c (ns ++ [n.text]) s2).1 := ⟨_, rfl⟩
    rw [← e3] at l3 n3
    have L3 := l3
    have E3 := hide e3
    have Q3 := hide hq3
    clear e3 l3 hq3 c3
    have F3 := FS1.trans f3
    have N3 := LS1.names f3 NS1
    have T3 := hT _ _ (LS1.frame f3) TS1
    have X3 := LS1.keep f3 XS1 (by decide) (by decide)
    have OB3 := f3.box OS1 G2.1 G2.2
    have O3 := OB3.1
    have G3 : w1.heap.size ≠ P ∧ v3.ownBlock ≠ some w1.heap.size := ⟨G2.1, OB3.2⟩
    have I3 := LS1.names f3 IS1
    have a30 := X3.cell 0
    have a31 := X3.cell 1
    have a32 := X3.cell 2
    have a33 := X3.cell 3
    have a34 := X3.cell 4
    have a35 := X3.cell 5
    have o30 := O3.cell 0
    have o31 := O3.cell 1
    have o32 := O3.cell 2
    have o33 := O3.cell 3
    have o34 := O3.cell 4
    have o35 := O3.cell 5
    simp only [List.getElem?_cons_zero, List.getElem?_cons_succ] at a30 a31 a32 a33 a34 a35 o30 o31 o32 o33 o34 o35
    have z30 := O3.frozen 0
    have z31 := O3.frozen 1
    have z32 := O3.frozen 2
    have z33 := O3.frozen 3
    have z34 := O3.frozen 4
    have z35 := O3.frozen 5
    obtain ⟨u2, hu2⟩ : ∃ u, u = w3.setCell ⟨w1.heap.size, 3, none⟩ (.int .i64 q3) := ⟨_, rfl⟩
    have OS2 := O3.set 3 (.int .i64 q3)
    have XS2 := Lw.own_set (j := 3) X3 O3 (by decide) (.int .i64 q3)
    have NS2 := Lw.names_set (j := 3) N3 O3 (.int .i64 q3)
    have TS2 := hT _ _ (Lw.set_below (w := w3) (d := w1.heap.size) (j := 3) (by have := L1.base; omega) (.int .i64 q3)) T3
    have LS2 := L3.set (j := 3) G3.1 G3.2 (.int .i64 q3) ⟨_, O3⟩
    have FS2 := F3.set (j := 3) (c := w1.heap.size) (by omega) (.int .i64 q3)
    simp only [List.set_cons_zero, List.set_cons_succ] at OS2
    rw [← hu2] at OS2 XS2 NS2 TS2 LS2 FS2
    have IS2 := Lw.names_set (j := 3) I3 O3 (.int .i64 q3)
    rw [← hu2] at IS2
    obtain ⟨u3, hu3⟩ : ∃ u, u = u2.setCell ⟨w1.heap.size, 4, none⟩ (.int .i64 (ns.length : Int)) := ⟨_, rfl⟩
    have OS3 := OS2.set 4 (.int .i64 (ns.length : Int))
    have XS3 := Lw.own_set (j := 4) XS2 OS2 (by decide) (.int .i64 (ns.length : Int))
    have NS3 := Lw.names_set (j := 4) NS2 OS2 (.int .i64 (ns.length : Int))
    have TS3 := hT _ _ (Lw.set_below (w := u2) (d := w1.heap.size) (j := 4) (by have := L1.base; omega) (.int .i64 (ns.length : Int))) TS2
    have LS3 := LS2.set (j := 4) G3.1 G3.2 (.int .i64 (ns.length : Int)) ⟨_, OS2⟩
    have FS3 := FS2.set (j := 4) (c := w1.heap.size) (by omega) (.int .i64 (ns.length : Int))
    simp only [List.set_cons_zero, List.set_cons_succ] at OS3
    rw [← hu3] at OS3 XS3 NS3 TS3 LS3 FS3
    have IS3 := Lw.names_set (j := 4) IS2 OS2 (.int .i64 (ns.length : Int))
    rw [← hu3] at IS3
    go_wp2_with fail
    try rw [← hu2]
    try rw [← hu3]
    clear hu3 hu2
    clear a30 a31 a32 a33 a34 a35 o30 o31 o32 o33 o34 o35 z30 z31 z32 z33 z34 z35
    refine (l6Put_ld base P tv v3 (.slice none 0 0) s3 13 q1 q2 q3 (ns.length : Int) [] _ LS3 (Lw.res_nil _ _) (by omega)).mono ?_
    rintro e w9 ⟨v9, rfl, L9, f9⟩
    go_wp2_with fail
    go_ret
    have e1 := unhide E1
    have e2 := unhide E2
    have e3 := unhide E3
    have hq1 := unhide Q1
    have hq2 := unhide Q2
    have hq3 := unhide Q3
    subst hq3 e3 hq2 e2 hq1 e1
    rw [unhide HR]
    exact ⟨v9, rfl, L9, (FS3.trans f9).ahead B0⟩

end Go.Proofs.Ytmbefapdckhjdaa

namespace Go.Proofs.Ytmbefapdckhjdaa
open Go.RowKit
set_option linter.unusedVariables false
set_option linter.unusedSimpArgs false


theorem Lw.lay_20 (rec : Lw.Rec) (n : Nd) (ns : List ByteArray) (s : List Co) : Lw.lay rec (.bind 14 n.text (Lw.l1 (.tree n.a)) (Lw.l1 (.tree n.b))) ns s = ((rec n.b (ns ++ [n.text]) (rec n.a ns s).1).1 ++ [⟨14, (rec n.a ns s).2, (rec n.b (ns ++ [n.text]) (rec n.a ns s).1).2, 0, (ns.length : Int), []⟩], [((rec n.b (ns ++ [n.text]) (rec n.a ns s).1).1.length : Int)]) := rfl
set_option maxRecDepth 100000 in
set_option maxHeartbeats 4000000 in
theorem l6One_20 (base P b0 m mb mc tb lc : Nat) (v nv : Value) (rec : Lw.Rec) (ns : List ByteArray) (s : List Co) (l : List Nd) (i : Nat) (n : Nd) (hi : i < l.length) (hni : n = l.getD i Nd.zero) (hl : l.length ≤ lc) (hl2 : l.length ≤ 1048576) (tv : Value) (htv : tv = .slice (some ⟨tb, 0, none⟩) l.length lc) (T : World → Prop) (hT : ∀ x y, Below base x y → T x → T y) (hrow : ∀ x, T x → Nd.Row x tb 0 l) (w : World) (h : Lw.Ld base P tv w v s) (hn : s.length + m + mb + mc ≤ 2999) (hns : w.ownsRow b0 9 1 nv ns.length (ns.map Value.string)) (hw : T w) (hSa : Lw.Says base P tv nv b0 ns T rec m n.a) (hSb : Lw.Says base P tv nv b0 ns T rec mb n.b) (h4 : ns.length ≤ 4000) (hSn : ∀ nv2 b2, Lw.Says base P tv nv2 b2 (ns ++ [n.text]) T rec mb n.b) (hop : n.op = 20) : Calls Try.prog 21 #[.pointer (some ⟨P, 0, none⟩), .int .i64 i, nv] w (Lw.Made base P tv v w ((Lw.lay rec (Lw.form n) ns s).1, (Lw.lay rec (Lw.form n) ns s).2.headD 0)) := by
  obtain ⟨R, hR⟩ : ∃ R, R = ((Lw.lay rec (Lw.form n) ns s).1, (Lw.lay rec (Lw.form n) ns s).2.headD 0) := ⟨_, rfl⟩
  rw [← hR]
  rw [Lw.form_20 hop, Lw.lay_20] at hR
  obtain ⟨na, nc, hnv⟩ := Lw.names_slice hns
  subst hnv
  have HR := hide hR
  have HSa := hide hSa
  have HSb := hide hSb
  have HSn := hide hSn
  obtain ⟨w0, hw0⟩ : ∃ w0, w0 = w.alloc (.cells #[.int .i64 20, .int .i64 n.a, .int .i64 n.b, .int .i64 n.c, .int .i64 n.num, .string n.text] 55) := ⟨_, rfl⟩
  have B0 : Below w.heap.size w w0 := by rw [hw0]; exact (Below.refl _ _).alloc (Nat.le_refl _) _
  have L0 := h.below B0
  have N0 : w0.ownsRow b0 9 1 (.slice na ns.length nc) ns.length (ns.map Value.string) := by rw [hw0]; exact hns.alloc _
  have T0 := hT _ _ (B0.mono h.base) hw
  have X0 : Own w0 w.heap.size 55 [.int .i64 20, .int .i64 n.a, .int .i64 n.b, .int .i64 n.c, .int .i64 n.num, .string n.text] := by rw [hw0]; exact ⟨_, heap_alloc_new _ _, rfl⟩
  have p0 := h.own.cell 0
  obtain ⟨f0, f1, f2, f3, f4, f5⟩ := hrow w hw i hi
  simp only [Nat.zero_add] at f0 f1 f2 f3 f4 f5
  rw [← hni] at f0 f1 f2 f3 f4 f5
  rw [hop] at f0
  rw [htv] at p0
  simp only [List.getElem?_cons_zero] at p0
  have hiI : (i : Int) < (l.length : Int) := by omega
  clear h hR hns hSa hSb hSn hw hrow hop hni
  go_enter Try.func21, Try.ntmps21
  have y0 := X0.cell 0
  simp only [List.getElem?_cons_zero, List.getElem?_cons_succ] at y0
  have x1 := X0.cell 1
  simp only [List.getElem?_cons_zero, List.getElem?_cons_succ] at x1
  have c1 := hide ((unhide HSa) v s w0 L0 N0 T0 (by omega))
  go_wp2_with fail
  try rw [← hw0]
  clear hw0 f0 f1 f2 f3 f4 f5 p0
  refine (l5Kids_any 20 w0 (by decide) (by decide)).mono ?_
  rintro e wk ⟨rfl, hwk⟩
  rw [hwk]
  clear hwk
  go_wp2_with fail
  refine (unhide c1).1.mono ?_
  rintro e w1 ⟨v1, he1, l1, f1⟩
  have n1 := (unhide c1).2
  obtain ⟨q1, hq1⟩ : ∃ q, q = (rec n.a ns s).2 := ⟨_, rfl⟩
  rw [← hq1] at he1
  subst he1
  obtain ⟨s1, e1⟩ : ∃ sx, sx = (rec n.a ns s).1 := ⟨_, rfl⟩
  rw [← e1] at l1 n1
  have L1 := l1
  have E1 := hide e1
  have Q1 := hide hq1
  clear e1 l1 hq1 c1 x1
  have F1 := f1
  have N1 := L0.names f1 N0
  have T1 := hT _ _ (L0.frame f1) T0
  have X1 := L0.keep f1 X0 (by decide) (by decide)
  have y1 := X1.cell 0
  simp only [List.getElem?_cons_zero, List.getElem?_cons_succ] at y1
  obtain ⟨t0, ht0, hy0, hy1, hy2⟩ := info_parts Tr.infoT
  obtain ⟨wx, hwx⟩ : ∃ wx, wx = w1.alloc (.cells #[.int .i64 14, .int .i64 q1, .int .i64 0, .int .i64 0, .int .i64 0, .slice none 0 0] 82) := ⟨_, rfl⟩
  have BX : Below w1.heap.size w1 wx := by rw [hwx]; exact (Below.refl _ _).alloc (Nat.le_refl _) _
  have OX : Own wx w1.heap.size 82 [.int .i64 14, .int .i64 q1, .int .i64 0, .int .i64 0, .int .i64 0, .slice none 0 0] := by rw [hwx]; exact ⟨_, heap_alloc_new _ _, rfl⟩
  have XX := X1.below BX X1.lt
  have NX := Tr.owns_below N1 BX
  have TX := hT _ _ (BX.mono L1.base) T1
  have LX := L1.below BX
  have G1 := L1.fresh (Nat.le_refl w1.heap.size)
  have hne1 : ¬ w1.heap.size = w.heap.size := by have := X1.lt; omega
  have hne2 : ¬ w.heap.size = w1.heap.size := by have := X1.lt; omega
  have hsz1 : w0.heap.size ≤ w1.heap.size := F1.size
  have hbs1 : base ≤ w1.heap.size := L1.base
  go_wp2_with fail
  refine (l6Same_20 _).mono ?_
  rintro e wk ⟨rfl, hwk⟩
  rw [hwk]
  clear hwk
  go_wp2_with fail
  try rw [← hwx]
  clear hwx y1
  have KEEP := hide (show ∀ W, Below wx.heap.size wx W → (W.cell? ⟨w.heap.size, 5, none⟩ = some (.string n.text) ∧ Below wx.heap.size wx W) from fun W hb => ⟨(hb.cell (by exact XX.lt)).trans (XX.cell 5), hb⟩)
  have NMV := hide (show ∀ W, Below wx.heap.size wx W → W.ownsRow b0 9 1 (.slice na ns.length nc) ns.length (ns.map Value.string) from fun W hb => Tr.owns_below NX hb)
  go_region_held_law (fun w' => w'.cell? ⟨w.heap.size, 5, none⟩ = some (.string n.text) ∧ Below wx.heap.size wx w')
    (first | assumption | exact (unhide KEEP) _ (by assumption) | exact (unhide KEEP) _ (Below.refl _ _).drew | exact (unhide KEEP) _ (Ap.below_alloc (And.right (by assumption))))
    (first
      | (refine Ap.step_append_row ((wx.alloc (.cells #[] 9)).drew) rfl (.tmp 83) (.tmp 84) 57 rfl wx.heap.size 9 t0 (.string ByteArray.empty) 16 Try.underlying57 ht0 hy0 hy1 hy2 rfl (.slice (some ⟨wx.heap.size, 0, none⟩) 0 0) 0 [] rfl (Ap.owns_empty (by omega) (Ap.heapE _ _)) b0 9 _ ns.length (ns.map Value.string) rfl ((unhide NMV) _ (by exact And.right (by assumption))) (Tr.strs_plain ns) (by unfold maxLen; omega) (by omega) (Below.size (B := wx.heap.size) (by exact And.right (by assumption))) ?_
         intro v1' w1' ho1 hg1
         have hB1 : Below wx.heap.size wx w1' := Below.grown (by exact And.right (by assumption)) hg1 (Below.size (B := wx.heap.size) (by exact And.right (by assumption))) (by intro q hq; simp only [Value.ownBlock, Option.some.injEq] at hq; omega))
      | (refine Ap.step_append_row (((wx.alloc (.cells #[] 9)).alloc (.cells #[.string n.text] 9)).drew) rfl (.tmp 83) (.tmp 84) 57 rfl wx.heap.size 9 t0 (.string ByteArray.empty) 16 Try.underlying57 ht0 hy0 hy1 hy2 rfl (.slice (some ⟨wx.heap.size, 0, none⟩) 0 0) 0 [] rfl (Ap.owns_empty (by omega) (Ap.heapEK _ _ _)) b0 9 _ ns.length (ns.map Value.string) rfl ((unhide NMV) _ (by exact And.right (by assumption))) (Tr.strs_plain ns) (by unfold maxLen; omega) (by omega) (Below.size (B := wx.heap.size) (by exact And.right (by assumption))) ?_
         intro v1' w1' ho1 hg1
         have hB1 : Below wx.heap.size wx w1' := Below.grown (by exact And.right (by assumption)) hg1 (Below.size (B := wx.heap.size) (by exact And.right (by assumption))) (by intro q hq; simp only [Value.ownBlock, Option.some.injEq] at hq; omega)
         have hk1 : w1'.cell? ⟨wx.heap.size + 1, 0, none⟩ = some (.string n.text) := (World.grownBy.cell_far hg1 ⟨wx.heap.size + 1, 0, none⟩ (by simp) (Ap.ne_own (wx.heap.size + 1) wx.heap.size 0 0 (by omega))).trans (Ap.cellEK _ _ _))
      | (refine Ap.step_append_row (((wx.alloc (.cells #[.string n.text] 9)).alloc (.cells #[] 9)).drew) rfl (.tmp 83) (.tmp 84) 57 rfl wx.heap.size 9 t0 (.string ByteArray.empty) 16 Try.underlying57 ht0 hy0 hy1 hy2 rfl (.slice (some ⟨wx.heap.size + 1, 0, none⟩) 0 0) 0 [] rfl (Ap.owns_empty (by omega) (Ap.heapKE _ _ _)) b0 9 _ ns.length (ns.map Value.string) rfl ((unhide NMV) _ (by exact And.right (by assumption))) (Tr.strs_plain ns) (by unfold maxLen; omega) (by omega) (Below.size (B := wx.heap.size) (by exact And.right (by assumption))) ?_
         intro v1' w1' ho1 hg1
         have hB1 : Below wx.heap.size wx w1' := Below.grown (by exact And.right (by assumption)) hg1 (Below.size (B := wx.heap.size) (by exact And.right (by assumption))) (by intro q hq; simp only [Value.ownBlock, Option.some.injEq] at hq; omega)
         have hk1 : w1'.cell? ⟨wx.heap.size, 0, none⟩ = some (.string n.text) := (World.grownBy.cell_far hg1 ⟨wx.heap.size, 0, none⟩ (by simp <;> omega) (Ap.ne_own wx.heap.size (wx.heap.size + 1) 0 0 (by omega))).trans (Ap.cellKE _ _ _))
      | (refine Ap.step_append_any _ rfl (.tmp 85) (.tmp 88) 57 rfl wx.heap.size 9 t0 (.string ByteArray.empty) 1 16 Try.underlying57 ht0 hy0 hy1 hy2 rfl (by decide) _ (0 + ns.length) _ rfl (by first | exact ho1 | exact ho1.alloc _) _ _ _ [.string n.text] rfl rfl (Ap.one_of (by first | assumption | exact World.cell?_alloc_mark _ _ _ _ _ | simp)) (by intro u hu; simp only [List.mem_cons, List.not_mem_nil, or_false] at hu; subst hu; rfl) (by unfold maxLen; omega) (by omega) (Below.size (B := wx.heap.size) (by exact And.right (by assumption))) ?_
         intro v2' w2' ho2 hg2
         have hB2 : Below wx.heap.size wx w2' := Below.grown (by exact And.right (by assumption)) hg2 (Below.size (B := wx.heap.size) (by exact And.right (by assumption))) (Tr.owns_base ho1)))
  all_goals
    have LZ := LX.below hB2
    have XZ := XX.below hB2 XX.lt
    have OZ := OX.below hB2 OX.lt
    have FZ := (F1.behind BX).behind hB2
    have NZ := Tr.owns_below NX hB2
    have TZ := hT _ _ (hB2.mono LX.base) TX
    have hlen2 : (ns ++ [n.text]).length = 0 + ns.length + 1 := by simp
    have hmap2 : (ns ++ [n.text]).map Value.string = ([] ++ ns.map Value.string) ++ [.string n.text] := by simp
    have IZ := ho2
    rw [← hlen2, ← hmap2] at IZ
    clear hlen2 hmap2
    generalize w2' = wz at *
    clear hB2 hg2 hB1 hg1 ho1 ho2
    have a10 := XZ.cell 0
    have a11 := XZ.cell 1
    have a12 := XZ.cell 2
    have a13 := XZ.cell 3
    have a14 := XZ.cell 4
    have a15 := XZ.cell 5
    have o10 := OZ.cell 0
    have o11 := OZ.cell 1
    have o12 := OZ.cell 2
    have o13 := OZ.cell 3
    have o14 := OZ.cell 4
    have o15 := OZ.cell 5
    simp only [List.getElem?_cons_zero, List.getElem?_cons_succ] at a10 a11 a12 a13 a14 a15 o10 o11 o12 o13 o14 o15
    have z10 := OZ.frozen 0
    have z11 := OZ.frozen 1
    have z12 := OZ.frozen 2
    have z13 := OZ.frozen 3
    have z14 := OZ.frozen 4
    have z15 := OZ.frozen 5
    have c2 := hide ((unhide HSn _ _) v1 s1 wz LZ IZ TZ (by omega))
    go_wp2_with fail
    clear a10 a11 a12 a13 a14 a15 o10 o11 o12 o13 o14 o15 z10 z11 z12 z13 z14 z15
    refine (unhide c2).1.mono ?_
    rintro e w2 ⟨v2, he2, l2, f2⟩
    have n2 := (unhide c2).2
    obtain ⟨q2, hq2⟩ : ∃ q, q = (rec n.b (ns ++ [n.text]) s1).2 := ⟨_, rfl⟩
    rw [← hq2] at he2
    subst he2
    obtain ⟨s2, e2⟩ : ∃ sx, sx = (rec n.b (ns ++ [n.text]) s1).1 := ⟨_, rfl⟩
    rw [← e2] at l2 n2
    have L2 := l2
    have E2 := hide e2
    have Q2 := hide hq2
    clear e2 l2 hq2 c2
    have F2 := FZ.trans f2
    have N2 := LZ.names f2 NZ
    have T2 := hT _ _ (LZ.frame f2) TZ
    have X2 := LZ.keep f2 XZ (by decide) (by decide)
    have OB2 := f2.box OZ G1.1 G1.2
    have O2 := OB2.1
    have G2 : w1.heap.size ≠ P ∧ v2.ownBlock ≠ some w1.heap.size := ⟨G1.1, OB2.2⟩
    have I2 := LZ.names f2 IZ
    have a20 := X2.cell 0
    have a21 := X2.cell 1
    have a22 := X2.cell 2
    have a23 := X2.cell 3
    have a24 := X2.cell 4
    have a25 := X2.cell 5
    have o20 := O2.cell 0
    have o21 := O2.cell 1
    have o22 := O2.cell 2
    have o23 := O2.cell 3
    have o24 := O2.cell 4
    have o25 := O2.cell 5
    simp only [List.getElem?_cons_zero, List.getElem?_cons_succ] at a20 a21 a22 a23 a24 a25 o20 o21 o22 o23 o24 o25
    have z20 := O2.frozen 0
    have z21 := O2.frozen 1
    have z22 := O2.frozen 2
    have z23 := O2.frozen 3
    have z24 := O2.frozen 4
    have z25 := O2.frozen 5
    obtain ⟨u1, hu1⟩ : ∃ u, u = w2.setCell ⟨w1.heap.size, 2, none⟩ (.int .i64 q2) := ⟨_, rfl⟩
    have OS1 := O2.set 2 (.int .i64 q2)
    have XS1 := Lw.own_set (j := 2) X2 O2 (by decide) (.int .i64 q2)
    have NS1 := Lw.names_set (j := 2) N2 O2 (.int .i64 q2)
    have TS1 := hT _ _ (Lw.set_below (w := w2) (d := w1.heap.size) (j := 2) (by have := L1.base; omega) (.int .i64 q2)) T2
    have LS1 := L2.set (j := 2) G2.1 G2.2 (.int .i64 q2) ⟨_, O2⟩
    have FS1 := F2.set (j := 2) (c := w1.heap.size) (by omega) (.int .i64 q2)
    simp only [List.set_cons_zero, List.set_cons_succ] at OS1
    rw [← hu1] at OS1 XS1 NS1 TS1 LS1 FS1
    have IS1 := Lw.names_set (j := 2) I2 O2 (.int .i64 q2)
    rw [← hu1] at IS1
    obtain ⟨u2, hu2⟩ : ∃ u, u = u1.setCell ⟨w1.heap.size, 4, none⟩ (.int .i64 (ns.length : Int)) := ⟨_, rfl⟩
    have OS2 := OS1.set 4 (.int .i64 (ns.length : Int))
    have XS2 := Lw.own_set (j := 4) XS1 OS1 (by decide) (.int .i64 (ns.length : Int))
    have NS2 := Lw.names_set (j := 4) NS1 OS1 (.int .i64 (ns.length : Int))
    have TS2 := hT _ _ (Lw.set_below (w := u1) (d := w1.heap.size) (j := 4) (by have := L1.base; omega) (.int .i64 (ns.length : Int))) TS1
    have LS2 := LS1.set (j := 4) G2.1 G2.2 (.int .i64 (ns.length : Int)) ⟨_, OS1⟩
    have FS2 := FS1.set (j := 4) (c := w1.heap.size) (by omega) (.int .i64 (ns.length : Int))
    simp only [List.set_cons_zero, List.set_cons_succ] at OS2
    rw [← hu2] at OS2 XS2 NS2 TS2 LS2 FS2
    have IS2 := Lw.names_set (j := 4) IS1 OS1 (.int .i64 (ns.length : Int))
    rw [← hu2] at IS2
    go_wp2_with fail
    try rw [← hu1]
    try rw [← hu2]
    clear hu2 hu1
    clear a20 a21 a22 a23 a24 a25 o20 o21 o22 o23 o24 o25 z20 z21 z22 z23 z24 z25
    refine (l6Put_ld base P tv v2 (.slice none 0 0) s2 14 q1 q2 0 (ns.length : Int) [] _ LS2 (Lw.res_nil _ _) (by omega)).mono ?_
    rintro e w9 ⟨v9, rfl, L9, f9⟩
    go_wp2_with fail
    go_ret
    have e1 := unhide E1
    have e2 := unhide E2
    have hq1 := unhide Q1
    have hq2 := unhide Q2
    subst hq2 e2 hq1 e1
    rw [unhide HR]
    exact ⟨v9, rfl, L9, (FS2.trans f9).ahead B0⟩

end Go.Proofs.Ytmbefapdckhjdaa
