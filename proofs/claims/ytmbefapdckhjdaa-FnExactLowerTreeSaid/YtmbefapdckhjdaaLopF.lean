/-
  lay: a variable; a place of the tree.
  layBinding: a node whose last part has one more name.
  layBinding, walked.
-/
import Derived.Test.YtmbefapdckhjdaaLopC
import Derived.Test.YtmbefapdckhjdaaLofD
namespace Go.Proofs.Ytmbefapdckhjdaa
open Go.RowKit
set_option linter.unusedVariables false
set_option linter.unusedSimpArgs false


theorem Lp.Li.lt {base P : Nat} {tv v bv : Value} {w : World} {s : List Co} {ns : List ByteArray} {bl : List Nat} (h : Lp.Li base P tv w v bv s ns bl) : ∀ b ∈ bl, b < w.heap.size := by
  obtain ⟨cs, _, hr, rfl⟩ := h.row
  intro b hb
  obtain ⟨p, hp, hb2⟩ := List.mem_flatMap.1 hb
  exact (hr.2 p hp).lt b (by simpa using hb2)
set_option maxRecDepth 100000 in
set_option maxHeartbeats 1000000 in
theorem lay_var (base P : Nat) (tv : Value) (T : World → Prop) (rec : Lw.Rec) (c : Int → Nat) (ns : List ByteArray) (t : ByteArray) (hb : oneOf ns t = true) (hn : ns.length ≤ 4000) : Lp.SayF base P tv T rec c (.var t) ns := by
  intro v bv s bl w fv fb hL hw hfv hnd hap hroom
  obtain ⟨e1, rfl⟩ := hfv
  simp only [List.cons.injEq, and_true] at e1
  subst e1
  have hroom2 : s.length + 1 ≤ 3000 := hroom
  obtain ⟨w0, hw0⟩ : ∃ w0, w0 = w.alloc (.cells #[.string t] 94) := ⟨_, rfl⟩
  have B0 : Below w.heap.size w w0 := by rw [hw0]; exact (Below.refl _ _).alloc (Nat.le_refl _) _
  have L0 := hL.below B0
  have HSL := hide (slotOf_li base P tv v bv s ns bl t w0 L0 hb hn)
  have HPUT := hide (put_li base P tv v bv (.slice none 0 0) (.slice none 0 0) s ns bl 15 (Lw.slot ns t) [] [] w0 L0 (Lf.res_nil _ _) (fun b h => by cases h) (Lp.Pl.nil _) (by simp) (by omega))
  obtain ⟨R, hR⟩ : ∃ R, R = ((Lw.lay rec (.var t) ns s).1, (Lw.lay rec (.var t) ns s).2.headD 0) := ⟨_, rfl⟩
  rw [← hR]
  have HR := hide hR
  clear hR hL hw L0 hb hap hnd hroom
  obtain ⟨sl, hsl⟩ : ∃ sl, sl = Lw.slot ns t := ⟨_, rfl⟩
  rw [← hsl] at HSL HPUT
  have HSLT := hide hsl
  clear hsl
  have a1 := Lp.noT 94 (by decide)
  have a2 := Lp.yesV
  go_enter Try.func24, Try.ntmps24
  go_wp2_with fail
  rw [← hw0]
  clear hw0
  refine (unhide HSL).mono ?_
  rintro e wk ⟨rfl, hwk⟩
  rw [hwk]
  clear hwk
  go_wp2_with fail
  refine (unhide HPUT).mono ?_
  rintro e w1 ⟨v1, rfl, L1, F1⟩
  go_wp2_with fail
  go_ret
  rw [unhide HR]
  rw [unhide HSLT, show bl ++ (Value.slice none 0 0).ownBlock.toList = bl from List.append_nil bl] at L1
  exact ⟨v1, bv, bl, rfl, L1, F1.ahead B0, fun b hb => .inl hb⟩

namespace Lf
theorem gd_call (t : ByteArray) : Lp.isF (Lw.call t) ∧ Lp.Gd (Lw.call t) := by
  unfold Lw.call
  repeat' split
  all_goals simp [Lw.over, Lw.done, Lw.con, Lw.l3, Lp.isF, Lp.Gd, Lp.isL, Lp.elems]
theorem gd_one (t : ByteArray) (i : Int) : Lp.isF (Lw.callOne t (.tree i)) ∧ Lp.Gd (Lw.callOne t (.tree i)) := by
  unfold Lw.callOne
  repeat' split
  all_goals simp [Lw.over, Lw.done, Lw.con, Lw.l1, Lw.l2, Lw.l3, Lp.isF, Lp.Gd, Lp.isL, Lp.elems]
theorem form_good (n : Nd) (h0 : 1 ≤ n.op) (h1 : n.op ≤ 24) : Lp.isF (Lw.form n) ∧ Lp.Gd (Lw.form n) := by
  have hcase : n.op = 1 ∨ n.op = 2 ∨ n.op = 3 ∨ n.op = 4 ∨ n.op = 5 ∨ n.op = 6 ∨ n.op = 7 ∨ n.op = 8 ∨ n.op = 9 ∨ n.op = 10 ∨ n.op = 11 ∨ n.op = 12 ∨ n.op = 13 ∨ n.op = 14 ∨ n.op = 15 ∨ n.op = 16 ∨ n.op = 17 ∨ n.op = 18 ∨ n.op = 19 ∨ n.op = 20 ∨ n.op = 21 ∨ n.op = 22 ∨ n.op = 23 ∨ n.op = 24 := by omega
  rcases hcase with h | h | h | h | h | h | h | h | h | h | h | h | h | h | h | h | h | h | h | h | h | h | h | h
  · rw [Lw.form_1 h]; simp [Lw.over, Lw.done, Lw.con, Lw.truth, Lw.l1, Lw.l2, Lw.l3, Lp.isF, Lp.Gd, Lp.isL, Lp.elems]
  · rw [Lw.form_2 h]; simp [Lw.over, Lw.done, Lw.con, Lw.truth, Lw.l1, Lw.l2, Lw.l3, Lp.isF, Lp.Gd, Lp.isL, Lp.elems]
  · rw [Lw.form_3 h]; simp [Lw.over, Lw.done, Lw.con, Lw.truth, Lw.l1, Lw.l2, Lw.l3, Lp.isF, Lp.Gd, Lp.isL, Lp.elems]
  · rw [Lw.form_4 h]; simp [Lw.over, Lw.done, Lw.con, Lw.truth, Lw.l1, Lw.l2, Lw.l3, Lp.isF, Lp.Gd, Lp.isL, Lp.elems]
  · rw [Lw.form_5 h]; simp [Lw.over, Lw.done, Lw.con, Lw.truth, Lw.l1, Lw.l2, Lw.l3, Lp.isF, Lp.Gd, Lp.isL, Lp.elems]
  · rw [Lw.form_6 h]; simp [Lw.over, Lw.done, Lw.con, Lw.truth, Lw.l1, Lw.l2, Lw.l3, Lp.isF, Lp.Gd, Lp.isL, Lp.elems]
  · rw [Lw.form_7 h]; simp [Lw.over, Lw.done, Lw.con, Lw.truth, Lw.l1, Lw.l2, Lw.l3, Lp.isF, Lp.Gd, Lp.isL, Lp.elems]
  · rw [Lw.form_8 h]; simp [Lw.over, Lw.done, Lw.con, Lw.truth, Lw.l1, Lw.l2, Lw.l3, Lp.isF, Lp.Gd, Lp.isL, Lp.elems]
  · rw [Lw.form_9 h]; simp [Lw.over, Lw.done, Lw.con, Lw.truth, Lw.l1, Lw.l2, Lw.l3, Lp.isF, Lp.Gd, Lp.isL, Lp.elems]
  · rw [Lw.form_10 h]; simp [Lw.over, Lw.done, Lw.con, Lw.truth, Lw.l1, Lw.l2, Lw.l3, Lp.isF, Lp.Gd, Lp.isL, Lp.elems]
  · rw [Lw.form_11 h]; simp [Lw.over, Lw.done, Lw.con, Lw.truth, Lw.l1, Lw.l2, Lw.l3, Lp.isF, Lp.Gd, Lp.isL, Lp.elems]
  · rw [Lw.form_12 h]; simp [Lw.over, Lw.done, Lw.con, Lw.truth, Lw.l1, Lw.l2, Lw.l3, Lp.isF, Lp.Gd, Lp.isL, Lp.elems]
  · rw [Lw.form_13 h]; simp [Lw.over, Lw.done, Lw.con, Lw.truth, Lw.l1, Lw.l2, Lw.l3, Lp.isF, Lp.Gd, Lp.isL, Lp.elems]
  · rw [Lw.form_14 h]; simp [Lw.over, Lw.done, Lw.con, Lw.truth, Lw.l1, Lw.l2, Lw.l3, Lp.isF, Lp.Gd, Lp.isL, Lp.elems]
  · rw [Lw.form_15 h]; simp [Lw.over, Lw.done, Lw.con, Lw.truth, Lw.l1, Lw.l2, Lw.l3, Lp.isF, Lp.Gd, Lp.isL, Lp.elems]
  · rw [Lw.form_16 h]; simp [Lw.over, Lw.done, Lw.con, Lw.truth, Lw.l1, Lw.l2, Lw.l3, Lp.isF, Lp.Gd, Lp.isL, Lp.elems]
  · rw [Lw.form_17 h]; simp [Lw.over, Lw.done, Lw.con, Lw.truth, Lw.l1, Lw.l2, Lw.l3, Lp.isF, Lp.Gd, Lp.isL, Lp.elems]
  · rw [Lw.form_18 h]; simp [Lw.over, Lw.done, Lw.con, Lw.truth, Lw.l1, Lw.l2, Lw.l3, Lp.isF, Lp.Gd, Lp.isL, Lp.elems]
  · rw [Lw.form_19 h]; simp [Lw.over, Lw.done, Lw.con, Lw.truth, Lw.l1, Lw.l2, Lw.l3, Lp.isF, Lp.Gd, Lp.isL, Lp.elems]
  · rw [Lw.form_20 h]; simp [Lw.over, Lw.done, Lw.con, Lw.truth, Lw.l1, Lw.l2, Lw.l3, Lp.isF, Lp.Gd, Lp.isL, Lp.elems]
  · rw [Lw.form_21 h]; simp [Lw.over, Lw.done, Lw.con, Lw.truth, Lw.l1, Lw.l2, Lw.l3, Lp.isF, Lp.Gd, Lp.isL, Lp.elems]
  · rw [Lw.form_22 h]; exact gd_call _
  · rw [Lw.form_23 h]; exact gd_one _ _
  · rw [Lw.form_24 h]; simp [Lw.over, Lw.done, Lw.con, Lw.truth, Lw.l1, Lw.l2, Lw.l3, Lp.isF, Lp.Gd, Lp.isL, Lp.elems]
theorem form_not {n : Nd} (h : Lp.isF (Lw.form n)) : Lw.form n ≠ .nil ∧ ∀ a b, Lw.form n ≠ .cons a b := by
  generalize Lw.form n = F at h
  exact ⟨by rintro rfl; exact h, by rintro a b rfl; exact h⟩
end Lf
set_option maxRecDepth 100000 in
set_option maxHeartbeats 1000000 in
theorem lay_tree (base P tb lc : Nat) (l : List Nd) (hlc : l.length ≤ lc) (hl2 : l.length ≤ 1048576) (htb : tb < base) (rec rec0 : Lw.Rec) (c c0 : Int → Nat) (ns : List ByteArray) (i : Nat) (hi : i < l.length) (n : Nd) (hni : n = l.getD i Nd.zero) (ho0 : 1 ≤ n.op) (ho1 : n.op ≤ 24) (hnum : n.op = 4 → 0 ≤ n.num ∧ n.num ≤ 2)
    (hrec : ∀ s, rec (i : Int) ns s = ((Lw.lay rec0 (Lw.form n) ns s).1, (Lw.lay rec0 (Lw.form n) ns s).2.headD 0)) (hcst : Lw.cst c0 (Lw.form n) ≤ c (i : Int))
    (hform : Lp.SayF base P (.slice (some ⟨tb, 0, none⟩) l.length lc) (fun w => Nd.Row w tb 0 l) rec0 c0 (Lw.form n) ns) :
    Lp.SayF base P (.slice (some ⟨tb, 0, none⟩) l.length lc) (fun w => Nd.Row w tb 0 l) rec c (.tree (i : Int)) ns := by
  intro v bv s bl w fv fb hL hw hfv hnd hap hroom
  obtain ⟨e1, rfl⟩ := hfv
  simp only [List.cons.injEq, and_true] at e1
  subst e1
  have hroom2 : s.length + c (i : Int) ≤ 3000 := hroom
  obtain ⟨w0, hw0⟩ : ∃ w0, w0 = w.alloc (.cells #[.int .i64 i] 62) := ⟨_, rfl⟩
  have B0 : Below w.heap.size w w0 := by rw [hw0]; exact (Below.refl _ _).alloc (Nat.le_refl _) _
  have X0 : Own w0 w.heap.size 62 [.int .i64 i] := by rw [hw0]; exact ⟨_, heap_alloc_new _ _, rfl⟩
  have B0d : Below w.heap.size w w0.drew := B0.drew
  have L0 := hL.below B0
  have hT : ∀ x y, Below base x y → Nd.Row x tb 0 l → Nd.Row y tb 0 l := fun x y hb hr => hr.below hb htb
  have KEEPX := hide (fun (W : World) (v' bv' : Value) (s' : List Co) (ns' : List ByteArray) (bl' : List Nat) (X : Own W w.heap.size 62 [.int .i64 i]) (L : Lp.Li base P (.slice (some ⟨tb, 0, none⟩) l.length lc) W v' bv' s' ns' bl') (hr : Nd.Row W tb 0 l) => show W.cell? ⟨P, 0, none⟩ = some (.slice (some ⟨tb, 0, none⟩) l.length lc) ∧ W.cell? ⟨w.heap.size, 0, none⟩ = some (.int .i64 i) ∧ W.cell? ⟨tb, i * 6, none⟩ = some (.int .i64 n.op) ∧ W.cell? ⟨tb, i * 6 + 1, none⟩ = some (.int .i64 n.a) ∧ W.cell? ⟨tb, i * 6 + 2, none⟩ = some (.int .i64 n.b) ∧ W.cell? ⟨tb, i * 6 + 3, none⟩ = some (.int .i64 n.c) ∧ W.cell? ⟨tb, i * 6 + 4, none⟩ = some (.int .i64 n.num) ∧ W.cell? ⟨tb, i * 6 + 5, none⟩ = some (.string n.text) by
    obtain ⟨f0, f1, f2, f3, f4, f5⟩ := hr i hi
    simp only [Nat.zero_add] at f0 f1 f2 f3 f4 f5
    rw [← hni] at f0 f1 f2 f3 f4 f5
    exact ⟨L.own.cell 0, X.cell 0, f0, f1, f2, f3, f4, f5⟩)
  have KF := hide (show ∀ W, Below w0.drew.heap.size w0.drew W → (W.cell? ⟨P, 0, none⟩ = some (.slice (some ⟨tb, 0, none⟩) l.length lc) ∧ W.cell? ⟨w.heap.size, 0, none⟩ = some (.int .i64 i) ∧ W.cell? ⟨tb, i * 6, none⟩ = some (.int .i64 n.op) ∧ W.cell? ⟨tb, i * 6 + 1, none⟩ = some (.int .i64 n.a) ∧ W.cell? ⟨tb, i * 6 + 2, none⟩ = some (.int .i64 n.b) ∧ W.cell? ⟨tb, i * 6 + 3, none⟩ = some (.int .i64 n.c) ∧ W.cell? ⟨tb, i * 6 + 4, none⟩ = some (.int .i64 n.num) ∧ W.cell? ⟨tb, i * 6 + 5, none⟩ = some (.string n.text)) from fun W hb => (unhide KEEPX) W v bv s ns bl (X0.drew.below hb X0.drew.lt) ((L0.below (Below.refl _ _).drew).below hb) (hT _ _ (hb.mono (Nat.le_trans hL.base B0d.size)) (hT _ _ (B0d.mono hL.base) hw)))
  have S0 := (unhide KEEPX) w0 v bv s ns bl X0 L0 (hT _ _ (B0.mono hL.base) hw)
  have HFO := hide (formOf_any n w0.drew ho0 ho1 hnum)
  have HLAY := hide (show ∀ (w1 : World) (fv : Value) (fb : List Nat), Lf.Fv w1 w0.drew.heap.size (Lw.form n) [fv] fb → fb.Nodup → (∀ b ∈ fb, w0.drew.heap.size ≤ b ∧ b < w1.heap.size) → Below w0.drew.heap.size w0.drew w1 → Calls Try.prog 24 #[.pointer (some ⟨P, 0, none⟩), fv] w1 fun e w2 => (∃ q, e = .returned (.int .i64 q)) ∧ (w2.cell? ⟨P, 0, none⟩ = some (.slice (some ⟨tb, 0, none⟩) l.length lc) ∧ w2.cell? ⟨w.heap.size, 0, none⟩ = some (.int .i64 i) ∧ w2.cell? ⟨tb, i * 6, none⟩ = some (.int .i64 n.op) ∧ w2.cell? ⟨tb, i * 6 + 1, none⟩ = some (.int .i64 n.a) ∧ w2.cell? ⟨tb, i * 6 + 2, none⟩ = some (.int .i64 n.b) ∧ w2.cell? ⟨tb, i * 6 + 3, none⟩ = some (.int .i64 n.c) ∧ w2.cell? ⟨tb, i * 6 + 4, none⟩ = some (.int .i64 n.num) ∧ w2.cell? ⟨tb, i * 6 + 5, none⟩ = some (.string n.text)) ∧ Lp.Mi base P (.slice (some ⟨tb, 0, none⟩) l.length lc) v bv w ns bl [] (rec (i : Int) ns s) e w2 from fun w1 fv fb h1 h2 h3 h4 => by
    have L1 := (hL.below B0d).below h4
    have T1 := hT _ _ (h4.mono (Nat.le_trans hL.base B0d.size)) (hT _ _ (B0d.mono hL.base) hw)
    have X1 := X0.drew.below h4 X0.drew.lt
    rw [hrec s]
    refine (hform v bv s bl w1 fv fb L1 T1 (Lf.Fv.mono (Nat.le_trans hL.base B0d.size) _ h1) h2 (fun b hb => ⟨fun hin => ?_, (h3 b hb).2⟩) (by omega)).mono ?_
    · have h5 := hL.lt b hin
      have h6 := (h3 b hb).1
      have h7 : w.heap.size ≤ w0.drew.heap.size := B0d.size
      omega
    · rintro e w2 ⟨v2, bv2, bl2, rfl, L2, F2, I2⟩
      refine ⟨⟨_, rfl⟩, (unhide KEEPX) w2 v2 bv2 _ ns bl2 ((L1.keep F2 [62] (by decide)).own X1 (by decide)) L2 (hT _ _ (L1.frame F2) T1), v2, bv2, bl2, rfl, L2, F2.ahead (B0d.trans (h4.mono B0d.size)), fun b hb => ?_⟩
      rcases I2 b hb with q | q | q
      · exact .inl q
      · exact .inr (.inr (Nat.le_trans B0d.size (h3 b q).1))
      · exact .inr (.inr (Nat.le_trans (Nat.le_trans B0d.size h4.size) q)))
  obtain ⟨R, hR⟩ : ∃ R, R = rec (i : Int) ns s := ⟨_, rfl⟩
  show Calls Try.prog 24 _ w (Lp.Mi base P _ v bv w ns bl [] (rec (i : Int) ns s))
  rw [← hR] at HLAY ⊢
  have HNF := hide (Lf.form_not (Lf.form_good n ho0 ho1).1)
  have hiI : (i : Int) < (l.length : Int) := by omega
  clear hR hL hw hroom hroom2 hnd hap hform hcst hrec L0 X0 hT KEEPX B0d hni
  have a1 := Lp.yesT
  go_enter Try.func24, Try.ntmps24
  go_wp2_with fail
  rw [← hw0]
  clear hw0
  go_region_held_law (fun w' => w'.cell? ⟨P, 0, none⟩ = some (.slice (some ⟨tb, 0, none⟩) l.length lc) ∧ w'.cell? ⟨w.heap.size, 0, none⟩ = some (.int .i64 i) ∧ w'.cell? ⟨tb, i * 6, none⟩ = some (.int .i64 n.op) ∧ w'.cell? ⟨tb, i * 6 + 1, none⟩ = some (.int .i64 n.a) ∧ w'.cell? ⟨tb, i * 6 + 2, none⟩ = some (.int .i64 n.b) ∧ w'.cell? ⟨tb, i * 6 + 3, none⟩ = some (.int .i64 n.c) ∧ w'.cell? ⟨tb, i * 6 + 4, none⟩ = some (.int .i64 n.num) ∧ w'.cell? ⟨tb, i * 6 + 5, none⟩ = some (.string n.text))
    (first | assumption | exact (unhide KF) _ (by assumption) | exact (unhide KF) _ (Below.refl _ _))
    (first
    | (go_at_call 51
       go_fit (unhide HFO)
       rintro e w1 ⟨fv1, fb1, rfl, g1, g2, g3, g4⟩
       obtain ⟨y1, y2, hy⟩ := Lf.fv_iface g1 (unhide HNF)
       subst hy)
    | (go_at_call 24
       go_fit ((unhide HLAY) _ _ _ g1 g2 g3 g4)
       rintro e w2 ⟨⟨q2, he2⟩, S2, MI⟩
       subst he2))
  go_wp2_with fail
  go_ret
  exact MI

end Go.Proofs.Ytmbefapdckhjdaa

namespace Go.Proofs.Ytmbefapdckhjdaa
open Go.RowKit
set_option linter.unusedVariables false
set_option linter.unusedSimpArgs false


namespace Lp
theorem Fi.of {P : Nat} {v bv bv' : Value} {w w' : World} (h1 : w'.os = w.os) (h2 : w'.tape = w.tape) (h3 : w'.output = w.output) (h4 : w.heap.size ≤ w'.heap.size) (h5 : ∀ k, k < w.heap.size → k ≠ P → bv.ownBlock ≠ some k → w'.heap[k]? = w.heap[k]?) (h6 : bv'.ownBlock = bv.ownBlock ∨ ∃ b, bv'.ownBlock = some b ∧ w.heap.size ≤ b) : Fi P v v bv bv' w w' := ⟨h1, h2, h3, h4, fun k a b _ d => h5 k a b d, .inl rfl, h6⟩
theorem Li.push {base P : Nat} {tv v bv bv' : Value} {w W wb : World} {s : List Co} {ns : List ByteArray} {bl : List Nat} {t : ByteArray} (h : Li base P tv w v bv s ns bl) (hW : Below w.heap.size w W) (ho : wb.ownsRow base 9 1 bv' (ns.length + 1) (ns.map Value.string ++ [.string t])) (hg : W.grownBy wb bv.ownBlock) (hob : bv'.ownBlock = bv.ownBlock ∨ bv'.ownBlock = some W.heap.size) :
    Own wb P 59 [tv, v, bv] ∧ Ky [2, 99, 91, 120] w wb ∧ Li base P tv (wb.setCell ⟨P, 2, none⟩ bv') v bv' s (ns ++ [t]) bl ∧ Fi P v v bv bv' w (wb.setCell ⟨P, 2, none⟩ bv') ∧ Ky [2, 99, 91, 120] w (wb.setCell ⟨P, 2, none⟩ bv') := by
  have kept : ∀ k, k < w.heap.size → bv.ownBlock ≠ some k → wb.heap[k]? = w.heap[k]? := fun k h1 h2 => (hg.block k (Nat.lt_of_lt_of_le h1 hW.size) (fun e => h2 e.symm)).trans (hW.block k h1)
  have ky : ∀ ts : List TypeId, 9 ∉ ts → Ky ts w wb := fun ts hts k c t' hk ht => kept k (Array.getElem?_eq_some_iff.1 hk).1 (fun e => by
    obtain ⟨_, c', h1⟩ := row_typed h.names e
    rw [h1] at hk
    simp only [Option.some.injEq, Obj.cells.injEq] at hk
    rw [← hk.2.1] at ht
    exact hts ht)
  have NB := (ky [59] (by decide)).own h.own (by decide)
  have set : ∀ (ts : List TypeId), 59 ∉ ts → Ky ts wb (wb.setCell ⟨P, 2, none⟩ bv') := fun ts hts k c t' hk ht => heap_setCell_other _ ⟨P, 2, none⟩ k _ (fun e => by
    have e' : k = P := e
    subst e'
    obtain ⟨c', h1, _⟩ := NB
    rw [h1] at hk
    simp only [Option.some.injEq, Obj.cells.injEq] at hk
    rw [← hk.2.1] at ht
    exact hts ht)
  have both : ∀ ts : List TypeId, 9 ∉ ts → 59 ∉ ts → Ky ts w (wb.setCell ⟨P, 2, none⟩ bv') := fun ts h1 h2 k c t' hk ht => (set ts h2 k c t' ((ky ts h1 k c t' hk ht).trans hk) ht).trans (ky ts h1 k c t' hk ht)
  refine ⟨NB, ky _ (by decide), ⟨NB.set 2 bv', h.le, ?_, h.nd, ?_⟩, ?_, both _ (by decide) (by decide)⟩
  · obtain ⟨cs, h3, h4, h5⟩ := h.row
    have k2 := both [82, 120] (by decide) (by decide)
    exact ⟨cs, h3, ⟨k2.row h4.1 (by decide), fun p hp => k2.res (by decide) (h4.2 p hp)⟩, h5⟩
  · have k3 := (set [9] (by decide)).row ho (by decide)
    rw [List.length_append, List.length_singleton, List.map_append]
    exact k3
  · refine Fi.of (hg.os.trans hW.os) (hg.tape.trans hW.tape) (hg.output.trans hW.output) ?_ (fun k h1 h2 h3 => (heap_setCell_other _ ⟨P, 2, none⟩ k _ h2).trans (kept k h1 h3)) ?_
    · have h1 := hg.size
      have h2 := hW.size
      have h3 : (wb.setCell ⟨P, 2, none⟩ bv').heap.size = wb.heap.size := by simp
      omega
    · rcases hob with e | e
      · exact .inl e
      · exact .inr ⟨_, e, hW.size⟩
theorem Li.cut {base P : Nat} {tv v bv : Value} {w : World} {s : List Co} {ns : List ByteArray} {bl : List Nat} {t : ByteArray} (h : Li base P tv w v bv s (ns ++ [t]) bl) :
    ∃ g bc, bv = .slice (some ⟨g, 0, none⟩) (ns.length + 1) bc ∧ ns.length + 1 ≤ bc ∧ Li base P tv (w.setCell ⟨P, 2, none⟩ (.slice (some ⟨g, 0, none⟩) ns.length bc)) v (.slice (some ⟨g, 0, none⟩) ns.length bc) s ns bl ∧ Fi P v v bv (.slice (some ⟨g, 0, none⟩) ns.length bc) w (w.setCell ⟨P, 2, none⟩ (.slice (some ⟨g, 0, none⟩) ns.length bc)) ∧ Ky [2, 99, 91, 120] w (w.setCell ⟨P, 2, none⟩ (.slice (some ⟨g, 0, none⟩) ns.length bc)) := by
  have hn := h.names
  have hl : (ns ++ [t]).length = ns.length + 1 := by simp
  rw [hl, List.map_append] at hn
  obtain ⟨h1, ⟨h2, h3⟩ | ⟨g, cap, cur, h4, hg, hh, hnc, hcm, hcs, htk⟩⟩ := hn
  · omega
  have set : ∀ (ts : List TypeId) (x : Value), 59 ∉ ts → Ky ts w (w.setCell ⟨P, 2, none⟩ x) := fun ts x hts k c t' hk ht => heap_setCell_other _ ⟨P, 2, none⟩ k _ (fun e => by
    have e' : k = P := e
    subst e'
    obtain ⟨c', h1, _⟩ := h.own
    rw [h1] at hk
    simp only [Option.some.injEq, Obj.cells.injEq] at hk
    rw [← hk.2.1] at ht
    exact hts ht)
  refine ⟨g, cap, h4, hnc, ⟨h.own.set 2 _, h.le, ?_, h.nd, ?_⟩, ?_, set _ _ (by decide)⟩
  · obtain ⟨cs, h3, h4, h5⟩ := h.row
    have k2 := set [82, 120] (.slice (some ⟨g, 0, none⟩) ns.length cap) (by decide)
    exact ⟨cs, h3, ⟨k2.row h4.1 (by decide), fun p hp => k2.res (by decide) (h4.2 p hp)⟩, h5⟩
  · refine ⟨by simp, .inr ⟨g, cap, cur, rfl, hg, (set [9] _ (by decide) g cur _ hh (by decide)).trans hh, by omega, hcm, hcs, ?_⟩⟩
    have e : cur.toList.take (ns.length * 1) = (cur.toList.take ((ns.length + 1) * 1)).take ns.length := by rw [List.take_take]; congr 1; omega
    rw [e, htk, List.take_left' (by simp)]
  · refine Fi.of rfl rfl rfl (by simp) (fun k h1 h2 h3 => heap_setCell_other _ ⟨P, 2, none⟩ k _ h2) (.inl ?_)
    rw [h4]; rfl
end Lp

end Go.Proofs.Ytmbefapdckhjdaa

namespace Go.Proofs.Ytmbefapdckhjdaa
open Go.RowKit
set_option linter.unusedVariables false
set_option linter.unusedSimpArgs false


theorem Lp.names_slice {w : World} {b0 n : Nat} {nv : Value} {xs : List Value} (h : w.ownsRow b0 9 1 nv n xs) : ∃ a c, nv = .slice a n c := by
  obtain ⟨h1, ⟨h2, h3⟩ | ⟨g, cap, cur, h4, hg, hh, h5⟩⟩ := h
  · exact ⟨none, 0, by rw [h2, h3]⟩
  · exact ⟨_, cap, h4⟩
theorem Lp.bind_eq (rec : Lw.Rec) (op : Int) (t : ByteArray) (a cF : Fm) (hf : Lp.isF cF) (ns : List ByteArray) (s : List Co) : ((Lw.lay rec (.bind op t a (Lw.l1 cF)) ns s).1, (Lw.lay rec (.bind op t a (Lw.l1 cF)) ns s).2.headD 0) = ((Lw.lay rec cF (ns ++ [t]) (Lw.lay rec a ns s).1).1 ++ [Lw.mk op ns.length [] ((Lw.lay rec a ns s).2 ++ [(Lw.lay rec cF (ns ++ [t]) (Lw.lay rec a ns s).1).2.headD 0])], ((Lw.lay rec cF (ns ++ [t]) (Lw.lay rec a ns s).1).1.length : Int)) := by
  have h1 := Lp.lay_one rec cF hf (ns ++ [t]) (Lw.lay rec a ns s).1
  show ((Lw.lay rec cF (ns ++ [t]) (Lw.lay rec a ns s).1).1 ++ [Lw.mk op ns.length [] ((Lw.lay rec a ns s).2 ++ ((Lw.lay rec cF (ns ++ [t]) (Lw.lay rec a ns s).1).2 ++ []))], _) = _
  rw [List.append_nil, h1]
  rfl
set_option maxRecDepth 100000 in
set_option maxHeartbeats 2000000 in
theorem layBinding_any (base P : Nat) (tv : Value) (T : World → Prop) (hT : ∀ x y, Below base x y → T x → T y) (rec : Lw.Rec) (c : Int → Nat) (hc : ∀ i ns s, (rec i ns s).1.length ≤ s.length + c i) (ns : List ByteArray) (op : Int) (t : ByteArray) (a cF : Fm) (hil : Lp.isL a) (hgd : Lp.Gd a) (h2 : (Lp.elems a).length ≤ 2) (hf : Lp.isF cF) (hsay : ∀ G ∈ Lp.elems a, Lp.SayF base P tv T rec c G ns) (hlast : Lp.SayF base P tv T rec c cF (ns ++ [t])) (hns : ns.length ≤ 3900)
    (v bv : Value) (s : List Co) (bl : List Nat) (w : World) (av lv : Value) (qs : List Value) (b1 b2 : List Nat) (hL : Lp.Li base P tv w v bv s ns bl) (hw : T w) (hpt : Lf.Pt w base av qs) (hfa : Lf.Fv w base a qs b1) (hfc : Lf.Fv w base cF [lv] b2) (hnd : (b1 ++ b2).Nodup) (hap : ∀ b ∈ b1 ++ b2, b ∉ bl ∧ b < w.heap.size) (hroom : s.length + (Lw.cst c a + Lw.cst c cF + 1) ≤ 3000) :
    Calls Try.prog 54 #[.pointer (some ⟨P, 0, none⟩), .agg #[.int .i64 op, .string t, av, lv]] w (Lp.Mi base P tv v bv w ns bl (b1 ++ b2) ((Lw.lay rec (.bind op t a (Lw.l1 cF)) ns s).1, (Lw.lay rec (.bind op t a (Lw.l1 cF)) ns s).2.headD 0)) := by
  rw [Lp.bind_eq rec op t a cF hf ns s]
  obtain ⟨i0, hi, hz0, hz1, hz2⟩ := info_parts Lp.infoI
  obtain ⟨t0, ht0, hy0, hy1, hy2⟩ := info_parts Tr.infoT
  obtain ⟨ya, yn, yc, rfl⟩ := hpt.shape
  obtain ⟨y1, y2, rfl⟩ := Lf.fv_iface hfc ⟨(by rintro rfl; exact hf), (by rintro x y rfl; exact hf)⟩
  obtain ⟨ba, bc, hbv⟩ := Lp.names_slice hL.names
  subst hbv
  have hnd2 := List.nodup_append.1 hnd
  have hlenA := Lw.lay_len rec c hc a ns s
  have hplA := Lp.lay_places rec a hil hgd ns s
  have hlenC := Lw.lay_len rec c hc cF (ns ++ [t]) (Lw.lay rec a ns s).1
  obtain ⟨w0, hw0⟩ : ∃ w0, w0 = w.alloc (.cells #[.int .i64 op, .string t, .slice ya yn yc, .iface y1 y2] 99) := ⟨_, rfl⟩
  have B0 : Below w.heap.size w w0 := by rw [hw0]; exact (Below.refl _ _).alloc (Nat.le_refl _) _
  have X0 : Own w0 w.heap.size 99 [.int .i64 op, .string t, .slice ya yn yc, .iface y1 y2] := by rw [hw0]; exact ⟨_, heap_alloc_new _ _, rfl⟩
  have L0 := hL.below B0
  have T0 := hT _ _ (B0.mono hL.base) hw
  have FC0 := Lf.Fv.keep (Lf.Kf.below B0) _ hfc
  have HALL := hide (layAll_any base P tv T hT rec c hc ns v _ _ s bl b1 a qs w0 L0 T0 (hpt.keep (Lf.Kf.below B0)) (Lf.Fv.keep (Lf.Kf.below B0) _ hfa) hnd2.1 (fun b hb => ⟨(hap b (List.mem_append_left _ hb)).1, Nat.lt_of_lt_of_le (hap b (List.mem_append_left _ hb)).2 B0.size⟩) (by omega) hil hgd (by omega) hsay)
  obtain ⟨A, hA⟩ : ∃ A, A = Lw.lay rec a ns s := ⟨_, rfl⟩
  rw [← hA] at HALL hlenA hplA hlenC ⊢
  obtain ⟨C, hC⟩ : ∃ C, C = Lw.lay rec cF (ns ++ [t]) A.1 := ⟨_, rfl⟩
  rw [← hC] at hlenC ⊢
  obtain ⟨q, hq⟩ : ∃ q, q = C.2.headD 0 := ⟨_, rfl⟩
  rw [← hq]
  have HLAST := hide (show ∀ (w2 : World) (v1 bv2 : Value) (bl1 : List Nat), Lp.Li base P tv w2 v1 bv2 A.1 (ns ++ [t]) bl1 → T w2 → Lf.Fv w2 base cF [.iface y1 y2] b2 → (∀ b ∈ bl1, b ∈ bl ∨ b ∈ b1 ∨ w0.heap.size ≤ b) → w.heap.size ≤ w2.heap.size → Calls Try.prog 24 #[.pointer (some ⟨P, 0, none⟩), .iface y1 y2] w2 (Lp.Mi base P tv v1 bv2 w2 (ns ++ [t]) bl1 b2 (C.1, q)) from fun w2 v1 bv2 bl1 L2 T2 fv2 I1 hsz => by
    rw [hq, hC]
    refine hlast v1 bv2 A.1 bl1 w2 _ b2 L2 T2 fv2 hnd2.2.1 (fun b hb => ⟨fun hin => ?_, Nat.lt_of_lt_of_le (hap b (List.mem_append_right _ hb)).2 hsz⟩) (by omega)
    rcases I1 b hin with x | x | x
    · exact (hap b (List.mem_append_right _ hb)).1 x
    · exact hnd2.2.2 b x b hb rfl
    · have h4 := (hap b (List.mem_append_right _ hb)).2
      have h5 := B0.size
      omega)
  have HPUT := hide (show ∀ (w5 : World) (v3 bv5 pl : Value) (bl3 : List Nat), Lp.Li base P tv w5 v3 bv5 C.1 ns bl3 → w5.ownsRow w0.heap.size 2 1 pl (A.2.length + 1) (A.2.map (Value.int .i64) ++ [.int .i64 q]) → Calls Try.prog 52 #[.pointer (some ⟨P, 0, none⟩), .agg #[.int .i64 op, .int .i64 0, .int .i64 0, .int .i64 0, .int .i64 (ns.length : Int), .slice none 0 0], pl] w5 fun e w6 => ∃ v6, e = .returned (.int .i64 (C.1.length : Int)) ∧ Lp.Li base P tv w6 v6 bv5 (C.1 ++ [Lw.mk op ns.length [] (A.2 ++ [q])]) ns bl3 ∧ Lp.Fi P v3 v6 bv5 bv5 w5 w6 from fun w5 v3 bv5 pl bl3 L5 R5 => by
    have R5' : w5.ownsRow w0.heap.size 2 1 pl (A.2 ++ [q]).length ((A.2 ++ [q]).map (Value.int .i64)) := by rw [List.length_append, List.length_singleton, List.map_append]; exact R5
    refine (put_li base P tv v3 bv5 (.slice none 0 0) pl C.1 ns bl3 op ns.length [] (A.2 ++ [q]) w5 L5 (Lf.res_nil _ _) (fun b h => by cases h) (Lp.Pl.row R5') (by rw [List.length_append, List.length_singleton]; omega) (by omega)).mono ?_
    rintro e w6 ⟨v6, rfl, L6, F6⟩
    rw [show bl3 ++ (Value.slice none 0 0).ownBlock.toList = bl3 from List.append_nil bl3] at L6
    exact ⟨v6, rfl, L6, F6⟩)
  have hA2 : A.2.length ≤ 2 := by omega
  have HT := hide hT
  have p2 := L0.own.cell 2
  have x2 := X0.cell 2
  simp only [List.getElem?_cons_zero, List.getElem?_cons_succ] at p2 x2
  have HBASE := hide hL.base
  have hPlt := hL.own.lt
  have hne1 : ¬ P = w.heap.size := by omega
  have hne2 : ¬ w.heap.size = P := by omega
  clear hq hC hA hL hw hpt hfa hfc hnd hap hroom hsay hlast hgd hil hT hc hnd2 hlenA hplA hlenC
  go_enter Try.func54, Try.ntmps54
  rw [hw0] at p2 x2
  go_wp2_with fail
  rw [← hw0]
  clear hw0 p2 x2
  refine (unhide HALL).mono ?_
  rintro e w1 ⟨v1, bv1, bl1, pl, rfl, L1, F1, I1, R1⟩
  have K1 := L0.keep F1 [2, 99, 91, 120] (by decide)
  have X1 := K1.own X0 (by decide)
  have FC1 := Lf.Fv.keep (K1.kf (by decide)) _ FC0
  have T1 := (unhide HT) _ _ (L0.frame F1) T0
  obtain ⟨ba1, bc1, hbv1⟩ := Lp.names_slice L1.names
  subst hbv1
  obtain ⟨pa, pc, hpl⟩ : ∃ x y, pl = .slice x A.2.length y := by obtain ⟨x, y, h, _⟩ := Lp.Pl.row R1; exact ⟨x, y, h⟩
  subst hpl
  have p2 := L1.own.cell 2
  have x1 := X1.cell 1
  simp only [List.getElem?_cons_zero, List.getElem?_cons_succ] at p2 x1
  have HL1 := hide L1
  have HF1 := hide F1
  have HI1 := hide I1
  have HR1 := hide R1
  have HX1 := hide X1
  have HFC1 := hide FC1
  clear HALL L1 F1 I1 R1 X1 FC1 K1 X0 FC0
  go_wp2_with fail
  refine Z.region 11 (fun w' => w'.cell? ⟨P, 2, none⟩ = some (.slice ba1 ns.length bc1) ∧ w'.cell? ⟨w.heap.size, 1, none⟩ = some (.string t)) (by kernel_rfl) ⟨p2, x1⟩ (fun hHeld => ?_)
  refine Z.take (i := 0) (d := 16) (v := .pointer (some ⟨P, 0, none⟩)) rfl rfl (by kernel_rfl) (by kernel_rfl) (by kernel_rfl) (by kernel_rfl) (fun _ _ _ h => h) (Or.inl ⟨by rfl, ?_⟩) hHeld ?_
  · intro w' hSw; obtain ⟨s1, q0⟩ := hSw; go_simp
  simp only [Act.put, List.setIfInBounds_toArray, List.set_cons_zero, List.set_cons_succ]
  refine Z.take (i := 1) (d := 17) (v := .pointer (some ⟨P, 0, none⟩)) rfl rfl (by kernel_rfl) (by kernel_rfl) (by kernel_rfl) (by kernel_rfl) (fun _ _ _ h => h) (Or.inl ⟨by rfl, ?_⟩) hHeld ?_
  · intro w' hSw; obtain ⟨s1, q0⟩ := hSw; go_simp
  simp only [Act.put, List.setIfInBounds_toArray, List.set_cons_zero, List.set_cons_succ]
  refine Z.take (i := 2) (d := 18) (v := .pointer (some ⟨P, 0, none⟩)) rfl rfl (by kernel_rfl) (by kernel_rfl) (by kernel_rfl) (by kernel_rfl) (fun _ _ _ h => h) (Or.inl ⟨by rfl, ?_⟩) hHeld ?_
  · intro w' hSw; obtain ⟨s1, q0⟩ := hSw; go_simp
  simp only [Act.put, List.setIfInBounds_toArray, List.set_cons_zero, List.set_cons_succ]
  refine Z.take (i := 3) (d := 19) (v := .pointer (some ⟨P, 2, none⟩)) rfl rfl (by kernel_rfl) (by kernel_rfl) (by kernel_rfl) (by kernel_rfl) (fun _ _ _ h => h) (Or.inl ⟨by rfl, ?_⟩) hHeld ?_
  · intro w' hSw; obtain ⟨s1, q0⟩ := hSw; go_simp
  simp only [Act.put, List.setIfInBounds_toArray, List.set_cons_zero, List.set_cons_succ]
  refine Z.take (i := 4) (d := 20) (v := .slice ba1 ns.length bc1) rfl rfl (by kernel_rfl) (by kernel_rfl) (by kernel_rfl) (by kernel_rfl) (fun _ _ _ h => h) (Or.inl ⟨by rfl, ?_⟩) hHeld ?_
  · intro w' hSw; obtain ⟨s1, q0⟩ := hSw; go_simp
  simp only [Act.put, List.setIfInBounds_toArray, List.set_cons_zero, List.set_cons_succ]
  refine Z.take (i := 5) (d := 21) (v := .pointer (some ⟨w.heap.size, 1, none⟩)) rfl rfl (by kernel_rfl) (by kernel_rfl) (by kernel_rfl) (by kernel_rfl) (fun _ _ _ h => h) (Or.inl ⟨by rfl, ?_⟩) hHeld ?_
  · intro w' hSw; obtain ⟨s1, q0⟩ := hSw; go_simp
  simp only [Act.put, List.setIfInBounds_toArray, List.set_cons_zero, List.set_cons_succ]
  refine Z.take (i := 6) (d := 22) (v := .string t) rfl rfl (by kernel_rfl) (by kernel_rfl) (by kernel_rfl) (by kernel_rfl) (fun _ _ _ h => h) (Or.inl ⟨by rfl, ?_⟩) hHeld ?_
  · intro w' hSw; obtain ⟨s1, q0⟩ := hSw; go_simp
  simp only [Act.put, List.setIfInBounds_toArray, List.set_cons_zero, List.set_cons_succ]
  have BW : Below w1.heap.size w1 (w1.alloc (.cells #[.string t] 9)).drew := ((Below.refl w1.heap.size w1).alloc (Nat.le_refl _) _).drew
  have N1 := (unhide HL1).own.below BW (unhide HL1).own.lt
  have Y1 := (unhide HX1).below BW (unhide HX1).lt
  refine Z.ready (rs := [7]) (by kernel_rfl) (by simp) (Z.val_cons (i := 7) (d := 23) (v := .slice (some ⟨w1.heap.size, 0, none⟩) 1 1) (w' := (w1.alloc (.cells #[.string t] 9)).drew) rfl (by rfl) ?_ (fun _ => ?_) ?_ Z.All.nil)
  · intro K hK
    go_simp
    exact hK.out
  · exact ⟨N1.cell 2, Y1.cell 1⟩
  simp only [Act.put, List.setIfInBounds_toArray, List.set_cons_zero, List.set_cons_succ]
  have O1 : Own (w1.alloc (.cells #[.string t] 9)).drew w1.heap.size 9 [.string t] := ⟨_, heap_alloc_new w1 (.cells #[.string t] 9), rfl⟩
  generalize (w1.alloc (.cells #[.string t] 9)).drew = W1 at *
  refine Z.ready (rs := [8]) (by kernel_rfl) (by simp) (Z.All.cons rfl (fun K hK => ?_) Z.All.nil)
  refine Lw.step_append W1 rfl (.tmp 20) (.tmp 23) 57 rfl base 9 t0 (.string ByteArray.empty) 1 16 Try.underlying57 ht0 hy0 hy1 hy2 rfl (by decide) (.slice ba1 ns.length bc1) ns.length (ns.map Value.string) rfl ((Lp.Ky.below BW (ts := [9])).row (unhide HL1).names (by decide)) ⟨w1.heap.size, 0, none⟩ 1 1 [.string t] rfl rfl ?_ (by intro u hu; simp only [List.mem_singleton] at hu; subst hu; rfl) (by unfold maxLen; omega) (by omega) (Nat.le_trans (unhide HL1).base BW.size) ?_
  · intro j u hu
    have ha : (⟨w1.heap.size, 0, none⟩ : Addr).add j = ⟨w1.heap.size, j, none⟩ := by unfold Addr.add; split <;> simp_all
    rw [ha, O1.cell j]
    exact hu
  intro bv2 wb ho hg hob
  obtain ⟨NB, KB, L2, F2, K2⟩ := (unhide HL1).push BW ho hg hob
  have XB := KB.own (unhide HX1) (by decide)
  have hHeld2 : (fun w' : World => w'.cell? ⟨P, 2, none⟩ = some (.slice ba1 ns.length bc1) ∧ w'.cell? ⟨w.heap.size, 1, none⟩ = some (.string t)) wb := ⟨NB.cell 2, XB.cell 1⟩
  obtain ⟨ba2, bc2, hbv2⟩ := Lp.names_slice L2.names
  have hl2 : (ns ++ [t]).length = ns.length + 1 := by simp
  rw [hl2] at hbv2
  subst hbv2
  refine hK.out _ _ (fun _ => hHeld2) ?_
  clear hK K
  simp only [Act.put, List.getElem_toArray, List.getElem_cons_succ, List.getElem_cons_zero, List.setIfInBounds_toArray, List.set_cons_zero, List.set_cons_succ]
  refine Z.ready (rs := [9]) (by kernel_rfl) (by simp) (Z.val_cons (i := 9) (d := 25) (v := .pointer (some ⟨P, 0, none⟩)) (w' := wb) rfl (by rfl) ?_ (fun _ => hHeld2) ?_ Z.All.nil)
  · intro K hK
    go_simp
    exact hK.out
  simp only [Act.put, List.setIfInBounds_toArray, List.set_cons_zero, List.set_cons_succ]
  refine Z.ready (rs := [10]) (by kernel_rfl) (by simp) (Z.val_cons (i := 10) (d := 26) (v := .pointer (some ⟨P, 2, none⟩)) (w' := wb) rfl (by rfl) ?_ (fun _ => hHeld2) ?_ Z.All.nil)
  · intro K hK
    go_simp
    exact hK.out
  simp only [Act.put, List.setIfInBounds_toArray, List.set_cons_zero, List.set_cons_succ]
  have n1 := NB.cell 2
  have z1 := NB.frozen 2
  refine Z.last_at (w' := wb.setCell ⟨P, 2, none⟩ (Value.slice ba2 (ns.length + 1) bc2)) rfl (by kernel_rfl) (by rfl) (fun K hK => ?_) ?_
  · go_simp
    exact hK.out
  refine Z.done (by kernel_rfl) ?_ _
  have X2 := K2.own (unhide HX1) (by decide)
  have R2 := K2.row (unhide HR1) (by decide)
  have FC2 := Lf.Fv.keep (K2.kf (by decide)) _ (unhide HFC1)
  have T2 := (unhide HT) _ _ ((unhide HL1).frame F2) T1
  have G2 := hide (((unhide HF1).trans F2).ahead B0)
  have hs2 : w0.heap.size ≤ (wb.setCell ⟨P, 2, none⟩ (Value.slice ba2 (ns.length + 1) bc2)).heap.size := Nat.le_trans (unhide HF1).size F2.size
  generalize wb.setCell ⟨P, 2, none⟩ (Value.slice ba2 (ns.length + 1) bc2) = w2 at *
  have HC2 := hide ((unhide HLAST) w2 v1 _ bl1 L2 T2 FC2 (unhide HI1) (unhide G2).size)
  have x3 := X2.cell 3
  simp only [List.getElem?_cons_zero, List.getElem?_cons_succ] at x3
  have HL2 := hide L2
  have HR2 := hide R2
  have HX2 := hide X2
  clear n1 z1 L2 R2 X2 FC2 K2 KB NB XB hHeld2 hHeld ho hg hob F2 HL1 HF1 HR1 HX1 HFC1 HLAST O1 N1 Y1 BW p2 x1
  go_wp2_with fail
  refine (unhide HC2).mono ?_
  rintro e w3 ⟨v3, bv3, bl3, rfl, L3, F3, I3⟩
  have K3 := (unhide HL2).keep F3 [2, 99, 91, 120] (by decide)
  have R3 := K3.row (unhide HR2) (by decide)
  have X3 := K3.own (unhide HX2) (by decide)
  have G3 := (unhide G2).trans F3
  have hs3 : w0.heap.size ≤ w3.heap.size := Nat.le_trans hs2 F3.size
  have hww0 : w.heap.size ≤ w0.heap.size := B0.size
  have I3' : Hid (∀ b ∈ bl3, b ∈ bl ∨ b ∈ b1 ++ b2 ∨ w.heap.size ≤ b) := fun b hb => by
    rcases I3 b hb with x | x | x
    · rcases (unhide HI1) b x with y | y | y
      · exact .inl y
      · exact .inr (.inl (List.mem_append_left _ y))
      · exact .inr (.inr (Nat.le_trans hww0 y))
    · exact .inr (.inl (List.mem_append_right _ x))
    · exact .inr (.inr (Nat.le_trans hww0 (Nat.le_trans hs2 x)))
  have hrow4 := hide (R3.alloc (.cells #[.int .i64 q] 2))
  have hone := hide (cell_one_new w3 (.int .i64 q) 2)
  have hop1 : Hid (∀ x ∈ [Value.int .i64 q], x.oneCell' = true) := fun x hx => by simp only [List.mem_singleton] at hx; subst hx; rfl
  have hb63 : A.2.length + 1 ≤ maxLen := by unfold maxLen; omega
  have hby : (A.2.length + 1) * 8 ≤ 140737488355328 := by omega
  have HL3 := hide L3
  have HR3 := hide R3
  have HX3 := hide X3
  have HG3 := hide G3
  clear L3 F3 I3 K3 R3 X3 G3 HL2 HR2 HX2 G2 HC2 HI1 x3
  go_wp2_with (at_builtin; refine wpList_append_own_at _ rfl (.tmp 27) (.tmp 32) 74 rfl w0.heap.size 2 i0 (.int .i64 0) 1 8 Try.underlying74 hi hz0 hz1 hz2 rfl (by decide) _ A.2.length _ rfl (unhide hrow4) ⟨w3.heap.size, 0, none⟩ 1 1 [.int .i64 q] rfl rfl (unhide hone) (unhide hop1) hb63 hby (by simp; omega) ?_)
  intro pl4 w4 ho4 hg4 _ _
  have hky : Lp.Ky [59, 82, 120, 9, 99] w3 w4 := by
    intro kk cc tt h1 h2
    have hlt1 := (Array.getElem?_eq_some_iff.1 h1).1
    have ha : (w3.alloc (.cells #[.int .i64 q] 2)).heap[kk]? = w3.heap[kk]? := ((Below.refl w3.heap.size w3).alloc (Nat.le_refl _) _).block kk hlt1
    refine (hg4.block kk (by simp; omega) (fun e => ?_)).trans ha
    obtain ⟨_, c', z1⟩ := Lp.row_typed (unhide HR3) e.symm
    rw [h1] at z1
    simp only [Option.some.injEq, Obj.cells.injEq] at z1
    rw [z1.2.1] at h2
    exact absurd h2 (by decide)
  have hbl : Below w.heap.size w3 w4 := ((Below.refl _ _).alloc (Nat.le_trans hww0 hs3) _).grown hg4 (by simp; omega) (fun x e => Nat.le_trans hww0 (Lp.row_typed (unhide HR3) e).1)
  have L4 := (unhide HL3).upd (hky.sub (by decide))
  have X4 := hky.own (unhide HX3) (by decide)
  have G4 := (unhide HG3).low hbl
  obtain ⟨g3, bc3, hbv3, hle3, L5, F5, K5⟩ := L4.cut
  subst hbv3
  have R5 := K5.row ho4 (by decide)
  have G5 := G4.trans F5
  have p2 := L4.own.cell 2
  have z2 := L4.own.frozen 2
  have x0 := X4.cell 0
  simp only [List.getElem?_cons_zero, List.getElem?_cons_succ] at p2 x0
  have HL5 := hide L5
  have HR5 := hide R5
  have HG5 := hide G5
  have hleI : (ns.length : Int) ≤ (bc3 : Int) := by omega
  clear L4 X4 G4 L5 F5 K5 R5 G5 hky hbl ho4 hg4 HL3 HR3 HX3 HG3 hrow4 hone hop1
  obtain ⟨w5, hw5⟩ : ∃ w5, w5 = w4.setCell ⟨P, 2, none⟩ (.slice (some ⟨g3, 0, none⟩) ns.length bc3) := ⟨_, rfl⟩
  rw [← hw5] at HL5 HR5 HG5
  go_wp2_with fail
  rw [← hw5]
  clear hw5 p2 z2 x0
  refine ((unhide HPUT) w5 v3 _ pl4 bl3 (unhide HL5) (unhide HR5)).mono ?_
  rintro e w6 ⟨v6, rfl, L6, F6⟩
  go_wp2_with fail
  go_ret
  exact ⟨v6, _, bl3, rfl, L6, (unhide HG5).trans F6, I3'.out⟩
set_option maxRecDepth 100000 in
set_option maxHeartbeats 1000000 in
theorem lay_bind (base P : Nat) (tv : Value) (T : World → Prop) (hT : ∀ x y, Below base x y → T x → T y) (rec : Lw.Rec) (c : Int → Nat) (hc : ∀ i ns s, (rec i ns s).1.length ≤ s.length + c i) (ns : List ByteArray) (op : Int) (t : ByteArray) (a cF : Fm) (hil : Lp.isL a) (hgd : Lp.Gd a) (h2 : (Lp.elems a).length ≤ 2) (hf : Lp.isF cF) (hsay : ∀ G ∈ Lp.elems a, Lp.SayF base P tv T rec c G ns) (hlast : Lp.SayF base P tv T rec c cF (ns ++ [t])) (hns : ns.length ≤ 3900) : Lp.SayF base P tv T rec c (.bind op t a (Lw.l1 cF)) ns := by
  intro v bv s bl w fv fb hL hw hfv hnd hap hroom
  obtain ⟨av, qs, lv, b1, b2, e1, hpt, hfa, hfb, e2⟩ := hfv
  simp only [List.cons.injEq, and_true] at e1
  subst e1 e2
  have hfc : Lf.Fv w base cF [lv] b2 := by
    obtain ⟨v', ws, c1, c2, e1, e2, h1, h2⟩ := hfb
    simp only [List.cons.injEq] at e1
    obtain ⟨rfl, rfl⟩ := e1
    obtain ⟨_, rfl⟩ := h2
    rw [e2, List.append_nil]; exact h1
  have hroom2 : s.length + (Lw.cst c a + (Lw.cst c cF + 0) + 1) ≤ 3000 := hroom
  obtain ⟨w0, hw0⟩ : ∃ w0, w0 = w.alloc (.cells #[.int .i64 op, .string t, av, lv] 99) := ⟨_, rfl⟩
  have B0 : Below w.heap.size w w0 := by rw [hw0]; exact (Below.refl _ _).alloc (Nat.le_refl _) _
  have HB := hide (layBinding_any base P tv T hT rec c hc ns op t a cF hil hgd h2 hf hsay hlast hns v bv s bl w0 av lv qs b1 b2 (hL.below B0) (hT _ _ (B0.mono hL.base) hw) (hpt.keep (Lf.Kf.below B0)) (Lf.Fv.keep (Lf.Kf.below B0) _ hfa) (Lf.Fv.keep (Lf.Kf.below B0) _ hfc) hnd (fun b hb => ⟨(hap b hb).1, Nat.lt_of_lt_of_le (hap b hb).2 B0.size⟩) (by omega))
  obtain ⟨ya, yn, yc, rfl⟩ := hpt.shape
  obtain ⟨y1, y2, rfl⟩ := Lf.fv_iface hfc ⟨(by rintro rfl; exact hf), (by rintro x y rfl; exact hf)⟩
  obtain ⟨R, hR⟩ : ∃ R, R = ((Lw.lay rec (.bind op t a (Lw.l1 cF)) ns s).1, (Lw.lay rec (.bind op t a (Lw.l1 cF)) ns s).2.headD 0) := ⟨_, rfl⟩
  rw [← hR] at HB ⊢
  clear hR hL hw hpt hfa hfb hfc hnd hap hroom hroom2 hsay hlast hgd hil hT hc
  have a1 := Lp.noT 99 (by decide)
  have a2 := Lp.noV 99 (by decide)
  have a3 := Lp.yesB
  go_enter Try.func24, Try.ntmps24
  go_wp2_with fail
  rw [← hw0]
  clear hw0
  refine (unhide HB).mono ?_
  rintro e w1 ⟨v1, bv1, bl1, rfl, L1, F1, I1⟩
  obtain ⟨q1, hq1⟩ : ∃ q, q = R.2 := ⟨_, rfl⟩
  rw [← hq1]
  have HQ := hide hq1
  clear hq1
  go_wp2_with fail
  go_ret
  refine ⟨v1, bv1, bl1, (by show Ending.returned (Value.int .i64 q1) = _; rw [unhide HQ]), L1, F1.ahead B0, fun b hb => ?_⟩
  rcases I1 b hb with x | x | x
  · exact .inl x
  · exact .inr (.inl x)
  · exact .inr (.inr (Nat.le_trans B0.size x))

end Go.Proofs.Ytmbefapdckhjdaa
