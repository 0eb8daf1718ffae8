/-
  Forms in memory: what a form is as a value, what it leads to; what stays of it.
  What makes forms: over, constant, done, truth, callForm, callOneForm, eachDone.
  impl.callForm, impl.callOneForm.
-/
import Derived.Test.YtmbefapdckhjdaaLowR
import Derived.Test.YtmbefapdckhjdaaAns
import Derived.Test.YtmbefapdckhjdaaLowT
import Derived.Deep.RegionWith
namespace Go.Proofs.Ytmbefapdckhjdaa
open Go.RowKit
set_option linter.unusedVariables false
set_option linter.unusedSimpArgs false


namespace Lf
theorem res_nil (w : World) (B : Nat) : Res w B (.slice none 0 0) [] := ⟨by simp, .inl ⟨rfl, rfl⟩⟩
abbrev iTree (i : Int) : Value := .iface 62 (.agg #[.int .i64 i])
abbrev iVar (t : ByteArray) : Value := .iface 94 (.agg #[.string t])
abbrev iNode (op num : Int) (vv pv : Value) : Value := .iface 102 (.agg #[.int .i64 op, .int .i64 0, .int .i64 0, .int .i64 0, .int .i64 num, vv, pv])
abbrev iBind (op : Int) (t : ByteArray) (av lv : Value) : Value := .iface 99 (.agg #[.int .i64 op, .string t, av, lv])
/-- The slice pv holds the forms qs in a block of its own. -/
def Pt (w : World) (B : Nat) (pv : Value) (qs : List Value) : Prop := (pv = .slice none 0 0 ∧ qs = []) ∨ ∃ g, pv = .slice (some ⟨g, 0, none⟩) qs.length qs.length ∧ B ≤ g ∧ Own w g 91 qs
/-- The values vs are the form (or the forms of the list) F; bl: the blocks of the values in it. -/
def Fv (w : World) (B : Nat) : Fm → List Value → List Nat → Prop
  | .nil, vs, bl => vs = [] ∧ bl = []
  | .cons h t, vs, bl => ∃ v ws b1 b2, vs = v :: ws ∧ bl = b1 ++ b2 ∧ Fv w B h [v] b1 ∧ Fv w B t ws b2
  | .tree i, vs, bl => vs = [iTree i] ∧ bl = []
  | .var t, vs, bl => vs = [iVar t] ∧ bl = []
  | .node op num val ps, vs, bl => ∃ vv pv qs b2, vs = [iNode op num vv pv] ∧ Res w B vv val ∧ Pt w B pv qs ∧ Fv w B ps qs b2 ∧ bl = vv.ownBlock.toList ++ b2
  | .bind op t a b, vs, bl => ∃ av qs lv b1 b2, vs = [iBind op t av lv] ∧ Pt w B av qs ∧ Fv w B a qs b1 ∧ Fv w B b [lv] b2 ∧ bl = b1 ++ b2
/-- Of blocks of forms and of cells the world w' has all that w had. -/
def Kf (w w' : World) : Prop := ∀ (k : Nat) (c : Array Value) (t : TypeId), w.heap[k]? = some (Obj.cells c t (0, 0)) → (t = 91 ∨ t = 120) → w'.heap[k]? = w.heap[k]?
theorem Kf.refl (w : World) : Kf w w := fun _ _ _ _ _ => rfl
theorem Kf.trans {w w1 w2 : World} (h : Kf w w1) (k : Kf w1 w2) : Kf w w2 := fun b c t h1 h2 => (k b c t ((h b c t h1 h2).trans h1) h2).trans (h b c t h1 h2)
theorem Kf.below {w w' : World} (h : Below w.heap.size w w') : Kf w w' := fun b c t h1 h2 => h.block b (Array.getElem?_eq_some_iff.1 h1).1
theorem Kf.own {w w' : World} (h : Kf w w') {b : Nat} {t : TypeId} {xs : List Value} (ho : Own w b t xs) (ht : t = 91 ∨ t = 120) : Own w' b t xs := by
  obtain ⟨c, h1, h2⟩ := ho
  exact ⟨c, (h b c t h1 ht).trans h1, h2⟩
theorem Kf.res {w w' : World} (h : Kf w w') {B : Nat} {s : Value} {l : List M.Cl} (hr : Res w B s l) : Res w' B s l := by
  obtain ⟨hn, h1 | ⟨b, cap, h1, h2, h3, xs, ho, h5⟩⟩ := hr
  · exact ⟨hn, .inl h1⟩
  · exact ⟨hn, .inr ⟨b, cap, h1, h2, h3, xs, h.own ho (.inr rfl), h5⟩⟩
theorem Pt.keep {w w' : World} {B : Nat} {pv : Value} {qs : List Value} (h : Pt w B pv qs) (hk : Kf w w') : Pt w' B pv qs := by
  rcases h with h | ⟨g, h1, h2, h3⟩
  · exact .inl h
  · exact .inr ⟨g, h1, h2, hk.own h3 (.inl rfl)⟩
theorem Fv.keep {w w' : World} {B : Nat} (hk : Kf w w') (F : Fm) : ∀ {vs : List Value} {bl : List Nat}, Fv w B F vs bl → Fv w' B F vs bl := by
  induction F with
  | nil => intro vs bl h; exact h
  | cons a b iha ihb =>
    rintro vs bl ⟨v, ws, b1, b2, h1, h2, h3, h4⟩
    exact ⟨v, ws, b1, b2, h1, h2, iha h3, ihb h4⟩
  | tree i => intro vs bl h; exact h
  | var t => intro vs bl h; exact h
  | node op num val ps ih =>
    rintro vs bl ⟨vv, pv, qs, b2, h1, h2, h3, h4, h5⟩
    exact ⟨vv, pv, qs, b2, h1, hk.res h2, h3.keep hk, ih h4, h5⟩
  | bind op t a b iha ihb =>
    rintro vs bl ⟨av, qs, lv, b1, b2, h1, h2, h3, h4, h5⟩
    exact ⟨av, qs, lv, b1, b2, h1, h2.keep hk, iha h3, ihb h4, h5⟩
theorem Pt.mono {w : World} {B C : Nat} {pv : Value} {qs : List Value} (h : Pt w B pv qs) (hb : C ≤ B) : Pt w C pv qs := by
  rcases h with h | ⟨g, h1, h2, h3⟩
  · exact .inl h
  · exact .inr ⟨g, h1, Nat.le_trans hb h2, h3⟩
theorem Fv.mono {w : World} {B C : Nat} (hb : C ≤ B) (F : Fm) : ∀ {vs : List Value} {bl : List Nat}, Fv w B F vs bl → Fv w C F vs bl := by
  induction F with
  | nil => intro vs bl h; exact h
  | cons a b iha ihb =>
    rintro vs bl ⟨v, ws, b1, b2, h1, h2, h3, h4⟩
    exact ⟨v, ws, b1, b2, h1, h2, iha h3, ihb h4⟩
  | tree i => intro vs bl h; exact h
  | var t => intro vs bl h; exact h
  | node op num val ps ih =>
    rintro vs bl ⟨vv, pv, qs, b2, h1, h2, h3, h4, h5⟩
    exact ⟨vv, pv, qs, b2, h1, h2.mono hb, h3.mono hb, ih h4, h5⟩
  | bind op t a b iha ihb =>
    rintro vs bl ⟨av, qs, lv, b1, b2, h1, h2, h3, h4, h5⟩
    exact ⟨av, qs, lv, b1, b2, h1, h2.mono hb, iha h3, ihb h4, h5⟩
/-- What a call leaves that makes the form F. -/
def Bt (w : World) (F : Fm) (e : Ending) (w' : World) : Prop := ∃ v bl, e = .returned v ∧ Fv w' w.heap.size F [v] bl ∧ bl.Nodup ∧ (∀ b ∈ bl, w.heap.size ≤ b ∧ b < w'.heap.size) ∧ Below w.heap.size w w'
theorem fv_tree (w : World) (B : Nat) (i : Int) : Fv w B (.tree i) [iTree i] [] := ⟨rfl, rfl⟩
theorem fv_over {w : World} {B : Nat} {op : Int} {ps : Fm} {pv : Value} {qs : List Value} {bl : List Nat} (h1 : Pt w B pv qs) (h2 : Fv w B ps qs bl) : Fv w B (Lw.over op ps) [iNode op 0 (.slice none 0 0) pv] bl := ⟨_, _, _, _, rfl, res_nil _ _, h1, h2, rfl⟩
theorem pt_nil (w : World) (B : Nat) : Pt w B (.slice none 0 0) [] := .inl ⟨rfl, rfl⟩
theorem fv_self (w : World) (B : Nat) (op : Int) : Fv w B (Lw.over op .nil) [iNode op 0 (.slice none 0 0) (.slice none 0 0)] [] := fv_over (pt_nil w B) ⟨rfl, rfl⟩
theorem fv_done (w : World) (B : Nat) (d : Int) : Fv w B (Lw.done d) [iNode 16 d (.slice none 0 0) (.slice none 0 0)] [] := ⟨_, _, _, _, rfl, res_nil _ _, pt_nil w B, ⟨rfl, rfl⟩, rfl⟩
theorem fv_con {w : World} {B g : Nat} {c : M.Cl} (h : Res w B (.slice (some ⟨g, 0, none⟩) 1 1) [c]) : Fv w B (Lw.con c) [iNode 2 0 (.slice (some ⟨g, 0, none⟩) 1 1) (.slice none 0 0)] [g] := ⟨_, _, _, _, rfl, h, pt_nil w B, ⟨rfl, rfl⟩, rfl⟩
theorem fv_iface {w : World} {B : Nat} {F : Fm} {v : Value} {bl : List Nat} (h : Fv w B F [v] bl) (hF : F ≠ .nil ∧ ∀ a b, F ≠ .cons a b) : ∃ t x, v = .iface t x := by
  cases F with
  | nil => exact absurd rfl hF.1
  | cons a b => exact absurd rfl (hF.2 a b)
  | tree i => obtain ⟨h1, _⟩ := h; simp only [List.cons.injEq, and_true] at h1; exact ⟨_, _, h1⟩
  | var t => obtain ⟨h1, _⟩ := h; simp only [List.cons.injEq, and_true] at h1; exact ⟨_, _, h1⟩
  | node op num val ps => obtain ⟨vv, pv, qs, b2, h1, _⟩ := h; simp only [List.cons.injEq, and_true] at h1; exact ⟨_, _, h1⟩
  | bind op t a b => obtain ⟨av, qs, lv, b1, b2, h1, _⟩ := h; simp only [List.cons.injEq, and_true] at h1; exact ⟨_, _, h1⟩
theorem fv_l1 {w : World} {B : Nat} {f : Fm} {v : Value} {b1 : List Nat} (h : Fv w B f [v] b1) : Fv w B (Lw.l1 f) [v] b1 := ⟨v, [], b1, [], rfl, (List.append_nil _).symm, h, rfl, rfl⟩
theorem fv_l2 {w : World} {B : Nat} {f g : Fm} {v u : Value} {b1 b2 : List Nat} (h : Fv w B f [v] b1) (k : Fv w B g [u] b2) : Fv w B (Lw.l2 f g) [v, u] (b1 ++ b2) := ⟨v, [u], b1, b2, rfl, rfl, h, fv_l1 k⟩
theorem fv_l3 {w : World} {B : Nat} {f g i : Fm} {v u x : Value} {b1 b2 b3 : List Nat} (h : Fv w B f [v] b1) (k : Fv w B g [u] b2) (j : Fv w B i [x] b3) : Fv w B (Lw.l3 f g i) [v, u, x] (b1 ++ (b2 ++ b3)) := ⟨v, [u, x], b1, _, rfl, rfl, h, fv_l2 k j⟩
end Lf

end Go.Proofs.Ytmbefapdckhjdaa

namespace Go.Proofs.Ytmbefapdckhjdaa
open Go.RowKit
set_option linter.unusedVariables false
set_option linter.unusedSimpArgs false


set_option maxHeartbeats 400000 in
theorem over_any (op : Int) (pa : Option Addr) (pn pc : Nat) (w : World) : Calls Try.prog 83 #[.int .i64 op, .slice pa pn pc] w fun e w' => e = .returned (Lf.iNode op 0 (.slice none 0 0) (.slice pa pn pc)) ∧ w' = w := by
  go_enter Try.func83, Try.ntmps83
  go_wp2_with fail
  go_ret
  exact ⟨rfl, rfl⟩
set_option maxHeartbeats 400000 in
theorem done_any (d : Int) (w : World) : Calls Try.prog 117 #[.int .i64 d] w fun e w' => e = .returned (Lf.iNode 16 d (.slice none 0 0) (.slice none 0 0)) ∧ w' = w := by
  go_enter Try.func117, Try.ntmps117
  go_wp2_with fail
  go_ret
  exact ⟨rfl, rfl⟩
set_option maxHeartbeats 400000 in
theorem constant_any (c : M.Cl) (w : World) : Calls Try.prog 84 #[.agg #[.int .i64 c.kind, .int .i64 c.num, .string c.text, .string c.key, .int .i64 c.n]] w fun e w' => e = .returned (Lf.iNode 2 0 (.slice (some ⟨w.heap.size + 1, 0, none⟩) 1 1) (.slice none 0 0)) ∧ Res w' w.heap.size (.slice (some ⟨w.heap.size + 1, 0, none⟩) 1 1) [c] ∧ w'.heap.size = w.heap.size + 2 ∧ Below w.heap.size w w' := by
  go_enter Try.func84, Try.ntmps84
  go_wp2_with fail
  go_ret
  refine ⟨rfl, ?_, by simp, ?_⟩
  · have := one_cell (w.alloc (.cells #[.int .i64 c.kind, .int .i64 c.num, .string c.text, .string c.key, .int .i64 c.n] 120)) w.heap.size (w.heap.size + 1) c (by simp) (by simp)
    exact this
  · exact ((Below.refl _ _).alloc (Nat.le_refl _) _).alloc (by simp) _

set_option maxHeartbeats 1000000 in
theorem truth_any (i : Int) (w : World) : Calls Try.prog 85 #[Lf.iTree i] w (Lf.Bt w (Lw.truth (.tree i))) := by
  go_enter Try.func85, Try.ntmps85
  go_wp2_with fail
  refine (constant_any (Lw.kind 2) _).mono ?_
  rintro e w1 ⟨rfl, r1, y1, b1⟩
  have z1 := hide y1
  have B1 : Below w.heap.size w w1 := (Below.refl w.heap.size w).trans (b1.mono (Below.refl w.heap.size w).size)
  have r1 := r1.mono (show w.heap.size ≤ w.heap.size from (Below.refl w.heap.size w).size)
  have g1 : w.heap.size ≤ w.heap.size + 1 := Nat.le_trans (Below.refl w.heap.size w).size (Nat.le_succ _)
  have l1 : w.heap.size + 1 < w1.heap.size := by omega
  clear y1
  go_wp2_with fail
  refine (constant_any (Lw.kind 1) _).mono ?_
  rintro e w2 ⟨rfl, r2, y2, b2⟩
  have z2 := hide y2
  have B2 : Below w.heap.size w w2 := B1.trans (b2.mono B1.size)
  have r2 := r2.mono (show w.heap.size ≤ w1.heap.size from B1.size)
  have g2 : w.heap.size ≤ w1.heap.size + 1 := Nat.le_trans B1.size (Nat.le_succ _)
  have l2 : w1.heap.size + 1 < w2.heap.size := by omega
  clear y2
  have r1 := r1.below b2
  obtain ⟨w3, hw3⟩ : ∃ w3, w3 = w2.alloc (.cells #[Lf.iTree i, Lf.iNode 2 0 (.slice (some ⟨w.heap.size + 1, 0, none⟩) 1 1) (.slice none 0 0), Lf.iNode 2 0 (.slice (some ⟨w1.heap.size + 1, 0, none⟩) 1 1) (.slice none 0 0)] 91) := ⟨_, rfl⟩
  have b3 : Below w2.heap.size w2 w3 := by rw [hw3]; exact (Below.refl _ _).alloc (Nat.le_refl _) _
  have z3 := hide (show w3.heap.size = w2.heap.size + 1 by rw [hw3]; simp)
  have B3 : Below w.heap.size w w3 := B2.trans (b3.mono B2.size)
  have p3 : Lf.Pt w3 w.heap.size (.slice (some ⟨w2.heap.size, 0, none⟩) 3 3) [Lf.iTree i, Lf.iNode 2 0 (.slice (some ⟨w.heap.size + 1, 0, none⟩) 1 1) (.slice none 0 0), Lf.iNode 2 0 (.slice (some ⟨w1.heap.size + 1, 0, none⟩) 1 1) (.slice none 0 0)] := .inr ⟨_, rfl, B2.size, by rw [hw3]; exact ⟨_, heap_alloc_new _ _, rfl⟩⟩
  have r1 := r1.below b3
  have r2 := r2.below b3
  go_wp2_with fail
  rw [← hw3]
  clear hw3
  refine (over_any 12 (some ⟨w2.heap.size, 0, none⟩) 3 3 _).mono ?_
  rintro e wk ⟨rfl, hwk⟩
  rw [hwk]
  clear hwk
  go_wp2_with fail
  go_ret
  skip
  have z1 := unhide z1
  have z2 := unhide z2
  have z3 := unhide z3
  refine ⟨_, [] ++ ([w.heap.size + 1] ++ [w1.heap.size + 1]), rfl, Lf.fv_over p3 (Lf.fv_l3 (Lf.fv_tree _ _ i) (Lf.fv_con r1) (Lf.fv_con r2)), ?_, ?_, B3⟩
  · simp <;> omega
  · intro b hb
    simp only [List.mem_cons, List.not_mem_nil, or_false, List.append_nil, List.nil_append, List.cons_append] at hb <;> omega

set_option maxHeartbeats 1000000 in
theorem eachDone_any (d : Int) (w : World) : Calls Try.prog 88 #[.int .i64 d] w (Lf.Bt w (Lw.over 8 (Lw.l1 (Lw.done d)))) := by
  go_enter Try.func88, Try.ntmps88
  go_wp2_with fail
  refine (done_any d _).mono ?_
  rintro e wk ⟨rfl, hwk⟩
  rw [hwk]
  clear hwk
  obtain ⟨w1, hw1⟩ : ∃ w1, w1 = w.alloc (.cells #[Lf.iNode 16 d (.slice none 0 0) (.slice none 0 0)] 91) := ⟨_, rfl⟩
  have b1 : Below w.heap.size w w1 := by rw [hw1]; exact (Below.refl _ _).alloc (Nat.le_refl _) _
  have z1 := hide (show w1.heap.size = w.heap.size + 1 by rw [hw1]; simp)
  have B1 : Below w.heap.size w w1 := (Below.refl w.heap.size w).trans (b1.mono (Below.refl w.heap.size w).size)
  have p1 : Lf.Pt w1 w.heap.size (.slice (some ⟨w.heap.size, 0, none⟩) 1 1) [Lf.iNode 16 d (.slice none 0 0) (.slice none 0 0)] := .inr ⟨_, rfl, (Below.refl w.heap.size w).size, by rw [hw1]; exact ⟨_, heap_alloc_new _ _, rfl⟩⟩
  go_wp2_with fail
  rw [← hw1]
  clear hw1
  refine (over_any 8 (some ⟨w.heap.size, 0, none⟩) 1 1 _).mono ?_
  rintro e wk ⟨rfl, hwk⟩
  rw [hwk]
  clear hwk
  go_wp2_with fail
  go_ret
  skip
  have z1 := unhide z1
  refine ⟨_, [], rfl, Lf.fv_over p1 (Lf.fv_l1 (Lf.fv_done _ _ d)), ?_, ?_, B1⟩
  · simp <;> omega
  · intro b hb
    simp only [List.mem_cons, List.not_mem_nil, or_false, List.append_nil, List.nil_append, List.cons_append] at hb <;> omega

end Go.Proofs.Ytmbefapdckhjdaa

namespace Go.Proofs.Ytmbefapdckhjdaa
open Go.RowKit
set_option linter.unusedVariables false
set_option linter.unusedSimpArgs false


set_option maxHeartbeats 1000000 in
theorem callForm_0 (t : ByteArray) (w : World)  (h0 : t = ⟨#[110, 111, 116]⟩) : Calls Try.prog 86 #[.string t] w (Lf.Bt w (Lw.call t)) := by
  rw [show Lw.call t = Lw.over 12 (Lw.l3 (Lw.over 1 .nil) (Lw.con (Lw.kind 1)) (Lw.con (Lw.kind 2))) by unfold Lw.call; rw [if_pos h0]]
  have g0_ : (t.toList == [110, 111, 116]) = true := Lw.lit_eq [110, 111, 116] h0
  clear h0
  go_enter Try.func86, Try.ntmps86
  go_wp2_with fail
  refine (over_any 1 none 0 0 _).mono ?_
  rintro e wk ⟨rfl, hwk⟩
  rw [hwk]
  clear hwk
  go_wp2_with fail
  refine (constant_any (Lw.kind 1) _).mono ?_
  rintro e w1 ⟨rfl, r1, y1, b1⟩
  have z1 := hide y1
  have B1 : Below w.heap.size w w1 := (Below.refl w.heap.size w).trans (b1.mono (Below.refl w.heap.size w).size)
  have r1 := r1.mono (show w.heap.size ≤ w.heap.size from (Below.refl w.heap.size w).size)
  have g1 : w.heap.size ≤ w.heap.size + 1 := Nat.le_trans (Below.refl w.heap.size w).size (Nat.le_succ _)
  have l1 : w.heap.size + 1 < w1.heap.size := by omega
  clear y1
  go_wp2_with fail
  refine (constant_any (Lw.kind 2) _).mono ?_
  rintro e w2 ⟨rfl, r2, y2, b2⟩
  have z2 := hide y2
  have B2 : Below w.heap.size w w2 := B1.trans (b2.mono B1.size)
  have r2 := r2.mono (show w.heap.size ≤ w1.heap.size from B1.size)
  have g2 : w.heap.size ≤ w1.heap.size + 1 := Nat.le_trans B1.size (Nat.le_succ _)
  have l2 : w1.heap.size + 1 < w2.heap.size := by omega
  clear y2
  have r1 := r1.below b2
  obtain ⟨w3, hw3⟩ : ∃ w3, w3 = w2.alloc (.cells #[Lf.iNode 1 0 (.slice none 0 0) (.slice none 0 0), Lf.iNode 2 0 (.slice (some ⟨w.heap.size + 1, 0, none⟩) 1 1) (.slice none 0 0), Lf.iNode 2 0 (.slice (some ⟨w1.heap.size + 1, 0, none⟩) 1 1) (.slice none 0 0)] 91) := ⟨_, rfl⟩
  have b3 : Below w2.heap.size w2 w3 := by rw [hw3]; exact (Below.refl _ _).alloc (Nat.le_refl _) _
  have z3 := hide (show w3.heap.size = w2.heap.size + 1 by rw [hw3]; simp)
  have B3 : Below w.heap.size w w3 := B2.trans (b3.mono B2.size)
  have p3 : Lf.Pt w3 w.heap.size (.slice (some ⟨w2.heap.size, 0, none⟩) 3 3) [Lf.iNode 1 0 (.slice none 0 0) (.slice none 0 0), Lf.iNode 2 0 (.slice (some ⟨w.heap.size + 1, 0, none⟩) 1 1) (.slice none 0 0), Lf.iNode 2 0 (.slice (some ⟨w1.heap.size + 1, 0, none⟩) 1 1) (.slice none 0 0)] := .inr ⟨_, rfl, B2.size, by rw [hw3]; exact ⟨_, heap_alloc_new _ _, rfl⟩⟩
  have r1 := r1.below b3
  have r2 := r2.below b3
  go_wp2_with fail
  rw [← hw3]
  clear hw3
  refine (over_any 12 (some ⟨w2.heap.size, 0, none⟩) 3 3 _).mono ?_
  rintro e wk ⟨rfl, hwk⟩
  rw [hwk]
  clear hwk
  go_wp2_with fail
  go_ret
  skip
  have z1 := unhide z1
  have z2 := unhide z2
  have z3 := unhide z3
  refine ⟨_, [] ++ ([w.heap.size + 1] ++ [w1.heap.size + 1]), rfl, Lf.fv_over p3 (Lf.fv_l3 (Lf.fv_self _ _ 1) (Lf.fv_con r1) (Lf.fv_con r2)), ?_, ?_, B3⟩
  · simp <;> omega
  · intro b hb
    simp only [List.mem_cons, List.not_mem_nil, or_false, List.append_nil, List.nil_append, List.cons_append] at hb <;> omega

set_option maxHeartbeats 1000000 in
theorem callForm_1 (t : ByteArray) (w : World) (h0 : t ≠ ⟨#[110, 111, 116]⟩) (h1 : t = ⟨#[101, 109, 112, 116, 121]⟩) : Calls Try.prog 86 #[.string t] w (Lf.Bt w (Lw.call t)) := by
  rw [show Lw.call t = Lw.over 17 .nil by unfold Lw.call; rw [if_neg h0, if_pos h1]]
  have g0_ : (t.toList == [110, 111, 116]) = false := Lw.lit_ne [110, 111, 116] h0
  have g1_ : (t.toList == [101, 109, 112, 116, 121]) = true := Lw.lit_eq [101, 109, 112, 116, 121] h1
  clear h0 h1
  go_enter Try.func86, Try.ntmps86
  go_wp2_with fail
  refine (over_any 17 none 0 0 _).mono ?_
  rintro e wk ⟨rfl, hwk⟩
  rw [hwk]
  clear hwk
  go_wp2_with fail
  go_ret
  skip
  
  refine ⟨_, [], rfl, Lf.fv_self _ _ 17, ?_, ?_, (Below.refl w.heap.size w)⟩
  · simp <;> omega
  · intro b hb
    simp only [List.mem_cons, List.not_mem_nil, or_false, List.append_nil, List.nil_append, List.cons_append] at hb <;> omega

set_option maxHeartbeats 1000000 in
theorem callForm_2 (t : ByteArray) (w : World) (h0 : t ≠ ⟨#[110, 111, 116]⟩) (h1 : t ≠ ⟨#[101, 109, 112, 116, 121]⟩) (h2 : t = ⟨#[108, 101, 110, 103, 116, 104]⟩) : Calls Try.prog 86 #[.string t] w (Lf.Bt w (Lw.call t)) := by
  rw [show Lw.call t = Lw.done 1 by unfold Lw.call; rw [if_neg h0, if_neg h1, if_pos h2]]
  have g0_ : (t.toList == [110, 111, 116]) = false := Lw.lit_ne [110, 111, 116] h0
  have g1_ : (t.toList == [101, 109, 112, 116, 121]) = false := Lw.lit_ne [101, 109, 112, 116, 121] h1
  have g2_ : (t.toList == [108, 101, 110, 103, 116, 104]) = true := Lw.lit_eq [108, 101, 110, 103, 116, 104] h2
  clear h0 h1 h2
  go_enter Try.func86, Try.ntmps86
  go_wp2_with fail
  refine (done_any 1 _).mono ?_
  rintro e wk ⟨rfl, hwk⟩
  rw [hwk]
  clear hwk
  go_wp2_with fail
  go_ret
  skip
  
  refine ⟨_, [], rfl, Lf.fv_done _ _ 1, ?_, ?_, (Below.refl w.heap.size w)⟩
  · simp <;> omega
  · intro b hb
    simp only [List.mem_cons, List.not_mem_nil, or_false, List.append_nil, List.nil_append, List.cons_append] at hb <;> omega

set_option maxHeartbeats 1000000 in
theorem callForm_3 (t : ByteArray) (w : World) (h0 : t ≠ ⟨#[110, 111, 116]⟩) (h1 : t ≠ ⟨#[101, 109, 112, 116, 121]⟩) (h2 : t ≠ ⟨#[108, 101, 110, 103, 116, 104]⟩) (h3 : t = ⟨#[107, 101, 121, 115]⟩) : Calls Try.prog 86 #[.string t] w (Lf.Bt w (Lw.call t)) := by
  rw [show Lw.call t = Lw.done 2 by unfold Lw.call; rw [if_neg h0, if_neg h1, if_neg h2, if_pos h3]]
  have g0_ : (t.toList == [110, 111, 116]) = false := Lw.lit_ne [110, 111, 116] h0
  have g1_ : (t.toList == [101, 109, 112, 116, 121]) = false := Lw.lit_ne [101, 109, 112, 116, 121] h1
  have g2_ : (t.toList == [108, 101, 110, 103, 116, 104]) = false := Lw.lit_ne [108, 101, 110, 103, 116, 104] h2
  have g3_ : (t.toList == [107, 101, 121, 115]) = true := Lw.lit_eq [107, 101, 121, 115] h3
  clear h0 h1 h2 h3
  go_enter Try.func86, Try.ntmps86
  go_wp2_with fail
  refine (done_any 2 _).mono ?_
  rintro e wk ⟨rfl, hwk⟩
  rw [hwk]
  clear hwk
  go_wp2_with fail
  go_ret
  skip
  
  refine ⟨_, [], rfl, Lf.fv_done _ _ 2, ?_, ?_, (Below.refl w.heap.size w)⟩
  · simp <;> omega
  · intro b hb
    simp only [List.mem_cons, List.not_mem_nil, or_false, List.append_nil, List.nil_append, List.cons_append] at hb <;> omega

set_option maxHeartbeats 1000000 in
theorem callForm_4 (t : ByteArray) (w : World) (h0 : t ≠ ⟨#[110, 111, 116]⟩) (h1 : t ≠ ⟨#[101, 109, 112, 116, 121]⟩) (h2 : t ≠ ⟨#[108, 101, 110, 103, 116, 104]⟩) (h3 : t ≠ ⟨#[107, 101, 121, 115]⟩) (h4 : t = ⟨#[116, 121, 112, 101]⟩) : Calls Try.prog 86 #[.string t] w (Lf.Bt w (Lw.call t)) := by
  rw [show Lw.call t = Lw.done 3 by unfold Lw.call; rw [if_neg h0, if_neg h1, if_neg h2, if_neg h3, if_pos h4]]
  have g0_ : (t.toList == [110, 111, 116]) = false := Lw.lit_ne [110, 111, 116] h0
  have g1_ : (t.toList == [101, 109, 112, 116, 121]) = false := Lw.lit_ne [101, 109, 112, 116, 121] h1
  have g2_ : (t.toList == [108, 101, 110, 103, 116, 104]) = false := Lw.lit_ne [108, 101, 110, 103, 116, 104] h2
  have g3_ : (t.toList == [107, 101, 121, 115]) = false := Lw.lit_ne [107, 101, 121, 115] h3
  have g4_ : (t.toList == [116, 121, 112, 101]) = true := Lw.lit_eq [116, 121, 112, 101] h4
  clear h0 h1 h2 h3 h4
  go_enter Try.func86, Try.ntmps86
  go_wp2_with fail
  refine (done_any 3 _).mono ?_
  rintro e wk ⟨rfl, hwk⟩
  rw [hwk]
  clear hwk
  go_wp2_with fail
  go_ret
  skip
  
  refine ⟨_, [], rfl, Lf.fv_done _ _ 3, ?_, ?_, (Below.refl w.heap.size w)⟩
  · simp <;> omega
  · intro b hb
    simp only [List.mem_cons, List.not_mem_nil, or_false, List.append_nil, List.nil_append, List.cons_append] at hb <;> omega

set_option maxHeartbeats 1000000 in
theorem callForm_5 (t : ByteArray) (w : World) (h0 : t ≠ ⟨#[110, 111, 116]⟩) (h1 : t ≠ ⟨#[101, 109, 112, 116, 121]⟩) (h2 : t ≠ ⟨#[108, 101, 110, 103, 116, 104]⟩) (h3 : t ≠ ⟨#[107, 101, 121, 115]⟩) (h4 : t ≠ ⟨#[116, 121, 112, 101]⟩) (h5 : t = ⟨#[115, 111, 114, 116]⟩) : Calls Try.prog 86 #[.string t] w (Lf.Bt w (Lw.call t)) := by
  rw [show Lw.call t = Lw.done 4 by unfold Lw.call; rw [if_neg h0, if_neg h1, if_neg h2, if_neg h3, if_neg h4, if_pos h5]]
  have g0_ : (t.toList == [110, 111, 116]) = false := Lw.lit_ne [110, 111, 116] h0
  have g1_ : (t.toList == [101, 109, 112, 116, 121]) = false := Lw.lit_ne [101, 109, 112, 116, 121] h1
  have g2_ : (t.toList == [108, 101, 110, 103, 116, 104]) = false := Lw.lit_ne [108, 101, 110, 103, 116, 104] h2
  have g3_ : (t.toList == [107, 101, 121, 115]) = false := Lw.lit_ne [107, 101, 121, 115] h3
  have g4_ : (t.toList == [116, 121, 112, 101]) = false := Lw.lit_ne [116, 121, 112, 101] h4
  have g5_ : (t.toList == [115, 111, 114, 116]) = true := Lw.lit_eq [115, 111, 114, 116] h5
  clear h0 h1 h2 h3 h4 h5
  go_enter Try.func86, Try.ntmps86
  go_wp2_with fail
  refine (done_any 4 _).mono ?_
  rintro e wk ⟨rfl, hwk⟩
  rw [hwk]
  clear hwk
  go_wp2_with fail
  go_ret
  skip
  
  refine ⟨_, [], rfl, Lf.fv_done _ _ 4, ?_, ?_, (Below.refl w.heap.size w)⟩
  · simp <;> omega
  · intro b hb
    simp only [List.mem_cons, List.not_mem_nil, or_false, List.append_nil, List.nil_append, List.cons_append] at hb <;> omega

set_option maxHeartbeats 1000000 in
theorem callForm_6 (t : ByteArray) (w : World) (h0 : t ≠ ⟨#[110, 111, 116]⟩) (h1 : t ≠ ⟨#[101, 109, 112, 116, 121]⟩) (h2 : t ≠ ⟨#[108, 101, 110, 103, 116, 104]⟩) (h3 : t ≠ ⟨#[107, 101, 121, 115]⟩) (h4 : t ≠ ⟨#[116, 121, 112, 101]⟩) (h5 : t ≠ ⟨#[115, 111, 114, 116]⟩) (h6 : t = ⟨#[97, 100, 100]⟩) : Calls Try.prog 86 #[.string t] w (Lf.Bt w (Lw.call t)) := by
  rw [show Lw.call t = Lw.done 5 by unfold Lw.call; rw [if_neg h0, if_neg h1, if_neg h2, if_neg h3, if_neg h4, if_neg h5, if_pos h6]]
  have g0_ : (t.toList == [110, 111, 116]) = false := Lw.lit_ne [110, 111, 116] h0
  have g1_ : (t.toList == [101, 109, 112, 116, 121]) = false := Lw.lit_ne [101, 109, 112, 116, 121] h1
  have g2_ : (t.toList == [108, 101, 110, 103, 116, 104]) = false := Lw.lit_ne [108, 101, 110, 103, 116, 104] h2
  have g3_ : (t.toList == [107, 101, 121, 115]) = false := Lw.lit_ne [107, 101, 121, 115] h3
  have g4_ : (t.toList == [116, 121, 112, 101]) = false := Lw.lit_ne [116, 121, 112, 101] h4
  have g5_ : (t.toList == [115, 111, 114, 116]) = false := Lw.lit_ne [115, 111, 114, 116] h5
  have g6_ : (t.toList == [97, 100, 100]) = true := Lw.lit_eq [97, 100, 100] h6
  clear h0 h1 h2 h3 h4 h5 h6
  go_enter Try.func86, Try.ntmps86
  go_wp2_with fail
  refine (done_any 5 _).mono ?_
  rintro e wk ⟨rfl, hwk⟩
  rw [hwk]
  clear hwk
  go_wp2_with fail
  go_ret
  skip
  
  refine ⟨_, [], rfl, Lf.fv_done _ _ 5, ?_, ?_, (Below.refl w.heap.size w)⟩
  · simp <;> omega
  · intro b hb
    simp only [List.mem_cons, List.not_mem_nil, or_false, List.append_nil, List.nil_append, List.cons_append] at hb <;> omega

set_option maxHeartbeats 1000000 in
theorem callForm_7 (t : ByteArray) (w : World) (h0 : t ≠ ⟨#[110, 111, 116]⟩) (h1 : t ≠ ⟨#[101, 109, 112, 116, 121]⟩) (h2 : t ≠ ⟨#[108, 101, 110, 103, 116, 104]⟩) (h3 : t ≠ ⟨#[107, 101, 121, 115]⟩) (h4 : t ≠ ⟨#[116, 121, 112, 101]⟩) (h5 : t ≠ ⟨#[115, 111, 114, 116]⟩) (h6 : t ≠ ⟨#[97, 100, 100]⟩) : Calls Try.prog 86 #[.string t] w (Lf.Bt w (Lw.call t)) := by
  rw [show Lw.call t = Lw.done 8 by unfold Lw.call; rw [if_neg h0, if_neg h1, if_neg h2, if_neg h3, if_neg h4, if_neg h5, if_neg h6]]
  have g0_ : (t.toList == [110, 111, 116]) = false := Lw.lit_ne [110, 111, 116] h0
  have g1_ : (t.toList == [101, 109, 112, 116, 121]) = false := Lw.lit_ne [101, 109, 112, 116, 121] h1
  have g2_ : (t.toList == [108, 101, 110, 103, 116, 104]) = false := Lw.lit_ne [108, 101, 110, 103, 116, 104] h2
  have g3_ : (t.toList == [107, 101, 121, 115]) = false := Lw.lit_ne [107, 101, 121, 115] h3
  have g4_ : (t.toList == [116, 121, 112, 101]) = false := Lw.lit_ne [116, 121, 112, 101] h4
  have g5_ : (t.toList == [115, 111, 114, 116]) = false := Lw.lit_ne [115, 111, 114, 116] h5
  have g6_ : (t.toList == [97, 100, 100]) = false := Lw.lit_ne [97, 100, 100] h6
  clear h0 h1 h2 h3 h4 h5 h6
  go_enter Try.func86, Try.ntmps86
  go_wp2_with fail
  refine (done_any 8 _).mono ?_
  rintro e wk ⟨rfl, hwk⟩
  rw [hwk]
  clear hwk
  go_wp2_with fail
  go_ret
  skip
  
  refine ⟨_, [], rfl, Lf.fv_done _ _ 8, ?_, ?_, (Below.refl w.heap.size w)⟩
  · simp <;> omega
  · intro b hb
    simp only [List.mem_cons, List.not_mem_nil, or_false, List.append_nil, List.nil_append, List.cons_append] at hb <;> omega

theorem callForm_any (t : ByteArray) (w : World) : Calls Try.prog 86 #[.string t] w (Lf.Bt w (Lw.call t)) := by
  by_cases h0 : t = ⟨#[110, 111, 116]⟩
  · exact callForm_0 t w h0
  by_cases h1 : t = ⟨#[101, 109, 112, 116, 121]⟩
  · exact callForm_1 t w h0 h1
  by_cases h2 : t = ⟨#[108, 101, 110, 103, 116, 104]⟩
  · exact callForm_2 t w h0 h1 h2
  by_cases h3 : t = ⟨#[107, 101, 121, 115]⟩
  · exact callForm_3 t w h0 h1 h2 h3
  by_cases h4 : t = ⟨#[116, 121, 112, 101]⟩
  · exact callForm_4 t w h0 h1 h2 h3 h4
  by_cases h5 : t = ⟨#[115, 111, 114, 116]⟩
  · exact callForm_5 t w h0 h1 h2 h3 h4 h5
  by_cases h6 : t = ⟨#[97, 100, 100]⟩
  · exact callForm_6 t w h0 h1 h2 h3 h4 h5 h6
  exact callForm_7 t w h0 h1 h2 h3 h4 h5 h6

set_option maxHeartbeats 1000000 in
theorem callOneForm_0 (t : ByteArray) (i : Int) (w : World)  (h0 : t = ⟨#[109, 97, 112]⟩) : Calls Try.prog 87 #[.string t, Lf.iTree i] w (Lf.Bt w (Lw.callOne t (.tree i))) := by
  rw [show Lw.callOne t (.tree i) = Lw.over 10 (Lw.l1 (Lw.over 3 (Lw.l2 (Lw.over 8 (Lw.l1 (Lw.over 1 .nil))) (.tree i)))) by unfold Lw.callOne; rw [if_pos h0]]
  have g0_ : (t.toList == [109, 97, 112]) = true := Lw.lit_eq [109, 97, 112] h0
  clear h0
  go_enter Try.func87, Try.ntmps87
  go_wp2_with fail
  refine (over_any 1 none 0 0 _).mono ?_
  rintro e wk ⟨rfl, hwk⟩
  rw [hwk]
  clear hwk
  obtain ⟨w1, hw1⟩ : ∃ w1, w1 = w.alloc (.cells #[Lf.iNode 1 0 (.slice none 0 0) (.slice none 0 0)] 91) := ⟨_, rfl⟩
  have b1 : Below w.heap.size w w1 := by rw [hw1]; exact (Below.refl _ _).alloc (Nat.le_refl _) _
  have z1 := hide (show w1.heap.size = w.heap.size + 1 by rw [hw1]; simp)
  have B1 : Below w.heap.size w w1 := (Below.refl w.heap.size w).trans (b1.mono (Below.refl w.heap.size w).size)
  have p1 : Lf.Pt w1 w.heap.size (.slice (some ⟨w.heap.size, 0, none⟩) 1 1) [Lf.iNode 1 0 (.slice none 0 0) (.slice none 0 0)] := .inr ⟨_, rfl, (Below.refl w.heap.size w).size, by rw [hw1]; exact ⟨_, heap_alloc_new _ _, rfl⟩⟩
  go_wp2_with fail
  rw [← hw1]
  clear hw1
  refine (over_any 8 (some ⟨w.heap.size, 0, none⟩) 1 1 _).mono ?_
  rintro e wk ⟨rfl, hwk⟩
  rw [hwk]
  clear hwk
  obtain ⟨w2, hw2⟩ : ∃ w2, w2 = w1.alloc (.cells #[Lf.iNode 8 0 (.slice none 0 0) (.slice (some ⟨w.heap.size, 0, none⟩) 1 1), Lf.iTree i] 91) := ⟨_, rfl⟩
  have b2 : Below w1.heap.size w1 w2 := by rw [hw2]; exact (Below.refl _ _).alloc (Nat.le_refl _) _
  have z2 := hide (show w2.heap.size = w1.heap.size + 1 by rw [hw2]; simp)
  have B2 : Below w.heap.size w w2 := B1.trans (b2.mono B1.size)
  have p2 : Lf.Pt w2 w.heap.size (.slice (some ⟨w1.heap.size, 0, none⟩) 2 2) [Lf.iNode 8 0 (.slice none 0 0) (.slice (some ⟨w.heap.size, 0, none⟩) 1 1), Lf.iTree i] := .inr ⟨_, rfl, B1.size, by rw [hw2]; exact ⟨_, heap_alloc_new _ _, rfl⟩⟩
  have p1 := p1.keep (Lf.Kf.below b2)
  go_wp2_with fail
  rw [← hw2]
  clear hw2
  refine (over_any 3 (some ⟨w1.heap.size, 0, none⟩) 2 2 _).mono ?_
  rintro e wk ⟨rfl, hwk⟩
  rw [hwk]
  clear hwk
  obtain ⟨w3, hw3⟩ : ∃ w3, w3 = w2.alloc (.cells #[Lf.iNode 3 0 (.slice none 0 0) (.slice (some ⟨w1.heap.size, 0, none⟩) 2 2)] 91) := ⟨_, rfl⟩
  have b3 : Below w2.heap.size w2 w3 := by rw [hw3]; exact (Below.refl _ _).alloc (Nat.le_refl _) _
  have z3 := hide (show w3.heap.size = w2.heap.size + 1 by rw [hw3]; simp)
  have B3 : Below w.heap.size w w3 := B2.trans (b3.mono B2.size)
  have p3 : Lf.Pt w3 w.heap.size (.slice (some ⟨w2.heap.size, 0, none⟩) 1 1) [Lf.iNode 3 0 (.slice none 0 0) (.slice (some ⟨w1.heap.size, 0, none⟩) 2 2)] := .inr ⟨_, rfl, B2.size, by rw [hw3]; exact ⟨_, heap_alloc_new _ _, rfl⟩⟩
  have p1 := p1.keep (Lf.Kf.below b3)
  have p2 := p2.keep (Lf.Kf.below b3)
  go_wp2_with fail
  rw [← hw3]
  clear hw3
  refine (over_any 10 (some ⟨w2.heap.size, 0, none⟩) 1 1 _).mono ?_
  rintro e wk ⟨rfl, hwk⟩
  rw [hwk]
  clear hwk
  go_wp2_with fail
  go_ret
  skip
  have z1 := unhide z1
  have z2 := unhide z2
  have z3 := unhide z3
  refine ⟨_, [] ++ [], rfl, Lf.fv_over p3 (Lf.fv_l1 (Lf.fv_over p2 (Lf.fv_l2 (Lf.fv_over p1 (Lf.fv_l1 (Lf.fv_self _ _ 1))) (Lf.fv_tree _ _ i)))), ?_, ?_, B3⟩
  · simp <;> omega
  · intro b hb
    simp only [List.mem_cons, List.not_mem_nil, or_false, List.append_nil, List.nil_append, List.cons_append] at hb <;> omega

set_option maxHeartbeats 1000000 in
theorem callOneForm_1 (t : ByteArray) (i : Int) (w : World) (h0 : t ≠ ⟨#[109, 97, 112]⟩) (h1 : t = ⟨#[115, 101, 108, 101, 99, 116]⟩) : Calls Try.prog 87 #[.string t, Lf.iTree i] w (Lf.Bt w (Lw.callOne t (.tree i))) := by
  rw [show Lw.callOne t (.tree i) = Lw.over 12 (Lw.l3 (.tree i) (Lw.over 1 .nil) (Lw.over 17 .nil)) by unfold Lw.callOne; rw [if_neg h0, if_pos h1]]
  have g0_ : (t.toList == [109, 97, 112]) = false := Lw.lit_ne [109, 97, 112] h0
  have g1_ : (t.toList == [115, 101, 108, 101, 99, 116]) = true := Lw.lit_eq [115, 101, 108, 101, 99, 116] h1
  clear h0 h1
  go_enter Try.func87, Try.ntmps87
  go_wp2_with fail
  refine (over_any 1 none 0 0 _).mono ?_
  rintro e wk ⟨rfl, hwk⟩
  rw [hwk]
  clear hwk
  go_wp2_with fail
  refine (over_any 17 none 0 0 _).mono ?_
  rintro e wk ⟨rfl, hwk⟩
  rw [hwk]
  clear hwk
  obtain ⟨w1, hw1⟩ : ∃ w1, w1 = w.alloc (.cells #[Lf.iTree i, Lf.iNode 1 0 (.slice none 0 0) (.slice none 0 0), Lf.iNode 17 0 (.slice none 0 0) (.slice none 0 0)] 91) := ⟨_, rfl⟩
  have b1 : Below w.heap.size w w1 := by rw [hw1]; exact (Below.refl _ _).alloc (Nat.le_refl _) _
  have z1 := hide (show w1.heap.size = w.heap.size + 1 by rw [hw1]; simp)
  have B1 : Below w.heap.size w w1 := (Below.refl w.heap.size w).trans (b1.mono (Below.refl w.heap.size w).size)
  have p1 : Lf.Pt w1 w.heap.size (.slice (some ⟨w.heap.size, 0, none⟩) 3 3) [Lf.iTree i, Lf.iNode 1 0 (.slice none 0 0) (.slice none 0 0), Lf.iNode 17 0 (.slice none 0 0) (.slice none 0 0)] := .inr ⟨_, rfl, (Below.refl w.heap.size w).size, by rw [hw1]; exact ⟨_, heap_alloc_new _ _, rfl⟩⟩
  go_wp2_with fail
  rw [← hw1]
  clear hw1
  refine (over_any 12 (some ⟨w.heap.size, 0, none⟩) 3 3 _).mono ?_
  rintro e wk ⟨rfl, hwk⟩
  rw [hwk]
  clear hwk
  go_wp2_with fail
  go_ret
  skip
  have z1 := unhide z1
  refine ⟨_, [] ++ ([] ++ []), rfl, Lf.fv_over p1 (Lf.fv_l3 (Lf.fv_tree _ _ i) (Lf.fv_self _ _ 1) (Lf.fv_self _ _ 17)), ?_, ?_, B1⟩
  · simp <;> omega
  · intro b hb
    simp only [List.mem_cons, List.not_mem_nil, or_false, List.append_nil, List.nil_append, List.cons_append] at hb <;> omega

set_option maxHeartbeats 1000000 in
theorem callOneForm_2 (t : ByteArray) (i : Int) (w : World) (h0 : t ≠ ⟨#[109, 97, 112]⟩) (h1 : t ≠ ⟨#[115, 101, 108, 101, 99, 116]⟩) : Calls Try.prog 87 #[.string t, Lf.iTree i] w (Lf.Bt w (Lw.callOne t (.tree i))) := by
  rw [show Lw.callOne t (.tree i) = Lw.over 3 (Lw.l2 (.tree i) (Lw.over 8 (Lw.l1 (Lw.done 6)))) by unfold Lw.callOne; rw [if_neg h0, if_neg h1]]
  have g0_ : (t.toList == [109, 97, 112]) = false := Lw.lit_ne [109, 97, 112] h0
  have g1_ : (t.toList == [115, 101, 108, 101, 99, 116]) = false := Lw.lit_ne [115, 101, 108, 101, 99, 116] h1
  clear h0 h1
  go_enter Try.func87, Try.ntmps87
  go_wp2_with fail
  refine (eachDone_any 6 _).mono ?_
  rintro e w1 ⟨v1, bl1, rfl, fv1, nd1, in1, b1⟩
  obtain ⟨x1, x2, hx⟩ := Lf.fv_iface fv1 ⟨fun h => (by unfold Lw.over at h; cases h), fun a b h => (by unfold Lw.over at h; cases h)⟩
  subst hx
  have B1 := b1
  have ND := hide nd1
  have IN := hide in1
  have z1 := hide (show True from trivial)
  clear nd1 in1
  obtain ⟨w2, hw2⟩ : ∃ w2, w2 = w1.alloc (.cells #[Lf.iTree i, .iface x1 x2] 91) := ⟨_, rfl⟩
  have b2 : Below w1.heap.size w1 w2 := by rw [hw2]; exact (Below.refl _ _).alloc (Nat.le_refl _) _
  have z2 := hide (show w2.heap.size = w1.heap.size + 1 by rw [hw2]; simp)
  have B2 : Below w.heap.size w w2 := B1.trans (b2.mono B1.size)
  have p2 : Lf.Pt w2 w.heap.size (.slice (some ⟨w1.heap.size, 0, none⟩) 2 2) [Lf.iTree i, .iface x1 x2] := .inr ⟨_, rfl, B1.size, by rw [hw2]; exact ⟨_, heap_alloc_new _ _, rfl⟩⟩
  go_wp2_with fail
  rw [← hw2]
  clear hw2
  refine (over_any 3 (some ⟨w1.heap.size, 0, none⟩) 2 2 _).mono ?_
  rintro e wk ⟨rfl, hwk⟩
  rw [hwk]
  clear hwk
  go_wp2_with fail
  go_ret
  refine ⟨_, [] ++ bl1, rfl, Lf.fv_over p2 (Lf.fv_l2 (Lf.fv_tree _ _ i) (Lf.Fv.keep (Lf.Kf.below b2) _ fv1)), by simpa using unhide ND, fun b hb => ?_, B2⟩
  have h1 := (unhide IN) b (by simpa using hb)
  have h2 := b2.size
  omega

theorem callOneForm_any (t : ByteArray) (i : Int) (w : World) : Calls Try.prog 87 #[.string t, Lf.iTree i] w (Lf.Bt w (Lw.callOne t (.tree i))) := by
  by_cases h0 : t = ⟨#[109, 97, 112]⟩
  · exact callOneForm_0 t i w h0
  by_cases h1 : t = ⟨#[115, 101, 108, 101, 99, 116]⟩
  · exact callOneForm_1 t i w h0 h1
  exact callOneForm_2 t i w h0 h1

end Go.Proofs.Ytmbefapdckhjdaa
