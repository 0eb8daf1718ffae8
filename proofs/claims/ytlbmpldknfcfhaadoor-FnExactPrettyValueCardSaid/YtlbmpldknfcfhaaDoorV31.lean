/-
  The program's sheet as it lies in memory: the text that was copied, the line, the room; what of memory is kept.
-/
import Derived.Test.YtlbmpldknfcfhaaDoorV23
import Derived.Test.YtlbmpldknfcfhaaDoorV25
import Derived.Test.YtlbmpldknfcfhaaDoorV29
import Derived.Test.YtlbmpldknfcfhaaDoorV30
import Derived.Laws.CopyOwn
import Derived.Laws.IdiomCopy
import Derived.Lib.SliceRun
namespace Go.Proofs.YtlbmpldknfcfhaaDoor
open Go.RowKit
set_option linter.unusedVariables false
set_option linter.unusedSimpArgs false
namespace Pr
/-- The room that is left for a text of which T was copied. -/
def Rm (mode : Option (Nat × Nat)) (w : World) (rv : Value) (T : List UInt8) : Prop := match mode with
  | none => rv = .slice none 0 0
  | some (g, R) => T.length ≤ R ∧ ∃ (cur : Array Value) (off : Nat), w.heap[g]? = some (.cells cur 5 (0, 0)) ∧ cur.size = R ∧ cur.toList.take T.length = J.bv T ∧ rv = .slice (some ⟨g, off, none⟩) (R - T.length) (R - T.length) ∧ (T.length < R → off = T.length)
/-- The sheet: what was copied, the line. -/
structure Sh (base : Nat) (mode : Option (Nat × Nat)) (w : World) (SB I O : Nat) (T Ln : List UInt8) (lv rv : Value) : Prop where
  own : Own w SB 71 [.int .u64 (I : Int), .int .u64 (O : Int), .int .u64 (T.length : Int), lv, rv]
  line : w.ownsRow base 5 1 lv Ln.length (J.bv Ln)
  lo : base ≤ SB
  rlo : ∀ g R, mode = some (g, R) → g < base
  room : Rm mode w rv T
/-- What is kept: all but the sheet, the room, and rows of bytes of the call's own. -/
structure Fm (base : Nat) (mode : Option (Nat × Nat)) (SB : Nat) (w w' : World) : Prop where
  os : w'.os = w.os
  tape : w'.tape = w.tape
  output : w'.output = w.output
  size : w.heap.size ≤ w'.heap.size
  low : ∀ k, k < base → (∀ R, mode ≠ some (k, R)) → w'.heap[k]? = w.heap[k]?
  high : ∀ k o, w.heap[k]? = some o → (∀ c fz, o ≠ .cells c 5 fz) → k ≠ SB → w'.heap[k]? = some o
section
variable {base SB : Nat} {mode : Option (Nat × Nat)} {a w w' w'' : World}
theorem Fm.refl (w : World) : Fm base mode SB w w := ⟨rfl, rfl, rfl, Nat.le_refl _, fun _ _ _ => rfl, fun _ _ h _ _ => h⟩
theorem Fm.trans (h : Fm base mode SB w w') (k : Fm base mode SB w' w'') : Fm base mode SB w w'' :=
  ⟨k.os.trans h.os, k.tape.trans h.tape, k.output.trans h.output, Nat.le_trans h.size k.size, fun i h1 h2 => (k.low i h1 h2).trans (h.low i h1 h2), fun i o h1 h2 h3 => k.high i o (h.high i o h1 h2 h3) h2 h3⟩
theorem Fm.ofBk (h : Bk base w w') : Fm base mode SB w w' :=
  ⟨h.1.os, h.1.tape, h.1.output, h.1.size, fun i h1 _ => h.1.block i h1, fun i o h1 h2 _ => h.2 i o h1 (by simp) h2⟩
theorem Fm.ofBelow (h : Below w.heap.size w w') (hb : base ≤ w.heap.size) : Fm base mode SB w w' :=
  ⟨h.os, h.tape, h.output, h.size, fun i h1 _ => h.block i (by omega), fun i o h1 h2 _ => (h.block i (Array.getElem?_eq_some_iff.1 h1).1).trans h1⟩
theorem Fm.alloc (w : World) (hb : base ≤ w.heap.size) (o : Obj) : Fm base mode SB w (w.alloc o) := Fm.ofBelow ((Below.refl _ _).alloc (Nat.le_refl _) o) hb
theorem Fm.sheet (w : World) (hb : base ≤ SB) (j : Nat) (x : Value) : Fm base mode SB w (w.setCell ⟨SB, j, none⟩ x) :=
  ⟨rfl, rfl, rfl, by simp, fun k h1 _ => heap_setCell_other _ _ k x (by show k ≠ SB; omega), fun k o h1 _ h3 => (heap_setCell_other _ _ k x h3).trans h1⟩
/-- The room is written into. -/
theorem Fm.room {g R : Nat} {cur : Array Value} (hm : mode = some (g, R)) (hg : w.heap[g]? = some (.cells cur 5 (0, 0))) (cs : Array Value) : Fm base mode SB w (w.setRow g cs) := by
  refine ⟨rfl, rfl, rfl, by simp, fun k h1 h2 => setRow_other w g k cs (fun e => h2 R (by rw [e, hm])), fun k o h1 h2 _ => ?_⟩
  refine (setRow_other w g k cs (fun e => ?_)).trans h1
  rw [e, hg] at h1
  exact h2 cur (0, 0) (Option.some.inj h1).symm
/-- The bytes of a block of the call's own are written. -/
theorem Fm.bytes {g : Nat} (hb : base ≤ g) {cur : Array Value} (hg : w.heap[g]? = some (.cells cur 5 (0, 0))) (ys : List Value) : Fm base mode SB w (w.setCells g 0 ys) := by
  have key : ∀ (ys : List Value) (o : Nat) (w1 : World), (w1.setCells g o ys).os = w1.os ∧ (w1.setCells g o ys).tape = w1.tape ∧ (w1.setCells g o ys).output = w1.output ∧ (w1.setCells g o ys).heap.size = w1.heap.size ∧ ∀ k, k ≠ g → (w1.setCells g o ys).heap[k]? = w1.heap[k]? := by
    intro ys
    induction ys with
    | nil => intro o w1; exact ⟨rfl, rfl, rfl, rfl, fun _ _ => rfl⟩
    | cons y r ih =>
      intro o w1
      rw [World.setCells]
      obtain ⟨h1, h2, h3, h4, h5⟩ := ih (o + 1) (w1.setCell ⟨g, o, none⟩ y)
      exact ⟨h1, h2, h3, by rw [h4]; simp, fun k hk => (h5 k hk).trans (heap_setCell_other _ _ k y hk)⟩
  obtain ⟨h1, h2, h3, h4, h5⟩ := key ys 0 w
  refine ⟨h1, h2, h3, by omega, fun k hk _ => h5 k (by omega), fun k o hk h6 _ => (h5 k (fun e => ?_)).trans hk⟩
  rw [e, hg] at hk
  exact h6 cur (0, 0) (Option.some.inj hk).symm
theorem Rm.keep {rv : Value} {T : List UInt8} (h : Rm mode w rv T) (hk : ∀ g R, mode = some (g, R) → w'.heap[g]? = w.heap[g]?) : Rm mode w' rv T := by
  unfold Rm at *
  cases mode with
  | none => exact h
  | some x =>
    obtain ⟨g, R⟩ := x
    obtain ⟨h1, cur, off, h2, h3⟩ := h
    exact ⟨h1, cur, off, (hk g R rfl).trans h2, h3⟩
theorem Rm.bk {rv : Value} {T : List UInt8} (h : Rm mode w rv T) (hlo : ∀ g R, mode = some (g, R) → g < base) (hb : Below base w w') : Rm mode w' rv T := h.keep fun g R e => hb.block g (hlo g R e)
theorem Rm.shape {rv : Value} {T : List UInt8} (h : Rm mode w rv T) : ∃ a n c, rv = .slice a n c := by
  unfold Rm at h
  cases mode with
  | none => exact ⟨_, _, _, h⟩
  | some x => obtain ⟨_, _, _, _, _, _, h, _⟩ := h; exact ⟨_, _, _, h⟩
/-- A sheet behind a call that lays nothing. -/
theorem Sh.below {I O : Nat} {T Ln : List UInt8} {lv rv : Value} (h : Sh base mode w SB I O T Ln lv rv) (hb : Below w.heap.size w w') : Sh base mode w' SB I O T Ln lv rv :=
  ⟨h.own.below hb h.own.lt, ownsRow_below (B := 0) h.line hb, h.lo, h.rlo, h.room.keep fun g R e => hb.block g (by have := h.rlo g R e; have := h.lo; have := h.own.lt; omega)⟩
/-- A sheet whose line has grown in a call: the new line is still to be stored. -/
theorem Sh.lined {I O : Nat} {T Ln Ln' : List UInt8} {lv rv lv' : Value} (h : Sh base mode w SB I O T Ln lv rv) (hb : Bk base w w') (ho : w'.ownsRow base 5 1 lv' Ln'.length (J.bv Ln')) : Sh base mode (w'.setCell ⟨SB, 3, none⟩ lv') SB I O T Ln' lv' rv := by
  refine ⟨?_, ?_, h.lo, h.rlo, (h.room.bk h.rlo hb.1).keep fun g R e => heap_setCell_other _ _ g lv' (by have := h.rlo g R e; have := h.lo; show g ≠ SB; omega)⟩
  · have := (hb.own h.own (by decide)).set 3 lv'
    simpa using this
  · obtain ⟨h1, h2 | ⟨g, cap, cur, e1, h3, h4, h5⟩⟩ := ho
    · exact ⟨h1, .inl h2⟩
    · refine ⟨h1, .inr ⟨g, cap, cur, e1, h3, (heap_setCell_other _ _ g lv' (fun e => ?_)).trans h4, h5⟩⟩
      obtain ⟨c, q1, _⟩ := hb.own h.own (by decide)
      have e' : g = SB := e
      rw [← e', h4] at q1
      injection q1 with q1
      injection q1 with _ q2
      revert q2; decide
/-- The number of open ones has changed. -/
theorem Sh.opened {I O O' : Nat} {T Ln : List UInt8} {lv rv : Value} (h : Sh base mode w SB I O T Ln lv rv) : Sh base mode (w.setCell ⟨SB, 1, none⟩ (.int .u64 (O' : Int))) SB I O' T Ln lv rv := by
  refine ⟨?_, ?_, h.lo, h.rlo, h.room.keep fun g R e => heap_setCell_other _ _ g _ (by have := h.rlo g R e; have := h.lo; show g ≠ SB; omega)⟩
  · have := h.own.set 1 (.int .u64 (O' : Int))
    simpa using this
  · obtain ⟨h1, h2 | ⟨g, cap, cur, e1, h3, h4, h5⟩⟩ := h.line
    · exact ⟨h1, .inl h2⟩
    · refine ⟨h1, .inr ⟨g, cap, cur, e1, h3, (heap_setCell_other _ _ g _ (fun e => ?_)).trans h4, h5⟩⟩
      obtain ⟨c, q1, _⟩ := h.own
      have e' : g = SB := e
      rw [← e', h4] at q1
      injection q1 with q1
      injection q1 with _ q2
      revert q2; decide
theorem wp_copy {P : Program} (w : World) {o : Oper} {a : Act} {K : Act → World → Prop} {Q : Exit → Act → World → Prop} (s x : Operand) (t u : TypeId) (ho : o.op = .call { callee := .builtin .copy, args := #[s, x], argTypes := #[t, u] }) (sv xv v : Value) (w2 : World) (hs : a.eval s = sv) (hx : a.eval x = xv)
    (hr : (Builtin.copy_ #[t, u] o.type #[sv, xv]).run P w = .ok v w2) (h : K (a.put o.dst v) w2) : Oper.wp P o a w K Q := by
  unfold Oper.wp execOp
  simp only [ho, resolve, invoke, builtin, Sem.run_bind, Sem.run_pure, Result.andThen_ok, List.map_toArray, List.map_cons, List.map_nil, hs, hx, hr]
  exact h
theorem Fm.own (h : Fm base mode SB w w') {b : Nat} {t : TypeId} {xs : List Value} (ho : Own w b t xs) (ht : t ≠ 5) (hb : b ≠ SB) : Own w' b t xs := by
  obtain ⟨c, h1, h2⟩ := ho
  exact ⟨c, h.high b _ h1 (fun c' fz e => by injection e with e1 e2; exact ht e2) hb, h2⟩
end
end Pr
end Go.Proofs.YtlbmpldknfcfhaaDoor
