/-
  spec.l6Put: a node is laid behind the others.
  What spec lays without a look at the tree: a truth, a call of a name; the slot of a name.
  spec.l6Call, spec.l6Slot.
  spec.l6Leaf.
  What is kept while nodes are laid; spec.l6CallOne.
  spec.l6One: the arms of or and and.
  spec.l6Same; a block that is not that of the nodes stays so.
-/
import Derived.Test.YtmbefapdckhjdaaLowR
import Derived.Test.YtmbefapdckhjdaaBld
import Derived.Test.YtmbefapdckhjdaaAnyZ
import Derived.Test.YtmbefapdckhjdaaTreH
import Derived.Test.YtmbefapdckhjdaaTreD
import Derived.Deep.RegionWith
import Derived.Deep.CutRange
namespace Go.Proofs.Ytmbefapdckhjdaa
open Go.RowKit
set_option linter.unusedVariables false
set_option linter.unusedSimpArgs false


theorem Lw.coreInfo : (Try.prog.info? 82).map (fun i => (i.zero, i.size, i.bytes)) = some (some (.agg #[.int .i64 0, .int .i64 0, .int .i64 0, .int .i64 0, .int .i64 0, .slice none 0 0]), 6, 64) := Co.info
set_option maxRecDepth 100000 in
set_option maxHeartbeats 4000000 in
theorem l6Put_any (base P : Nat) (tv v vv : Value) (cs : List (Co × Value)) (c : Co) (w : World) (hN : Own w P 52 [tv, v]) (hP : base ≤ P) (hrow : Lw.Rw w base v cs) (hvv : Res w base vv c.val) (hn : cs.length ≤ 4096) :
    Calls Try.prog 43 #[.pointer (some ⟨P, 0, none⟩), .agg #[.int .i64 c.op, .int .i64 c.a, .int .i64 c.b, .int .i64 c.c, .int .i64 c.num, vv]] w fun e w' => ∃ v', e = .returned (.int .i64 cs.length) ∧ Own w' P 52 [tv, v'] ∧ Lw.Rw w' base v' (cs ++ [(c, vv)]) ∧ Lw.Fr P v v' w w' := by
  obtain ⟨i0, hi, hz0, hz1, hz2⟩ := info_parts Lw.coreInfo
  obtain ⟨va, vc, rfl⟩ := hrow.slice
  obtain ⟨xa, xn, xc, rfl⟩ := hvv.shape
  have hbase : base ≤ w.heap.size := by have := hN.lt; omega
  have HR := hide hrow
  have HV := hide hvv
  have hne : (Value.slice va cs.length vc).ownBlock ≠ some P := hrow.ne hN (by decide)
  have hltv : ∀ b, (Value.slice va cs.length vc).ownBlock = some b → b < w.heap.size := fun b hb => hrow.lt hb
  obtain ⟨w0, hw0⟩ : ∃ w0, w0 = w.alloc (.cells #[.int .i64 c.op, .int .i64 c.a, .int .i64 c.b, .int .i64 c.c, .int .i64 c.num, .slice xa xn xc] 82) := ⟨_, rfl⟩
  have HS0 := hide (show w0.heap.size = w.heap.size + 1 by rw [hw0]; simp)
  have B0 : Below w.heap.size w w0 := by rw [hw0]; exact (Below.refl _ _).alloc (Nat.le_refl _) _
  have hX : Own w0 w.heap.size 82 [.int .i64 c.op, .int .i64 c.a, .int .i64 c.b, .int .i64 c.c, .int .i64 c.num, .slice xa xn xc] := by rw [hw0]; exact ⟨_, heap_alloc_new _ _, rfl⟩
  have hN0 := hN.below B0 hN.lt
  have c1 := hN0.cell 1
  have p0 := hX.cell 0
  have p1 := hX.cell 1
  have p2 := hX.cell 2
  have p3 := hX.cell 3
  have p4 := hX.cell 4
  have p5 := hX.cell 5
  simp only [List.getElem?_cons_zero, List.getElem?_cons_succ] at c1 p0 p1 p2 p3 p4 p5
  clear hrow hvv
  go_enter Try.func43, Try.ntmps43
  go_wp2_with fail
  rw [← hw0]
  clear hw0
  refine Z.region 10 (fun w' => w'.cell? ⟨P, 1, none⟩ = some (.slice va cs.length vc) ∧ w'.cell? ⟨w.heap.size, 0, none⟩ = some (.int .i64 c.op) ∧ w'.cell? ⟨w.heap.size, 1, none⟩ = some (.int .i64 c.a) ∧ w'.cell? ⟨w.heap.size, 2, none⟩ = some (.int .i64 c.b) ∧ w'.cell? ⟨w.heap.size, 3, none⟩ = some (.int .i64 c.c) ∧ w'.cell? ⟨w.heap.size, 4, none⟩ = some (.int .i64 c.num) ∧ w'.cell? ⟨w.heap.size, 5, none⟩ = some (.slice xa xn xc)) (by kernel_rfl) ⟨c1, p0, p1, p2, p3, p4, p5⟩ (fun hHeld => ?_)
  refine Z.take (i := 0) (d := 5) (v := .pointer (some ⟨P, 0, none⟩)) rfl rfl (by kernel_rfl) (by kernel_rfl) (by kernel_rfl) (by kernel_rfl) (fun _ _ _ h => h) (Or.inl ⟨by rfl, ?_⟩) hHeld ?_
  · intro w' hSw; obtain ⟨s1, q0, q1, q2, q3, q4, q5⟩ := hSw; go_simp
  simp only [Act.put, List.setIfInBounds_toArray, List.set_cons_zero, List.set_cons_succ]
  refine Z.take (i := 1) (d := 6) (v := .pointer (some ⟨P, 0, none⟩)) rfl rfl (by kernel_rfl) (by kernel_rfl) (by kernel_rfl) (by kernel_rfl) (fun _ _ _ h => h) (Or.inl ⟨by rfl, ?_⟩) hHeld ?_
  · intro w' hSw; obtain ⟨s1, q0, q1, q2, q3, q4, q5⟩ := hSw; go_simp
  simp only [Act.put, List.setIfInBounds_toArray, List.set_cons_zero, List.set_cons_succ]
  refine Z.take (i := 2) (d := 7) (v := .pointer (some ⟨P, 0, none⟩)) rfl rfl (by kernel_rfl) (by kernel_rfl) (by kernel_rfl) (by kernel_rfl) (fun _ _ _ h => h) (Or.inl ⟨by rfl, ?_⟩) hHeld ?_
  · intro w' hSw; obtain ⟨s1, q0, q1, q2, q3, q4, q5⟩ := hSw; go_simp
  simp only [Act.put, List.setIfInBounds_toArray, List.set_cons_zero, List.set_cons_succ]
  refine Z.take (i := 3) (d := 8) (v := .pointer (some ⟨P, 1, none⟩)) rfl rfl (by kernel_rfl) (by kernel_rfl) (by kernel_rfl) (by kernel_rfl) (fun _ _ _ h => h) (Or.inl ⟨by rfl, ?_⟩) hHeld ?_
  · intro w' hSw; obtain ⟨s1, q0, q1, q2, q3, q4, q5⟩ := hSw; go_simp
  simp only [Act.put, List.setIfInBounds_toArray, List.set_cons_zero, List.set_cons_succ]
  refine Z.take (i := 4) (d := 9) (v := .slice va cs.length vc) rfl rfl (by kernel_rfl) (by kernel_rfl) (by kernel_rfl) (by kernel_rfl) (fun _ _ _ h => h) (Or.inl ⟨by rfl, ?_⟩) hHeld ?_
  · intro w' hSw; obtain ⟨s1, q0, q1, q2, q3, q4, q5⟩ := hSw; go_simp
  simp only [Act.put, List.setIfInBounds_toArray, List.set_cons_zero, List.set_cons_succ]
  refine Z.take (i := 5) (d := 10) (v := .agg #[.int .i64 c.op, .int .i64 c.a, .int .i64 c.b, .int .i64 c.c, .int .i64 c.num, .slice xa xn xc]) rfl rfl (by kernel_rfl) (by kernel_rfl) (by kernel_rfl) (by kernel_rfl) (fun _ _ _ h => h) (Or.inl ⟨by rfl, ?_⟩) hHeld ?_
  · intro w' hSw; obtain ⟨s1, q0, q1, q2, q3, q4, q5⟩ := hSw; go_simp
  simp only [Act.put, List.setIfInBounds_toArray, List.set_cons_zero, List.set_cons_succ]
  have B1 : Below w0.heap.size w0 (w0.alloc (.cells #[.int .i64 c.op, .int .i64 c.a, .int .i64 c.b, .int .i64 c.c, .int .i64 c.num, .slice xa xn xc] 82)).drew := ((Below.refl w0.heap.size w0).alloc (by simp) _).drew
  have N1 := hN0.below B1 hN0.lt
  have X1 := hX.below B1 hX.lt
  have R1 := ((unhide HR).below B0).below B1
  refine Z.ready (rs := [6]) (by kernel_rfl) (by simp) (Z.val_cons (i := 6) (d := 11) (v := .slice (some ⟨w0.heap.size, 0, none⟩) 1 1) (w' := (w0.alloc (.cells #[.int .i64 c.op, .int .i64 c.a, .int .i64 c.b, .int .i64 c.c, .int .i64 c.num, .slice xa xn xc] 82)).drew) rfl (by rfl) ?_ (fun _ => ?_) ?_ Z.All.nil)
  · intro K hK
    go_simp
    exact hK.out
  · exact ⟨N1.cell 1, X1.cell 0, X1.cell 1, X1.cell 2, X1.cell 3, X1.cell 4, X1.cell 5⟩
  simp only [Act.put, List.setIfInBounds_toArray, List.set_cons_zero, List.set_cons_succ]
  have O1 : Own (w0.alloc (.cells #[.int .i64 c.op, .int .i64 c.a, .int .i64 c.b, .int .i64 c.c, .int .i64 c.num, .slice xa xn xc] 82)).drew w0.heap.size 82 [.int .i64 c.op, .int .i64 c.a, .int .i64 c.b, .int .i64 c.c, .int .i64 c.num, .slice xa xn xc] := ⟨_, heap_alloc_new w0 (.cells #[.int .i64 c.op, .int .i64 c.a, .int .i64 c.b, .int .i64 c.c, .int .i64 c.num, .slice xa xn xc] 82), rfl⟩
  have HS1 := hide (show (w0.alloc (.cells #[.int .i64 c.op, .int .i64 c.a, .int .i64 c.b, .int .i64 c.c, .int .i64 c.num, .slice xa xn xc] 82)).drew.heap.size = w.heap.size + 2 by
    have h1 : (w0.alloc (.cells #[.int .i64 c.op, .int .i64 c.a, .int .i64 c.b, .int .i64 c.c, .int .i64 c.num, .slice xa xn xc] 82)).drew.heap.size = w0.heap.size + 1 := by simp [World.drew]
    have h2 := unhide HS0
    omega)
  generalize (w0.alloc (.cells #[.int .i64 c.op, .int .i64 c.a, .int .i64 c.b, .int .i64 c.c, .int .i64 c.num, .slice xa xn xc] 82)).drew = W1 at *
  refine Z.ready (rs := [7]) (by kernel_rfl) (by simp) (Z.All.cons rfl (fun K hK => ?_) Z.All.nil)
  refine Lw.step_append W1 rfl (.tmp 9) (.tmp 11) 24 rfl base 82 i0 (.agg #[.int .i64 0, .int .i64 0, .int .i64 0, .int .i64 0, .int .i64 0, .slice none 0 0]) 6 64 Try.underlying24 hi hz0 hz1 hz2 rfl (by decide) (.slice va cs.length vc) cs.length (Lw.flat cs) rfl R1.1 ⟨w0.heap.size, 0, none⟩ 1 1 (Lw.nodeV c (.slice xa xn xc)) rfl rfl ?_ (Lw.plain_node _ _ rfl) (by unfold maxLen; omega) (by omega) (by have := unhide HS1; omega) ?_
  · intro j u hu
    have ha : (⟨w0.heap.size, 0, none⟩ : Addr).add j = ⟨w0.heap.size, j, none⟩ := by unfold Addr.add; split <;> simp_all
    rw [ha, O1.cell j]
    exact hu
  intro v' wb ho hg hob
  have kept : ∀ k, k < W1.heap.size → (Value.slice va cs.length vc).ownBlock ≠ some k → wb.heap[k]? = W1.heap[k]? := fun k h1 h2 => hg.block k h1 (fun e => h2 e.symm)
  have NB : Own wb P 52 [tv, .slice va cs.length vc] := by
    obtain ⟨r, q1, q2⟩ := N1
    exact ⟨r, (kept P (by have := hN.lt; have := unhide HS1; omega) hne).trans q1, q2⟩
  have XB : Own wb w.heap.size 82 [.int .i64 c.op, .int .i64 c.a, .int .i64 c.b, .int .i64 c.c, .int .i64 c.num, .slice xa xn xc] := by
    obtain ⟨r, q1, q2⟩ := X1
    exact ⟨r, (kept _ (by have := unhide HS1; omega) (fun e => by have := hltv _ e; omega)).trans q1, q2⟩
  have hHeld2 : (fun w' : World => w'.cell? ⟨P, 1, none⟩ = some (.slice va cs.length vc) ∧ w'.cell? ⟨w.heap.size, 0, none⟩ = some (.int .i64 c.op) ∧ w'.cell? ⟨w.heap.size, 1, none⟩ = some (.int .i64 c.a) ∧ w'.cell? ⟨w.heap.size, 2, none⟩ = some (.int .i64 c.b) ∧ w'.cell? ⟨w.heap.size, 3, none⟩ = some (.int .i64 c.c) ∧ w'.cell? ⟨w.heap.size, 4, none⟩ = some (.int .i64 c.num) ∧ w'.cell? ⟨w.heap.size, 5, none⟩ = some (.slice xa xn xc)) wb := ⟨NB.cell 1, XB.cell 0, XB.cell 1, XB.cell 2, XB.cell 3, XB.cell 4, XB.cell 5⟩
  have R2 : Lw.Rw wb base v' (cs ++ [(c, Value.slice xa xn xc)]) := by
    refine ⟨by rw [List.length_append, List.length_singleton, Lw.flat_snoc]; exact ho, fun p hp => ?_⟩
    have hp1 : Res W1 base p.2 p.1.val := by
      rcases List.mem_append.1 hp with h | h
      · exact R1.2 p h
      · rw [List.mem_singleton] at h; subst h; exact ((unhide HV).below B0).below B1
    exact Lw.res_keep hp1 fun b hb => kept b (hp1.lt b hb) (fun e => R1.apart hp1 e hb)
  have FB : Lw.Fr P (.slice va cs.length vc) v' w wb := by
    refine ⟨hg.os.trans (B1.os.trans B0.os), hg.tape.trans (B1.tape.trans B0.tape), hg.output.trans (B1.output.trans B0.output), by have := hg.size; have := unhide HS1; omega, fun k h1 h2 h3 => (kept k (by have := unhide HS1; omega) h3).trans ((B1.block k (by have := unhide HS0; omega)).trans (B0.block k h1)), ?_⟩
    rcases hob with e | e
    · exact .inl e
    · exact .inr ⟨_, e, by have := unhide HS1; omega⟩
  have hlen : (cs ++ [(c, Value.slice xa xn xc)]).length = cs.length + 1 := by simp
  obtain ⟨ya, yc, hv'⟩ := R2.slice
  rw [hlen] at hv'
  subst hv'
  refine hK.out _ _ (fun _ => hHeld2) ?_
  clear hK K
  simp only [Act.put, List.getElem_toArray, List.getElem_cons_succ, List.getElem_cons_zero, List.setIfInBounds_toArray, List.set_cons_zero, List.set_cons_succ]
  refine Z.ready (rs := [8]) (by kernel_rfl) (by simp) (Z.val_cons (i := 8) (d := 13) (v := .pointer (some ⟨P, 0, none⟩)) (w' := wb) rfl (by rfl) ?_ (fun _ => hHeld2) ?_ Z.All.nil)
  · intro K hK
    go_simp
    exact hK.out
  simp only [Act.put, List.setIfInBounds_toArray, List.set_cons_zero, List.set_cons_succ]
  refine Z.ready (rs := [9]) (by kernel_rfl) (by simp) (Z.val_cons (i := 9) (d := 14) (v := .pointer (some ⟨P, 1, none⟩)) (w' := wb) rfl (by rfl) ?_ (fun _ => hHeld2) ?_ Z.All.nil)
  · intro K hK
    go_simp
    exact hK.out
  simp only [Act.put, List.setIfInBounds_toArray, List.set_cons_zero, List.set_cons_succ]
  have n1 := NB.cell 1
  have y1 := NB.frozen 1
  have N2 := hide (NB.set 1 (Value.slice ya (cs.length + 1) yc))
  have R3 := hide (show Lw.Rw (wb.setCell ⟨P, 1, none⟩ (Value.slice ya (cs.length + 1) yc)) base (Value.slice ya (cs.length + 1) yc) (cs ++ [(c, Value.slice xa xn xc)]) by
    have hnp := R2.ne NB (by decide)
    refine ⟨?_, fun p hp => (R2.2 p hp).setOther _ _ (fun b hb e => Lw.res_ne (R2.2 p hp) NB (by decide) (by rw [hb]; exact congrArg some e))⟩
    obtain ⟨⟨h1, ⟨h2, h3⟩ | ⟨g, cap, cur, h4, hg', hh, h5⟩⟩, _⟩ := R2
    · exact ⟨h1, .inl ⟨h2, h3⟩⟩
    · exact ⟨h1, .inr ⟨g, cap, cur, h4, hg', (heap_setCell_other _ ⟨P, 1, none⟩ g _ (fun e => hnp (by rw [h4]; exact congrArg some e))).trans hh, h5⟩⟩)
  have F3 := hide (show Lw.Fr P (.slice va cs.length vc) (Value.slice ya (cs.length + 1) yc) w (wb.setCell ⟨P, 1, none⟩ (Value.slice ya (cs.length + 1) yc)) from
    ⟨FB.os, FB.tape, FB.output, by simpa using FB.size, fun k h1 h2 h3 => (heap_setCell_other _ ⟨P, 1, none⟩ k _ h2).trans (FB.block k h1 h2 h3), FB.own⟩)
  refine Z.last_at (w' := wb.setCell ⟨P, 1, none⟩ (Value.slice ya (cs.length + 1) yc)) rfl (by kernel_rfl) (by rfl) (fun K hK => ?_) ?_
  · go_simp
    exact hK.out
  refine Z.done (by kernel_rfl) ?_ _
  have m1 : (wb.setCell ⟨P, 1, none⟩ (Value.slice ya (cs.length + 1) yc)).cell? ⟨P, 1, none⟩ = some (Value.slice ya (cs.length + 1) yc) := (unhide N2).cell 1
  generalize wb.setCell ⟨P, 1, none⟩ (Value.slice ya (cs.length + 1) yc) = WE at *
  clear n1 y1 FB R2 NB XB hHeld2 kept
  go_wp2_with fail
  go_ret
  exact ⟨_, by go_num, unhide N2, unhide R3, unhide F3⟩

end Go.Proofs.Ytmbefapdckhjdaa

namespace Go.Proofs.Ytmbefapdckhjdaa
open Go.RowKit
set_option linter.unusedVariables false
set_option linter.unusedSimpArgs false


namespace Lw
/-- What was laid so far, and where. -/
structure Ld (base P : Nat) (tv : Value) (w : World) (v : Value) (s : List Co) : Prop where
  own : Own w P 52 [tv, v]
  le : base ≤ P
  row : ∃ cs, cs.map Prod.fst = s ∧ Rw w base v cs
theorem Ld.below {base P : Nat} {tv v : Value} {w w' : World} {s : List Co} (h : Ld base P tv w v s) (hb : Below w.heap.size w w') : Ld base P tv w' v s := by
  obtain ⟨h1, h2, cs, h3, h4⟩ := h
  exact ⟨h1.below hb h1.lt, h2, cs, h3, h4.below hb⟩
theorem Ld.base {base P : Nat} {tv v : Value} {w : World} {s : List Co} (h : Ld base P tv w v s) : base ≤ w.heap.size := by have := h.own.lt; have := h.le; omega
/-- What a call leaves that lays: what was laid and the place of the last. -/
def Made (base P : Nat) (tv v : Value) (w : World) (r : List Co × Int) (e : Ending) (w' : World) : Prop := ∃ v', e = .returned (.int .i64 r.2) ∧ Ld base P tv w' v' r.1 ∧ Fr P v v' w w'
theorem res_nil (w : World) (B : Nat) : Res w B (.slice none 0 0) [] := ⟨by simp, .inl ⟨rfl, rfl⟩⟩
def val (c : M.Cl) : Co := ⟨2, 0, 0, 0, 0, [c]⟩
end Lw
theorem l6Put_ld (base P : Nat) (tv v vv : Value) (s : List Co) (op a b c num : Int) (val : List M.Cl) (w : World) (h : Lw.Ld base P tv w v s) (hv : Res w base vv val) (hn : s.length ≤ 4096) :
    Calls Try.prog 43 #[.pointer (some ⟨P, 0, none⟩), .agg #[.int .i64 op, .int .i64 a, .int .i64 b, .int .i64 c, .int .i64 num, vv]] w (Lw.Made base P tv v w (s ++ [⟨op, a, b, c, num, val⟩], (s.length : Int))) := by
  obtain ⟨h1, h2, cs, h3, h4⟩ := h
  have hl : cs.length = s.length := by rw [← h3, List.length_map]
  refine (l6Put_any base P tv v vv cs ⟨op, a, b, c, num, val⟩ w h1 h2 h4 hv (by omega)).mono ?_
  rintro e w' ⟨v', rfl, q1, q2, q3⟩
  exact ⟨v', by rw [hl], ⟨q1, h2, _, by rw [List.map_append, h3]; rfl, q2⟩, q3⟩
set_option maxHeartbeats 400000 in
theorem l3Bool_lw (q : Bool) (w : World) : Calls Try.prog 76 #[.bool q] w fun e w' => ∃ s, e = .returned s ∧ Res w' w.heap.size s [Lw.kind (if q = true then 2 else 1)] ∧ Below w.heap.size w w' := by
  cases q
  · go_enter Try.func76, Try.ntmps76
    go_wp2_with fail
    go_ret
    exact ⟨_, rfl, one_cell w w.heap.size w.heap.size (Lw.kind 1) rfl (Nat.le_refl _), (Below.refl _ _).alloc (Nat.le_refl _) _⟩
  · go_enter Try.func76, Try.ntmps76
    go_wp2_with fail
    go_ret
    exact ⟨_, rfl, one_cell w w.heap.size w.heap.size (Lw.kind 2) rfl (Nat.le_refl _), (Below.refl _ _).alloc (Nat.le_refl _) _⟩
set_option maxRecDepth 100000 in
set_option maxHeartbeats 1000000 in
theorem l6Bool_ld (base P : Nat) (tv v : Value) (s : List Co) (q : Bool) (k : Int) (hk : Hid (k = if q = true then 2 else 1)) (w : World) (h : Lw.Ld base P tv w v s) (hn : s.length ≤ 4096) :
    Calls Try.prog 41 #[.pointer (some ⟨P, 0, none⟩), .bool q] w (Lw.Made base P tv v w (s ++ [Lw.val (Lw.kind k)], (s.length : Int))) := by
  have H := hide h
  have hB := h.base
  obtain ⟨R, hR⟩ : ∃ R, R = (s ++ [Lw.val (Lw.kind k)], (s.length : Int)) := ⟨_, rfl⟩
  rw [← hR]
  have HR := hide hR
  clear h hR
  go_enter Try.func41, Try.ntmps41
  go_wp2_with fail
  refine (l3Bool_lw q _).mono ?_
  rintro e w1 ⟨r, rfl, hr, hb⟩
  rw [← hk.out] at hr
  obtain ⟨ra, rn, rc, rfl⟩ := hr.shape
  go_wp2_with fail
  refine (l6Put_ld base P tv v _ s _ _ _ _ _ _ w1 ((unhide H).below hb) (hr.mono hB) hn).mono ?_
  rintro e w2 ⟨v2, rfl, L2, f2⟩
  go_wp2_with fail
  go_ret
  rw [unhide HR]
  exact ⟨v2, rfl, L2, f2.ahead hb⟩

set_option maxRecDepth 100000 in
set_option maxHeartbeats 2000000 in
theorem l6Truth_ld (base P : Nat) (tv v : Value) (s : List Co) (a : Int) (w : World) (h : Lw.Ld base P tv w v s) (hn : s.length ≤ 4000) :
    Calls Try.prog 42 #[.pointer (some ⟨P, 0, none⟩), .int .i64 a] w (Lw.Made base P tv v w (((s ++ [Lw.val (Lw.kind 2)]) ++ [Lw.val (Lw.kind 1)]) ++ [⟨12, a, (s.length : Int), ((s ++ [Lw.val (Lw.kind 2)]).length : Int), 0, []⟩], (((s ++ [Lw.val (Lw.kind 2)]) ++ [Lw.val (Lw.kind 1)]).length : Int))) := by
  have H := hide h
  obtain ⟨R, hR⟩ : ∃ R, R = (((s ++ [Lw.val (Lw.kind 2)]) ++ [Lw.val (Lw.kind 1)]) ++ [⟨12, a, (s.length : Int), ((s ++ [Lw.val (Lw.kind 2)]).length : Int), 0, []⟩], (((s ++ [Lw.val (Lw.kind 2)]) ++ [Lw.val (Lw.kind 1)]).length : Int)) := ⟨_, rfl⟩
  rw [← hR]
  have HR := hide hR
  clear h hR
  go_enter Try.func42, Try.ntmps42
  go_wp2_with fail
  refine (l6Bool_ld base P tv v s true 2 rfl w (unhide H) (by omega)).mono ?_
  rintro e w1 ⟨v1, rfl, l1, f1⟩
  obtain ⟨s1, e1⟩ : ∃ s1, s1 = s ++ [Lw.val (Lw.kind 2)] := ⟨_, rfl⟩
  have L1 : Lw.Ld base P tv w1 v1 s1 := by rw [e1]; exact l1
  have n1 : s1.length ≤ s.length + 1 := by rw [e1]; simp only [List.length_append, List.length_cons, List.length_nil]; omega
  have E1 := hide e1
  clear e1 l1
  have F1 := f1
  go_wp2_with fail
  refine (l6Bool_ld base P tv v1 s1 false 1 rfl w1 L1 (by omega)).mono ?_
  rintro e w2 ⟨v2, rfl, l2, f2⟩
  obtain ⟨s2, e2⟩ : ∃ s2, s2 = s1 ++ [Lw.val (Lw.kind 1)] := ⟨_, rfl⟩
  have L2 : Lw.Ld base P tv w2 v2 s2 := by rw [e2]; exact l2
  have n2 : s2.length ≤ s1.length + 1 := by rw [e2]; simp only [List.length_append, List.length_cons, List.length_nil]; omega
  have E2 := hide e2
  clear e2 l2
  have F2 := F1.trans f2
  go_wp2_with fail
  refine (l6Put_ld base P tv v2 (.slice none 0 0) s2 12 a (s.length : Int) (s1.length : Int) 0 [] w2 L2 (Lw.res_nil _ _) (by omega)).mono ?_
  rintro e w3 ⟨v3, rfl, l3, f3⟩
  obtain ⟨s3, e3⟩ : ∃ s3, s3 = s2 ++ [⟨12, a, (s.length : Int), (s1.length : Int), 0, []⟩] := ⟨_, rfl⟩
  have L3 : Lw.Ld base P tv w3 v3 s3 := by rw [e3]; exact l3
  have n3 : s3.length ≤ s2.length + 1 := by rw [e3]; simp only [List.length_append, List.length_cons, List.length_nil]; omega
  have E3 := hide e3
  clear e3 l3
  have F3 := F2.trans f3
  go_wp2_with fail
  go_ret
  have e1 := unhide E1
  have e2 := unhide E2
  have e3 := unhide E3
  subst e3 e2 e1
  rw [unhide HR]
  exact ⟨v3, rfl, L3, F3⟩

end Go.Proofs.Ytmbefapdckhjdaa

namespace Go.Proofs.Ytmbefapdckhjdaa
open Go.RowKit
set_option linter.unusedVariables false
set_option linter.unusedSimpArgs false


theorem Lw.toList_inj {a b : ByteArray} (h : a.toList = b.toList) : a = b := by
  rw [ByteArray.toList_eq, ByteArray.toList_eq] at h
  exact ByteArray.ext (Array.toList_inj.1 h)
theorem Lw.text_ne {a b : ByteArray} (h : a ≠ b) : (a.toList == b.toList) = false := beq_eq_false_iff_ne.2 fun e => h (Lw.toList_inj e)
theorem Lw.lit_list (l : List UInt8) : (⟨l.toArray⟩ : ByteArray).toList = l := by rw [ByteArray.toList_eq]
theorem Lw.lit_ne {t : ByteArray} (l : List UInt8) (h : t ≠ ⟨l.toArray⟩) : (t.toList == l) = false := beq_eq_false_iff_ne.2 fun e => h (Lw.toList_inj (by rw [e, Lw.lit_list]))
theorem Lw.lit_eq {t : ByteArray} (l : List UInt8) (h : t = ⟨l.toArray⟩) : (t.toList == l) = true := by rw [h, Lw.lit_list]; exact beq_self_eq_true _
theorem Lw.lay_done (rec : Lw.Rec) (d : Int) (ns : List ByteArray) (s : List Co) : Lw.lay rec (Lw.done d) ns s = (s ++ [⟨16, 0, 0, 0, d, []⟩], [(s.length : Int)]) := rfl
theorem Lw.lay_empty (rec : Lw.Rec) (ns : List ByteArray) (s : List Co) : Lw.lay rec (Lw.over 17 .nil) ns s = (s ++ [⟨17, 0, 0, 0, 0, []⟩], [(s.length : Int)]) := rfl
theorem Lw.lay_not (rec : Lw.Rec) (ns : List ByteArray) (s : List Co) : Lw.lay rec (Lw.over 12 (Lw.l3 (Lw.over 1 .nil) (Lw.con (Lw.kind 1)) (Lw.con (Lw.kind 2)))) ns s =
    ((((s ++ [⟨1, 0, 0, 0, 0, []⟩]) ++ [Lw.val (Lw.kind 1)]) ++ [Lw.val (Lw.kind 2)]) ++ [⟨12, (s.length : Int), ((s ++ [(⟨1, 0, 0, 0, 0, []⟩ : Co)]).length : Int), (((s ++ [(⟨1, 0, 0, 0, 0, []⟩ : Co)]) ++ [Lw.val (Lw.kind 1)]).length : Int), 0, []⟩], [((((s ++ [(⟨1, 0, 0, 0, 0, []⟩ : Co)]) ++ [Lw.val (Lw.kind 1)]) ++ [Lw.val (Lw.kind 2)]).length : Int)]) := rfl

set_option maxRecDepth 100000 in
set_option maxHeartbeats 4000000 in
theorem l6Call_0 (base P : Nat) (tv v : Value) (rec : Lw.Rec) (ns : List ByteArray) (s : List Co) (t : ByteArray) (w : World) (h : Lw.Ld base P tv w v s) (hn : s.length ≤ 4000)  (h0 : t = ⟨#[110, 111, 116]⟩) : Calls Try.prog 75 #[.pointer (some ⟨P, 0, none⟩), .string t] w (Lw.Made base P tv v w ((Lw.lay rec (Lw.call t) ns s).1, (Lw.lay rec (Lw.call t) ns s).2.headD 0)) := by
  have H := hide h
  obtain ⟨R, hR⟩ : ∃ R, R = ((Lw.lay rec (Lw.call t) ns s).1, (Lw.lay rec (Lw.call t) ns s).2.headD 0) := ⟨_, rfl⟩
  rw [← hR]
  rw [show Lw.call t = Lw.over 12 (Lw.l3 (Lw.over 1 .nil) (Lw.con (Lw.kind 1)) (Lw.con (Lw.kind 2))) by unfold Lw.call; rw [if_pos h0], Lw.lay_not] at hR
  have HR := hide hR
  clear h hR
  have g0 : (t.toList == [110, 111, 116]) = true := Lw.lit_eq [110, 111, 116] h0
  clear h0
  go_enter Try.func75, Try.ntmps75
  go_wp2_with fail
  refine (l6Put_ld base P tv v (.slice none 0 0) s 1 0 0 0 0 [] w (unhide H) (Lw.res_nil _ _) (by omega)).mono ?_
  rintro e w1 ⟨v1, rfl, l1, f1⟩
  obtain ⟨s1, e1⟩ : ∃ s1, s1 = s ++ [⟨1, 0, 0, 0, 0, []⟩] := ⟨_, rfl⟩
  have L1 : Lw.Ld base P tv w1 v1 s1 := by rw [e1]; exact l1
  have n1 : s1.length ≤ s.length + 1 := by rw [e1]; simp only [List.length_append, List.length_cons, List.length_nil]; omega
  have E1 := hide e1
  clear e1 l1
  have F1 := f1
  go_wp2_with fail
  refine (l6Bool_ld base P tv v1 s1 false 1 rfl w1 L1 (by omega)).mono ?_
  rintro e w2 ⟨v2, rfl, l2, f2⟩
  obtain ⟨s2, e2⟩ : ∃ s2, s2 = s1 ++ [Lw.val (Lw.kind 1)] := ⟨_, rfl⟩
  have L2 : Lw.Ld base P tv w2 v2 s2 := by rw [e2]; exact l2
  have n2 : s2.length ≤ s1.length + 1 := by rw [e2]; simp only [List.length_append, List.length_cons, List.length_nil]; omega
  have E2 := hide e2
  clear e2 l2
  have F2 := F1.trans f2
  go_wp2_with fail
  refine (l6Bool_ld base P tv v2 s2 true 2 rfl w2 L2 (by omega)).mono ?_
  rintro e w3 ⟨v3, rfl, l3, f3⟩
  obtain ⟨s3, e3⟩ : ∃ s3, s3 = s2 ++ [Lw.val (Lw.kind 2)] := ⟨_, rfl⟩
  have L3 : Lw.Ld base P tv w3 v3 s3 := by rw [e3]; exact l3
  have n3 : s3.length ≤ s2.length + 1 := by rw [e3]; simp only [List.length_append, List.length_cons, List.length_nil]; omega
  have E3 := hide e3
  clear e3 l3
  have F3 := F2.trans f3
  go_wp2_with fail
  refine (l6Put_ld base P tv v3 (.slice none 0 0) s3 12 (s.length : Int) (s1.length : Int) (s2.length : Int) 0 [] w3 L3 (Lw.res_nil _ _) (by omega)).mono ?_
  rintro e w4 ⟨v4, rfl, l4, f4⟩
  obtain ⟨s4, e4⟩ : ∃ s4, s4 = s3 ++ [⟨12, (s.length : Int), (s1.length : Int), (s2.length : Int), 0, []⟩] := ⟨_, rfl⟩
  have L4 : Lw.Ld base P tv w4 v4 s4 := by rw [e4]; exact l4
  have n4 : s4.length ≤ s3.length + 1 := by rw [e4]; simp only [List.length_append, List.length_cons, List.length_nil]; omega
  have E4 := hide e4
  clear e4 l4
  have F4 := F3.trans f4
  go_wp2_with fail
  go_ret
  have e1 := unhide E1
  have e2 := unhide E2
  have e3 := unhide E3
  have e4 := unhide E4
  subst e4 e3 e2 e1
  rw [unhide HR]
  exact ⟨v4, rfl, L4, F4⟩

set_option maxRecDepth 100000 in
set_option maxHeartbeats 4000000 in
theorem l6Call_1 (base P : Nat) (tv v : Value) (rec : Lw.Rec) (ns : List ByteArray) (s : List Co) (t : ByteArray) (w : World) (h : Lw.Ld base P tv w v s) (hn : s.length ≤ 4000) (h0 : t ≠ ⟨#[110, 111, 116]⟩) (h1 : t = ⟨#[101, 109, 112, 116, 121]⟩) : Calls Try.prog 75 #[.pointer (some ⟨P, 0, none⟩), .string t] w (Lw.Made base P tv v w ((Lw.lay rec (Lw.call t) ns s).1, (Lw.lay rec (Lw.call t) ns s).2.headD 0)) := by
  have H := hide h
  obtain ⟨R, hR⟩ : ∃ R, R = ((Lw.lay rec (Lw.call t) ns s).1, (Lw.lay rec (Lw.call t) ns s).2.headD 0) := ⟨_, rfl⟩
  rw [← hR]
  rw [show Lw.call t = Lw.over 17 .nil by unfold Lw.call; rw [if_neg h0, if_pos h1], Lw.lay_empty] at hR
  have HR := hide hR
  clear h hR
  have g0 : (t.toList == [110, 111, 116]) = false := Lw.lit_ne [110, 111, 116] h0
  have g1 : (t.toList == [101, 109, 112, 116, 121]) = true := Lw.lit_eq [101, 109, 112, 116, 121] h1
  clear h0 h1
  go_enter Try.func75, Try.ntmps75
  go_wp2_with fail
  refine (l6Put_ld base P tv v (.slice none 0 0) s 17 0 0 0 0 [] w (unhide H) (Lw.res_nil _ _) (by omega)).mono ?_
  rintro e w1 ⟨v1, rfl, l1, f1⟩
  obtain ⟨s1, e1⟩ : ∃ s1, s1 = s ++ [⟨17, 0, 0, 0, 0, []⟩] := ⟨_, rfl⟩
  have L1 : Lw.Ld base P tv w1 v1 s1 := by rw [e1]; exact l1
  have n1 : s1.length ≤ s.length + 1 := by rw [e1]; simp only [List.length_append, List.length_cons, List.length_nil]; omega
  have E1 := hide e1
  clear e1 l1
  have F1 := f1
  go_wp2_with fail
  go_ret
  have e1 := unhide E1
  subst e1
  rw [unhide HR]
  exact ⟨v1, rfl, L1, F1⟩

set_option maxRecDepth 100000 in
set_option maxHeartbeats 4000000 in
theorem l6Call_2 (base P : Nat) (tv v : Value) (rec : Lw.Rec) (ns : List ByteArray) (s : List Co) (t : ByteArray) (w : World) (h : Lw.Ld base P tv w v s) (hn : s.length ≤ 4000) (h0 : t ≠ ⟨#[110, 111, 116]⟩) (h1 : t ≠ ⟨#[101, 109, 112, 116, 121]⟩) (h2 : t = ⟨#[108, 101, 110, 103, 116, 104]⟩) : Calls Try.prog 75 #[.pointer (some ⟨P, 0, none⟩), .string t] w (Lw.Made base P tv v w ((Lw.lay rec (Lw.call t) ns s).1, (Lw.lay rec (Lw.call t) ns s).2.headD 0)) := by
  have H := hide h
  obtain ⟨R, hR⟩ : ∃ R, R = ((Lw.lay rec (Lw.call t) ns s).1, (Lw.lay rec (Lw.call t) ns s).2.headD 0) := ⟨_, rfl⟩
  rw [← hR]
  rw [show Lw.call t = Lw.done 1 by unfold Lw.call; rw [if_neg h0, if_neg h1, if_pos h2], Lw.lay_done] at hR
  have HR := hide hR
  clear h hR
  have g0 : (t.toList == [110, 111, 116]) = false := Lw.lit_ne [110, 111, 116] h0
  have g1 : (t.toList == [101, 109, 112, 116, 121]) = false := Lw.lit_ne [101, 109, 112, 116, 121] h1
  have g2 : (t.toList == [108, 101, 110, 103, 116, 104]) = true := Lw.lit_eq [108, 101, 110, 103, 116, 104] h2
  clear h0 h1 h2
  go_enter Try.func75, Try.ntmps75
  go_wp2_with fail
  refine (l6Put_ld base P tv v (.slice none 0 0) s 16 0 0 0 1 [] w (unhide H) (Lw.res_nil _ _) (by omega)).mono ?_
  rintro e w1 ⟨v1, rfl, l1, f1⟩
  obtain ⟨s1, e1⟩ : ∃ s1, s1 = s ++ [⟨16, 0, 0, 0, 1, []⟩] := ⟨_, rfl⟩
  have L1 : Lw.Ld base P tv w1 v1 s1 := by rw [e1]; exact l1
  have n1 : s1.length ≤ s.length + 1 := by rw [e1]; simp only [List.length_append, List.length_cons, List.length_nil]; omega
  have E1 := hide e1
  clear e1 l1
  have F1 := f1
  go_wp2_with fail
  go_ret
  have e1 := unhide E1
  subst e1
  rw [unhide HR]
  exact ⟨v1, rfl, L1, F1⟩

set_option maxRecDepth 100000 in
set_option maxHeartbeats 4000000 in
theorem l6Call_3 (base P : Nat) (tv v : Value) (rec : Lw.Rec) (ns : List ByteArray) (s : List Co) (t : ByteArray) (w : World) (h : Lw.Ld base P tv w v s) (hn : s.length ≤ 4000) (h0 : t ≠ ⟨#[110, 111, 116]⟩) (h1 : t ≠ ⟨#[101, 109, 112, 116, 121]⟩) (h2 : t ≠ ⟨#[108, 101, 110, 103, 116, 104]⟩) (h3 : t = ⟨#[107, 101, 121, 115]⟩) : Calls Try.prog 75 #[.pointer (some ⟨P, 0, none⟩), .string t] w (Lw.Made base P tv v w ((Lw.lay rec (Lw.call t) ns s).1, (Lw.lay rec (Lw.call t) ns s).2.headD 0)) := by
  have H := hide h
  obtain ⟨R, hR⟩ : ∃ R, R = ((Lw.lay rec (Lw.call t) ns s).1, (Lw.lay rec (Lw.call t) ns s).2.headD 0) := ⟨_, rfl⟩
  rw [← hR]
  rw [show Lw.call t = Lw.done 2 by unfold Lw.call; rw [if_neg h0, if_neg h1, if_neg h2, if_pos h3], Lw.lay_done] at hR
  have HR := hide hR
  clear h hR
  have g0 : (t.toList == [110, 111, 116]) = false := Lw.lit_ne [110, 111, 116] h0
  have g1 : (t.toList == [101, 109, 112, 116, 121]) = false := Lw.lit_ne [101, 109, 112, 116, 121] h1
  have g2 : (t.toList == [108, 101, 110, 103, 116, 104]) = false := Lw.lit_ne [108, 101, 110, 103, 116, 104] h2
  have g3 : (t.toList == [107, 101, 121, 115]) = true := Lw.lit_eq [107, 101, 121, 115] h3
  clear h0 h1 h2 h3
  go_enter Try.func75, Try.ntmps75
  go_wp2_with fail
  refine (l6Put_ld base P tv v (.slice none 0 0) s 16 0 0 0 2 [] w (unhide H) (Lw.res_nil _ _) (by omega)).mono ?_
  rintro e w1 ⟨v1, rfl, l1, f1⟩
  obtain ⟨s1, e1⟩ : ∃ s1, s1 = s ++ [⟨16, 0, 0, 0, 2, []⟩] := ⟨_, rfl⟩
  have L1 : Lw.Ld base P tv w1 v1 s1 := by rw [e1]; exact l1
  have n1 : s1.length ≤ s.length + 1 := by rw [e1]; simp only [List.length_append, List.length_cons, List.length_nil]; omega
  have E1 := hide e1
  clear e1 l1
  have F1 := f1
  go_wp2_with fail
  go_ret
  have e1 := unhide E1
  subst e1
  rw [unhide HR]
  exact ⟨v1, rfl, L1, F1⟩

set_option maxRecDepth 100000 in
set_option maxHeartbeats 4000000 in
theorem l6Call_4 (base P : Nat) (tv v : Value) (rec : Lw.Rec) (ns : List ByteArray) (s : List Co) (t : ByteArray) (w : World) (h : Lw.Ld base P tv w v s) (hn : s.length ≤ 4000) (h0 : t ≠ ⟨#[110, 111, 116]⟩) (h1 : t ≠ ⟨#[101, 109, 112, 116, 121]⟩) (h2 : t ≠ ⟨#[108, 101, 110, 103, 116, 104]⟩) (h3 : t ≠ ⟨#[107, 101, 121, 115]⟩) (h4 : t = ⟨#[116, 121, 112, 101]⟩) : Calls Try.prog 75 #[.pointer (some ⟨P, 0, none⟩), .string t] w (Lw.Made base P tv v w ((Lw.lay rec (Lw.call t) ns s).1, (Lw.lay rec (Lw.call t) ns s).2.headD 0)) := by
  have H := hide h
  obtain ⟨R, hR⟩ : ∃ R, R = ((Lw.lay rec (Lw.call t) ns s).1, (Lw.lay rec (Lw.call t) ns s).2.headD 0) := ⟨_, rfl⟩
  rw [← hR]
  rw [show Lw.call t = Lw.done 3 by unfold Lw.call; rw [if_neg h0, if_neg h1, if_neg h2, if_neg h3, if_pos h4], Lw.lay_done] at hR
  have HR := hide hR
  clear h hR
  have g0 : (t.toList == [110, 111, 116]) = false := Lw.lit_ne [110, 111, 116] h0
  have g1 : (t.toList == [101, 109, 112, 116, 121]) = false := Lw.lit_ne [101, 109, 112, 116, 121] h1
  have g2 : (t.toList == [108, 101, 110, 103, 116, 104]) = false := Lw.lit_ne [108, 101, 110, 103, 116, 104] h2
  have g3 : (t.toList == [107, 101, 121, 115]) = false := Lw.lit_ne [107, 101, 121, 115] h3
  have g4 : (t.toList == [116, 121, 112, 101]) = true := Lw.lit_eq [116, 121, 112, 101] h4
  clear h0 h1 h2 h3 h4
  go_enter Try.func75, Try.ntmps75
  go_wp2_with fail
  refine (l6Put_ld base P tv v (.slice none 0 0) s 16 0 0 0 3 [] w (unhide H) (Lw.res_nil _ _) (by omega)).mono ?_
  rintro e w1 ⟨v1, rfl, l1, f1⟩
  obtain ⟨s1, e1⟩ : ∃ s1, s1 = s ++ [⟨16, 0, 0, 0, 3, []⟩] := ⟨_, rfl⟩
  have L1 : Lw.Ld base P tv w1 v1 s1 := by rw [e1]; exact l1
  have n1 : s1.length ≤ s.length + 1 := by rw [e1]; simp only [List.length_append, List.length_cons, List.length_nil]; omega
  have E1 := hide e1
  clear e1 l1
  have F1 := f1
  go_wp2_with fail
  go_ret
  have e1 := unhide E1
  subst e1
  rw [unhide HR]
  exact ⟨v1, rfl, L1, F1⟩

set_option maxRecDepth 100000 in
set_option maxHeartbeats 4000000 in
theorem l6Call_5 (base P : Nat) (tv v : Value) (rec : Lw.Rec) (ns : List ByteArray) (s : List Co) (t : ByteArray) (w : World) (h : Lw.Ld base P tv w v s) (hn : s.length ≤ 4000) (h0 : t ≠ ⟨#[110, 111, 116]⟩) (h1 : t ≠ ⟨#[101, 109, 112, 116, 121]⟩) (h2 : t ≠ ⟨#[108, 101, 110, 103, 116, 104]⟩) (h3 : t ≠ ⟨#[107, 101, 121, 115]⟩) (h4 : t ≠ ⟨#[116, 121, 112, 101]⟩) (h5 : t = ⟨#[115, 111, 114, 116]⟩) : Calls Try.prog 75 #[.pointer (some ⟨P, 0, none⟩), .string t] w (Lw.Made base P tv v w ((Lw.lay rec (Lw.call t) ns s).1, (Lw.lay rec (Lw.call t) ns s).2.headD 0)) := by
  have H := hide h
  obtain ⟨R, hR⟩ : ∃ R, R = ((Lw.lay rec (Lw.call t) ns s).1, (Lw.lay rec (Lw.call t) ns s).2.headD 0) := ⟨_, rfl⟩
  rw [← hR]
  rw [show Lw.call t = Lw.done 4 by unfold Lw.call; rw [if_neg h0, if_neg h1, if_neg h2, if_neg h3, if_neg h4, if_pos h5], Lw.lay_done] at hR
  have HR := hide hR
  clear h hR
  have g0 : (t.toList == [110, 111, 116]) = false := Lw.lit_ne [110, 111, 116] h0
  have g1 : (t.toList == [101, 109, 112, 116, 121]) = false := Lw.lit_ne [101, 109, 112, 116, 121] h1
  have g2 : (t.toList == [108, 101, 110, 103, 116, 104]) = false := Lw.lit_ne [108, 101, 110, 103, 116, 104] h2
  have g3 : (t.toList == [107, 101, 121, 115]) = false := Lw.lit_ne [107, 101, 121, 115] h3
  have g4 : (t.toList == [116, 121, 112, 101]) = false := Lw.lit_ne [116, 121, 112, 101] h4
  have g5 : (t.toList == [115, 111, 114, 116]) = true := Lw.lit_eq [115, 111, 114, 116] h5
  clear h0 h1 h2 h3 h4 h5
  go_enter Try.func75, Try.ntmps75
  go_wp2_with fail
  refine (l6Put_ld base P tv v (.slice none 0 0) s 16 0 0 0 4 [] w (unhide H) (Lw.res_nil _ _) (by omega)).mono ?_
  rintro e w1 ⟨v1, rfl, l1, f1⟩
  obtain ⟨s1, e1⟩ : ∃ s1, s1 = s ++ [⟨16, 0, 0, 0, 4, []⟩] := ⟨_, rfl⟩
  have L1 : Lw.Ld base P tv w1 v1 s1 := by rw [e1]; exact l1
  have n1 : s1.length ≤ s.length + 1 := by rw [e1]; simp only [List.length_append, List.length_cons, List.length_nil]; omega
  have E1 := hide e1
  clear e1 l1
  have F1 := f1
  go_wp2_with fail
  go_ret
  have e1 := unhide E1
  subst e1
  rw [unhide HR]
  exact ⟨v1, rfl, L1, F1⟩

set_option maxRecDepth 100000 in
set_option maxHeartbeats 4000000 in
theorem l6Call_6 (base P : Nat) (tv v : Value) (rec : Lw.Rec) (ns : List ByteArray) (s : List Co) (t : ByteArray) (w : World) (h : Lw.Ld base P tv w v s) (hn : s.length ≤ 4000) (h0 : t ≠ ⟨#[110, 111, 116]⟩) (h1 : t ≠ ⟨#[101, 109, 112, 116, 121]⟩) (h2 : t ≠ ⟨#[108, 101, 110, 103, 116, 104]⟩) (h3 : t ≠ ⟨#[107, 101, 121, 115]⟩) (h4 : t ≠ ⟨#[116, 121, 112, 101]⟩) (h5 : t ≠ ⟨#[115, 111, 114, 116]⟩) (h6 : t = ⟨#[97, 100, 100]⟩) : Calls Try.prog 75 #[.pointer (some ⟨P, 0, none⟩), .string t] w (Lw.Made base P tv v w ((Lw.lay rec (Lw.call t) ns s).1, (Lw.lay rec (Lw.call t) ns s).2.headD 0)) := by
  have H := hide h
  obtain ⟨R, hR⟩ : ∃ R, R = ((Lw.lay rec (Lw.call t) ns s).1, (Lw.lay rec (Lw.call t) ns s).2.headD 0) := ⟨_, rfl⟩
  rw [← hR]
  rw [show Lw.call t = Lw.done 5 by unfold Lw.call; rw [if_neg h0, if_neg h1, if_neg h2, if_neg h3, if_neg h4, if_neg h5, if_pos h6], Lw.lay_done] at hR
  have HR := hide hR
  clear h hR
  have g0 : (t.toList == [110, 111, 116]) = false := Lw.lit_ne [110, 111, 116] h0
  have g1 : (t.toList == [101, 109, 112, 116, 121]) = false := Lw.lit_ne [101, 109, 112, 116, 121] h1
  have g2 : (t.toList == [108, 101, 110, 103, 116, 104]) = false := Lw.lit_ne [108, 101, 110, 103, 116, 104] h2
  have g3 : (t.toList == [107, 101, 121, 115]) = false := Lw.lit_ne [107, 101, 121, 115] h3
  have g4 : (t.toList == [116, 121, 112, 101]) = false := Lw.lit_ne [116, 121, 112, 101] h4
  have g5 : (t.toList == [115, 111, 114, 116]) = false := Lw.lit_ne [115, 111, 114, 116] h5
  have g6 : (t.toList == [97, 100, 100]) = true := Lw.lit_eq [97, 100, 100] h6
  clear h0 h1 h2 h3 h4 h5 h6
  go_enter Try.func75, Try.ntmps75
  go_wp2_with fail
  refine (l6Put_ld base P tv v (.slice none 0 0) s 16 0 0 0 5 [] w (unhide H) (Lw.res_nil _ _) (by omega)).mono ?_
  rintro e w1 ⟨v1, rfl, l1, f1⟩
  obtain ⟨s1, e1⟩ : ∃ s1, s1 = s ++ [⟨16, 0, 0, 0, 5, []⟩] := ⟨_, rfl⟩
  have L1 : Lw.Ld base P tv w1 v1 s1 := by rw [e1]; exact l1
  have n1 : s1.length ≤ s.length + 1 := by rw [e1]; simp only [List.length_append, List.length_cons, List.length_nil]; omega
  have E1 := hide e1
  clear e1 l1
  have F1 := f1
  go_wp2_with fail
  go_ret
  have e1 := unhide E1
  subst e1
  rw [unhide HR]
  exact ⟨v1, rfl, L1, F1⟩

set_option maxRecDepth 100000 in
set_option maxHeartbeats 4000000 in
theorem l6Call_7 (base P : Nat) (tv v : Value) (rec : Lw.Rec) (ns : List ByteArray) (s : List Co) (t : ByteArray) (w : World) (h : Lw.Ld base P tv w v s) (hn : s.length ≤ 4000) (h0 : t ≠ ⟨#[110, 111, 116]⟩) (h1 : t ≠ ⟨#[101, 109, 112, 116, 121]⟩) (h2 : t ≠ ⟨#[108, 101, 110, 103, 116, 104]⟩) (h3 : t ≠ ⟨#[107, 101, 121, 115]⟩) (h4 : t ≠ ⟨#[116, 121, 112, 101]⟩) (h5 : t ≠ ⟨#[115, 111, 114, 116]⟩) (h6 : t ≠ ⟨#[97, 100, 100]⟩) : Calls Try.prog 75 #[.pointer (some ⟨P, 0, none⟩), .string t] w (Lw.Made base P tv v w ((Lw.lay rec (Lw.call t) ns s).1, (Lw.lay rec (Lw.call t) ns s).2.headD 0)) := by
  have H := hide h
  obtain ⟨R, hR⟩ : ∃ R, R = ((Lw.lay rec (Lw.call t) ns s).1, (Lw.lay rec (Lw.call t) ns s).2.headD 0) := ⟨_, rfl⟩
  rw [← hR]
  rw [show Lw.call t = Lw.done 8 by unfold Lw.call; rw [if_neg h0, if_neg h1, if_neg h2, if_neg h3, if_neg h4, if_neg h5, if_neg h6], Lw.lay_done] at hR
  have HR := hide hR
  clear h hR
  have g0 : (t.toList == [110, 111, 116]) = false := Lw.lit_ne [110, 111, 116] h0
  have g1 : (t.toList == [101, 109, 112, 116, 121]) = false := Lw.lit_ne [101, 109, 112, 116, 121] h1
  have g2 : (t.toList == [108, 101, 110, 103, 116, 104]) = false := Lw.lit_ne [108, 101, 110, 103, 116, 104] h2
  have g3 : (t.toList == [107, 101, 121, 115]) = false := Lw.lit_ne [107, 101, 121, 115] h3
  have g4 : (t.toList == [116, 121, 112, 101]) = false := Lw.lit_ne [116, 121, 112, 101] h4
  have g5 : (t.toList == [115, 111, 114, 116]) = false := Lw.lit_ne [115, 111, 114, 116] h5
  have g6 : (t.toList == [97, 100, 100]) = false := Lw.lit_ne [97, 100, 100] h6
  clear h0 h1 h2 h3 h4 h5 h6
  go_enter Try.func75, Try.ntmps75
  go_wp2_with fail
  refine (l6Put_ld base P tv v (.slice none 0 0) s 16 0 0 0 8 [] w (unhide H) (Lw.res_nil _ _) (by omega)).mono ?_
  rintro e w1 ⟨v1, rfl, l1, f1⟩
  obtain ⟨s1, e1⟩ : ∃ s1, s1 = s ++ [⟨16, 0, 0, 0, 8, []⟩] := ⟨_, rfl⟩
  have L1 : Lw.Ld base P tv w1 v1 s1 := by rw [e1]; exact l1
  have n1 : s1.length ≤ s.length + 1 := by rw [e1]; simp only [List.length_append, List.length_cons, List.length_nil]; omega
  have E1 := hide e1
  clear e1 l1
  have F1 := f1
  go_wp2_with fail
  go_ret
  have e1 := unhide E1
  subst e1
  rw [unhide HR]
  exact ⟨v1, rfl, L1, F1⟩

theorem l6Call_ld (base P : Nat) (tv v : Value) (rec : Lw.Rec) (ns : List ByteArray) (s : List Co) (t : ByteArray) (w : World) (h : Lw.Ld base P tv w v s) (hn : s.length ≤ 4000) : Calls Try.prog 75 #[.pointer (some ⟨P, 0, none⟩), .string t] w (Lw.Made base P tv v w ((Lw.lay rec (Lw.call t) ns s).1, (Lw.lay rec (Lw.call t) ns s).2.headD 0)) := by
  by_cases h0 : t = ⟨#[110, 111, 116]⟩
  · exact l6Call_0 base P tv v rec ns s t w h hn h0
  by_cases h1 : t = ⟨#[101, 109, 112, 116, 121]⟩
  · exact l6Call_1 base P tv v rec ns s t w h hn h0 h1
  by_cases h2 : t = ⟨#[108, 101, 110, 103, 116, 104]⟩
  · exact l6Call_2 base P tv v rec ns s t w h hn h0 h1 h2
  by_cases h3 : t = ⟨#[107, 101, 121, 115]⟩
  · exact l6Call_3 base P tv v rec ns s t w h hn h0 h1 h2 h3
  by_cases h4 : t = ⟨#[116, 121, 112, 101]⟩
  · exact l6Call_4 base P tv v rec ns s t w h hn h0 h1 h2 h3 h4
  by_cases h5 : t = ⟨#[115, 111, 114, 116]⟩
  · exact l6Call_5 base P tv v rec ns s t w h hn h0 h1 h2 h3 h4 h5
  by_cases h6 : t = ⟨#[97, 100, 100]⟩
  · exact l6Call_6 base P tv v rec ns s t w h hn h0 h1 h2 h3 h4 h5 h6
  exact l6Call_7 base P tv v rec ns s t w h hn h0 h1 h2 h3 h4 h5 h6

set_option maxRecDepth 100000 in
set_option maxHeartbeats 2000000 in
theorem l6Slot_row (g cap : Nat) (ns : List ByteArray) (t : ByteArray) (w : World) (h4 : ns.length ≤ 4096) (hc : ∀ k, k < ns.length → w.cell? ⟨g, k, none⟩ = some (.string (ns.getD k ByteArray.empty))) (hcap : ns.length ≤ cap) :
    Calls Try.prog 74 #[.slice (some ⟨g, 0, none⟩) ns.length cap, .string t] w fun e w' => e = .returned (.int .i64 (Lw.slot ns t)) ∧ w' = w := by
  have HC := hide hc
  clear hc
  go_enter Try.func74, Try.ntmps74
  go_wp2_with fail
  go_loopg [5, 6] ns.length (fun gh s5 s6 wr => ∃ k q : Nat, Hid (gh = ns.length - k) ∧ s6 = .int .i64 k ∧ k ≤ ns.length ∧ s5 = .int .i64 q ∧ Hid (q = Lw.slotK ns t k) ∧ wr = w)
  case atStart => exact ⟨0, 0, rfl, rfl, by omega, rfl, rfl, rfl⟩
  case round =>
    obtain ⟨k, q, hg, rfl, hk, rfl, hq, rfl⟩ := hrel
    by_cases hlt : k < ns.length
    · have c0 := (unhide HC) k hlt
      have hltI : (k : Int) < (ns.length : Int) := by omega
      have hs := hide (show Lw.slotK ns t (k + 1) = if (ns.getD k ByteArray.empty).toList == t.toList then k else Lw.slotK ns t k from rfl)
      generalize ns.getD k ByteArray.empty = x at *
      by_cases he : x = t
      · have hn2 : Hid (k = Lw.slotK ns t (k + 1)) := by show _ = _; rw [unhide hs, if_pos (by rw [he]; simp)]
        subst he
        clear hs
        go_wp2_with fail
        go_roundg (ns.length - (k + 1))
        case rel => exact ⟨k + 1, k, rfl, by go_num, by omega, rfl, hn2, rfl⟩
        case measure => have := hg.out; omega
      · have hn2 : Hid (q = Lw.slotK ns t (k + 1)) := by
          show _ = _
          rw [unhide hs, if_neg (by
            intro e
            have e2 : x.toList = t.toList := by simpa using e
            exact he (Lw.toList_inj e2)), hq.out]
        have g1 : (x.toList == t.toList) = false := Lw.text_ne he
        clear hs he
        go_wp2_with fail
        go_roundg (ns.length - (k + 1))
        case rel => exact ⟨k + 1, q, rfl, by go_num, by omega, rfl, hn2, rfl⟩
        case measure => have := hg.out; omega
    · have hke : k = ns.length := by omega
      have fin := hide (show q = Lw.slot ns t by rw [hq.out, hke]; rfl)
      clear hke
      go_wp2_with fail
      go_ret
      exact ⟨by rw [unhide fin]; rfl, rfl⟩

end Go.Proofs.Ytmbefapdckhjdaa

namespace Go.Proofs.Ytmbefapdckhjdaa
open Go.RowKit
set_option linter.unusedVariables false
set_option linter.unusedSimpArgs false


set_option maxHeartbeats 1000000 in
theorem l6Slot_nil (t : ByteArray) (w : World) : Calls Try.prog 74 #[.slice none 0 0, .string t] w fun e w' => e = .returned (.int .i64 (Lw.slot [] t)) ∧ w' = w := by
  go_enter Try.func74, Try.ntmps74
  go_wp2_with fail
  refine wp_loop_rounds 1 ?_
  rw [rounds_succ]
  go_wp2_with fail
  go_ret
  exact ⟨rfl, rfl⟩
theorem l6Slot_any (b0 : Nat) (nv : Value) (ns : List ByteArray) (t : ByteArray) (w : World) (h4 : ns.length ≤ 4096) (ho : w.ownsRow b0 9 1 nv ns.length (ns.map Value.string)) : Calls Try.prog 74 #[nv, .string t] w fun e w' => e = .returned (.int .i64 (Lw.slot ns t)) ∧ w' = w := by
  have ho' := ho
  obtain ⟨hlen, ⟨hv2, h0⟩ | ⟨g, cap, cur, hv2, hg, hh, hnc, hcm, hcs, htk⟩⟩ := ho
  · have hys : ns = [] := List.length_eq_zero_iff.1 h0
    subst hys hv2
    exact l6Slot_nil t w
  · subst hv2
    refine l6Slot_row g cap ns t w h4 (fun k hk => ?_) hnc
    rw [Tr.owns_cell ho' k hk, List.getElem?_map, List.getElem?_eq_getElem hk, List.getD_eq_getElem?_getD, List.getElem?_eq_getElem hk]; rfl
theorem Lw.lay_con (rec : Lw.Rec) (c : M.Cl) (ns : List ByteArray) (s : List Co) : Lw.lay rec (Lw.con c) ns s = (s ++ [Lw.val c], [(s.length : Int)]) := rfl
theorem Lw.lay_self (rec : Lw.Rec) (ns : List ByteArray) (s : List Co) : Lw.lay rec (Lw.over 1 .nil) ns s = (s ++ [⟨1, 0, 0, 0, 0, []⟩], [(s.length : Int)]) := rfl
theorem Lw.lay_var (rec : Lw.Rec) (t : ByteArray) (ns : List ByteArray) (s : List Co) : Lw.lay rec (.var t) ns s = (s ++ [⟨15, 0, 0, 0, (Lw.slot ns t : Int), []⟩], [(s.length : Int)]) := rfl
theorem Lw.lay_deep (rec : Lw.Rec) (ns : List ByteArray) (s : List Co) : Lw.lay rec (Lw.over 8 (Lw.l1 (Lw.done 7))) ns s = ((s ++ [⟨16, 0, 0, 0, 7, []⟩]) ++ [⟨8, (s.length : Int), 0, 0, 0, []⟩], [((s ++ [(⟨16, 0, 0, 0, 7, []⟩ : Co)]).length : Int)]) := rfl

set_option maxRecDepth 100000 in
set_option maxHeartbeats 4000000 in
theorem l6Leaf_1 (base P b0 : Nat) (tv v nv : Value) (rec : Lw.Rec) (ns : List ByteArray) (s : List Co) (n : Nd) (w : World) (h : Lw.Ld base P tv w v s) (hn : s.length ≤ 4000) (h4 : ns.length ≤ 4096) (hns : w.ownsRow b0 9 1 nv ns.length (ns.map Value.string)) (hop : n.op = 1) : Calls Try.prog 39 #[.pointer (some ⟨P, 0, none⟩), .agg #[.int .i64 n.op, .int .i64 n.a, .int .i64 n.b, .int .i64 n.c, .int .i64 n.num, .string n.text], nv] w (Lw.Made base P tv v w ((Lw.lay rec (Lw.form n) ns s).1, (Lw.lay rec (Lw.form n) ns s).2.headD 0)) := by
  obtain ⟨R, hR⟩ : ∃ R, R = ((Lw.lay rec (Lw.form n) ns s).1, (Lw.lay rec (Lw.form n) ns s).2.headD 0) := ⟨_, rfl⟩
  rw [← hR]
  rw [Lw.form_1 hop, Lw.lay_self] at hR
  have HR := hide hR
  obtain ⟨w0, hw0⟩ : ∃ w0, w0 = w.alloc (.cells #[.int .i64 1, .int .i64 n.a, .int .i64 n.b, .int .i64 n.c, .int .i64 n.num, .string n.text] 55) := ⟨_, rfl⟩
  have B0 : Below w.heap.size w w0 := by rw [hw0]; exact (Below.refl _ _).alloc (Nat.le_refl _) _
  have H0 := hide (h.below B0)
  have hB := (h.below B0).base
  have HNS := hide (show w0.ownsRow b0 9 1 nv ns.length (ns.map Value.string) by rw [hw0]; exact hns.alloc _)
  rw [hop]
  clear h hR hns hop
  go_enter Try.func39, Try.ntmps39
  go_wp2_with fail
  try rw [← hw0]
  clear hw0
  refine (l6Put_ld base P tv v (.slice none 0 0) s 1 0 0 0 0 [] w0 (unhide H0) (Lw.res_nil _ _) (by omega)).mono ?_
  rintro e w1 ⟨v1, rfl, l1, f1⟩
  obtain ⟨s1, e1⟩ : ∃ s1, s1 = s ++ [⟨1, 0, 0, 0, 0, []⟩] := ⟨_, rfl⟩
  have L1 : Lw.Ld base P tv w1 v1 s1 := by rw [e1]; exact l1
  have n1 : s1.length ≤ s.length + 1 := by rw [e1]; simp only [List.length_append, List.length_cons, List.length_nil]; omega
  have E1 := hide e1
  clear e1 l1
  have F1 := f1
  go_wp2_with fail
  go_ret
  have e1 := unhide E1
  subst e1
  rw [unhide HR]
  exact ⟨v1, rfl, L1, F1.ahead B0⟩

set_option maxRecDepth 100000 in
set_option maxHeartbeats 4000000 in
theorem l6Leaf_2 (base P b0 : Nat) (tv v nv : Value) (rec : Lw.Rec) (ns : List ByteArray) (s : List Co) (n : Nd) (w : World) (h : Lw.Ld base P tv w v s) (hn : s.length ≤ 4000) (h4 : ns.length ≤ 4096) (hns : w.ownsRow b0 9 1 nv ns.length (ns.map Value.string)) (hop : n.op = 2) : Calls Try.prog 39 #[.pointer (some ⟨P, 0, none⟩), .agg #[.int .i64 n.op, .int .i64 n.a, .int .i64 n.b, .int .i64 n.c, .int .i64 n.num, .string n.text], nv] w (Lw.Made base P tv v w ((Lw.lay rec (Lw.form n) ns s).1, (Lw.lay rec (Lw.form n) ns s).2.headD 0)) := by
  obtain ⟨R, hR⟩ : ∃ R, R = ((Lw.lay rec (Lw.form n) ns s).1, (Lw.lay rec (Lw.form n) ns s).2.headD 0) := ⟨_, rfl⟩
  rw [← hR]
  rw [Lw.form_2 hop, Lw.lay_con] at hR
  have HR := hide hR
  obtain ⟨w0, hw0⟩ : ∃ w0, w0 = w.alloc (.cells #[.int .i64 2, .int .i64 n.a, .int .i64 n.b, .int .i64 n.c, .int .i64 n.num, .string n.text] 55) := ⟨_, rfl⟩
  have B0 : Below w.heap.size w w0 := by rw [hw0]; exact (Below.refl _ _).alloc (Nat.le_refl _) _
  have H0 := hide (h.below B0)
  have hB := (h.below B0).base
  have HNS := hide (show w0.ownsRow b0 9 1 nv ns.length (ns.map Value.string) by rw [hw0]; exact hns.alloc _)
  rw [hop]
  clear h hR hns hop
  go_enter Try.func39, Try.ntmps39
  go_wp2_with fail
  try rw [← hw0]
  clear hw0
  refine (l1Number_any n.num _).mono ?_
  rintro e wr ⟨r, rfl, hr, hb⟩
  obtain ⟨ra, rn, rc, rfl⟩ := hr.shape
  have HL := (unhide H0).below hb
  have BR : Below w.heap.size w wr := B0.trans (hb.mono B0.size)
  go_wp2_with fail
  refine (l6Put_ld base P tv v (.slice ra rn rc) s 2 0 0 0 0 [⟨3, n.num, ByteArray.empty, ByteArray.empty, 0⟩] wr HL (hr.mono hB) (by omega)).mono ?_
  rintro e w1 ⟨v1, rfl, l1, f1⟩
  obtain ⟨s1, e1⟩ : ∃ s1, s1 = s ++ [⟨2, 0, 0, 0, 0, [⟨3, n.num, ByteArray.empty, ByteArray.empty, 0⟩]⟩] := ⟨_, rfl⟩
  have L1 : Lw.Ld base P tv w1 v1 s1 := by rw [e1]; exact l1
  have n1 : s1.length ≤ s.length + 1 := by rw [e1]; simp only [List.length_append, List.length_cons, List.length_nil]; omega
  have E1 := hide e1
  clear e1 l1
  have F1 := f1
  go_wp2_with fail
  go_ret
  have e1 := unhide E1
  subst e1
  rw [unhide HR]
  exact ⟨v1, rfl, L1, F1.ahead BR⟩

set_option maxRecDepth 100000 in
set_option maxHeartbeats 4000000 in
theorem l6Leaf_3 (base P b0 : Nat) (tv v nv : Value) (rec : Lw.Rec) (ns : List ByteArray) (s : List Co) (n : Nd) (w : World) (h : Lw.Ld base P tv w v s) (hn : s.length ≤ 4000) (h4 : ns.length ≤ 4096) (hns : w.ownsRow b0 9 1 nv ns.length (ns.map Value.string)) (hop : n.op = 3) : Calls Try.prog 39 #[.pointer (some ⟨P, 0, none⟩), .agg #[.int .i64 n.op, .int .i64 n.a, .int .i64 n.b, .int .i64 n.c, .int .i64 n.num, .string n.text], nv] w (Lw.Made base P tv v w ((Lw.lay rec (Lw.form n) ns s).1, (Lw.lay rec (Lw.form n) ns s).2.headD 0)) := by
  obtain ⟨R, hR⟩ : ∃ R, R = ((Lw.lay rec (Lw.form n) ns s).1, (Lw.lay rec (Lw.form n) ns s).2.headD 0) := ⟨_, rfl⟩
  rw [← hR]
  rw [Lw.form_3 hop, Lw.lay_con] at hR
  have HR := hide hR
  obtain ⟨w0, hw0⟩ : ∃ w0, w0 = w.alloc (.cells #[.int .i64 3, .int .i64 n.a, .int .i64 n.b, .int .i64 n.c, .int .i64 n.num, .string n.text] 55) := ⟨_, rfl⟩
  have B0 : Below w.heap.size w w0 := by rw [hw0]; exact (Below.refl _ _).alloc (Nat.le_refl _) _
  have H0 := hide (h.below B0)
  have hB := (h.below B0).base
  have HNS := hide (show w0.ownsRow b0 9 1 nv ns.length (ns.map Value.string) by rw [hw0]; exact hns.alloc _)
  rw [hop]
  clear h hR hns hop
  go_enter Try.func39, Try.ntmps39
  go_wp2_with fail
  try rw [← hw0]
  clear hw0
  refine (l1String_any n.text _).mono ?_
  rintro e wr ⟨r, rfl, hr, hb⟩
  obtain ⟨ra, rn, rc, rfl⟩ := hr.shape
  have HL := (unhide H0).below hb
  have BR : Below w.heap.size w wr := B0.trans (hb.mono B0.size)
  go_wp2_with fail
  refine (l6Put_ld base P tv v (.slice ra rn rc) s 2 0 0 0 0 [⟨4, 0, n.text, ByteArray.empty, 0⟩] wr HL (hr.mono hB) (by omega)).mono ?_
  rintro e w1 ⟨v1, rfl, l1, f1⟩
  obtain ⟨s1, e1⟩ : ∃ s1, s1 = s ++ [⟨2, 0, 0, 0, 0, [⟨4, 0, n.text, ByteArray.empty, 0⟩]⟩] := ⟨_, rfl⟩
  have L1 : Lw.Ld base P tv w1 v1 s1 := by rw [e1]; exact l1
  have n1 : s1.length ≤ s.length + 1 := by rw [e1]; simp only [List.length_append, List.length_cons, List.length_nil]; omega
  have E1 := hide e1
  clear e1 l1
  have F1 := f1
  go_wp2_with fail
  go_ret
  have e1 := unhide E1
  subst e1
  rw [unhide HR]
  exact ⟨v1, rfl, L1, F1.ahead BR⟩

set_option maxRecDepth 100000 in
set_option maxHeartbeats 4000000 in
theorem l6Leaf_4 (base P b0 : Nat) (tv v nv : Value) (rec : Lw.Rec) (ns : List ByteArray) (s : List Co) (n : Nd) (w : World) (h : Lw.Ld base P tv w v s) (hn : s.length ≤ 4000) (h4 : ns.length ≤ 4096) (hns : w.ownsRow b0 9 1 nv ns.length (ns.map Value.string)) (hop : n.op = 4) : Calls Try.prog 39 #[.pointer (some ⟨P, 0, none⟩), .agg #[.int .i64 n.op, .int .i64 n.a, .int .i64 n.b, .int .i64 n.c, .int .i64 n.num, .string n.text], nv] w (Lw.Made base P tv v w ((Lw.lay rec (Lw.form n) ns s).1, (Lw.lay rec (Lw.form n) ns s).2.headD 0)) := by
  obtain ⟨R, hR⟩ : ∃ R, R = ((Lw.lay rec (Lw.form n) ns s).1, (Lw.lay rec (Lw.form n) ns s).2.headD 0) := ⟨_, rfl⟩
  rw [← hR]
  rw [Lw.form_4 hop, Lw.lay_con] at hR
  have HR := hide hR
  obtain ⟨w0, hw0⟩ : ∃ w0, w0 = w.alloc (.cells #[.int .i64 4, .int .i64 n.a, .int .i64 n.b, .int .i64 n.c, .int .i64 n.num, .string n.text] 55) := ⟨_, rfl⟩
  have B0 : Below w.heap.size w w0 := by rw [hw0]; exact (Below.refl _ _).alloc (Nat.le_refl _) _
  have H0 := hide (h.below B0)
  have hB := (h.below B0).base
  have HNS := hide (show w0.ownsRow b0 9 1 nv ns.length (ns.map Value.string) by rw [hw0]; exact hns.alloc _)
  rw [hop]
  clear h hR hns hop
  go_enter Try.func39, Try.ntmps39
  obtain ⟨wr, hwr⟩ : ∃ wr, wr = w0.alloc (.cells #[.int .i64 n.num, .int .i64 0, .string ByteArray.empty, .string ByteArray.empty, .int .i64 0] 120) := ⟨_, rfl⟩
  have hr : Res wr base (.slice (some ⟨w0.heap.size, 0, none⟩) 1 1) [Lw.kind n.num] := by rw [hwr]; exact one_cell w0 base w0.heap.size (Lw.kind n.num) rfl hB
  have hb : Below w0.heap.size w0 wr := by rw [hwr]; exact (Below.refl _ _).alloc (Nat.le_refl _) _
  have HL := (unhide H0).below hb
  have BR : Below w.heap.size w wr := B0.trans (hb.mono B0.size)
  have HRR := hide hr
  have HZ := hide (show w0.heap.size = w.heap.size + 1 by rw [hw0]; simp)
  go_wp2_with fail
  try rw [← hw0]
  try rw [show (w0.alloc (.cells #[.int .i64 n.num, .int .i64 0, .string { data := #[] }, .string { data := #[] }, .int .i64 0] 120)) = wr from hwr.symm]
  try rw [← unhide HZ]
  clear hw0 hwr
  go_wp2_with fail
  refine (l6Put_ld base P tv v (.slice (some ⟨w0.heap.size, 0, none⟩) 1 1) s 2 0 0 0 0 [Lw.kind n.num] wr HL (unhide HRR) (by omega)).mono ?_
  rintro e w1 ⟨v1, rfl, l1, f1⟩
  obtain ⟨s1, e1⟩ : ∃ s1, s1 = s ++ [⟨2, 0, 0, 0, 0, [Lw.kind n.num]⟩] := ⟨_, rfl⟩
  have L1 : Lw.Ld base P tv w1 v1 s1 := by rw [e1]; exact l1
  have n1 : s1.length ≤ s.length + 1 := by rw [e1]; simp only [List.length_append, List.length_cons, List.length_nil]; omega
  have E1 := hide e1
  clear e1 l1
  have F1 := f1
  go_wp2_with fail
  go_ret
  have e1 := unhide E1
  subst e1
  rw [unhide HR]
  exact ⟨v1, rfl, L1, F1.ahead BR⟩

set_option maxRecDepth 100000 in
set_option maxHeartbeats 4000000 in
theorem l6Leaf_15 (base P b0 : Nat) (tv v nv : Value) (rec : Lw.Rec) (ns : List ByteArray) (s : List Co) (n : Nd) (w : World) (h : Lw.Ld base P tv w v s) (hn : s.length ≤ 4000) (h4 : ns.length ≤ 4096) (hns : w.ownsRow b0 9 1 nv ns.length (ns.map Value.string)) (hop : n.op = 15) : Calls Try.prog 39 #[.pointer (some ⟨P, 0, none⟩), .agg #[.int .i64 n.op, .int .i64 n.a, .int .i64 n.b, .int .i64 n.c, .int .i64 n.num, .string n.text], nv] w (Lw.Made base P tv v w ((Lw.lay rec (Lw.form n) ns s).1, (Lw.lay rec (Lw.form n) ns s).2.headD 0)) := by
  obtain ⟨R, hR⟩ : ∃ R, R = ((Lw.lay rec (Lw.form n) ns s).1, (Lw.lay rec (Lw.form n) ns s).2.headD 0) := ⟨_, rfl⟩
  rw [← hR]
  rw [Lw.form_15 hop, Lw.lay_con] at hR
  have HR := hide hR
  obtain ⟨w0, hw0⟩ : ∃ w0, w0 = w.alloc (.cells #[.int .i64 15, .int .i64 n.a, .int .i64 n.b, .int .i64 n.c, .int .i64 n.num, .string n.text] 55) := ⟨_, rfl⟩
  have B0 : Below w.heap.size w w0 := by rw [hw0]; exact (Below.refl _ _).alloc (Nat.le_refl _) _
  have H0 := hide (h.below B0)
  have hB := (h.below B0).base
  have HNS := hide (show w0.ownsRow b0 9 1 nv ns.length (ns.map Value.string) by rw [hw0]; exact hns.alloc _)
  rw [hop]
  clear h hR hns hop
  go_enter Try.func39, Try.ntmps39
  obtain ⟨wr, hwr⟩ : ∃ wr, wr = w0.alloc (.cells #[.int .i64 5, .int .i64 0, .string ByteArray.empty, .string ByteArray.empty, .int .i64 0] 120) := ⟨_, rfl⟩
  have hr : Res wr base (.slice (some ⟨w0.heap.size, 0, none⟩) 1 1) [Lw.kind 5] := by rw [hwr]; exact one_cell w0 base w0.heap.size (Lw.kind 5) rfl hB
  have hb : Below w0.heap.size w0 wr := by rw [hwr]; exact (Below.refl _ _).alloc (Nat.le_refl _) _
  have HL := (unhide H0).below hb
  have BR : Below w.heap.size w wr := B0.trans (hb.mono B0.size)
  have HRR := hide hr
  have HZ := hide (show w0.heap.size = w.heap.size + 1 by rw [hw0]; simp)
  go_wp2_with fail
  try rw [← hw0]
  try rw [show (w0.alloc (.cells #[.int .i64 5, .int .i64 0, .string { data := #[] }, .string { data := #[] }, .int .i64 0] 120)) = wr from hwr.symm]
  try rw [← unhide HZ]
  clear hw0 hwr
  go_wp2_with fail
  refine (l6Put_ld base P tv v (.slice (some ⟨w0.heap.size, 0, none⟩) 1 1) s 2 0 0 0 0 [Lw.kind 5] wr HL (unhide HRR) (by omega)).mono ?_
  rintro e w1 ⟨v1, rfl, l1, f1⟩
  obtain ⟨s1, e1⟩ : ∃ s1, s1 = s ++ [⟨2, 0, 0, 0, 0, [Lw.kind 5]⟩] := ⟨_, rfl⟩
  have L1 : Lw.Ld base P tv w1 v1 s1 := by rw [e1]; exact l1
  have n1 : s1.length ≤ s.length + 1 := by rw [e1]; simp only [List.length_append, List.length_cons, List.length_nil]; omega
  have E1 := hide e1
  clear e1 l1
  have F1 := f1
  go_wp2_with fail
  go_ret
  have e1 := unhide E1
  subst e1
  rw [unhide HR]
  exact ⟨v1, rfl, L1, F1.ahead BR⟩

set_option maxRecDepth 100000 in
set_option maxHeartbeats 4000000 in
theorem l6Leaf_16 (base P b0 : Nat) (tv v nv : Value) (rec : Lw.Rec) (ns : List ByteArray) (s : List Co) (n : Nd) (w : World) (h : Lw.Ld base P tv w v s) (hn : s.length ≤ 4000) (h4 : ns.length ≤ 4096) (hns : w.ownsRow b0 9 1 nv ns.length (ns.map Value.string)) (hop : n.op = 16) : Calls Try.prog 39 #[.pointer (some ⟨P, 0, none⟩), .agg #[.int .i64 n.op, .int .i64 n.a, .int .i64 n.b, .int .i64 n.c, .int .i64 n.num, .string n.text], nv] w (Lw.Made base P tv v w ((Lw.lay rec (Lw.form n) ns s).1, (Lw.lay rec (Lw.form n) ns s).2.headD 0)) := by
  obtain ⟨R, hR⟩ : ∃ R, R = ((Lw.lay rec (Lw.form n) ns s).1, (Lw.lay rec (Lw.form n) ns s).2.headD 0) := ⟨_, rfl⟩
  rw [← hR]
  rw [Lw.form_16 hop, Lw.lay_con] at hR
  have HR := hide hR
  obtain ⟨w0, hw0⟩ : ∃ w0, w0 = w.alloc (.cells #[.int .i64 16, .int .i64 n.a, .int .i64 n.b, .int .i64 n.c, .int .i64 n.num, .string n.text] 55) := ⟨_, rfl⟩
  have B0 : Below w.heap.size w w0 := by rw [hw0]; exact (Below.refl _ _).alloc (Nat.le_refl _) _
  have H0 := hide (h.below B0)
  have hB := (h.below B0).base
  have HNS := hide (show w0.ownsRow b0 9 1 nv ns.length (ns.map Value.string) by rw [hw0]; exact hns.alloc _)
  rw [hop]
  clear h hR hns hop
  go_enter Try.func39, Try.ntmps39
  obtain ⟨wr, hwr⟩ : ∃ wr, wr = w0.alloc (.cells #[.int .i64 6, .int .i64 0, .string ByteArray.empty, .string ByteArray.empty, .int .i64 0] 120) := ⟨_, rfl⟩
  have hr : Res wr base (.slice (some ⟨w0.heap.size, 0, none⟩) 1 1) [Lw.kind 6] := by rw [hwr]; exact one_cell w0 base w0.heap.size (Lw.kind 6) rfl hB
  have hb : Below w0.heap.size w0 wr := by rw [hwr]; exact (Below.refl _ _).alloc (Nat.le_refl _) _
  have HL := (unhide H0).below hb
  have BR : Below w.heap.size w wr := B0.trans (hb.mono B0.size)
  have HRR := hide hr
  have HZ := hide (show w0.heap.size = w.heap.size + 1 by rw [hw0]; simp)
  go_wp2_with fail
  try rw [← hw0]
  try rw [show (w0.alloc (.cells #[.int .i64 6, .int .i64 0, .string { data := #[] }, .string { data := #[] }, .int .i64 0] 120)) = wr from hwr.symm]
  try rw [← unhide HZ]
  clear hw0 hwr
  go_wp2_with fail
  refine (l6Put_ld base P tv v (.slice (some ⟨w0.heap.size, 0, none⟩) 1 1) s 2 0 0 0 0 [Lw.kind 6] wr HL (unhide HRR) (by omega)).mono ?_
  rintro e w1 ⟨v1, rfl, l1, f1⟩
  obtain ⟨s1, e1⟩ : ∃ s1, s1 = s ++ [⟨2, 0, 0, 0, 0, [Lw.kind 6]⟩] := ⟨_, rfl⟩
  have L1 : Lw.Ld base P tv w1 v1 s1 := by rw [e1]; exact l1
  have n1 : s1.length ≤ s.length + 1 := by rw [e1]; simp only [List.length_append, List.length_cons, List.length_nil]; omega
  have E1 := hide e1
  clear e1 l1
  have F1 := f1
  go_wp2_with fail
  go_ret
  have e1 := unhide E1
  subst e1
  rw [unhide HR]
  exact ⟨v1, rfl, L1, F1.ahead BR⟩

set_option maxRecDepth 100000 in
set_option maxHeartbeats 4000000 in
theorem l6Leaf_24 (base P b0 : Nat) (tv v nv : Value) (rec : Lw.Rec) (ns : List ByteArray) (s : List Co) (n : Nd) (w : World) (h : Lw.Ld base P tv w v s) (hn : s.length ≤ 4000) (h4 : ns.length ≤ 4096) (hns : w.ownsRow b0 9 1 nv ns.length (ns.map Value.string)) (hop : n.op = 24) : Calls Try.prog 39 #[.pointer (some ⟨P, 0, none⟩), .agg #[.int .i64 n.op, .int .i64 n.a, .int .i64 n.b, .int .i64 n.c, .int .i64 n.num, .string n.text], nv] w (Lw.Made base P tv v w ((Lw.lay rec (Lw.form n) ns s).1, (Lw.lay rec (Lw.form n) ns s).2.headD 0)) := by
  obtain ⟨R, hR⟩ : ∃ R, R = ((Lw.lay rec (Lw.form n) ns s).1, (Lw.lay rec (Lw.form n) ns s).2.headD 0) := ⟨_, rfl⟩
  rw [← hR]
  rw [Lw.form_24 hop, Lw.lay_deep] at hR
  have HR := hide hR
  obtain ⟨w0, hw0⟩ : ∃ w0, w0 = w.alloc (.cells #[.int .i64 24, .int .i64 n.a, .int .i64 n.b, .int .i64 n.c, .int .i64 n.num, .string n.text] 55) := ⟨_, rfl⟩
  have B0 : Below w.heap.size w w0 := by rw [hw0]; exact (Below.refl _ _).alloc (Nat.le_refl _) _
  have H0 := hide (h.below B0)
  have hB := (h.below B0).base
  have HNS := hide (show w0.ownsRow b0 9 1 nv ns.length (ns.map Value.string) by rw [hw0]; exact hns.alloc _)
  rw [hop]
  clear h hR hns hop
  go_enter Try.func39, Try.ntmps39
  go_wp2_with fail
  try rw [← hw0]
  clear hw0
  refine (l6Put_ld base P tv v (.slice none 0 0) s 16 0 0 0 7 [] w0 (unhide H0) (Lw.res_nil _ _) (by omega)).mono ?_
  rintro e w1 ⟨v1, rfl, l1, f1⟩
  obtain ⟨s1, e1⟩ : ∃ s1, s1 = s ++ [⟨16, 0, 0, 0, 7, []⟩] := ⟨_, rfl⟩
  have L1 : Lw.Ld base P tv w1 v1 s1 := by rw [e1]; exact l1
  have n1 : s1.length ≤ s.length + 1 := by rw [e1]; simp only [List.length_append, List.length_cons, List.length_nil]; omega
  have E1 := hide e1
  clear e1 l1
  have F1 := f1
  go_wp2_with fail
  refine (l6Put_ld base P tv v1 (.slice none 0 0) s1 8 (s.length : Int) 0 0 0 [] w1 L1 (Lw.res_nil _ _) (by omega)).mono ?_
  rintro e w2 ⟨v2, rfl, l2, f2⟩
  obtain ⟨s2, e2⟩ : ∃ s2, s2 = s1 ++ [⟨8, (s.length : Int), 0, 0, 0, []⟩] := ⟨_, rfl⟩
  have L2 : Lw.Ld base P tv w2 v2 s2 := by rw [e2]; exact l2
  have n2 : s2.length ≤ s1.length + 1 := by rw [e2]; simp only [List.length_append, List.length_cons, List.length_nil]; omega
  have E2 := hide e2
  clear e2 l2
  have F2 := F1.trans f2
  go_wp2_with fail
  go_ret
  have e1 := unhide E1
  have e2 := unhide E2
  subst e2 e1
  rw [unhide HR]
  exact ⟨v2, rfl, L2, F2.ahead B0⟩

set_option maxRecDepth 100000 in
set_option maxHeartbeats 4000000 in
theorem l6Leaf_21 (base P b0 : Nat) (tv v nv : Value) (rec : Lw.Rec) (ns : List ByteArray) (s : List Co) (n : Nd) (w : World) (h : Lw.Ld base P tv w v s) (hn : s.length ≤ 4000) (h4 : ns.length ≤ 4096) (hns : w.ownsRow b0 9 1 nv ns.length (ns.map Value.string)) (hop : n.op = 21) : Calls Try.prog 39 #[.pointer (some ⟨P, 0, none⟩), .agg #[.int .i64 n.op, .int .i64 n.a, .int .i64 n.b, .int .i64 n.c, .int .i64 n.num, .string n.text], nv] w (Lw.Made base P tv v w ((Lw.lay rec (Lw.form n) ns s).1, (Lw.lay rec (Lw.form n) ns s).2.headD 0)) := by
  obtain ⟨R, hR⟩ : ∃ R, R = ((Lw.lay rec (Lw.form n) ns s).1, (Lw.lay rec (Lw.form n) ns s).2.headD 0) := ⟨_, rfl⟩
  rw [← hR]
  rw [Lw.form_21 hop, Lw.lay_var] at hR
  have HR := hide hR
  obtain ⟨w0, hw0⟩ : ∃ w0, w0 = w.alloc (.cells #[.int .i64 21, .int .i64 n.a, .int .i64 n.b, .int .i64 n.c, .int .i64 n.num, .string n.text] 55) := ⟨_, rfl⟩
  have B0 : Below w.heap.size w w0 := by rw [hw0]; exact (Below.refl _ _).alloc (Nat.le_refl _) _
  have H0 := hide (h.below B0)
  have hB := (h.below B0).base
  have HNS := hide (show w0.ownsRow b0 9 1 nv ns.length (ns.map Value.string) by rw [hw0]; exact hns.alloc _)
  rw [hop]
  clear h hR hns hop
  go_enter Try.func39, Try.ntmps39
  go_wp2_with fail
  try rw [← hw0]
  clear hw0
  refine (l6Slot_any b0 nv ns n.text _ h4 (unhide HNS)).mono ?_
  rintro e wr ⟨rfl, hwr⟩
  subst hwr
  go_wp2_with fail
  refine (l6Put_ld base P tv v (.slice none 0 0) s 15 0 0 0 (Lw.slot ns n.text : Int) [] wr (unhide H0) (Lw.res_nil _ _) (by omega)).mono ?_
  rintro e w1 ⟨v1, rfl, l1, f1⟩
  obtain ⟨s1, e1⟩ : ∃ s1, s1 = s ++ [⟨15, 0, 0, 0, (Lw.slot ns n.text : Int), []⟩] := ⟨_, rfl⟩
  have L1 : Lw.Ld base P tv w1 v1 s1 := by rw [e1]; exact l1
  have n1 : s1.length ≤ s.length + 1 := by rw [e1]; simp only [List.length_append, List.length_cons, List.length_nil]; omega
  have E1 := hide e1
  clear e1 l1
  have F1 := f1
  go_wp2_with fail
  go_ret
  have e1 := unhide E1
  subst e1
  rw [unhide HR]
  exact ⟨v1, rfl, L1, F1.ahead B0⟩

set_option maxRecDepth 100000 in
set_option maxHeartbeats 4000000 in
theorem l6Leaf_22 (base P b0 : Nat) (tv v nv : Value) (rec : Lw.Rec) (ns : List ByteArray) (s : List Co) (n : Nd) (w : World) (h : Lw.Ld base P tv w v s) (hn : s.length ≤ 4000) (h4 : ns.length ≤ 4096) (hns : w.ownsRow b0 9 1 nv ns.length (ns.map Value.string)) (hop : n.op = 22) : Calls Try.prog 39 #[.pointer (some ⟨P, 0, none⟩), .agg #[.int .i64 n.op, .int .i64 n.a, .int .i64 n.b, .int .i64 n.c, .int .i64 n.num, .string n.text], nv] w (Lw.Made base P tv v w ((Lw.lay rec (Lw.form n) ns s).1, (Lw.lay rec (Lw.form n) ns s).2.headD 0)) := by
  obtain ⟨R, hR⟩ : ∃ R, R = ((Lw.lay rec (Lw.form n) ns s).1, (Lw.lay rec (Lw.form n) ns s).2.headD 0) := ⟨_, rfl⟩
  rw [← hR]
  rw [Lw.form_22 hop] at hR
  have HR := hide hR
  obtain ⟨w0, hw0⟩ : ∃ w0, w0 = w.alloc (.cells #[.int .i64 22, .int .i64 n.a, .int .i64 n.b, .int .i64 n.c, .int .i64 n.num, .string n.text] 55) := ⟨_, rfl⟩
  have B0 : Below w.heap.size w w0 := by rw [hw0]; exact (Below.refl _ _).alloc (Nat.le_refl _) _
  have H0 := hide (h.below B0)
  have hB := (h.below B0).base
  have HNS := hide (show w0.ownsRow b0 9 1 nv ns.length (ns.map Value.string) by rw [hw0]; exact hns.alloc _)
  rw [hop]
  clear h hR hns hop
  go_enter Try.func39, Try.ntmps39
  go_wp2_with fail
  try rw [← hw0]
  clear hw0
  refine (l6Call_ld base P tv v rec ns s n.text _ (unhide H0) hn).mono ?_
  rintro e w1 ⟨v1, he, L1, F1⟩
  obtain ⟨q, hq⟩ : ∃ q, q = (Lw.lay rec (Lw.call n.text) ns s).2.headD 0 := ⟨_, rfl⟩
  have he2 : e = .returned (.int .i64 q) := by rw [hq]; exact he
  have HQ := hide hq
  subst he2
  clear he hq
  go_wp2_with fail
  go_ret
  rw [unhide HR]
  exact ⟨v1, by (show Ending.returned (.int .i64 q) = _; rw [unhide HQ]), L1, F1.ahead B0⟩

theorem l6Leaf_ld (base P b0 : Nat) (tv v nv : Value) (rec : Lw.Rec) (ns : List ByteArray) (s : List Co) (n : Nd) (w : World) (h : Lw.Ld base P tv w v s) (hn : s.length ≤ 4000) (h4 : ns.length ≤ 4096) (hns : w.ownsRow b0 9 1 nv ns.length (ns.map Value.string)) (hop : n.op = 1 ∨ n.op = 2 ∨ n.op = 3 ∨ n.op = 4 ∨ n.op = 15 ∨ n.op = 16 ∨ n.op = 24 ∨ n.op = 21 ∨ n.op = 22) : Calls Try.prog 39 #[.pointer (some ⟨P, 0, none⟩), .agg #[.int .i64 n.op, .int .i64 n.a, .int .i64 n.b, .int .i64 n.c, .int .i64 n.num, .string n.text], nv] w (Lw.Made base P tv v w ((Lw.lay rec (Lw.form n) ns s).1, (Lw.lay rec (Lw.form n) ns s).2.headD 0)) := by
  rcases hop with q | q | q | q | q | q | q | q | q
  · exact l6Leaf_1 base P b0 tv v nv rec ns s n w h hn h4 hns q
  · exact l6Leaf_2 base P b0 tv v nv rec ns s n w h hn h4 hns q
  · exact l6Leaf_3 base P b0 tv v nv rec ns s n w h hn h4 hns q
  · exact l6Leaf_4 base P b0 tv v nv rec ns s n w h hn h4 hns q
  · exact l6Leaf_15 base P b0 tv v nv rec ns s n w h hn h4 hns q
  · exact l6Leaf_16 base P b0 tv v nv rec ns s n w h hn h4 hns q
  · exact l6Leaf_24 base P b0 tv v nv rec ns s n w h hn h4 hns q
  · exact l6Leaf_21 base P b0 tv v nv rec ns s n w h hn h4 hns q
  · exact l6Leaf_22 base P b0 tv v nv rec ns s n w h hn h4 hns q

end Go.Proofs.Ytmbefapdckhjdaa

namespace Go.Proofs.Ytmbefapdckhjdaa
open Go.RowKit
set_option linter.unusedVariables false
set_option linter.unusedSimpArgs false


namespace Lw
theorem Ld.typed {base P : Nat} {tv v : Value} {w : World} {s : List Co} (h : Ld base P tv w v s) {c : Nat} {t : TypeId} {cur : Array Value} (hc : w.heap[c]? = some (.cells cur t (0, 0))) (h1 : t ≠ 52) (h2 : t ≠ 82) : c ≠ P ∧ v.ownBlock ≠ some c := by
  obtain ⟨q1, q2, cs, q3, q4⟩ := h
  constructor
  · intro e
    obtain ⟨r, q, _⟩ := q1
    rw [← e, hc] at q
    simp only [Option.some.injEq, Obj.cells.injEq] at q
    exact h1 q.2.1
  · exact q4.ne (t := t) (xs := cur.toList) ⟨cur, hc, rfl⟩ h2
theorem Ld.keep {base P : Nat} {tv v v' : Value} {w w' : World} {s : List Co} (h : Ld base P tv w v s) (f : Fr P v v' w w') {c : Nat} {t : TypeId} {xs : List Value} (ho : Own w c t xs) (h1 : t ≠ 52) (h2 : t ≠ 82) : Own w' c t xs := by
  have ho2 := ho
  obtain ⟨cur, hc, _⟩ := ho2
  exact f.kept ho (h.typed hc h1 h2).1 (h.typed hc h1 h2).2
theorem Ld.names {base P : Nat} {tv v v' : Value} {w w' : World} {s : List Co} (h : Ld base P tv w v s) (f : Fr P v v' w w') {b0 : Nat} {nv : Value} {n : Nat} {xs : List Value} (ho : w.ownsRow b0 9 1 nv n xs) : w'.ownsRow b0 9 1 nv n xs := by
  obtain ⟨h1, h2 | ⟨g, cap, cur, h4, hg, hh, h5⟩⟩ := ho
  · exact ⟨h1, .inl h2⟩
  · have ht := h.typed hh (by decide) (by decide)
    exact ⟨h1, .inr ⟨g, cap, cur, h4, hg, (f.block g (Array.getElem?_eq_some_iff.1 hh).1 ht.1 ht.2).trans hh, h5⟩⟩
theorem Ld.frame {base P : Nat} {tv v v' : Value} {w w' : World} {s : List Co} (h : Ld base P tv w v s) (f : Fr P v v' w w') : Below base w w' := by
  have hB := h.base
  obtain ⟨q1, q2, cs, q3, q4⟩ := h
  exact f.below q2 (fun b hb => (q4.typed hb).1) hB
theorem lay_map (rec : Rec) (n : Nd) (ns : List ByteArray) (s : List Co) : lay rec (over 10 (l1 (over 3 (l2 (over 8 (l1 (over 1 .nil))) (.tree n.a))))) ns s = (((rec n.a ns ((s ++ [(⟨1, 0, 0, 0, 0, []⟩ : Co)]) ++ [(⟨8, (s.length : Int), 0, 0, 0, []⟩ : Co)])).1 ++ [(⟨3, ((s ++ [(⟨1, 0, 0, 0, 0, []⟩ : Co)]).length : Int), (rec n.a ns ((s ++ [(⟨1, 0, 0, 0, 0, []⟩ : Co)]) ++ [(⟨8, (s.length : Int), 0, 0, 0, []⟩ : Co)])).2, 0, 0, []⟩ : Co)]) ++ [⟨10, ((rec n.a ns ((s ++ [(⟨1, 0, 0, 0, 0, []⟩ : Co)]) ++ [(⟨8, (s.length : Int), 0, 0, 0, []⟩ : Co)])).1.length : Int), 0, 0, 0, []⟩], [(((rec n.a ns ((s ++ [(⟨1, 0, 0, 0, 0, []⟩ : Co)]) ++ [(⟨8, (s.length : Int), 0, 0, 0, []⟩ : Co)])).1 ++ [(⟨3, ((s ++ [(⟨1, 0, 0, 0, 0, []⟩ : Co)]).length : Int), (rec n.a ns ((s ++ [(⟨1, 0, 0, 0, 0, []⟩ : Co)]) ++ [(⟨8, (s.length : Int), 0, 0, 0, []⟩ : Co)])).2, 0, 0, []⟩ : Co)]).length : Int)]) := rfl
theorem lay_select (rec : Rec) (n : Nd) (ns : List ByteArray) (s : List Co) : lay rec (over 12 (l3 (.tree n.a) (over 1 .nil) (over 17 .nil))) ns s = ((((rec n.a ns (s)).1 ++ [(⟨1, 0, 0, 0, 0, []⟩ : Co)]) ++ [(⟨17, 0, 0, 0, 0, []⟩ : Co)]) ++ [⟨12, (rec n.a ns (s)).2, ((rec n.a ns (s)).1.length : Int), (((rec n.a ns (s)).1 ++ [(⟨1, 0, 0, 0, 0, []⟩ : Co)]).length : Int), 0, []⟩], [((((rec n.a ns (s)).1 ++ [(⟨1, 0, 0, 0, 0, []⟩ : Co)]) ++ [(⟨17, 0, 0, 0, 0, []⟩ : Co)]).length : Int)]) := rfl
theorem lay_range (rec : Rec) (n : Nd) (ns : List ByteArray) (s : List Co) : lay rec (over 3 (l2 (.tree n.a) (over 8 (l1 (done 6))))) ns s = ((((rec n.a ns (s)).1 ++ [(⟨16, 0, 0, 0, 6, []⟩ : Co)]) ++ [(⟨8, ((rec n.a ns (s)).1.length : Int), 0, 0, 0, []⟩ : Co)]) ++ [⟨3, (rec n.a ns (s)).2, (((rec n.a ns (s)).1 ++ [(⟨16, 0, 0, 0, 6, []⟩ : Co)]).length : Int), 0, 0, []⟩], [((((rec n.a ns (s)).1 ++ [(⟨16, 0, 0, 0, 6, []⟩ : Co)]) ++ [(⟨8, ((rec n.a ns (s)).1.length : Int), 0, 0, 0, []⟩ : Co)]).length : Int)]) := rfl
/-- l6One lays at a place what rec says, wherever what is asked of the world holds. -/
def Says (base P : Nat) (tv nv : Value) (b0 : Nat) (ns : List ByteArray) (T : World → Prop) (rec : Rec) (m : Nat) (i : Int) : Prop :=
  ∀ (v : Value) (s : List Co) (w : World), Ld base P tv w v s → w.ownsRow b0 9 1 nv ns.length (ns.map Value.string) → T w → s.length + m ≤ 3000 → Calls Try.prog 21 #[.pointer (some ⟨P, 0, none⟩), .int .i64 i, nv] w (Made base P tv v w (rec i ns s)) ∧ (rec i ns s).1.length ≤ s.length + m
end Lw

set_option maxRecDepth 100000 in
set_option maxHeartbeats 4000000 in
theorem l6CallOne_0 (base P b0 m : Nat) (tv v nv : Value) (rec : Lw.Rec) (ns : List ByteArray) (s : List Co) (n : Nd) (T : World → Prop) (hT : ∀ x y, Below base x y → T x → T y) (w : World) (h : Lw.Ld base P tv w v s) (hn : s.length + m ≤ 2995) (hns : w.ownsRow b0 9 1 nv ns.length (ns.map Value.string)) (hw : T w) (hS : Lw.Says base P tv nv b0 ns T rec m n.a) (h0 : n.text = ⟨#[109, 97, 112]⟩) : Calls Try.prog 40 #[.pointer (some ⟨P, 0, none⟩), .agg #[.int .i64 n.op, .int .i64 n.a, .int .i64 n.b, .int .i64 n.c, .int .i64 n.num, .string n.text], nv] w (Lw.Made base P tv v w ((Lw.lay rec (Lw.callOne n.text (.tree n.a)) ns s).1, (Lw.lay rec (Lw.callOne n.text (.tree n.a)) ns s).2.headD 0)) := by
  obtain ⟨R, hR⟩ : ∃ R, R = ((Lw.lay rec (Lw.callOne n.text (.tree n.a)) ns s).1, (Lw.lay rec (Lw.callOne n.text (.tree n.a)) ns s).2.headD 0) := ⟨_, rfl⟩
  rw [← hR]
  rw [show Lw.callOne n.text (.tree n.a) = _ by unfold Lw.callOne; rw [if_pos h0], Lw.lay_map] at hR
  have HR := hide hR
  have HS := hide hS
  obtain ⟨w0, hw0⟩ : ∃ w0, w0 = w.alloc (.cells #[.int .i64 n.op, .int .i64 n.a, .int .i64 n.b, .int .i64 n.c, .int .i64 n.num, .string n.text] 55) := ⟨_, rfl⟩
  have B0 : Below w.heap.size w w0 := by rw [hw0]; exact (Below.refl _ _).alloc (Nat.le_refl _) _
  have L0 := h.below B0
  have N0 : w0.ownsRow b0 9 1 nv ns.length (ns.map Value.string) := by rw [hw0]; exact hns.alloc _
  have T0 := hT _ _ (B0.mono h.base) hw
  have X0 : Own w0 w.heap.size 55 [.int .i64 n.op, .int .i64 n.a, .int .i64 n.b, .int .i64 n.c, .int .i64 n.num, .string n.text] := by rw [hw0]; exact ⟨_, heap_alloc_new _ _, rfl⟩
  have g0 : (n.text.toList == [109, 97, 112]) = true := Lw.lit_eq [109, 97, 112] h0
  clear h hR hns hS hw h0
  go_enter Try.func40, Try.ntmps40
  go_wp2_with fail
  try rw [← hw0]
  clear hw0
  refine (l6Put_ld base P tv v (.slice none 0 0) s 1 0 0 0 0 [] w0 L0 (Lw.res_nil _ _) (by omega)).mono ?_
  rintro e w1 ⟨v1, rfl, l1, f1⟩
  obtain ⟨s1, e1⟩ : ∃ s1, s1 = s ++ [⟨1, 0, 0, 0, 0, []⟩] := ⟨_, rfl⟩
  have L1 : Lw.Ld base P tv w1 v1 s1 := by rw [e1]; exact l1
  have n1 : s1.length ≤ s.length + 1 := by rw [e1]; simp only [List.length_append, List.length_cons, List.length_nil]; omega
  have E1 := hide e1
  clear e1 l1
  have F1 := f1
  have N1 := L0.names f1 N0
  have T1 := hT _ _ (L0.frame f1) T0
  have X1 := L0.keep f1 X0 (by decide) (by decide)
  go_wp2_with fail
  refine (l6Put_ld base P tv v1 (.slice none 0 0) s1 8 (s.length : Int) 0 0 0 [] w1 L1 (Lw.res_nil _ _) (by omega)).mono ?_
  rintro e w2 ⟨v2, rfl, l2, f2⟩
  obtain ⟨s2, e2⟩ : ∃ s2, s2 = s1 ++ [⟨8, (s.length : Int), 0, 0, 0, []⟩] := ⟨_, rfl⟩
  have L2 : Lw.Ld base P tv w2 v2 s2 := by rw [e2]; exact l2
  have n2 : s2.length ≤ s1.length + 1 := by rw [e2]; simp only [List.length_append, List.length_cons, List.length_nil]; omega
  have E2 := hide e2
  clear e2 l2
  have F2 := F1.trans f2
  have N2 := L1.names f2 N1
  have T2 := hT _ _ (L1.frame f2) T1
  have X2 := L1.keep f2 X1 (by decide) (by decide)
  have x3 := X2.cell 1
  simp only [List.getElem?_cons_zero, List.getElem?_cons_succ] at x3
  have c3 := hide ((unhide HS) v2 s2 w2 L2 N2 T2 (by omega))
  go_wp2_with fail
  refine (unhide c3).1.mono ?_
  rintro e w3 ⟨v3, he3, l3, f3⟩
  have n3 := (unhide c3).2
  obtain ⟨q3, hq3⟩ : ∃ q, q = (rec n.a ns s2).2 := ⟨_, rfl⟩
  rw [← hq3] at he3
  subst he3
  obtain ⟨s3, e3⟩ : ∃ sx, sx = (rec n.a ns s2).1 := ⟨_, rfl⟩
  rw [← e3] at l3 n3
  have L3 := l3
  have E3 := hide e3
  have Q3 := hide hq3
  clear e3 l3 hq3 c3 x3
  have F3 := F2.trans f3
  have N3 := L2.names f3 N2
  have T3 := hT _ _ (L2.frame f3) T2
  have X3 := L2.keep f3 X2 (by decide) (by decide)
  go_wp2_with fail
  refine (l6Put_ld base P tv v3 (.slice none 0 0) s3 3 (s1.length : Int) q3 0 0 [] w3 L3 (Lw.res_nil _ _) (by omega)).mono ?_
  rintro e w4 ⟨v4, rfl, l4, f4⟩
  obtain ⟨s4, e4⟩ : ∃ s4, s4 = s3 ++ [⟨3, (s1.length : Int), q3, 0, 0, []⟩] := ⟨_, rfl⟩
  have L4 : Lw.Ld base P tv w4 v4 s4 := by rw [e4]; exact l4
  have n4 : s4.length ≤ s3.length + 1 := by rw [e4]; simp only [List.length_append, List.length_cons, List.length_nil]; omega
  have E4 := hide e4
  clear e4 l4
  have F4 := F3.trans f4
  have N4 := L3.names f4 N3
  have T4 := hT _ _ (L3.frame f4) T3
  have X4 := L3.keep f4 X3 (by decide) (by decide)
  go_wp2_with fail
  refine (l6Put_ld base P tv v4 (.slice none 0 0) s4 10 (s3.length : Int) 0 0 0 [] w4 L4 (Lw.res_nil _ _) (by omega)).mono ?_
  rintro e w5 ⟨v5, rfl, l5, f5⟩
  obtain ⟨s5, e5⟩ : ∃ s5, s5 = s4 ++ [⟨10, (s3.length : Int), 0, 0, 0, []⟩] := ⟨_, rfl⟩
  have L5 : Lw.Ld base P tv w5 v5 s5 := by rw [e5]; exact l5
  have n5 : s5.length ≤ s4.length + 1 := by rw [e5]; simp only [List.length_append, List.length_cons, List.length_nil]; omega
  have E5 := hide e5
  clear e5 l5
  have F5 := F4.trans f5
  have N5 := L4.names f5 N4
  have T5 := hT _ _ (L4.frame f5) T4
  have X5 := L4.keep f5 X4 (by decide) (by decide)
  go_wp2_with fail
  go_ret
  have e1 := unhide E1
  have e2 := unhide E2
  have e3 := unhide E3
  have e4 := unhide E4
  have e5 := unhide E5
  have hq3 := unhide Q3
  subst e5 e4 hq3 e3 e2 e1
  rw [unhide HR]
  exact ⟨v5, rfl, L5, F5.ahead B0⟩

set_option maxRecDepth 100000 in
set_option maxHeartbeats 4000000 in
theorem l6CallOne_1 (base P b0 m : Nat) (tv v nv : Value) (rec : Lw.Rec) (ns : List ByteArray) (s : List Co) (n : Nd) (T : World → Prop) (hT : ∀ x y, Below base x y → T x → T y) (w : World) (h : Lw.Ld base P tv w v s) (hn : s.length + m ≤ 2995) (hns : w.ownsRow b0 9 1 nv ns.length (ns.map Value.string)) (hw : T w) (hS : Lw.Says base P tv nv b0 ns T rec m n.a) (h0 : n.text ≠ ⟨#[109, 97, 112]⟩) (h1 : n.text = ⟨#[115, 101, 108, 101, 99, 116]⟩) : Calls Try.prog 40 #[.pointer (some ⟨P, 0, none⟩), .agg #[.int .i64 n.op, .int .i64 n.a, .int .i64 n.b, .int .i64 n.c, .int .i64 n.num, .string n.text], nv] w (Lw.Made base P tv v w ((Lw.lay rec (Lw.callOne n.text (.tree n.a)) ns s).1, (Lw.lay rec (Lw.callOne n.text (.tree n.a)) ns s).2.headD 0)) := by
  obtain ⟨R, hR⟩ : ∃ R, R = ((Lw.lay rec (Lw.callOne n.text (.tree n.a)) ns s).1, (Lw.lay rec (Lw.callOne n.text (.tree n.a)) ns s).2.headD 0) := ⟨_, rfl⟩
  rw [← hR]
  rw [show Lw.callOne n.text (.tree n.a) = _ by unfold Lw.callOne; rw [if_neg h0, if_pos h1], Lw.lay_select] at hR
  have HR := hide hR
  have HS := hide hS
  obtain ⟨w0, hw0⟩ : ∃ w0, w0 = w.alloc (.cells #[.int .i64 n.op, .int .i64 n.a, .int .i64 n.b, .int .i64 n.c, .int .i64 n.num, .string n.text] 55) := ⟨_, rfl⟩
  have B0 : Below w.heap.size w w0 := by rw [hw0]; exact (Below.refl _ _).alloc (Nat.le_refl _) _
  have L0 := h.below B0
  have N0 : w0.ownsRow b0 9 1 nv ns.length (ns.map Value.string) := by rw [hw0]; exact hns.alloc _
  have T0 := hT _ _ (B0.mono h.base) hw
  have X0 : Own w0 w.heap.size 55 [.int .i64 n.op, .int .i64 n.a, .int .i64 n.b, .int .i64 n.c, .int .i64 n.num, .string n.text] := by rw [hw0]; exact ⟨_, heap_alloc_new _ _, rfl⟩
  have g0 : (n.text.toList == [109, 97, 112]) = false := Lw.lit_ne [109, 97, 112] h0
  have g1 : (n.text.toList == [115, 101, 108, 101, 99, 116]) = true := Lw.lit_eq [115, 101, 108, 101, 99, 116] h1
  clear h hR hns hS hw h0 h1
  go_enter Try.func40, Try.ntmps40
  have x1 := X0.cell 1
  simp only [List.getElem?_cons_zero, List.getElem?_cons_succ] at x1
  have c1 := hide ((unhide HS) v s w0 L0 N0 T0 (by omega))
  go_wp2_with fail
  try rw [← hw0]
  clear hw0
  refine (unhide c1).1.mono ?_
  rintro e w1 ⟨v1, he1, l1, f1⟩
  have n1 := (unhide c1).2
  obtain ⟨q1, hq1⟩ : ∃ q, q = (rec n.a ns s).2 := ⟨_, rfl⟩
  rw [← hq1] at he1
  subst he1
  obtain ⟨s1, e1⟩ : ∃ sx, sx = (rec n.a ns s).1 := ⟨_, rfl⟩
  rw [← e1] at l1 n1
  have L1 := l1
  have E1 := hide e1
  have Q1 := hide hq1
  clear e1 l1 hq1 c1 x1
  have F1 := f1
  have N1 := L0.names f1 N0
  have T1 := hT _ _ (L0.frame f1) T0
  have X1 := L0.keep f1 X0 (by decide) (by decide)
  go_wp2_with fail
  refine (l6Put_ld base P tv v1 (.slice none 0 0) s1 1 0 0 0 0 [] w1 L1 (Lw.res_nil _ _) (by omega)).mono ?_
  rintro e w2 ⟨v2, rfl, l2, f2⟩
  obtain ⟨s2, e2⟩ : ∃ s2, s2 = s1 ++ [⟨1, 0, 0, 0, 0, []⟩] := ⟨_, rfl⟩
  have L2 : Lw.Ld base P tv w2 v2 s2 := by rw [e2]; exact l2
  have n2 : s2.length ≤ s1.length + 1 := by rw [e2]; simp only [List.length_append, List.length_cons, List.length_nil]; omega
  have E2 := hide e2
  clear e2 l2
  have F2 := F1.trans f2
  have N2 := L1.names f2 N1
  have T2 := hT _ _ (L1.frame f2) T1
  have X2 := L1.keep f2 X1 (by decide) (by decide)
  go_wp2_with fail
  refine (l6Put_ld base P tv v2 (.slice none 0 0) s2 17 0 0 0 0 [] w2 L2 (Lw.res_nil _ _) (by omega)).mono ?_
  rintro e w3 ⟨v3, rfl, l3, f3⟩
  obtain ⟨s3, e3⟩ : ∃ s3, s3 = s2 ++ [⟨17, 0, 0, 0, 0, []⟩] := ⟨_, rfl⟩
  have L3 : Lw.Ld base P tv w3 v3 s3 := by rw [e3]; exact l3
  have n3 : s3.length ≤ s2.length + 1 := by rw [e3]; simp only [List.length_append, List.length_cons, List.length_nil]; omega
  have E3 := hide e3
  clear e3 l3
  have F3 := F2.trans f3
  have N3 := L2.names f3 N2
  have T3 := hT _ _ (L2.frame f3) T2
  have X3 := L2.keep f3 X2 (by decide) (by decide)
  go_wp2_with fail
  refine (l6Put_ld base P tv v3 (.slice none 0 0) s3 12 q1 (s1.length : Int) (s2.length : Int) 0 [] w3 L3 (Lw.res_nil _ _) (by omega)).mono ?_
  rintro e w4 ⟨v4, rfl, l4, f4⟩
  obtain ⟨s4, e4⟩ : ∃ s4, s4 = s3 ++ [⟨12, q1, (s1.length : Int), (s2.length : Int), 0, []⟩] := ⟨_, rfl⟩
  have L4 : Lw.Ld base P tv w4 v4 s4 := by rw [e4]; exact l4
  have n4 : s4.length ≤ s3.length + 1 := by rw [e4]; simp only [List.length_append, List.length_cons, List.length_nil]; omega
  have E4 := hide e4
  clear e4 l4
  have F4 := F3.trans f4
  have N4 := L3.names f4 N3
  have T4 := hT _ _ (L3.frame f4) T3
  have X4 := L3.keep f4 X3 (by decide) (by decide)
  go_wp2_with fail
  go_ret
  have e1 := unhide E1
  have e2 := unhide E2
  have e3 := unhide E3
  have e4 := unhide E4
  have hq1 := unhide Q1
  subst e4 e3 e2 hq1 e1
  rw [unhide HR]
  exact ⟨v4, rfl, L4, F4.ahead B0⟩

set_option maxRecDepth 100000 in
set_option maxHeartbeats 4000000 in
theorem l6CallOne_2 (base P b0 m : Nat) (tv v nv : Value) (rec : Lw.Rec) (ns : List ByteArray) (s : List Co) (n : Nd) (T : World → Prop) (hT : ∀ x y, Below base x y → T x → T y) (w : World) (h : Lw.Ld base P tv w v s) (hn : s.length + m ≤ 2995) (hns : w.ownsRow b0 9 1 nv ns.length (ns.map Value.string)) (hw : T w) (hS : Lw.Says base P tv nv b0 ns T rec m n.a) (h0 : n.text ≠ ⟨#[109, 97, 112]⟩) (h1 : n.text ≠ ⟨#[115, 101, 108, 101, 99, 116]⟩) : Calls Try.prog 40 #[.pointer (some ⟨P, 0, none⟩), .agg #[.int .i64 n.op, .int .i64 n.a, .int .i64 n.b, .int .i64 n.c, .int .i64 n.num, .string n.text], nv] w (Lw.Made base P tv v w ((Lw.lay rec (Lw.callOne n.text (.tree n.a)) ns s).1, (Lw.lay rec (Lw.callOne n.text (.tree n.a)) ns s).2.headD 0)) := by
  obtain ⟨R, hR⟩ : ∃ R, R = ((Lw.lay rec (Lw.callOne n.text (.tree n.a)) ns s).1, (Lw.lay rec (Lw.callOne n.text (.tree n.a)) ns s).2.headD 0) := ⟨_, rfl⟩
  rw [← hR]
  rw [show Lw.callOne n.text (.tree n.a) = _ by unfold Lw.callOne; rw [if_neg h0, if_neg h1], Lw.lay_range] at hR
  have HR := hide hR
  have HS := hide hS
  obtain ⟨w0, hw0⟩ : ∃ w0, w0 = w.alloc (.cells #[.int .i64 n.op, .int .i64 n.a, .int .i64 n.b, .int .i64 n.c, .int .i64 n.num, .string n.text] 55) := ⟨_, rfl⟩
  have B0 : Below w.heap.size w w0 := by rw [hw0]; exact (Below.refl _ _).alloc (Nat.le_refl _) _
  have L0 := h.below B0
  have N0 : w0.ownsRow b0 9 1 nv ns.length (ns.map Value.string) := by rw [hw0]; exact hns.alloc _
  have T0 := hT _ _ (B0.mono h.base) hw
  have X0 : Own w0 w.heap.size 55 [.int .i64 n.op, .int .i64 n.a, .int .i64 n.b, .int .i64 n.c, .int .i64 n.num, .string n.text] := by rw [hw0]; exact ⟨_, heap_alloc_new _ _, rfl⟩
  have g0 : (n.text.toList == [109, 97, 112]) = false := Lw.lit_ne [109, 97, 112] h0
  have g1 : (n.text.toList == [115, 101, 108, 101, 99, 116]) = false := Lw.lit_ne [115, 101, 108, 101, 99, 116] h1
  clear h hR hns hS hw h0 h1
  go_enter Try.func40, Try.ntmps40
  have x1 := X0.cell 1
  simp only [List.getElem?_cons_zero, List.getElem?_cons_succ] at x1
  have c1 := hide ((unhide HS) v s w0 L0 N0 T0 (by omega))
  go_wp2_with fail
  try rw [← hw0]
  clear hw0
  refine (unhide c1).1.mono ?_
  rintro e w1 ⟨v1, he1, l1, f1⟩
  have n1 := (unhide c1).2
  obtain ⟨q1, hq1⟩ : ∃ q, q = (rec n.a ns s).2 := ⟨_, rfl⟩
  rw [← hq1] at he1
  subst he1
  obtain ⟨s1, e1⟩ : ∃ sx, sx = (rec n.a ns s).1 := ⟨_, rfl⟩
  rw [← e1] at l1 n1
  have L1 := l1
  have E1 := hide e1
  have Q1 := hide hq1
  clear e1 l1 hq1 c1 x1
  have F1 := f1
  have N1 := L0.names f1 N0
  have T1 := hT _ _ (L0.frame f1) T0
  have X1 := L0.keep f1 X0 (by decide) (by decide)
  go_wp2_with fail
  refine (l6Put_ld base P tv v1 (.slice none 0 0) s1 16 0 0 0 6 [] w1 L1 (Lw.res_nil _ _) (by omega)).mono ?_
  rintro e w2 ⟨v2, rfl, l2, f2⟩
  obtain ⟨s2, e2⟩ : ∃ s2, s2 = s1 ++ [⟨16, 0, 0, 0, 6, []⟩] := ⟨_, rfl⟩
  have L2 : Lw.Ld base P tv w2 v2 s2 := by rw [e2]; exact l2
  have n2 : s2.length ≤ s1.length + 1 := by rw [e2]; simp only [List.length_append, List.length_cons, List.length_nil]; omega
  have E2 := hide e2
  clear e2 l2
  have F2 := F1.trans f2
  have N2 := L1.names f2 N1
  have T2 := hT _ _ (L1.frame f2) T1
  have X2 := L1.keep f2 X1 (by decide) (by decide)
  go_wp2_with fail
  refine (l6Put_ld base P tv v2 (.slice none 0 0) s2 8 (s1.length : Int) 0 0 0 [] w2 L2 (Lw.res_nil _ _) (by omega)).mono ?_
  rintro e w3 ⟨v3, rfl, l3, f3⟩
  obtain ⟨s3, e3⟩ : ∃ s3, s3 = s2 ++ [⟨8, (s1.length : Int), 0, 0, 0, []⟩] := ⟨_, rfl⟩
  have L3 : Lw.Ld base P tv w3 v3 s3 := by rw [e3]; exact l3
  have n3 : s3.length ≤ s2.length + 1 := by rw [e3]; simp only [List.length_append, List.length_cons, List.length_nil]; omega
  have E3 := hide e3
  clear e3 l3
  have F3 := F2.trans f3
  have N3 := L2.names f3 N2
  have T3 := hT _ _ (L2.frame f3) T2
  have X3 := L2.keep f3 X2 (by decide) (by decide)
  go_wp2_with fail
  refine (l6Put_ld base P tv v3 (.slice none 0 0) s3 3 q1 (s2.length : Int) 0 0 [] w3 L3 (Lw.res_nil _ _) (by omega)).mono ?_
  rintro e w4 ⟨v4, rfl, l4, f4⟩
  obtain ⟨s4, e4⟩ : ∃ s4, s4 = s3 ++ [⟨3, q1, (s2.length : Int), 0, 0, []⟩] := ⟨_, rfl⟩
  have L4 : Lw.Ld base P tv w4 v4 s4 := by rw [e4]; exact l4
  have n4 : s4.length ≤ s3.length + 1 := by rw [e4]; simp only [List.length_append, List.length_cons, List.length_nil]; omega
  have E4 := hide e4
  clear e4 l4
  have F4 := F3.trans f4
  have N4 := L3.names f4 N3
  have T4 := hT _ _ (L3.frame f4) T3
  have X4 := L3.keep f4 X3 (by decide) (by decide)
  go_wp2_with fail
  go_ret
  have e1 := unhide E1
  have e2 := unhide E2
  have e3 := unhide E3
  have e4 := unhide E4
  have hq1 := unhide Q1
  subst e4 e3 e2 hq1 e1
  rw [unhide HR]
  exact ⟨v4, rfl, L4, F4.ahead B0⟩

theorem l6CallOne_ld (base P b0 m : Nat) (tv v nv : Value) (rec : Lw.Rec) (ns : List ByteArray) (s : List Co) (n : Nd) (T : World → Prop) (hT : ∀ x y, Below base x y → T x → T y) (w : World) (h : Lw.Ld base P tv w v s) (hn : s.length + m ≤ 2995) (hns : w.ownsRow b0 9 1 nv ns.length (ns.map Value.string)) (hw : T w) (hS : Lw.Says base P tv nv b0 ns T rec m n.a) : Calls Try.prog 40 #[.pointer (some ⟨P, 0, none⟩), .agg #[.int .i64 n.op, .int .i64 n.a, .int .i64 n.b, .int .i64 n.c, .int .i64 n.num, .string n.text], nv] w (Lw.Made base P tv v w ((Lw.lay rec (Lw.callOne n.text (.tree n.a)) ns s).1, (Lw.lay rec (Lw.callOne n.text (.tree n.a)) ns s).2.headD 0)) := by
  by_cases h0 : n.text = ⟨#[109, 97, 112]⟩
  · exact l6CallOne_0 base P b0 m tv v nv rec ns s n T hT w h hn hns hw hS h0
  by_cases h1 : n.text = ⟨#[115, 101, 108, 101, 99, 116]⟩
  · exact l6CallOne_1 base P b0 m tv v nv rec ns s n T hT w h hn hns hw hS h0 h1
  exact l6CallOne_2 base P b0 m tv v nv rec ns s n T hT w h hn hns hw hS h0 h1

end Go.Proofs.Ytmbefapdckhjdaa

namespace Go.Proofs.Ytmbefapdckhjdaa
open Go.RowKit
set_option linter.unusedVariables false
set_option linter.unusedSimpArgs false


namespace Lw
theorem lay_or (rec : Rec) (n : Nd) (ns : List ByteArray) (s : List Co) : lay rec (over 12 (l3 (.tree n.a) (con (kind 2)) (truth (.tree n.b)))) ns s = ((((((rec n.b ns ((rec n.a ns s).1 ++ [Lw.val (Lw.kind 2)])).1) ++ [Lw.val (Lw.kind 2)]) ++ [Lw.val (Lw.kind 1)]) ++ [(⟨12, (rec n.b ns ((rec n.a ns s).1 ++ [Lw.val (Lw.kind 2)])).2, (((rec n.b ns ((rec n.a ns s).1 ++ [Lw.val (Lw.kind 2)])).1).length : Int), ((((rec n.b ns ((rec n.a ns s).1 ++ [Lw.val (Lw.kind 2)])).1) ++ [Lw.val (Lw.kind 2)]).length : Int), 0, []⟩ : Co)]) ++ [⟨12, (rec n.a ns s).2, ((rec n.a ns s).1.length : Int), (((((rec n.b ns ((rec n.a ns s).1 ++ [Lw.val (Lw.kind 2)])).1) ++ [Lw.val (Lw.kind 2)]) ++ [Lw.val (Lw.kind 1)]).length : Int), 0, []⟩], [((((((rec n.b ns ((rec n.a ns s).1 ++ [Lw.val (Lw.kind 2)])).1) ++ [Lw.val (Lw.kind 2)]) ++ [Lw.val (Lw.kind 1)]) ++ [(⟨12, (rec n.b ns ((rec n.a ns s).1 ++ [Lw.val (Lw.kind 2)])).2, (((rec n.b ns ((rec n.a ns s).1 ++ [Lw.val (Lw.kind 2)])).1).length : Int), ((((rec n.b ns ((rec n.a ns s).1 ++ [Lw.val (Lw.kind 2)])).1) ++ [Lw.val (Lw.kind 2)]).length : Int), 0, []⟩ : Co)]).length : Int)]) := rfl
theorem lay_and (rec : Rec) (n : Nd) (ns : List ByteArray) (s : List Co) : lay rec (over 12 (l3 (.tree n.a) (truth (.tree n.b)) (con (kind 1)))) ns s = (((((((rec n.b ns (rec n.a ns s).1).1) ++ [Lw.val (Lw.kind 2)]) ++ [Lw.val (Lw.kind 1)]) ++ [(⟨12, (rec n.b ns (rec n.a ns s).1).2, (((rec n.b ns (rec n.a ns s).1).1).length : Int), ((((rec n.b ns (rec n.a ns s).1).1) ++ [Lw.val (Lw.kind 2)]).length : Int), 0, []⟩ : Co)]) ++ [Lw.val (Lw.kind 1)]) ++ [⟨12, (rec n.a ns s).2, (((((rec n.b ns (rec n.a ns s).1).1) ++ [Lw.val (Lw.kind 2)]) ++ [Lw.val (Lw.kind 1)]).length : Int), ((((((rec n.b ns (rec n.a ns s).1).1) ++ [Lw.val (Lw.kind 2)]) ++ [Lw.val (Lw.kind 1)]) ++ [(⟨12, (rec n.b ns (rec n.a ns s).1).2, (((rec n.b ns (rec n.a ns s).1).1).length : Int), ((((rec n.b ns (rec n.a ns s).1).1) ++ [Lw.val (Lw.kind 2)]).length : Int), 0, []⟩ : Co)]).length : Int), 0, []⟩], [(((((((rec n.b ns (rec n.a ns s).1).1) ++ [Lw.val (Lw.kind 2)]) ++ [Lw.val (Lw.kind 1)]) ++ [(⟨12, (rec n.b ns (rec n.a ns s).1).2, (((rec n.b ns (rec n.a ns s).1).1).length : Int), ((((rec n.b ns (rec n.a ns s).1).1) ++ [Lw.val (Lw.kind 2)]).length : Int), 0, []⟩ : Co)]) ++ [Lw.val (Lw.kind 1)]).length : Int)]) := rfl
end Lw

set_option maxRecDepth 100000 in
set_option maxHeartbeats 4000000 in
theorem l6One_8 (base P b0 m mb mc tb lc : Nat) (v nv : Value) (rec : Lw.Rec) (ns : List ByteArray) (s : List Co) (l : List Nd) (i : Nat) (n : Nd) (hi : i < l.length) (hni : n = l.getD i Nd.zero) (hl : l.length ≤ lc) (hl2 : l.length ≤ 1048576) (tv : Value) (htv : tv = .slice (some ⟨tb, 0, none⟩) l.length lc) (T : World → Prop) (hT : ∀ x y, Below base x y → T x → T y) (hrow : ∀ x, T x → Nd.Row x tb 0 l) (w : World) (h : Lw.Ld base P tv w v s) (hn : s.length + m + mb + mc ≤ 2999) (hns : w.ownsRow b0 9 1 nv ns.length (ns.map Value.string)) (hw : T w) (hSa : Lw.Says base P tv nv b0 ns T rec m n.a) (hSb : Lw.Says base P tv nv b0 ns T rec mb n.b) (hop : n.op = 8) : Calls Try.prog 21 #[.pointer (some ⟨P, 0, none⟩), .int .i64 i, nv] w (Lw.Made base P tv v w ((Lw.lay rec (Lw.form n) ns s).1, (Lw.lay rec (Lw.form n) ns s).2.headD 0)) := by
  obtain ⟨R, hR⟩ : ∃ R, R = ((Lw.lay rec (Lw.form n) ns s).1, (Lw.lay rec (Lw.form n) ns s).2.headD 0) := ⟨_, rfl⟩
  rw [← hR]
  rw [Lw.form_8 hop, Lw.lay_or] at hR
  have HR := hide hR
  have HSa := hide hSa
  have HSb := hide hSb
  obtain ⟨w0, hw0⟩ : ∃ w0, w0 = w.alloc (.cells #[.int .i64 8, .int .i64 n.a, .int .i64 n.b, .int .i64 n.c, .int .i64 n.num, .string n.text] 55) := ⟨_, rfl⟩
  have B0 : Below w.heap.size w w0 := by rw [hw0]; exact (Below.refl _ _).alloc (Nat.le_refl _) _
  have L0 := h.below B0
  have N0 : w0.ownsRow b0 9 1 nv ns.length (ns.map Value.string) := by rw [hw0]; exact hns.alloc _
  have T0 := hT _ _ (B0.mono h.base) hw
  have X0 : Own w0 w.heap.size 55 [.int .i64 8, .int .i64 n.a, .int .i64 n.b, .int .i64 n.c, .int .i64 n.num, .string n.text] := by rw [hw0]; exact ⟨_, heap_alloc_new _ _, rfl⟩
  have p0 := h.own.cell 0
  obtain ⟨f0, f1, f2, f3, f4, f5⟩ := hrow w hw i hi
  simp only [Nat.zero_add] at f0 f1 f2 f3 f4 f5
  rw [← hni] at f0 f1 f2 f3 f4 f5
  rw [hop] at f0
  rw [htv] at p0
  simp only [List.getElem?_cons_zero] at p0
  have hiI : (i : Int) < (l.length : Int) := by omega
  clear h hR hns hSa hSb hw hrow hop hni
  go_enter Try.func21, Try.ntmps21
  have y0 := X0.cell 0
  simp only [List.getElem?_cons_zero, List.getElem?_cons_succ] at y0
  have x1 := X0.cell 1
  simp only [List.getElem?_cons_zero, List.getElem?_cons_succ] at x1
  have c1 := hide ((unhide HSa) v s w0 L0 N0 T0 (by omega))
  go_wp2_with fail
  try rw [← hw0]
  clear hw0 f0 f1 f2 f3 f4 f5 p0
  refine (l5Kids_any 8 w0 (by decide) (by decide)).mono ?_
  rintro e wk ⟨rfl, hwk⟩
  subst hwk
  go_wp2_with fail
  refine (unhide c1).1.mono ?_
  rintro e w1 ⟨v1, he1, l1, f1⟩
  have n1 := (unhide c1).2
  obtain ⟨q1, hq1⟩ : ∃ q, q = (rec n.a ns s).2 := ⟨_, rfl⟩
  rw [← hq1] at he1
  subst he1
  obtain ⟨s1, e1⟩ : ∃ sx, sx = (rec n.a ns s).1 := ⟨_, rfl⟩
  rw [← e1] at l1 n1
  have L1 := l1
  have E1 := hide e1
  have Q1 := hide hq1
  clear e1 l1 hq1 c1 x1
  have F1 := f1
  have N1 := L0.names f1 N0
  have T1 := hT _ _ (L0.frame f1) T0
  have X1 := L0.keep f1 X0 (by decide) (by decide)
  have y1 := X1.cell 0
  simp only [List.getElem?_cons_zero, List.getElem?_cons_succ] at y1
  go_wp2_with fail
  refine (l6Bool_ld base P tv v1 s1 true 2 rfl w1 L1 (by omega)).mono ?_
  rintro e w2 ⟨v2, rfl, l2, f2⟩
  obtain ⟨s2, e2⟩ : ∃ s2, s2 = s1 ++ [Lw.val (Lw.kind 2)] := ⟨_, rfl⟩
  have L2 : Lw.Ld base P tv w2 v2 s2 := by rw [e2]; exact l2
  have n2 : s2.length ≤ s1.length + 1 := by rw [e2]; simp only [List.length_append, List.length_cons, List.length_nil]; omega
  have E2 := hide e2
  clear e2 l2
  have F2 := F1.trans f2
  have N2 := L1.names f2 N1
  have T2 := hT _ _ (L1.frame f2) T1
  have X2 := L1.keep f2 X1 (by decide) (by decide)
  have x3 := X2.cell 2
  simp only [List.getElem?_cons_zero, List.getElem?_cons_succ] at x3
  have c3 := hide ((unhide HSb) v2 s2 w2 L2 N2 T2 (by omega))
  go_wp2_with fail
  refine (unhide c3).1.mono ?_
  rintro e w3 ⟨v3, he3, l3, f3⟩
  have n3 := (unhide c3).2
  obtain ⟨q3, hq3⟩ : ∃ q, q = (rec n.b ns s2).2 := ⟨_, rfl⟩
  rw [← hq3] at he3
  subst he3
  obtain ⟨s3, e3⟩ : ∃ sx, sx = (rec n.b ns s2).1 := ⟨_, rfl⟩
  rw [← e3] at l3 n3
  have L3 := l3
  have E3 := hide e3
  have Q3 := hide hq3
  clear e3 l3 hq3 c3 x3
  have F3 := F2.trans f3
  have N3 := L2.names f3 N2
  have T3 := hT _ _ (L2.frame f3) T2
  have X3 := L2.keep f3 X2 (by decide) (by decide)
  go_wp2_with fail
  refine (l6Truth_ld base P tv v3 s3 q3 w3 L3 (by omega)).mono ?_
  rintro e w4 ⟨v4, he4, l4, f4⟩
  obtain ⟨q4, hq4⟩ : ∃ q : Int, q = (((s3 ++ [Lw.val (Lw.kind 2)]) ++ [Lw.val (Lw.kind 1)]).length : Int) := ⟨_, rfl⟩
  have hf4 : e = .returned (.int .i64 q4) := by rw [hq4]; exact he4
  subst hf4
  obtain ⟨s4, e4⟩ : ∃ sx, sx = ((s3 ++ [Lw.val (Lw.kind 2)]) ++ [Lw.val (Lw.kind 1)]) ++ [⟨12, q3, (s3.length : Int), ((s3 ++ [Lw.val (Lw.kind 2)]).length : Int), 0, []⟩] := ⟨_, rfl⟩
  have L4 : Lw.Ld base P tv w4 v4 s4 := by rw [e4]; exact l4
  have n4 : s4.length ≤ s3.length + 3 := by rw [e4]; simp only [List.length_append, List.length_cons, List.length_nil]; omega
  have E4 := hide e4
  have Q4 := hide hq4
  clear e4 l4 hq4 he4
  have F4 := F3.trans f4
  have N4 := L3.names f4 N3
  have T4 := hT _ _ (L3.frame f4) T3
  have X4 := L3.keep f4 X3 (by decide) (by decide)
  go_wp2_with fail
  refine (l6Put_ld base P tv v4 (.slice none 0 0) s4 12 q1 (s1.length : Int) q4 0 [] w4 L4 (Lw.res_nil _ _) (by omega)).mono ?_
  rintro e w5 ⟨v5, rfl, l5, f5⟩
  obtain ⟨s5, e5⟩ : ∃ s5, s5 = s4 ++ [⟨12, q1, (s1.length : Int), q4, 0, []⟩] := ⟨_, rfl⟩
  have L5 : Lw.Ld base P tv w5 v5 s5 := by rw [e5]; exact l5
  have n5 : s5.length ≤ s4.length + 1 := by rw [e5]; simp only [List.length_append, List.length_cons, List.length_nil]; omega
  have E5 := hide e5
  clear e5 l5
  have F5 := F4.trans f5
  have N5 := L4.names f5 N4
  have T5 := hT _ _ (L4.frame f5) T4
  have X5 := L4.keep f5 X4 (by decide) (by decide)
  go_wp2_with fail
  go_ret
  have e1 := unhide E1
  have e2 := unhide E2
  have e3 := unhide E3
  have e4 := unhide E4
  have e5 := unhide E5
  have hq1 := unhide Q1
  have hq3 := unhide Q3
  have hq4 := unhide Q4
  subst e5 hq4 e4 hq3 e3 e2 hq1 e1
  rw [unhide HR]
  exact ⟨v5, rfl, L5, F5.ahead B0⟩

set_option maxRecDepth 100000 in
set_option maxHeartbeats 4000000 in
theorem l6One_9 (base P b0 m mb mc tb lc : Nat) (v nv : Value) (rec : Lw.Rec) (ns : List ByteArray) (s : List Co) (l : List Nd) (i : Nat) (n : Nd) (hi : i < l.length) (hni : n = l.getD i Nd.zero) (hl : l.length ≤ lc) (hl2 : l.length ≤ 1048576) (tv : Value) (htv : tv = .slice (some ⟨tb, 0, none⟩) l.length lc) (T : World → Prop) (hT : ∀ x y, Below base x y → T x → T y) (hrow : ∀ x, T x → Nd.Row x tb 0 l) (w : World) (h : Lw.Ld base P tv w v s) (hn : s.length + m + mb + mc ≤ 2999) (hns : w.ownsRow b0 9 1 nv ns.length (ns.map Value.string)) (hw : T w) (hSa : Lw.Says base P tv nv b0 ns T rec m n.a) (hSb : Lw.Says base P tv nv b0 ns T rec mb n.b) (hop : n.op = 9) : Calls Try.prog 21 #[.pointer (some ⟨P, 0, none⟩), .int .i64 i, nv] w (Lw.Made base P tv v w ((Lw.lay rec (Lw.form n) ns s).1, (Lw.lay rec (Lw.form n) ns s).2.headD 0)) := by
  obtain ⟨R, hR⟩ : ∃ R, R = ((Lw.lay rec (Lw.form n) ns s).1, (Lw.lay rec (Lw.form n) ns s).2.headD 0) := ⟨_, rfl⟩
  rw [← hR]
  rw [Lw.form_9 hop, Lw.lay_and] at hR
  have HR := hide hR
  have HSa := hide hSa
  have HSb := hide hSb
  obtain ⟨w0, hw0⟩ : ∃ w0, w0 = w.alloc (.cells #[.int .i64 9, .int .i64 n.a, .int .i64 n.b, .int .i64 n.c, .int .i64 n.num, .string n.text] 55) := ⟨_, rfl⟩
  have B0 : Below w.heap.size w w0 := by rw [hw0]; exact (Below.refl _ _).alloc (Nat.le_refl _) _
  have L0 := h.below B0
  have N0 : w0.ownsRow b0 9 1 nv ns.length (ns.map Value.string) := by rw [hw0]; exact hns.alloc _
  have T0 := hT _ _ (B0.mono h.base) hw
  have X0 : Own w0 w.heap.size 55 [.int .i64 9, .int .i64 n.a, .int .i64 n.b, .int .i64 n.c, .int .i64 n.num, .string n.text] := by rw [hw0]; exact ⟨_, heap_alloc_new _ _, rfl⟩
  have p0 := h.own.cell 0
  obtain ⟨f0, f1, f2, f3, f4, f5⟩ := hrow w hw i hi
  simp only [Nat.zero_add] at f0 f1 f2 f3 f4 f5
  rw [← hni] at f0 f1 f2 f3 f4 f5
  rw [hop] at f0
  rw [htv] at p0
  simp only [List.getElem?_cons_zero] at p0
  have hiI : (i : Int) < (l.length : Int) := by omega
  clear h hR hns hSa hSb hw hrow hop hni
  go_enter Try.func21, Try.ntmps21
  have y0 := X0.cell 0
  simp only [List.getElem?_cons_zero, List.getElem?_cons_succ] at y0
  have x1 := X0.cell 1
  simp only [List.getElem?_cons_zero, List.getElem?_cons_succ] at x1
  have c1 := hide ((unhide HSa) v s w0 L0 N0 T0 (by omega))
  go_wp2_with fail
  try rw [← hw0]
  clear hw0 f0 f1 f2 f3 f4 f5 p0
  refine (l5Kids_any 9 w0 (by decide) (by decide)).mono ?_
  rintro e wk ⟨rfl, hwk⟩
  subst hwk
  go_wp2_with fail
  refine (unhide c1).1.mono ?_
  rintro e w1 ⟨v1, he1, l1, f1⟩
  have n1 := (unhide c1).2
  obtain ⟨q1, hq1⟩ : ∃ q, q = (rec n.a ns s).2 := ⟨_, rfl⟩
  rw [← hq1] at he1
  subst he1
  obtain ⟨s1, e1⟩ : ∃ sx, sx = (rec n.a ns s).1 := ⟨_, rfl⟩
  rw [← e1] at l1 n1
  have L1 := l1
  have E1 := hide e1
  have Q1 := hide hq1
  clear e1 l1 hq1 c1 x1
  have F1 := f1
  have N1 := L0.names f1 N0
  have T1 := hT _ _ (L0.frame f1) T0
  have X1 := L0.keep f1 X0 (by decide) (by decide)
  have y1 := X1.cell 0
  simp only [List.getElem?_cons_zero, List.getElem?_cons_succ] at y1
  have x2 := X1.cell 2
  simp only [List.getElem?_cons_zero, List.getElem?_cons_succ] at x2
  have c2 := hide ((unhide HSb) v1 s1 w1 L1 N1 T1 (by omega))
  go_wp2_with fail
  refine (unhide c2).1.mono ?_
  rintro e w2 ⟨v2, he2, l2, f2⟩
  have n2 := (unhide c2).2
  obtain ⟨q2, hq2⟩ : ∃ q, q = (rec n.b ns s1).2 := ⟨_, rfl⟩
  rw [← hq2] at he2
  subst he2
  obtain ⟨s2, e2⟩ : ∃ sx, sx = (rec n.b ns s1).1 := ⟨_, rfl⟩
  rw [← e2] at l2 n2
  have L2 := l2
  have E2 := hide e2
  have Q2 := hide hq2
  clear e2 l2 hq2 c2 x2
  have F2 := F1.trans f2
  have N2 := L1.names f2 N1
  have T2 := hT _ _ (L1.frame f2) T1
  have X2 := L1.keep f2 X1 (by decide) (by decide)
  go_wp2_with fail
  refine (l6Truth_ld base P tv v2 s2 q2 w2 L2 (by omega)).mono ?_
  rintro e w3 ⟨v3, he3, l3, f3⟩
  obtain ⟨q3, hq3⟩ : ∃ q : Int, q = (((s2 ++ [Lw.val (Lw.kind 2)]) ++ [Lw.val (Lw.kind 1)]).length : Int) := ⟨_, rfl⟩
  have hf3 : e = .returned (.int .i64 q3) := by rw [hq3]; exact he3
  subst hf3
  obtain ⟨s3, e3⟩ : ∃ sx, sx = ((s2 ++ [Lw.val (Lw.kind 2)]) ++ [Lw.val (Lw.kind 1)]) ++ [⟨12, q2, (s2.length : Int), ((s2 ++ [Lw.val (Lw.kind 2)]).length : Int), 0, []⟩] := ⟨_, rfl⟩
  have L3 : Lw.Ld base P tv w3 v3 s3 := by rw [e3]; exact l3
  have n3 : s3.length ≤ s2.length + 3 := by rw [e3]; simp only [List.length_append, List.length_cons, List.length_nil]; omega
  have E3 := hide e3
  have Q3 := hide hq3
  clear e3 l3 hq3 he3
  have F3 := F2.trans f3
  have N3 := L2.names f3 N2
  have T3 := hT _ _ (L2.frame f3) T2
  have X3 := L2.keep f3 X2 (by decide) (by decide)
  go_wp2_with fail
  refine (l6Bool_ld base P tv v3 s3 false 1 rfl w3 L3 (by omega)).mono ?_
  rintro e w4 ⟨v4, rfl, l4, f4⟩
  obtain ⟨s4, e4⟩ : ∃ s4, s4 = s3 ++ [Lw.val (Lw.kind 1)] := ⟨_, rfl⟩
  have L4 : Lw.Ld base P tv w4 v4 s4 := by rw [e4]; exact l4
  have n4 : s4.length ≤ s3.length + 1 := by rw [e4]; simp only [List.length_append, List.length_cons, List.length_nil]; omega
  have E4 := hide e4
  clear e4 l4
  have F4 := F3.trans f4
  have N4 := L3.names f4 N3
  have T4 := hT _ _ (L3.frame f4) T3
  have X4 := L3.keep f4 X3 (by decide) (by decide)
  go_wp2_with fail
  refine (l6Put_ld base P tv v4 (.slice none 0 0) s4 12 q1 q3 (s3.length : Int) 0 [] w4 L4 (Lw.res_nil _ _) (by omega)).mono ?_
  rintro e w5 ⟨v5, rfl, l5, f5⟩
  obtain ⟨s5, e5⟩ : ∃ s5, s5 = s4 ++ [⟨12, q1, q3, (s3.length : Int), 0, []⟩] := ⟨_, rfl⟩
  have L5 : Lw.Ld base P tv w5 v5 s5 := by rw [e5]; exact l5
  have n5 : s5.length ≤ s4.length + 1 := by rw [e5]; simp only [List.length_append, List.length_cons, List.length_nil]; omega
  have E5 := hide e5
  clear e5 l5
  have F5 := F4.trans f5
  have N5 := L4.names f5 N4
  have T5 := hT _ _ (L4.frame f5) T4
  have X5 := L4.keep f5 X4 (by decide) (by decide)
  go_wp2_with fail
  go_ret
  have e1 := unhide E1
  have e2 := unhide E2
  have e3 := unhide E3
  have e4 := unhide E4
  have e5 := unhide E5
  have hq1 := unhide Q1
  have hq2 := unhide Q2
  have hq3 := unhide Q3
  subst e5 e4 hq3 e3 hq2 e2 hq1 e1
  rw [unhide HR]
  exact ⟨v5, rfl, L5, F5.ahead B0⟩

end Go.Proofs.Ytmbefapdckhjdaa

namespace Go.Proofs.Ytmbefapdckhjdaa
open Go.RowKit
set_option linter.unusedVariables false
set_option linter.unusedSimpArgs false


set_option maxHeartbeats 400000 in
theorem l6Same_5 (w : World) : Calls Try.prog 44 #[.int .i64 5] w fun e w' => e = .returned (.int .i64 3) ∧ w' = w := by
  go_enter Try.func44, Try.ntmps44
  go_wp2_with fail
  go_ret
  exact ⟨rfl, rfl⟩

set_option maxHeartbeats 400000 in
theorem l6Same_6 (w : World) : Calls Try.prog 44 #[.int .i64 6] w fun e w' => e = .returned (.int .i64 4) ∧ w' = w := by
  go_enter Try.func44, Try.ntmps44
  go_wp2_with fail
  go_ret
  exact ⟨rfl, rfl⟩

set_option maxHeartbeats 400000 in
theorem l6Same_7 (w : World) : Calls Try.prog 44 #[.int .i64 7] w fun e w' => e = .returned (.int .i64 5) ∧ w' = w := by
  go_enter Try.func44, Try.ntmps44
  go_wp2_with fail
  go_ret
  exact ⟨rfl, rfl⟩

set_option maxHeartbeats 400000 in
theorem l6Same_10 (w : World) : Calls Try.prog 44 #[.int .i64 10] w fun e w' => e = .returned (.int .i64 6) ∧ w' = w := by
  go_enter Try.func44, Try.ntmps44
  go_wp2_with fail
  go_ret
  exact ⟨rfl, rfl⟩

set_option maxHeartbeats 400000 in
theorem l6Same_11 (w : World) : Calls Try.prog 44 #[.int .i64 11] w fun e w' => e = .returned (.int .i64 7) ∧ w' = w := by
  go_enter Try.func44, Try.ntmps44
  go_wp2_with fail
  go_ret
  exact ⟨rfl, rfl⟩

set_option maxHeartbeats 400000 in
theorem l6Same_12 (w : World) : Calls Try.prog 44 #[.int .i64 12] w fun e w' => e = .returned (.int .i64 8) ∧ w' = w := by
  go_enter Try.func44, Try.ntmps44
  go_wp2_with fail
  go_ret
  exact ⟨rfl, rfl⟩

set_option maxHeartbeats 400000 in
theorem l6Same_13 (w : World) : Calls Try.prog 44 #[.int .i64 13] w fun e w' => e = .returned (.int .i64 9) ∧ w' = w := by
  go_enter Try.func44, Try.ntmps44
  go_wp2_with fail
  go_ret
  exact ⟨rfl, rfl⟩

set_option maxHeartbeats 400000 in
theorem l6Same_14 (w : World) : Calls Try.prog 44 #[.int .i64 14] w fun e w' => e = .returned (.int .i64 10) ∧ w' = w := by
  go_enter Try.func44, Try.ntmps44
  go_wp2_with fail
  go_ret
  exact ⟨rfl, rfl⟩

set_option maxHeartbeats 400000 in
theorem l6Same_17 (w : World) : Calls Try.prog 44 #[.int .i64 17] w fun e w' => e = .returned (.int .i64 11) ∧ w' = w := by
  go_enter Try.func44, Try.ntmps44
  go_wp2_with fail
  go_ret
  exact ⟨rfl, rfl⟩

set_option maxHeartbeats 400000 in
theorem l6Same_18 (w : World) : Calls Try.prog 44 #[.int .i64 18] w fun e w' => e = .returned (.int .i64 12) ∧ w' = w := by
  go_enter Try.func44, Try.ntmps44
  go_wp2_with fail
  go_ret
  exact ⟨rfl, rfl⟩

set_option maxHeartbeats 400000 in
theorem l6Same_19 (w : World) : Calls Try.prog 44 #[.int .i64 19] w fun e w' => e = .returned (.int .i64 13) ∧ w' = w := by
  go_enter Try.func44, Try.ntmps44
  go_wp2_with fail
  go_ret
  exact ⟨rfl, rfl⟩

set_option maxHeartbeats 400000 in
theorem l6Same_20 (w : World) : Calls Try.prog 44 #[.int .i64 20] w fun e w' => e = .returned (.int .i64 14) ∧ w' = w := by
  go_enter Try.func44, Try.ntmps44
  go_wp2_with fail
  go_ret
  exact ⟨rfl, rfl⟩

namespace Lw
theorem Fr.apart {P : Nat} {v v' : Value} {w w' : World} (h : Fr P v v' w w') {c : Nat} (hc : c < w.heap.size) (hv : v.ownBlock ≠ some c) : v'.ownBlock ≠ some c := by
  intro e
  rcases h.own with e1 | ⟨b, e1, e2⟩
  · exact hv (e1.symm.trans e)
  · rw [e1] at e; cases e; omega
/-- A block of any kind that is neither P nor that of the nodes is kept, and stays apart. -/
theorem Fr.box {P : Nat} {v v' : Value} {w w' : World} (h : Fr P v v' w w') {c : Nat} {t : TypeId} {xs : List Value} (ho : Own w c t xs) (h1 : c ≠ P) (h2 : v.ownBlock ≠ some c) : Own w' c t xs ∧ v'.ownBlock ≠ some c := ⟨h.kept ho h1 h2, h.apart ho.lt h2⟩
theorem Ld.fresh {base P : Nat} {tv v : Value} {w : World} {s : List Co} (h : Ld base P tv w v s) {c : Nat} (hc : w.heap.size ≤ c) : c ≠ P ∧ v.ownBlock ≠ some c := by
  have hl := h.own.lt
  obtain ⟨_, _, cs, _, q4⟩ := h
  exact ⟨by omega, fun e => by have := q4.lt e; omega⟩
/-- A store into a block of its own leaves what was laid. -/
theorem Ld.set {base P : Nat} {tv v : Value} {w : World} {s : List Co} (h : Ld base P tv w v s) {c j : Nat} (h1 : c ≠ P) (h2 : v.ownBlock ≠ some c) (x : Value) (h3 : ∃ xs, Own w c 82 xs) : Ld base P tv (w.setCell ⟨c, j, none⟩ x) v s := by
  obtain ⟨q1, q2, cs, q3, q4⟩ := h
  obtain ⟨ys, hO⟩ := h3
  refine ⟨?_, q2, cs, q3, ?_, fun p hp => (q4.2 p hp).setOther _ _ fun b hb e => res_ne (q4.2 p hp) hO (by decide) (by rw [hb]; exact congrArg some e)⟩
  · obtain ⟨r, a1, a2⟩ := q1
    exact ⟨r, (heap_setCell_other _ ⟨c, j, none⟩ P x (fun e => h1 e.symm)).trans a1, a2⟩
  · obtain ⟨⟨a1, ⟨a2, a3⟩ | ⟨g, cap, cur, a4, hg, hh, a5⟩⟩, _⟩ := q4
    · exact ⟨a1, .inl ⟨a2, a3⟩⟩
    · exact ⟨a1, .inr ⟨g, cap, cur, a4, hg, (heap_setCell_other _ ⟨c, j, none⟩ g x (fun e => h2 (by rw [a4]; exact congrArg some e))).trans hh, a5⟩⟩
theorem Fr.set {P : Nat} {v v' : Value} {w0 w : World} (h : Fr P v v' w0 w) {c j : Nat} (hc : w0.heap.size ≤ c) (x : Value) : Fr P v v' w0 (w.setCell ⟨c, j, none⟩ x) :=
  ⟨h.os, h.tape, h.output, by simpa using h.size, fun k h1 h2 h3 => (heap_setCell_other _ ⟨c, j, none⟩ k x (by simp; omega)).trans (h.block k h1 h2 h3), h.own⟩
end Lw

end Go.Proofs.Ytmbefapdckhjdaa
