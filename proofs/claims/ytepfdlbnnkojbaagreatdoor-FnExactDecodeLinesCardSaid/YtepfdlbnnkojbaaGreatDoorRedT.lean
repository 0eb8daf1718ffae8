/-
  impl: a whole text; what the library's two variables hold.
  errors.As at a target of the type *readError: a nil error, and an error of that type itself.
  impl.DecodeValue: what it answers.
  An answer of a code, a place and cells: what the laws' helpers find, mark and find again in it.
-/
import Derived.Test.YtepfdlbnnkojbaaGreatDoorDecE
import Derived.Test.YtepfdlbnnkojbaaGreatDoorSkipT
import Derived.Test.YtepfdlbnnkojbaaGreatDoorDecY
import Derived.Test.YtepfdlbnnkojbaaGreatDoorRes
import Derived.WalkKit
import Derived.LaidEql
import Derived.Stop.Asserts
import Derived.RowKitTokens
namespace Go.Proofs.YtepfdlbnnkojbaaGreatDoor
open Go.RowKit
set_option linter.unusedVariables false
set_option linter.unusedSimpArgs false


/-- A whole text: a value and blanks alone. -/
def J.textR (s : ByteArray) : J.Rv :=
  match J.oneR 21 0 s (J.skip s 0) with
  | .inl p => .inl p
  | .inr (v, e) => if s.size ≤ J.skip s e then .inr (v, J.skip s e) else .inl (5, J.skip s e)
def WLeft (R : J.Rv) (w : World) (b : Nat) (e : Ending) (w' : World) : Prop :=
  (∃ v m sv, R = .inr (v, m) ∧ e = .returned (.tuple #[sv, .nilIface]) ∧ Res w' w.heap.size sv v ∧ Tch w.heap.size b w w') ∨ (∃ (c : Int) (m : Nat), R = .inl (c, m) ∧ e = .returned (.tuple #[.slice none 0 0, .iface 50 (.agg #[.int .i64 c, .int .i64 (m : Int)])]) ∧ Tch w.heap.size b w w')
set_option maxRecDepth 100000 in
set_option maxHeartbeats 2000000 in
theorem wholeText_any (b : Nat) (s : ByteArray) (w : World) (h : Rd w b 44 s 0 [.int .i64 ((0 : Nat) : Int)]) (her : ErrCell w b) (hs : s.size ≤ 4000) :
    Calls Tryz.prog 17 #[.pointer (some ⟨b, 0, none⟩)] w (WLeft (J.textR s) w b) := by
  have hs' : s.size ≤ 1048576 := by omega
  have HV := hide (value_says s hs 21 0 rfl (by decide) b 0 w (Nat.zero_le _) h her)
  have HFIT := hide (J.oneR_fit s 21 0 (J.skip s 0) (J.skip_le s 0 (Nat.zero_le _)))
  have HR := hide (show J.textR s = (match J.oneR 21 0 s (J.skip s 0) with | .inl p => .inl p | .inr (v, e) => if s.size ≤ J.skip s e then .inr (v, J.skip s e) else .inl (5, J.skip s e)) from rfl)
  generalize J.textR s = RR at *
  generalize J.oneR 21 0 s (J.skip s 0) = R1 at *
  clear h her
  go_enter Tryz.func17, Tryz.ntmps17
  go_wp2_with fail
  refine (unhide HV).mono ?_
  rintro e w1 hS
  rcases hS with ⟨v, m, sv, hq, rfl, hr, V1⟩ | ⟨c, m, q, a5, n5, c5, hq, rfl, hqs, V1⟩
  · rw [hq] at HR HFIT
    have hms := (unhide HFIT).2.1
    have hsk := J.skip_le s m hms
    obtain ⟨a5, n5, c5, rfl⟩ := hr.shape
    have HR := hide (show RR = (if s.size ≤ J.skip s m then .inr (v, J.skip s m) else .inl (5, J.skip s m)) from unhide HR)
    generalize J.skip s m = P at *
    clear hq HFIT HV
    go_wp2_with fail
    refine (ended_any b 44 s P _ _ V1.rd hs').mono ?_
    rintro e w2 ⟨rfl, q2, hw2⟩
    have V2 : Vs w w2 b s P 0 := by rw [hw2]; exact V1.drewN q2
    have hr2 : Res w2 w.heap.size (.slice a5 n5 c5) v := by rw [hw2]; exact hr
    clear hw2 V1 hr
    by_cases hend : s.size ≤ P
    · have fin := hide ((unhide HR).trans (if_pos hend))
      rw [decide_eq_true hend]
      clear hend
      go_wp2_with fail
      go_ret2
      exact .inl ⟨_, _, _, unhide fin, rfl, hr2, V2.tch⟩
    · have fin := hide ((unhide HR).trans (if_neg hend))
      rw [decide_eq_false hend]
      clear hend
      go_wp2_with fail
      refine (stuck_any b 44 s P _ _ V2.rd).mono ?_
      rintro e w3 ⟨rfl, hr3, ht3⟩
      have V3 := V2.go hr3 ht3
      clear V2 hr3 ht3 hr2
      go_wp2_with fail
      go_ret2
      exact .inr ⟨5, _, unhide fin, rfl, V3.tch⟩
  · rw [hq] at HR
    have fin := hide (unhide HR)
    clear hq HR HFIT HV
    go_wp2_with fail
    go_ret2
    exact .inr ⟨c, m, unhide fin, rfl, V1.tch⟩
/-- What the library's variables hold. -/
structure Gs (w : World) : Prop where
  r : ∃ ev : Value, (ev = .nilIface ∨ ∃ te pe, ev = .iface te pe) ∧ 5 < w.heap.size ∧ w.cell? ⟨5, 0, none⟩ = some ev
  tl : 0 < w.heap.size
  t : w.cell? ⟨0, 0, none⟩ = some (.iface 96 (.agg #[.pointer (some ⟨9, 46, none⟩)]))
theorem Gs.below {w w' : World} (h : Gs w) (hb : Below w.heap.size w w') : Gs w' := by
  obtain ⟨ev, h1, h2, h3⟩ := h.r
  exact ⟨⟨ev, h1, Nat.lt_of_lt_of_le h2 hb.size, (hb.cell (p := ⟨5, 0, none⟩) h2).trans h3⟩, Nat.lt_of_lt_of_le h.tl hb.size, (hb.cell (p := ⟨0, 0, none⟩) h.tl).trans h.t⟩
theorem Gs.err {w w' : World} {b : Nat} (h : Gs w) (hb : Below w.heap.size w w') (hw : w.heap.size ≤ b) : ErrCell w' b := by
  obtain ⟨ev, h1, h2, h3⟩ := (h.below hb).r
  obtain ⟨_, _, h4, _⟩ := h.r
  exact ⟨ev, h1, h2, by omega, h3⟩

end Go.Proofs.YtepfdlbnnkojbaaGreatDoor

namespace Go.Proofs.YtepfdlbnnkojbaaGreatDoor
open Go.RowKit Go.Extern.Stop Go.Stop Go.Extern
set_option linter.unusedVariables false
set_option linter.unusedSimpArgs false


theorem as_nil (t : Value) (w : World) :
    Calls Tryz.prog 18 #[.nilIface, t] w fun e w' => e = .returned (.bool false) ∧ w' = w := by
  go_enter Tryz.func18, Tryz.ntmps18
  go_wp2
  go_ret
  exact ⟨rfl, rfl⟩
namespace As
theorem valueOfP (t : Addr) (w : World) : (ReflectliteValue.unpack (.iface 52 (.pointer (some t)))).run Tryz.prog w
    = .ok (.agg #[.pointer (some ⟨9, 52, none⟩), .pointer (some ⟨w.heap.size, 0, none⟩), .int .u64 150]) (w.alloc (.cells #[.pointer (some t)] 52)) := by kernel_rfl
theorem typeP (a : Addr) (w : World) : (ReflectliteValue.methodAny (ReflectliteValue.valueError "reflectlite.Value.Type" 0) (fun t _ _ _ => ReflectliteType.toType t) #[.agg #[.pointer (some ⟨9, 52, none⟩), .pointer (some a), .int .u64 150]]).run Tryz.prog w
    = .ok (.iface 96 (.agg #[.pointer (some ⟨9, 52, none⟩)])) w := by kernel_rfl
theorem methodKind (h : Value) (w : World) : (Go.method 306 96 (.agg #[h]) "Kind").run Tryz.prog w = .ok (144, h) w := by kernel_rfl
theorem kindP (w : World) : ((ReflectliteType.abiMethod fun t => (fun a : Nat => Value.int IntKind.u8 (a : Int)) <$> Rtype.kind t) #[.pointer (some ⟨9, 52, none⟩)]).run Tryz.prog w = .ok (.int .u8 22) w := by kernel_rfl
theorem kindE (w : World) : ((ReflectliteType.abiMethod fun t => (fun a : Nat => Value.int IntKind.u8 (a : Int)) <$> Rtype.kind t) #[.pointer (some ⟨9, 50, none⟩)]).run Tryz.prog w = .ok (.int .u8 25) w := by kernel_rfl
theorem rlm (z : Sem Value) (f : TypeId → Addr → Nat → Nat → Sem Value) (v : Value) :
    ReflectliteValue.method z f #[v] = (do match ← ReflectliteValue.parts v with | none => z | some (t, a, fl) => f t a fl (fl % 32)) := rfl
theorem partsP (a : Addr) (w : World) : (ReflectliteValue.parts (.agg #[.pointer (some ⟨9, 52, none⟩), .pointer (some a), .int .u64 150])).run Tryz.prog w = .ok (some (52, a, 150)) w := by kernel_rfl
theorem isNilP (a p : Addr) (W : World) (ha : W.cell? a = some (.pointer (some p))) :
    (ReflectliteValue.method (ReflectliteValue.valueError "reflectlite.Value.IsNil" 0) ReflectliteValue.isNil #[.agg #[.pointer (some ⟨9, 52, none⟩), .pointer (some a), .int .u64 150]]).run Tryz.prog W = .ok (.bool false) W := by
  rw [rlm]
  simp only [Sem.run_bind, partsP, Result.andThen]
  simp [ReflectliteValue.isNil, loadVar, isAgg, underlying, Tryz.underlying52, ha, Result.andThen]
theorem methodElem (h : Value) (w : World) : (Go.method 306 96 (.agg #[h]) "Elem").run Tryz.prog w = .ok (154, .agg #[h]) w := by kernel_rfl
theorem methodImplements (h : Value) (w : World) : (Go.method 306 96 (.agg #[h]) "Implements").run Tryz.prog w = .ok (155, .agg #[h]) w := by kernel_rfl
theorem methodAssignableTo (h : Value) (w : World) : (Go.method 306 96 (.agg #[h]) "AssignableTo").run Tryz.prog w = .ok (152, .agg #[h]) w := by kernel_rfl
theorem elemP (w : World) : (ReflectliteType.method ReflectliteType.elem #[.agg #[.pointer (some ⟨9, 52, none⟩)]]).run Tryz.prog w = .ok (.iface 96 (.agg #[.pointer (some ⟨9, 50, none⟩)])) w := by kernel_rfl
theorem implementsE (w : World) : (ReflectliteType.relation "Implements" ReflectliteType.implements_ #[.agg #[.pointer (some ⟨9, 50, none⟩)], .iface 96 (.agg #[.pointer (some ⟨9, 46, none⟩)])]).run Tryz.prog w = .ok (.bool true) w := by kernel_rfl
theorem typeOfE (v : Value) (w : World) : (ReflectliteType.typeOf #[.iface 50 v]).run Tryz.prog w = .ok (.iface 96 (.agg #[.pointer (some ⟨9, 50, none⟩)])) w := by kernel_rfl
theorem assignableE (w : World) : (ReflectliteType.relation "AssignableTo" ReflectliteType.assignableTo #[.agg #[.pointer (some ⟨9, 50, none⟩)], .iface 96 (.agg #[.pointer (some ⟨9, 50, none⟩)])]).run Tryz.prog w = .ok (.bool true) w := by kernel_rfl
theorem valueOfE (c m : Int) (w : World) : (ReflectliteValue.unpack (.iface 50 (.agg #[.int .i64 c, .int .i64 m]))).run Tryz.prog w
    = .ok (.agg #[.pointer (some ⟨9, 50, none⟩), .pointer (some ⟨w.heap.size, 0, none⟩), .int .u64 153]) (w.alloc (.cells #[.int .i64 c, .int .i64 m] 50)) := by kernel_rfl
theorem elemOfP (w : World) : (Rtype.elem? 52).run Tryz.prog w = .ok (some 50) w := by kernel_rfl
theorem mkE (p : Addr) (w : World) : (ReflectliteValue.mk 50 p ReflectliteValue.flagAddr).run Tryz.prog w = .ok (.agg #[.pointer (some ⟨9, 50, none⟩), .pointer (some p), .int .u64 409]) w := by kernel_rfl
theorem elemVP (a p : Addr) (W : World) (ha : W.cell? a = some (.pointer (some p))) :
    (ReflectliteValue.method (ReflectliteValue.valueError "reflectlite.Value.Elem" 0) ReflectliteValue.elem #[.agg #[.pointer (some ⟨9, 52, none⟩), .pointer (some a), .int .u64 150]]).run Tryz.prog W
      = .ok (.agg #[.pointer (some ⟨9, 50, none⟩), .pointer (some p), .int .u64 409]) W := by
  rw [rlm]
  simp only [Sem.run_bind, partsP, Result.andThen]
  simp [ReflectliteValue.elem, loadVar, isAgg, underlying, Tryz.underlying52, ha, Result.andThen, elemOfP, mkE]
theorem rls (v x : Value) : ReflectliteValue.set #[v, x] = (do
    let (some (dst, a, fl), some (src, b, _)) := (← ReflectliteValue.parts v, ← ReflectliteValue.parts x)
      | unsupported (.noEntry "extern/(internal/reflectlite.Value).Set.zeroValue")
    if fl / ReflectliteValue.flagAddr % 2 == 0 then unsupported (.noEntry "extern/(internal/reflectlite.Value).Set.unaddressable")
    let val ← loadVar src b
    if ← Rtype.directlyAssignable dst src then storeVar dst a val
    else if ← Rtype.implements dst src then
      if (← Rtype.kind src) == 20 then
        match val with
        | .nilIface => unsupported (.noEntry "extern/reflectlite: a nil value of one interface type handed on as a value of another")
        | _ => storeVar dst a val
      else storeVar dst a (.iface src val)
    else panicString ("reflectlite.Set: value of type " ++ (← Rtype.spelt src) ++ " is not assignable to type " ++ (← Rtype.spelt dst))
    pure (.tuple #[])) := rfl
theorem partsEa (a : Addr) (w : World) : (ReflectliteValue.parts (.agg #[.pointer (some ⟨9, 50, none⟩), .pointer (some a), .int .u64 409])).run Tryz.prog w = .ok (some (50, a, 409)) w := by kernel_rfl
theorem partsE (a : Addr) (w : World) : (ReflectliteValue.parts (.agg #[.pointer (some ⟨9, 50, none⟩), .pointer (some a), .int .u64 153])).run Tryz.prog w = .ok (some (50, a, 153)) w := by kernel_rfl
theorem directE (w : World) : (Rtype.directlyAssignable 50 50).run Tryz.prog w = .ok true w := by kernel_rfl
theorem isAggE (w : World) : (isAgg 50).run Tryz.prog w = .ok true w := by kernel_rfl
theorem sizeE (w : World) : (sizeOf 50).run Tryz.prog w = .ok 2 w := by kernel_rfl
theorem setE (t b : Nat) (c m : Int) (o0 o1 : Value) (W : World) (h0 : W.cell? ⟨b, 0, none⟩ = some (.int .i64 c)) (h1 : W.cell? ⟨b, 1, none⟩ = some (.int .i64 m)) (hT : Own W t 50 [o0, o1]) :
    (ReflectliteValue.set #[.agg #[.pointer (some ⟨9, 50, none⟩), .pointer (some ⟨t, 0, none⟩), .int .u64 409], .agg #[.pointer (some ⟨9, 50, none⟩), .pointer (some ⟨b, 0, none⟩), .int .u64 153]]).run Tryz.prog W
      = .ok (.tuple #[]) ((W.setCell ⟨t, 0, none⟩ (.int .i64 c)).setCell ⟨t, 1, none⟩ (.int .i64 m)) := by
  have t0 := hT.cell 0
  have f0 := hT.frozen 0
  have t1 := (hT.set 0 (.int .i64 c)).cell 1
  have f1 := (hT.set 0 (.int .i64 c)).frozen 1
  simp only [List.getElem?_cons_zero, List.getElem?_cons_succ, List.set_cons_zero] at t0 t1
  rw [rls]
  simp only [Sem.run_bind, partsEa, partsE, Result.andThen]
  simp [ReflectliteValue.flagAddr, loadVar, isAggE, sizeE, loadCells, loadCellsFrom, h0, h1, Result.andThen, directE, storeVar, Value.cells, storeCells, Addr.add]
  rw [run_store Tryz.prog W ⟨t, 0, none⟩ _ _ (by rfl)]
  simp [t0, f0, Result.andThen]
  rw [run_store Tryz.prog _ ⟨t, 1, none⟩ _ _ (by rfl)]
  simp [t1, f1, Result.andThen]
end As

set_option maxHeartbeats 4000000 in
/-- errors.As at an error of the target's own type. -/
theorem as_hit (t : Nat) (c m : Int) (o0 o1 : Value) (w : World) (hg : w.cell? ⟨0, 0, none⟩ = some (.iface 96 (.agg #[.pointer (some ⟨9, 46, none⟩)]))) (hG : 0 < w.heap.size) (hT : Own w t 50 [o0, o1]) :
    Calls Tryz.prog 18 #[.iface 50 (.agg #[.int .i64 c, .int .i64 m]), .iface 52 (.pointer (some ⟨t, 0, none⟩))] w fun ev w' => ev = .returned (.bool true) ∧ w' = (((((w.alloc (.cells #[.pointer (some ⟨t, 0, none⟩)] 52)).alloc (.cells #[.pointer (some ⟨9, 52, none⟩), .pointer (some ⟨w.heap.size, 0, none⟩), .int .u64 150] 70)).alloc (.cells #[.pointer (some ⟨9, 52, none⟩), .pointer (some ⟨w.heap.size, 0, none⟩), .int .u64 150] 70)).alloc (.cells #[.int .i64 c, .int .i64 m] 50)).setCell ⟨t, 0, none⟩ (.int .i64 c)).setCell ⟨t, 1, none⟩ (.int .i64 m) := by
  have h6 := @run_callFunc_extern Tryz.prog 37 _ (fun args => ReflectliteValue.unpack (args.getD 0 (.tuple #[]))) Tryz.func37 (by kernel_rfl) (by kernel_rfl) (by kernel_rfl) (by kernel_rfl)
  have h7 := @run_callFunc_extern Tryz.prog 38 _ (ReflectliteValue.methodAny (ReflectliteValue.valueError "reflectlite.Value.Type" 0) (fun t _ _ _ => ReflectliteType.toType t)) Tryz.func38 (by kernel_rfl) (by kernel_rfl) (by kernel_rfl) (by kernel_rfl)
  have h8 := @run_callFunc_extern Tryz.prog 39 _ (ReflectliteValue.method (ReflectliteValue.valueError "reflectlite.Value.IsNil" 0) ReflectliteValue.isNil) Tryz.func39 (by kernel_rfl) (by kernel_rfl) (by kernel_rfl) (by kernel_rfl)
  have h27 := @run_callFunc_extern Tryz.prog 144 _ (ReflectliteType.abiMethod fun t => do pure (.int .u8 (← Rtype.kind t))) Tryz.func144 (by kernel_rfl) (by kernel_rfl) (by kernel_rfl) (by kernel_rfl)
  have h37 := @run_callFunc_extern Tryz.prog 154 _ (ReflectliteType.method ReflectliteType.elem) Tryz.func154 (by kernel_rfl) (by kernel_rfl) (by kernel_rfl) (by kernel_rfl)
  have h38 := @run_callFunc_extern Tryz.prog 155 _ (ReflectliteType.relation "Implements" ReflectliteType.implements_) Tryz.func155 (by kernel_rfl) (by kernel_rfl) (by kernel_rfl) (by kernel_rfl)
  have h10 := @run_callFunc_extern Tryz.prog 53 _ ReflectliteType.typeOf Tryz.func53 (by kernel_rfl) (by kernel_rfl) (by kernel_rfl) (by kernel_rfl)
  have h35 := @run_callFunc_extern Tryz.prog 152 _ (ReflectliteType.relation "AssignableTo" ReflectliteType.assignableTo) Tryz.func152 (by kernel_rfl) (by kernel_rfl) (by kernel_rfl) (by kernel_rfl)
  have h11 := @run_callFunc_extern Tryz.prog 54 _ (ReflectliteValue.method (ReflectliteValue.valueError "reflectlite.Value.Elem" 0) ReflectliteValue.elem) Tryz.func54 (by kernel_rfl) (by kernel_rfl) (by kernel_rfl) (by kernel_rfl)
  have h12 := @run_callFunc_extern Tryz.prog 55 _ ReflectliteValue.set Tryz.func55 (by kernel_rfl) (by kernel_rfl) (by kernel_rfl) (by kernel_rfl)
  have g0 := As.typeOfE
  have g1 := As.methodAssignableTo
  have g2 := As.assignableE
  have g3 := As.valueOfP
  have g4 := As.typeP
  have g5 := As.methodKind
  have g6 := As.methodElem
  have g7 := As.methodImplements
  have g8 := As.kindP
  have g9 := As.kindE
  have g10 := As.elemP
  have g11 := As.implementsE
  have v0 := As.valueOfE c m
  have hlt := hT.lt
  have n8 := As.isNilP ⟨w.heap.size, 0, none⟩ ⟨t, 0, none⟩ ((w.alloc (.cells #[.pointer (some ⟨t, 0, none⟩)] 52)).alloc (.cells #[.pointer (some ⟨9, 52, none⟩), .pointer (some ⟨w.heap.size, 0, none⟩), .int .u64 150] 70)) (by simp)
  have hg2 : ((w.alloc (.cells #[.pointer (some ⟨t, 0, none⟩)] 52)).alloc (.cells #[.pointer (some ⟨9, 52, none⟩), .pointer (some ⟨w.heap.size, 0, none⟩), .int .u64 150] 70)).cell? ⟨0, 0, none⟩ = some (.iface 96 (.agg #[.pointer (some ⟨9, 46, none⟩)])) := by
    rw [World.cell?_alloc_lt _ _ ⟨0, 0, none⟩ (by rw [World.size_alloc]; show 0 < _; omega), World.cell?_alloc_lt _ _ ⟨0, 0, none⟩ hG]; exact hg
  have el := As.elemVP ⟨w.heap.size, 0, none⟩ ⟨t, 0, none⟩ (((w.alloc (.cells #[.pointer (some ⟨t, 0, none⟩)] 52)).alloc (.cells #[.pointer (some ⟨9, 52, none⟩), .pointer (some ⟨w.heap.size, 0, none⟩), .int .u64 150] 70)).alloc (.cells #[.pointer (some ⟨9, 52, none⟩), .pointer (some ⟨w.heap.size, 0, none⟩), .int .u64 150] 70)) (by rw [World.cell?_alloc_lt _ _ ⟨w.heap.size, 0, none⟩ (by simp; omega)]; simp)
  have hT4 : Own ((((w.alloc (.cells #[.pointer (some ⟨t, 0, none⟩)] 52)).alloc (.cells #[.pointer (some ⟨9, 52, none⟩), .pointer (some ⟨w.heap.size, 0, none⟩), .int .u64 150] 70)).alloc (.cells #[.pointer (some ⟨9, 52, none⟩), .pointer (some ⟨w.heap.size, 0, none⟩), .int .u64 150] 70)).alloc (.cells #[.int .i64 c, .int .i64 m] 50)) t 50 [o0, o1] := (((hT.alloc _).alloc _).alloc _).alloc _
  have OB : Own ((((w.alloc (.cells #[.pointer (some ⟨t, 0, none⟩)] 52)).alloc (.cells #[.pointer (some ⟨9, 52, none⟩), .pointer (some ⟨w.heap.size, 0, none⟩), .int .u64 150] 70)).alloc (.cells #[.pointer (some ⟨9, 52, none⟩), .pointer (some ⟨w.heap.size, 0, none⟩), .int .u64 150] 70)).alloc (.cells #[.int .i64 c, .int .i64 m] 50)) (w.heap.size + 1 + 1 + 1) 50 [.int .i64 c, .int .i64 m] := by
    have h := heap_alloc_new (((w.alloc (.cells #[.pointer (some ⟨t, 0, none⟩)] 52)).alloc (.cells #[.pointer (some ⟨9, 52, none⟩), .pointer (some ⟨w.heap.size, 0, none⟩), .int .u64 150] 70)).alloc (.cells #[.pointer (some ⟨9, 52, none⟩), .pointer (some ⟨w.heap.size, 0, none⟩), .int .u64 150] 70)) (.cells #[.int .i64 c, .int .i64 m] 50)
    simp only [World.size_alloc] at h
    exact ⟨_, h, rfl⟩
  have st := As.setE t (w.heap.size + 1 + 1 + 1) c m o0 o1 ((((w.alloc (.cells #[.pointer (some ⟨t, 0, none⟩)] 52)).alloc (.cells #[.pointer (some ⟨9, 52, none⟩), .pointer (some ⟨w.heap.size, 0, none⟩), .int .u64 150] 70)).alloc (.cells #[.pointer (some ⟨9, 52, none⟩), .pointer (some ⟨w.heap.size, 0, none⟩), .int .u64 150] 70)).alloc (.cells #[.int .i64 c, .int .i64 m] 50)) (OB.cell 0) (OB.cell 1) hT4
  clear hT hT4 OB
  go_enter Tryz.func18, Tryz.ntmps18
  go_wp2
  refine wp_loop_rounds 1 ?_
  rw [rounds_succ]
  go_wp2
  go_ret
  exact ⟨rfl, rfl⟩

/-- The same, told by what stands behind it: the target holds the error, all below it is as it was. -/
theorem as_hits (t : Nat) (c m : Int) (o0 o1 : Value) (w : World) (hg : w.cell? ⟨0, 0, none⟩ = some (.iface 96 (.agg #[.pointer (some ⟨9, 46, none⟩)]))) (hG : 0 < w.heap.size) (hT : Own w t 50 [o0, o1]) :
    Calls Tryz.prog 18 #[.iface 50 (.agg #[.int .i64 c, .int .i64 m]), .iface 52 (.pointer (some ⟨t, 0, none⟩))] w fun ev w' => ev = .returned (.bool true) ∧ Own w' t 50 [.int .i64 c, .int .i64 m] ∧ Below t w w' := by
  refine (as_hit t c m o0 o1 w hg hG hT).mono ?_
  rintro e w' ⟨rfl, rfl⟩
  have hlt := hT.lt
  refine ⟨rfl, ((((((hT.alloc _).alloc _).alloc _).alloc _).set 0 _).set 1 _), ?_⟩
  refine Below.setCell (p := ⟨t, 1, none⟩) (Below.setCell (p := ⟨t, 0, none⟩) ?_ (Nat.le_refl _) _) (Nat.le_refl _) _
  refine (Below.alloc (Below.alloc (Below.alloc (Below.alloc (Below.refl _ _) ?_ _) ?_ _) ?_ _) ?_ _) <;> (simp only [World.size_alloc]; omega)

end Go.Proofs.YtepfdlbnnkojbaaGreatDoor

namespace Go.Proofs.YtepfdlbnnkojbaaGreatDoor
open Go.RowKit
set_option linter.unusedVariables false
set_option linter.unusedSimpArgs false


theorem textR_out {s : ByteArray} (hb : ¬ 4000 < s.size) : J.decOut s = (match J.textR s with | .inl (c, p) => (c, (p : Int), []) | .inr (v, e) => if 200 < v.length then (2, 0, []) else (0, 0, v)) := by
  unfold J.decOut J.textR
  rw [if_neg hb]
  cases J.oneR 21 0 s (J.skip s 0) with
  | inl p => rfl
  | inr p =>
    obtain ⟨v, e⟩ := p
    simp only
    by_cases h : s.size ≤ J.skip s e
    · rw [if_pos h, if_neg (by omega)]
    · rw [if_neg h, if_pos (by omega)]
set_option maxRecDepth 100000 in
set_option maxHeartbeats 4000000 in
theorem impl_DecodeValue (s : ByteArray) (w : World) (hs : s.size ≤ 1048576) (hG : Gs w) : Calls Tryz.prog 6 #[.string s] w (AnsR w (J.decOut s)) := by
  by_cases hbig : 4000 < s.size
  · have fin := hide (show J.decOut s = (2, 0, []) by unfold J.decOut; rw [if_pos hbig])
    have hbz : (4000 : Int) < (s.size : Int) := by omega
    clear hbig
    go_enter Tryz.func6, Tryz.ntmps6
    go_wp2_with fail
    refine bodyPost_ret (v := .agg #[.int .i64 2, .int .i64 0, .slice none 0 0]) (by simp [results, Tryz.results6, go_sem]; try rfl) rfl (ansr_of (unhide fin) (resNil _ _) ((Below.refl _ _).alloc (Nat.le_refl _) _))
  have hbz : ¬ (4000 : Int) < (s.size : Int) := by omega
  have HOUT := hide (textR_out hbig)
  have HW := hide (fun W (hR : Rd W (w.heap.size + 1) 44 s 0 [.int .i64 ((0 : Nat) : Int)]) (hB : Below w.heap.size w W) => wholeText_any (w.heap.size + 1) s W hR (hG.err hB (by omega)) (by omega))
  have HGS := hide hG
  generalize J.textR s = R1 at *
  generalize J.decOut s = OUT at *
  clear hbig hG
  obtain ⟨w1, hw1⟩ : ∃ w1, w1 = (w.alloc (.cells #[.int .i64 0, .int .i64 0, .slice none 0 0] 24)).alloc (.cells #[.string s, .int .i64 0, .int .i64 0] 44) := ⟨_, rfl⟩
  have B1 : Below w.heap.size w w1 := by rw [hw1]; exact ((Below.refl _ _).alloc (Nat.le_refl _) _).alloc (by rw [World.size_alloc]; omega) _
  have O1 : Own w1 w.heap.size 24 [.int .i64 0, .int .i64 0, .slice none 0 0] := by rw [hw1]; exact Own.alloc ⟨_, heap_alloc_new _ _, rfl⟩ _
  have R1' : Rd w1 (w.heap.size + 1) 44 s 0 [.int .i64 ((0 : Nat) : Int)] := by
    have h := heap_alloc_new (w.alloc (.cells #[.int .i64 0, .int .i64 0, .slice none 0 0] 24)) (.cells #[.string s, .int .i64 0, .int .i64 0] 44)
    rw [World.size_alloc] at h
    rw [hw1]; exact ⟨_, h, rfl⟩
  have hs1 : w1.heap.size = w.heap.size + 1 + 1 := by rw [hw1]; simp
  have HS1 := hide hs1
  clear hs1
  go_enter Tryz.func6, Tryz.ntmps6
  go_wp2_with fail
  rw [show ((w.alloc (.cells #[.int .i64 0, .int .i64 0, .slice none 0 0] 24)).alloc (.cells #[.string s, .int .i64 0, .int .i64 0] 44)) = w1 from hw1.symm]
  clear hw1
  refine ((unhide HW) _ R1' B1).mono ?_
  rintro e w2 hS
  have hT : ∃ T : Tch w1.heap.size (w.heap.size + 1) w1 w2, True := by
    rcases hS with ⟨v, m, sv, hq, he, hr, ht⟩ | ⟨c, m, hq, he, ht⟩ <;> exact ⟨ht, trivial⟩
  obtain ⟨ht, -⟩ := hT
  have hs1 := unhide HS1
  have B2 : Below w.heap.size w w2 := B1.trans (ht.below (by omega) (by omega))
  have O2 : Own w2 w.heap.size 24 [.int .i64 0, .int .i64 0, .slice none 0 0] := by
    obtain ⟨xs, h1, h2⟩ := O1
    exact ⟨xs, (ht.block _ (by omega) (by omega)).trans h1, h2⟩
  have hlt2 : w.heap.size + 1 < w2.heap.size := by have := ht.size; omega
  have G2 := hide ((unhide HGS).below B2)
  clear B1 O1 R1' HW ht hs1
  rcases hS with ⟨v, m, sv, hq, rfl, hr, ht⟩ | ⟨c, m, hq, rfl, ht⟩
  · rw [hq] at HOUT
    have hr2 : Res w2 (w.heap.size + 1) sv v := hr.mono (by have := unhide HS1; omega)
    obtain ⟨a, n, cp, rfl, hn⟩ : ∃ a n cp, sv = .slice a n cp ∧ n = v.length := by
      obtain ⟨_, ⟨rfl, rfl⟩ | ⟨b, cap, rfl, _⟩⟩ := hr
      · exact ⟨_, _, _, rfl, rfl⟩
      · exact ⟨_, _, _, rfl, rfl⟩
    have hlen : n ≤ 1048576 := by have := hr2.1; omega
    have B3 := hide (fun o => B2.alloc B2.size o)
    have FR := hide (fun o x0 x1 x2 => ((hr2.alloc o).sets3 (Nat.lt_succ_self _) x0 x1 x2).mono (Nat.le_succ _))
    have c0 : ∀ o, (w2.alloc o).cell? ⟨w.heap.size, 0, none⟩ = some (.int .i64 0) := fun o => (O2.alloc o).cell 0
    have z0 : ∀ o, (w2.alloc o).frozen? ⟨w.heap.size, 0, none⟩ = false := fun o => (O2.alloc o).frozen 0
    have c1 : ∀ o, (w2.alloc o).cell? ⟨w.heap.size, 1, none⟩ = some (.int .i64 0) := fun o => (O2.alloc o).cell 1
    have z1 : ∀ o, (w2.alloc o).frozen? ⟨w.heap.size, 1, none⟩ = false := fun o => (O2.alloc o).frozen 1
    have c2 : ∀ o, (w2.alloc o).cell? ⟨w.heap.size, 2, none⟩ = some (.slice none 0 0) := fun o => (O2.alloc o).cell 2
    have z2 : ∀ o, (w2.alloc o).frozen? ⟨w.heap.size, 2, none⟩ = false := fun o => (O2.alloc o).frozen 2
    clear hr hr2 hq ht B2 O2
    by_cases hmany : 200 < v.length
    · have fin := hide ((unhide HOUT).trans (if_pos hmany))
      have hmz : (200 : Int) < (n : Int) := by omega
      clear hn hmany
      go_wp2_with fail
      refine (as_nil _ _).mono ?_
      rintro e wk ⟨rfl, hwk⟩
      rw [hwk]
      clear hwk
      go_wp2_with fail
      refine bodyPost_ret (v := .agg #[.int .i64 2, .int .i64 0, .slice none 0 0]) (by simp [results, Tryz.results6, go_sem, c0, c1, c2]; try rfl) rfl (ansr_of (unhide fin) (resNil _ _) (sets3 ((unhide B3) _) _ _ _))
    · have fin := hide ((unhide HOUT).trans (if_neg hmany))
      have hmz : ¬ (200 : Int) < (n : Int) := by omega
      clear hn hmany
      go_wp2_with fail
      refine (as_nil _ _).mono ?_
      rintro e wk ⟨rfl, hwk⟩
      rw [hwk]
      clear hwk
      go_wp2_with fail
      refine bodyPost_ret (v := .agg #[.int .i64 0, .int .i64 0, .slice a n cp]) (by simp [results, Tryz.results6, go_sem, c0, c1, c2]; try rfl) rfl (ansr_of (unhide fin) ((unhide FR) _ _ _ _) (sets3 ((unhide B3) _) _ _ _))
  · rw [hq] at HOUT
    have fin := hide (unhide HOUT)
    have HAS := hide (fun o (hT : Own (w2.alloc o) w2.heap.size 50 [.int .i64 0, .int .i64 0]) => as_hits w2.heap.size c (m : Int) (.int .i64 0) (.int .i64 0) (w2.alloc o) ((unhide G2).below ((Below.refl _ _).alloc (Nat.le_refl _) o)).t ((unhide G2).below ((Below.refl _ _).alloc (Nat.le_refl _) o)).tl hT)
    have O3 := hide (fun o => O2.alloc o)
    have B3 := hide (fun o => B2.alloc B2.size o)
    clear hq ht B2 O2
    go_wp2_with fail
    refine ((unhide HAS) _ ⟨_, heap_alloc_new _ _, rfl⟩).mono ?_
    rintro e w4 ⟨rfl, OT, hb4⟩
    have O4 := ((unhide O3) _).below hb4 (by omega)
    have B4 := ((unhide B3) _).trans (hb4.mono (by omega))
    have r0 := OT.cell 0
    have r1 := OT.cell 1
    have c0 := O4.cell 0
    have z0 := O4.frozen 0
    have c1 := O4.cell 1
    have z1 := O4.frozen 1
    have c2 := O4.cell 2
    have z2 := O4.frozen 2
    simp only [List.getElem?_cons_zero, List.getElem?_cons_succ] at r0 r1 c0 c1 c2
    clear hb4 OT O4
    go_wp2_with fail
    refine bodyPost_ret (v := .agg #[.int .i64 c, .int .i64 (m : Int), .slice none 0 0]) (by simp [results, Tryz.results6, go_sem, c0, c1, c2]; try rfl) rfl (ansr_of (unhide fin) (resNil _ _) (sets3 B4 _ _ _))

end Go.Proofs.YtepfdlbnnkojbaaGreatDoor

namespace Go.Proofs.YtepfdlbnnkojbaaGreatDoor
open Go.RowKit
set_option linter.unusedVariables false
set_option linter.unusedSimpArgs false


set_option maxHeartbeats 1000000 in
theorem eqReadResult_any (code at_ : Int) (s s' : Value) (B B' : Nat) (l : List M.Cl) (w : World) (h : Res w B s l) (h' : Res w B' s' l) :
    Calls Tryz.prog 7 #[.agg #[.int .i64 code, .int .i64 at_, s], .agg #[.int .i64 code, .int .i64 at_, s']] w fun e w' => e = .returned (.bool true) ∧ Below w.heap.size w w' := by
  have HB : ∀ o o', Below w.heap.size w ((w.alloc o).alloc o') := fun o o' => ((Below.refl _ _).alloc (Nat.le_refl _) _).alloc (by simp) _
  have H := hide (fun o o' => eqCellS_res s s' B B' l ((w.alloc o).alloc o') ((h.alloc o).alloc o') ((h'.alloc o).alloc o'))
  obtain ⟨a, n, cap, rfl⟩ := h.shape
  obtain ⟨a', n', cap', rfl⟩ := h'.shape
  clear h h'
  have HB' := hide HB
  clear HB
  go_enter Tryz.func7, Tryz.ntmps7
  go_wp2_with fail
  refine ((unhide H) _ _).mono ?_
  rintro e w1 ⟨rfl, hb1⟩
  go_wp2_with fail
  go_ret
  exact ⟨rfl, ((unhide HB') _ _).trans (hb1.mono (by simp <;> omega))⟩

set_option maxHeartbeats 1000000 in
theorem markReadResult_any (code at_ : Int) (s : Value) (B : Nat) (l : List M.Cl) (k : Int) (w : World) (h : Res w B s l) (k0 : 0 ≤ k) (k1 : k ≤ 100000000000) :
    Calls Tryz.prog 8 #[.agg #[.int .i64 code, .int .i64 at_, s], .int .i64 k] w fun e w' => e = .returned (.int .i64 (k + 5 * l.length)) ∧ Res w' B s (marked l.length k) ∧ ButV s w w' := by
  have H := hide (fun o => markCellS_res s B l k (w.alloc o) (h.alloc o) k0 k1)
  have hs := hide h.shape
  obtain ⟨a, n, cap, rfl⟩ := h.shape
  clear h hs
  go_enter Tryz.func8, Tryz.ntmps8
  go_wp2_with fail
  refine ((unhide H) _).mono ?_
  rintro e w1 ⟨rfl, hr, hb⟩
  go_wp2_with fail
  go_ret
  refine ⟨rfl, hr, ⟨hb.os, hb.tape, hb.output, by have := hb.size; simp at this; omega, fun i hi hne => ?_⟩⟩
  rw [hb.block i (by simp; omega) hne]
  exact Below.heap_alloc _ _ _ hi

set_option maxHeartbeats 1000000 in
theorem heldReadResult_any (code at_ : Int) (s : Value) (B n : Nat) (k : Int) (w : World) (h : Res w B s (marked n k)) (k0 : 0 ≤ k) (k1 : k ≤ 100000000000) (hn : n ≤ 1048576) :
    Calls Tryz.prog 9 #[.agg #[.int .i64 code, .int .i64 at_, s], .int .i64 k] w fun e w' => e = .returned (.int .i64 (k + 5 * n)) ∧ Below w.heap.size w w' := by
  have H := hide (fun o => heldCellS_res s B n k (w.alloc o) (h.alloc o) k0 k1)
  obtain ⟨a, m, cap, rfl⟩ := h.shape
  clear h
  go_enter Tryz.func9, Tryz.ntmps9
  go_wp2_with fail
  refine ((unhide H) _).mono ?_
  rintro e w1 ⟨rfl, hb⟩
  go_wp2_with fail
  go_ret
  exact ⟨rfl, ((Below.refl _ _).alloc (Nat.le_refl _) _).trans (hb.mono (by simp))⟩

end Go.Proofs.YtepfdlbnnkojbaaGreatDoor
