/-
  impl.lay: a value is laid on the sheet.
-/
import Derived.Test.YtlbmpldknfcfhaaDoorW18
import Derived.Test.YtlbmpldknfcfhaaDoorW33
import Derived.Test.YtlbmpldknfcfhaaDoorW38
import Derived.Test.YtlbmpldknfcfhaaDoorW43
namespace Go.Proofs.YtlbmpldknfcfhaaDoor
open Go.RowKit
set_option linter.unusedVariables false
set_option linter.unusedSimpArgs false
theorem wp_strApp {P : Program} (w : World) {o : Oper} {a : Act} {K : Act → World → Prop} {Q : Exit → Act → World → Prop} (s x : Operand) (t u : TypeId) (ho : o.op = .call { callee := .builtin .append, args := #[s, x], argTypes := #[t, u] })
    (e : TypeId) (i : TypeInfo) (ht : P.underlying t = some (.slice e)) (hu : P.underlying u = some .string) (hi : P.info? e = some i) (hz : i.zero = some (.int .u8 0)) (hsize : i.size = 1) (hby : i.bytes = 1)
    (base : Nat) (v : Value) (n : Nat) (xs : List Value) (hs : a.eval s = v) (hown : w.ownsRow base e 1 v n xs) (str : ByteArray) (hxv : a.eval x = .string str)
    (h63 : n + str.size ≤ maxLen) (hbytes : n + str.size ≤ 140737488355328) (hbase : base ≤ w.heap.size)
    (h : ∀ v' w', w'.ownsRow base e 1 v' (n + str.size) (xs ++ Lib.strCells str) → w.grownBy w' v.ownBlock → K (a.put o.dst v') w') : Oper.wp P o a w K Q := by
  obtain ⟨v', w', hr, h2, h3, h4⟩ := Lib.run_append_own_string (P := P) w base t u o.type e i ht hu hi hz hsize hby v n xs hown str h63 hbytes hbase
  unfold Oper.wp execOp
  simp only [ho, resolve, invoke, builtin, Sem.run_bind, Sem.run_pure, Result.andThen_ok, List.map_toArray, List.map_cons, List.map_nil, hs, hxv, hr]
  exact h v' w' h2 h3
namespace Pr
theorem n_ge0 {v : List M.Cl} (hv : M.valueFault v = 0) : 0 ≤ (v.getD 0 M.zero).n := by
  have hl := (M.fault_zero hv).1
  have hcd := code_at hv 0 (by omega)
  unfold M.cellCode at hcd
  split at hcd
  · cases hcd
  split at hcd
  · cases hcd
  split at hcd
  · cases hcd
  rename_i h3
  omega
/-- What lies below a block that the room is not below of. -/
theorem Fm.low0 {base0 base SB : Nat} {mode : Option (Nat × Nat)} {w w' : World} (h : Fm base mode SB w w') (h0 : base0 ≤ base) (hm : ∀ g R, mode = some (g, R) → base0 ≤ g) : Below base0 w w' :=
  ⟨h.os, h.tape, h.output, h.size, fun k hk => h.low k (by omega) (fun R e => by have := hm k R e; omega)⟩
theorem tab_mono {B C : Nat} {w : World} {s : String} {k : IntKind} {zs : List Int} (h : Lib.TabBelow Tryd.prog B w s k zs) (hb : B ≤ C) : Lib.TabBelow Tryd.prog C w s k zs := fun w' h' => h w' (h'.mono hb)
theorem partsK_le {g : List M.Cl → List UInt8} {I dp : Nat} {obj : Bool} {ks : List ByteArray} {ps : List (List M.Cl)} {k m : Nat} (h : k ≤ m) : (partsK g I dp obj ks ps k).length ≤ (partsK g I dp obj ks ps m).length := by
  induction m with
  | zero => rw [Nat.le_zero.1 h]; exact Nat.le_refl _
  | succ m ih =>
    rcases Nat.lt_or_ge m k with hk | hk
    · rw [show k = m + 1 by omega]; exact Nat.le_refl _
    · rw [partsK, List.length_append]; have := ih hk; omega
/-- What is asked of a value that is laid on the sheet. -/
structure Inp (base0 base SB I N : Nat) (mode : Option (Nat × Nat)) (f : Nat) (w : World) (v : List M.Cl) (a b off cap dp : Nat) (T Ln : List UInt8) : Prop where
  hv : M.valueFault v = 0
  ha : a < v.length
  hf : (part v a).length ≤ f
  hrow : Row w b off v
  hb : b < base0
  hcap : v.length ≤ cap
  hI : I ≤ 8
  hdp : dp + (part v a).length ≤ 201
  hb0 : base0 ≤ base
  hbw : base ≤ w.heap.size
  hm : ∀ g R, mode = some (g, R) → base0 ≤ g
  hmN : ∀ g R, mode = some (g, R) → N ≤ R
  hN : N ≤ 100000000
  tab : Lib.TabBelow Tryd.prog base0 w "internal/strconv.uint64pow10" .u64 Lib.pow10Tab
  hfit : T.length + Ln.length + (pret I f dp (part v a)).length ≤ N
def Out (base SB I : Nat) (mode : Option (Nat × Nat)) (dp : Nat) (T Ln X : List UInt8) (w w' : World) : Prop :=
  ∃ T' Ln' lv' rv', T' ++ Ln' = T ++ (Ln ++ X) ∧ 0 < Ln'.length ∧ Sh base mode w' SB I dp T' Ln' lv' rv' ∧ Fm base mode SB w w'
def LaySays (base0 base SB I N : Nat) (mode : Option (Nat × Nat)) (f : Nat) : Prop := ∀ (v : List M.Cl) (a b off cap dp : Nat) (T Ln : List UInt8) (lv rv : Value) (w : World), Inp base0 base SB I N mode f w v a b off cap dp T Ln → Sh base mode w SB I dp T Ln lv rv →
  Calls Tryd.prog 39 #[.pointer (some ⟨SB, 0, none⟩), .slice (some ⟨b, off, none⟩) v.length cap, .int .i64 (a : Int)] w fun e w' => e = .returned (.tuple #[]) ∧ Out base SB I mode dp T Ln (pret I f dp (part v a)) w w'
theorem Sh.laid {base SB I O : Nat} {mode : Option (Nat × Nat)} {w w' : World} {T Ln Ln' : List UInt8} {lv rv v' : Value} (h : Sh base mode w SB I O T Ln lv rv) (B1 : Bk base w w') (ho : w'.ownsRow base 5 1 v' Ln'.length (J.bv Ln')) :
    w'.cell? ⟨SB, 3, none⟩ = some lv ∧ w'.frozen? ⟨SB, 3, none⟩ = false ∧ Sh base mode (w'.setCell ⟨SB, 3, none⟩ v') SB I O T Ln' v' rv ∧ Fm base mode SB w (w'.setCell ⟨SB, 3, none⟩ v') := by
  have O1 := B1.own h.own (by decide)
  exact ⟨O1.cell 3, O1.frozen 3, h.lined B1 ho, (Fm.ofBk B1).trans (Fm.sheet _ h.lo 3 _)⟩

set_option maxRecDepth 100000 in
set_option maxHeartbeats 4000000 in
theorem lay_leaf {base0 base SB I N : Nat} {mode : Option (Nat × Nat)} (f : Nat) (v : List M.Cl) (a b off cap dp : Nat) (T Ln : List UInt8) (lv rv : Value) (w : World) (hp : Inp base0 base SB I N mode (f + 1) w v a b off cap dp T Ln) (h : Sh base mode w SB I dp T Ln lv rv) (h0 : (v.getD a M.zero).n = 0) :
    Calls Tryd.prog 39 #[.pointer (some ⟨SB, 0, none⟩), .slice (some ⟨b, off, none⟩) v.length cap, .int .i64 (a : Int)] w fun e w' => e = .returned (.tuple #[]) ∧ Out base SB I mode dp T Ln (pret I (f + 1) dp (part v a)) w w' := by
  obtain ⟨hv, ha, hf, hrow, hb, hcap, hI, hdp, hb0, hbw, hm, hmN, hN, tab, hfit⟩ := hp
  have h200 := (M.fault_zero hv).2.1
  have hpl := part_len hv ha
  have hge := end_gt hv ha
  rw [pret_part_leaf I f dp hv ha h0] at hfit ⊢
  obtain ⟨la, ln, lc, rfl⟩ := h.shaped
  have HA := hide (appendText_any 200 v a b off cap base (.slice la ln lc) Ln w hv ha (by omega) hrow (by omega) hcap hbw (by omega) h.line (tab_mono tab hb0))
  have hne : 0 < (J.encL 200 (part v a)).length := List.length_pos_iff.2 (encL_ne 199 _)
  obtain ⟨E, hE⟩ : ∃ E, E = J.encL 200 (part v a) := ⟨_, rfl⟩
  rw [← hE] at HA hfit hne ⊢
  clear hE
  obtain ⟨f0, f1, f2, f3, f4⟩ := hrow a ha
  have aI : (a : Int) < (v.length : Int) := by omega
  have a0 : (0 : Int) ≤ (a : Int) := by omega
  have c3 : w.cell? ⟨SB, 3, none⟩ = some (.slice la ln lc) := h.own.cell 3
  rw [h0] at f4
  have HSH := hide h
  clear h hv ha hf hrow hpl hge tab
  go_enter Tryd.func39, Tryd.ntmps39
  go_wp2_with fail
  refine (unhide HA).mono ?_
  rintro e w1 ⟨v1, rfl, ho1, hB1⟩
  obtain ⟨c31, z31, S1, F1⟩ := (unhide HSH).laid hB1 ho1
  obtain ⟨xa1, xn1, xc1, rfl⟩ := owns_shape ho1
  have HS1 := hide S1
  have HF1 := hide F1
  clear HA ho1 hB1 S1 F1 HSH f0 f1 f2 f3 f4 c3
  go_wp2_with fail
  (try simp only [Exit.inBlock, Exit.then])
  refine bodyPost_ret (results_none rfl _ _ _) rfl ?_
  exact ⟨rfl, T, Ln ++ E, _, _, rfl, by rw [List.length_append]; omega, unhide HS1, unhide HF1⟩

set_option maxRecDepth 100000 in
set_option maxHeartbeats 16000000 in
theorem lay_arr {base0 base SB I N : Nat} {mode : Option (Nat × Nat)} (f : Nat) (v : List M.Cl) (a b off cap dp : Nat) (T Ln : List UInt8) (lv rv : Value) (w : World) (hp : Inp base0 base SB I N mode (f + 1) w v a b off cap dp T Ln) (h : Sh base mode w SB I dp T Ln lv rv) (ih : Hid (LaySays base0 base SB I N mode f)) (h0 : ¬ (v.getD a M.zero).n = 0) (h6 : ¬ (v.getD a M.zero).kind = 6) :
    Calls Tryd.prog 39 #[.pointer (some ⟨SB, 0, none⟩), .slice (some ⟨b, off, none⟩) v.length cap, .int .i64 (a : Int)] w fun e w' => e = .returned (.tuple #[]) ∧ Out base SB I mode dp T Ln (pret I (f + 1) dp (part v a)) w w' := by
  obtain ⟨hv, ha, hf, hrow, hb, hcap, hI, hdp, hb0, hbw, hm, hmN, hN, tab, hfit⟩ := hp
  obtain ⟨i0, hi, hz0, hz1, hz2⟩ := info_parts Tryd.info5
  have h200 := (M.fault_zero hv).2.1
  have hpl := part_len hv ha
  have hge := end_gt hv ha
  have hOB : decide ((v.getD a M.zero).kind = 6) = false := decide_eq_false h6
  rw [pret_part_more I f dp hv ha h0, hOB] at hfit ⊢
  have HAT := hide (fun k hk => Al.at_place hv ha (k := k) hk)
  have HKY := hide (fun k (hk : k < M.arity v a) => (show (v.getD (M.iter v k (a + 1)) M.zero).key.size ≤ 60 from (J.code_text (code_at hv _ (Al.at_place hv ha hk).lt)).2.1))
  obtain ⟨m, hmm⟩ : ∃ m, m = M.arity v a := ⟨_, rfl⟩
  have hA : m ≤ 200 := by rw [hmm]; exact (M.places_in hv a ha).2.2.2
  have hA1 : 1 ≤ m := by
    have hn : 0 ≤ (v.getD a M.zero).n := by have := n_ge0 (part_valid hv ha); rw [part_zero hv ha] at this; exact this
    rw [hmm]; unfold M.arity; omega
  have HINP := hide (fun W (F : Fm base mode SB w W) => (show Row W b off v ∧ Lib.TabBelow Tryd.prog base0 W "internal/strconv.uint64pow10" .u64 Lib.pow10Tab from ⟨hrow.below (F.low0 hb0 hm) hb, tab.on (F.low0 hb0 hm)⟩))
  have HCP := hide (fun W (F : Fm base mode SB w W) => childPlaces_any v b off cap a W hv ha ((unhide HINP) W F).1 (by have := F.size; omega) hcap)
  have HCELL := hide (fun W (F : Fm base mode SB w W) => (((unhide HINP) W F).1 a ha))
  obtain ⟨PK, hPK⟩ : ∃ PK, PK = partsK (pret I f (dp + 1)) I dp false (keysAt v a) (subs v a) := ⟨_, rfl⟩
  have HP0 := hide (show PK 0 = [] by rw [hPK]; rfl)
  have HPS := hide (show ∀ k, PK (k + 1) = PK k ++ (ahead I dp false (keysAt v a) k ++ pret I f (dp + 1) ((subs v a).getD k [])) from fun k => by rw [hPK]; rfl)
  have HPM := hide (show ∀ k, k ≤ m → (PK k).length ≤ (PK m).length from fun k hk => by rw [hPK]; exact partsK_le hk)
  rw [← hPK, ← hmm] at hfit ⊢
  rw [← hmm] at HAT HKY HCP
  have HIFR := hide (fun k (hk : k ≤ M.arity v a) => firstPl_getD v a k)
  have HMM := hide hmm
  clear hPK hmm HIFR
  have hmul := mul_bd hI (show dp ≤ 201 by omega)
  have hmul1 := mul_bd hI (show dp + 1 ≤ 201 by omega)
  have hfl : (PK m).length + (I * dp + 1) + 2 + T.length + Ln.length ≤ N := by
    rw [List.length_append, List.length_append, List.length_append, lineL_length] at hfit
    have e1 : (opens false).length = 1 := rfl
    have e2 : (shuts false).length = 1 := rfl
    omega
  obtain ⟨f0, f1, f2, f3, f4⟩ := hrow a ha
  have aI : (a : Int) < (v.length : Int) := by omega
  have a0 : (0 : Int) ≤ (a : Int) := by omega
  obtain ⟨la, ln, lc, rfl⟩ := h.shaped
  have HSH := hide h
  have HV := hide hv
  have HVL := hide hpl
  have hlo := h.lo
  have HMN := hide hmN
  have HMB := hide hm
  have HTAB := hide tab
  clear h hrow tab hfit hge hm hmN
  generalize hcell : v.getD a M.zero = c at *
  have HCC := hide hcell
  have hn0 : (c.n == 0) = false := by simp [h0]
  have hk6 : (c.kind == 6) = false := by simp [h6]
  clear hcell h0 h6 hOB HCC
  have hLN : Ln.length ≤ 100000000 := by omega
  go_enter Tryd.func39, Tryd.ntmps39
  go_upto_region 5 with fail
  have KLa := hide (show ∀ V : World, V.heap[SB]? = w.heap[SB]? → V.cell? ⟨SB, 3, none⟩ = some (.slice la ln lc) from fun V hV => (blk_cell hV).trans ((unhide HSH).own.cell 3))
  have hltSa := (unhide HSH).own.lt
  have hbWa : base ≤ w.heap.size := by have := (unhide HSH).lo; omega
  refine Z.region 11 (fun V => V.heap[SB]? = w.heap[SB]?) (by kernel_rfl) rfl (fun hHeld => ?_)
  refine Z.take (i := 0) (d := 31) (v := .pointer (some ⟨SB, 0, none⟩)) rfl rfl (by kernel_rfl) (by kernel_rfl) (by kernel_rfl) (by kernel_rfl) (fun _ _ _ h => h) (Or.inl ⟨by rfl, ?_⟩) hHeld ?_
  · intro w' hSw; go_simp
  simp only [Act.put, List.setIfInBounds_toArray, List.set_cons_zero, List.set_cons_succ]
  refine Z.take (i := 1) (d := 32) (v := .pointer (some ⟨SB, 0, none⟩)) rfl rfl (by kernel_rfl) (by kernel_rfl) (by kernel_rfl) (by kernel_rfl) (fun _ _ _ h => h) (Or.inl ⟨by rfl, ?_⟩) hHeld ?_
  · intro w' hSw; go_simp
  simp only [Act.put, List.setIfInBounds_toArray, List.set_cons_zero, List.set_cons_succ]
  refine Z.take (i := 2) (d := 33) (v := .pointer (some ⟨SB, 0, none⟩)) rfl rfl (by kernel_rfl) (by kernel_rfl) (by kernel_rfl) (by kernel_rfl) (fun _ _ _ h => h) (Or.inl ⟨by rfl, ?_⟩) hHeld ?_
  · intro w' hSw; go_simp
  simp only [Act.put, List.setIfInBounds_toArray, List.set_cons_zero, List.set_cons_succ]
  refine Z.take (i := 3) (d := 34) (v := .pointer (some ⟨SB, 3, none⟩)) rfl rfl (by kernel_rfl) (by kernel_rfl) (by kernel_rfl) (by kernel_rfl) (fun _ _ _ h => h) (Or.inl ⟨by rfl, ?_⟩) hHeld ?_
  · intro w' hSw; go_simp
  simp only [Act.put, List.setIfInBounds_toArray, List.set_cons_zero, List.set_cons_succ]
  refine Z.take (i := 4) (d := 35) (v := .slice la ln lc) rfl rfl (by kernel_rfl) (by kernel_rfl) (by kernel_rfl) (by kernel_rfl) (fun _ _ _ h => h) (Or.inl ⟨by rfl, ?_⟩) hHeld ?_
  · intro w' hSw; have g1 := (unhide KLa) _ hSw; go_simp
  simp only [Act.put, List.setIfInBounds_toArray, List.set_cons_zero, List.set_cons_succ]
  refine Z.take (i := 5) (d := 36) (v := .string ⟨#[91, 93]⟩) rfl rfl (by kernel_rfl) (by kernel_rfl) (by kernel_rfl) (by kernel_rfl) (fun _ _ _ h => h) (Or.inl ⟨by rfl, ?_⟩) hHeld ?_
  · intro w' hSw; go_simp
  simp only [Act.put, List.setIfInBounds_toArray, List.set_cons_zero, List.set_cons_succ]
  refine Z.take (i := 6) (d := 37) (v := .int .u8 91) rfl rfl (by kernel_rfl) (by kernel_rfl) (by kernel_rfl) (by kernel_rfl) (fun _ _ _ h => h) (Or.inl ⟨by rfl, ?_⟩) hHeld ?_
  · intro w' hSw; go_simp; first | done | rfl
  simp only [Act.put, List.setIfInBounds_toArray, List.set_cons_zero, List.set_cons_succ]
  obtain ⟨W4, hW4⟩ : ∃ W4, W4 = (w.alloc (.cells #[.int .u8 91] 5)).drew := ⟨_, rfl⟩
  have B4 : Bk base w W4 := by rw [hW4]; exact ((Bk.refl _ _).alloc hbWa _).drew
  have honea : ∀ j u, ([Value.int .u8 91] : List Value)[j]? = some u → W4.cell? ((⟨w.heap.size, 0, none⟩ : Addr).add j) = some u := by rw [hW4]; exact J.one_word w 91
  have HRW4 : W4.ownsRow base 5 1 (.slice la ln lc) Ln.length (J.bv Ln) := by rw [hW4]; exact (unhide HSH).line.alloc _
  have S4 : W4.heap[SB]? = w.heap[SB]? := by rw [hW4]; exact heap_alloc_old _ _ hltSa
  refine Z.ready (rs := [7]) (by kernel_rfl) (by simp) (Z.val_cons (i := 7) (d := 38) (v := .slice (some ⟨w.heap.size, 0, none⟩) 1 1) (w' := W4) rfl (by rfl) (fun K hK => ?_) (fun _ => S4) ?_ Z.All.nil)
  · go_simp
    first | rw [← hW4] | (rw [← World.drew_alloc_try, ← hW4]) | skip
    exact hK.out
  simp only [Act.put, List.setIfInBounds_toArray, List.set_cons_zero, List.set_cons_succ]
  clear hW4
  refine Z.only (i := 8) (d := 39) rfl rfl (by kernel_rfl) (by rfl) (fun K hK => ?_)
  refine Al.wp_rowN _ (.tmp 35) (.tmp 38) 46 rfl 5 i0 (.int .u8 0) 1 1 Tryd.underlying46 hi hz0 hz1 hz2 rfl (by decide) base (.slice la ln lc) Ln.length (J.bv Ln) rfl HRW4 (.slice (some ⟨w.heap.size, 0, none⟩) 1 1) rfl 1 [.int .u8 91] rfl (.inr ⟨_, 1, rfl, honea⟩) (by intro u hu; rw [List.mem_singleton.1 hu]; rfl) (by unfold maxLen; omega) (by omega) (Nat.le_trans hbWa B4.1.size) ?_
  intro v5 W5 ho5 hg5 hn5
  have ho5' : W5.ownsRow base 5 1 v5 (Ln ++ [(91 : UInt8)]).length (J.bv (Ln ++ [(91 : UInt8)])) := by rw [List.length_append, ← J.bv_snoc]; exact ho5
  obtain ⟨B5, c35, z35, S5, F5⟩ := (unhide HSH).pushed hbWa B4 ho5' hg5 HRW4
  have HB5 : W5.heap[SB]? = w.heap[SB]? := (hg5.block SB (Nat.lt_of_lt_of_le hltSa B4.1.size) (fun e => by
    obtain ⟨c', fz', h6⟩ := J.owns_row HRW4 SB e.symm
    obtain ⟨c'', q1, _⟩ := (unhide HSH).own
    rw [S4, q1] at h6
    injection h6 with h6
    injection h6 with _ q2
    revert q2; decide)).trans S4
  have HSa := hide S5
  have HFa := hide F5
  obtain ⟨yaa, yna, yca, hya⟩ := owns_shape ho5
  subst hya
  refine hK.out (.slice yaa yna yca) W5 HB5 ?_
  clear hK K ho5 ho5' hg5 hn5 B4 HRW4 honea S4 B5 S5 F5
  simp only [Act.put, List.setIfInBounds_toArray, List.set_cons_zero, List.set_cons_succ]
  refine Z.ready (rs := [9]) (by kernel_rfl) (by simp) (Z.val_cons (i := 9) (d := 40) (v := .pointer (some ⟨SB, 0, none⟩)) (w' := W5) rfl (by rfl) (fun K hK => ?_) (fun _ => HB5) ?_ Z.All.nil)
  · go_simp
    exact hK.out
  simp only [Act.put, List.setIfInBounds_toArray, List.set_cons_zero, List.set_cons_succ]
  refine Z.take (i := 10) (d := 41) (v := .pointer (some ⟨SB, 3, none⟩)) rfl rfl (by kernel_rfl) (by kernel_rfl) (by kernel_rfl) (by kernel_rfl) (fun _ _ _ h => h) (Or.inl ⟨by rfl, ?_⟩) HB5 ?_
  · intro w' hSw; go_simp
  simp only [Act.put, List.setIfInBounds_toArray, List.set_cons_zero, List.set_cons_succ]
  refine Z.last_at (w' := W5.setCell ⟨SB, 3, none⟩ (.slice yaa yna yca)) rfl (by kernel_rfl) (by rfl) (fun K hK => ?_) ?_
  · go_simp
    exact hK.out
  refine Z.done (by kernel_rfl) ?_ _
  clear KLa c35 z35 HB5 hHeld hltSa hbWa
  generalize W5.setCell ⟨SB, 3, none⟩ (.slice yaa yna yca) = W6 at *
  have F6 := unhide HFa
  have c1 : W6.cell? ⟨SB, 1, none⟩ = some (.int .u64 (dp : Int)) := (unhide HSa).own.cell 1
  have z1 : W6.frozen? ⟨SB, 1, none⟩ = false := (unhide HSa).own.frozen 1
  have hwr : IntKind.u64.wrap ((dp : Int) + 1) = (dp : Int) + 1 := u64_small (by omega) (by omega)
  have S7 := hide (show Sh base mode (W6.setCell ⟨SB, 1, none⟩ (.int .u64 ((dp : Int) + 1))) SB I (dp + 1) T (Ln ++ [91]) (.slice yaa yna yca) rv from (unhide HSa).opened (O' := dp + 1))
  have F7 := hide (F6.trans (Fm.sheet _ hlo 1 (.int .u64 ((dp : Int) + 1))))
  have HCP7 := hide ((unhide HCP) _ (unhide F7))
  clear f0 f1 f2 f3 f4 F6 HSH HFa HSa HCP
  go_wp2_with fail
  refine (unhide HCP7).mono ?_
  rintro e w8 ⟨sa, rfl, hra, hb8⟩
  generalize W6.setCell ⟨SB, 1, none⟩ (.int .u64 ((dp : Int) + 1)) = W7 at *
  have hb7 : base ≤ W7.heap.size := Nat.le_trans hbw (unhide F7).size
  have S8 := hide ((unhide S7).below hb8)
  have F8 := hide ((unhide F7).trans (Fm.ofBelow hb8 hb7))
  clear HCP7 S7 F7 hb8 c1 z1 hwr
  obtain ⟨_, ⟨rfl, hnil⟩ | ⟨ba, ca, rfl, _, hca, hoa⟩⟩ := hra
  · exfalso
    have := congrArg List.length hnil
    rw [firstPl_length] at this
    simp at this
    omega
  rw [firstPl_length] at hca ⊢
  have HOA := hide hoa
  have HBA : Hid (ba ≠ SB) := hide (fun e => by
    obtain ⟨ys, y1, _⟩ := hoa
    obtain ⟨c1, q1, _⟩ := y1
    obtain ⟨c2, q2, _⟩ := (unhide S8).own
    rw [e, q2] at q1
    injection q1 with q1
    injection q1 with _ q3
    revert q3; decide)
  clear hoa
  go_wp2_with fail
  go_loopg [7, 8, 53] m (fun gh s7 s8 s53 wr => ∃ (k : Nat) (T1 Ln1 : List UInt8) (lv1 rv1 : Value), Hid (gh = m - k) ∧ s53 = .int .i64 (k : Int) ∧ k ≤ m ∧ Hid (Sh base mode wr SB I (dp + 1) T1 Ln1 lv1 rv1) ∧ Hid (Fm base mode SB w wr) ∧ Hid (OwnI wr ba (firstPl v a m)) ∧ Hid (T1 ++ Ln1 = T ++ (Ln ++ ([91] ++ PK k))) ∧ T1.length + Ln1.length = T.length + Ln.length + 1 + (PK k).length)
  case atStart => exact ⟨0, T, Ln ++ [91], _, _, rfl, rfl, by omega, unhide S8, unhide F8, unhide HOA, by rw [unhide HP0]; rfl, by rw [unhide HP0, List.length_append]; simp; omega⟩
  case round =>
    clear S8 F8 HOA
    obtain ⟨k, T1, Ln1, lv1, rv1, hg, rfl, hk, hS1, hF1, hOI, hTL, hLL⟩ := hrel
    have hpm := (unhide HPM) k hk
    obtain ⟨xa, xn, xc, hlv1⟩ := hS1.out.shaped
    subst hlv1
    have hb1 : base ≤ wr.heap.size := Nat.le_trans hbw hF1.out.size
    by_cases hlt : k < m
    · have hat := (unhide HAT) k hlt
      have fa := hOI.out.cell (i := k) (by rw [firstPl_length]; exact hlt)
      rw [firstPl_getD v a m k hlt] at fa
      have hky := (unhide HKY) k hlt
      have hpm1 := (unhide HPM) (k + 1) (by omega)
      have hps := (unhide HPS) k
      have hup := hat.up
      have hlen := hat.len
      have hplt := hat.lt
      have hkey := hat.key
      have hsub := hat.sub
      have hlow := hat.lo
      rw [hsub] at hps
      unfold ahead at hps
      rw [hkey] at hps
      generalize M.iter v k (a + 1) = p at *
      clear hat hkey hsub
      have hltI : (k : Int) < (m : Int) := by omega
      have hk0 : (0 : Int) ≤ (k : Int) := by omega
      have pI : (p : Int) < (v.length : Int) := by omega
      have p0 : (0 : Int) ≤ (p : Int) := by omega
      have HPART := hide (show 1 ≤ (part v p).length ∧ (part v p).length + 1 ≤ (part v a).length from ⟨by have := part_len (unhide HV) hplt; have := (end_gt (unhide HV) hplt).1; omega, by omega⟩)
      obtain ⟨hp1, hp2⟩ := unhide HPART
      clear hup hlen hlow HPART
      generalize hKYN : (v.getD p M.zero).key = KY at *
      have HKYN := hide hKYN
      clear hKYN
      obtain ⟨G, hG⟩ : ∃ G, G = pret I f (dp + 1) (part v p) := ⟨_, rfl⟩
      rw [← hG] at hps
      by_cases hkk : k = 0
      · have hkI : ¬ (0 : Int) < (k : Int) := by omega
        have hkz : k = 0 := by omega
        rw [if_pos hkz] at hps
        clear hkz hkk
        obtain ⟨LA, hLA⟩ : ∃ LA, LA = Ln1 := ⟨_, rfl⟩
        have HLA := hide (show LA = Ln1 ++ ([] : List UInt8) by rw [hLA, List.append_nil])
        rw [← hLA] at hS1 hLL
        have HLL := hide (show T1.length + LA.length = T.length + Ln.length + 1 + (PK k).length from hLL)
        have HS2 := hide hS1.out
        have HF2 := hide hF1.out
        clear hLA hS1 hF1 hLL

        have hll := unhide HLL
        have hpl2 := congrArg List.length hps
        simp only [List.length_append, lineL_length, List.length_cons, List.length_nil, if_false, Bool.false_eq_true, if_neg, not_false_eq_true] at hpl2
        have HB3 := hide (beginLine_any (unhide HS2) hI (by omega) (Nat.le_trans hbw (unhide HF2).size) (by omega) (fun g R e => by have := (unhide HMN) g R e; omega))
        have HOI2 := hide (hOI.out)
        clear HS2 hOI
        go_wp2_with fail
        refine (unhide HB3).mono ?_
        rintro e w3 ⟨rfl, lv3, rv3, S3, F3⟩
        have HF3 := hide ((unhide HF2).trans F3)
        obtain ⟨ra3, rn3, rc3, hlv3⟩ := S3.shaped
        subst hlv3
        have HS3 := hide S3
        have HOI3 := hide (show OwnI w3 ba (firstPl v a m) by
          obtain ⟨ys, y1, y2⟩ := unhide HOI2
          exact ⟨ys, F3.own y1 (by decide) (unhide HBA), y2⟩)
        have hbl : (List.replicate (I * (dp + 1)) (32 : UInt8)).length = I * (dp + 1) := List.length_replicate
        obtain ⟨BL, hBL⟩ : ∃ BL, BL = List.replicate (I * (dp + 1)) (32 : UInt8) := ⟨_, rfl⟩
        rw [← hBL] at HS3 hbl
        have HBL := hide hBL
        obtain ⟨T3, hT3⟩ : ∃ T3, T3 = T1 ++ (LA ++ [10]) := ⟨_, rfl⟩
        have hlT3 : T3.length = T1.length + LA.length + 1 := by rw [hT3]; simp; omega
        rw [← hT3] at HS3
        have HT3 := hide hT3
        clear hBL hT3 S3 F3 HB3 HOI2 HF2 HLL fa
        obtain ⟨g0, g1, g2, g3, g4⟩ := (unhide HCELL) w3 (unhide HF3)

        have HOIX := hide (fun w20 (F20 : Fm base mode SB w3 w20) => (show OwnI w20 ba (firstPl v a m) by
          obtain ⟨ys, y1, y2⟩ := unhide HOI3
          exact ⟨ys, F20.own y1 (by decide) (unhide HBA), y2⟩))
        clear HOI3

        have HIH := hide (ih.out v p b off cap (dp + 1) T3 (BL) _ _ w3 ⟨unhide HV, hplt, by omega, ((unhide HINP) w3 (unhide HF3)).1, hb, hcap, hI, by omega, hb0, Nat.le_trans hbw (unhide HF3).size, unhide HMB, unhide HMN, hN, ((unhide HINP) w3 (unhide HF3)).2, by rw [← hG]; omega⟩ (unhide HS3))
        rw [← hG] at HIH
        clear HS3
        go_wp2_with fail
        refine (unhide HIH).mono ?_
        rintro e w20 ⟨rfl, T20, Ln20, lv20, rv20, h20, hn20, S20, F20⟩
        have OI20 := (unhide HOIX) w20 F20
        have HF20 := hide ((unhide HF3).trans F20)
        have HS20 := hide S20
        have HE20 := hide (show T20 ++ Ln20 = T ++ (Ln ++ ([91] ++ PK (k + 1))) by
          rw [h20, hps]
          rw [unhide HT3, unhide HBL, unhide HLA]
          rw [show T1 ++ (Ln1 ++ [] ++ [10]) ++ (List.replicate (I * (dp + 1)) 32 ++ G) = (T1 ++ Ln1) ++ ([] ++ (lineL (I * (dp + 1)) ++ G)) by simp [lineL]]
          rw [hTL.out]
          simp [List.append_assoc])
        have HLE20 := hide (show T20.length + Ln20.length = T.length + Ln.length + 1 + (PK (k + 1)).length by
          have := congrArg List.length (unhide HE20)
          simp only [List.length_append, List.length_cons, List.length_nil] at this
          omega)
        clear HIH S20 F20 h20
        go_wp2_with fail
        go_roundg (m - (k + 1))
        case rel => exact ⟨k + 1, T20, Ln20, _, _, rfl, by go_num, by omega, unhide HS20, unhide HF20, OI20, unhide HE20, unhide HLE20⟩
        case measure => have := hg.out; omega
      · have hkI : (0 : Int) < (k : Int) := by omega
        have hkz : ¬ k = 0 := by omega
        rw [if_neg hkz] at hps
        clear hkz hkk
        have c3 : wr.cell? ⟨SB, 3, none⟩ = some (.slice xa xn xc) := hS1.out.own.cell 3
        have hown1 := hide (fun o => hS1.out.line.alloc o)
        have hone := hide (J.one_word wr 44)
        have honep := hide (J.one_plain 44)
        have hb63 : Ln1.length + 1 ≤ maxLen := by unfold maxLen; omega
        have hby : (Ln1.length + 1) * 1 ≤ 140737488355328 := by omega
        go_wp2_with (at_builtin; refine wpList_append_own _ rfl (.tmp 64) (.tmp 65) 46 rfl base 5 i0 (.int .u8 0) 1 1 Tryd.underlying46 hi hz0 hz1 hz2 rfl (by decide) _ Ln1.length _ rfl ((unhide hown1) _) ⟨wr.heap.size, 0, none⟩ 1 1 [.int .u8 44] rfl rfl (unhide hone) (unhide honep) hb63 hby (by simp; omega) ?_)
        intro vA wA hoA hgA _
        have hoA' : wA.ownsRow base 5 1 vA (Ln1 ++ [44]).length (J.bv (Ln1 ++ [44])) := by rw [List.length_append, ← J.bv_snoc]; exact hoA
        obtain ⟨BA, c3A, z3A, SA, FA⟩ := hS1.out.pushed hb1 ((Bk.refl _ _).alloc hb1 _) hoA' hgA ((unhide hown1) _)
        obtain ⟨xaA, xnA, xcA, rfl⟩ := owns_shape hoA
        obtain ⟨LA, hLA⟩ : ∃ LA, LA = Ln1 ++ [(44 : UInt8)] := ⟨_, rfl⟩
        have HLA := hide hLA
        rw [← hLA] at SA
        have HLL := hide (show T1.length + LA.length = T.length + Ln.length + 1 + (PK k).length + 1 by rw [hLA, List.length_append]; simp; omega)
        have HS2 := hide SA
        have HF2 := hide (hF1.out.trans FA)
        have hOA : OwnI (wA.setCell ⟨SB, 3, none⟩ (.slice xaA xnA xcA)) ba (firstPl v a m) := by
          obtain ⟨ys, y1, y2⟩ := hOI.out
          exact ⟨ys, FA.own y1 (by decide) (unhide HBA), y2⟩
        clear hLA hS1 hF1 hLL hgA hoA hoA' hown1 hone honep hb63 hby c3 SA FA BA

        have hll := unhide HLL
        have hpl2 := congrArg List.length hps
        simp only [List.length_append, lineL_length, List.length_cons, List.length_nil, if_false, Bool.false_eq_true, if_neg, not_false_eq_true] at hpl2
        have HB3 := hide (beginLine_any (unhide HS2) hI (by omega) (Nat.le_trans hbw (unhide HF2).size) (by omega) (fun g R e => by have := (unhide HMN) g R e; omega))
        have HOI2 := hide (hOA)
        clear HS2 hOI hOA
        go_wp2_with fail
        refine (unhide HB3).mono ?_
        rintro e w3 ⟨rfl, lv3, rv3, S3, F3⟩
        have HF3 := hide ((unhide HF2).trans F3)
        obtain ⟨ra3, rn3, rc3, hlv3⟩ := S3.shaped
        subst hlv3
        have HS3 := hide S3
        have HOI3 := hide (show OwnI w3 ba (firstPl v a m) by
          obtain ⟨ys, y1, y2⟩ := unhide HOI2
          exact ⟨ys, F3.own y1 (by decide) (unhide HBA), y2⟩)
        have hbl : (List.replicate (I * (dp + 1)) (32 : UInt8)).length = I * (dp + 1) := List.length_replicate
        obtain ⟨BL, hBL⟩ : ∃ BL, BL = List.replicate (I * (dp + 1)) (32 : UInt8) := ⟨_, rfl⟩
        rw [← hBL] at HS3 hbl
        have HBL := hide hBL
        obtain ⟨T3, hT3⟩ : ∃ T3, T3 = T1 ++ (LA ++ [10]) := ⟨_, rfl⟩
        have hlT3 : T3.length = T1.length + LA.length + 1 := by rw [hT3]; simp; omega
        rw [← hT3] at HS3
        have HT3 := hide hT3
        clear hBL hT3 S3 F3 HB3 HOI2 HF2 HLL fa c3A z3A
        obtain ⟨g0, g1, g2, g3, g4⟩ := (unhide HCELL) w3 (unhide HF3)

        have HOIX := hide (fun w20 (F20 : Fm base mode SB w3 w20) => (show OwnI w20 ba (firstPl v a m) by
          obtain ⟨ys, y1, y2⟩ := unhide HOI3
          exact ⟨ys, F20.own y1 (by decide) (unhide HBA), y2⟩))
        clear HOI3

        have HIH := hide (ih.out v p b off cap (dp + 1) T3 (BL) _ _ w3 ⟨unhide HV, hplt, by omega, ((unhide HINP) w3 (unhide HF3)).1, hb, hcap, hI, by omega, hb0, Nat.le_trans hbw (unhide HF3).size, unhide HMB, unhide HMN, hN, ((unhide HINP) w3 (unhide HF3)).2, by rw [← hG]; omega⟩ (unhide HS3))
        rw [← hG] at HIH
        clear HS3
        go_wp2_with fail
        refine (unhide HIH).mono ?_
        rintro e w20 ⟨rfl, T20, Ln20, lv20, rv20, h20, hn20, S20, F20⟩
        have OI20 := (unhide HOIX) w20 F20
        have HF20 := hide ((unhide HF3).trans F20)
        have HS20 := hide S20
        have HE20 := hide (show T20 ++ Ln20 = T ++ (Ln ++ ([91] ++ PK (k + 1))) by
          rw [h20, hps]
          rw [unhide HT3, unhide HBL, unhide HLA]
          rw [show T1 ++ (Ln1 ++ [44] ++ [10]) ++ (List.replicate (I * (dp + 1)) 32 ++ G) = (T1 ++ Ln1) ++ ([44] ++ (lineL (I * (dp + 1)) ++ G)) by simp [lineL]]
          rw [hTL.out]
          simp [List.append_assoc])
        have HLE20 := hide (show T20.length + Ln20.length = T.length + Ln.length + 1 + (PK (k + 1)).length by
          have := congrArg List.length (unhide HE20)
          simp only [List.length_append, List.length_cons, List.length_nil] at this
          omega)
        clear HIH S20 F20 h20
        go_wp2_with fail
        go_roundg (m - (k + 1))
        case rel => exact ⟨k + 1, T20, Ln20, _, _, rfl, by go_num, by omega, unhide HS20, unhide HF20, OI20, unhide HE20, unhide HLE20⟩
        case measure => have := hg.out; omega
    · have hke : k = m := by omega
      subst hke
      have hwr2 : IntKind.u64.wrap (dp : Int) = (dp : Int) := u64_small (by omega) (by omega)
      have hwr3 : IntKind.u64.wrap ((dp : Int) + 1 - 1) = (dp : Int) := by rw [Int.add_sub_cancel]; exact hwr2
      have c1 : wr.cell? ⟨SB, 1, none⟩ = some (.int .u64 ((dp : Int) + 1)) := hS1.out.own.cell 1
      have z1 : wr.frozen? ⟨SB, 1, none⟩ = false := hS1.out.own.frozen 1
      have S9 := hS1.out.opened (O' := dp)
      have F9 := hF1.out.trans (Fm.sheet _ hlo 1 (.int .u64 (dp : Int)))
      have HB9 := hide (beginLine_any S9 hI (by omega) (Nat.le_trans hbw F9.size) (by omega) (fun g R e => by have := (unhide HMN) g R e; omega))
      have HF9 := hide F9
      have HTL := hide hTL.out
      clear S9 F9 hS1 hF1 hOI hTL
      go_wp2_with fail
      refine (unhide HB9).mono ?_
      rintro e w10 ⟨rfl, lv10, rv10, S10, F10⟩
      have HF10 := hide ((unhide HF9).trans F10)
      obtain ⟨ra1, rn1, rc1, hlv10⟩ := S10.shaped
      subst hlv10
      have HS10 := hide S10
      have hbl : (List.replicate (I * dp) (32 : UInt8)).length ≤ 1608 := by rw [List.length_replicate]; omega
      obtain ⟨BL, hBL⟩ : ∃ BL, BL = List.replicate (I * dp) (32 : UInt8) := ⟨_, rfl⟩
      rw [← hBL] at HS10 hbl
      have HBL := hide hBL
      clear hBL S10 F10 HB9 HF9 c1 z1 hwr2 hwr3
      generalize wr.setCell ⟨SB, 1, none⟩ (.int .u64 (dp : Int)) = W9 at *
      go_upto_region 19 with fail
      have KLb := hide (show ∀ V : World, V.heap[SB]? = w10.heap[SB]? → V.cell? ⟨SB, 3, none⟩ = some (.slice ra1 rn1 rc1) from fun V hV => (blk_cell hV).trans ((unhide HS10).own.cell 3))
      have hltSb := (unhide HS10).own.lt
      have hbWb : base ≤ w10.heap.size := by have := (unhide HS10).lo; omega
      refine Z.region 11 (fun V => V.heap[SB]? = w10.heap[SB]?) (by kernel_rfl) rfl (fun hHeld => ?_)
      refine Z.take (i := 0) (d := 105) (v := .pointer (some ⟨SB, 0, none⟩)) rfl rfl (by kernel_rfl) (by kernel_rfl) (by kernel_rfl) (by kernel_rfl) (fun _ _ _ h => h) (Or.inl ⟨by rfl, ?_⟩) hHeld ?_
      · intro w' hSw; go_simp
      simp only [Act.put, List.setIfInBounds_toArray, List.set_cons_zero, List.set_cons_succ]
      refine Z.take (i := 1) (d := 106) (v := .pointer (some ⟨SB, 0, none⟩)) rfl rfl (by kernel_rfl) (by kernel_rfl) (by kernel_rfl) (by kernel_rfl) (fun _ _ _ h => h) (Or.inl ⟨by rfl, ?_⟩) hHeld ?_
      · intro w' hSw; go_simp
      simp only [Act.put, List.setIfInBounds_toArray, List.set_cons_zero, List.set_cons_succ]
      refine Z.take (i := 2) (d := 107) (v := .pointer (some ⟨SB, 0, none⟩)) rfl rfl (by kernel_rfl) (by kernel_rfl) (by kernel_rfl) (by kernel_rfl) (fun _ _ _ h => h) (Or.inl ⟨by rfl, ?_⟩) hHeld ?_
      · intro w' hSw; go_simp
      simp only [Act.put, List.setIfInBounds_toArray, List.set_cons_zero, List.set_cons_succ]
      refine Z.take (i := 3) (d := 108) (v := .pointer (some ⟨SB, 3, none⟩)) rfl rfl (by kernel_rfl) (by kernel_rfl) (by kernel_rfl) (by kernel_rfl) (fun _ _ _ h => h) (Or.inl ⟨by rfl, ?_⟩) hHeld ?_
      · intro w' hSw; go_simp
      simp only [Act.put, List.setIfInBounds_toArray, List.set_cons_zero, List.set_cons_succ]
      refine Z.take (i := 4) (d := 109) (v := .slice ra1 rn1 rc1) rfl rfl (by kernel_rfl) (by kernel_rfl) (by kernel_rfl) (by kernel_rfl) (fun _ _ _ h => h) (Or.inl ⟨by rfl, ?_⟩) hHeld ?_
      · intro w' hSw; have g1 := (unhide KLb) _ hSw; go_simp
      simp only [Act.put, List.setIfInBounds_toArray, List.set_cons_zero, List.set_cons_succ]
      refine Z.take (i := 5) (d := 110) (v := .string ⟨#[91, 93]⟩) rfl rfl (by kernel_rfl) (by kernel_rfl) (by kernel_rfl) (by kernel_rfl) (fun _ _ _ h => h) (Or.inl ⟨by rfl, ?_⟩) hHeld ?_
      · intro w' hSw; go_simp
      simp only [Act.put, List.setIfInBounds_toArray, List.set_cons_zero, List.set_cons_succ]
      refine Z.take (i := 6) (d := 111) (v := .int .u8 93) rfl rfl (by kernel_rfl) (by kernel_rfl) (by kernel_rfl) (by kernel_rfl) (fun _ _ _ h => h) (Or.inl ⟨by rfl, ?_⟩) hHeld ?_
      · intro w' hSw; go_simp; first | done | rfl
      simp only [Act.put, List.setIfInBounds_toArray, List.set_cons_zero, List.set_cons_succ]
      obtain ⟨W4, hW4⟩ : ∃ W4, W4 = (w10.alloc (.cells #[.int .u8 93] 5)).drew := ⟨_, rfl⟩
      have B4 : Bk base w10 W4 := by rw [hW4]; exact ((Bk.refl _ _).alloc hbWb _).drew
      have honeb : ∀ j u, ([Value.int .u8 93] : List Value)[j]? = some u → W4.cell? ((⟨w10.heap.size, 0, none⟩ : Addr).add j) = some u := by rw [hW4]; exact J.one_word w10 93
      have HRW4 : W4.ownsRow base 5 1 (.slice ra1 rn1 rc1) BL.length (J.bv BL) := by rw [hW4]; exact (unhide HS10).line.alloc _
      have S4 : W4.heap[SB]? = w10.heap[SB]? := by rw [hW4]; exact heap_alloc_old _ _ hltSb
      refine Z.ready (rs := [7]) (by kernel_rfl) (by simp) (Z.val_cons (i := 7) (d := 112) (v := .slice (some ⟨w10.heap.size, 0, none⟩) 1 1) (w' := W4) rfl (by rfl) (fun K hK => ?_) (fun _ => S4) ?_ Z.All.nil)
      · go_simp
        first | rw [← hW4] | (rw [← World.drew_alloc_try, ← hW4]) | skip
        exact hK.out
      simp only [Act.put, List.setIfInBounds_toArray, List.set_cons_zero, List.set_cons_succ]
      clear hW4
      refine Z.only (i := 8) (d := 113) rfl rfl (by kernel_rfl) (by rfl) (fun K hK => ?_)
      refine Al.wp_rowN _ (.tmp 109) (.tmp 112) 46 rfl 5 i0 (.int .u8 0) 1 1 Tryd.underlying46 hi hz0 hz1 hz2 rfl (by decide) base (.slice ra1 rn1 rc1) BL.length (J.bv BL) rfl HRW4 (.slice (some ⟨w10.heap.size, 0, none⟩) 1 1) rfl 1 [.int .u8 93] rfl (.inr ⟨_, 1, rfl, honeb⟩) (by intro u hu; rw [List.mem_singleton.1 hu]; rfl) (by unfold maxLen; omega) (by omega) (Nat.le_trans hbWb B4.1.size) ?_
      intro v5 W5 ho5 hg5 hn5
      have ho5' : W5.ownsRow base 5 1 v5 (BL ++ [(93 : UInt8)]).length (J.bv (BL ++ [(93 : UInt8)])) := by rw [List.length_append, ← J.bv_snoc]; exact ho5
      obtain ⟨B5, c35, z35, S5, F5⟩ := (unhide HS10).pushed hbWb B4 ho5' hg5 HRW4
      have HB5 : W5.heap[SB]? = w10.heap[SB]? := (hg5.block SB (Nat.lt_of_lt_of_le hltSb B4.1.size) (fun e => by
        obtain ⟨c', fz', h6⟩ := J.owns_row HRW4 SB e.symm
        obtain ⟨c'', q1, _⟩ := (unhide HS10).own
        rw [S4, q1] at h6
        injection h6 with h6
        injection h6 with _ q2
        revert q2; decide)).trans S4
      have HSb := hide S5
      have HFb := hide F5
      obtain ⟨yab, ynb, ycb, hyb⟩ := owns_shape ho5
      subst hyb
      refine hK.out (.slice yab ynb ycb) W5 HB5 ?_
      clear hK K ho5 ho5' hg5 hn5 B4 HRW4 honeb S4 B5 S5 F5
      simp only [Act.put, List.setIfInBounds_toArray, List.set_cons_zero, List.set_cons_succ]
      refine Z.ready (rs := [9]) (by kernel_rfl) (by simp) (Z.val_cons (i := 9) (d := 114) (v := .pointer (some ⟨SB, 0, none⟩)) (w' := W5) rfl (by rfl) (fun K hK => ?_) (fun _ => HB5) ?_ Z.All.nil)
      · go_simp
        exact hK.out
      simp only [Act.put, List.setIfInBounds_toArray, List.set_cons_zero, List.set_cons_succ]
      refine Z.take (i := 10) (d := 115) (v := .pointer (some ⟨SB, 3, none⟩)) rfl rfl (by kernel_rfl) (by kernel_rfl) (by kernel_rfl) (by kernel_rfl) (fun _ _ _ h => h) (Or.inl ⟨by rfl, ?_⟩) HB5 ?_
      · intro w' hSw; go_simp
      simp only [Act.put, List.setIfInBounds_toArray, List.set_cons_zero, List.set_cons_succ]
      refine Z.last_at (w' := W5.setCell ⟨SB, 3, none⟩ (.slice yab ynb ycb)) rfl (by kernel_rfl) (by rfl) (fun K hK => ?_) ?_
      · go_simp
        exact hK.out
      refine Z.done (by kernel_rfl) ?_ _
      clear KLb c35 z35 HB5 hHeld hltSb hbWb
      generalize W5.setCell ⟨SB, 3, none⟩ (.slice yab ynb ycb) = W12 at *
      go_wp2_with fail
      go_end0
      refine ⟨rfl, T1 ++ (Ln1 ++ [10]), BL ++ [93], _, _, ?_, by rw [List.length_append]; simp, unhide HSb, (unhide HF10).trans (unhide HFb)⟩
      have e1 : T1 ++ (Ln1 ++ [10]) ++ (BL ++ [93]) = (T1 ++ Ln1) ++ (lineL (I * dp) ++ shuts false) := by rw [unhide HBL]; simp [lineL, shuts]
      rw [e1, unhide HTL]
      simp [opens, List.append_assoc]

set_option maxRecDepth 100000 in
set_option maxHeartbeats 16000000 in
theorem lay_obj {base0 base SB I N : Nat} {mode : Option (Nat × Nat)} (f : Nat) (v : List M.Cl) (a b off cap dp : Nat) (T Ln : List UInt8) (lv rv : Value) (w : World) (hp : Inp base0 base SB I N mode (f + 1) w v a b off cap dp T Ln) (h : Sh base mode w SB I dp T Ln lv rv) (ih : Hid (LaySays base0 base SB I N mode f)) (h0 : ¬ (v.getD a M.zero).n = 0) (h6 : (v.getD a M.zero).kind = 6) :
    Calls Tryd.prog 39 #[.pointer (some ⟨SB, 0, none⟩), .slice (some ⟨b, off, none⟩) v.length cap, .int .i64 (a : Int)] w fun e w' => e = .returned (.tuple #[]) ∧ Out base SB I mode dp T Ln (pret I (f + 1) dp (part v a)) w w' := by
  obtain ⟨hv, ha, hf, hrow, hb, hcap, hI, hdp, hb0, hbw, hm, hmN, hN, tab, hfit⟩ := hp
  obtain ⟨i0, hi, hz0, hz1, hz2⟩ := info_parts Tryd.info5
  have h200 := (M.fault_zero hv).2.1
  have hpl := part_len hv ha
  have hge := end_gt hv ha
  have hOB : decide ((v.getD a M.zero).kind = 6) = true := decide_eq_true h6
  rw [pret_part_more I f dp hv ha h0, hOB] at hfit ⊢
  have HAT := hide (fun k hk => Al.at_place hv ha (k := k) hk)
  have HKY := hide (fun k (hk : k < M.arity v a) => (show (v.getD (M.iter v k (a + 1)) M.zero).key.size ≤ 60 from (J.code_text (code_at hv _ (Al.at_place hv ha hk).lt)).2.1))
  obtain ⟨m, hmm⟩ : ∃ m, m = M.arity v a := ⟨_, rfl⟩
  have hA : m ≤ 200 := by rw [hmm]; exact (M.places_in hv a ha).2.2.2
  have hA1 : 1 ≤ m := by
    have hn : 0 ≤ (v.getD a M.zero).n := by have := n_ge0 (part_valid hv ha); rw [part_zero hv ha] at this; exact this
    rw [hmm]; unfold M.arity; omega
  have HINP := hide (fun W (F : Fm base mode SB w W) => (show Row W b off v ∧ Lib.TabBelow Tryd.prog base0 W "internal/strconv.uint64pow10" .u64 Lib.pow10Tab from ⟨hrow.below (F.low0 hb0 hm) hb, tab.on (F.low0 hb0 hm)⟩))
  have HCP := hide (fun W (F : Fm base mode SB w W) => childPlaces_any v b off cap a W hv ha ((unhide HINP) W F).1 (by have := F.size; omega) hcap)
  have HCELL := hide (fun W (F : Fm base mode SB w W) => (((unhide HINP) W F).1 a ha))
  obtain ⟨PK, hPK⟩ : ∃ PK, PK = partsK (pret I f (dp + 1)) I dp true (keysAt v a) (subs v a) := ⟨_, rfl⟩
  have HP0 := hide (show PK 0 = [] by rw [hPK]; rfl)
  have HPS := hide (show ∀ k, PK (k + 1) = PK k ++ (ahead I dp true (keysAt v a) k ++ pret I f (dp + 1) ((subs v a).getD k [])) from fun k => by rw [hPK]; rfl)
  have HPM := hide (show ∀ k, k ≤ m → (PK k).length ≤ (PK m).length from fun k hk => by rw [hPK]; exact partsK_le hk)
  rw [← hPK, ← hmm] at hfit ⊢
  rw [← hmm] at HAT HKY HCP
  have HIFR := hide (fun k (hk : k ≤ M.arity v a) => firstPl_getD v a k)
  have HMM := hide hmm
  clear hPK hmm HIFR
  have hmul := mul_bd hI (show dp ≤ 201 by omega)
  have hmul1 := mul_bd hI (show dp + 1 ≤ 201 by omega)
  have hfl : (PK m).length + (I * dp + 1) + 2 + T.length + Ln.length ≤ N := by
    rw [List.length_append, List.length_append, List.length_append, lineL_length] at hfit
    have e1 : (opens true).length = 1 := rfl
    have e2 : (shuts true).length = 1 := rfl
    omega
  obtain ⟨f0, f1, f2, f3, f4⟩ := hrow a ha
  have aI : (a : Int) < (v.length : Int) := by omega
  have a0 : (0 : Int) ≤ (a : Int) := by omega
  obtain ⟨la, ln, lc, rfl⟩ := h.shaped
  have HSH := hide h
  have HV := hide hv
  have HVL := hide hpl
  have hlo := h.lo
  have HMN := hide hmN
  have HMB := hide hm
  have HTAB := hide tab
  clear h hrow tab hfit hge hm hmN
  generalize hcell : v.getD a M.zero = c at *
  have HCC := hide hcell
  have hn0 : (c.n == 0) = false := by simp [h0]
  have hk6 : (c.kind == 6) = true := by simp [h6]
  clear hcell h0 h6 hOB HCC
  have hLN : Ln.length ≤ 100000000 := by omega
  go_enter Tryd.func39, Tryd.ntmps39
  go_upto_region 5 with fail
  have KLa := hide (show ∀ V : World, V.heap[SB]? = w.heap[SB]? → V.cell? ⟨SB, 3, none⟩ = some (.slice la ln lc) from fun V hV => (blk_cell hV).trans ((unhide HSH).own.cell 3))
  have hltSa := (unhide HSH).own.lt
  have hbWa : base ≤ w.heap.size := by have := (unhide HSH).lo; omega
  refine Z.region 11 (fun V => V.heap[SB]? = w.heap[SB]?) (by kernel_rfl) rfl (fun hHeld => ?_)
  refine Z.take (i := 0) (d := 31) (v := .pointer (some ⟨SB, 0, none⟩)) rfl rfl (by kernel_rfl) (by kernel_rfl) (by kernel_rfl) (by kernel_rfl) (fun _ _ _ h => h) (Or.inl ⟨by rfl, ?_⟩) hHeld ?_
  · intro w' hSw; go_simp
  simp only [Act.put, List.setIfInBounds_toArray, List.set_cons_zero, List.set_cons_succ]
  refine Z.take (i := 1) (d := 32) (v := .pointer (some ⟨SB, 0, none⟩)) rfl rfl (by kernel_rfl) (by kernel_rfl) (by kernel_rfl) (by kernel_rfl) (fun _ _ _ h => h) (Or.inl ⟨by rfl, ?_⟩) hHeld ?_
  · intro w' hSw; go_simp
  simp only [Act.put, List.setIfInBounds_toArray, List.set_cons_zero, List.set_cons_succ]
  refine Z.take (i := 2) (d := 33) (v := .pointer (some ⟨SB, 0, none⟩)) rfl rfl (by kernel_rfl) (by kernel_rfl) (by kernel_rfl) (by kernel_rfl) (fun _ _ _ h => h) (Or.inl ⟨by rfl, ?_⟩) hHeld ?_
  · intro w' hSw; go_simp
  simp only [Act.put, List.setIfInBounds_toArray, List.set_cons_zero, List.set_cons_succ]
  refine Z.take (i := 3) (d := 34) (v := .pointer (some ⟨SB, 3, none⟩)) rfl rfl (by kernel_rfl) (by kernel_rfl) (by kernel_rfl) (by kernel_rfl) (fun _ _ _ h => h) (Or.inl ⟨by rfl, ?_⟩) hHeld ?_
  · intro w' hSw; go_simp
  simp only [Act.put, List.setIfInBounds_toArray, List.set_cons_zero, List.set_cons_succ]
  refine Z.take (i := 4) (d := 35) (v := .slice la ln lc) rfl rfl (by kernel_rfl) (by kernel_rfl) (by kernel_rfl) (by kernel_rfl) (fun _ _ _ h => h) (Or.inl ⟨by rfl, ?_⟩) hHeld ?_
  · intro w' hSw; have g1 := (unhide KLa) _ hSw; go_simp
  simp only [Act.put, List.setIfInBounds_toArray, List.set_cons_zero, List.set_cons_succ]
  refine Z.take (i := 5) (d := 36) (v := .string ⟨#[123, 125]⟩) rfl rfl (by kernel_rfl) (by kernel_rfl) (by kernel_rfl) (by kernel_rfl) (fun _ _ _ h => h) (Or.inl ⟨by rfl, ?_⟩) hHeld ?_
  · intro w' hSw; go_simp
  simp only [Act.put, List.setIfInBounds_toArray, List.set_cons_zero, List.set_cons_succ]
  refine Z.take (i := 6) (d := 37) (v := .int .u8 123) rfl rfl (by kernel_rfl) (by kernel_rfl) (by kernel_rfl) (by kernel_rfl) (fun _ _ _ h => h) (Or.inl ⟨by rfl, ?_⟩) hHeld ?_
  · intro w' hSw; go_simp; first | done | rfl
  simp only [Act.put, List.setIfInBounds_toArray, List.set_cons_zero, List.set_cons_succ]
  obtain ⟨W4, hW4⟩ : ∃ W4, W4 = (w.alloc (.cells #[.int .u8 123] 5)).drew := ⟨_, rfl⟩
  have B4 : Bk base w W4 := by rw [hW4]; exact ((Bk.refl _ _).alloc hbWa _).drew
  have honea : ∀ j u, ([Value.int .u8 123] : List Value)[j]? = some u → W4.cell? ((⟨w.heap.size, 0, none⟩ : Addr).add j) = some u := by rw [hW4]; exact J.one_word w 123
  have HRW4 : W4.ownsRow base 5 1 (.slice la ln lc) Ln.length (J.bv Ln) := by rw [hW4]; exact (unhide HSH).line.alloc _
  have S4 : W4.heap[SB]? = w.heap[SB]? := by rw [hW4]; exact heap_alloc_old _ _ hltSa
  refine Z.ready (rs := [7]) (by kernel_rfl) (by simp) (Z.val_cons (i := 7) (d := 38) (v := .slice (some ⟨w.heap.size, 0, none⟩) 1 1) (w' := W4) rfl (by rfl) (fun K hK => ?_) (fun _ => S4) ?_ Z.All.nil)
  · go_simp
    first | rw [← hW4] | (rw [← World.drew_alloc_try, ← hW4]) | skip
    exact hK.out
  simp only [Act.put, List.setIfInBounds_toArray, List.set_cons_zero, List.set_cons_succ]
  clear hW4
  refine Z.only (i := 8) (d := 39) rfl rfl (by kernel_rfl) (by rfl) (fun K hK => ?_)
  refine Al.wp_rowN _ (.tmp 35) (.tmp 38) 46 rfl 5 i0 (.int .u8 0) 1 1 Tryd.underlying46 hi hz0 hz1 hz2 rfl (by decide) base (.slice la ln lc) Ln.length (J.bv Ln) rfl HRW4 (.slice (some ⟨w.heap.size, 0, none⟩) 1 1) rfl 1 [.int .u8 123] rfl (.inr ⟨_, 1, rfl, honea⟩) (by intro u hu; rw [List.mem_singleton.1 hu]; rfl) (by unfold maxLen; omega) (by omega) (Nat.le_trans hbWa B4.1.size) ?_
  intro v5 W5 ho5 hg5 hn5
  have ho5' : W5.ownsRow base 5 1 v5 (Ln ++ [(123 : UInt8)]).length (J.bv (Ln ++ [(123 : UInt8)])) := by rw [List.length_append, ← J.bv_snoc]; exact ho5
  obtain ⟨B5, c35, z35, S5, F5⟩ := (unhide HSH).pushed hbWa B4 ho5' hg5 HRW4
  have HB5 : W5.heap[SB]? = w.heap[SB]? := (hg5.block SB (Nat.lt_of_lt_of_le hltSa B4.1.size) (fun e => by
    obtain ⟨c', fz', h6⟩ := J.owns_row HRW4 SB e.symm
    obtain ⟨c'', q1, _⟩ := (unhide HSH).own
    rw [S4, q1] at h6
    injection h6 with h6
    injection h6 with _ q2
    revert q2; decide)).trans S4
  have HSa := hide S5
  have HFa := hide F5
  obtain ⟨yaa, yna, yca, hya⟩ := owns_shape ho5
  subst hya
  refine hK.out (.slice yaa yna yca) W5 HB5 ?_
  clear hK K ho5 ho5' hg5 hn5 B4 HRW4 honea S4 B5 S5 F5
  simp only [Act.put, List.setIfInBounds_toArray, List.set_cons_zero, List.set_cons_succ]
  refine Z.ready (rs := [9]) (by kernel_rfl) (by simp) (Z.val_cons (i := 9) (d := 40) (v := .pointer (some ⟨SB, 0, none⟩)) (w' := W5) rfl (by rfl) (fun K hK => ?_) (fun _ => HB5) ?_ Z.All.nil)
  · go_simp
    exact hK.out
  simp only [Act.put, List.setIfInBounds_toArray, List.set_cons_zero, List.set_cons_succ]
  refine Z.take (i := 10) (d := 41) (v := .pointer (some ⟨SB, 3, none⟩)) rfl rfl (by kernel_rfl) (by kernel_rfl) (by kernel_rfl) (by kernel_rfl) (fun _ _ _ h => h) (Or.inl ⟨by rfl, ?_⟩) HB5 ?_
  · intro w' hSw; go_simp
  simp only [Act.put, List.setIfInBounds_toArray, List.set_cons_zero, List.set_cons_succ]
  refine Z.last_at (w' := W5.setCell ⟨SB, 3, none⟩ (.slice yaa yna yca)) rfl (by kernel_rfl) (by rfl) (fun K hK => ?_) ?_
  · go_simp
    exact hK.out
  refine Z.done (by kernel_rfl) ?_ _
  clear KLa c35 z35 HB5 hHeld hltSa hbWa
  generalize W5.setCell ⟨SB, 3, none⟩ (.slice yaa yna yca) = W6 at *
  have F6 := unhide HFa
  have c1 : W6.cell? ⟨SB, 1, none⟩ = some (.int .u64 (dp : Int)) := (unhide HSa).own.cell 1
  have z1 : W6.frozen? ⟨SB, 1, none⟩ = false := (unhide HSa).own.frozen 1
  have hwr : IntKind.u64.wrap ((dp : Int) + 1) = (dp : Int) + 1 := u64_small (by omega) (by omega)
  have S7 := hide (show Sh base mode (W6.setCell ⟨SB, 1, none⟩ (.int .u64 ((dp : Int) + 1))) SB I (dp + 1) T (Ln ++ [123]) (.slice yaa yna yca) rv from (unhide HSa).opened (O' := dp + 1))
  have F7 := hide (F6.trans (Fm.sheet _ hlo 1 (.int .u64 ((dp : Int) + 1))))
  have HCP7 := hide ((unhide HCP) _ (unhide F7))
  clear f0 f1 f2 f3 f4 F6 HSH HFa HSa HCP
  go_wp2_with fail
  refine (unhide HCP7).mono ?_
  rintro e w8 ⟨sa, rfl, hra, hb8⟩
  generalize W6.setCell ⟨SB, 1, none⟩ (.int .u64 ((dp : Int) + 1)) = W7 at *
  have hb7 : base ≤ W7.heap.size := Nat.le_trans hbw (unhide F7).size
  have S8 := hide ((unhide S7).below hb8)
  have F8 := hide ((unhide F7).trans (Fm.ofBelow hb8 hb7))
  clear HCP7 S7 F7 hb8 c1 z1 hwr
  obtain ⟨_, ⟨rfl, hnil⟩ | ⟨ba, ca, rfl, _, hca, hoa⟩⟩ := hra
  · exfalso
    have := congrArg List.length hnil
    rw [firstPl_length] at this
    simp at this
    omega
  rw [firstPl_length] at hca ⊢
  have HOA := hide hoa
  have HBA : Hid (ba ≠ SB) := hide (fun e => by
    obtain ⟨ys, y1, _⟩ := hoa
    obtain ⟨c1, q1, _⟩ := y1
    obtain ⟨c2, q2, _⟩ := (unhide S8).own
    rw [e, q2] at q1
    injection q1 with q1
    injection q1 with _ q3
    revert q3; decide)
  clear hoa
  go_wp2_with fail
  go_loopg [7, 8, 53] m (fun gh s7 s8 s53 wr => ∃ (k : Nat) (T1 Ln1 : List UInt8) (lv1 rv1 : Value), Hid (gh = m - k) ∧ s53 = .int .i64 (k : Int) ∧ k ≤ m ∧ Hid (Sh base mode wr SB I (dp + 1) T1 Ln1 lv1 rv1) ∧ Hid (Fm base mode SB w wr) ∧ Hid (OwnI wr ba (firstPl v a m)) ∧ Hid (T1 ++ Ln1 = T ++ (Ln ++ ([123] ++ PK k))) ∧ T1.length + Ln1.length = T.length + Ln.length + 1 + (PK k).length)
  case atStart => exact ⟨0, T, Ln ++ [123], _, _, rfl, rfl, by omega, unhide S8, unhide F8, unhide HOA, by rw [unhide HP0]; rfl, by rw [unhide HP0, List.length_append]; simp; omega⟩
  case round =>
    clear S8 F8 HOA
    obtain ⟨k, T1, Ln1, lv1, rv1, hg, rfl, hk, hS1, hF1, hOI, hTL, hLL⟩ := hrel
    have hpm := (unhide HPM) k hk
    obtain ⟨xa, xn, xc, hlv1⟩ := hS1.out.shaped
    subst hlv1
    have hb1 : base ≤ wr.heap.size := Nat.le_trans hbw hF1.out.size
    by_cases hlt : k < m
    · have hat := (unhide HAT) k hlt
      have fa := hOI.out.cell (i := k) (by rw [firstPl_length]; exact hlt)
      rw [firstPl_getD v a m k hlt] at fa
      have hky := (unhide HKY) k hlt
      have hpm1 := (unhide HPM) (k + 1) (by omega)
      have hps := (unhide HPS) k
      have hup := hat.up
      have hlen := hat.len
      have hplt := hat.lt
      have hkey := hat.key
      have hsub := hat.sub
      have hlow := hat.lo
      rw [hsub] at hps
      unfold ahead at hps
      rw [hkey] at hps
      generalize M.iter v k (a + 1) = p at *
      clear hat hkey hsub
      have hltI : (k : Int) < (m : Int) := by omega
      have hk0 : (0 : Int) ≤ (k : Int) := by omega
      have pI : (p : Int) < (v.length : Int) := by omega
      have p0 : (0 : Int) ≤ (p : Int) := by omega
      have HPART := hide (show 1 ≤ (part v p).length ∧ (part v p).length + 1 ≤ (part v a).length from ⟨by have := part_len (unhide HV) hplt; have := (end_gt (unhide HV) hplt).1; omega, by omega⟩)
      obtain ⟨hp1, hp2⟩ := unhide HPART
      clear hup hlen hlow HPART
      generalize hKYN : (v.getD p M.zero).key = KY at *
      have HKYN := hide hKYN
      clear hKYN
      obtain ⟨G, hG⟩ : ∃ G, G = pret I f (dp + 1) (part v p) := ⟨_, rfl⟩
      rw [← hG] at hps
      by_cases hkk : k = 0
      · have hkI : ¬ (0 : Int) < (k : Int) := by omega
        have hkz : k = 0 := by omega
        rw [if_pos hkz] at hps
        clear hkz hkk
        obtain ⟨LA, hLA⟩ : ∃ LA, LA = Ln1 := ⟨_, rfl⟩
        have HLA := hide (show LA = Ln1 ++ ([] : List UInt8) by rw [hLA, List.append_nil])
        rw [← hLA] at hS1 hLL
        have HLL := hide (show T1.length + LA.length = T.length + Ln.length + 1 + (PK k).length from hLL)
        have HS2 := hide hS1.out
        have HF2 := hide hF1.out
        clear hLA hS1 hF1 hLL

        have hll := unhide HLL
        have hpl2 := congrArg List.length hps
        simp only [List.length_append, lineL_length, List.length_cons, List.length_nil, if_true] at hpl2
        have HB3 := hide (beginLine_any (unhide HS2) hI (by omega) (Nat.le_trans hbw (unhide HF2).size) (by omega) (fun g R e => by have := (unhide HMN) g R e; omega))
        have HOI2 := hide (hOI.out)
        clear HS2 hOI
        go_wp2_with fail
        refine (unhide HB3).mono ?_
        rintro e w3 ⟨rfl, lv3, rv3, S3, F3⟩
        have HF3 := hide ((unhide HF2).trans F3)
        obtain ⟨ra3, rn3, rc3, hlv3⟩ := S3.shaped
        subst hlv3
        have HS3 := hide S3
        have HOI3 := hide (show OwnI w3 ba (firstPl v a m) by
          obtain ⟨ys, y1, y2⟩ := unhide HOI2
          exact ⟨ys, F3.own y1 (by decide) (unhide HBA), y2⟩)
        have hbl : (List.replicate (I * (dp + 1)) (32 : UInt8)).length = I * (dp + 1) := List.length_replicate
        obtain ⟨BL, hBL⟩ : ∃ BL, BL = List.replicate (I * (dp + 1)) (32 : UInt8) := ⟨_, rfl⟩
        rw [← hBL] at HS3 hbl
        have HBL := hide hBL
        obtain ⟨T3, hT3⟩ : ∃ T3, T3 = T1 ++ (LA ++ [10]) := ⟨_, rfl⟩
        have hlT3 : T3.length = T1.length + LA.length + 1 := by rw [hT3]; simp; omega
        rw [← hT3] at HS3
        have HT3 := hide hT3
        clear hBL hT3 S3 F3 HB3 HOI2 HF2 HLL fa
        obtain ⟨g0, g1, g2, g3, g4⟩ := (unhide HCELL) w3 (unhide HF3)

        obtain ⟨q0, q1, q2, q3, q4⟩ := ((unhide HINP) w3 (unhide HF3)).1 p hplt
        rw [unhide HKYN] at q3
        have KQ := hide (show ∀ V : World, Bk base w3 V → V.cell? ⟨b, off + p * 5 + 3, none⟩ = some (.string KY) from fun V hV => (hV.1.cell (p := ⟨b, off + p * 5 + 3, none⟩) (by show b < base; omega)).trans q3)
        have hqb := J.quote_length KY
        clear q0 q1 q2 q4
        go_upto_region 14 with fail
        have KL := hide (show ∀ V : World, Bk base w3 V → V.cell? ⟨SB, 3, none⟩ = some (.slice ra3 rn3 rc3) from fun V hV => (hV.own (unhide HS3).own (by decide)).cell 3)
        have hltS := (unhide HS3).own.lt
        have hbW : base ≤ w3.heap.size := Nat.le_trans hbw (unhide HF3).size
        have HAQ := hide (appendQuoted_any base (.slice ra3 rn3 rc3) BL KY w3.drew (show w3.drew.ownsRow base 5 1 _ _ _ from (unhide HS3).line) hky (by omega) hbW)
        refine Z.region 14 (fun V => Bk base w3 V) (by kernel_rfl) (Bk.refl _ _).drew (fun hHeld => ?_)
        refine Z.take (i := 0) (d := 77) (v := .pointer (some ⟨SB, 0, none⟩)) rfl rfl (by kernel_rfl) (by kernel_rfl) (by kernel_rfl) (by kernel_rfl) (fun _ _ _ h => h) (Or.inl ⟨by rfl, ?_⟩) hHeld ?_
        · intro w' hSw; go_simp
        simp only [Act.put, List.setIfInBounds_toArray, List.set_cons_zero, List.set_cons_succ]
        refine Z.take (i := 1) (d := 78) (v := .pointer (some ⟨SB, 0, none⟩)) rfl rfl (by kernel_rfl) (by kernel_rfl) (by kernel_rfl) (by kernel_rfl) (fun _ _ _ h => h) (Or.inl ⟨by rfl, ?_⟩) hHeld ?_
        · intro w' hSw; go_simp
        simp only [Act.put, List.setIfInBounds_toArray, List.set_cons_zero, List.set_cons_succ]
        refine Z.take (i := 2) (d := 79) (v := .pointer (some ⟨SB, 0, none⟩)) rfl rfl (by kernel_rfl) (by kernel_rfl) (by kernel_rfl) (by kernel_rfl) (fun _ _ _ h => h) (Or.inl ⟨by rfl, ?_⟩) hHeld ?_
        · intro w' hSw; go_simp
        simp only [Act.put, List.setIfInBounds_toArray, List.set_cons_zero, List.set_cons_succ]
        refine Z.take (i := 3) (d := 80) (v := .pointer (some ⟨SB, 3, none⟩)) rfl rfl (by kernel_rfl) (by kernel_rfl) (by kernel_rfl) (by kernel_rfl) (fun _ _ _ h => h) (Or.inl ⟨by rfl, ?_⟩) hHeld ?_
        · intro w' hSw; go_simp
        simp only [Act.put, List.setIfInBounds_toArray, List.set_cons_zero, List.set_cons_succ]
        refine Z.take (i := 4) (d := 81) (v := .slice ra3 rn3 rc3) rfl rfl (by kernel_rfl) (by kernel_rfl) (by kernel_rfl) (by kernel_rfl) (fun _ _ _ h => h) (Or.inl ⟨by rfl, ?_⟩) hHeld ?_
        · intro w' hSw; have g1 := (unhide KL) _ hSw; go_simp
        simp only [Act.put, List.setIfInBounds_toArray, List.set_cons_zero, List.set_cons_succ]
        refine Z.take (i := 5) (d := 82) (v := .slice (some ⟨b, off, none⟩) v.length cap) rfl rfl (by kernel_rfl) (by kernel_rfl) (by kernel_rfl) (by kernel_rfl) (fun _ _ _ h => h) (Or.inl ⟨by rfl, ?_⟩) hHeld ?_
        · intro w' hSw; go_simp
        simp only [Act.put, List.setIfInBounds_toArray, List.set_cons_zero, List.set_cons_succ]
        refine Z.take (i := 6) (d := 83) (v := .int .i64 (p : Int)) rfl rfl (by kernel_rfl) (by kernel_rfl) (by kernel_rfl) (by kernel_rfl) (fun _ _ _ h => h) (Or.inl ⟨by rfl, ?_⟩) hHeld ?_
        · intro w' hSw; go_simp
        simp only [Act.put, List.setIfInBounds_toArray, List.set_cons_zero, List.set_cons_succ]
        refine Z.take (i := 7) (d := 84) (v := .pointer (some ⟨b, off + p * 5, none⟩)) rfl rfl (by kernel_rfl) (by kernel_rfl) (by kernel_rfl) (by kernel_rfl) (fun _ _ _ h => h) (Or.inl ⟨by rfl, ?_⟩) hHeld ?_
        · intro w' hSw; go_simp
        simp only [Act.put, List.setIfInBounds_toArray, List.set_cons_zero, List.set_cons_succ]
        refine Z.take (i := 8) (d := 85) (v := .pointer (some ⟨b, off + p * 5 + 3, none⟩)) rfl rfl (by kernel_rfl) (by kernel_rfl) (by kernel_rfl) (by kernel_rfl) (fun _ _ _ h => h) (Or.inl ⟨by rfl, ?_⟩) hHeld ?_
        · intro w' hSw; go_simp
        simp only [Act.put, List.setIfInBounds_toArray, List.set_cons_zero, List.set_cons_succ]
        refine Z.take (i := 9) (d := 86) (v := .string KY) rfl rfl (by kernel_rfl) (by kernel_rfl) (by kernel_rfl) (by kernel_rfl) (fun _ _ _ h => h) (Or.inl ⟨by rfl, ?_⟩) hHeld ?_
        · intro w' hSw; have g1 := (unhide KQ) _ hSw; go_simp
        simp only [Act.put, List.setIfInBounds_toArray, List.set_cons_zero, List.set_cons_succ]

        refine Z.only (i := 10) (d := 87) rfl rfl (by kernel_rfl) (by rfl) (fun K hK => ?_)
        go_simp
        refine (unhide HAQ).mono ?_
        rintro e W4 ⟨v4, rfl, ho4, hb4⟩
        have B4 : Bk base w3 W4 := (Bk.refl _ _).drew.trans hb4
        obtain ⟨xa4, xn4, xc4, rfl⟩ := owns_shape ho4
        have HO4 := hide ho4
        go_simp
        refine hK.out (.slice xa4 xn4 xc4) W4 B4 ?_
        clear hK K ho4 hb4 HAQ
        simp only [Act.put, List.setIfInBounds_toArray, List.set_cons_zero, List.set_cons_succ]
        have hlq : (BL ++ J.quote KY).length ≤ 2000 := by rw [List.length_append]; omega
        refine Z.only (i := 11) (d := 88) rfl rfl (by kernel_rfl) (by rfl) (fun K hK => ?_)
        refine wp_strApp _ (.tmp 87) (.const (.string ⟨#[58, 32]⟩)) 46 9 rfl 5 i0 Tryd.underlying46 Tryd.underlying9 hi hz0 hz1 hz2 base (.slice xa4 xn4 xc4) (BL ++ J.quote KY).length (J.bv (BL ++ J.quote KY)) rfl (unhide HO4) ⟨#[58, 32]⟩ rfl (by unfold maxLen; show _ + 2 ≤ _; omega) (by show _ + 2 ≤ _; omega) (Nat.le_trans hbW B4.1.size) ?_
        intro v5 W5 ho5 hg5
        have ho5' : W5.ownsRow base 5 1 v5 (BL ++ J.quote KY ++ [58, 32]).length (J.bv (BL ++ J.quote KY ++ [58, 32])) := by
          rw [List.length_append, ← bv_app]; exact ho5
        have B5 : Bk base w3 W5 := B4.grown hg5 (Nat.le_trans hbW B4.1.size) (J.owns_base (unhide HO4)) (J.owns_row (unhide HO4))
        obtain ⟨c35, z35, S5, F5⟩ := (unhide HS3).laid B5 ho5'
        obtain ⟨ya5, yn5, yc5, hy5⟩ := owns_shape ho5
        subst hy5
        have HS5 := hide S5
        have HF5 := hide ((unhide HF3).trans F5)
        have HOIX := hide (fun w20 (F20 : Fm base mode SB (W5.setCell ⟨SB, 3, none⟩ (.slice ya5 yn5 yc5)) w20) => (show OwnI w20 ba (firstPl v a m) by
          obtain ⟨ys, y1, y2⟩ := unhide HOI3
          exact ⟨ys, (F5.trans F20).own y1 (by decide) (unhide HBA), y2⟩))
        refine hK.out (.slice ya5 yn5 yc5) W5 B5 ?_
        clear hK K ho5 ho5' hg5 B4 HO4 S5 F5 HOI3
        simp only [Act.put, List.setIfInBounds_toArray, List.set_cons_zero, List.set_cons_succ]
        refine Z.ready (rs := [12]) (by kernel_rfl) (by simp) (Z.val_cons (i := 12) (d := 89) (v := .pointer (some ⟨SB, 0, none⟩)) (w' := W5) rfl (by rfl) (fun K hK => ?_) (fun _ => B5) ?_ Z.All.nil)
        · go_simp
          exact hK.out
        simp only [Act.put, List.setIfInBounds_toArray, List.set_cons_zero, List.set_cons_succ]
        refine Z.take (i := 13) (d := 90) (v := .pointer (some ⟨SB, 3, none⟩)) rfl rfl (by kernel_rfl) (by kernel_rfl) (by kernel_rfl) (by kernel_rfl) (fun _ _ _ h => h) (Or.inl ⟨by rfl, ?_⟩) B5 ?_
        · intro w' hSw; go_simp
        simp only [Act.put, List.setIfInBounds_toArray, List.set_cons_zero, List.set_cons_succ]
        refine Z.last_at (w' := W5.setCell ⟨SB, 3, none⟩ (.slice ya5 yn5 yc5)) rfl (by kernel_rfl) (by rfl) (fun K hK => ?_) ?_
        · go_simp
          exact hK.out
        refine Z.done (by kernel_rfl) ?_ _
        clear KL KQ c35 z35 B5 hHeld hltS hbW HS3 g0 g1 g2 g3 g4
        generalize W5.setCell ⟨SB, 3, none⟩ (.slice ya5 yn5 yc5) = W6 at *
        have hlq2 : (BL ++ J.quote KY ++ [58, 32]).length = I * (dp + 1) + (J.quote KY).length + 2 := by rw [List.length_append, List.length_append, hbl]; rfl

        have HIH := hide (ih.out v p b off cap (dp + 1) T3 (BL ++ J.quote KY ++ [58, 32]) _ _ W6 ⟨unhide HV, hplt, by omega, ((unhide HINP) W6 (unhide HF5)).1, hb, hcap, hI, by omega, hb0, Nat.le_trans hbw (unhide HF5).size, unhide HMB, unhide HMN, hN, ((unhide HINP) W6 (unhide HF5)).2, by rw [← hG]; omega⟩ (unhide HS5))
        rw [← hG] at HIH
        clear HS5
        go_wp2_with fail
        refine (unhide HIH).mono ?_
        rintro e w20 ⟨rfl, T20, Ln20, lv20, rv20, h20, hn20, S20, F20⟩
        have OI20 := (unhide HOIX) w20 F20
        have HF20 := hide ((unhide HF5).trans F20)
        have HS20 := hide S20
        have HE20 := hide (show T20 ++ Ln20 = T ++ (Ln ++ ([123] ++ PK (k + 1))) by
          rw [h20, hps]
          rw [unhide HT3, unhide HBL, unhide HLA]
          rw [show T1 ++ (Ln1 ++ [] ++ [10]) ++ (List.replicate (I * (dp + 1)) 32 ++ J.quote KY ++ [58, 32] ++ G) = (T1 ++ Ln1) ++ ([] ++ (lineL (I * (dp + 1)) ++ (J.quote KY ++ [58, 32])) ++ G) by simp [lineL]]
          rw [hTL.out]
          simp [List.append_assoc])
        have HLE20 := hide (show T20.length + Ln20.length = T.length + Ln.length + 1 + (PK (k + 1)).length by
          have := congrArg List.length (unhide HE20)
          simp only [List.length_append, List.length_cons, List.length_nil] at this
          omega)
        clear HIH S20 F20 h20
        go_wp2_with fail
        go_roundg (m - (k + 1))
        case rel => exact ⟨k + 1, T20, Ln20, _, _, rfl, by go_num, by omega, unhide HS20, unhide HF20, OI20, unhide HE20, unhide HLE20⟩
        case measure => have := hg.out; omega
      · have hkI : (0 : Int) < (k : Int) := by omega
        have hkz : ¬ k = 0 := by omega
        rw [if_neg hkz] at hps
        clear hkz hkk
        have c3 : wr.cell? ⟨SB, 3, none⟩ = some (.slice xa xn xc) := hS1.out.own.cell 3
        have hown1 := hide (fun o => hS1.out.line.alloc o)
        have hone := hide (J.one_word wr 44)
        have honep := hide (J.one_plain 44)
        have hb63 : Ln1.length + 1 ≤ maxLen := by unfold maxLen; omega
        have hby : (Ln1.length + 1) * 1 ≤ 140737488355328 := by omega
        go_wp2_with (at_builtin; refine wpList_append_own _ rfl (.tmp 64) (.tmp 65) 46 rfl base 5 i0 (.int .u8 0) 1 1 Tryd.underlying46 hi hz0 hz1 hz2 rfl (by decide) _ Ln1.length _ rfl ((unhide hown1) _) ⟨wr.heap.size, 0, none⟩ 1 1 [.int .u8 44] rfl rfl (unhide hone) (unhide honep) hb63 hby (by simp; omega) ?_)
        intro vA wA hoA hgA _
        have hoA' : wA.ownsRow base 5 1 vA (Ln1 ++ [44]).length (J.bv (Ln1 ++ [44])) := by rw [List.length_append, ← J.bv_snoc]; exact hoA
        obtain ⟨BA, c3A, z3A, SA, FA⟩ := hS1.out.pushed hb1 ((Bk.refl _ _).alloc hb1 _) hoA' hgA ((unhide hown1) _)
        obtain ⟨xaA, xnA, xcA, rfl⟩ := owns_shape hoA
        obtain ⟨LA, hLA⟩ : ∃ LA, LA = Ln1 ++ [(44 : UInt8)] := ⟨_, rfl⟩
        have HLA := hide hLA
        rw [← hLA] at SA
        have HLL := hide (show T1.length + LA.length = T.length + Ln.length + 1 + (PK k).length + 1 by rw [hLA, List.length_append]; simp; omega)
        have HS2 := hide SA
        have HF2 := hide (hF1.out.trans FA)
        have hOA : OwnI (wA.setCell ⟨SB, 3, none⟩ (.slice xaA xnA xcA)) ba (firstPl v a m) := by
          obtain ⟨ys, y1, y2⟩ := hOI.out
          exact ⟨ys, FA.own y1 (by decide) (unhide HBA), y2⟩
        clear hLA hS1 hF1 hLL hgA hoA hoA' hown1 hone honep hb63 hby c3 SA FA BA

        have hll := unhide HLL
        have hpl2 := congrArg List.length hps
        simp only [List.length_append, lineL_length, List.length_cons, List.length_nil, if_true] at hpl2
        have HB3 := hide (beginLine_any (unhide HS2) hI (by omega) (Nat.le_trans hbw (unhide HF2).size) (by omega) (fun g R e => by have := (unhide HMN) g R e; omega))
        have HOI2 := hide (hOA)
        clear HS2 hOI hOA
        go_wp2_with fail
        refine (unhide HB3).mono ?_
        rintro e w3 ⟨rfl, lv3, rv3, S3, F3⟩
        have HF3 := hide ((unhide HF2).trans F3)
        obtain ⟨ra3, rn3, rc3, hlv3⟩ := S3.shaped
        subst hlv3
        have HS3 := hide S3
        have HOI3 := hide (show OwnI w3 ba (firstPl v a m) by
          obtain ⟨ys, y1, y2⟩ := unhide HOI2
          exact ⟨ys, F3.own y1 (by decide) (unhide HBA), y2⟩)
        have hbl : (List.replicate (I * (dp + 1)) (32 : UInt8)).length = I * (dp + 1) := List.length_replicate
        obtain ⟨BL, hBL⟩ : ∃ BL, BL = List.replicate (I * (dp + 1)) (32 : UInt8) := ⟨_, rfl⟩
        rw [← hBL] at HS3 hbl
        have HBL := hide hBL
        obtain ⟨T3, hT3⟩ : ∃ T3, T3 = T1 ++ (LA ++ [10]) := ⟨_, rfl⟩
        have hlT3 : T3.length = T1.length + LA.length + 1 := by rw [hT3]; simp; omega
        rw [← hT3] at HS3
        have HT3 := hide hT3
        clear hBL hT3 S3 F3 HB3 HOI2 HF2 HLL fa c3A z3A
        obtain ⟨g0, g1, g2, g3, g4⟩ := (unhide HCELL) w3 (unhide HF3)

        obtain ⟨q0, q1, q2, q3, q4⟩ := ((unhide HINP) w3 (unhide HF3)).1 p hplt
        rw [unhide HKYN] at q3
        have KQ := hide (show ∀ V : World, Bk base w3 V → V.cell? ⟨b, off + p * 5 + 3, none⟩ = some (.string KY) from fun V hV => (hV.1.cell (p := ⟨b, off + p * 5 + 3, none⟩) (by show b < base; omega)).trans q3)
        have hqb := J.quote_length KY
        clear q0 q1 q2 q4
        go_upto_region 14 with fail
        have KL := hide (show ∀ V : World, Bk base w3 V → V.cell? ⟨SB, 3, none⟩ = some (.slice ra3 rn3 rc3) from fun V hV => (hV.own (unhide HS3).own (by decide)).cell 3)
        have hltS := (unhide HS3).own.lt
        have hbW : base ≤ w3.heap.size := Nat.le_trans hbw (unhide HF3).size
        have HAQ := hide (appendQuoted_any base (.slice ra3 rn3 rc3) BL KY w3.drew (show w3.drew.ownsRow base 5 1 _ _ _ from (unhide HS3).line) hky (by omega) hbW)
        refine Z.region 14 (fun V => Bk base w3 V) (by kernel_rfl) (Bk.refl _ _).drew (fun hHeld => ?_)
        refine Z.take (i := 0) (d := 77) (v := .pointer (some ⟨SB, 0, none⟩)) rfl rfl (by kernel_rfl) (by kernel_rfl) (by kernel_rfl) (by kernel_rfl) (fun _ _ _ h => h) (Or.inl ⟨by rfl, ?_⟩) hHeld ?_
        · intro w' hSw; go_simp
        simp only [Act.put, List.setIfInBounds_toArray, List.set_cons_zero, List.set_cons_succ]
        refine Z.take (i := 1) (d := 78) (v := .pointer (some ⟨SB, 0, none⟩)) rfl rfl (by kernel_rfl) (by kernel_rfl) (by kernel_rfl) (by kernel_rfl) (fun _ _ _ h => h) (Or.inl ⟨by rfl, ?_⟩) hHeld ?_
        · intro w' hSw; go_simp
        simp only [Act.put, List.setIfInBounds_toArray, List.set_cons_zero, List.set_cons_succ]
        refine Z.take (i := 2) (d := 79) (v := .pointer (some ⟨SB, 0, none⟩)) rfl rfl (by kernel_rfl) (by kernel_rfl) (by kernel_rfl) (by kernel_rfl) (fun _ _ _ h => h) (Or.inl ⟨by rfl, ?_⟩) hHeld ?_
        · intro w' hSw; go_simp
        simp only [Act.put, List.setIfInBounds_toArray, List.set_cons_zero, List.set_cons_succ]
        refine Z.take (i := 3) (d := 80) (v := .pointer (some ⟨SB, 3, none⟩)) rfl rfl (by kernel_rfl) (by kernel_rfl) (by kernel_rfl) (by kernel_rfl) (fun _ _ _ h => h) (Or.inl ⟨by rfl, ?_⟩) hHeld ?_
        · intro w' hSw; go_simp
        simp only [Act.put, List.setIfInBounds_toArray, List.set_cons_zero, List.set_cons_succ]
        refine Z.take (i := 4) (d := 81) (v := .slice ra3 rn3 rc3) rfl rfl (by kernel_rfl) (by kernel_rfl) (by kernel_rfl) (by kernel_rfl) (fun _ _ _ h => h) (Or.inl ⟨by rfl, ?_⟩) hHeld ?_
        · intro w' hSw; have g1 := (unhide KL) _ hSw; go_simp
        simp only [Act.put, List.setIfInBounds_toArray, List.set_cons_zero, List.set_cons_succ]
        refine Z.take (i := 5) (d := 82) (v := .slice (some ⟨b, off, none⟩) v.length cap) rfl rfl (by kernel_rfl) (by kernel_rfl) (by kernel_rfl) (by kernel_rfl) (fun _ _ _ h => h) (Or.inl ⟨by rfl, ?_⟩) hHeld ?_
        · intro w' hSw; go_simp
        simp only [Act.put, List.setIfInBounds_toArray, List.set_cons_zero, List.set_cons_succ]
        refine Z.take (i := 6) (d := 83) (v := .int .i64 (p : Int)) rfl rfl (by kernel_rfl) (by kernel_rfl) (by kernel_rfl) (by kernel_rfl) (fun _ _ _ h => h) (Or.inl ⟨by rfl, ?_⟩) hHeld ?_
        · intro w' hSw; go_simp
        simp only [Act.put, List.setIfInBounds_toArray, List.set_cons_zero, List.set_cons_succ]
        refine Z.take (i := 7) (d := 84) (v := .pointer (some ⟨b, off + p * 5, none⟩)) rfl rfl (by kernel_rfl) (by kernel_rfl) (by kernel_rfl) (by kernel_rfl) (fun _ _ _ h => h) (Or.inl ⟨by rfl, ?_⟩) hHeld ?_
        · intro w' hSw; go_simp
        simp only [Act.put, List.setIfInBounds_toArray, List.set_cons_zero, List.set_cons_succ]
        refine Z.take (i := 8) (d := 85) (v := .pointer (some ⟨b, off + p * 5 + 3, none⟩)) rfl rfl (by kernel_rfl) (by kernel_rfl) (by kernel_rfl) (by kernel_rfl) (fun _ _ _ h => h) (Or.inl ⟨by rfl, ?_⟩) hHeld ?_
        · intro w' hSw; go_simp
        simp only [Act.put, List.setIfInBounds_toArray, List.set_cons_zero, List.set_cons_succ]
        refine Z.take (i := 9) (d := 86) (v := .string KY) rfl rfl (by kernel_rfl) (by kernel_rfl) (by kernel_rfl) (by kernel_rfl) (fun _ _ _ h => h) (Or.inl ⟨by rfl, ?_⟩) hHeld ?_
        · intro w' hSw; have g1 := (unhide KQ) _ hSw; go_simp
        simp only [Act.put, List.setIfInBounds_toArray, List.set_cons_zero, List.set_cons_succ]

        refine Z.only (i := 10) (d := 87) rfl rfl (by kernel_rfl) (by rfl) (fun K hK => ?_)
        go_simp
        refine (unhide HAQ).mono ?_
        rintro e W4 ⟨v4, rfl, ho4, hb4⟩
        have B4 : Bk base w3 W4 := (Bk.refl _ _).drew.trans hb4
        obtain ⟨xa4, xn4, xc4, rfl⟩ := owns_shape ho4
        have HO4 := hide ho4
        go_simp
        refine hK.out (.slice xa4 xn4 xc4) W4 B4 ?_
        clear hK K ho4 hb4 HAQ
        simp only [Act.put, List.setIfInBounds_toArray, List.set_cons_zero, List.set_cons_succ]
        have hlq : (BL ++ J.quote KY).length ≤ 2000 := by rw [List.length_append]; omega
        refine Z.only (i := 11) (d := 88) rfl rfl (by kernel_rfl) (by rfl) (fun K hK => ?_)
        refine wp_strApp _ (.tmp 87) (.const (.string ⟨#[58, 32]⟩)) 46 9 rfl 5 i0 Tryd.underlying46 Tryd.underlying9 hi hz0 hz1 hz2 base (.slice xa4 xn4 xc4) (BL ++ J.quote KY).length (J.bv (BL ++ J.quote KY)) rfl (unhide HO4) ⟨#[58, 32]⟩ rfl (by unfold maxLen; show _ + 2 ≤ _; omega) (by show _ + 2 ≤ _; omega) (Nat.le_trans hbW B4.1.size) ?_
        intro v5 W5 ho5 hg5
        have ho5' : W5.ownsRow base 5 1 v5 (BL ++ J.quote KY ++ [58, 32]).length (J.bv (BL ++ J.quote KY ++ [58, 32])) := by
          rw [List.length_append, ← bv_app]; exact ho5
        have B5 : Bk base w3 W5 := B4.grown hg5 (Nat.le_trans hbW B4.1.size) (J.owns_base (unhide HO4)) (J.owns_row (unhide HO4))
        obtain ⟨c35, z35, S5, F5⟩ := (unhide HS3).laid B5 ho5'
        obtain ⟨ya5, yn5, yc5, hy5⟩ := owns_shape ho5
        subst hy5
        have HS5 := hide S5
        have HF5 := hide ((unhide HF3).trans F5)
        have HOIX := hide (fun w20 (F20 : Fm base mode SB (W5.setCell ⟨SB, 3, none⟩ (.slice ya5 yn5 yc5)) w20) => (show OwnI w20 ba (firstPl v a m) by
          obtain ⟨ys, y1, y2⟩ := unhide HOI3
          exact ⟨ys, (F5.trans F20).own y1 (by decide) (unhide HBA), y2⟩))
        refine hK.out (.slice ya5 yn5 yc5) W5 B5 ?_
        clear hK K ho5 ho5' hg5 B4 HO4 S5 F5 HOI3
        simp only [Act.put, List.setIfInBounds_toArray, List.set_cons_zero, List.set_cons_succ]
        refine Z.ready (rs := [12]) (by kernel_rfl) (by simp) (Z.val_cons (i := 12) (d := 89) (v := .pointer (some ⟨SB, 0, none⟩)) (w' := W5) rfl (by rfl) (fun K hK => ?_) (fun _ => B5) ?_ Z.All.nil)
        · go_simp
          exact hK.out
        simp only [Act.put, List.setIfInBounds_toArray, List.set_cons_zero, List.set_cons_succ]
        refine Z.take (i := 13) (d := 90) (v := .pointer (some ⟨SB, 3, none⟩)) rfl rfl (by kernel_rfl) (by kernel_rfl) (by kernel_rfl) (by kernel_rfl) (fun _ _ _ h => h) (Or.inl ⟨by rfl, ?_⟩) B5 ?_
        · intro w' hSw; go_simp
        simp only [Act.put, List.setIfInBounds_toArray, List.set_cons_zero, List.set_cons_succ]
        refine Z.last_at (w' := W5.setCell ⟨SB, 3, none⟩ (.slice ya5 yn5 yc5)) rfl (by kernel_rfl) (by rfl) (fun K hK => ?_) ?_
        · go_simp
          exact hK.out
        refine Z.done (by kernel_rfl) ?_ _
        clear KL KQ c35 z35 B5 hHeld hltS hbW HS3 g0 g1 g2 g3 g4
        generalize W5.setCell ⟨SB, 3, none⟩ (.slice ya5 yn5 yc5) = W6 at *
        have hlq2 : (BL ++ J.quote KY ++ [58, 32]).length = I * (dp + 1) + (J.quote KY).length + 2 := by rw [List.length_append, List.length_append, hbl]; rfl

        have HIH := hide (ih.out v p b off cap (dp + 1) T3 (BL ++ J.quote KY ++ [58, 32]) _ _ W6 ⟨unhide HV, hplt, by omega, ((unhide HINP) W6 (unhide HF5)).1, hb, hcap, hI, by omega, hb0, Nat.le_trans hbw (unhide HF5).size, unhide HMB, unhide HMN, hN, ((unhide HINP) W6 (unhide HF5)).2, by rw [← hG]; omega⟩ (unhide HS5))
        rw [← hG] at HIH
        clear HS5
        go_wp2_with fail
        refine (unhide HIH).mono ?_
        rintro e w20 ⟨rfl, T20, Ln20, lv20, rv20, h20, hn20, S20, F20⟩
        have OI20 := (unhide HOIX) w20 F20
        have HF20 := hide ((unhide HF5).trans F20)
        have HS20 := hide S20
        have HE20 := hide (show T20 ++ Ln20 = T ++ (Ln ++ ([123] ++ PK (k + 1))) by
          rw [h20, hps]
          rw [unhide HT3, unhide HBL, unhide HLA]
          rw [show T1 ++ (Ln1 ++ [44] ++ [10]) ++ (List.replicate (I * (dp + 1)) 32 ++ J.quote KY ++ [58, 32] ++ G) = (T1 ++ Ln1) ++ ([44] ++ (lineL (I * (dp + 1)) ++ (J.quote KY ++ [58, 32])) ++ G) by simp [lineL]]
          rw [hTL.out]
          simp [List.append_assoc])
        have HLE20 := hide (show T20.length + Ln20.length = T.length + Ln.length + 1 + (PK (k + 1)).length by
          have := congrArg List.length (unhide HE20)
          simp only [List.length_append, List.length_cons, List.length_nil] at this
          omega)
        clear HIH S20 F20 h20
        go_wp2_with fail
        go_roundg (m - (k + 1))
        case rel => exact ⟨k + 1, T20, Ln20, _, _, rfl, by go_num, by omega, unhide HS20, unhide HF20, OI20, unhide HE20, unhide HLE20⟩
        case measure => have := hg.out; omega
    · have hke : k = m := by omega
      subst hke
      have hwr2 : IntKind.u64.wrap (dp : Int) = (dp : Int) := u64_small (by omega) (by omega)
      have hwr3 : IntKind.u64.wrap ((dp : Int) + 1 - 1) = (dp : Int) := by rw [Int.add_sub_cancel]; exact hwr2
      have c1 : wr.cell? ⟨SB, 1, none⟩ = some (.int .u64 ((dp : Int) + 1)) := hS1.out.own.cell 1
      have z1 : wr.frozen? ⟨SB, 1, none⟩ = false := hS1.out.own.frozen 1
      have S9 := hS1.out.opened (O' := dp)
      have F9 := hF1.out.trans (Fm.sheet _ hlo 1 (.int .u64 (dp : Int)))
      have HB9 := hide (beginLine_any S9 hI (by omega) (Nat.le_trans hbw F9.size) (by omega) (fun g R e => by have := (unhide HMN) g R e; omega))
      have HF9 := hide F9
      have HTL := hide hTL.out
      clear S9 F9 hS1 hF1 hOI hTL
      go_wp2_with fail
      refine (unhide HB9).mono ?_
      rintro e w10 ⟨rfl, lv10, rv10, S10, F10⟩
      have HF10 := hide ((unhide HF9).trans F10)
      obtain ⟨ra1, rn1, rc1, hlv10⟩ := S10.shaped
      subst hlv10
      have HS10 := hide S10
      have hbl : (List.replicate (I * dp) (32 : UInt8)).length ≤ 1608 := by rw [List.length_replicate]; omega
      obtain ⟨BL, hBL⟩ : ∃ BL, BL = List.replicate (I * dp) (32 : UInt8) := ⟨_, rfl⟩
      rw [← hBL] at HS10 hbl
      have HBL := hide hBL
      clear hBL S10 F10 HB9 HF9 c1 z1 hwr2 hwr3
      generalize wr.setCell ⟨SB, 1, none⟩ (.int .u64 (dp : Int)) = W9 at *
      go_upto_region 19 with fail
      have KLb := hide (show ∀ V : World, V.heap[SB]? = w10.heap[SB]? → V.cell? ⟨SB, 3, none⟩ = some (.slice ra1 rn1 rc1) from fun V hV => (blk_cell hV).trans ((unhide HS10).own.cell 3))
      have hltSb := (unhide HS10).own.lt
      have hbWb : base ≤ w10.heap.size := by have := (unhide HS10).lo; omega
      refine Z.region 11 (fun V => V.heap[SB]? = w10.heap[SB]?) (by kernel_rfl) rfl (fun hHeld => ?_)
      refine Z.take (i := 0) (d := 105) (v := .pointer (some ⟨SB, 0, none⟩)) rfl rfl (by kernel_rfl) (by kernel_rfl) (by kernel_rfl) (by kernel_rfl) (fun _ _ _ h => h) (Or.inl ⟨by rfl, ?_⟩) hHeld ?_
      · intro w' hSw; go_simp
      simp only [Act.put, List.setIfInBounds_toArray, List.set_cons_zero, List.set_cons_succ]
      refine Z.take (i := 1) (d := 106) (v := .pointer (some ⟨SB, 0, none⟩)) rfl rfl (by kernel_rfl) (by kernel_rfl) (by kernel_rfl) (by kernel_rfl) (fun _ _ _ h => h) (Or.inl ⟨by rfl, ?_⟩) hHeld ?_
      · intro w' hSw; go_simp
      simp only [Act.put, List.setIfInBounds_toArray, List.set_cons_zero, List.set_cons_succ]
      refine Z.take (i := 2) (d := 107) (v := .pointer (some ⟨SB, 0, none⟩)) rfl rfl (by kernel_rfl) (by kernel_rfl) (by kernel_rfl) (by kernel_rfl) (fun _ _ _ h => h) (Or.inl ⟨by rfl, ?_⟩) hHeld ?_
      · intro w' hSw; go_simp
      simp only [Act.put, List.setIfInBounds_toArray, List.set_cons_zero, List.set_cons_succ]
      refine Z.take (i := 3) (d := 108) (v := .pointer (some ⟨SB, 3, none⟩)) rfl rfl (by kernel_rfl) (by kernel_rfl) (by kernel_rfl) (by kernel_rfl) (fun _ _ _ h => h) (Or.inl ⟨by rfl, ?_⟩) hHeld ?_
      · intro w' hSw; go_simp
      simp only [Act.put, List.setIfInBounds_toArray, List.set_cons_zero, List.set_cons_succ]
      refine Z.take (i := 4) (d := 109) (v := .slice ra1 rn1 rc1) rfl rfl (by kernel_rfl) (by kernel_rfl) (by kernel_rfl) (by kernel_rfl) (fun _ _ _ h => h) (Or.inl ⟨by rfl, ?_⟩) hHeld ?_
      · intro w' hSw; have g1 := (unhide KLb) _ hSw; go_simp
      simp only [Act.put, List.setIfInBounds_toArray, List.set_cons_zero, List.set_cons_succ]
      refine Z.take (i := 5) (d := 110) (v := .string ⟨#[123, 125]⟩) rfl rfl (by kernel_rfl) (by kernel_rfl) (by kernel_rfl) (by kernel_rfl) (fun _ _ _ h => h) (Or.inl ⟨by rfl, ?_⟩) hHeld ?_
      · intro w' hSw; go_simp
      simp only [Act.put, List.setIfInBounds_toArray, List.set_cons_zero, List.set_cons_succ]
      refine Z.take (i := 6) (d := 111) (v := .int .u8 125) rfl rfl (by kernel_rfl) (by kernel_rfl) (by kernel_rfl) (by kernel_rfl) (fun _ _ _ h => h) (Or.inl ⟨by rfl, ?_⟩) hHeld ?_
      · intro w' hSw; go_simp; first | done | rfl
      simp only [Act.put, List.setIfInBounds_toArray, List.set_cons_zero, List.set_cons_succ]
      obtain ⟨W4, hW4⟩ : ∃ W4, W4 = (w10.alloc (.cells #[.int .u8 125] 5)).drew := ⟨_, rfl⟩
      have B4 : Bk base w10 W4 := by rw [hW4]; exact ((Bk.refl _ _).alloc hbWb _).drew
      have honeb : ∀ j u, ([Value.int .u8 125] : List Value)[j]? = some u → W4.cell? ((⟨w10.heap.size, 0, none⟩ : Addr).add j) = some u := by rw [hW4]; exact J.one_word w10 125
      have HRW4 : W4.ownsRow base 5 1 (.slice ra1 rn1 rc1) BL.length (J.bv BL) := by rw [hW4]; exact (unhide HS10).line.alloc _
      have S4 : W4.heap[SB]? = w10.heap[SB]? := by rw [hW4]; exact heap_alloc_old _ _ hltSb
      refine Z.ready (rs := [7]) (by kernel_rfl) (by simp) (Z.val_cons (i := 7) (d := 112) (v := .slice (some ⟨w10.heap.size, 0, none⟩) 1 1) (w' := W4) rfl (by rfl) (fun K hK => ?_) (fun _ => S4) ?_ Z.All.nil)
      · go_simp
        first | rw [← hW4] | (rw [← World.drew_alloc_try, ← hW4]) | skip
        exact hK.out
      simp only [Act.put, List.setIfInBounds_toArray, List.set_cons_zero, List.set_cons_succ]
      clear hW4
      refine Z.only (i := 8) (d := 113) rfl rfl (by kernel_rfl) (by rfl) (fun K hK => ?_)
      refine Al.wp_rowN _ (.tmp 109) (.tmp 112) 46 rfl 5 i0 (.int .u8 0) 1 1 Tryd.underlying46 hi hz0 hz1 hz2 rfl (by decide) base (.slice ra1 rn1 rc1) BL.length (J.bv BL) rfl HRW4 (.slice (some ⟨w10.heap.size, 0, none⟩) 1 1) rfl 1 [.int .u8 125] rfl (.inr ⟨_, 1, rfl, honeb⟩) (by intro u hu; rw [List.mem_singleton.1 hu]; rfl) (by unfold maxLen; omega) (by omega) (Nat.le_trans hbWb B4.1.size) ?_
      intro v5 W5 ho5 hg5 hn5
      have ho5' : W5.ownsRow base 5 1 v5 (BL ++ [(125 : UInt8)]).length (J.bv (BL ++ [(125 : UInt8)])) := by rw [List.length_append, ← J.bv_snoc]; exact ho5
      obtain ⟨B5, c35, z35, S5, F5⟩ := (unhide HS10).pushed hbWb B4 ho5' hg5 HRW4
      have HB5 : W5.heap[SB]? = w10.heap[SB]? := (hg5.block SB (Nat.lt_of_lt_of_le hltSb B4.1.size) (fun e => by
        obtain ⟨c', fz', h6⟩ := J.owns_row HRW4 SB e.symm
        obtain ⟨c'', q1, _⟩ := (unhide HS10).own
        rw [S4, q1] at h6
        injection h6 with h6
        injection h6 with _ q2
        revert q2; decide)).trans S4
      have HSb := hide S5
      have HFb := hide F5
      obtain ⟨yab, ynb, ycb, hyb⟩ := owns_shape ho5
      subst hyb
      refine hK.out (.slice yab ynb ycb) W5 HB5 ?_
      clear hK K ho5 ho5' hg5 hn5 B4 HRW4 honeb S4 B5 S5 F5
      simp only [Act.put, List.setIfInBounds_toArray, List.set_cons_zero, List.set_cons_succ]
      refine Z.ready (rs := [9]) (by kernel_rfl) (by simp) (Z.val_cons (i := 9) (d := 114) (v := .pointer (some ⟨SB, 0, none⟩)) (w' := W5) rfl (by rfl) (fun K hK => ?_) (fun _ => HB5) ?_ Z.All.nil)
      · go_simp
        exact hK.out
      simp only [Act.put, List.setIfInBounds_toArray, List.set_cons_zero, List.set_cons_succ]
      refine Z.take (i := 10) (d := 115) (v := .pointer (some ⟨SB, 3, none⟩)) rfl rfl (by kernel_rfl) (by kernel_rfl) (by kernel_rfl) (by kernel_rfl) (fun _ _ _ h => h) (Or.inl ⟨by rfl, ?_⟩) HB5 ?_
      · intro w' hSw; go_simp
      simp only [Act.put, List.setIfInBounds_toArray, List.set_cons_zero, List.set_cons_succ]
      refine Z.last_at (w' := W5.setCell ⟨SB, 3, none⟩ (.slice yab ynb ycb)) rfl (by kernel_rfl) (by rfl) (fun K hK => ?_) ?_
      · go_simp
        exact hK.out
      refine Z.done (by kernel_rfl) ?_ _
      clear KLb c35 z35 HB5 hHeld hltSb hbWb
      generalize W5.setCell ⟨SB, 3, none⟩ (.slice yab ynb ycb) = W12 at *
      go_wp2_with fail
      go_end0
      refine ⟨rfl, T1 ++ (Ln1 ++ [10]), BL ++ [125], _, _, ?_, by rw [List.length_append]; simp, unhide HSb, (unhide HF10).trans (unhide HFb)⟩
      have e1 : T1 ++ (Ln1 ++ [10]) ++ (BL ++ [125]) = (T1 ++ Ln1) ++ (lineL (I * dp) ++ shuts true) := by rw [unhide HBL]; simp [lineL, shuts]
      rw [e1, unhide HTL]
      simp [opens, List.append_assoc]
end Pr
end Go.Proofs.YtlbmpldknfcfhaaDoor
