/-
  impl.boundsOf at conditions, and at all nodes.
-/
import Derived.Test.YtkjmnkbiflkpdaaKnF
import Derived.Test.YtkjmnkbiflkpdaaAnyZ
namespace Go.Proofs.Ytkjmnkbiflkpdaa
open Go.RowKit
set_option linter.unusedVariables false
set_option linter.unusedSimpArgs false

theorem Kn.exec_load {P : Program} {o : Oper} {a : Act} {ty : TypeId} {x : Operand} {p v : Value} {w : World} (ho : o.op = .load ty x) (hx : a.eval x = p) (h : (Instr.loadAt ty p).run P w = .ok v w) : (execOp a.eval o).run P w = .ok (.value v) w := by
  unfold execOp
  simp only [ho, hx, Sem.run_bind, h, Sem.run_pure, Result.andThen_ok]
/-- A call that is the only one that may come up. -/
theorem Z.call1 {P : Program} {ops : Array Oper} {Q : Exit → Act → World → Prop} {md : Region.Mode} {S : World → Prop} {z i d : Nat} {oi : Oper} {fuel : Nat} {listed : Array Bool} {a : Act} {w : World} (hi : ops[i]? = some oi) (hd : oi.dst = some d) (hr : Region.ready md ops listed = [i])
    (hw : Region.wanted oi (yielded ops a.tmps) = true) (h : ∀ K : Act → World → Prop, Shut (∀ v w', S w' → Z.any P md ops Q S z fuel (listed.setIfInBounds i true) (a.put (some d) v) w' → K (a.put (some d) v) w') → Oper.wp P oi a w K Q) : Z.any P md ops Q S z (fuel + 1) listed a w :=
  Z.ready hr (by simp) (Z.All.cons hi (fun K hK => by
    rw [if_pos hw]
    exact h K (fun v w' hS hW => hK.out _ _ (fun _ => hS) hW)) Z.All.nil)
set_option maxRecDepth 100000 in
set_option maxHeartbeats 4000000 in
theorem boundsOf_12 (c : Co) (ca : Option Addr) (cn cc : Nat) (q cap : Nat) (L : List Kn) (ho : c.op = 12) (hL : ∀ k ∈ L, Kn.Fit k) (hn : L.length = 3) (w : World) (hr : Kn.Kr w q 0 L) :
    Calls Try.prog 64 #[.agg #[.int .i64 c.op, .int .i64 c.a, .int .i64 c.b, .int .i64 c.c, .int .i64 c.num, .slice ca cn cc], .slice (some ⟨q, 0, none⟩) L.length cap] w fun e w' => e = .returned (.agg #[.int .i64 (Kn.bd c L).1, .int .i64 (Kn.bd c L).2]) ∧ Below w.heap.size w w' := by
  have FIN := hide (show Kn.bd c L = Kn.times (Kn.either ((Kn.g L 1).lo, (Kn.g L 1).hi) (Kn.g L 2)) (Kn.g L 0) by unfold Kn.bd; simp [ho])
  rw [unhide FIN]
  rw [ho, hn]
  generalize c.a = c1 at *
  generalize c.b = c2 at *
  generalize c.c = c3 at *
  generalize c.num = c4 at *
  clear ho FIN
  obtain ⟨W, hW⟩ : ∃ W, W = ((w.alloc (.cells #[.int .i64 12, .int .i64 c1, .int .i64 c2, .int .i64 c3, .int .i64 c4, .slice ca cn cc] 48)).alloc (.cells #[.int .i64 0, .int .i64 0] 51)).alloc (.cells #[.int .i64 1, .int .i64 1] 51) := ⟨_, rfl⟩
  have ON : Own W (w.heap.size + 1) 51 [.int .i64 0, .int .i64 0] := by rw [hW]; exact Kn.new1of3 _ _ _ _ _
  have OC : Own W w.heap.size 48 [.int .i64 12, .int .i64 c1, .int .i64 c2, .int .i64 c3, .int .i64 c4, .slice ca cn cc] := by
    rw [hW]
    exact Own.below (w := w.alloc _) ⟨_, heap_alloc_new _ _, rfl⟩ (((Below.refl _ _).alloc (Nat.le_refl _) _).alloc (by simp) _) (by simp)
  have BN : Below w.heap.size w W := by rw [hW]; exact Kn.bel3 _ _ _ _
  have HR := hide (fun (V : World) (hb : Below w.heap.size w V) => hr.below hb hr.1)
  have hql := hr.1
  have f0 : W.cell? ⟨w.heap.size, 0, none⟩ = some (.int .i64 12) := OC.cell 0
  have k0 := hL _ (Kn.g_mem (L := L) (i := 0) (by omega))
  have k1 := hL _ (Kn.g_mem (L := L) (i := 1) (by omega))
  have k2 := hL _ (Kn.g_mem (L := L) (i := 2) (by omega))
  obtain ⟨E, hE⟩ : ∃ E, Kn.either ((Kn.g L 1).lo, (Kn.g L 1).hi) (Kn.g L 2) = E := ⟨_, rfl⟩
  have hEf : Kn.F2 E := by rw [← hE]; exact Kn.either_fit ⟨⟨k1.l0, k1.l1⟩, ⟨k1.h0, k1.h1⟩⟩ k2
  have HEI := hide (fun V => either_any (Kn.g L 1).lo (Kn.g L 1).hi (Kn.g L 2) V)
  rw [hE] at HEI ⊢
  obtain ⟨E1, E2⟩ := E
  have HTI := hide (fun V => times_any E1 E2 (Kn.g L 0) V hEf k0)
  obtain ⟨R, hR⟩ : ∃ R, Kn.times (E1, E2) (Kn.g L 0) = R := ⟨_, rfl⟩
  rw [hR] at HTI ⊢
  obtain ⟨R1, R2⟩ := R
  simp only at HEI HTI ⊢
  have HM := hide (fun (V : World) (hb : Below w.heap.size w V) => show (Instr.loadAt 55 (.pointer (some ⟨q, 0, none⟩))).run Try.prog V = .ok (.agg (Kn.cells (Kn.g L 0)).toArray) V ∧ (Instr.loadAt 55 (.pointer (some ⟨q, 40, none⟩))).run Try.prog V = .ok (.agg (Kn.cells (Kn.g L 2)).toArray) V ∧ V.cell? ⟨q, 20, none⟩ = some (.int .i64 (Kn.g L 1).lo) ∧ V.cell? ⟨q, 21, none⟩ = some (.int .i64 (Kn.g L 1).hi) from
    ⟨run_loadAt_mid V q 0 55 (Kn.cells (Kn.g L 0)) _ (((unhide HR) V hb).range 0 (by omega)) Try.underlying55 rfl Kn.knInfo, run_loadAt_mid V q 40 55 (Kn.cells (Kn.g L 2)) _ (((unhide HR) V hb).range 2 (by omega)) Try.underlying55 rfl Kn.knInfo, ((unhide HR) V hb).2 1 (by omega) 0 (by omega), ((unhide HR) V hb).2 1 (by omega) 1 (by omega)⟩)
  have HEI2 := hide (show ∀ V, Calls Try.prog 77 #[.agg #[.int .i64 (Kn.g L 1).lo, .int .i64 (Kn.g L 1).hi], .agg (Kn.cells (Kn.g L 2)).toArray] V fun e w' => e = .returned (.agg #[.int .i64 E1, .int .i64 E2]) ∧ Below V.heap.size V w' from fun V => (unhide HEI) V)
  have HTI2 := hide (show ∀ V, Calls Try.prog 76 #[.agg #[.int .i64 E1, .int .i64 E2], .agg (Kn.cells (Kn.g L 0)).toArray] V fun e w' => e = .returned (.agg #[.int .i64 R1, .int .i64 R2]) ∧ Below V.heap.size V w' from fun V => (unhide HTI) V)
  clear HEI HTI hE hR hEf k0 k1 k2
  generalize (Kn.cells (Kn.g L 0)).toArray = K0 at *
  generalize (Kn.cells (Kn.g L 2)).toArray = K2 at *
  generalize (Kn.g L 1).lo = bl at *
  generalize (Kn.g L 1).hi = bh at *
  have HON := hide (fun (V : World) (hb : Below W.heap.size W V) => And.intro (ON.below hb ON.lt) (BN.trans (hb.mono BN.size)))
  clear hL hr HR OC ON
  go_enter Try.func64, Try.ntmps64
  go_upto_region 2 with fail
  rw [← hW]
  clear hW
  go_upto_region 14 with fail
  refine Z.region 12 (fun w' => Below w.heap.size w w') (by kernel_rfl) BN.drew (fun hHeld => ?_)
  refine Z.take (i := 0) (d := 28) (v := .slice (some ⟨q, 0, none⟩) 3 cap) rfl rfl (by kernel_rfl) (by kernel_rfl) (by kernel_rfl) (by kernel_rfl) (fun _ _ _ h => h) (Or.inl ⟨by rfl, ?_⟩) hHeld ?_
  · intro w' hSw; go_simp
  simp only [Act.put, List.setIfInBounds_toArray, List.set_cons_zero, List.set_cons_succ]
  refine Z.take (i := 1) (d := 29) (v := .pointer (some ⟨q, 20, none⟩)) rfl rfl (by kernel_rfl) (by kernel_rfl) (by kernel_rfl) (by kernel_rfl) (fun _ _ _ h => h) (Or.inl ⟨by rfl, ?_⟩) hHeld ?_
  · intro w' hSw; go_simp
  simp only [Act.put, List.setIfInBounds_toArray, List.set_cons_zero, List.set_cons_succ]
  refine Z.take (i := 2) (d := 30) (v := .pointer (some ⟨q, 20, none⟩)) rfl rfl (by kernel_rfl) (by kernel_rfl) (by kernel_rfl) (by kernel_rfl) (fun _ _ _ h => h) (Or.inl ⟨by rfl, ?_⟩) hHeld ?_
  · intro w' hSw; go_simp
  simp only [Act.put, List.setIfInBounds_toArray, List.set_cons_zero, List.set_cons_succ]
  refine Z.take (i := 3) (d := 31) (v := .agg #[.int .i64 bl, .int .i64 bh]) rfl rfl (by kernel_rfl) (by kernel_rfl) (by kernel_rfl) (by kernel_rfl) (fun _ _ _ h => h) (Or.inl ⟨by rfl, ?_⟩) hHeld ?_
  · intro w' hSw; obtain ⟨_, _, s1, s2⟩ := (unhide HM) w' hSw; go_simp
  simp only [Act.put, List.setIfInBounds_toArray, List.set_cons_zero, List.set_cons_succ]
  refine Z.take (i := 4) (d := 32) (v := .slice (some ⟨q, 0, none⟩) 3 cap) rfl rfl (by kernel_rfl) (by kernel_rfl) (by kernel_rfl) (by kernel_rfl) (fun _ _ _ h => h) (Or.inl ⟨by rfl, ?_⟩) hHeld ?_
  · intro w' hSw; go_simp
  simp only [Act.put, List.setIfInBounds_toArray, List.set_cons_zero, List.set_cons_succ]
  refine Z.take (i := 5) (d := 33) (v := .pointer (some ⟨q, 40, none⟩)) rfl rfl (by kernel_rfl) (by kernel_rfl) (by kernel_rfl) (by kernel_rfl) (fun _ _ _ h => h) (Or.inl ⟨by rfl, ?_⟩) hHeld ?_
  · intro w' hSw; go_simp
  simp only [Act.put, List.setIfInBounds_toArray, List.set_cons_zero, List.set_cons_succ]
  refine Z.take (i := 6) (d := 34) (v := .agg K2) rfl rfl (by kernel_rfl) (by kernel_rfl) (by kernel_rfl) (by kernel_rfl) (fun _ _ _ h => h) (Or.inl ⟨by rfl, ?_⟩) hHeld ?_
  · intro w' hSw; obtain ⟨_, s2, _, _⟩ := (unhide HM) w' hSw; exact Kn.exec_load rfl rfl s2
  simp only [Act.put, List.setIfInBounds_toArray, List.set_cons_zero, List.set_cons_succ]
  refine Z.take (i := 8) (d := 36) (v := .slice (some ⟨q, 0, none⟩) 3 cap) rfl rfl (by kernel_rfl) (by kernel_rfl) (by kernel_rfl) (by kernel_rfl) (fun _ _ _ h => h) (Or.inl ⟨by rfl, ?_⟩) hHeld ?_
  · intro w' hSw; go_simp
  simp only [Act.put, List.setIfInBounds_toArray, List.set_cons_zero, List.set_cons_succ]
  refine Z.take (i := 9) (d := 37) (v := .pointer (some ⟨q, 0, none⟩)) rfl rfl (by kernel_rfl) (by kernel_rfl) (by kernel_rfl) (by kernel_rfl) (fun _ _ _ h => h) (Or.inl ⟨by rfl, ?_⟩) hHeld ?_
  · intro w' hSw; go_simp
  simp only [Act.put, List.setIfInBounds_toArray, List.set_cons_zero, List.set_cons_succ]
  refine Z.take (i := 10) (d := 38) (v := .agg K0) rfl rfl (by kernel_rfl) (by kernel_rfl) (by kernel_rfl) (by kernel_rfl) (fun _ _ _ h => h) (Or.inl ⟨by rfl, ?_⟩) hHeld ?_
  · intro w' hSw; obtain ⟨s1, _, _, _⟩ := (unhide HM) w' hSw; exact Kn.exec_load rfl rfl s1
  simp only [Act.put, List.setIfInBounds_toArray, List.set_cons_zero, List.set_cons_succ]
  refine Z.call1 (i := 7) (d := 35) rfl rfl (by kernel_rfl) (by rfl) (fun K hK => ?_)
  go_simp
  refine ((unhide HEI2) _).mono ?_
  rintro e w1 ⟨rfl, hb1⟩
  have hb1' : Below W.heap.size W w1 := ((Below.refl W.heap.size W).drew).trans (hb1.mono (Nat.le_refl _))
  have BW1 := ((unhide HON) w1 hb1').2
  go_simp
  refine hK.out (.agg #[.int .i64 E1, .int .i64 E2]) _ BW1 ?_
  clear hK K
  simp only [Act.put, List.setIfInBounds_toArray, List.set_cons_zero, List.set_cons_succ]
  refine Z.call1 (i := 11) (d := 39) rfl rfl (by kernel_rfl) (by rfl) (fun K hK => ?_)
  go_simp
  refine ((unhide HTI2) _).mono ?_
  rintro e w2 ⟨rfl, hb2⟩
  have hb2' : Below W.heap.size W w2 := hb1'.trans (hb2.mono hb1'.size)
  have ON1 := ((unhide HON) w2 hb2').1
  have B1 := ((unhide HON) w2 hb2').2
  go_simp
  refine hK.out (.agg #[.int .i64 R1, .int .i64 R2]) _ B1 ?_
  clear hK K
  simp only [Act.put, List.setIfInBounds_toArray, List.set_cons_zero, List.set_cons_succ]
  obtain ⟨c0', c1'⟩ := Kn.two_co ON1
  have z0 := ON1.frozen 0
  have z1 := ON1.frozen 1
  have O2 := hide ((ON1.set 0 (.int .i64 R1)).set 1 (.int .i64 R2))
  have B2 := hide (show Below w.heap.size w ((w2.setCell ⟨w.heap.size + 1, 0, none⟩ (.int .i64 R1)).setCell ⟨w.heap.size + 1, 1, none⟩ (.int .i64 R2)) from (B1.setCell (by simp only; omega) _).setCell (by simp only; omega) _)
  clear ON1 B1
  refine Z.last_at (w' := (w2.setCell ⟨w.heap.size + 1, 0, none⟩ (.int .i64 R1)).setCell ⟨w.heap.size + 1, 1, none⟩ (.int .i64 R2)) rfl (by kernel_rfl) (by rfl) (fun K hK => ?_) ?_
  · go_simp
    exact hK.out
  refine Z.done (by kernel_rfl) ?_ _
  go_wp2_with fail
  obtain ⟨q0, q1⟩ := Kn.two_co (x := .int .i64 R1) (y := .int .i64 R2) (unhide O2)
  have BF := unhide B2
  clear O2 B2 c0' c1' z0 z1
  generalize (w2.setCell ⟨w.heap.size + 1, 0, none⟩ (.int .i64 R1)).setCell ⟨w.heap.size + 1, 1, none⟩ (.int .i64 R2) = WW at *
  refine bodyPost_ret (v := .agg #[.int .i64 R1, .int .i64 R2]) (by simp [results, Try.results64, go_sem, q0, q1]; try rfl) rfl ?_
  exact ⟨rfl, BF⟩
/-- The parts' row as a value: nothing at no parts. -/
def Kn.Lies (w : World) (v : Value) (L : List Kn) : Prop := (L = [] ∧ v = .slice none 0 0) ∨ ∃ q cap, L ≠ [] ∧ v = .slice (some ⟨q, 0, none⟩) L.length cap ∧ L.length ≤ cap ∧ Kn.Kr w q 0 L
theorem Kn.Lies.below {w w' : World} {v : Value} {L : List Kn} (h : Kn.Lies w v L) (hb : Below w.heap.size w w') : Kn.Lies w' v L := by
  rcases h with h | ⟨q, cap, hne, hv, hcp, hr⟩
  · exact Or.inl h
  · exact Or.inr ⟨q, cap, hne, hv, hcp, hr.below hb hr.1⟩
theorem boundsOf_any (c : Co) (ca : Option Addr) (cn cc : Nat) (pv : Value) (L : List Kn) (h1 : 1 ≤ c.op) (h2 : c.op ≤ 17) (hL : ∀ k ∈ L, Kn.Fit k) (hn : L.length = Co.kids c.op) (w : World) (hl : Kn.Lies w pv L) :
    Calls Try.prog 64 #[.agg #[.int .i64 c.op, .int .i64 c.a, .int .i64 c.b, .int .i64 c.c, .int .i64 c.num, .slice ca cn cc], pv] w fun e w' => e = .returned (.agg #[.int .i64 (Kn.bd c L).1, .int .i64 (Kn.bd c L).2]) ∧ Below w.heap.size w w' := by
  obtain ⟨pa, pn, pc, rfl⟩ : ∃ pa pn pc, pv = .slice pa pn pc := by
    rcases hl with ⟨_, h⟩ | ⟨q, cap, _, h, _, _⟩ <;> exact ⟨_, _, _, h⟩
  have hk : ∀ n, Co.kids c.op = n → L.length = n := fun n h => by omega
  have row : 0 < Co.kids c.op → ∃ q cap, Value.slice pa pn pc = .slice (some ⟨q, 0, none⟩) L.length cap ∧ Kn.Kr w q 0 L := fun h => by
    rcases hl with ⟨h0, _⟩ | ⟨q, cap, _, h, _, hr⟩
    · rw [h0] at hn; simp at hn; omega
    · exact ⟨q, cap, h, hr⟩
  have hc : c.op = 1 ∨ c.op = 2 ∨ c.op = 3 ∨ c.op = 4 ∨ c.op = 5 ∨ c.op = 6 ∨ c.op = 7 ∨ c.op = 8 ∨ c.op = 9 ∨ c.op = 10 ∨ c.op = 11 ∨ c.op = 12 ∨ c.op = 13 ∨ c.op = 14 ∨ c.op = 15 ∨ c.op = 16 ∨ c.op = 17 := by omega
  rcases hc with h | h | h | h | h | h | h | h | h | h | h | h | h | h | h | h | h
  · exact boundsOf_1 c ca cn cc pa pn pc L h w
  · exact boundsOf_2 c ca cn cc pa pn pc L h w
  · obtain ⟨q, cap, hv, hr⟩ := row (by rw [h]; decide)
    rw [hv]
    exact boundsOf_3 c ca cn cc q cap L h hL (by have := Co.kids_le c.op; omega) w hr
  · obtain ⟨q, cap, hv, hr⟩ := row (by rw [h]; decide)
    rw [hv]
    exact boundsOf_4 c ca cn cc q cap L h hL (by have := Co.kids_le c.op; omega) w hr
  · obtain ⟨q, cap, hv, hr⟩ := row (by rw [h]; decide)
    rw [hv]
    exact boundsOf_5 c ca cn cc q cap L h hL (hk _ (by rw [h]; decide)) w hr
  · obtain ⟨q, cap, hv, hr⟩ := row (by rw [h]; decide)
    rw [hv]
    exact boundsOf_6 c ca cn cc q cap L h hL (by have := Co.kids_le c.op; omega) w hr
  · obtain ⟨q, cap, hv, hr⟩ := row (by rw [h]; decide)
    rw [hv]
    exact boundsOf_7 c ca cn cc q cap L h hL (by have := Co.kids_le c.op; omega) w hr
  · obtain ⟨q, cap, hv, hr⟩ := row (by rw [h]; decide)
    rw [hv]
    exact boundsOf_8 c ca cn cc q cap L h hL (hk _ (by rw [h]; decide)) w hr
  · obtain ⟨q, cap, hv, hr⟩ := row (by rw [h]; decide)
    rw [hv]
    exact boundsOf_9 c ca cn cc q cap L h hL (hk _ (by rw [h]; decide)) w hr
  · exact boundsOf_10 c ca cn cc pa pn pc L h w
  · obtain ⟨q, cap, hv, hr⟩ := row (by rw [h]; decide)
    rw [hv]
    exact boundsOf_11 c ca cn cc q cap L h hL (by have := Co.kids_le c.op; omega) w hr
  · obtain ⟨q, cap, hv, hr⟩ := row (by rw [h]; decide)
    rw [hv]
    exact boundsOf_12 c ca cn cc q cap L h hL (hk _ (by rw [h]; decide)) w hr
  · obtain ⟨q, cap, hv, hr⟩ := row (by rw [h]; decide)
    rw [hv]
    exact boundsOf_13 c ca cn cc q cap L h hL (hk _ (by rw [h]; decide)) w hr
  · obtain ⟨q, cap, hv, hr⟩ := row (by rw [h]; decide)
    rw [hv]
    exact boundsOf_14 c ca cn cc q cap L h hL (by have := Co.kids_le c.op; omega) w hr
  · exact boundsOf_15 c ca cn cc pa pn pc L h w
  · exact boundsOf_16 c ca cn cc pa pn pc L h w
  · exact boundsOf_17 c ca cn cc pa pn pc L h w

end Go.Proofs.Ytkjmnkbiflkpdaa
