/-
  impl.coder: layEither, layPair, layList, layAs, layReduce, layAlt: by scripts.
-/
import Derived.Test.YtodpmonbfecfdaaCiR
namespace Go.Proofs.Ytodpmonbfecfdaa
open Go.RowKit
set_option linter.unusedVariables false
set_option linter.unusedSimpArgs false


namespace Cm
theorem field_null (a : Option Addr) (n k : Nat) (w : World) : (Instr.field 113 (.agg #[.int .i64 0, .slice a n k]) 1).run Try.prog w = .ok (.slice a n k) w := by kernel_rfl
theorem put2_len (s : St) (a b c d : Int) : ((s.put a b).put c d).len = s.len + 2 := by rw [put_len, put_len]
theorem put2_regs (s : St) (a b c d : Int) : ((s.put a b).put c d).regs = s.regs := rfl
theorem vput_len (s : St) (a : Int) (l : List M.Cl) (c d : Int) : ((s.val a l).put c d).len = s.len + 2 := by rw [put_len, val_len]
theorem vput_regs (s : St) (a : Int) (l : List M.Cl) (c d : Int) : ((s.val a l).put c d).regs = s.regs := rfl
theorem putv_len (s : St) (a b c : Int) (l : List M.Cl) : ((s.put a b).val c l).len = s.len + 2 := by rw [val_len, put_len]
theorem putv_regs (s : St) (a b c : Int) (l : List M.Cl) : ((s.put a b).val c l).regs = s.regs := rfl
theorem jump_li {cS : List (Ic × Value)} {pb : Nat} {cv vS : Value} {tl : List Value} {s s' : St} {wS w : World} (op : Int) (L : Li pb cv tl wS vS cS s w) (hl : s.len ≤ 100000) (hs : s.put op 0 = s') :
    Calls Try.prog 52 #[.pointer (some ⟨pb, 0, none⟩), .int .i64 op] w fun e w' => e = .returned (.int .i64 (s.len : Int)) ∧ Li pb cv tl wS vS cS s' w' := by
  subst hs
  exact L.use fun v cs h => cjump_any pb cv tl s v cs op w h hl
theorem reg_li {cS : List (Ic × Value)} {pb : Nat} {cv vS : Value} {tl : List Value} {s s' : St} {wS w : World} (L : Li pb cv tl wS vS cS s w) (h0 : 0 ≤ s.regs) (h1 : s.regs ≤ 100000) (hs : s.reg = s') :
    Calls Try.prog 75 #[.pointer (some ⟨pb, 0, none⟩)] w fun e w' => e = .returned (.int .i64 s.regs) ∧ Li pb cv tl wS vS cS s' w' := by
  subst hs
  exact L.use fun v cs h => creg_any pb cv tl s v cs w h h0 h1
theorem land_li {cS : List (Ic × Value)} {pb : Nat} {cv vS : Value} {tl : List Value} {s s' : St} {wS w : World} (k : Nat) (L : Li pb cv tl wS vS cS s w) (hk : k < s.len) (hl : s.len ≤ 100000) (hs : s.here k = s') :
    Calls Try.prog 53 #[.pointer (some ⟨pb, 0, none⟩), .int .i64 (k : Int)] w fun e w' => e = .returned (.tuple #[]) ∧ Li pb cv tl wS vS cS s' w' := by
  subst hs
  exact L.use fun v cs h => cland_any pb cv tl s v cs k w h hk hl
theorem with_li {cS : List (Ic × Value)} {w0 : World} {pb : Nat} {cv vS : Value} {rec : Rec} {n : Nat} {a : Int} (H : LaysI w0 pb cv rec n a) {rs : List Int} {s s' : St} {wS w : World} (k : Nat) (r : Int) (hp : w0.heap.size ≤ pb) (hb : Below w0.heap.size w0 wS) (hv : ∀ b, vS.ownBlock = some b → w0.heap.size ≤ b) (L : Li pb cv (rs.map (Value.int .i64)) wS vS cS s w) (h60 : rs.length = 60) (hk : k < 60) (h1 : s.len + 14 * n ≤ 20000) (h2 : 0 ≤ s.regs) (h3 : s.regs + 2 * (n : Int) ≤ 20000) (hs : rec a (rs.set k r) s = s') :
    Calls Try.prog 77 #[.pointer (some ⟨pb, 0, none⟩), .int .i64 (k : Int), .int .i64 r, .int .i64 a] w fun e w' => e = .returned (.tuple #[]) ∧ Li pb cv (rs.map (Value.int .i64)) wS vS cS s' w' := by
  subst hs
  exact L.use fun v cs h => clayWith_any w0 pb cv rec n a H rs s v cs k r w h hp (L.since hp hb hv) h60 hk h1 h2 h3
theorem cellput_li {cS : List (Ic × Value)} {pb : Nat} {cv vS : Value} {tl : List Value} {s s' : St} {wS w : World} (kind op2 arg2 : Int) (L : Li pb cv tl wS vS cS s w) (hl : s.len ≤ 100000) (hs : (s.val 3 (kindV kind)).put op2 arg2 = s') :
    Calls Try.prog 20 #[.pointer (some ⟨pb, 0, none⟩), .slice (some ⟨w.heap.size + 1, 0, none⟩) 2 2] ((w.alloc (.cells #[.int .i64 kind, .int .i64 0, .string ⟨#[]⟩, .string ⟨#[]⟩, .int .i64 0] 84)).alloc (.cells #[.int .i64 3, .int .i64 0, .slice (some ⟨w.heap.size, 0, none⟩) 1 1, .int .i64 op2, .int .i64 arg2, .slice none 0 0] 56)) fun e w' => e = .returned (.tuple #[]) ∧ Li pb cv tl wS vS cS s' w' := by
  have h := vput_li 3 [kindC kind] op2 arg2 L ((Below.refl _ _).alloc (Nat.le_refl _) (.cells #[.int .i64 (kindC kind).kind, .int .i64 (kindC kind).num, .string (kindC kind).text, .string (kindC kind).key, .int .i64 (kindC kind).n] 84)) hl (one_cell w w.heap.size w.heap.size (kindC kind) rfl (Nat.le_refl _)) hs
  rw [World.size_alloc] at h
  exact h
/-- A value that lay there is kept. -/
theorem Li.res {cS : List (Ic × Value)} {pb : Nat} {cv vS x : Value} {tl tl0 : List Value} {s s0 : St} {wS w : World} {cs0 : List (Ic × Value)} {l : List M.Cl} (h : Li pb cv tl wS vS cS s w) (h0 : Sp 52 wS pb cv tl0 s0 vS cs0) (hx : Res wS (pb + 1) x l) : Res w (pb + 1) x l := by
  obtain ⟨v, cs, _, k, _⟩ := h
  exact res_keep hx fun b hb => k.block b (hx.lt b hb) (by have := hx.base b hb; omega) (fun e => h0.row.apart hx e hb)
end Cm

set_option maxRecDepth 100000 in
set_option maxHeartbeats 4000000 in
theorem clayEither_any (w0 : World) (pb : Nat) (cv : Value) (rec : Cm.Rec) (na nb nc : Nat) (rs : List Int) (s : Cm.St) (v : Value) (cs : List (Ic × Value)) (w : World) (hsp : Cm.Sp 52 w pb cv (rs.map (Value.int .i64)) s v cs) (hp : w0.heap.size ≤ pb) (hB0 : Below w0.heap.size w0 w) (h60 : rs.length = 60) (hlen : s.len + 2 + 14 * (na + nb + nc) ≤ 20000) (h0 : 0 ≤ s.regs) (hreg : s.regs + 2 * (1 + (na : Int) + nb + nc) ≤ 20000) (op a b : Int) (Ha : Cm.LaysI w0 pb cv rec na a) (Hb : Cm.LaysI w0 pb cv rec nb b) :
    Calls Try.prog 50 #[.pointer (some ⟨pb, 0, none⟩), .int .i64 op, .int .i64 a, .int .i64 b] w fun e w' => e = .returned (.tuple #[]) ∧ Cm.Li pb cv (rs.map (Value.int .i64)) w v cs (Cm.either rec op a b rs s) w' := by
  obtain ⟨t0, q0⟩ : ∃ t, s = t := ⟨_, rfl⟩
  have HVL := hsp.vlow hp
  have HBS := hB0
  have L0 : Cm.Li pb cv (rs.map (Value.int .i64)) w v cs t0 w := by rw [← q0]; exact Cm.Li.start hsp
  rw [q0] at hlen h0 hreg
  obtain ⟨t1, q1⟩ : ∃ t, t0.put op 0 = t := ⟨_, rfl⟩
  have n1 := Cm.put_len t0 op 0
  have r1 := Cm.put_regs t0 op 0
  rw [q1] at n1 r1
  have C0 := hide (fun (W : World) (L : Cm.Li pb cv (rs.map (Value.int .i64)) w v cs t0 W) => Cm.jump_li op L (by omega) q1)
  obtain ⟨t2, q2⟩ : ∃ t, rec a rs t1 = t := ⟨_, rfl⟩
  have n2 := Ha.1 rs t1
  rw [q2] at n2
  obtain ⟨n2, m2, r2, x2⟩ := n2
  have C1 := hide (fun (W : World) (L : Cm.Li pb cv (rs.map (Value.int .i64)) w v cs t1 W) => Ha.at hp HBS HVL L h60 (by omega) (by omega) (by omega) q2)
  obtain ⟨t3, q3⟩ : ∃ t, t2.put 10 0 = t := ⟨_, rfl⟩
  have n3 := Cm.put_len t2 10 0
  have r3 := Cm.put_regs t2 10 0
  rw [q3] at n3 r3
  have C2 := hide (fun (W : World) (L : Cm.Li pb cv (rs.map (Value.int .i64)) w v cs t2 W) => Cm.jump_li 10 L (by omega) q3)
  obtain ⟨t4, q4⟩ : ∃ t, t3.here t0.len = t := ⟨_, rfl⟩
  have n4 := Cm.here_len t3 t0.len
  have r4 := Cm.here_regs t3 t0.len
  rw [q4] at n4 r4
  have C3 := hide (fun (W : World) (L : Cm.Li pb cv (rs.map (Value.int .i64)) w v cs t3 W) => Cm.land_li t0.len L (by omega) (by omega) q4)
  obtain ⟨t5, q5⟩ : ∃ t, rec b rs t4 = t := ⟨_, rfl⟩
  have n5 := Hb.1 rs t4
  rw [q5] at n5
  obtain ⟨n5, m5, r5, x5⟩ := n5
  have C4 := hide (fun (W : World) (L : Cm.Li pb cv (rs.map (Value.int .i64)) w v cs t4 W) => Hb.at hp HBS HVL L h60 (by omega) (by omega) (by omega) q5)
  obtain ⟨t6, q6⟩ : ∃ t, t5.here t2.len = t := ⟨_, rfl⟩
  have n6 := Cm.here_len t5 t2.len
  have r6 := Cm.here_regs t5 t2.len
  rw [q6] at n6 r6
  have C5 := hide (fun (W : World) (L : Cm.Li pb cv (rs.map (Value.int .i64)) w v cs t5 W) => Cm.land_li t2.len L (by omega) (by omega) q6)
  have HF := hide (show t6 = Cm.either rec op a b rs t0 by rw [← q6, ← q5, ← q4, ← q3, ← q2, ← q1]; rfl)
  clear q1 q2 q3 q4 q5 q6
  clear n1 r1 n2 r2 m2 x2 n3 r3 n4 r4 n5 r5 m5 x5 n6 r6
  rw [← q0] at HF
  have FIN := hide (fun (W : World) (L : Cm.Li pb cv (rs.map (Value.int .i64)) w v cs t6 W) => show Cm.Li pb cv (rs.map (Value.int .i64)) w v cs (Cm.either rec op a b rs s) W from (unhide HF) ▸ (L))
  clear hsp hp hB0 HBS HVL HF hlen h0 hreg Ha Hb
  clear q0
  go_enter Try.func50, Try.ntmps50
  go_wp2_with fail
  refine ((unhide C0) _ L0).mono ?_
  rintro e w1 ⟨rfl, L1⟩
  go_wp2_with fail
  refine ((unhide C1) _ L1).mono ?_
  rintro e w2 ⟨rfl, L2⟩
  go_wp2_with fail
  refine ((unhide C2) _ L2).mono ?_
  rintro e w3 ⟨rfl, L3⟩
  go_wp2_with fail
  refine ((unhide C3) _ L3).mono ?_
  rintro e w4 ⟨rfl, L4⟩
  go_wp2_with fail
  refine ((unhide C4) _ L4).mono ?_
  rintro e w5 ⟨rfl, L5⟩
  go_wp2_with fail
  refine ((unhide C5) _ L5).mono ?_
  rintro e w6 ⟨rfl, L6⟩
  go_wp2_with fail
  go_end0
  exact ⟨rfl, (unhide FIN) _ L6⟩

set_option maxRecDepth 100000 in
set_option maxHeartbeats 4000000 in
theorem clayPair_any (w0 : World) (pb : Nat) (cv : Value) (rec : Cm.Rec) (na nb nc : Nat) (rs : List Int) (s : Cm.St) (v : Value) (cs : List (Ic × Value)) (w : World) (hsp : Cm.Sp 52 w pb cv (rs.map (Value.int .i64)) s v cs) (hp : w0.heap.size ≤ pb) (hB0 : Below w0.heap.size w0 w) (h60 : rs.length = 60) (hlen : s.len + 14 * (1 + na + nb + nc) ≤ 20000) (h0 : 0 ≤ s.regs) (hreg : s.regs + 2 * (1 + (na : Int) + nb + nc) ≤ 20000) (a b op arg : Int) (l : List M.Cl) (vv : Value) (hvv : Res w (pb + 1) vv l) (hfx : ∀ b, vv.ownBlock = some b → b ∉ Cm.bls cs) (Ha : Cm.LaysI w0 pb cv rec na a) (Hb : Cm.LaysI w0 pb cv rec nb b) :
    Calls Try.prog 51 #[.pointer (some ⟨pb, 0, none⟩), .int .i64 a, .int .i64 b, .agg #[.int .i64 op, .int .i64 arg, vv]] w fun e w' => e = .returned (.tuple #[]) ∧ Cm.Li pb cv (rs.map (Value.int .i64)) w v (cs ++ [(⟨op, arg, l⟩, vv)]) (Cm.St.puts (Cm.pair rec a b rs s) [⟨op, arg, l⟩]) w' := by
  obtain ⟨vx, vy, vz, rfl⟩ := hvv.shape
  obtain ⟨t0, q0⟩ : ∃ t, s = t := ⟨_, rfl⟩
  have HVL := hsp.vlow hp
  obtain ⟨wS, hwS⟩ : ∃ wS, w.alloc (.cells #[.int .i64 op, .int .i64 arg, .slice vx vy vz] 56) = wS := ⟨_, rfl⟩
  have BS : Below w.heap.size w wS := by rw [← hwS]; exact (Below.refl _ _).alloc (Nat.le_refl _) _
  have X0 : Own wS w.heap.size 56 [.int .i64 op, .int .i64 arg, .slice vx vy vz] := by rw [← hwS]; exact ⟨_, heap_alloc_new _ _, rfl⟩
  have HN1 : w.heap.size ≠ pb := by have := hsp.own.lt; omega
  have HN2 := hsp.vnew
  have HBS : Below w0.heap.size w0 wS := hB0.trans (BS.mono hB0.size)
  have L0 : Cm.Li pb cv (rs.map (Value.int .i64)) wS v cs t0 wS := by rw [← q0]; exact Cm.Li.start (hsp.below BS)
  rw [q0] at hlen h0 hreg
  obtain ⟨t1, q1⟩ : ∃ t, t0.put 1 0 = t := ⟨_, rfl⟩
  have n1 := Cm.put_len t0 1 0
  have r1 := Cm.put_regs t0 1 0
  rw [q1] at n1 r1
  have C0 := hide (fun (W : World) (L : Cm.Li pb cv (rs.map (Value.int .i64)) wS v cs t0 W) => Cm.put1_li 1 0 L (by omega) q1)
  obtain ⟨t2, q2⟩ : ∃ t, rec a rs t1 = t := ⟨_, rfl⟩
  have n2 := Ha.1 rs t1
  rw [q2] at n2
  obtain ⟨n2, m2, r2, x2⟩ := n2
  have C1 := hide (fun (W : World) (L : Cm.Li pb cv (rs.map (Value.int .i64)) wS v cs t1 W) => Ha.at hp HBS HVL L h60 (by omega) (by omega) (by omega) q2)
  obtain ⟨t3, q3⟩ : ∃ t, t2.put 4 0 = t := ⟨_, rfl⟩
  have n3 := Cm.put_len t2 4 0
  have r3 := Cm.put_regs t2 4 0
  rw [q3] at n3 r3
  have C2 := hide (fun (W : World) (L : Cm.Li pb cv (rs.map (Value.int .i64)) wS v cs t2 W) => Cm.put1_li 4 0 L (by omega) q3)
  obtain ⟨t4, q4⟩ : ∃ t, rec b rs t3 = t := ⟨_, rfl⟩
  have n4 := Hb.1 rs t3
  rw [q4] at n4
  obtain ⟨n4, m4, r4, x4⟩ := n4
  have C3 := hide (fun (W : World) (L : Cm.Li pb cv (rs.map (Value.int .i64)) wS v cs t3 W) => Hb.at hp HBS HVL L h60 (by omega) (by omega) (by omega) q4)
  obtain ⟨t5, q5⟩ : ∃ t, Cm.St.puts t4 [⟨op, arg, l⟩] = t := ⟨_, rfl⟩
  have n5 : True := trivial
  have r5 : True := trivial
  have C4 := hide (fun (W : World) (L : Cm.Li pb cv (rs.map (Value.int .i64)) wS v cs t4 W) => Cm.putx_li (cT := cs ++ [(⟨op, arg, l⟩, .slice vx vy vz)]) [(⟨op, arg, l⟩, .slice vx vy vz)] L (Below.refl _ _) (by omega) (by simp) (fun p hp => by simp only [List.mem_singleton] at hp; subst hp; exact L.res (hsp.below BS) (hvv.below BS)) (by rw [Cm.bls_one]; cases (Value.slice vx vy vz).ownBlock <;> simp) (fun cs2 hN _ b q1 q2 => by rw [Cm.bls_one] at q1; have e : (Value.slice vx vy vz).ownBlock = some b := (by simpa using q1); (rcases hN b q2 with q | q; exact hfx b e q; have := hvv.lt b e; have := BS.size; omega)) (fun b q => by rw [Cm.bls_append]; exact List.mem_append_left _ q) (fun b q => .inl (by rw [Cm.bls_append]; exact List.mem_append_right _ q)) q5)
  have HF := hide (show t5 = Cm.St.puts (Cm.pair rec a b rs t0) [⟨op, arg, l⟩] by rw [← q5, ← q4, ← q3, ← q2, ← q1]; rfl)
  clear q1 q2 q3 q4 q5
  clear n1 r1 n2 r2 m2 x2 n3 r3 n4 r4 m4 x4 n5 r5
  rw [← q0] at HF
  have FIN := hide (fun (W : World) (L : Cm.Li pb cv (rs.map (Value.int .i64)) wS v (cs ++ [(⟨op, arg, l⟩, .slice vx vy vz)]) t5 W) => show Cm.Li pb cv (rs.map (Value.int .i64)) w v (cs ++ [(⟨op, arg, l⟩, .slice vx vy vz)]) (Cm.St.puts (Cm.pair rec a b rs s) [⟨op, arg, l⟩]) W from (unhide HF) ▸ (Cm.Li.ahead BS L))
  clear hvv hfx hsp hp hB0 HBS HVL HF hlen h0 hreg BS Ha Hb
  clear q0
  go_enter Try.func51, Try.ntmps51
  go_wp2_with fail
  try rw [hwS]
  clear hwS
  refine ((unhide C0) _ L0).mono ?_
  rintro e w1 ⟨rfl, L1⟩
  go_wp2_with fail
  refine ((unhide C1) _ L1).mono ?_
  rintro e w2 ⟨rfl, L2⟩
  go_wp2_with fail
  refine ((unhide C2) _ L2).mono ?_
  rintro e w3 ⟨rfl, L3⟩
  go_wp2_with fail
  refine ((unhide C3) _ L3).mono ?_
  rintro e w4 ⟨rfl, L4⟩
  have y4_0 := (L4.own X0 HN1 HN2).cell 0
  have y4_1 := (L4.own X0 HN1 HN2).cell 1
  have y4_2 := (L4.own X0 HN1 HN2).cell 2
  simp only [List.getElem?_cons_zero, List.getElem?_cons_succ] at y4_0 y4_1 y4_2
  go_wp2_with fail
  refine ((unhide C4) _ L4).mono ?_
  rintro e w5 ⟨rfl, L5⟩
  go_wp2_with fail
  go_end0
  exact ⟨rfl, (unhide FIN) _ L5⟩

set_option maxRecDepth 100000 in
set_option maxHeartbeats 4000000 in
theorem clayList_any (w0 : World) (pb : Nat) (cv : Value) (rec : Cm.Rec) (na nb nc : Nat) (rs : List Int) (s : Cm.St) (v : Value) (cs : List (Ic × Value)) (w : World) (hsp : Cm.Sp 52 w pb cv (rs.map (Value.int .i64)) s v cs) (hp : w0.heap.size ≤ pb) (hB0 : Below w0.heap.size w0 w) (h60 : rs.length = 60) (hlen : s.len + 14 * (1 + na + nb + nc) ≤ 20000) (h0 : 0 ≤ s.regs) (hreg : s.regs + 2 * (1 + (na : Int) + nb + nc) ≤ 20000) (a b c3 num : Int) (vv : Value) (hvv : ∃ x y z, vv = .slice x y z) (Ha : Cm.LaysI w0 pb cv rec na a) :
    Calls Try.prog 54 #[.pointer (some ⟨pb, 0, none⟩), .agg #[.int .i64 10, .int .i64 a, .int .i64 b, .int .i64 c3, .int .i64 num, vv]] w fun e w' => e = .returned (.tuple #[]) ∧ Cm.Li pb cv (rs.map (Value.int .i64)) w v cs (Cm.list rec a rs s) w' := by
  obtain ⟨vx, vy, vz, rfl⟩ := hvv
  obtain ⟨t0, q0⟩ : ∃ t, s = t := ⟨_, rfl⟩
  have HVL := hsp.vlow hp
  obtain ⟨wS, hwS⟩ : ∃ wS, w.alloc (.cells #[.int .i64 10, .int .i64 a, .int .i64 b, .int .i64 c3, .int .i64 num, .slice vx vy vz] 48) = wS := ⟨_, rfl⟩
  have BS : Below w.heap.size w wS := by rw [← hwS]; exact (Below.refl _ _).alloc (Nat.le_refl _) _
  have X0 : Own wS w.heap.size 48 [.int .i64 10, .int .i64 a, .int .i64 b, .int .i64 c3, .int .i64 num, .slice vx vy vz] := by rw [← hwS]; exact ⟨_, heap_alloc_new _ _, rfl⟩
  have HN1 : w.heap.size ≠ pb := by have := hsp.own.lt; omega
  have HN2 := hsp.vnew
  have HBS : Below w0.heap.size w0 wS := hB0.trans (BS.mono hB0.size)
  have L0 : Cm.Li pb cv (rs.map (Value.int .i64)) wS v cs t0 wS := by rw [← q0]; exact Cm.Li.start (hsp.below BS)
  rw [q0] at hlen h0 hreg
  obtain ⟨t1, q1⟩ : ∃ t, t0.reg = t := ⟨_, rfl⟩
  have n1 := Cm.reg_len t0
  have r1 := Cm.reg_regs t0
  rw [q1] at n1 r1
  have C0 := hide (fun (W : World) (L : Cm.Li pb cv (rs.map (Value.int .i64)) wS v cs t0 W) => Cm.reg_li L (by omega) (by omega) q1)
  obtain ⟨t2, q2⟩ : ∃ t, (t1.val 3 (Cm.kindV 5)).put 16 t0.regs = t := ⟨_, rfl⟩
  have n2 := Cm.vput_len t1 3 (Cm.kindV 5) 16 t0.regs
  have r2 := Cm.vput_regs t1 3 (Cm.kindV 5) 16 t0.regs
  rw [q2] at n2 r2
  have C1 := hide (fun (U W : World) (x : Value) (L : Cm.Li pb cv (rs.map (Value.int .i64)) wS v cs t1 U) (hb : Below U.heap.size U W) (hx : Res W U.heap.size x [Cm.kindC 5]) => Cm.vput_li 3 [Cm.kindC 5] 16 t0.regs L hb (by omega) hx q2)
  obtain ⟨t3, q3⟩ : ∃ t, t2.put 12 0 = t := ⟨_, rfl⟩
  have n3 := Cm.put_len t2 12 0
  have r3 := Cm.put_regs t2 12 0
  rw [q3] at n3 r3
  have C2 := hide (fun (W : World) (L : Cm.Li pb cv (rs.map (Value.int .i64)) wS v cs t2 W) => Cm.jump_li 12 L (by omega) q3)
  obtain ⟨t4, q4⟩ : ∃ t, rec a rs t3 = t := ⟨_, rfl⟩
  have n4 := Ha.1 rs t3
  rw [q4] at n4
  obtain ⟨n4, m4, r4, x4⟩ := n4
  have C3 := hide (fun (W : World) (L : Cm.Li pb cv (rs.map (Value.int .i64)) wS v cs t3 W) => Ha.at hp HBS HVL L h60 (by omega) (by omega) (by omega) q4)
  obtain ⟨t5, q5⟩ : ∃ t, (t4.put 18 t0.regs).put 15 0 = t := ⟨_, rfl⟩
  have n5 := Cm.put2_len t4 18 t0.regs 15 0
  have r5 := Cm.put2_regs t4 18 t0.regs 15 0
  rw [q5] at n5 r5
  have C4 := hide (fun (W : World) (L : Cm.Li pb cv (rs.map (Value.int .i64)) wS v cs t4 W) => Cm.put2_li 18 t0.regs 15 0 L (by omega) q5)
  obtain ⟨t6, q6⟩ : ∃ t, t5.here t2.len = t := ⟨_, rfl⟩
  have n6 := Cm.here_len t5 t2.len
  have r6 := Cm.here_regs t5 t2.len
  rw [q6] at n6 r6
  have C5 := hide (fun (W : World) (L : Cm.Li pb cv (rs.map (Value.int .i64)) wS v cs t5 W) => Cm.land_li t2.len L (by omega) (by omega) q6)
  obtain ⟨t7, q7⟩ : ∃ t, (t6.put 2 0).put 17 t0.regs = t := ⟨_, rfl⟩
  have n7 := Cm.put2_len t6 2 0 17 t0.regs
  have r7 := Cm.put2_regs t6 2 0 17 t0.regs
  rw [q7] at n7 r7
  have C6 := hide (fun (W : World) (L : Cm.Li pb cv (rs.map (Value.int .i64)) wS v cs t6 W) => Cm.put2_li 2 0 17 t0.regs L (by omega) q7)
  have HF := hide (show t7 = Cm.list rec a rs t0 by rw [← q7, ← q6, ← q5, ← q4, ← q3, ← q2, ← q1]; rfl)
  clear q1 q2 q3 q4 q5 q6 q7
  clear n1 r1 n2 r2 n3 r3 n4 r4 m4 x4 n5 r5 n6 r6 n7 r7
  rw [← q0] at HF
  have FIN := hide (fun (W : World) (L : Cm.Li pb cv (rs.map (Value.int .i64)) wS v cs t7 W) => show Cm.Li pb cv (rs.map (Value.int .i64)) w v cs (Cm.list rec a rs s) W from (unhide HF) ▸ (Cm.Li.ahead BS L))
  clear hsp hp hB0 HBS HVL HF hlen h0 hreg BS Ha
  clear q0
  go_enter Try.func54, Try.ntmps54
  go_wp2_with fail
  try rw [hwS]
  clear hwS
  refine ((unhide C0) _ L0).mono ?_
  rintro e w1 ⟨rfl, L1⟩
  go_wp2_with fail
  refine (clayNone_any _).mono ?_
  rintro e u1 ⟨x1, rfl, hx1, hb1⟩
  obtain ⟨xa, xn, xc, rfl⟩ := hx1.shape
  go_wp2_with fail
  refine ((unhide C1) _ _ _ L1 hb1 hx1).mono ?_
  rintro e w2 ⟨rfl, L2⟩
  go_wp2_with fail
  refine ((unhide C2) _ L2).mono ?_
  rintro e w3 ⟨rfl, L3⟩
  have y3_1 := (L3.own X0 HN1 HN2).cell 1
  simp only [List.getElem?_cons_zero, List.getElem?_cons_succ] at y3_1
  go_wp2_with fail
  refine ((unhide C3) _ L3).mono ?_
  rintro e w4 ⟨rfl, L4⟩
  go_wp2_with fail
  refine ((unhide C4) _ L4).mono ?_
  rintro e w5 ⟨rfl, L5⟩
  go_wp2_with fail
  refine ((unhide C5) _ L5).mono ?_
  rintro e w6 ⟨rfl, L6⟩
  go_wp2_with fail
  refine ((unhide C6) _ L6).mono ?_
  rintro e w7 ⟨rfl, L7⟩
  go_wp2_with fail
  go_end0
  exact ⟨rfl, (unhide FIN) _ L7⟩

set_option maxRecDepth 100000 in
set_option maxHeartbeats 4000000 in
theorem clayAs_any (w0 : World) (pb : Nat) (cv : Value) (rec : Cm.Rec) (na nb nc : Nat) (rs : List Int) (s : Cm.St) (v : Value) (cs : List (Ic × Value)) (w : World) (hsp : Cm.Sp 52 w pb cv (rs.map (Value.int .i64)) s v cs) (hp : w0.heap.size ≤ pb) (hB0 : Below w0.heap.size w0 w) (h60 : rs.length = 60) (hlen : s.len + 14 * (1 + na + nb + nc) ≤ 20000) (h0 : 0 ≤ s.regs) (hreg : s.regs + 2 * (1 + (na : Int) + nb + nc) ≤ 20000) (a b c3 : Int) (num : Nat) (hnum : num < 60) (vv : Value) (hvv : ∃ x y z, vv = .slice x y z) (Ha : Cm.LaysI w0 pb cv rec na a) (Hb : Cm.LaysI w0 pb cv rec nb b) :
    Calls Try.prog 55 #[.pointer (some ⟨pb, 0, none⟩), .agg #[.int .i64 14, .int .i64 a, .int .i64 b, .int .i64 c3, .int .i64 (num : Int), vv]] w fun e w' => e = .returned (.tuple #[]) ∧ Cm.Li pb cv (rs.map (Value.int .i64)) w v cs (Cm.asV rec a b (num : Int) rs s) w' := by
  obtain ⟨vx, vy, vz, rfl⟩ := hvv
  obtain ⟨t0, q0⟩ : ∃ t, s = t := ⟨_, rfl⟩
  have HVL := hsp.vlow hp
  obtain ⟨wS, hwS⟩ : ∃ wS, w.alloc (.cells #[.int .i64 14, .int .i64 a, .int .i64 b, .int .i64 c3, .int .i64 (num : Int), .slice vx vy vz] 48) = wS := ⟨_, rfl⟩
  have BS : Below w.heap.size w wS := by rw [← hwS]; exact (Below.refl _ _).alloc (Nat.le_refl _) _
  have X0 : Own wS w.heap.size 48 [.int .i64 14, .int .i64 a, .int .i64 b, .int .i64 c3, .int .i64 (num : Int), .slice vx vy vz] := by rw [← hwS]; exact ⟨_, heap_alloc_new _ _, rfl⟩
  have HN1 : w.heap.size ≠ pb := by have := hsp.own.lt; omega
  have HN2 := hsp.vnew
  have HBS : Below w0.heap.size w0 wS := hB0.trans (BS.mono hB0.size)
  have L0 : Cm.Li pb cv (rs.map (Value.int .i64)) wS v cs t0 wS := by rw [← q0]; exact Cm.Li.start (hsp.below BS)
  rw [q0] at hlen h0 hreg
  obtain ⟨t1, q1⟩ : ∃ t, t0.reg = t := ⟨_, rfl⟩
  have n1 := Cm.reg_len t0
  have r1 := Cm.reg_regs t0
  rw [q1] at n1 r1
  have C0 := hide (fun (W : World) (L : Cm.Li pb cv (rs.map (Value.int .i64)) wS v cs t0 W) => Cm.reg_li L (by omega) (by omega) q1)
  obtain ⟨t2, q2⟩ : ∃ t, t1.put 1 0 = t := ⟨_, rfl⟩
  have n2 := Cm.put_len t1 1 0
  have r2 := Cm.put_regs t1 1 0
  rw [q2] at n2 r2
  have C1 := hide (fun (W : World) (L : Cm.Li pb cv (rs.map (Value.int .i64)) wS v cs t1 W) => Cm.put1_li 1 0 L (by omega) q2)
  obtain ⟨t3, q3⟩ : ∃ t, rec a rs t2 = t := ⟨_, rfl⟩
  have n3 := Ha.1 rs t2
  rw [q3] at n3
  obtain ⟨n3, m3, r3, x3⟩ := n3
  have C2 := hide (fun (W : World) (L : Cm.Li pb cv (rs.map (Value.int .i64)) wS v cs t2 W) => Ha.at hp HBS HVL L h60 (by omega) (by omega) (by omega) q3)
  obtain ⟨t4, q4⟩ : ∃ t, t3.put 16 t0.regs = t := ⟨_, rfl⟩
  have n4 := Cm.put_len t3 16 t0.regs
  have r4 := Cm.put_regs t3 16 t0.regs
  rw [q4] at n4 r4
  have C3 := hide (fun (W : World) (L : Cm.Li pb cv (rs.map (Value.int .i64)) wS v cs t3 W) => Cm.put1_li 16 t0.regs L (by omega) q4)
  obtain ⟨t5, q5⟩ : ∃ t, rec b (rs.set num (t0.regs)) t4 = t := ⟨_, rfl⟩
  have n5 := Hb.1 (rs.set num (t0.regs)) t4
  rw [q5] at n5
  obtain ⟨n5, m5, r5, x5⟩ := n5
  have C4 := hide (fun (W : World) (L : Cm.Li pb cv (rs.map (Value.int .i64)) wS v cs t4 W) => Cm.with_li Hb num (t0.regs) hp HBS HVL L h60 hnum (by omega) (by omega) (by omega) q5)
  have HF := hide (show t5 = Cm.asV rec a b (num : Int) rs t0 by rw [← q5, ← q4, ← q3, ← q2, ← q1]; unfold Cm.asV; rw [Int.toNat_natCast])
  clear q1 q2 q3 q4 q5
  clear n1 r1 n2 r2 n3 r3 m3 x3 n4 r4 n5 r5 m5 x5
  rw [← q0] at HF
  have FIN := hide (fun (W : World) (L : Cm.Li pb cv (rs.map (Value.int .i64)) wS v cs t5 W) => show Cm.Li pb cv (rs.map (Value.int .i64)) w v cs (Cm.asV rec a b (num : Int) rs s) W from (unhide HF) ▸ (Cm.Li.ahead BS L))
  clear hsp hp hB0 HBS HVL HF hlen h0 hreg BS Ha Hb
  clear q0
  go_enter Try.func55, Try.ntmps55
  go_wp2_with fail
  try rw [hwS]
  clear hwS
  refine ((unhide C0) _ L0).mono ?_
  rintro e w1 ⟨rfl, L1⟩
  go_wp2_with fail
  refine ((unhide C1) _ L1).mono ?_
  rintro e w2 ⟨rfl, L2⟩
  have y2_1 := (L2.own X0 HN1 HN2).cell 1
  simp only [List.getElem?_cons_zero, List.getElem?_cons_succ] at y2_1
  go_wp2_with fail
  refine ((unhide C2) _ L2).mono ?_
  rintro e w3 ⟨rfl, L3⟩
  go_wp2_with fail
  refine ((unhide C3) _ L3).mono ?_
  rintro e w4 ⟨rfl, L4⟩
  have y4_2 := (L4.own X0 HN1 HN2).cell 2
  have y4_4 := (L4.own X0 HN1 HN2).cell 4
  simp only [List.getElem?_cons_zero, List.getElem?_cons_succ] at y4_2 y4_4
  go_wp2_with fail
  refine ((unhide C4) _ L4).mono ?_
  rintro e w5 ⟨rfl, L5⟩
  go_wp2_with fail
  go_end0
  exact ⟨rfl, (unhide FIN) _ L5⟩

set_option maxRecDepth 100000 in
set_option maxHeartbeats 4000000 in
theorem clayReduce_any (w0 : World) (pb : Nat) (cv : Value) (rec : Cm.Rec) (na nb nc : Nat) (rs : List Int) (s : Cm.St) (v : Value) (cs : List (Ic × Value)) (w : World) (hsp : Cm.Sp 52 w pb cv (rs.map (Value.int .i64)) s v cs) (hp : w0.heap.size ≤ pb) (hB0 : Below w0.heap.size w0 w) (h60 : rs.length = 60) (hlen : s.len + 14 * (1 + na + nb + nc) ≤ 20000) (h0 : 0 ≤ s.regs) (hreg : s.regs + 2 * (1 + (na : Int) + nb + nc) ≤ 20000) (a b c3 : Int) (num : Nat) (hnum : num < 60) (vv : Value) (hvv : ∃ x y z, vv = .slice x y z) (Ha : Cm.LaysI w0 pb cv rec na a) (Hb : Cm.LaysI w0 pb cv rec nb b) (Hc : Cm.LaysI w0 pb cv rec nc c3) :
    Calls Try.prog 56 #[.pointer (some ⟨pb, 0, none⟩), .agg #[.int .i64 13, .int .i64 a, .int .i64 b, .int .i64 c3, .int .i64 (num : Int), vv]] w fun e w' => e = .returned (.tuple #[]) ∧ Cm.Li pb cv (rs.map (Value.int .i64)) w v cs (Cm.reduce rec a b c3 (num : Int) rs s) w' := by
  obtain ⟨vx, vy, vz, rfl⟩ := hvv
  obtain ⟨t0, q0⟩ : ∃ t, s = t := ⟨_, rfl⟩
  have HVL := hsp.vlow hp
  obtain ⟨wS, hwS⟩ : ∃ wS, w.alloc (.cells #[.int .i64 13, .int .i64 a, .int .i64 b, .int .i64 c3, .int .i64 (num : Int), .slice vx vy vz] 48) = wS := ⟨_, rfl⟩
  have BS : Below w.heap.size w wS := by rw [← hwS]; exact (Below.refl _ _).alloc (Nat.le_refl _) _
  have X0 : Own wS w.heap.size 48 [.int .i64 13, .int .i64 a, .int .i64 b, .int .i64 c3, .int .i64 (num : Int), .slice vx vy vz] := by rw [← hwS]; exact ⟨_, heap_alloc_new _ _, rfl⟩
  have HN1 : w.heap.size ≠ pb := by have := hsp.own.lt; omega
  have HN2 := hsp.vnew
  have HBS : Below w0.heap.size w0 wS := hB0.trans (BS.mono hB0.size)
  have L0 : Cm.Li pb cv (rs.map (Value.int .i64)) wS v cs t0 wS := by rw [← q0]; exact Cm.Li.start (hsp.below BS)
  rw [q0] at hlen h0 hreg
  obtain ⟨t1, q1⟩ : ∃ t, t0.reg = t := ⟨_, rfl⟩
  have n1 := Cm.reg_len t0
  have r1 := Cm.reg_regs t0
  rw [q1] at n1 r1
  have C0 := hide (fun (W : World) (L : Cm.Li pb cv (rs.map (Value.int .i64)) wS v cs t0 W) => Cm.reg_li L (by omega) (by omega) q1)
  obtain ⟨t2, q2⟩ : ∃ t, t1.reg = t := ⟨_, rfl⟩
  have n2 := Cm.reg_len t1
  have r2 := Cm.reg_regs t1
  rw [q2] at n2 r2
  have C1 := hide (fun (W : World) (L : Cm.Li pb cv (rs.map (Value.int .i64)) wS v cs t1 W) => Cm.reg_li L (by omega) (by omega) q2)
  obtain ⟨t3, q3⟩ : ∃ t, t2.put 1 0 = t := ⟨_, rfl⟩
  have n3 := Cm.put_len t2 1 0
  have r3 := Cm.put_regs t2 1 0
  rw [q3] at n3 r3
  have C2 := hide (fun (W : World) (L : Cm.Li pb cv (rs.map (Value.int .i64)) wS v cs t2 W) => Cm.put1_li 1 0 L (by omega) q3)
  obtain ⟨t4, q4⟩ : ∃ t, rec b rs t3 = t := ⟨_, rfl⟩
  have n4 := Hb.1 rs t3
  rw [q4] at n4
  obtain ⟨n4, m4, r4, x4⟩ := n4
  have C3 := hide (fun (W : World) (L : Cm.Li pb cv (rs.map (Value.int .i64)) wS v cs t3 W) => Hb.at hp HBS HVL L h60 (by omega) (by omega) (by omega) q4)
  obtain ⟨t5, q5⟩ : ∃ t, t4.put 16 t0.regs = t := ⟨_, rfl⟩
  have n5 := Cm.put_len t4 16 t0.regs
  have r5 := Cm.put_regs t4 16 t0.regs
  rw [q5] at n5 r5
  have C4 := hide (fun (W : World) (L : Cm.Li pb cv (rs.map (Value.int .i64)) wS v cs t4 W) => Cm.put1_li 16 t0.regs L (by omega) q5)
  obtain ⟨t6, q6⟩ : ∃ t, t5.put 12 0 = t := ⟨_, rfl⟩
  have n6 := Cm.put_len t5 12 0
  have r6 := Cm.put_regs t5 12 0
  rw [q6] at n6 r6
  have C5 := hide (fun (W : World) (L : Cm.Li pb cv (rs.map (Value.int .i64)) wS v cs t5 W) => Cm.jump_li 12 L (by omega) q6)
  obtain ⟨t7, q7⟩ : ∃ t, rec a rs t6 = t := ⟨_, rfl⟩
  have n7 := Ha.1 rs t6
  rw [q7] at n7
  obtain ⟨n7, m7, r7, x7⟩ := n7
  have C6 := hide (fun (W : World) (L : Cm.Li pb cv (rs.map (Value.int .i64)) wS v cs t6 W) => Ha.at hp HBS HVL L h60 (by omega) (by omega) (by omega) q7)
  obtain ⟨t8, q8⟩ : ∃ t, (t7.put 16 t1.regs).put 17 t0.regs = t := ⟨_, rfl⟩
  have n8 := Cm.put2_len t7 16 t1.regs 17 t0.regs
  have r8 := Cm.put2_regs t7 16 t1.regs 17 t0.regs
  rw [q8] at n8 r8
  have C7 := hide (fun (W : World) (L : Cm.Li pb cv (rs.map (Value.int .i64)) wS v cs t7 W) => Cm.put2_li 16 t1.regs 17 t0.regs L (by omega) q8)
  obtain ⟨t9, q9⟩ : ∃ t, (t8.val 3 (Cm.kindV 0)).put 16 t0.regs = t := ⟨_, rfl⟩
  have n9 := Cm.vput_len t8 3 (Cm.kindV 0) 16 t0.regs
  have r9 := Cm.vput_regs t8 3 (Cm.kindV 0) 16 t0.regs
  rw [q9] at n9 r9
  have C8 := hide (fun (U W : World) (x : Value) (L : Cm.Li pb cv (rs.map (Value.int .i64)) wS v cs t8 U) (hb : Below U.heap.size U W) (hx : Res W U.heap.size x [Cm.kindC 0]) => Cm.vput_li 3 [Cm.kindC 0] 16 t0.regs L hb (by omega) hx q9)
  obtain ⟨t10, q10⟩ : ∃ t, rec c3 (rs.set num (t1.regs)) t9 = t := ⟨_, rfl⟩
  have n10 := Hc.1 (rs.set num (t1.regs)) t9
  rw [q10] at n10
  obtain ⟨n10, m10, r10, x10⟩ := n10
  have C9 := hide (fun (W : World) (L : Cm.Li pb cv (rs.map (Value.int .i64)) wS v cs t9 W) => Cm.with_li Hc num (t1.regs) hp HBS HVL L h60 hnum (by omega) (by omega) (by omega) q10)
  obtain ⟨t11, q11⟩ : ∃ t, (t10.put 16 t0.regs).put 15 0 = t := ⟨_, rfl⟩
  have n11 := Cm.put2_len t10 16 t0.regs 15 0
  have r11 := Cm.put2_regs t10 16 t0.regs 15 0
  rw [q11] at n11 r11
  have C10 := hide (fun (W : World) (L : Cm.Li pb cv (rs.map (Value.int .i64)) wS v cs t10 W) => Cm.put2_li 16 t0.regs 15 0 L (by omega) q11)
  obtain ⟨t12, q12⟩ : ∃ t, t11.here t5.len = t := ⟨_, rfl⟩
  have n12 := Cm.here_len t11 t5.len
  have r12 := Cm.here_regs t11 t5.len
  rw [q12] at n12 r12
  have C11 := hide (fun (W : World) (L : Cm.Li pb cv (rs.map (Value.int .i64)) wS v cs t11 W) => Cm.land_li t5.len L (by omega) (by omega) q12)
  obtain ⟨t13, q13⟩ : ∃ t, (t12.put 2 0).put 17 t0.regs = t := ⟨_, rfl⟩
  have n13 := Cm.put2_len t12 2 0 17 t0.regs
  have r13 := Cm.put2_regs t12 2 0 17 t0.regs
  rw [q13] at n13 r13
  have C12 := hide (fun (W : World) (L : Cm.Li pb cv (rs.map (Value.int .i64)) wS v cs t12 W) => Cm.put2_li 2 0 17 t0.regs L (by omega) q13)
  have HF := hide (show t13 = Cm.reduce rec a b c3 (num : Int) rs t0 by rw [← q13, ← q12, ← q11, ← q10, ← q9, ← q8, ← q7, ← q6, ← q5, ← q4, ← q3, ← q2, ← q1]; unfold Cm.reduce; rw [Int.toNat_natCast]; rfl)
  clear q1 q2 q3 q4 q5 q6 q7 q8 q9 q10 q11 q12 q13
  clear n1 r1 n2 r2 n3 r3 n4 r4 m4 x4 n5 r5 n6 r6 n7 r7 m7 x7 n8 r8 n9 r9 n10 r10 m10 x10 n11 r11 n12 r12 n13 r13
  rw [← q0] at HF
  have FIN := hide (fun (W : World) (L : Cm.Li pb cv (rs.map (Value.int .i64)) wS v cs t13 W) => show Cm.Li pb cv (rs.map (Value.int .i64)) w v cs (Cm.reduce rec a b c3 (num : Int) rs s) W from (unhide HF) ▸ (Cm.Li.ahead BS L))
  clear hsp hp hB0 HBS HVL HF hlen h0 hreg BS Ha Hb Hc
  clear q0
  go_enter Try.func56, Try.ntmps56
  go_wp2_with fail
  try rw [hwS]
  clear hwS
  refine ((unhide C0) _ L0).mono ?_
  rintro e w1 ⟨rfl, L1⟩
  go_wp2_with fail
  refine ((unhide C1) _ L1).mono ?_
  rintro e w2 ⟨rfl, L2⟩
  go_wp2_with fail
  refine ((unhide C2) _ L2).mono ?_
  rintro e w3 ⟨rfl, L3⟩
  have y3_2 := (L3.own X0 HN1 HN2).cell 2
  simp only [List.getElem?_cons_zero, List.getElem?_cons_succ] at y3_2
  go_wp2_with fail
  refine ((unhide C3) _ L3).mono ?_
  rintro e w4 ⟨rfl, L4⟩
  go_wp2_with fail
  refine ((unhide C4) _ L4).mono ?_
  rintro e w5 ⟨rfl, L5⟩
  go_wp2_with fail
  refine ((unhide C5) _ L5).mono ?_
  rintro e w6 ⟨rfl, L6⟩
  have y6_1 := (L6.own X0 HN1 HN2).cell 1
  simp only [List.getElem?_cons_zero, List.getElem?_cons_succ] at y6_1
  go_wp2_with fail
  refine ((unhide C6) _ L6).mono ?_
  rintro e w7 ⟨rfl, L7⟩
  go_wp2_with fail
  refine ((unhide C7) _ L7).mono ?_
  rintro e w8 ⟨rfl, L8⟩
  go_wp2_with fail
  refine (nullResult_any _).mono ?_
  rintro e u8 ⟨x8, rfl, hx8, hb8⟩
  obtain ⟨xa, xn, xc, rfl⟩ := hx8.shape
  have hfield := Cm.field_null xa xn xc
  dsimp only
  go_wp2_with fail
  refine ((unhide C8) _ _ _ L8 hb8 hx8).mono ?_
  rintro e w9 ⟨rfl, L9⟩
  have y9_3 := (L9.own X0 HN1 HN2).cell 3
  have y9_4 := (L9.own X0 HN1 HN2).cell 4
  simp only [List.getElem?_cons_zero, List.getElem?_cons_succ] at y9_3 y9_4
  go_wp2_with fail
  refine ((unhide C9) _ L9).mono ?_
  rintro e w10 ⟨rfl, L10⟩
  go_wp2_with fail
  refine ((unhide C10) _ L10).mono ?_
  rintro e w11 ⟨rfl, L11⟩
  go_wp2_with fail
  refine ((unhide C11) _ L11).mono ?_
  rintro e w12 ⟨rfl, L12⟩
  go_wp2_with fail
  refine ((unhide C12) _ L12).mono ?_
  rintro e w13 ⟨rfl, L13⟩
  go_wp2_with fail
  go_end0
  exact ⟨rfl, (unhide FIN) _ L13⟩

set_option maxRecDepth 100000 in
set_option maxHeartbeats 4000000 in
theorem clayAlt_any (w0 : World) (pb : Nat) (cv : Value) (rec : Cm.Rec) (na nb nc : Nat) (rs : List Int) (s : Cm.St) (v : Value) (cs : List (Ic × Value)) (w : World) (hsp : Cm.Sp 52 w pb cv (rs.map (Value.int .i64)) s v cs) (hp : w0.heap.size ≤ pb) (hB0 : Below w0.heap.size w0 w) (h60 : rs.length = 60) (hlen : s.len + 14 * (1 + na + nb + nc) ≤ 20000) (h0 : 0 ≤ s.regs) (hreg : s.regs + 2 * (1 + (na : Int) + nb + nc) ≤ 20000) (a b c3 num : Int) (vv : Value) (hvv : ∃ x y z, vv = .slice x y z) (Ha : Cm.LaysI w0 pb cv rec na a) (Hb : Cm.LaysI w0 pb cv rec nb b) :
    Calls Try.prog 57 #[.pointer (some ⟨pb, 0, none⟩), .agg #[.int .i64 5, .int .i64 a, .int .i64 b, .int .i64 c3, .int .i64 num, vv]] w fun e w' => e = .returned (.tuple #[]) ∧ Cm.Li pb cv (rs.map (Value.int .i64)) w v cs (Cm.alt rec a b rs s) w' := by
  obtain ⟨vx, vy, vz, rfl⟩ := hvv
  obtain ⟨t0, q0⟩ : ∃ t, s = t := ⟨_, rfl⟩
  have HVL := hsp.vlow hp
  obtain ⟨wS, hwS⟩ : ∃ wS, w.alloc (.cells #[.int .i64 5, .int .i64 a, .int .i64 b, .int .i64 c3, .int .i64 num, .slice vx vy vz] 48) = wS := ⟨_, rfl⟩
  have BS : Below w.heap.size w wS := by rw [← hwS]; exact (Below.refl _ _).alloc (Nat.le_refl _) _
  have X0 : Own wS w.heap.size 48 [.int .i64 5, .int .i64 a, .int .i64 b, .int .i64 c3, .int .i64 num, .slice vx vy vz] := by rw [← hwS]; exact ⟨_, heap_alloc_new _ _, rfl⟩
  have HN1 : w.heap.size ≠ pb := by have := hsp.own.lt; omega
  have HN2 := hsp.vnew
  have HBS : Below w0.heap.size w0 wS := hB0.trans (BS.mono hB0.size)
  have L0 : Cm.Li pb cv (rs.map (Value.int .i64)) wS v cs t0 wS := by rw [← q0]; exact Cm.Li.start (hsp.below BS)
  rw [q0] at hlen h0 hreg
  obtain ⟨t1, q1⟩ : ∃ t, t0.reg = t := ⟨_, rfl⟩
  have n1 := Cm.reg_len t0
  have r1 := Cm.reg_regs t0
  rw [q1] at n1 r1
  have C0 := hide (fun (W : World) (L : Cm.Li pb cv (rs.map (Value.int .i64)) wS v cs t0 W) => Cm.reg_li L (by omega) (by omega) q1)
  obtain ⟨t2, q2⟩ : ∃ t, (t1.val 3 (Cm.kindV 1)).put 16 t0.regs = t := ⟨_, rfl⟩
  have n2 := Cm.vput_len t1 3 (Cm.kindV 1) 16 t0.regs
  have r2 := Cm.vput_regs t1 3 (Cm.kindV 1) 16 t0.regs
  rw [q2] at n2 r2
  have C1 := hide (fun (W : World) (L : Cm.Li pb cv (rs.map (Value.int .i64)) wS v cs t1 W) => Cm.cellput_li 1 16 t0.regs L (by omega) q2)
  obtain ⟨t3, q3⟩ : ∃ t, t2.put 14 0 = t := ⟨_, rfl⟩
  have n3 := Cm.put_len t2 14 0
  have r3 := Cm.put_regs t2 14 0
  rw [q3] at n3 r3
  have C2 := hide (fun (W : World) (L : Cm.Li pb cv (rs.map (Value.int .i64)) wS v cs t2 W) => Cm.jump_li 14 L (by omega) q3)
  obtain ⟨t4, q4⟩ : ∃ t, rec a rs t3 = t := ⟨_, rfl⟩
  have n4 := Ha.1 rs t3
  rw [q4] at n4
  obtain ⟨n4, m4, r4, x4⟩ := n4
  have C3 := hide (fun (W : World) (L : Cm.Li pb cv (rs.map (Value.int .i64)) wS v cs t3 W) => Ha.at hp HBS HVL L h60 (by omega) (by omega) (by omega) q4)
  obtain ⟨t5, q5⟩ : ∃ t, t4.put 1 0 = t := ⟨_, rfl⟩
  have n5 := Cm.put_len t4 1 0
  have r5 := Cm.put_regs t4 1 0
  rw [q5] at n5 r5
  have C4 := hide (fun (W : World) (L : Cm.Li pb cv (rs.map (Value.int .i64)) wS v cs t4 W) => Cm.put1_li 1 0 L (by omega) q5)
  obtain ⟨t6, q6⟩ : ∃ t, t5.put 11 0 = t := ⟨_, rfl⟩
  have n6 := Cm.put_len t5 11 0
  have r6 := Cm.put_regs t5 11 0
  rw [q6] at n6 r6
  have C5 := hide (fun (W : World) (L : Cm.Li pb cv (rs.map (Value.int .i64)) wS v cs t5 W) => Cm.jump_li 11 L (by omega) q6)
  obtain ⟨t7, q7⟩ : ∃ t, (t6.val 3 (Cm.kindV 2)).put 16 t0.regs = t := ⟨_, rfl⟩
  have n7 := Cm.vput_len t6 3 (Cm.kindV 2) 16 t0.regs
  have r7 := Cm.vput_regs t6 3 (Cm.kindV 2) 16 t0.regs
  rw [q7] at n7 r7
  have C6 := hide (fun (W : World) (L : Cm.Li pb cv (rs.map (Value.int .i64)) wS v cs t6 W) => Cm.cellput_li 2 16 t0.regs L (by omega) q7)
  obtain ⟨t8, q8⟩ : ∃ t, t7.put 10 0 = t := ⟨_, rfl⟩
  have n8 := Cm.put_len t7 10 0
  have r8 := Cm.put_regs t7 10 0
  rw [q8] at n8 r8
  have C7 := hide (fun (W : World) (L : Cm.Li pb cv (rs.map (Value.int .i64)) wS v cs t7 W) => Cm.jump_li 10 L (by omega) q8)
  obtain ⟨t9, q9⟩ : ∃ t, t8.here t5.len = t := ⟨_, rfl⟩
  have n9 := Cm.here_len t8 t5.len
  have r9 := Cm.here_regs t8 t5.len
  rw [q9] at n9 r9
  have C8 := hide (fun (W : World) (L : Cm.Li pb cv (rs.map (Value.int .i64)) wS v cs t8 W) => Cm.land_li t5.len L (by omega) (by omega) q9)
  obtain ⟨t10, q10⟩ : ∃ t, t9.put 15 0 = t := ⟨_, rfl⟩
  have n10 := Cm.put_len t9 15 0
  have r10 := Cm.put_regs t9 15 0
  rw [q10] at n10 r10
  have C9 := hide (fun (W : World) (L : Cm.Li pb cv (rs.map (Value.int .i64)) wS v cs t9 W) => Cm.put1_li 15 0 L (by omega) q10)
  obtain ⟨t11, q11⟩ : ∃ t, t10.here t2.len = t := ⟨_, rfl⟩
  have n11 := Cm.here_len t10 t2.len
  have r11 := Cm.here_regs t10 t2.len
  rw [q11] at n11 r11
  have C10 := hide (fun (W : World) (L : Cm.Li pb cv (rs.map (Value.int .i64)) wS v cs t10 W) => Cm.land_li t2.len L (by omega) (by omega) q11)
  obtain ⟨t12, q12⟩ : ∃ t, t11.put 17 t0.regs = t := ⟨_, rfl⟩
  have n12 := Cm.put_len t11 17 t0.regs
  have r12 := Cm.put_regs t11 17 t0.regs
  rw [q12] at n12 r12
  have C11 := hide (fun (W : World) (L : Cm.Li pb cv (rs.map (Value.int .i64)) wS v cs t11 W) => Cm.put1_li 17 t0.regs L (by omega) q12)
  obtain ⟨t13, q13⟩ : ∃ t, t12.put 11 0 = t := ⟨_, rfl⟩
  have n13 := Cm.put_len t12 11 0
  have r13 := Cm.put_regs t12 11 0
  rw [q13] at n13 r13
  have C12 := hide (fun (W : World) (L : Cm.Li pb cv (rs.map (Value.int .i64)) wS v cs t12 W) => Cm.jump_li 11 L (by omega) q13)
  obtain ⟨t14, q14⟩ : ∃ t, t13.put 15 0 = t := ⟨_, rfl⟩
  have n14 := Cm.put_len t13 15 0
  have r14 := Cm.put_regs t13 15 0
  rw [q14] at n14 r14
  have C13 := hide (fun (W : World) (L : Cm.Li pb cv (rs.map (Value.int .i64)) wS v cs t13 W) => Cm.put1_li 15 0 L (by omega) q14)
  obtain ⟨t15, q15⟩ : ∃ t, t14.here t12.len = t := ⟨_, rfl⟩
  have n15 := Cm.here_len t14 t12.len
  have r15 := Cm.here_regs t14 t12.len
  rw [q15] at n15 r15
  have C14 := hide (fun (W : World) (L : Cm.Li pb cv (rs.map (Value.int .i64)) wS v cs t14 W) => Cm.land_li t12.len L (by omega) (by omega) q15)
  obtain ⟨t16, q16⟩ : ∃ t, rec b rs t15 = t := ⟨_, rfl⟩
  have n16 := Hb.1 rs t15
  rw [q16] at n16
  obtain ⟨n16, m16, r16, x16⟩ := n16
  have C15 := hide (fun (W : World) (L : Cm.Li pb cv (rs.map (Value.int .i64)) wS v cs t15 W) => Hb.at hp HBS HVL L h60 (by omega) (by omega) (by omega) q16)
  obtain ⟨t17, q17⟩ : ∃ t, t16.here t7.len = t := ⟨_, rfl⟩
  have n17 := Cm.here_len t16 t7.len
  have r17 := Cm.here_regs t16 t7.len
  rw [q17] at n17 r17
  have C16 := hide (fun (W : World) (L : Cm.Li pb cv (rs.map (Value.int .i64)) wS v cs t16 W) => Cm.land_li t7.len L (by omega) (by omega) q17)
  have HF := hide (show t17 = Cm.alt rec a b rs t0 by rw [← q17, ← q16, ← q15, ← q14, ← q13, ← q12, ← q11, ← q10, ← q9, ← q8, ← q7, ← q6, ← q5, ← q4, ← q3, ← q2, ← q1]; rfl)
  clear q1 q2 q3 q4 q5 q6 q7 q8 q9 q10 q11 q12 q13 q14 q15 q16 q17
  clear n1 r1 n2 r2 n3 r3 n4 r4 m4 x4 n5 r5 n6 r6 n7 r7 n8 r8 n9 r9 n10 r10 n11 r11 n12 r12 n13 r13 n14 r14 n15 r15 n16 r16 m16 x16 n17 r17
  rw [← q0] at HF
  have FIN := hide (fun (W : World) (L : Cm.Li pb cv (rs.map (Value.int .i64)) wS v cs t17 W) => show Cm.Li pb cv (rs.map (Value.int .i64)) w v cs (Cm.alt rec a b rs s) W from (unhide HF) ▸ (Cm.Li.ahead BS L))
  clear hsp hp hB0 HBS HVL HF hlen h0 hreg BS Ha Hb
  clear q0
  go_enter Try.func57, Try.ntmps57
  go_wp2_with fail
  try rw [hwS]
  clear hwS
  refine ((unhide C0) _ L0).mono ?_
  rintro e w1 ⟨rfl, L1⟩
  go_wp2_with fail
  refine ((unhide C1) _ L1).mono ?_
  rintro e w2 ⟨rfl, L2⟩
  go_wp2_with fail
  refine ((unhide C2) _ L2).mono ?_
  rintro e w3 ⟨rfl, L3⟩
  have y3_1 := (L3.own X0 HN1 HN2).cell 1
  simp only [List.getElem?_cons_zero, List.getElem?_cons_succ] at y3_1
  go_wp2_with fail
  refine ((unhide C3) _ L3).mono ?_
  rintro e w4 ⟨rfl, L4⟩
  go_wp2_with fail
  refine ((unhide C4) _ L4).mono ?_
  rintro e w5 ⟨rfl, L5⟩
  go_wp2_with fail
  refine ((unhide C5) _ L5).mono ?_
  rintro e w6 ⟨rfl, L6⟩
  go_wp2_with fail
  refine ((unhide C6) _ L6).mono ?_
  rintro e w7 ⟨rfl, L7⟩
  go_wp2_with fail
  refine ((unhide C7) _ L7).mono ?_
  rintro e w8 ⟨rfl, L8⟩
  go_wp2_with fail
  refine ((unhide C8) _ L8).mono ?_
  rintro e w9 ⟨rfl, L9⟩
  go_wp2_with fail
  refine ((unhide C9) _ L9).mono ?_
  rintro e w10 ⟨rfl, L10⟩
  go_wp2_with fail
  refine ((unhide C10) _ L10).mono ?_
  rintro e w11 ⟨rfl, L11⟩
  go_wp2_with fail
  refine ((unhide C11) _ L11).mono ?_
  rintro e w12 ⟨rfl, L12⟩
  go_wp2_with fail
  refine ((unhide C12) _ L12).mono ?_
  rintro e w13 ⟨rfl, L13⟩
  go_wp2_with fail
  refine ((unhide C13) _ L13).mono ?_
  rintro e w14 ⟨rfl, L14⟩
  go_wp2_with fail
  refine ((unhide C14) _ L14).mono ?_
  rintro e w15 ⟨rfl, L15⟩
  have y15_2 := (L15.own X0 HN1 HN2).cell 2
  simp only [List.getElem?_cons_zero, List.getElem?_cons_succ] at y15_2
  go_wp2_with fail
  refine ((unhide C15) _ L15).mono ?_
  rintro e w16 ⟨rfl, L16⟩
  go_wp2_with fail
  refine ((unhide C16) _ L16).mono ?_
  rintro e w17 ⟨rfl, L17⟩
  go_wp2_with fail
  go_end0
  exact ⟨rfl, (unhide FIN) _ L17⟩

end Go.Proofs.Ytodpmonbfecfdaa
