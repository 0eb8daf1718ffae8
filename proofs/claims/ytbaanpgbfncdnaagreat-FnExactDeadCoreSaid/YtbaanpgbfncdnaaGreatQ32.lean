/-
  laws.markCoreResult writes told numbers into nodes that were answered, and laws.heldCoreResult finds them there.
-/
import Derived.Test.YtbaanpgbfncdnaaGreatQ09
import Derived.Test.YtbaanpgbfncdnaaGreatQ25
import Derived.Test.YtbaanpgbfncdnaaGreatQ31
namespace Go.Proofs.YtbaanpgbfncdnaaGreat
open Go.RowKit
set_option linter.unusedVariables false
set_option linter.unusedSimpArgs false

namespace Lm
/-- The number at which the i-th node's marks begin. -/
def qk (ds : List (Co × Value)) (k : Int) : Nat → Int
  | 0 => k
  | i + 1 => qk ds k i + 5 + 5 * ((ds.getD i z).1.val.length : Int)
def mkC (ds : List (Co × Value)) (k : Int) (i : Nat) : Co × Value := (⟨qk ds k i, qk ds k i + 1, qk ds k i + 1 + 1, qk ds k i + 1 + 1 + 1, qk ds k i + 1 + 1 + 1 + 1, marked (ds.getD i z).1.val.length (qk ds k i + 5)⟩, (ds.getD i z).2)
def mkCs (ds : List (Co × Value)) (k : Int) : List (Co × Value) := (List.range ds.length).map (mkC ds k)
theorem mkCs_length (ds : List (Co × Value)) (k : Int) : (mkCs ds k).length = ds.length := by simp [mkCs]
theorem mkCs_getD (ds : List (Co × Value)) (k : Int) (i : Nat) (hi : i < ds.length) : (mkCs ds k).getD i z = mkC ds k i := by simp [mkCs, List.getD_eq_getElem?_getD, hi]
theorem qk_bounds (ds : List (Co × Value)) (k : Int) (k0 : 0 ≤ k) (hl : ∀ i, i < ds.length → (ds.getD i z).1.val.length ≤ 1048576) (i : Nat) : i ≤ ds.length → 0 ≤ qk ds k i ∧ qk ds k i ≤ k + 5242885 * i := by
  induction i with
  | zero => intro _; exact ⟨k0, by show k ≤ _; omega⟩
  | succ i ih =>
    intro hi
    have h1 := ih (by omega)
    have h2 := hl i (by omega)
    show 0 ≤ qk ds k i + 5 + 5 * ((ds.getD i z).1.val.length : Int) ∧ qk ds k i + 5 + 5 * ((ds.getD i z).1.val.length : Int) ≤ _
    omega
/-- The nodes while they are marked: i of them are. -/
def fi (ds : List (Co × Value)) (k : Int) (i j : Nat) : Co × Value := if j < i then mkC ds k j else ds.getD j z
def Ws (xs : List Value) (n : Nat) (f : Nat → Co × Value) : Prop := n * 6 ≤ xs.length ∧ ∀ i, i < n → xs[i * 6]? = some (.int .i64 (f i).1.op) ∧ xs[i * 6 + 1]? = some (.int .i64 (f i).1.a) ∧ xs[i * 6 + 2]? = some (.int .i64 (f i).1.b) ∧ xs[i * 6 + 3]? = some (.int .i64 (f i).1.c) ∧ xs[i * 6 + 4]? = some (.int .i64 (f i).1.num) ∧ xs[i * 6 + 5]? = some (f i).2
/-- Blocks of other types are kept. -/
def Kx (w w' : World) : Prop := ∀ (k : Nat) (c : Array Value) (t : TypeId), w.heap[k]? = some (Obj.cells c t (0, 0)) → t ≠ 47 → t ≠ 71 → w'.heap[k]? = w.heap[k]?
theorem Kx.refl (w : World) : Kx w w := fun _ _ _ _ _ _ => rfl
theorem Kx.trans {w w1 w2 : World} (h : Kx w w1) (k : Kx w1 w2) : Kx w w2 := fun b c t h1 h2 h3 => (k b c t ((h b c t h1 h2 h3).trans h1) h2 h3).trans (h b c t h1 h2 h3)
theorem Kx.below {w w' : World} (h : Below w.heap.size w w') : Kx w w' := fun b c t h1 _ _ => h.block b (Array.getElem?_eq_some_iff.1 h1).1
theorem Kx.own {w w' : World} (h : Kx w w') {b : Nat} {t : TypeId} {xs : List Value} (ho : Own w b t xs) (h1 : t ≠ 47) (h2 : t ≠ 71) : Own w' b t xs := by
  obtain ⟨c, q1, q2⟩ := ho
  exact ⟨c, (h b c t q1 h1 h2).trans q1, q2⟩
structure St (base g : Nat) (ds : List (Co × Value)) (k : Int) (w : World) (i : Nat) (wr : World) (xs : List Value) : Prop where
  own : Own wr g 47 xs
  ws : Ws xs ds.length (fi ds k i)
  res : ∀ j, j < ds.length → Res wr base (ds.getD j z).2 (fi ds k i j).1.val
  bel : Below base w wr
  oth : Kx w wr
theorem bls_apart (ds : List (Co × Value)) (h : (Lp.bls ds).Nodup) : ∀ i j, i < ds.length → j < ds.length → i ≠ j → ∀ b, (ds.getD i z).2.ownBlock = some b → (ds.getD j z).2.ownBlock ≠ some b := by
  induction ds with
  | nil => intro i j hi; simp at hi
  | cons a r ih =>
    have hb : Lp.bls (a :: r) = a.2.ownBlock.toList ++ Lp.bls r := by simp [Lp.bls]
    rw [hb] at h
    obtain ⟨h1, h2, h3⟩ := List.nodup_append.1 h
    have key : ∀ j, j < r.length → ∀ b, (r.getD j z).2.ownBlock = some b → b ∈ Lp.bls r := fun j hj b hb => by
      rw [List.getD_eq_getElem?_getD, List.getElem?_eq_getElem hj] at hb
      exact List.mem_flatMap.2 ⟨_, List.getElem_mem hj, by rw [Option.getD_some] at hb; rw [hb]; simp⟩
    intro i j hi hj hij b hbi hbj
    cases i with
    | zero =>
      cases j with
      | zero => exact hij rfl
      | succ j =>
        have e1 : a.2.ownBlock = some b := hbi
        exact h3 b (by rw [e1]; simp) b (key j (by simpa using hj) b hbj) rfl
    | succ i =>
      cases j with
      | zero =>
        have e1 : a.2.ownBlock = some b := hbj
        exact h3 b (by rw [e1]; simp) b (key i (by simpa using hi) b hbi) rfl
      | succ j => exact ih h2 i j (by simpa using hi) (by simpa using hj) (by omega) b hbi hbj
theorem set5_ws (xs : List Value) (n i : Nat) (f : Nat → Co × Value) (hi : i < n) (h : Ws xs n f) (c : Co) (hv : (f i).2 = (c, (f i).2).2) :
    Ws (((((xs.set (i * 6) (.int .i64 c.op)).set (i * 6 + 1) (.int .i64 c.a)).set (i * 6 + 2) (.int .i64 c.b)).set (i * 6 + 3) (.int .i64 c.c)).set (i * 6 + 4) (.int .i64 c.num)) n (fun j => if j = i then (c, (f i).2) else f j) := by
  obtain ⟨hl, hw⟩ := h
  have far : ∀ (ys : List Value) (a b : Nat) (v : Value), a ≠ b → (ys.set a v)[b]? = ys[b]? := fun ys a b v h => List.getElem?_set_ne h
  refine ⟨by simpa using hl, fun j hj => ?_⟩
  by_cases e : j = i
  · subst e
    simp only [if_true]
    refine ⟨?_, ?_, ?_, ?_, ?_, ?_⟩
    · rw [far _ _ _ _ (by omega), far _ _ _ _ (by omega), far _ _ _ _ (by omega), far _ _ _ _ (by omega), List.getElem?_set_self (by omega)]
    · rw [far _ _ _ _ (by omega), far _ _ _ _ (by omega), far _ _ _ _ (by omega), List.getElem?_set_self (by simp; omega)]
    · rw [far _ _ _ _ (by omega), far _ _ _ _ (by omega), List.getElem?_set_self (by simp; omega)]
    · rw [far _ _ _ _ (by omega), List.getElem?_set_self (by simp; omega)]
    · rw [List.getElem?_set_self (by simp; omega)]
    · rw [far _ _ _ _ (by omega), far _ _ _ _ (by omega), far _ _ _ _ (by omega), far _ _ _ _ (by omega), far _ _ _ _ (by omega)]; exact (hw j hj).2.2.2.2.2
  · simp only [if_neg e]
    have ha : ∀ d, d < 6 → (((((xs.set (i * 6) (.int .i64 c.op)).set (i * 6 + 1) (.int .i64 c.a)).set (i * 6 + 2) (.int .i64 c.b)).set (i * 6 + 3) (.int .i64 c.c)).set (i * 6 + 4) (.int .i64 c.num))[j * 6 + d]? = xs[j * 6 + d]? := fun d hd => by
      rw [far _ _ _ _ (by omega), far _ _ _ _ (by omega), far _ _ _ _ (by omega), far _ _ _ _ (by omega), far _ _ _ _ (by omega)]
    have h0 := hw j hj
    exact ⟨(ha 0 (by omega)).trans h0.1, (ha 1 (by omega)).trans h0.2.1, (ha 2 (by omega)).trans h0.2.2.1, (ha 3 (by omega)).trans h0.2.2.2.1, (ha 4 (by omega)).trans h0.2.2.2.2.1, (ha 5 (by omega)).trans h0.2.2.2.2.2⟩
abbrev w5 (wr : World) (g i : Nat) (q : Int) : World := ((((wr.setCell ⟨g, i * 6, none⟩ (.int .i64 q)).setCell ⟨g, i * 6 + 1, none⟩ (.int .i64 (q + 1))).setCell ⟨g, i * 6 + 2, none⟩ (.int .i64 (q + 1 + 1))).setCell ⟨g, i * 6 + 3, none⟩ (.int .i64 (q + 1 + 1 + 1))).setCell ⟨g, i * 6 + 4, none⟩ (.int .i64 (q + 1 + 1 + 1 + 1))
theorem St.step {base g : Nat} {ds : List (Co × Value)} {k : Int} {w : World} {i : Nat} {wr : World} {xs : List Value} (S : St base g ds k w i wr xs) (hg : base ≤ g) (hnd : (Lp.bls ds).Nodup) (hi : i < ds.length) (hbs : base ≤ wr.heap.size) :
    Res (w5 wr g i (qk ds k i)) base (ds.getD i z).2 (ds.getD i z).1.val ∧ ∀ w1, Res w1 base (ds.getD i z).2 (marked (ds.getD i z).1.val.length (qk ds k i + 5)) → ButV (ds.getD i z).2 (w5 wr g i (qk ds k i)) w1 → ∃ xs', St base g ds k w (i + 1) w1 xs' := by
  obtain ⟨ho, hw, hr, hb, hx⟩ := S
  have hne : ∀ j, j < ds.length → ∀ b, (ds.getD j z).2.ownBlock = some b → b ≠ g := fun j hj b hb e => by
    subst e
    exact Lw.res_ne (hr j hj) ho (by decide) hb
  have set1 : ∀ (W : World) (j d : Nat) (u : Value) (l : List M.Cl), j < ds.length → Res W base (ds.getD j z).2 l → Res (W.setCell ⟨g, d, none⟩ u) base (ds.getD j z).2 l := fun W j d u l hj h => h.setOther _ _ (fun b hb => hne j hj b hb)
  have hr5 : ∀ j, j < ds.length → Res (w5 wr g i (qk ds k i)) base (ds.getD j z).2 (fi ds k i j).1.val := fun j hj => set1 _ j _ _ _ hj (set1 _ j _ _ _ hj (set1 _ j _ _ _ hj (set1 _ j _ _ _ hj (set1 _ j _ _ _ hj (hr j hj)))))
  have o5 := ((((ho.set (i * 6) (.int .i64 (qk ds k i))).set (i * 6 + 1) (.int .i64 (qk ds k i + 1))).set (i * 6 + 2) (.int .i64 (qk ds k i + 1 + 1))).set (i * 6 + 3) (.int .i64 (qk ds k i + 1 + 1 + 1))).set (i * 6 + 4) (.int .i64 (qk ds k i + 1 + 1 + 1 + 1))
  have b5 : Below base w (w5 wr g i (qk ds k i)) := ((((hb.setCell hg _).setCell hg _).setCell hg _).setCell hg _).setCell hg _
  have hfi : fi ds k i i = ds.getD i z := by unfold fi; rw [if_neg (by omega)]
  refine ⟨by have := hr5 i hi; rwa [hfi] at this, fun w1 hr1 hbut => ?_⟩
  have hws := set5_ws xs ds.length i (fi ds k i) hi hw (mkC ds k i).1 rfl
  have hfun : (fun j => if j = i then ((mkC ds k i).1, (fi ds k i i).2) else fi ds k i j) = fi ds k (i + 1) := by
    funext j
    by_cases e : j = i
    · subst e; rw [if_pos rfl, hfi]; unfold fi; rw [if_pos (by omega)]; rfl
    · rw [if_neg e]; unfold fi
      by_cases e2 : j < i
      · rw [if_pos e2, if_pos (by omega)]
      · rw [if_neg e2, if_neg (by omega)]
  rw [hfun] at hws
  refine ⟨_, ⟨hbut.own o5 (fun e => hne i hi g e rfl), ?_, fun j hj => ?_, b5.trans (hbut.below (by show base ≤ (w5 wr g i (qk ds k i)).heap.size; simpa [w5] using hbs) (fun b hb' => (hr5 i hi).base b hb')), hx.trans ?_⟩⟩
  · exact hws
  · by_cases e : j = i
    · subst e
      have : fi ds k (j + 1) j = mkC ds k j := by unfold fi; rw [if_pos (by omega)]
      rw [this]; exact hr1
    · have : fi ds k (i + 1) j = fi ds k i j := by
        unfold fi
        by_cases e2 : j < i
        · rw [if_pos e2, if_pos (by omega)]
        · rw [if_neg e2, if_neg (by omega)]
      rw [this]
      exact hbut.res (hr5 j hj) (fun b hb' => bls_apart ds hnd i j hi hj (fun h => e h.symm) b hb')
  · intro kk cc tt h1 h2 h3
    have hkg : kk ≠ g := by
      rintro rfl
      obtain ⟨c', z1, _⟩ := ho
      rw [z1] at h1
      simp only [Option.some.injEq, Obj.cells.injEq] at h1
      exact h2 h1.2.1.symm
    have e5 : (w5 wr g i (qk ds k i)).heap[kk]? = wr.heap[kk]? := (heap_setCell_other _ ⟨g, i * 6 + 4, none⟩ kk _ hkg).trans ((heap_setCell_other _ ⟨g, i * 6 + 3, none⟩ kk _ hkg).trans ((heap_setCell_other _ ⟨g, i * 6 + 2, none⟩ kk _ hkg).trans ((heap_setCell_other _ ⟨g, i * 6 + 1, none⟩ kk _ hkg).trans (heap_setCell_other _ ⟨g, i * 6, none⟩ kk _ hkg))))
    refine (hbut.block kk ?_ (fun e => ?_)).trans e5
    · have := (Array.getElem?_eq_some_iff.1 h1).1
      simpa [w5] using this
    · obtain ⟨c', z1⟩ := Lw.res_typed (hr5 i hi) e
      rw [e5, h1] at z1
      simp only [Option.some.injEq, Obj.cells.injEq] at z1
      exact h3 z1.2.1
theorem St.done {base g cap : Nat} {ds : List (Co × Value)} {k : Int} {w wr : World} {xs : List Value} (S : St base g ds k w ds.length wr xs) (hg : base ≤ g) (hc : ds.length ≤ cap) : Rn wr base (.slice (some ⟨g, 0, none⟩) ds.length cap) (mkCs ds k) := by
  obtain ⟨ho, hw, hr, hb, _⟩ := S
  refine .inr ⟨g, cap, xs, by rw [mkCs_length], hg, by rw [mkCs_length]; exact hc, ho, ⟨by rw [mkCs_length]; exact hw.1, fun i hi => ?_⟩, fun i hi => ?_⟩
  · rw [mkCs_length] at hi
    have h := hw.2 i hi
    rw [show fi ds k ds.length i = mkC ds k i by unfold fi; rw [if_pos hi]] at h
    rw [mkCs_getD ds k i hi]
    exact h
  · rw [mkCs_length] at hi
    have h := hr i hi
    rw [show fi ds k ds.length i = mkC ds k i by unfold fi; rw [if_pos hi]] at h
    rw [mkCs_getD ds k i hi]
    exact h
end Lm
set_option maxRecDepth 100000 in
set_option maxHeartbeats 1000000 in
theorem markCoreS_rn (v : Value) (base : Nat) (ds : List (Co × Value)) (k : Int) (w : World) (h : Lm.Rn w base v ds) (hbs : base ≤ w.heap.size) (hnd : (Lp.bls ds).Nodup) (hn : ds.length ≤ 1000) (k0 : 0 ≤ k) (k1 : k ≤ 1000000) :
    Calls Tryz.prog 14 #[v, .int .i64 k] w fun e w' => e = .returned (.int .i64 (Lm.qk ds k ds.length)) ∧ Lm.Rn w' base v (Lm.mkCs ds k) ∧ Below base w w' ∧ Lm.Kx w w' := by
  rcases h with ⟨rfl, rfl⟩ | ⟨g, cap, xs, rfl, hg, hc, ho, hw, hr⟩
  · go_enter Tryz.func14, Tryz.ntmps14
    go_wp2_with fail
    refine wp_loop_rounds 1 ?_
    rw [rounds_succ]
    go_wp2_with fail
    go_ret
    exact ⟨rfl, .inl ⟨rfl, rfl⟩, Below.refl _ _, Lm.Kx.refl _⟩
  have hql := hide (Lm.qk_bounds ds k k0 (fun i hi => (hr i hi).1))
  have HS0 := hide (show Lm.St base g ds k w 0 w xs from ⟨ho, ⟨hw.1, fun i hi => by
    have h0 : Lm.fi ds k 0 i = ds.getD i Lm.z := by unfold Lm.fi; rw [if_neg (by omega)]
    rw [h0]; exact hw.2 i hi⟩, fun i hi => by
    have h0 : Lm.fi ds k 0 i = ds.getD i Lm.z := by unfold Lm.fi; rw [if_neg (by omega)]
    rw [h0]; exact hr i hi, Below.refl _ _, Lm.Kx.refl _⟩)
  have HSTEP := hide (fun (i : Nat) (wr : World) (xs : List Value) (S : Lm.St base g ds k w i wr xs) (hi : i < ds.length) => Lm.St.step S hg hnd hi (Nat.le_trans hbs S.bel.size))
  have HDONE := hide (fun (wr : World) (xs : List Value) (S : Lm.St base g ds k w ds.length wr xs) => Lm.St.done (cap := cap) S hg hc)
  clear hr hw ho hnd
  go_enter Tryz.func14, Tryz.ntmps14
  go_wp2_with fail
  go_loopg [1, 5] ds.length (fun gh s1 s5 wr => ∃ (i : Nat) (q : Int) (xs : List Value), Hid (gh = ds.length - i) ∧ s5 = .int .i64 i ∧ s1 = .int .i64 q ∧ i ≤ ds.length ∧ Hid (q = Lm.qk ds k i) ∧ Hid (Lm.St base g ds k w i wr xs))
  case atStart => exact ⟨0, k, xs, rfl, rfl, rfl, by omega, rfl, unhide HS0⟩
  case round =>
    clear HS0
    obtain ⟨i, q, ys, hgh, rfl, rfl, hi, hq, hS⟩ := hrel
    have hqb := (unhide hql) i hi
    rw [← hq.out] at hqb
    by_cases hlt : i < ds.length
    · have hltI : (i : Int) < (ds.length : Int) := by omega
      obtain ⟨hr5, hnext⟩ := (unhide HSTEP) i wr ys hS.out hlt
      rw [← hq.out] at hr5 hnext
      have ws := hS.out.ws.2 i hlt
      have hf2 : (Lm.fi ds k i i).2 = (ds.getD i Lm.z).2 := by unfold Lm.fi; rw [if_neg (by omega)]
      have c0 := (hS.out.own.cell (i * 6)).trans ws.1
      have c1 := (hS.out.own.cell (i * 6 + 1)).trans ws.2.1
      have c2 := (hS.out.own.cell (i * 6 + 2)).trans ws.2.2.1
      have c3 := (hS.out.own.cell (i * 6 + 3)).trans ws.2.2.2.1
      have c4 := (hS.out.own.cell (i * 6 + 4)).trans ws.2.2.2.2.1
      have c5 := (hS.out.own.cell (i * 6 + 5)).trans ws.2.2.2.2.2
      rw [hf2] at c5
      have z0 := hS.out.own.frozen (i * 6)
      have z1 := hS.out.own.frozen (i * 6 + 1)
      have z2 := hS.out.own.frozen (i * 6 + 2)
      have z3 := hS.out.own.frozen (i * 6 + 3)
      have z4 := hS.out.own.frozen (i * 6 + 4)
      obtain ⟨xa, xn, xc, hshape⟩ := hr5.shape
      rw [hshape] at c5
      have HM := hide (markCellS_res _ base _ (q + 5) _ hr5 (by omega) (by omega))
      have hqs := hide (show Lm.qk ds k (i + 1) = q + 5 + 5 * ((ds.getD i Lm.z).1.val.length : Int) by rw [hq.out]; rfl)
      have HN := hide hnext
      rw [hshape] at HM HN
      rw [show q + 5 = q + 1 + 1 + 1 + 1 + 1 by omega] at HM HN
      generalize (Lm.fi ds k i i) = fx at *
      clear hr5 hnext ws hf2 hS hshape HSTEP HDONE
      go_wp2_with fail
      refine (unhide HM).mono ?_
      rintro e w1 ⟨rfl, hr1, hbut⟩
      obtain ⟨xs2, S2⟩ := (unhide HN) w1 hr1 hbut
      have HS2 := hide S2
      clear c0 c1 c2 c3 c4 c5 z0 z1 z2 z3 z4 S2 hr1 hbut HN HM
      generalize (ds.getD i Lm.z).1.val.length = L at *
      go_wp2_with fail
      go_roundg (ds.length - (i + 1))
      case rel => exact ⟨i + 1, _, xs2, rfl, by go_num, rfl, by omega, by show _ = _; rw [unhide hqs]; omega, unhide HS2⟩
      case measure => have := hgh.out; omega
    · have hie : i = ds.length := by omega
      subst hie
      have fin := hide ((unhide HDONE) wr ys hS.out)
      have hb := hide hS.out.bel
      have hoth := hide hS.out.oth
      have HQ := hide hq.out
      clear hS hq HSTEP HDONE
      go_wp2_with fail
      go_ret
      exact ⟨ret_int (unhide HQ), unhide fin, unhide hb, unhide hoth⟩
set_option maxRecDepth 100000 in
set_option maxHeartbeats 1000000 in
theorem heldCoreS_rn (v : Value) (base : Nat) (ds : List (Co × Value)) (k : Int) (w : World) (h : Lm.Rn w base v (Lm.mkCs ds k)) (hn : ds.length ≤ 1000) (hl : ∀ i, i < ds.length → (ds.getD i Lm.z).1.val.length ≤ 1048576) (k0 : 0 ≤ k) (k1 : k ≤ 1000000) :
    Calls Tryz.prog 33 #[v, .int .i64 k] w fun e w' => e = .returned (.int .i64 (Lm.qk ds k ds.length)) ∧ Below w.heap.size w w' := by
  have hlen := Lm.mkCs_length ds k
  rcases h with ⟨rfl, h0⟩ | ⟨g, cap, xs, rfl, hg, hc, ho, hw, hr⟩
  · have h1 : ds = [] := List.length_eq_zero_iff.1 (by rw [← hlen, h0]; rfl)
    subst h1
    go_enter Tryz.func33, Tryz.ntmps33
    go_wp2_with fail
    refine wp_loop_rounds 1 ?_
    rw [rounds_succ]
    go_wp2_with fail
    go_ret
    exact ⟨rfl, Below.refl _ _⟩
  rw [hlen] at hc ⊢
  have hql := hide (Lm.qk_bounds ds k k0 hl)
  have HCALL := hide (show ∀ (W : World), Below w.heap.size w W → ∀ i, i < ds.length → ∀ q, q = Lm.qk ds k i → ∃ s : Value, W.cell? ⟨g, i * 6, none⟩ = some (.int .i64 q) ∧ W.cell? ⟨g, i * 6 + 1, none⟩ = some (.int .i64 (q + 1)) ∧ W.cell? ⟨g, i * 6 + 2, none⟩ = some (.int .i64 (q + 1 + 1)) ∧ W.cell? ⟨g, i * 6 + 3, none⟩ = some (.int .i64 (q + 1 + 1 + 1)) ∧ W.cell? ⟨g, i * 6 + 4, none⟩ = some (.int .i64 (q + 1 + 1 + 1 + 1)) ∧ W.cell? ⟨g, i * 6 + 5, none⟩ = some s ∧ (∃ a n c, s = .slice a n c) ∧ Res W base s (marked (ds.getD i Lm.z).1.val.length (q + 5)) from fun W hb i hi q hq => by
    have o1 := ho.below hb ho.lt
    obtain ⟨a0, a1, a2, a3, a4, a5⟩ := hw.2 i (by rw [hlen]; exact hi)
    have hr1 := (hr i (by rw [hlen]; exact hi)).below hb
    rw [Lm.mkCs_getD ds k i hi] at a0 a1 a2 a3 a4 a5 hr1
    subst hq
    exact ⟨_, (o1.cell _).trans a0, (o1.cell _).trans a1, (o1.cell _).trans a2, (o1.cell _).trans a3, (o1.cell _).trans a4, (o1.cell _).trans a5, hr1.shape, hr1⟩)
  clear hr hw ho hl hg
  go_enter Tryz.func33, Tryz.ntmps33
  go_wp2_with fail
  go_loopg [1, 5] ds.length (fun gh s1 s5 wr => ∃ (i : Nat) (q : Int), Hid (gh = ds.length - i) ∧ s5 = .int .i64 i ∧ s1 = .int .i64 q ∧ i ≤ ds.length ∧ Hid (q = Lm.qk ds k i) ∧ Below w.heap.size w wr)
  case atStart => exact ⟨0, k, rfl, rfl, rfl, by omega, rfl, Below.refl _ _⟩
  case round =>
    obtain ⟨i, q, hgh, rfl, rfl, hi, hq, hbel⟩ := hrel
    have hqb := (unhide hql) i hi
    rw [← hq.out] at hqb
    by_cases hlt : i < ds.length
    · have hltI : (i : Int) < (ds.length : Int) := by omega
      obtain ⟨s, c0, c1, c2, c3, c4, c5, ⟨xa, xn, xc, rfl⟩, hr1⟩ := (unhide HCALL) wr hbel i hlt q hq.out
      have hqs := hide (show Lm.qk ds k (i + 1) = q + 5 + 5 * ((ds.getD i Lm.z).1.val.length : Int) by rw [hq.out]; rfl)
      have hqb2 := (unhide hql) (i + 1) (by omega)
      rw [unhide hqs] at hqb2
      have HM := hide (heldCellS_res _ base _ (q + 5) wr hr1 (by omega) (by omega))
      rw [show q + 5 = q + 1 + 1 + 1 + 1 + 1 by omega] at HM
      generalize (ds.getD i Lm.z).1.val.length = L at *
      have hnn : ¬ q + 1 + 1 + 1 + 1 + 1 + 5 * (L : Int) < 0 := by omega
      clear hr1 HCALL
      go_wp2_with fail
      refine (unhide HM).mono ?_
      rintro e w1 ⟨rfl, hb1⟩
      have B1 : Below w.heap.size w w1 := hbel.trans (hb1.mono hbel.size)
      clear c0 c1 c2 c3 c4 c5 hb1 HM
      go_wp2_with fail
      go_roundg (ds.length - (i + 1))
      case rel => exact ⟨i + 1, _, rfl, by go_num, rfl, by omega, by show _ = _; rw [unhide hqs]; omega, B1⟩
      case measure => have := hgh.out; omega
    · have hie : i = ds.length := by omega
      subst hie
      have HQ := hide hq.out
      clear hq HCALL
      go_wp2_with fail
      go_ret
      exact ⟨ret_int (unhide HQ), hbel⟩
end Go.Proofs.YtbaanpgbfncdnaaGreat
