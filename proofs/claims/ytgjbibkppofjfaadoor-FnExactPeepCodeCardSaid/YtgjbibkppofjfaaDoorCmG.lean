/-
  A list of instructions that was answered: as the laws' helpers read it; laws.eqCodeResult.
  laws.markCodeResult writes told numbers into instructions that were answered, and laws.heldCodeResult finds them there.
-/
import Derived.Test.YtgjbibkppofjfaaDoorCmK
import Derived.Test.YtgjbibkppofjfaaDoorAns
import Derived.Test.YtgjbibkppofjfaaDoorRes
import Derived.Deep.RegionWith
namespace Go.Proofs.YtgjbibkppofjfaaDoor
open Go.RowKit
set_option linter.unusedVariables false
set_option linter.unusedSimpArgs false


namespace Cr
def z : Ic × Value := (Ic.zero, .slice none 0 0)
def NW (xs : List Value) (ds : List (Ic × Value)) : Prop := ds.length * 3 ≤ xs.length ∧ ∀ i, i < ds.length → xs[i * 3]? = some (.int .i64 (ds.getD i z).1.op) ∧ xs[i * 3 + 1]? = some (.int .i64 (ds.getD i z).1.arg) ∧ xs[i * 3 + 2]? = some (ds.getD i z).2
/-- The slice v holds the instructions ds in a block of its own. -/
def Rn (w : World) (base : Nat) (v : Value) (ds : List (Ic × Value)) : Prop := (v = .slice none 0 0 ∧ ds = []) ∨ ∃ g cap xs, v = .slice (some ⟨g, 0, none⟩) ds.length cap ∧ base ≤ g ∧ ds.length ≤ cap ∧ Own w g 41 xs ∧ NW xs ds ∧ ∀ i, i < ds.length → Res w base (ds.getD i z).2 (ds.getD i z).1.val
theorem of_rw {w : World} {base : Nat} {v : Value} {cs : List (Ic × Value)} (h : Cm.Rw w base v cs) : Rn w base v cs := by
  obtain ⟨⟨h1, ⟨h2, h3⟩ | ⟨g, cap, cur, h4, hg, hh, hnc, hcm, hcs, htk⟩⟩, hr⟩ := h
  · exact .inl ⟨h2, List.length_eq_zero_iff.1 h3⟩
  · have hlen := Cm.flat_length cs
    have hgd : ∀ i (hi : i < cs.length), cs.getD i z = cs[i] := fun i hi => by rw [List.getD_eq_getElem?_getD, List.getElem?_eq_getElem hi]; rfl
    have hget : ∀ i j (hi : i < cs.length), j < 3 → cur.toList[i * 3 + j]? = (Cm.inV (cs.getD i z).1 (cs.getD i z).2)[j]? := fun i j hi hj => by
      rw [hgd i hi, ← Cm.flat_get cs i hi j hj, ← htk, List.getElem?_take, if_pos (by omega)]
    refine .inr ⟨g, cap, cur.toList, h4, hg, hnc, ⟨cur, hh, rfl⟩, ⟨?_, fun i hi => ⟨hget i 0 hi (by omega), hget i 1 hi (by omega), hget i 2 hi (by omega)⟩⟩, fun i hi => ?_⟩
    · have := congrArg List.length htk
      rw [List.length_take, hlen] at this
      omega
    · rw [hgd i hi]
      exact hr _ (List.getElem_mem hi)
theorem Rn.keep {w w' : World} {base : Nat} {v : Value} {ds : List (Ic × Value)} (h : Rn w base v ds) (hk : ∀ (k : Nat) (c : Array Value) (t : TypeId), w.heap[k]? = some (Obj.cells c t (0, 0)) → t = 41 ∨ t = 74 → base ≤ k → w'.heap[k]? = w.heap[k]?) : Rn w' base v ds := by
  rcases h with h | ⟨g, cap, xs, h1, hg, hc, ho, hn, hr⟩
  · exact .inl h
  · refine .inr ⟨g, cap, xs, h1, hg, hc, ?_, hn, fun i hi => ?_⟩
    · obtain ⟨c, q1, q2⟩ := ho
      exact ⟨c, (hk g c _ q1 (.inl rfl) hg).trans q1, q2⟩
    · refine Cm.res_keep (hr i hi) fun b hb => ?_
      obtain ⟨c, q⟩ := Cm.res_typed (hr i hi) hb
      exact hk b c _ q (.inr rfl) ((hr i hi).base b hb)
theorem Rn.below {w w' : World} {base : Nat} {v : Value} {ds : List (Ic × Value)} (h : Rn w base v ds) (hb : Below w.heap.size w w') : Rn w' base v ds := h.keep fun k c t h1 _ _ => hb.block k (Array.getElem?_eq_some_iff.1 h1).1
theorem Rn.shape {w : World} {base : Nat} {v : Value} {ds : List (Ic × Value)} (h : Rn w base v ds) : ∃ a c, v = .slice a ds.length c := by
  rcases h with ⟨rfl, rfl⟩ | ⟨g, cap, xs, h1, _⟩
  · exact ⟨none, 0, rfl⟩
  · exact ⟨_, _, h1⟩
theorem Rn.len {w : World} {base : Nat} {v : Value} {ds : List (Ic × Value)} (h : Rn w base v ds) : ∀ i, i < ds.length → (ds.getD i z).1.val.length ≤ 1048576 := by
  rcases h with ⟨_, rfl⟩ | ⟨g, cap, xs, _, _, _, _, _, hr⟩
  · intro i hi; simp at hi
  · intro i hi; exact (hr i hi).1
end Cr
set_option maxHeartbeats 1000000 in
theorem eqIn_rn (n : Ic) (s s' : Value) (B B' : Nat) (w : World) (h : Res w B s n.val) (h' : Res w B' s' n.val) :
    Calls Tryd.prog 23 #[.agg #[.int .i64 n.op, .int .i64 n.arg, s], .agg #[.int .i64 n.op, .int .i64 n.arg, s']] w fun e w' => e = .returned (.bool true) ∧ Below w.heap.size w w' := by
  obtain ⟨xa, xn, xc, rfl⟩ := h.shape
  obtain ⟨ya, yn, yc, rfl⟩ := h'.shape
  have HC := hide (fun (W : World) (hb : Below w.heap.size w W) => eqCellS_res _ _ B B' n.val W (h.below hb) (h'.below hb))
  have HB : Hid (∀ o o', Below w.heap.size w ((w.alloc o).alloc o')) := fun o o' => ((Below.refl _ _).alloc (Nat.le_refl _) o).alloc (by simp) o'
  clear h h'
  go_enter Tryd.func23, Tryd.ntmps23
  go_wp2_with fail
  refine ((unhide HC) _ (HB.out _ _)).mono ?_
  rintro e w1 ⟨rfl, hb1⟩
  have B1 := (HB.out (.cells #[.int .i64 n.op, .int .i64 n.arg, .slice xa xn xc] 41) (.cells #[.int .i64 n.op, .int .i64 n.arg, .slice ya yn yc] 41)).trans (hb1.mono (HB.out _ _).size)
  go_wp2_with fail
  go_ret
  exact ⟨rfl, B1⟩
set_option maxRecDepth 100000 in
set_option maxHeartbeats 1000000 in
theorem eqInS_rn (v v' : Value) (base base' : Nat) (ds ds' : List (Ic × Value)) (w : World) (h : Cr.Rn w base v ds) (h' : Cr.Rn w base' v' ds') (he : ds.map Prod.fst = ds'.map Prod.fst) (hn : ds.length ≤ 10000) :
    Calls Tryd.prog 9 #[v, v'] w fun e w' => e = .returned (.bool true) ∧ Below w.heap.size w w' := by
  have hll : ds.length = ds'.length := by have := congrArg List.length he; simpa using this
  rcases h with ⟨rfl, rfl⟩ | ⟨g, cap, xs, rfl, hg, hc, ho, hw, hr⟩
  · rcases h' with ⟨rfl, rfl⟩ | ⟨g', cap', xs', rfl, _⟩
    · go_enter Tryd.func9, Tryd.ntmps9
      go_wp2_with fail
      refine wp_loop_rounds 1 ?_
      rw [rounds_succ]
      go_wp2_with fail
      go_ret
      exact ⟨rfl, Below.refl _ _⟩
    · rw [← hll]
      clear he hll hn
      go_enter Tryd.func9, Tryd.ntmps9
      go_wp2_with fail
      refine wp_loop_rounds 1 ?_
      rw [rounds_succ]
      go_wp2_with fail
      go_ret
      exact ⟨rfl, Below.refl _ _⟩
  rcases h' with ⟨rfl, rfl⟩ | ⟨g', cap', xs', rfl, hg', hc', ho', hw', hr'⟩
  · have h0 : ds.length = 0 := hll
    rw [h0]
    clear he hll hn hr hw hc
    go_enter Tryd.func9, Tryd.ntmps9
    go_wp2_with fail
    refine wp_loop_rounds 1 ?_
    rw [rounds_succ]
    go_wp2_with fail
    go_ret
    exact ⟨rfl, Below.refl _ _⟩
  rw [← hll]
  have HCALL := hide (show ∀ (W : World), Below w.heap.size w W → ∀ k, k < ds.length → ∃ (n : Ic) (s s' : Value), W.cell? ⟨g, k * 3, none⟩ = some (.int .i64 n.op) ∧ W.cell? ⟨g, k * 3 + 1, none⟩ = some (.int .i64 n.arg) ∧ W.cell? ⟨g, k * 3 + 2, none⟩ = some s ∧ W.cell? ⟨g', k * 3, none⟩ = some (.int .i64 n.op) ∧ W.cell? ⟨g', k * 3 + 1, none⟩ = some (.int .i64 n.arg) ∧ W.cell? ⟨g', k * 3 + 2, none⟩ = some s' ∧ ∀ V, Below W.heap.size W V → Calls Tryd.prog 23 #[.agg #[.int .i64 n.op, .int .i64 n.arg, s], .agg #[.int .i64 n.op, .int .i64 n.arg, s']] V fun e w' => e = .returned (.bool true) ∧ Below V.heap.size V w' from fun W hb k hk => by
    have o1 := ho.below hb ho.lt
    have o2 := ho'.below hb ho'.lt
    have e1 : (ds.getD k Cr.z).1 = (ds'.getD k Cr.z).1 := by
      have h1 : (ds.map Prod.fst)[k]? = (ds'.map Prod.fst)[k]? := by rw [he]
      rw [List.getElem?_map, List.getElem?_map, List.getElem?_eq_getElem hk, List.getElem?_eq_getElem (show k < ds'.length by omega)] at h1
      rw [List.getD_eq_getElem?_getD, List.getD_eq_getElem?_getD, List.getElem?_eq_getElem hk, List.getElem?_eq_getElem (show k < ds'.length by omega)]
      simpa using h1
    obtain ⟨a0, a1, a5⟩ := hw.2 k hk
    obtain ⟨b0, b1, b5⟩ := hw'.2 k (by omega)
    rw [← e1] at b0 b1
    refine ⟨(ds.getD k Cr.z).1, (ds.getD k Cr.z).2, (ds'.getD k Cr.z).2, (o1.cell _).trans a0, (o1.cell _).trans a1, (o1.cell _).trans a5, (o2.cell _).trans b0, (o2.cell _).trans b1, (o2.cell _).trans b5, fun V hV => ?_⟩
    have hr2 := hr' k (by omega)
    rw [← e1] at hr2
    exact eqIn_rn _ _ _ base base' V (((hr k hk).below hb).below hV) ((hr2.below hb).below hV))
  clear he hll ho ho' hw hw' hr hr' hc hc' hg hg'
  obtain ⟨m, hm⟩ : ∃ m, m = ds.length := ⟨_, rfl⟩
  rw [← hm] at HCALL hn ⊢
  clear hm
  go_enter Tryd.func9, Tryd.ntmps9
  go_wp2_with fail
  go_loopg [5] m (fun gh s5 wr => ∃ k : Nat, Hid (gh = m - k) ∧ s5 = .int .i64 k ∧ k ≤ m ∧ Below w.heap.size w wr)
  case atStart => exact ⟨0, rfl, rfl, by omega, Below.refl _ _⟩
  case round =>
    obtain ⟨k, hg, rfl, hk, hbel⟩ := hrel
    by_cases hlt : k < m
    · have hltI : (k : Int) < (m : Int) := by omega
      obtain ⟨n, s, s', f0, f1, f5, g0, g1, g5, hcall⟩ := (unhide HCALL) wr hbel k hlt
      have HQ := hide hcall
      have BD : Below wr.heap.size wr wr.drew := (Below.refl _ _).drew
      clear hcall HCALL
      go_wp2_with fail
      go_region_with (go_at_call 23; refine ((unhide HQ) _ BD).mono ?_; rintro e w1 ⟨rfl, hb1⟩)
      all_goals
        go_wp2_with fail
        go_roundg (m - (k + 1))
        case rel => exact ⟨k + 1, rfl, by go_num, by omega, hbel.drew.trans (hb1.mono (by exact hbel.size))⟩
        case measure => have := hg.out; omega
    · go_wp2_with fail
      go_ret
      exact ⟨rfl, hbel⟩
set_option maxHeartbeats 1000000 in
theorem eqCodeResult_rn (x y r : Int) (v v' : Value) (base base' : Nat) (ds ds' : List (Ic × Value)) (w : World) (h : Cr.Rn w base v ds) (h' : Cr.Rn w base' v' ds') (he : ds.map Prod.fst = ds'.map Prod.fst) (hn : ds.length ≤ 10000) :
    Calls Tryd.prog 8 #[.agg #[.int .i64 x, .int .i64 y, v, .int .i64 r], .agg #[.int .i64 x, .int .i64 y, v', .int .i64 r]] w fun e w' => e = .returned (.bool true) ∧ Below w.heap.size w w' := by
  obtain ⟨xa, xc, hv⟩ := h.shape
  obtain ⟨ya, yc, hv'⟩ := h'.shape
  obtain ⟨w0, hw0⟩ : ∃ w0, w0 = (w.alloc (.cells #[.int .i64 x, .int .i64 y, v, .int .i64 r] 26)).alloc (.cells #[.int .i64 x, .int .i64 y, v', .int .i64 r] 26) := ⟨_, rfl⟩
  have B0 : Below w.heap.size w w0 := by rw [hw0]; exact ((Below.refl _ _).alloc (Nat.le_refl _) _).alloc (by simp) _
  have X0 : Own w0 w.heap.size 26 [.int .i64 x, .int .i64 y, v, .int .i64 r] := by rw [hw0]; exact Own.below ⟨_, heap_alloc_new _ _, rfl⟩ ((Below.refl _ _).alloc (Nat.le_refl _) _) (by simp)
  have Y0 : Own w0 (w.heap.size + 1) 26 [.int .i64 x, .int .i64 y, v', .int .i64 r] := by
    rw [hw0]
    exact ⟨_, (by rw [show w.heap.size + 1 = (w.alloc (.cells #[.int .i64 x, .int .i64 y, v, .int .i64 r] 26)).heap.size by simp]; exact heap_alloc_new _ _), rfl⟩
  have HX := hide (fun (W : World) (hb : Below w0.heap.size w0 W) => (X0.below hb X0.lt).cell 3)
  have HY := hide (fun (W : World) (hb : Below w0.heap.size w0 W) => (Y0.below hb Y0.lt).cell 3)
  have HC := hide (eqInS_rn v v' base base' ds ds' w0 (h.below B0) (h'.below B0) he hn)
  clear h h' he X0 Y0
  subst hv hv'
  go_enter Tryd.func8, Tryd.ntmps8
  go_wp2_with fail
  rw [← hw0]
  clear hw0
  refine (unhide HC).mono ?_
  rintro e w1 ⟨rfl, hb1⟩
  have B1 : Below w.heap.size w w1 := B0.trans (hb1.mono B0.size)
  have x3 := (unhide HX) w1 hb1
  have y3 := (unhide HY) w1 hb1
  simp only [List.getElem?_cons_zero, List.getElem?_cons_succ] at x3 y3
  go_wp2_with fail
  go_ret
  exact ⟨rfl, B1⟩

end Go.Proofs.YtgjbibkppofjfaaDoor

namespace Go.Proofs.YtgjbibkppofjfaaDoor
open Go.RowKit
set_option linter.unusedVariables false
set_option linter.unusedSimpArgs false


namespace Cr
/-- The number at which the i-th instruction's marks begin. -/
def qk (ds : List (Ic × Value)) (k : Int) : Nat → Int
  | 0 => k
  | i + 1 => qk ds k i + 2 + 5 * ((ds.getD i z).1.val.length : Int)
def mkC (ds : List (Ic × Value)) (k : Int) (i : Nat) : Ic × Value := (⟨qk ds k i, qk ds k i + 1, marked (ds.getD i z).1.val.length (qk ds k i + 2)⟩, (ds.getD i z).2)
def mkCs (ds : List (Ic × Value)) (k : Int) : List (Ic × Value) := (List.range ds.length).map (mkC ds k)
theorem mkCs_length (ds : List (Ic × Value)) (k : Int) : (mkCs ds k).length = ds.length := by simp [mkCs]
theorem mkCs_getD (ds : List (Ic × Value)) (k : Int) (i : Nat) (hi : i < ds.length) : (mkCs ds k).getD i z = mkC ds k i := by simp [mkCs, List.getD_eq_getElem?_getD, hi]
theorem qk_bounds (ds : List (Ic × Value)) (k : Int) (k0 : 0 ≤ k) (hl : ∀ i, i < ds.length → (ds.getD i z).1.val.length ≤ 1048576) (i : Nat) : i ≤ ds.length → 0 ≤ qk ds k i ∧ qk ds k i ≤ k + 5242882 * i := by
  induction i with
  | zero => intro _; exact ⟨k0, by show k ≤ _; omega⟩
  | succ i ih =>
    intro hi
    have h1 := ih (by omega)
    have h2 := hl i (by omega)
    show 0 ≤ qk ds k i + 2 + 5 * ((ds.getD i z).1.val.length : Int) ∧ qk ds k i + 2 + 5 * ((ds.getD i z).1.val.length : Int) ≤ _
    omega
/-- The instructions while they are marked: i of them are. -/
def fi (ds : List (Ic × Value)) (k : Int) (i j : Nat) : Ic × Value := if j < i then mkC ds k j else ds.getD j z
def Ws (xs : List Value) (n : Nat) (f : Nat → Ic × Value) : Prop := n * 3 ≤ xs.length ∧ ∀ i, i < n → xs[i * 3]? = some (.int .i64 (f i).1.op) ∧ xs[i * 3 + 1]? = some (.int .i64 (f i).1.arg) ∧ xs[i * 3 + 2]? = some (f i).2
/-- Blocks of other types are kept. -/
def Kx (w w' : World) : Prop := ∀ (k : Nat) (c : Array Value) (t : TypeId), w.heap[k]? = some (Obj.cells c t (0, 0)) → t ≠ 41 → t ≠ 74 → w'.heap[k]? = w.heap[k]?
theorem Kx.refl (w : World) : Kx w w := fun _ _ _ _ _ _ => rfl
theorem Kx.trans {w w1 w2 : World} (h : Kx w w1) (k : Kx w1 w2) : Kx w w2 := fun b c t h1 h2 h3 => (k b c t ((h b c t h1 h2 h3).trans h1) h2 h3).trans (h b c t h1 h2 h3)
theorem Kx.below {w w' : World} (h : Below w.heap.size w w') : Kx w w' := fun b c t h1 _ _ => h.block b (Array.getElem?_eq_some_iff.1 h1).1
theorem Kx.own {w w' : World} (h : Kx w w') {b : Nat} {t : TypeId} {xs : List Value} (ho : Own w b t xs) (h1 : t ≠ 41) (h2 : t ≠ 74) : Own w' b t xs := by
  obtain ⟨c, q1, q2⟩ := ho
  exact ⟨c, (h b c t q1 h1 h2).trans q1, q2⟩
structure St (base g : Nat) (ds : List (Ic × Value)) (k : Int) (w : World) (i : Nat) (wr : World) (xs : List Value) : Prop where
  own : Own wr g 41 xs
  ws : Ws xs ds.length (fi ds k i)
  res : ∀ j, j < ds.length → Res wr base (ds.getD j z).2 (fi ds k i j).1.val
  bel : Below base w wr
  oth : Kx w wr
theorem bls_apart (ds : List (Ic × Value)) (h : (Cm.bls ds).Nodup) : ∀ i j, i < ds.length → j < ds.length → i ≠ j → ∀ b, (ds.getD i z).2.ownBlock = some b → (ds.getD j z).2.ownBlock ≠ some b := by
  induction ds with
  | nil => intro i j hi; simp at hi
  | cons a r ih =>
    have hb : Cm.bls (a :: r) = a.2.ownBlock.toList ++ Cm.bls r := by rw [show a :: r = [(a.1, a.2)] ++ r from rfl, Cm.bls_append, Cm.bls_one]
    rw [hb] at h
    obtain ⟨h1, h2, h3⟩ := List.nodup_append.1 h
    have key : ∀ j, j < r.length → ∀ b, (r.getD j z).2.ownBlock = some b → b ∈ Cm.bls r := fun j hj b hb => by
      rw [List.getD_eq_getElem?_getD, List.getElem?_eq_getElem hj] at hb
      exact Cm.mem_bls.2 ⟨_, List.getElem_mem hj, by rw [Option.getD_some] at hb; exact hb⟩
    intro i j hi hj hij b hbi hbj
    cases i with
    | zero =>
      cases j with
      | zero => exact hij rfl
      | succ j =>
        have e1 : a.2.ownBlock = some b := hbi
        exact h3 b (by rw [e1]; simp) b (key j (by simpa using hj) b hbj) rfl
    | succ i =>
      cases j with
      | zero =>
        have e1 : a.2.ownBlock = some b := hbj
        exact h3 b (by rw [e1]; simp) b (key i (by simpa using hi) b hbi) rfl
      | succ j => exact ih h2 i j (by simpa using hi) (by simpa using hj) (by omega) b hbi hbj
theorem set2_ws (xs : List Value) (n i : Nat) (f : Nat → Ic × Value) (hi : i < n) (h : Ws xs n f) (c : Ic) :
    Ws ((xs.set (i * 3) (.int .i64 c.op)).set (i * 3 + 1) (.int .i64 c.arg)) n (fun j => if j = i then (c, (f i).2) else f j) := by
  obtain ⟨hl, hw⟩ := h
  have far : ∀ (ys : List Value) (a b : Nat) (v : Value), a ≠ b → (ys.set a v)[b]? = ys[b]? := fun ys a b v h => List.getElem?_set_ne h
  refine ⟨by simpa using hl, fun j hj => ?_⟩
  by_cases e : j = i
  · subst e
    simp only [if_true]
    refine ⟨?_, ?_, ?_⟩
    · rw [far _ _ _ _ (by omega), List.getElem?_set_self (by omega)]
    · rw [List.getElem?_set_self (by simp; omega)]
    · rw [far _ _ _ _ (by omega), far _ _ _ _ (by omega)]; exact (hw j hj).2.2
  · simp only [if_neg e]
    have ha : ∀ d, d < 3 → ((xs.set (i * 3) (.int .i64 c.op)).set (i * 3 + 1) (.int .i64 c.arg))[j * 3 + d]? = xs[j * 3 + d]? := fun d hd => by
      rw [far _ _ _ _ (by omega), far _ _ _ _ (by omega)]
    have h0 := hw j hj
    exact ⟨(ha 0 (by omega)).trans h0.1, (ha 1 (by omega)).trans h0.2.1, (ha 2 (by omega)).trans h0.2.2⟩
abbrev w2 (wr : World) (g i : Nat) (q : Int) : World := (wr.setCell ⟨g, i * 3, none⟩ (.int .i64 q)).setCell ⟨g, i * 3 + 1, none⟩ (.int .i64 (q + 1))
theorem St.step {base g : Nat} {ds : List (Ic × Value)} {k : Int} {w : World} {i : Nat} {wr : World} {xs : List Value} (S : St base g ds k w i wr xs) (hg : base ≤ g) (hnd : (Cm.bls ds).Nodup) (hi : i < ds.length) (hbs : base ≤ wr.heap.size) :
    Res (w2 wr g i (qk ds k i)) base (ds.getD i z).2 (ds.getD i z).1.val ∧ ∀ w1, Res w1 base (ds.getD i z).2 (marked (ds.getD i z).1.val.length (qk ds k i + 2)) → ButV (ds.getD i z).2 (w2 wr g i (qk ds k i)) w1 → ∃ xs', St base g ds k w (i + 1) w1 xs' := by
  obtain ⟨ho, hw, hr, hb, hx⟩ := S
  have hne : ∀ j, j < ds.length → ∀ b, (ds.getD j z).2.ownBlock = some b → b ≠ g := fun j hj b hb e => by
    subst e
    exact Cm.res_ne (hr j hj) ho (by decide) hb
  have set1 : ∀ (W : World) (j d : Nat) (u : Value) (l : List M.Cl), j < ds.length → Res W base (ds.getD j z).2 l → Res (W.setCell ⟨g, d, none⟩ u) base (ds.getD j z).2 l := fun W j d u l hj h => h.setOther _ _ (fun b hb => hne j hj b hb)
  have hr5 : ∀ j, j < ds.length → Res (w2 wr g i (qk ds k i)) base (ds.getD j z).2 (fi ds k i j).1.val := fun j hj => set1 _ j _ _ _ hj (set1 _ j _ _ _ hj (hr j hj))
  have o5 := (ho.set (i * 3) (.int .i64 (qk ds k i))).set (i * 3 + 1) (.int .i64 (qk ds k i + 1))
  have b5 : Below base w (w2 wr g i (qk ds k i)) := (hb.setCell hg _).setCell hg _
  have hfi : fi ds k i i = ds.getD i z := by unfold fi; rw [if_neg (by omega)]
  refine ⟨by have := hr5 i hi; rwa [hfi] at this, fun w1 hr1 hbut => ?_⟩
  have hws := set2_ws xs ds.length i (fi ds k i) hi hw (mkC ds k i).1
  have hfun : (fun j => if j = i then ((mkC ds k i).1, (fi ds k i i).2) else fi ds k i j) = fi ds k (i + 1) := by
    funext j
    by_cases e : j = i
    · subst e; rw [if_pos rfl, hfi]; unfold fi; rw [if_pos (by omega)]; rfl
    · rw [if_neg e]; unfold fi
      by_cases e2 : j < i
      · rw [if_pos e2, if_pos (by omega)]
      · rw [if_neg e2, if_neg (by omega)]
  rw [hfun] at hws
  refine ⟨_, ⟨hbut.own o5 (fun e => hne i hi g e rfl), ?_, fun j hj => ?_, b5.trans (hbut.below (by show base ≤ (w2 wr g i (qk ds k i)).heap.size; simpa [w2] using hbs) (fun b hb' => (hr5 i hi).base b hb')), hx.trans ?_⟩⟩
  · exact hws
  · by_cases e : j = i
    · subst e
      have : fi ds k (j + 1) j = mkC ds k j := by unfold fi; rw [if_pos (by omega)]
      rw [this]; exact hr1
    · have : fi ds k (i + 1) j = fi ds k i j := by
        unfold fi
        by_cases e2 : j < i
        · rw [if_pos e2, if_pos (by omega)]
        · rw [if_neg e2, if_neg (by omega)]
      rw [this]
      exact hbut.res (hr5 j hj) (fun b hb' => bls_apart ds hnd i j hi hj (fun h => e h.symm) b hb')
  · intro kk cc tt h1 h2 h3
    have hkg : kk ≠ g := by
      rintro rfl
      obtain ⟨c', z1, _⟩ := ho
      rw [z1] at h1
      simp only [Option.some.injEq, Obj.cells.injEq] at h1
      exact h2 h1.2.1.symm
    have e5 : (w2 wr g i (qk ds k i)).heap[kk]? = wr.heap[kk]? := (heap_setCell_other _ ⟨g, i * 3 + 1, none⟩ kk _ hkg).trans (heap_setCell_other _ ⟨g, i * 3, none⟩ kk _ hkg)
    refine (hbut.block kk ?_ (fun e => ?_)).trans e5
    · have := (Array.getElem?_eq_some_iff.1 h1).1
      simpa [w2] using this
    · obtain ⟨c', z1⟩ := Cm.res_typed (hr5 i hi) e
      rw [e5, h1] at z1
      simp only [Option.some.injEq, Obj.cells.injEq] at z1
      exact h3 z1.2.1
theorem St.done {base g cap : Nat} {ds : List (Ic × Value)} {k : Int} {w wr : World} {xs : List Value} (S : St base g ds k w ds.length wr xs) (hg : base ≤ g) (hc : ds.length ≤ cap) : Rn wr base (.slice (some ⟨g, 0, none⟩) ds.length cap) (mkCs ds k) := by
  obtain ⟨ho, hw, hr, hb, _⟩ := S
  refine .inr ⟨g, cap, xs, by rw [mkCs_length], hg, by rw [mkCs_length]; exact hc, ho, ⟨by rw [mkCs_length]; exact hw.1, fun i hi => ?_⟩, fun i hi => ?_⟩
  · rw [mkCs_length] at hi
    have h := hw.2 i hi
    rw [show fi ds k ds.length i = mkC ds k i by unfold fi; rw [if_pos hi]] at h
    rw [mkCs_getD ds k i hi]
    exact h
  · rw [mkCs_length] at hi
    have h := hr i hi
    rw [show fi ds k ds.length i = mkC ds k i by unfold fi; rw [if_pos hi]] at h
    rw [mkCs_getD ds k i hi]
    exact h
end Cr
set_option maxRecDepth 100000 in
set_option maxHeartbeats 1000000 in
theorem markInS_rn (v : Value) (base : Nat) (ds : List (Ic × Value)) (k : Int) (w : World) (h : Cr.Rn w base v ds) (hbs : base ≤ w.heap.size) (hnd : (Cm.bls ds).Nodup) (hn : ds.length ≤ 10000) (k0 : 0 ≤ k) (k1 : k ≤ 1000000) :
    Calls Tryd.prog 10 #[v, .int .i64 k] w fun e w' => e = .returned (.int .i64 (Cr.qk ds k ds.length)) ∧ Cr.Rn w' base v (Cr.mkCs ds k) ∧ Below base w w' ∧ Cr.Kx w w' := by
  rcases h with ⟨rfl, rfl⟩ | ⟨g, cap, xs, rfl, hg, hc, ho, hw, hr⟩
  · go_enter Tryd.func10, Tryd.ntmps10
    go_wp2_with fail
    refine wp_loop_rounds 1 ?_
    rw [rounds_succ]
    go_wp2_with fail
    go_ret
    exact ⟨rfl, .inl ⟨rfl, rfl⟩, Below.refl _ _, Cr.Kx.refl _⟩
  have hql := hide (Cr.qk_bounds ds k k0 (fun i hi => (hr i hi).1))
  have HS0 := hide (show Cr.St base g ds k w 0 w xs from ⟨ho, ⟨hw.1, fun i hi => by
    have h0 : Cr.fi ds k 0 i = ds.getD i Cr.z := by unfold Cr.fi; rw [if_neg (by omega)]
    rw [h0]; exact hw.2 i hi⟩, fun i hi => by
    have h0 : Cr.fi ds k 0 i = ds.getD i Cr.z := by unfold Cr.fi; rw [if_neg (by omega)]
    rw [h0]; exact hr i hi, Below.refl _ _, Cr.Kx.refl _⟩)
  have HSTEP := hide (fun (i : Nat) (wr : World) (xs : List Value) (S : Cr.St base g ds k w i wr xs) (hi : i < ds.length) => Cr.St.step S hg hnd hi (Nat.le_trans hbs S.bel.size))
  have HDONE := hide (fun (wr : World) (xs : List Value) (S : Cr.St base g ds k w ds.length wr xs) => Cr.St.done (cap := cap) S hg hc)
  clear hr hw ho hnd
  go_enter Tryd.func10, Tryd.ntmps10
  go_wp2_with fail
  go_loopg [1, 5] ds.length (fun gh s1 s5 wr => ∃ (i : Nat) (q : Int) (xs : List Value), Hid (gh = ds.length - i) ∧ s5 = .int .i64 i ∧ s1 = .int .i64 q ∧ i ≤ ds.length ∧ Hid (q = Cr.qk ds k i) ∧ Hid (Cr.St base g ds k w i wr xs))
  case atStart => exact ⟨0, k, xs, rfl, rfl, rfl, by omega, rfl, unhide HS0⟩
  case round =>
    clear HS0
    obtain ⟨i, q, ys, hgh, rfl, rfl, hi, hq, hS⟩ := hrel
    have hqb := (unhide hql) i hi
    rw [← hq.out] at hqb
    by_cases hlt : i < ds.length
    · have hltI : (i : Int) < (ds.length : Int) := by omega
      obtain ⟨hr5, hnext⟩ := (unhide HSTEP) i wr ys hS.out hlt
      rw [← hq.out] at hr5 hnext
      have ws := hS.out.ws.2 i hlt
      have hf2 : (Cr.fi ds k i i).2 = (ds.getD i Cr.z).2 := by unfold Cr.fi; rw [if_neg (by omega)]
      have c0 := (hS.out.own.cell (i * 3)).trans ws.1
      have c1 := (hS.out.own.cell (i * 3 + 1)).trans ws.2.1
      have c5 := (hS.out.own.cell (i * 3 + 2)).trans ws.2.2
      rw [hf2] at c5
      have z0 := hS.out.own.frozen (i * 3)
      have z1 := hS.out.own.frozen (i * 3 + 1)
      obtain ⟨xa, xn, xc, hshape⟩ := hr5.shape
      rw [hshape] at c5
      have HM := hide (markCellS_res _ base _ (q + 2) _ hr5 (by omega) (by omega))
      have hqs := hide (show Cr.qk ds k (i + 1) = q + 2 + 5 * ((ds.getD i Cr.z).1.val.length : Int) by rw [hq.out]; rfl)
      have HN := hide hnext
      rw [hshape] at HM HN
      rw [show q + 2 = q + 1 + 1 by omega] at HM HN
      generalize (Cr.fi ds k i i) = fx at *
      clear hr5 hnext ws hf2 hS hshape HSTEP HDONE
      go_wp2_with fail
      refine (unhide HM).mono ?_
      rintro e w1 ⟨rfl, hr1, hbut⟩
      obtain ⟨xs2, S2⟩ := (unhide HN) w1 hr1 hbut
      have HS2 := hide S2
      clear c0 c1 c5 z0 z1 S2 hr1 hbut HN HM
      generalize (ds.getD i Cr.z).1.val.length = L at *
      go_wp2_with fail
      go_roundg (ds.length - (i + 1))
      case rel => exact ⟨i + 1, _, xs2, rfl, by go_num, rfl, by omega, by show _ = _; rw [unhide hqs]; omega, unhide HS2⟩
      case measure => have := hgh.out; omega
    · have hie : i = ds.length := by omega
      subst hie
      have fin := hide ((unhide HDONE) wr ys hS.out)
      have hb := hide hS.out.bel
      have hoth := hide hS.out.oth
      have HQ := hide hq.out
      clear hS hq HSTEP HDONE
      go_wp2_with fail
      go_ret
      exact ⟨ret_int (unhide HQ), unhide fin, unhide hb, unhide hoth⟩
set_option maxRecDepth 100000 in
set_option maxHeartbeats 1000000 in
theorem heldInS_rn (v : Value) (base : Nat) (ds : List (Ic × Value)) (k : Int) (w : World) (h : Cr.Rn w base v (Cr.mkCs ds k)) (hn : ds.length ≤ 10000) (hl : ∀ i, i < ds.length → (ds.getD i Cr.z).1.val.length ≤ 1048576) (k0 : 0 ≤ k) (k1 : k ≤ 1000000) :
    Calls Tryd.prog 25 #[v, .int .i64 k] w fun e w' => e = .returned (.int .i64 (Cr.qk ds k ds.length)) ∧ Below w.heap.size w w' := by
  have hlen := Cr.mkCs_length ds k
  rcases h with ⟨rfl, h0⟩ | ⟨g, cap, xs, rfl, hg, hc, ho, hw, hr⟩
  · have h1 : ds = [] := List.length_eq_zero_iff.1 (by rw [← hlen, h0]; rfl)
    subst h1
    go_enter Tryd.func25, Tryd.ntmps25
    go_wp2_with fail
    refine wp_loop_rounds 1 ?_
    rw [rounds_succ]
    go_wp2_with fail
    go_ret
    exact ⟨rfl, Below.refl _ _⟩
  rw [hlen] at hc ⊢
  have hql := hide (Cr.qk_bounds ds k k0 hl)
  have HCALL := hide (show ∀ (W : World), Below w.heap.size w W → ∀ i, i < ds.length → ∀ q, q = Cr.qk ds k i → ∃ s : Value, W.cell? ⟨g, i * 3, none⟩ = some (.int .i64 q) ∧ W.cell? ⟨g, i * 3 + 1, none⟩ = some (.int .i64 (q + 1)) ∧ W.cell? ⟨g, i * 3 + 2, none⟩ = some s ∧ (∃ a n c, s = .slice a n c) ∧ Res W base s (marked (ds.getD i Cr.z).1.val.length (q + 2)) from fun W hb i hi q hq => by
    have o1 := ho.below hb ho.lt
    obtain ⟨a0, a1, a5⟩ := hw.2 i (by rw [hlen]; exact hi)
    have hr1 := (hr i (by rw [hlen]; exact hi)).below hb
    rw [Cr.mkCs_getD ds k i hi] at a0 a1 a5 hr1
    subst hq
    exact ⟨_, (o1.cell _).trans a0, (o1.cell _).trans a1, (o1.cell _).trans a5, hr1.shape, hr1⟩)
  clear hr hw ho hl hg
  go_enter Tryd.func25, Tryd.ntmps25
  go_wp2_with fail
  go_loopg [1, 5] ds.length (fun gh s1 s5 wr => ∃ (i : Nat) (q : Int), Hid (gh = ds.length - i) ∧ s5 = .int .i64 i ∧ s1 = .int .i64 q ∧ i ≤ ds.length ∧ Hid (q = Cr.qk ds k i) ∧ Below w.heap.size w wr)
  case atStart => exact ⟨0, k, rfl, rfl, rfl, by omega, rfl, Below.refl _ _⟩
  case round =>
    obtain ⟨i, q, hgh, rfl, rfl, hi, hq, hbel⟩ := hrel
    have hqb := (unhide hql) i hi
    rw [← hq.out] at hqb
    by_cases hlt : i < ds.length
    · have hltI : (i : Int) < (ds.length : Int) := by omega
      obtain ⟨s, c0, c1, c5, ⟨xa, xn, xc, rfl⟩, hr1⟩ := (unhide HCALL) wr hbel i hlt q hq.out
      have hqs := hide (show Cr.qk ds k (i + 1) = q + 2 + 5 * ((ds.getD i Cr.z).1.val.length : Int) by rw [hq.out]; rfl)
      have hqb2 := (unhide hql) (i + 1) (by omega)
      rw [unhide hqs] at hqb2
      have HM := hide (heldCellS_res _ base _ (q + 2) wr hr1 (by omega) (by omega))
      rw [show q + 2 = q + 1 + 1 by omega] at HM
      generalize (ds.getD i Cr.z).1.val.length = L at *
      have hnn : ¬ q + 1 + 1 + 5 * (L : Int) < 0 := by omega
      clear hr1 HCALL
      go_wp2_with fail
      refine (unhide HM).mono ?_
      rintro e w1 ⟨rfl, hb1⟩
      have B1 : Below w.heap.size w w1 := hbel.trans (hb1.mono hbel.size)
      clear c0 c1 c5 hb1 HM
      go_wp2_with fail
      go_roundg (ds.length - (i + 1))
      case rel => exact ⟨i + 1, _, rfl, by go_num, rfl, by omega, by show _ = _; rw [unhide hqs]; omega, B1⟩
      case measure => have := hgh.out; omega
    · have hie : i = ds.length := by omega
      subst hie
      have HQ := hide hq.out
      clear hq HCALL
      go_wp2_with fail
      go_ret
      exact ⟨ret_int (unhide HQ), hbel⟩
set_option maxHeartbeats 1000000 in
theorem markCodeResult_rn (x y r : Int) (v : Value) (base : Nat) (ds : List (Ic × Value)) (k : Int) (w : World) (h : Cr.Rn w base v ds) (hbs : base ≤ w.heap.size) (hnd : (Cm.bls ds).Nodup) (hn : ds.length ≤ 10000) (k0 : 0 ≤ k) (k1 : k ≤ 1000000) :
    Calls Tryd.prog 11 #[.agg #[.int .i64 x, .int .i64 y, v, .int .i64 r], .int .i64 k] w fun e w' => e = .returned (.int .i64 (Cr.qk ds k ds.length)) ∧ Cr.Rn w' base v (Cr.mkCs ds k) ∧ Below base w w' ∧ Cr.Kx w w' := by
  obtain ⟨xa, xc, hv⟩ := h.shape
  obtain ⟨w0, hw0⟩ : ∃ w0, w0 = w.alloc (.cells #[.int .i64 x, .int .i64 y, v, .int .i64 r] 26) := ⟨_, rfl⟩
  have B0 : Below w.heap.size w w0 := by rw [hw0]; exact (Below.refl _ _).alloc (Nat.le_refl _) _
  have HC := hide (markInS_rn v base ds k w0 (h.below B0) (Nat.le_trans hbs B0.size) hnd hn k0 k1)
  obtain ⟨Q, hQ⟩ : ∃ Q, Q = Cr.qk ds k ds.length := ⟨_, rfl⟩
  rw [← hQ] at HC ⊢
  clear h hQ
  subst hv
  go_enter Tryd.func11, Tryd.ntmps11
  go_wp2_with fail
  rw [← hw0]
  clear hw0
  refine (unhide HC).mono ?_
  rintro e w1 ⟨rfl, hr1, hb1, hx1⟩
  have HR1 := hide hr1
  have HX1 := hide ((Cr.Kx.below B0).trans hx1)
  have B1 : Below base w w1 := (B0.mono hbs).trans hb1
  clear hr1 hb1 hx1 HC
  go_wp2_with fail
  go_ret
  exact ⟨rfl, unhide HR1, B1, unhide HX1⟩
set_option maxHeartbeats 1000000 in
theorem heldCodeResult_rn (x y r : Int) (v : Value) (base : Nat) (ds : List (Ic × Value)) (k : Int) (w : World) (h : Cr.Rn w base v (Cr.mkCs ds k)) (hn : ds.length ≤ 10000) (hl : ∀ i, i < ds.length → (ds.getD i Cr.z).1.val.length ≤ 1048576) (k0 : 0 ≤ k) (k1 : k ≤ 1000000) :
    Calls Tryd.prog 12 #[.agg #[.int .i64 x, .int .i64 y, v, .int .i64 r], .int .i64 k] w fun e w' => e = .returned (.int .i64 (Cr.qk ds k ds.length)) ∧ Below w.heap.size w w' := by
  obtain ⟨xa, xc, hv⟩ := h.shape
  obtain ⟨w0, hw0⟩ : ∃ w0, w0 = w.alloc (.cells #[.int .i64 x, .int .i64 y, v, .int .i64 r] 26) := ⟨_, rfl⟩
  have B0 : Below w.heap.size w w0 := by rw [hw0]; exact (Below.refl _ _).alloc (Nat.le_refl _) _
  have HC := hide (heldInS_rn v base ds k w0 (h.below B0) hn hl k0 k1)
  have hq0 := (Cr.qk_bounds ds k k0 hl ds.length (Nat.le_refl _)).1
  obtain ⟨Q, hQ⟩ : ∃ Q, Q = Cr.qk ds k ds.length := ⟨_, rfl⟩
  rw [← hQ] at HC hq0 ⊢
  have hq1 : ¬ Q < 0 := by omega
  clear h hQ hl
  subst hv
  go_enter Tryd.func12, Tryd.ntmps12
  go_wp2_with fail
  rw [← hw0]
  clear hw0
  refine (unhide HC).mono ?_
  rintro e w1 ⟨rfl, hb1⟩
  have B1 : Below w.heap.size w w1 := B0.trans (hb1.mono B0.size)
  clear hb1 HC
  go_wp2_with fail
  go_ret
  exact ⟨rfl, B1⟩

end Go.Proofs.YtgjbibkppofjfaaDoor
