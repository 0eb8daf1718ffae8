/-
  A list of nodes of a core that was answered: as the laws' helpers read it; laws.eqCoreResult.
-/
import Derived.Test.YtbaanpgbfncdnaaGreatQ10
import Derived.Test.YtbaanpgbfncdnaaGreatQ25
import Derived.Deep.RegionWith
namespace Go.Proofs.YtbaanpgbfncdnaaGreat
open Go.RowKit
set_option linter.unusedVariables false
set_option linter.unusedSimpArgs false

namespace Lm
def z : Co × Value := (Co.zero, .slice none 0 0)
/-- The words xs begin with those of the nodes ds. -/
def NW (xs : List Value) (ds : List (Co × Value)) : Prop := ds.length * 6 ≤ xs.length ∧ ∀ i, i < ds.length → xs[i * 6]? = some (.int .i64 (ds.getD i z).1.op) ∧ xs[i * 6 + 1]? = some (.int .i64 (ds.getD i z).1.a) ∧ xs[i * 6 + 2]? = some (.int .i64 (ds.getD i z).1.b) ∧ xs[i * 6 + 3]? = some (.int .i64 (ds.getD i z).1.c) ∧ xs[i * 6 + 4]? = some (.int .i64 (ds.getD i z).1.num) ∧ xs[i * 6 + 5]? = some (ds.getD i z).2
/-- The slice v holds the nodes ds in a block of its own. -/
def Rn (w : World) (base : Nat) (v : Value) (ds : List (Co × Value)) : Prop := (v = .slice none 0 0 ∧ ds = []) ∨ ∃ g cap xs, v = .slice (some ⟨g, 0, none⟩) ds.length cap ∧ base ≤ g ∧ ds.length ≤ cap ∧ Own w g 47 xs ∧ NW xs ds ∧ ∀ i, i < ds.length → Res w base (ds.getD i z).2 (ds.getD i z).1.val
theorem flat_get (cs : List (Co × Value)) : ∀ i j, i < cs.length → j < 6 → (Lw.flat cs)[i * 6 + j]? = (Lw.nodeV (cs.getD i z).1 (cs.getD i z).2)[j]? := by
  induction cs with
  | nil => intro i j h; simp at h
  | cons a r ih =>
    intro i j hi hj
    have hfl : Lw.flat (a :: r) = Lw.nodeV a.1 a.2 ++ Lw.flat r := by simp [Lw.flat]
    have hl : (Lw.nodeV a.1 a.2).length = 6 := rfl
    rw [hfl]
    cases i with
    | zero => rw [List.getElem?_append_left (by omega)]; simp
    | succ i =>
      rw [List.getElem?_append_right (by omega), hl, show (i + 1) * 6 + j - 6 = i * 6 + j by omega]
      have := ih i j (by simpa using hi) hj
      rw [this]; rfl
theorem of_rw {w : World} {base : Nat} {v : Value} {cs : List (Co × Value)} (h : Lw.Rw w base v cs) : Rn w base v cs := by
  obtain ⟨⟨h1, ⟨h2, h3⟩ | ⟨g, cap, cur, h4, hg, hh, hnc, hcm, hcs, htk⟩⟩, hr⟩ := h
  · exact .inl ⟨h2, List.length_eq_zero_iff.1 h3⟩
  · have hlen : (Lw.flat cs).length = cs.length * 6 := by
      have : ∀ ds : List (Co × Value), (Lw.flat ds).length = ds.length * 6 := fun ds => by
        induction ds with
        | nil => rfl
        | cons a r ih => rw [show Lw.flat (a :: r) = Lw.nodeV a.1 a.2 ++ Lw.flat r by simp [Lw.flat], List.length_append, ih]; simp [Lw.nodeV]; omega
      exact this cs
    have hget : ∀ i j, i < cs.length → j < 6 → cur.toList[i * 6 + j]? = (Lw.nodeV (cs.getD i z).1 (cs.getD i z).2)[j]? := fun i j hi hj => by
      rw [← flat_get cs i j hi hj, ← htk, List.getElem?_take, if_pos (by omega)]
    refine .inr ⟨g, cap, cur.toList, h4, hg, hnc, ⟨cur, hh, rfl⟩, ⟨?_, fun i hi => ⟨hget i 0 hi (by omega), hget i 1 hi (by omega), hget i 2 hi (by omega), hget i 3 hi (by omega), hget i 4 hi (by omega), hget i 5 hi (by omega)⟩⟩, fun i hi => ?_⟩
    · have := congrArg List.length htk
      rw [List.length_take, hlen] at this
      omega
    · rw [List.getD_eq_getElem?_getD, List.getElem?_eq_getElem hi]
      exact hr _ (List.getElem_mem hi)
theorem Rn.keep {w w' : World} {base : Nat} {v : Value} {ds : List (Co × Value)} (h : Rn w base v ds) (hk : ∀ (k : Nat) (c : Array Value) (t : TypeId), w.heap[k]? = some (Obj.cells c t (0, 0)) → t = 47 ∨ t = 71 → base ≤ k → w'.heap[k]? = w.heap[k]?) : Rn w' base v ds := by
  rcases h with h | ⟨g, cap, xs, h1, hg, hc, ho, hn, hr⟩
  · exact .inl h
  · refine .inr ⟨g, cap, xs, h1, hg, hc, ?_, hn, fun i hi => ?_⟩
    · obtain ⟨c, q1, q2⟩ := ho
      exact ⟨c, (hk g c _ q1 (.inl rfl) hg).trans q1, q2⟩
    · refine Lw.res_keep (hr i hi) fun b hb => ?_
      obtain ⟨c, q⟩ := Lw.res_typed (hr i hi) hb
      exact hk b c _ q (.inr rfl) ((hr i hi).base b hb)
theorem Rn.below {w w' : World} {base : Nat} {v : Value} {ds : List (Co × Value)} (h : Rn w base v ds) (hb : Below w.heap.size w w') : Rn w' base v ds := h.keep fun k c t h1 _ _ => hb.block k (Array.getElem?_eq_some_iff.1 h1).1
theorem Rn.shape {w : World} {base : Nat} {v : Value} {ds : List (Co × Value)} (h : Rn w base v ds) : ∃ a c, v = .slice a ds.length c := by
  rcases h with ⟨rfl, rfl⟩ | ⟨g, cap, xs, h1, _⟩
  · exact ⟨none, 0, rfl⟩
  · exact ⟨_, _, h1⟩
end Lm
set_option maxHeartbeats 1000000 in
theorem eqCore_rn (n : Co) (s s' : Value) (B B' : Nat) (w : World) (h : Res w B s n.val) (h' : Res w B' s' n.val) :
    Calls Tryz.prog 31 #[.agg #[.int .i64 n.op, .int .i64 n.a, .int .i64 n.b, .int .i64 n.c, .int .i64 n.num, s], .agg #[.int .i64 n.op, .int .i64 n.a, .int .i64 n.b, .int .i64 n.c, .int .i64 n.num, s']] w fun e w' => e = .returned (.bool true) ∧ Below w.heap.size w w' := by
  obtain ⟨xa, xn, xc, rfl⟩ := h.shape
  obtain ⟨ya, yn, yc, rfl⟩ := h'.shape
  have HC := hide (fun (W : World) (hb : Below w.heap.size w W) => eqCellS_res _ _ B B' n.val W (h.below hb) (h'.below hb))
  have HB : Hid (∀ o o', Below w.heap.size w ((w.alloc o).alloc o')) := fun o o' => ((Below.refl _ _).alloc (Nat.le_refl _) o).alloc (by simp) o'
  clear h h'
  go_enter Tryz.func31, Tryz.ntmps31
  go_wp2_with fail
  refine ((unhide HC) _ (HB.out _ _)).mono ?_
  rintro e w1 ⟨rfl, hb1⟩
  have B1 := (HB.out (.cells #[.int .i64 n.op, .int .i64 n.a, .int .i64 n.b, .int .i64 n.c, .int .i64 n.num, .slice xa xn xc] 47) (.cells #[.int .i64 n.op, .int .i64 n.a, .int .i64 n.b, .int .i64 n.c, .int .i64 n.num, .slice ya yn yc] 47)).trans (hb1.mono (HB.out _ _).size)
  go_wp2_with fail
  go_ret
  exact ⟨rfl, B1⟩
set_option maxRecDepth 100000 in
set_option maxHeartbeats 1000000 in
theorem eqCoreS_rn (v v' : Value) (base base' : Nat) (ds ds' : List (Co × Value)) (w : World) (h : Lm.Rn w base v ds) (h' : Lm.Rn w base' v' ds') (he : ds.map Prod.fst = ds'.map Prod.fst) (hn : ds.length ≤ 4096) :
    Calls Tryz.prog 13 #[v, v'] w fun e w' => e = .returned (.bool true) ∧ Below w.heap.size w w' := by
  have hll : ds.length = ds'.length := by have := congrArg List.length he; simpa using this
  rcases h with ⟨rfl, rfl⟩ | ⟨g, cap, xs, rfl, hg, hc, ho, hw, hr⟩
  · rcases h' with ⟨rfl, rfl⟩ | ⟨g', cap', xs', rfl, _⟩
    · go_enter Tryz.func13, Tryz.ntmps13
      go_wp2_with fail
      refine wp_loop_rounds 1 ?_
      rw [rounds_succ]
      go_wp2_with fail
      go_ret
      exact ⟨rfl, Below.refl _ _⟩
    · rw [← hll]
      clear he hll hn
      go_enter Tryz.func13, Tryz.ntmps13
      go_wp2_with fail
      refine wp_loop_rounds 1 ?_
      rw [rounds_succ]
      go_wp2_with fail
      go_ret
      exact ⟨rfl, Below.refl _ _⟩
  rcases h' with ⟨rfl, rfl⟩ | ⟨g', cap', xs', rfl, hg', hc', ho', hw', hr'⟩
  · have h0 : ds.length = 0 := hll
    rw [h0]
    clear he hll hn hr hw hc
    go_enter Tryz.func13, Tryz.ntmps13
    go_wp2_with fail
    refine wp_loop_rounds 1 ?_
    rw [rounds_succ]
    go_wp2_with fail
    go_ret
    exact ⟨rfl, Below.refl _ _⟩
  rw [← hll]
  have HCALL := hide (show ∀ (W : World), Below w.heap.size w W → ∀ k, k < ds.length → ∃ (n : Co) (s s' : Value), W.cell? ⟨g, k * 6, none⟩ = some (.int .i64 n.op) ∧ W.cell? ⟨g, k * 6 + 1, none⟩ = some (.int .i64 n.a) ∧ W.cell? ⟨g, k * 6 + 2, none⟩ = some (.int .i64 n.b) ∧ W.cell? ⟨g, k * 6 + 3, none⟩ = some (.int .i64 n.c) ∧ W.cell? ⟨g, k * 6 + 4, none⟩ = some (.int .i64 n.num) ∧ W.cell? ⟨g, k * 6 + 5, none⟩ = some s ∧ W.cell? ⟨g', k * 6, none⟩ = some (.int .i64 n.op) ∧ W.cell? ⟨g', k * 6 + 1, none⟩ = some (.int .i64 n.a) ∧ W.cell? ⟨g', k * 6 + 2, none⟩ = some (.int .i64 n.b) ∧ W.cell? ⟨g', k * 6 + 3, none⟩ = some (.int .i64 n.c) ∧ W.cell? ⟨g', k * 6 + 4, none⟩ = some (.int .i64 n.num) ∧ W.cell? ⟨g', k * 6 + 5, none⟩ = some s' ∧ ∀ V, Below W.heap.size W V → Calls Tryz.prog 31 #[.agg #[.int .i64 n.op, .int .i64 n.a, .int .i64 n.b, .int .i64 n.c, .int .i64 n.num, s], .agg #[.int .i64 n.op, .int .i64 n.a, .int .i64 n.b, .int .i64 n.c, .int .i64 n.num, s']] V fun e w' => e = .returned (.bool true) ∧ Below V.heap.size V w' from fun W hb k hk => by
    have o1 := ho.below hb ho.lt
    have o2 := ho'.below hb ho'.lt
    have e1 : (ds.getD k Lm.z).1 = (ds'.getD k Lm.z).1 := by
      have h1 : (ds.map Prod.fst)[k]? = (ds'.map Prod.fst)[k]? := by rw [he]
      rw [List.getElem?_map, List.getElem?_map, List.getElem?_eq_getElem hk, List.getElem?_eq_getElem (show k < ds'.length by omega)] at h1
      rw [List.getD_eq_getElem?_getD, List.getD_eq_getElem?_getD, List.getElem?_eq_getElem hk, List.getElem?_eq_getElem (show k < ds'.length by omega)]
      simpa using h1
    obtain ⟨a0, a1, a2, a3, a4, a5⟩ := hw.2 k hk
    obtain ⟨b0, b1, b2, b3, b4, b5⟩ := hw'.2 k (by omega)
    rw [← e1] at b0 b1 b2 b3 b4
    refine ⟨(ds.getD k Lm.z).1, (ds.getD k Lm.z).2, (ds'.getD k Lm.z).2, (o1.cell _).trans a0, (o1.cell _).trans a1, (o1.cell _).trans a2, (o1.cell _).trans a3, (o1.cell _).trans a4, (o1.cell _).trans a5, (o2.cell _).trans b0, (o2.cell _).trans b1, (o2.cell _).trans b2, (o2.cell _).trans b3, (o2.cell _).trans b4, (o2.cell _).trans b5, fun V hV => ?_⟩
    have hr2 := hr' k (by omega)
    rw [← e1] at hr2
    exact eqCore_rn _ _ _ base base' V (((hr k hk).below hb).below hV) ((hr2.below hb).below hV))
  clear he hll ho ho' hw hw' hr hr' hc hc' hg hg'
  obtain ⟨m, hm⟩ : ∃ m, m = ds.length := ⟨_, rfl⟩
  rw [← hm] at HCALL hn ⊢
  clear hm
  go_enter Tryz.func13, Tryz.ntmps13
  go_wp2_with fail
  go_loopg [5] m (fun gh s5 wr => ∃ k : Nat, Hid (gh = m - k) ∧ s5 = .int .i64 k ∧ k ≤ m ∧ Below w.heap.size w wr)
  case atStart => exact ⟨0, rfl, rfl, by omega, Below.refl _ _⟩
  case round =>
    obtain ⟨k, hg, rfl, hk, hbel⟩ := hrel
    by_cases hlt : k < m
    · have hltI : (k : Int) < (m : Int) := by omega
      obtain ⟨n, s, s', f0, f1, f2, f3, f4, f5, g0, g1, g2, g3, g4, g5, hcall⟩ := (unhide HCALL) wr hbel k hlt
      have HQ := hide hcall
      have BD : Below wr.heap.size wr wr.drew := (Below.refl _ _).drew
      clear hcall HCALL
      go_wp2_with fail
      go_region_with (go_at_call 31; refine ((unhide HQ) _ BD).mono ?_; rintro e w1 ⟨rfl, hb1⟩)
      all_goals
        go_wp2_with fail
        go_roundg (m - (k + 1))
        case rel => exact ⟨k + 1, rfl, by go_num, by omega, hbel.drew.trans (hb1.mono (by exact hbel.size))⟩
        case measure => have := hg.out; omega
    · go_wp2_with fail
      go_ret
      exact ⟨rfl, hbel⟩
end Go.Proofs.YtbaanpgbfncdnaaGreat
