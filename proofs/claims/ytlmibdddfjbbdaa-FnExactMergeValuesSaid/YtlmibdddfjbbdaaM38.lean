/-
  impl.mergedPair, impl.mergedOf, impl.MergeValues (mk_mgj.py).
-/
import Derived.Test.YtlmibdddfjbbdaaM28
import Derived.Test.YtlmibdddfjbbdaaM29
import Derived.Test.YtlmibdddfjbbdaaM34
import Derived.Test.YtlmibdddfjbbdaaM35
import Derived.Test.YtlmibdddfjbbdaaM36
import Derived.Test.YtlmibdddfjbbdaaM37
namespace Go.Proofs.Ytlmibdddfjbbdaa
open Go.RowKit
set_option linter.unusedVariables false
set_option linter.unusedSimpArgs false
namespace Mg
theorem word_at {w : World} {g n size : Nat} {e : TypeId} {cur : Array Value} {xs : List Value} {i : Nat} (hh : w.heap[g]? = some (.cells cur e (0, 0))) (ht : cur.toList.take (n * size) = xs) (hi : i < n * size) : w.cell? ⟨g, i, none⟩ = xs[i]? := by
  rw [cell_of_row w g i cur e (0, 0) hh]
  have h3 : cur.toList[i]? = xs[i]? := by rw [← ht, List.getElem?_take, if_pos hi]
  have h4 : cur[i]? = cur.toList[i]? := by simp
  rw [h4, h3]
theorem PP.shape {w : World} {B : Nat} {s : Value} {ks : List ByteArray} {a b : List M.Cl} (h : PP w B s ks a b) : ∃ x c, s = .slice x ks.length c := by
  obtain ⟨Ls, Rs, ⟨_, ⟨h1, h2⟩ | ⟨g, cap, cur, h1, _⟩⟩, _⟩ := h
  · exact ⟨none, 0, by rw [h1, h2]⟩
  · exact ⟨_, _, h1⟩
theorem PP.at {w : World} {B : Nat} {s : Value} {ks : List ByteArray} {a b : List M.Cl} (h : PP w B s ks a b) {k : Nat} (hk : k < ks.length) : ∃ g c L R, s = .slice (some ⟨g, 0, none⟩) ks.length c ∧ g < w.heap.size ∧ w.cell? ⟨g, k * 7, none⟩ = some (.int .i64 4) ∧ w.cell? ⟨g, k * 7 + 1, none⟩ = some (.int .i64 0) ∧ w.cell? ⟨g, k * 7 + 2, none⟩ = some (.string (ks.getD k ByteArray.empty)) ∧ w.cell? ⟨g, k * 7 + 3, none⟩ = some (.string { data := #[] }) ∧ w.cell? ⟨g, k * 7 + 4, none⟩ = some (.int .i64 0) ∧ w.cell? ⟨g, k * 7 + 5, none⟩ = some L ∧ w.cell? ⟨g, k * 7 + 6, none⟩ = some R ∧ NR w B L (memV a (ks.getD k ByteArray.empty)) ∧ NR w B R (memV b (ks.getD k ByteArray.empty)) := by
  obtain ⟨Ls, Rs, ⟨_, ⟨h1, h2⟩ | ⟨g, cap, cur, h1, h3, h4, h5, h6, h7, h8⟩⟩, h9⟩ := h
  · omega
  · have hc := fun j (hj : j < 7) => (word_at (i := k * 7 + j) h4 h8 (by omega)).trans (pc_at ks Ls Rs ks.length k j hk hj)
    exact ⟨g, cap, Ls k, Rs k, h1, (Array.getElem?_eq_some_iff.1 h4).1, hc 0 (by omega), hc 1 (by omega), hc 2 (by omega), hc 3 (by omega), hc 4 (by omega), hc 5 (by omega), hc 6 (by omega), (h9 k hk).1, (h9 k hk).2⟩
theorem PP.below {w w' : World} {B : Nat} {s : Value} {ks : List ByteArray} {a b : List M.Cl} (h : PP w B s ks a b) (hb : Below w.heap.size w w') : PP w' B s ks a b := by
  obtain ⟨Ls, Rs, h1, h2⟩ := h
  exact ⟨Ls, Rs, ownsRow_below (B := 0) h1 hb, fun i hi => ⟨(h2 i hi).1.below hb, (h2 i hi).2.below hb⟩⟩
theorem NR.grown {w w' : World} {B B' size n : Nat} {e : TypeId} {v s : Value} {xs : List Value} {l : List M.Cl} (h : w.ownsRow B e size v n xs) (he : e ≠ 41) (hg : w.grownBy w' v.ownBlock) (hr : NR w B' s l) : NR w' B' s l := by
  rcases hr with hr | ⟨h1, h2⟩
  · exact .inl hr
  · exact .inr ⟨h1, grown_res h hg h2 he⟩
theorem row_grown {w w' : World} {B B' size size' n n' : Nat} {e e' : TypeId} {v s : Value} {xs ys : List Value} (h : w.ownsRow B e size v n xs) (h' : w.ownsRow B' e' size' s n' ys) (he : e ≠ e') (hg : w.grownBy w' v.ownBlock) : w'.ownsRow B' e' size' s n' ys := by
  obtain ⟨q1, q2 | ⟨g, cap, cur, h1, h3, h4, h5⟩⟩ := h'
  · exact ⟨q1, .inl q2⟩
  · refine ⟨q1, .inr ⟨g, cap, cur, h1, h3, ?_, h5⟩⟩
    rw [hg.block g (Array.getElem?_eq_some_iff.1 h4).1 (fun e2 => ?_)]
    · exact h4
    · obtain ⟨_, ⟨z1, _⟩ | ⟨g2, cap2, cur2, z1, z2, z3, _⟩⟩ := h
      · rw [z1] at e2; cases e2
      · rw [z1] at e2
        simp only [Value.ownBlock, Option.some.injEq] at e2
        subst e2
        rw [z3] at h4
        simp only [Option.some.injEq, Obj.cells.injEq] at h4
        exact he h4.2.1
theorem PP.grown {w w' : World} {B B' size n : Nat} {e : TypeId} {v s : Value} {xs : List Value} {ks : List ByteArray} {a b : List M.Cl} (h : w.ownsRow B e size v n xs) (he : e ≠ 41) (he2 : e ≠ 59) (hg : w.grownBy w' v.ownBlock) (hp : PP w B' s ks a b) : PP w' B' s ks a b := by
  obtain ⟨Ls, Rs, h1, h2⟩ := hp
  exact ⟨Ls, Rs, row_grown h h1 he2 hg, fun i hi => ⟨(h2 i hi).1.grown h he hg, (h2 i hi).2.grown h he hg⟩⟩
theorem NR.mem {w : World} {B : Nat} {s : Value} {l : List M.Cl} (h : NR w B s l) (hl : l ≠ []) : ∃ b c, s = .slice (some ⟨b, 0, none⟩) l.length c ∧ l.length ≤ c ∧ b < w.heap.size ∧ Row w b 0 l := by
  rcases h with ⟨h1, _⟩ | ⟨_, _, h3 | ⟨b, cap, h3, h4, h5, h6⟩⟩
  · exact absurd h1 hl
  · exact absurd h3.2 hl
  · exact ⟨b, cap, h3, h5, h6.lt, h6.row⟩
theorem eql_nil (t e : TypeId) (h : Try.prog.underlying t = some (.slice e)) (a : Option Addr) (n c : Nat) (w : World) : (binOp .eql t (.slice a n c) (.slice none 0 0)).run Try.prog w = .ok (.bool a.isNone) w := Lib.run_eql_slice_nil w t e a n c 0 0 h
theorem neq_nil (t e : TypeId) (h : Try.prog.underlying t = some (.slice e)) (a : Option Addr) (n c : Nat) (w : World) : (binOp .neq t (.slice a n c) (.slice none 0 0)).run Try.prog w = .ok (.bool (!a.isNone)) w := Go.run_neq_slice_nil_any w t e a n c 0 0 h
theorem emptyO_ne : emptyO ≠ [] := by rw [show emptyO = [headCl 6 0] from rfl]; simp
theorem fldV1 (x : Int) (a : Option Addr) (n c : Nat) (w : World) : (Instr.field 26 (.agg #[.int .i64 x, .slice a n c]) 1).run Try.prog w = .ok (.slice a n c) w := by kernel_rfl
/-- What impl.mergedOf says of members of at most f cells. -/
def MgSays (f : Nat) : Prop := ∀ (A B : List M.Cl) (b off cap b' off' cap' : Nat) (w : World), M.valueFault A = 0 → M.valueFault B = 0 → B.length ≤ f → Row w b off A → b < w.heap.size → A.length ≤ cap → Row w b' off' B → b' < w.heap.size → B.length ≤ cap' →
  Calls Try.prog 21 #[.slice (some ⟨b, off, none⟩) A.length cap, .slice (some ⟨b', off', none⟩) B.length cap'] w fun e w' => ∃ s, e = .returned s ∧ Res w' w.heap.size s (merge f A B) ∧ Below w.heap.size w w'
set_option maxRecDepth 100000 in
set_option maxHeartbeats 4000000 in
theorem mergedPair_any (f : Nat) (IH : Hid (MgSays f)) (y : ByteArray) (L R : Value) (l r : List M.Cl) (B : Nat) (w : World) (hB : B ≤ w.heap.size) (hL : NR w B L l) (hR : NR w B R r) (hl : l = [] ∨ M.valueFault l = 0) (hr : r = [] ∨ (M.valueFault r = 0 ∧ r.length ≤ f)) :
    Calls Try.prog 36 #[.agg #[.int .i64 4, .int .i64 0, .string y, .string { data := #[] }, .int .i64 0, L, R]] w fun e w' => ∃ s, e = .returned s ∧ NR w' B s (pairM (merge f) l r) ∧ Below w.heap.size w w' := by
  obtain ⟨la, ln, lc, rfl⟩ := hL.shape
  obtain ⟨ra, rn, rc, rfl⟩ := hR.shape
  have eqn : ∀ a n c W, (binOp .eql 24 (.slice a n c) (.slice none 0 0)).run Try.prog W = .ok (.bool a.isNone) W := fun a n c W => eql_nil _ _ Try.underlying24 a n c W
  obtain ⟨W1, hW1⟩ : ∃ W1, W1 = w.alloc (.cells #[.int .i64 4, .int .i64 0, .string y, .string { data := #[] }, .int .i64 0, .slice la ln lc, .slice ra rn rc] 59) := ⟨_, rfl⟩
  have b1 : Below w.heap.size w W1 := by rw [hW1]; exact (Below.refl _ _).alloc (Nat.le_refl _) _
  have O1 : Own W1 w.heap.size 59 [.int .i64 4, .int .i64 0, .string y, .string { data := #[] }, .int .i64 0, .slice la ln lc, .slice ra rn rc] := by rw [hW1]; exact ⟨_, heap_alloc_new _ _, rfl⟩
  have c5 := O1.cell 5
  have c6 := O1.cell 6
  simp only [List.getElem?_cons_zero, List.getElem?_cons_succ] at c5 c6
  have hL1 := hide (hL.below b1)
  have hR1 := hide (hR.below b1)
  have hsz1 := b1.size
  clear hL hR O1
  by_cases hr0 : r = []
  · have fin := hide (pair_l (rec := merge f) (l := l) hr0)
    have hRn : (.slice ra rn rc : Value) = .slice none 0 0 := by
      rcases unhide hR1 with ⟨_, h⟩ | ⟨h, _⟩
      · exact h
      · exact absurd hr0 h
    simp only [Value.slice.injEq] at hRn
    obtain ⟨rfl, rfl, rfl⟩ := hRn
    have FIN := hide (show NR W1 B (.slice la ln lc) (pairM (merge f) l r) by rw [unhide fin]; exact unhide hL1)
    clear hl hr hR1 hL1 fin
    go_enter Try.func36, Try.ntmps36
    go_upto_region 1 with fail
    rw [← hW1]
    clear hW1
    go_wp2_with fail
    go_ret
    exact ⟨_, rfl, unhide FIN, b1⟩
  rcases hr with hr | ⟨hrv, hrf⟩
  · exact absurd hr hr0
  obtain ⟨b2, c2, e2, hc2, hb2, hrow2⟩ := (unhide hR1).mem hr0
  simp only [Value.slice.injEq] at e2
  obtain ⟨rfl, rfl, rfl⟩ := e2
  have hrl := (M.fault_zero hrv).1
  have f0 := (hrow2 0 (by omega)).1
  simp only [Nat.zero_mul, Nat.add_zero] at f0
  by_cases h0 : (r.getD 0 M.zero).kind = 0
  · have fin := hide (pair_0 (rec := merge f) (l := l) hr0 h0)
    have FIN := hide (show NR W1 B (.slice none 0 0) (pairM (merge f) l r) by rw [unhide fin]; exact NR.nil _ _)
    rw [h0] at f0
    clear hl hR1 hL1 fin hrow2 hrv
    go_enter Try.func36, Try.ntmps36
    go_upto_region 1 with fail
    rw [← hW1]
    clear hW1
    go_wp2_with fail
    go_ret
    exact ⟨_, rfl, unhide FIN, b1⟩
  have h0' : ((r.getD 0 M.zero).kind == 0) = false := by simpa using h0
  by_cases hl0 : l = []
  · have fin := hide (pair_r (rec := merge f) hr0 h0 hl0)
    have hLn : (.slice la ln lc : Value) = .slice none 0 0 := by
      rcases unhide hL1 with ⟨_, h⟩ | ⟨h, _⟩
      · exact h
      · exact absurd hl0 h
    simp only [Value.slice.injEq] at hLn
    obtain ⟨rfl, rfl, rfl⟩ := hLn
    have HM := hide (fun W (h : Below W1.heap.size W1 W) a n c (hz : Res W W1.heap.size (.slice a n c) [M.zero]) => (show Calls Try.prog 21 #[.slice a n c, .slice (some ⟨b2, 0, none⟩) r.length rc] W fun e w' => ∃ s, e = .returned s ∧ Res w' W.heap.size s (merge f [M.zero] r) ∧ Below W.heap.size W w' from by
      obtain ⟨zb, zc, ze, hzc, hzb, hzr⟩ := (show NR W W1.heap.size (.slice a n c) [M.zero] from .inr ⟨by simp, hz⟩).mem (by simp)
      simp only [Value.slice.injEq] at ze
      obtain ⟨rfl, rfl, rfl⟩ := ze
      exact (unhide IH) [M.zero] r zb 0 _ b2 0 rc W zero_valid.1 hrv hrf hzr hzb hzc (hrow2.below h hb2) (Nat.lt_of_lt_of_le hb2 h.size) hc2))
    have HV := hide hrv
    have KEEP := hide (fun W (h : Below W1.heap.size W1 W) => (show W.cell? ⟨w.heap.size, 6, none⟩ = some (.slice (some ⟨b2, 0, none⟩) r.length rc) from (h.cell (p := ⟨w.heap.size, 6, none⟩) (by rw [hW1]; simp)).trans c6))
    generalize (r.getD 0 M.zero).kind = kd at *
    clear hl hR1 hL1 hrow2 hrv
    go_enter Try.func36, Try.ntmps36
    go_upto_region 1 with fail
    rw [← hW1]
    clear hW1
    go_upto_region 6 with fail
    have BR := Below.refl W1.heap.size W1
    refine Z.region 5 (fun w' => Below W1.heap.size W1 w') (by kernel_rfl) BR.drew (fun hHeld => ?_)
    refine Z.take (i := 2) (d := 22) (v := .pointer (some ⟨w.heap.size, 6, none⟩)) rfl rfl (by kernel_rfl) (by kernel_rfl) (by kernel_rfl) (by kernel_rfl) (fun _ _ _ h => h) (Or.inl ⟨by rfl, ?_⟩) hHeld ?_
    · intro w' hSw; go_simp
    simp only [Act.put, List.setIfInBounds_toArray, List.set_cons_zero, List.set_cons_succ]
    refine Z.take (i := 3) (d := 23) (v := .slice (some ⟨b2, 0, none⟩) r.length rc) rfl rfl (by kernel_rfl) (by kernel_rfl) (by kernel_rfl) (by kernel_rfl) (fun _ _ _ h => h) (Or.inl ⟨by rfl, ?_⟩) hHeld ?_
    · intro w' hSw; have g9 := (unhide KEEP) _ hSw; go_simp
    simp only [Act.put, List.setIfInBounds_toArray, List.set_cons_zero, List.set_cons_succ]
    refine Z.only (i := 0) (d := 20) rfl rfl (by kernel_rfl) (by rfl) (fun K hK => ?_)
    go_simp
    refine (nullResult_any W1.drew).mono ?_
    rintro e w3 ⟨s3, rfl, hr3, hb3⟩
    have bw3 : Below W1.heap.size W1 w3 := BR.drew.trans (hb3.mono (Nat.le_refl _))
    have hr3' : Res w3 W1.heap.size s3 [M.zero] := hr3
    obtain ⟨za, zn, zc, rfl⟩ := hr3.shape
    go_simp
    refine hK.out (.agg #[.int .i64 0, .slice za zn zc]) _ bw3 ?_
    clear hK K
    simp only [Act.put, List.setIfInBounds_toArray, List.set_cons_zero, List.set_cons_succ]
    have hfl := fun W => fldV1 0 za zn zc W
    refine Z.take (i := 1) (d := 21) (v := .slice za zn zc) rfl rfl (by kernel_rfl) (by kernel_rfl) (by kernel_rfl) (by kernel_rfl) (fun _ _ _ h => h) (Or.inl ⟨by rfl, ?_⟩) bw3 ?_
    · intro w' hSw; first | (go_simp; done) | (go_simp; exact hfl _)
    simp only [Act.put, List.setIfInBounds_toArray, List.set_cons_zero, List.set_cons_succ]
    have HM3 := hide ((unhide HM) w3 bw3 za zn zc hr3')
    clear HM hr3 hr3' hb3
    refine Z.only (i := 4) (d := 24) rfl rfl (by kernel_rfl) (by rfl) (fun K hK => ?_)
    go_simp
    refine (unhide HM3).mono ?_
    rintro e w4 ⟨s4, rfl, hr4, hb4⟩
    have bw4 : Below W1.heap.size W1 w4 := bw3.trans (hb4.mono bw3.size)
    obtain ⟨xa, xn, xc, rfl⟩ := hr4.shape
    go_simp
    refine hK.out (.slice xa xn xc) _ bw4 ?_
    clear hK K
    simp only [Act.put, List.setIfInBounds_toArray, List.set_cons_zero, List.set_cons_succ]
    have hne : merge f [M.zero] r ≠ [] := by
      have h := (merge_fit f [M.zero] r zero_valid.1 ((unhide HV)) hrf).bare.1
      intro e; rw [e] at h; simp at h
    have FIN := hide (show NR w4 B (.slice xa xn xc) (pairM (merge f) l r) by rw [unhide fin]; exact .inr ⟨hne, hr4.mono (by have := bw3.size; omega)⟩)
    have BF : Below w.heap.size w w4 := b1.trans (bw4.mono hsz1)
    refine Z.ready (rs := [5]) (by kernel_rfl) (by simp) (Z.val_cons (i := 5) (d := 2) (v := .slice xa xn xc) (w' := w4) rfl (by rfl) (fun K hK => ?_) (fun h => absurd rfl h) ?_ Z.All.nil)
    · go_simp
      exact hK.out
    simp only [Act.put, List.setIfInBounds_toArray, List.set_cons_zero, List.set_cons_succ]
    refine Z.done (by kernel_rfl) ?_ _
    clear hHeld KEEP HM3 hr4 hb4 BR
    go_wp2_with fail
    go_ret
    exact ⟨_, rfl, unhide FIN, BF⟩
  · rcases hl with hl | hlv
    · exact absurd hl hl0
    obtain ⟨b3, c3, e3, hc3, hb3, hrow3⟩ := (unhide hL1).mem hl0
    simp only [Value.slice.injEq] at e3
    obtain ⟨rfl, rfl, rfl⟩ := e3
    have fin := hide (pair_b (rec := merge f) hr0 h0 hl0)
    have hne : merge f l r ≠ [] := by
      have h := (merge_fit f l r hlv hrv hrf).bare.1
      intro e; rw [e] at h; simp at h
    have HM := hide ((unhide IH) l r b3 0 lc b2 0 rc W1 hlv hrv hrf hrow3 hb3 hc3 hrow2 hb2 hc2)
    generalize (r.getD 0 M.zero).kind = kd at *
    clear hR1 hL1 hrow2 hrow3 hrv hlv
    go_enter Try.func36, Try.ntmps36
    go_upto_region 1 with fail
    rw [← hW1]
    clear hW1
    go_wp2_with fail
    refine (unhide HM).mono ?_
    rintro e w4 ⟨s4, rfl, hr4, hb4⟩
    obtain ⟨xa, xn, xc, rfl⟩ := hr4.shape
    have FIN := hide (show NR w4 B (.slice xa xn xc) (pairM (merge f) l r) by rw [unhide fin]; exact .inr ⟨hne, hr4.mono (by omega)⟩)
    have BF : Below w.heap.size w w4 := b1.trans (hb4.mono hsz1)
    clear HM hr4 hb4
    go_wp2_with fail
    go_ret
    exact ⟨_, rfl, unhide FIN, BF⟩
end Mg
end Go.Proofs.Ytlmibdddfjbbdaa
