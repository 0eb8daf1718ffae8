/-
  Lists that are joined, and what a sum of two values is, plainly.
  slices.Clone and impl.areBoth.
-/
import Derived.Test.YtemehbjlfiebdaaGreatX15
import Derived.Test.YtemehbjlfiebdaaGreatX41
import Derived.BigQuiet
import Derived.Laws.AppendOwnNone
import Derived.Lib.SliceRun
namespace Go.Proofs.YtemehbjlfiebdaaGreat
open Go.RowKit
set_option linter.unusedVariables false

/-- A row is appended to a row of the call's own, whether it is nil or not. -/
theorem wpList_append_row {P : Program} {w : World} {ops : Array Oper} {rest : List Oper} {o : Oper} {a : Act} {Q : Exit → Act → World → Prop} (hgd : o.guard = none) (s x : Operand) (t : TypeId)
    (ho : o.op = .call { callee := .builtin .append, args := #[s, x], argTypes := #[t, t] })
    (base : Nat) (e : TypeId) (i : TypeInfo) (z : Value) (bytes : Nat) (ht : P.underlying t = some (.slice e)) (hi : P.info? e = some i) (hz : i.zero = some z)
    (hsize : i.size = 1) (hby : i.bytes = bytes) (hzs : z.cells.size = 1)
    (v : Value) (n : Nat) (xs : List Value) (hs : a.eval s = v) (hown : w.ownsRow base e 1 v n xs)
    (base2 : Nat) (e2 : TypeId) (v2 : Value) (m : Nat) (ys : List Value) (hx : a.eval x = v2) (hown2 : w.ownsRow base2 e2 1 v2 m ys) (h1 : ∀ u ∈ ys, u.oneCell' = true)
    (h63 : n + m ≤ maxLen) (hbytes : (n + m) * bytes ≤ 140737488355328) (hbase : base ≤ w.heap.size)
    (h : ∀ v' w', w'.ownsRow base e 1 v' (n + m) (xs ++ ys) → w.grownBy w' v.ownBlock → wpList P ops Q rest (a.put o.dst v') w') : wpList P ops Q (o :: rest) a w := by
  obtain ⟨hlen, ⟨hv2, h0⟩ | ⟨g, cap, cur, hv2, hg, hh, hnc, hcm, hcs, htk⟩⟩ := hown2
  · subst h0
    have hys : ys = [] := List.length_eq_zero_iff.1 (by omega)
    subst hys
    refine wpList_append_own_none hgd s x t ho base e i 1 ht hi v n xs hs hown (hx.trans hv2) (h v w (by simpa using hown) ⟨rfl, rfl, rfl, Nat.le_refl _, fun _ _ _ => rfl⟩)
  · refine wpList_append_own w hgd s x t ho base e i z 1 bytes ht hi hz hsize hby hzs (by decide) v n xs hs hown ⟨g, 0, none⟩ m cap ys (hx.trans hv2) hlen (fun j u hu => ?_) h1 h63 hbytes hbase (fun v' w' q1 q2 _ => h v' w' q1 q2)
    have hj : j < m := by have := (List.getElem?_eq_some_iff.1 hu).1; omega
    have ha : (⟨g, 0, none⟩ : Addr).add j = ⟨g, j, none⟩ := by
      unfold Addr.add; split <;> simp_all
    rw [ha, row_at (base := 0) (cap := 0) hh htk hj]
    exact hu
theorem SS.one {w : World} {B : Nat} {v : Value} {ps : List (List M.Cl)} {ss : List Value} (hl : ss.length = ps.length) (hr : ∀ i, i < ps.length → Res w B (ss.getD i (.slice none 0 0)) (ps.getD i [])) : ∀ u ∈ ss, u.oneCell' = true := by
  intro u hu
  obtain ⟨i, hi, rfl⟩ := List.getElem_of_mem hu
  have := hr i (by omega)
  rw [List.getD_eq_getElem?_getD, List.getElem?_eq_getElem hi] at this
  obtain ⟨a, n, c, e⟩ := this.shape
  simp only [Option.getD_some] at e
  rw [e]; rfl
theorem SS.join {w w' : World} {B B2 : Nat} {s v' : Value} {ps qs : List (List M.Cl)} {ss tt : List Value} (hl : ss.length = ps.length) (hown : w.ownsRow B 24 1 s ps.length ss) (hres : ∀ i, i < ps.length → Res w B (ss.getD i (.slice none 0 0)) (ps.getD i [])) (hl2 : tt.length = qs.length) (hres2 : ∀ i, i < qs.length → Res w B2 (tt.getD i (.slice none 0 0)) (qs.getD i [])) (hB : B ≤ B2) (hg : w.grownBy w' s.ownBlock) (ho : w'.ownsRow B 24 1 v' (ps.length + qs.length) (ss ++ tt)) : SS w' B v' (ps ++ qs) := by
  have keep : ∀ (r : Value) (C : Nat) (l : List M.Cl), Res w C r l → Res w' C r l := fun r C l h => grown_res hown hg h (by decide)
  refine ⟨ss ++ tt, by simp [hl, hl2], by simpa using ho, fun i hi => ?_⟩
  rw [List.length_append] at hi
  by_cases e : i < ps.length
  · rw [List.getD_eq_getElem?_getD, List.getElem?_append_left (by omega), ← List.getD_eq_getElem?_getD, List.getD_eq_getElem?_getD (l := ps ++ qs), List.getElem?_append_left e, ← List.getD_eq_getElem?_getD]
    exact keep _ _ _ (hres i e)
  · rw [List.getD_eq_getElem?_getD, List.getElem?_append_right (by omega), hl, ← List.getD_eq_getElem?_getD, List.getD_eq_getElem?_getD (l := ps ++ qs), List.getElem?_append_right (by omega), ← List.getD_eq_getElem?_getD]
    exact (keep _ _ _ (hres2 (i - ps.length) (by omega))).mono hB
theorem KS.join {w' : World} {B : Nat} {v' : Value} {ks ls : List ByteArray} (ho : w'.ownsRow B 9 1 v' (ks.length + ls.length) (ks.map Value.string ++ ls.map Value.string)) : KS w' B v' (ks ++ ls) := by
  unfold KS; simpa using ho
theorem texts_plain (ks : List ByteArray) : ∀ u ∈ ks.map Value.string, u.oneCell' = true := by
  intro u hu
  obtain ⟨s, _, rfl⟩ := List.mem_map.1 hu
  rfl
theorem parts_app {P : List M.Cl → Prop} {ps qs : List (List M.Cl)} (h : ∀ j, j < ps.length → P (ps.getD j [])) (h2 : ∀ j, j < qs.length → P (qs.getD j [])) : ∀ j, j < (ps ++ qs).length → P ((ps ++ qs).getD j []) := by
  intro j hj
  rw [List.length_append] at hj
  by_cases e : j < ps.length
  · rw [List.getD_eq_getElem?_getD, List.getElem?_append_left e, ← List.getD_eq_getElem?_getD]; exact h j e
  · rw [List.getD_eq_getElem?_getD, List.getElem?_append_right (by omega), ← List.getD_eq_getElem?_getD]; exact h2 _ (by omega)
theorem texts_app {ks ls : List ByteArray} (h : TextsOk ks) (h2 : TextsOk ls) : TextsOk (ks ++ ls) := by
  intro j hj
  rw [List.length_append] at hj
  by_cases e : j < ks.length
  · rw [List.getD_eq_getElem?_getD, List.getElem?_append_left e, ← List.getD_eq_getElem?_getD]; exact h j e
  · rw [List.getD_eq_getElem?_getD, List.getElem?_append_right (by omega), ← List.getD_eq_getElem?_getD]; exact h2 _ (by omega)

/-- The sum of two values without a fault. -/
def addIn (v u : List M.Cl) : Int × List M.Cl :=
  if (v.getD 0 M.zero).kind = 0 then (0, u) else if (u.getD 0 M.zero).kind = 0 then (0, v) else if (v.getD 0 M.zero).kind ≠ (u.getD 0 M.zero).kind then (6, [])
  else if (v.getD 0 M.zero).kind = 3 then told [numCl ((v.getD 0 M.zero).num + (u.getD 0 M.zero).num)]
  else if (v.getD 0 M.zero).kind = 4 then told [strCl ((v.getD 0 M.zero).text ++ (u.getD 0 M.zero).text)]
  else if (v.getD 0 M.zero).kind = 5 then told (arrV (subs v 0 ++ subs u 0))
  else if (v.getD 0 M.zero).kind = 6 then told (objV (keysAt v 0 ++ keysAt u 0) (subs v 0 ++ subs u 0)) else (6, [])
theorem add_l {v u : List M.Cl} (h : (v.getD 0 M.zero).kind = 0) : addIn v u = (0, u) := if_pos h
theorem add_r {v u : List M.Cl} (h : (v.getD 0 M.zero).kind ≠ 0) (h2 : (u.getD 0 M.zero).kind = 0) : addIn v u = (0, v) := by unfold addIn; rw [if_neg h, if_pos h2]
theorem add_k {v u : List M.Cl} (h : (v.getD 0 M.zero).kind ≠ 0) (h2 : (u.getD 0 M.zero).kind ≠ 0) (h3 : (v.getD 0 M.zero).kind ≠ (u.getD 0 M.zero).kind) : addIn v u = (6, []) := by unfold addIn; rw [if_neg h, if_neg h2, if_pos h3]
theorem add_3 {v u : List M.Cl} (h : (v.getD 0 M.zero).kind = 3) (h2 : (u.getD 0 M.zero).kind = 3) : addIn v u = told [numCl ((v.getD 0 M.zero).num + (u.getD 0 M.zero).num)] := by unfold addIn; rw [if_neg (by omega), if_neg (by omega), if_neg (by omega), if_pos h]
theorem add_4 {v u : List M.Cl} (h : (v.getD 0 M.zero).kind = 4) (h2 : (u.getD 0 M.zero).kind = 4) : addIn v u = told [strCl ((v.getD 0 M.zero).text ++ (u.getD 0 M.zero).text)] := by unfold addIn; rw [if_neg (by omega), if_neg (by omega), if_neg (by omega), if_neg (by omega), if_pos h]
theorem add_5 {v u : List M.Cl} (h : (v.getD 0 M.zero).kind = 5) (h2 : (u.getD 0 M.zero).kind = 5) : addIn v u = told (arrV (subs v 0 ++ subs u 0)) := by unfold addIn; rw [if_neg (by omega), if_neg (by omega), if_neg (by omega), if_neg (by omega), if_neg (by omega), if_pos h]
theorem add_6 {v u : List M.Cl} (h : (v.getD 0 M.zero).kind = 6) (h2 : (u.getD 0 M.zero).kind = 6) : addIn v u = told (objV (keysAt v 0 ++ keysAt u 0) (subs v 0 ++ subs u 0)) := by unfold addIn; rw [if_neg (by omega), if_neg (by omega), if_neg (by omega), if_neg (by omega), if_neg (by omega), if_neg (by omega), if_pos h]
theorem add_b {v u : List M.Cl} (h : (v.getD 0 M.zero).kind = (u.getD 0 M.zero).kind) (h0 : (v.getD 0 M.zero).kind ≠ 0) (h3 : (v.getD 0 M.zero).kind ≠ 3) (h4 : (v.getD 0 M.zero).kind ≠ 4) (h5 : (v.getD 0 M.zero).kind ≠ 5) (h6 : (v.getD 0 M.zero).kind ≠ 6) : addIn v u = (6, []) := by unfold addIn; rw [if_neg h0, if_neg (by omega), if_neg (by omega), if_neg h3, if_neg h4, if_neg h5, if_neg h6]

theorem told_num (n : Int) : told [numCl n] = numOut n := by
  by_cases h : n < -1000000000000000 ∨ 1000000000000000 < n
  · have hc : M.cellCode (numCl n) = 3 := by
      unfold numCl M.cellCode
      simp only
      rw [if_neg (by omega), if_neg, if_pos (by omega)]
      intro g
      rcases g with g | g | g
      · exact g.2 rfl
      · exact g.1 empty_toList
      · exact g.1 rfl
    have hf : M.valueFault [numCl n] = 3 := by unfold M.valueFault; rw [if_neg (by simp)]; simp [M.firstCode, hc]
    rw [num_bad h, told_bad (by rw [hf]; decide), hf]
  · rw [num_ok h, told_ok (one_valid (code_num (by omega) (by omega)) empty_toList rfl).1]; rfl
theorem told_str (s : ByteArray) : told [strCl s] = strOut s := by
  cases h : M.textOk s with
  | false =>
    have hne : s.toList ≠ [] := by
      intro e
      have hs : s = ByteArray.empty := bytes_ext (by rw [e, empty_toList])
      rw [hs] at h
      exact absurd h (by decide)
    have hc : M.cellCode (strCl s) = 5 := by
      unfold strCl M.cellCode
      simp only
      rw [if_neg (by omega), if_neg, if_neg (by omega), if_neg (by simp [h])]
      intro g
      rcases g with g | g | g
      · exact g.1 rfl
      · exact g.2 rfl
      · exact g.1 rfl
    have hf : M.valueFault [strCl s] = 5 := by unfold M.valueFault; rw [if_neg (by simp)]; simp [M.firstCode, hc]
    rw [str_bad h, told_bad (by rw [hf]; decide), hf]
  | true => rw [str_ok h, told_ok (one_valid (code_str h) empty_toList rfl).1]; rfl
theorem told_valid {l : List M.Cl} (h : (told l).1 = 0) : M.valueFault (told l).2 = 0 ∧ (told l).2 = l := by
  by_cases hf : M.valueFault l = 0
  · rw [told_ok hf]; exact ⟨hf, rfl⟩
  · rw [told_bad hf] at h; exact absurd h hf
/-- A sum has no fault, and its cells fit. -/
theorem add_valid {v u : List M.Cl} (hv : M.valueFault v = 0) (hu : M.valueFault u = 0) (hok : ∀ c ∈ v, c.ok) (hok' : ∀ c ∈ u, c.ok) (h : (addIn v u).1 = 0) : M.valueFault (addIn v u).2 = 0 ∧ ∀ c ∈ (addIn v u).2, c.ok := by
  have hbig : ∀ l : List M.Cl, (told l).1 = 0 → M.valueFault (told l).2 = 0 ∧ ∀ c ∈ (told l).2, c.ok := fun l hl => by
    obtain ⟨h1, h2⟩ := told_valid hl
    refine ⟨h1, fun c hc => ?_⟩
    have hz := M.first_zero (M.fault_zero h1).2.2.1 c hc
    unfold M.cellCode at hz
    split at hz
    · cases hz
    split at hz
    · cases hz
    split at hz
    · cases hz
    split at hz
    · rename_i q1 q2 q3 q4
      have t1 : c.text.size ≤ 60 := by have := q4.1; unfold M.textOk at this; rw [Bool.and_eq_true] at this; exact of_decide_eq_true this.1
      have t2 : c.key.size ≤ 60 := by have := q4.2; unfold M.textOk at this; rw [Bool.and_eq_true] at this; exact of_decide_eq_true this.1
      exact ⟨by omega, by omega, by omega, by omega, by omega⟩
    · cases hz
  unfold addIn at h ⊢
  split at h
  · rename_i g; rw [if_pos g]; exact ⟨hu, hok'⟩
  rename_i g1; rw [if_neg g1]
  split at h
  · rename_i g; rw [if_pos g]; exact ⟨hv, hok⟩
  rename_i g2; rw [if_neg g2]
  split at h
  · cases h
  rename_i g3; rw [if_neg g3]
  split at h
  · rename_i g; rw [if_pos g]; exact hbig _ h
  rename_i g4; rw [if_neg g4]
  split at h
  · rename_i g; rw [if_pos g]; exact hbig _ h
  rename_i g5; rw [if_neg g5]
  split at h
  · rename_i g; rw [if_pos g]; exact hbig _ h
  rename_i g6; rw [if_neg g6]
  split at h
  · rename_i g; rw [if_pos g]; exact hbig _ h
  · cases h

/-- The sum of the first k lists, or the first code. -/
def sumK (ps : List (List M.Cl)) : Nat → Int × List M.Cl
  | 0 => (0, [M.zero])
  | k + 1 => if (sumK ps k).1 ≠ 0 then sumK ps k else addIn (sumK ps k).2 (ps.getD k [])
theorem sumK_go {ps : List (List M.Cl)} {k : Nat} (h : (sumK ps k).1 = 0) : sumK ps (k + 1) = addIn (sumK ps k).2 (ps.getD k []) := by
  rw [sumK, if_neg (by simp [h])]
theorem sumK_stop {ps : List (List M.Cl)} {k : Nat} (h : (sumK ps k).1 ≠ 0) (n : Nat) (hn : k ≤ n) : sumK ps n = sumK ps k := by
  induction n with
  | zero => rw [show k = 0 from by omega]
  | succ n ih =>
    by_cases e : k = n + 1
    · rw [e]
    · have := ih (by omega)
      rw [sumK, this, if_pos h]
theorem zero_valid : M.valueFault [M.zero] = 0 ∧ ∀ c ∈ [M.zero], c.ok := by
  refine ⟨(one_valid (c := M.zero) ?_ empty_toList rfl).1, fun c hc => ?_⟩
  · unfold M.zero M.cellCode
    simp only
    rw [if_neg (by omega), if_neg, if_neg (by omega), if_pos ⟨by decide, by decide⟩]
    intro g
    rcases g with g | g | g
    · exact g.1 rfl
    · exact g.1 empty_toList
    · exact g.1 rfl
  · simp only [List.mem_cons, List.not_mem_nil, or_false] at hc
    subst hc
    unfold M.zero M.Cl.ok
    simp only
    refine ⟨by omega, by omega, by omega, by decide, by decide⟩

end Go.Proofs.YtemehbjlfiebdaaGreat

namespace Go.Proofs.YtemehbjlfiebdaaGreat
open Go.RowKit
set_option linter.unusedVariables false

set_option maxHeartbeats 1000000 in
theorem areBoth_yes (k : Int) (b off n cap b' off' n' cap' : Nat) (w : World) (hn : 0 < n) (hn' : 0 < n') (f0 : w.cell? ⟨b, off, none⟩ = some (.int .i64 k)) (g0 : w.cell? ⟨b', off', none⟩ = some (.int .i64 k)) :
    Calls Tryz.prog 62 #[.int .i64 k, .slice (some ⟨b, off, none⟩) n cap, .slice (some ⟨b', off', none⟩) n' cap'] w fun e w' => e = .returned (.bool true) ∧ w' = w := by
  go_enter Tryz.func62, Tryz.ntmps62
  go_wp2_with fail
  go_ret
  exact ⟨by simp, rfl⟩
set_option maxHeartbeats 1000000 in
theorem areBoth_no (k kv ku : Int) (b off n cap b' off' n' cap' : Nat) (w : World) (hn : 0 < n) (hn' : 0 < n') (f0 : w.cell? ⟨b, off, none⟩ = some (.int .i64 kv)) (g0 : w.cell? ⟨b', off', none⟩ = some (.int .i64 ku)) (h : kv ≠ k ∨ ku ≠ k) :
    Calls Tryz.prog 62 #[.int .i64 k, .slice (some ⟨b, off, none⟩) n cap, .slice (some ⟨b', off', none⟩) n' cap'] w fun e w' => e = .returned (.bool false) ∧ w' = w := by
  by_cases hv : kv = k
  · have e1 : (kv == k) = true := by simp [hv]
    have e2 : (ku == k) = false := by rcases h with h | h; exact absurd hv h; simp [h]
    clear hv h
    go_enter Tryz.func62, Tryz.ntmps62
    go_wp2_with fail
    go_ret
    exact ⟨by first | rfl | simp, rfl⟩
  · have e1 : (kv == k) = false := by simp [hv]
    clear hv h
    go_enter Tryz.func62, Tryz.ntmps62
    go_wp2_with fail
    go_ret
    exact ⟨by simp, rfl⟩
set_option maxRecDepth 100000 in
set_option maxHeartbeats 1000000 in
theorem clone_any (l : List M.Cl) (b off cap : Nat) (w : World) (hrow : Row w b off l) (hb : b < w.heap.size) (hn : l.length ≤ 1048576) :
    Calls Tryz.prog 81 #[.slice (some ⟨b, off, none⟩) l.length cap] w fun e w' => ∃ s, e = .returned s ∧ Res w' w.heap.size s l ∧ Below w.heap.size w w' := by
  obtain ⟨i0, hi, hz0, hz1, hz2⟩ := info_parts Tryz.info33
  have hnews := hide (fun o => row_words (hrow.below ((Below.refl w.heap.size w).alloc (Nat.le_refl _) o) hb))
  have hone := hide (flat_one l)
  have HFL := hide (flat_length l)
  have hoe := hide (owns_empty5 w 33)
  have hb63 : 0 + l.length ≤ maxLen := by unfold maxLen; omega
  have hby : (0 + l.length) * 56 ≤ 140737488355328 := by omega
  have heq : ∀ w', (binOp .eql 24 (.slice (some ⟨b, off, none⟩) l.length cap) (.slice none 0 0)).run Tryz.prog w' = .ok (.bool false) w' := fun w' => Lib.run_eql_slice_nil w' 24 33 (some ⟨b, off, none⟩) l.length cap 0 0 Tryz.underlying24
  go_enter Tryz.func81, Tryz.ntmps81
  go_wp2_with (at_builtin; refine wpList_append_own _ rfl (.tmp 5) (.tmp 6) 24 rfl w.heap.size 33 i0 _ 5 56 Tryz.underlying24 hi hz0 hz1 hz2 rfl (by decide) _ 0 [] rfl (unhide hoe) ⟨b, off, none⟩ l.length cap (flat l) rfl (unhide HFL) ((unhide hnews) _) (unhide hone) hb63 hby (by simp) ?_)
  intro v' w' ho hg _
  have hB : Below w.heap.size w w' := ((Below.refl _ w).alloc (Nat.le_refl _) _).grown hg (by simp) (fun q hq => by simp only [Value.ownBlock, Option.some.injEq] at hq; omega)
  have hr := hide (res_of_owns (l := l) (by simpa using ho) hn)
  clear ho hg
  go_wp2_with fail
  go_ret
  exact ⟨_, rfl, unhide hr, hB⟩

end Go.Proofs.YtemehbjlfiebdaaGreat
