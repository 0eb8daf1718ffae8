/-
  DropPath, plainly. No word of the program is used here.
  slices.Delete over a list of lists of cells: one element is taken out.
  impl.withoutElement and impl.dropStep.
  impl.dropStep.
-/
import Derived.Test.YtoaibccmlmaknaaGreatPthE
import Derived.Test.YtoaibccmlmaknaaGreatDrpS
import Derived.Test.YtoaibccmlmaknaaGreatBld
import Derived.Test.YtoaibccmlmaknaaGreatShelfD
import Derived.Test.YtoaibccmlmaknaaGreatDrpT
namespace Go.Proofs.YtoaibccmlmaknaaGreat
open Go.RowKit
set_option linter.unusedVariables false
set_option linter.unusedSimpArgs false
namespace Pth
theorem bytesNil {b : ByteArray} (h : b.toList = []) : b = ByteArray.empty := bytes_ext (h.trans empty_list.symm)
theorem end_gt {v : List M.Cl} (hv : M.valueFault v = 0) {a : Nat} (ha : a < v.length) : a < M.endOf v a ∧ M.endOf v a ≤ v.length := by
  obtain ⟨d, _, h1, h2, _⟩ := M.endOf_spec hv a ha
  exact ⟨h1, h2⟩
theorem end_whole {v : List M.Cl} (hv : M.valueFault v = 0) : M.endOf v 0 = v.length := end_zero hv
theorem cut_ne {v : List M.Cl} (hv : M.valueFault v = 0) {a : Nat} (ha : a < v.length) : cut v a (M.endOf v a) ≠ [] := by
  have h := end_gt hv ha
  have hc := cut_length v a (M.endOf v a) h.2
  intro e
  rw [e] at hc
  simp at hc
  omega
theorem head_cell {v : List M.Cl} (hv : M.valueFault v = 0) {k : Int} (hk : (v.getD 0 M.zero).kind = k) (h56 : k = 5 ∨ k = 6) : v.getD 0 M.zero = headCl k (M.arity v 0) := by
  have hl := (M.fault_zero hv).1
  have hkey := fault_key hv
  have hc := M.first_zero (M.fault_zero hv).2.2.1 _ (getD_mem v 0 (by omega))
  unfold M.arity
  generalize v.getD 0 M.zero = c at *
  obtain ⟨kind, num, text, key, n⟩ := c
  simp only at hk hkey hc
  subst hk
  subst hkey
  unfold M.cellCode at hc
  simp only at hc
  split at hc
  · cases hc
  split at hc
  · cases hc
  rename_i h1
  split at hc
  · cases hc
  rename_i h2
  have hnum : num = 0 := by
    by_cases e : num = 0
    · exact e
    · exact absurd (.inl ⟨e, by omega⟩) h1
  have htx : text.toList = [] := by
    by_cases e : text.toList = []
    · exact e
    · exact absurd (.inr (.inl ⟨e, by omega⟩)) h1
  unfold headCl
  rw [hnum, show text = ByteArray.empty from bytesNil htx]
  simp only
  rw [show ((n.toNat : Nat) : Int) = n from Int.toNat_of_nonneg (by omega)]
theorem take_parts {v : List M.Cl} (hv : M.valueFault v = 0) (k : Nat) (hk : k ≤ M.arity v 0) : v.take (M.iter v k 1) = v.take 1 ++ ((List.range k).map fun j => cut v (M.iter v j 1) (M.iter v (j + 1) 1)).flatten := by
  have hl := (M.fault_zero hv).1
  have hin := M.places_in hv 0 (by omega)
  induction k with
  | zero => simp [M.iter]
  | succ k ih =>
    have h1 := hin.1 k (by omega)
    simp only [Nat.zero_add] at h1
    have hg := end_gt hv (a := M.iter v k 1) (by have := hin.2.2.1; omega)
    rw [← M.iter_next] at hg
    rw [List.range_succ, List.map_append, List.flatten_append, ← List.append_assoc, ← ih (by omega)]
    simp only [List.map_cons, List.map_nil, List.flatten_cons, List.flatten_nil, List.append_nil]
    unfold cut
    obtain ⟨m, hm⟩ : ∃ m, M.iter v (k + 1) 1 = M.iter v k 1 + m := ⟨M.iter v (k + 1) 1 - M.iter v k 1, by omega⟩
    rw [hm, Nat.add_sub_cancel_left, List.take_add]
theorem flat_parts {v : List M.Cl} (hv : M.valueFault v = 0) : v = v.getD 0 M.zero :: ((List.range (M.arity v 0)).map fun j => cut v (M.iter v j 1) (M.iter v (j + 1) 1)).flatten := by
  have hl := (M.fault_zero hv).1
  have h2 := (M.places_in hv 0 (by omega)).2.1
  simp only [Nat.zero_add] at h2
  have := take_parts hv (M.arity v 0) (Nat.le_refl _)
  rw [h2, end_whole hv, List.take_length] at this
  have ht : v.take 1 = [v.getD 0 M.zero] := by
    cases v with
    | nil => simp at hl
    | cons c r => simp
  rw [ht] at this
  exact this
theorem cut_key {v : List M.Cl} (hv : M.valueFault v = 0) {j : Nat} (hj : j < M.arity v 0) : setKey (part v (M.iter v j 1)) (v.getD (M.iter v j 1) M.zero).key = cut v (M.iter v j 1) (M.iter v (j + 1) 1) := by
  have hl := (M.fault_zero hv).1
  have hin := M.places_in hv 0 (by omega)
  have h1 := hin.1 j hj
  simp only [Nat.zero_add] at h1
  have hlt : M.iter v j 1 < v.length := by have := hin.2.2.1; omega
  have hne := cut_ne hv hlt
  have hz := cut_getD v (M.iter v j 1) (M.endOf v (M.iter v j 1)) 0 (by have := end_gt hv hlt; omega)
  rw [Nat.add_zero] at hz
  rw [← hz]
  unfold part
  rw [M.iter_next]
  generalize cut v (M.iter v j 1) (M.endOf v (M.iter v j 1)) = q at *
  cases q with
  | nil => exact absurd rfl hne
  | cons c r => rfl
theorem arr_again {v : List M.Cl} (hv : M.valueFault v = 0) (hk : (v.getD 0 M.zero).kind = 5) : arrV (subs v 0) = v := by
  have e : arrV (subs v 0) = headCl 5 (subs v 0).length :: (subs v 0).flatten := by unfold arrV arrK; rw [List.take_length]
  rw [e, subs_length, ← head_cell hv hk (.inl rfl)]
  conv => rhs; rw [flat_parts hv]
  refine congrArg _ (congrArg _ ?_)
  unfold subs M.places
  rw [List.map_map]
  refine List.map_congr_left fun j hj => ?_
  have hj := List.mem_range.1 hj
  show part v (M.iter v j (0 + 1)) = _
  rw [Nat.zero_add, ← cut_key hv hj, show (v.getD (M.iter v j 1) M.zero).key = ByteArray.empty from bytesNil (nokeys v hv hk j hj)]
  have hin := M.places_in hv 0 (by have := (M.fault_zero hv).1; omega)
  have h1 := hin.1 j hj
  simp only [Nat.zero_add] at h1
  exact (setKey_none (part_valid hv (by have := hin.2.2.1; omega))).symm

/-- The elements but the one at a place; all, if there is none. -/
def without (ps : List (List M.Cl)) (q : Int) : List (List M.Cl) := if 0 ≤ q ∧ q < (ps.length : Int) then ps.eraseIdx q.toNat else ps
theorem without_no {ps : List (List M.Cl)} {q : Int} (h : ¬ (0 ≤ q ∧ q < (ps.length : Int))) : without ps q = ps := if_neg h
theorem without_at {ps : List (List M.Cl)} {k : Nat} (h : k < ps.length) : without ps (k : Int) = ps.eraseIdx k := by unfold without; rw [if_pos ⟨by omega, by omega⟩, Int.toNat_natCast]
theorem erase_mem {ps : List (List M.Cl)} {k j : Nat} (hj : j < (ps.eraseIdx k).length) : ∃ i, i < ps.length ∧ (ps.eraseIdx k).getD j [] = ps.getD i [] := by
  have hm : (ps.eraseIdx k).getD j [] ∈ ps.eraseIdx k := by rw [List.getD_eq_getElem?_getD, List.getElem?_eq_getElem hj]; exact List.getElem_mem hj
  obtain ⟨i, hi, e⟩ := List.getElem_of_mem (List.mem_of_mem_eraseIdx hm)
  exact ⟨i, hi, by rw [← e, List.getD_eq_getElem?_getD, List.getElem?_eq_getElem hi]; rfl⟩
theorem erase_tot (ps : List (List M.Cl)) (k : Nat) : (ps.eraseIdx k).flatten.length ≤ ps.flatten.length := by
  rw [List.length_flatten, List.length_flatten]
  induction ps generalizing k with
  | nil => simp
  | cons p ps ih =>
    cases k with
    | zero => simp
    | succ k => simp only [List.eraseIdx_cons_succ, List.map_cons, List.sum_cons]; have := ih k; omega
/-- What is left of an array has no fault. -/
theorem left_val {v : List M.Cl} (hv : M.valueFault v = 0) (hk : (v.getD 0 M.zero).kind = 5) (q : Int) : M.valueFault (arrV (without (subs v 0) q)) = 0 ∧ (without (subs v 0) q).length ≤ 200 ∧ ∀ j, j < (without (subs v 0) q).length → M.valueFault ((without (subs v 0) q).getD j []) = 0 := by
  have ha := arr_again hv hk
  have hs := subs_all hv (oks hv)
  by_cases h : 0 ≤ q ∧ q < ((subs v 0).length : Int)
  · unfold without
    rw [if_pos h]
    have hle : ((subs v 0).eraseIdx q.toNat).length ≤ (subs v 0).length := by rw [List.length_eraseIdx]; split <;> omega
    have hval : ∀ j, j < ((subs v 0).eraseIdx q.toNat).length → M.valueFault (((subs v 0).eraseIdx q.toNat).getD j []) = 0 := fun j hj => by
      obtain ⟨i, hi, e⟩ := erase_mem hj
      rw [e]; exact hs.2.1 i hi
    refine ⟨arr_valid hval (fun j hj => ?_) ?_ (by have := hs.1; omega), by have := hs.1; omega, hval⟩
    · obtain ⟨i, hi, e⟩ := erase_mem hj
      rw [e]
      obtain ⟨d, hw, hd⟩ := subs_laid hv hi
      exact laid_of (hs.2.1 i hi) hw hd
    · rw [← tot_flatten, List.take_length]
      have h1 := erase_tot (subs v 0) q.toNat
      have h2 := congrArg List.length ha
      rw [show arrV (subs v 0) = headCl 5 (subs v 0).length :: (subs v 0).flatten by unfold arrV arrK; rw [List.take_length], List.length_cons] at h2
      have h3 := (lens hv).2
      omega
  · rw [without_no h, ha]
    exact ⟨hv, hs.1, hs.2.1⟩
/-- What DropPath tells of a number. -/
def outI (v : List M.Cl) (n : Int) : Int × List M.Cl := if (v.getD 0 M.zero).kind = 0 then (0, [M.zero]) else if (v.getD 0 M.zero).kind = 5 then (0, arrV (without (subs v 0) (idx n (subs v 0).length))) else (6, [])
theorem outI_gd {v : List M.Cl} (hv : M.valueFault v = 0) (n : Int) : Gd (outI v n) := by
  unfold outI
  split
  · exact gdOf zero_valid.1
  split
  · rename_i h; exact gdOf (left_val hv h _).1
  · exact gdBad _ (by decide)
theorem dropL_gd {v : List M.Cl} (hv : M.valueFault v = 0) (key : ByteArray) : Gd (dropL v key) := by
  unfold dropL
  split
  · exact gdOf zero_valid.1
  split
  · rename_i h; exact gdOf (drop_valid key hv (oks hv) h)
  · exact gdBad _ (by decide)
/-- What DropPath tells of the last step. -/
def outC (v : List M.Cl) (c : M.Cl) : Int × List M.Cl := if c.kind = 4 then dropL v c.text else outI v c.num
/-- What DropPath tells of steps. -/
def dropS (v : List M.Cl) : List M.Cl → Int × List M.Cl
  | [] => (0, [M.zero])
  | [c] => outC v c
  | c :: d :: cs =>
    if (atIn v c).1 = 0 then
      (if ((atIn v c).2.getD 0 M.zero).kind = 0 then (0, v)
       else if (dropS (atIn v c).2 (d :: cs)).1 = 0 then setS v [c] (dropS (atIn v c).2 (d :: cs)).2 else dropS (atIn v c).2 (d :: cs))
    else atIn v c
theorem dropS_gd {v : List M.Cl} (hv : M.valueFault v = 0) (cs : List M.Cl) : Gd (dropS v cs) := by
  induction cs generalizing v with
  | nil => exact gdOf zero_valid.1
  | cons c cs ih =>
    cases cs with
    | nil =>
      show Gd (outC v c)
      unfold outC
      split
      · exact dropL_gd hv _
      · exact outI_gd hv _
    | cons d cs =>
      rw [dropS]
      split
      · rename_i q
        have hu := (at_gd hv c).ok q
        split
        · exact gdOf hv
        split
        · rename_i q2; exact setS_gd hv ((ih hu).ok q2) _
        · exact ih hu
      · exact at_gd hv c
/-- What DropPath tells. -/
def dropOutP (v p : List M.Cl) : Int × List M.Cl := if asked v p = 0 then dropS v (p.drop 1) else (asked v p, [])
theorem dropP_ok {v p : List M.Cl} (h : asked v p = 0) : dropOutP v p = dropS v (p.drop 1) := if_pos h
theorem dropP_bad {v p : List M.Cl} (h : asked v p ≠ 0) : dropOutP v p = (asked v p, []) := if_neg h
end Pth
end Go.Proofs.YtoaibccmlmaknaaGreat

namespace Go.Proofs.YtoaibccmlmaknaaGreat
open Go.RowKit
set_option linter.unusedVariables false
set_option linter.unusedSimpArgs false

/-- A slice's three words. -/
def Pth.enc (t : Option Addr × Nat × Nat) : Value := .slice t.1 t.2.1 t.2.2
def Pth.dec (v : Value) : Option Addr × Nat × Nat := match v with | .slice a n c => (a, n, c) | _ => (none, 0, 0)
theorem Pth.heap_put {w : World} {q g b : Nat} {L : Array (Option Addr × Nat × Nat)} (h : b ≠ g) : (Sort.putRow Pth.enc (Sort.ahead w q) g 0 L).heap[b]? = w.heap[b]? := by
  simp only [Sort.putRow, Sort.mapBlock, Sort.heap_ahead, Array.getElem?_modify]
  rw [if_neg (fun e => h e.symm)]

set_option maxRecDepth 100000 in
set_option maxHeartbeats 1000000 in
theorem delete_any (B : Nat) (s : Value) (ps : List (List M.Cl)) (k : Nat) (w : World) (h : SS w B s ps) (hk : k < ps.length) (hl : ps.length ≤ 200) (hne : ∀ i, i < ps.length → ps.getD i [] ≠ []) :
    Calls Tryz.prog 94 #[s, .int .i64 k, .int .i64 ((k : Int) + 1)] w fun e w' => ∃ a c, e = .returned (.slice a (ps.eraseIdx k).length c) ∧ (ps.eraseIdx k).length ≤ c ∧ LV w' a (ps.eraseIdx k) ∧ Below B w w' := by
  obtain ⟨i0, hi, hz0, hz1, hz2⟩ := info_parts Tryz.info26
  obtain ⟨ss, h1, h2, h3⟩ := h
  obtain ⟨h20, ⟨_, hn0⟩ | ⟨g, cap, cur, rfl, hgB, hh, hnc, hcm, hcs, ht⟩⟩ := h2
  · omega
  have hgl : g < w.heap.size := by
    by_cases e : g < w.heap.size
    · exact e
    · rw [Array.getElem?_eq_none (by omega)] at hh; cases hh
  obtain ⟨ts, hts⟩ : ∃ ts, ts = ss.map Pth.dec := ⟨_, rfl⟩
  have htl : ts.length = ps.length := by rw [hts, List.length_map, h1]
  have hte : ∀ i, i < ps.length → ss[i]? = some (Pth.enc (ts.getD i (none, 0, 0))) ∧ Res w B (Pth.enc (ts.getD i (none, 0, 0))) (ps.getD i []) := by
    intro i hi
    have hr := h3 i hi
    obtain ⟨a, n, c, e⟩ := hr.shape
    have hs : ss[i]? = some (.slice a n c) := by
      rw [List.getD_eq_getElem?_getD] at e
      rw [List.getElem?_eq_getElem (by omega)] at e ⊢
      exact congrArg some e
    have hd : ts.getD i (none, 0, 0) = (a, n, c) := by rw [hts, List.getD_eq_getElem?_getD, List.getElem?_map, hs]; rfl
    rw [hd]
    refine ⟨hs, ?_⟩
    rw [e] at hr
    exact hr
  have hH : Sort.Holds Pth.enc w g 0 ts.toArray := by
    intro j hj
    have hj' : j < ps.length := by simpa [htl] using hj
    refine ⟨?_, Own.frozen ⟨_, hh, rfl⟩ _⟩
    rw [Nat.zero_add, row_at (base := 0) (cap := 0) hh ht hj', (hte j hj').1]
    congr 2
    rw [List.getD_eq_getElem?_getD, List.getElem?_eq_getElem (by omega)]
    simp [htl, hj']
  have hcon := AnyE.slices_Delete Tryz.delA Pth.enc (fun _ => rfl) (none, 0, 0) (fun w => Tryz.zeroValue26 w) i0 hi hz1 g 0 cap k (k + 1) ts.toArray w hH (by simpa [htl] using hnc) (by unfold maxLen at hcm; omega) (by omega) (by simp [htl]; omega)
  have hse : ts.toArray.size = ps.length := by simp [htl]
  rw [hse, show ((k + 1 : Nat) : Int) = (k : Int) + 1 by omega] at hcon
  change Calls Tryz.prog 94 _ _ _ at hcon
  refine hcon.mono ?_
  rintro e w' ⟨rfl, q, hw'⟩
  have hlen : (ps.eraseIdx k).length = ps.length - 1 := by rw [List.length_eraseIdx, if_pos hk]
  have hL : (ts.toArray.toList.take k ++ ts.toArray.toList.drop (k + 1) ++ List.replicate (k + 1 - k) (none, 0, 0)) = ts.eraseIdx k ++ [(none, 0, 0)] := by
    rw [List.eraseIdx_eq_take_drop_succ, show k + 1 - k = 1 by omega]
    rfl
  rw [hL] at hw'
  have hLs : (ts.eraseIdx k ++ [((none, 0, 0) : Option Addr × Nat × Nat)]).toArray.size = ts.toArray.size := by simp [List.length_eraseIdx, htl, hk]; omega
  have other : ∀ (b x : Nat), b ≠ g → w'.cell? ⟨b, x, none⟩ = w.cell? ⟨b, x, none⟩ := fun b x hb => by
    rw [hw', Sort.cell?_putRow_other _ _ _ _ _ _ (Or.inl hb)]
    rfl
  refine ⟨some ⟨g, 0, none⟩, cap, by rw [hlen, show k + 1 - k = 1 by omega], by omega, fun i hi => ?_, ?_⟩
  · rw [hlen] at hi
    obtain ⟨j, hj, hjp, hjt⟩ : ∃ j, j < ps.length ∧ (ps.eraseIdx k).getD i [] = ps.getD j [] ∧ (ts.eraseIdx k)[i]? = some (ts.getD j (none, 0, 0)) := by
      by_cases e : i < k
      · refine ⟨i, by omega, ?_, ?_⟩
        · rw [List.getD_eq_getElem?_getD, List.getElem?_eraseIdx, if_pos e, ← List.getD_eq_getElem?_getD]
        · rw [List.getElem?_eraseIdx, if_pos e, List.getD_eq_getElem?_getD, List.getElem?_eq_getElem (by omega)]; rfl
      · refine ⟨i + 1, by omega, ?_, ?_⟩
        · rw [List.getD_eq_getElem?_getD, List.getElem?_eraseIdx, if_neg e, ← List.getD_eq_getElem?_getD]
        · rw [List.getElem?_eraseIdx, if_neg e, List.getD_eq_getElem?_getD, List.getElem?_eq_getElem (by omega)]; rfl
    rw [hjp]
    have hres := (hte j hj).2
    obtain ⟨b, c, hsh, hc, hbB, hbl, hrow⟩ := hres.rowedQ (hne j hj)
    have hbg : b ≠ g := by
      intro e
      obtain ⟨_, ⟨_, q2⟩ | ⟨c2, cc, q3, q4, q5, ⟨xs, ⟨ca, q6, _⟩, _⟩⟩⟩ := hres
      · exact hne j hj q2
      · rw [hsh] at q3
        simp only [Value.slice.injEq, Option.some.injEq, Addr.mk.injEq, and_true] at q3
        rw [← q3.1, e, hh] at q6
        simp at q6
    refine ⟨g, b, 0, c, rfl, by rw [hw']; simp only [Sort.size_putRow, Sort.heap_ahead]; exact hgl, ?_, hc, by rw [hw']; simp only [Sort.size_putRow, Sort.heap_ahead]; exact hbl, fun x hx => ?_⟩
    · have hcell := Sort.cell?_putRow Pth.enc (Sort.ahead w q) g 0 ts.toArray _ hH hLs i (by rw [hLs, hse]; omega)
      rw [← hw', Nat.zero_add] at hcell
      rw [hcell, ← hsh]
      congr 2
      have hi2 : i < (ts.eraseIdx k).length := by rw [List.length_eraseIdx, if_pos (by omega)]; omega
      rw [List.getElem?_eq_getElem hi2] at hjt
      simp only [Option.some.injEq] at hjt
      rw [← hjt]
      simp [Array.getElem!_eq_getD, Array.getD, List.getElem_append_left hi2, hi2]
      intro hx
      omega
    · obtain ⟨z0, z1, z2, z3, z4⟩ := hrow x hx
      exact ⟨(other b _ hbg).trans z0, (other b _ hbg).trans z1, (other b _ hbg).trans z2, (other b _ hbg).trans z3, (other b _ hbg).trans z4⟩
  · rw [hw']
    exact ⟨rfl, rfl, rfl, by simp only [Sort.size_putRow, Sort.heap_ahead]; exact Nat.le_refl _, fun b hb => Pth.heap_put (by omega)⟩
end Go.Proofs.YtoaibccmlmaknaaGreat

namespace Go.Proofs.YtoaibccmlmaknaaGreat
open Go.RowKit
set_option linter.unusedVariables false
set_option linter.unusedSimpArgs false

set_option maxRecDepth 100000 in
set_option maxHeartbeats 1000000 in
theorem withoutElement_any (v : List M.Cl) (n : Int) (b off cap : Nat) (w : World) (hv : M.valueFault v = 0) (hk : (v.getD 0 M.zero).kind = 5) (n0 : -1000000000000000 ≤ n) (n1 : n ≤ 1000000000000000) (hrow : Row w b off v) (hb : b < w.heap.size) (hcap : v.length ≤ cap) :
    Calls Tryz.prog 84 #[.slice (some ⟨b, off, none⟩) v.length cap, .int .i64 n] w (Ans w (0, arrV (Pth.without (subs v 0) (Pth.idx n (subs v 0).length)))) := by
  have hlen := Pth.lens hv
  obtain ⟨hels, hen⟩ := Pth.els_subs hv (Or.inl hk)
  rw [hels] at hen
  have hsa := subs_all hv (Pth.oks hv)
  have HCL := hide (fun W (h : Below w.heap.size w W) => clone_any v b off cap W (hrow.below h hb) (Nat.lt_of_lt_of_le hb h.size) (by omega))
  have HFB := hide (fun W (h : Below w.heap.size w W) => fromBeginning_any v b off cap n W (subs v 0).length hlen.1 (hrow.below h hb) hen hsa.1 n0 n1)
  have B0 : ∀ y, Below w.heap.size w (w.alloc y) := fun y => (Below.refl _ _).alloc (Nat.le_refl _) y
  have HPO := hide (fun y => partsOf_any v b off cap (w.alloc y) hv (hrow.below (B0 y) hb) (by simp; omega) hcap)
  have HB0 := hide B0
  have ENO := hide (fun (h : ¬ (0 ≤ Pth.idx n (subs v 0).length ∧ Pth.idx n (subs v 0).length < ((subs v 0).length : Int))) => show ((0 : Int), arrV (Pth.without (subs v 0) (Pth.idx n (subs v 0).length))) = (0, v) by rw [Pth.without_no h, Pth.arr_again hv hk])
  have LV' := hide (Pth.left_val hv hk (Pth.idx n (subs v 0).length))
  have hqb : -1000000000000000 ≤ Pth.idx n (subs v 0).length ∧ Pth.idx n (subs v 0).length ≤ 1000000000000200 := by unfold Pth.idx; have := hsa.1; split <;> omega
  have hs200 := hsa.1
  have HNE := hide hsa.2.2.2
  clear B0 hv hk hrow hels hen hsa
  generalize subs v 0 = ps at *
  generalize Pth.idx n ps.length = q at *
  go_enter Tryz.func84, Tryz.ntmps84
  go_wp2_with fail
  refine ((unhide HPO) _).mono ?_
  rintro e1 w2 ⟨s1, rfl, hsd, hb1⟩
  simp only [World.size_alloc] at hsd hb1
  have R2 : Own w2 w.heap.size 49 [.int .i64 0, .slice none 0 0] := Own.below ⟨_, heap_alloc_new _ _, rfl⟩ hb1 (by omega)
  have B2 : Below w.heap.size w w2 := ((unhide HB0) _).trans (hb1.mono (by omega))
  have HR2 := hide R2
  obtain ⟨la, lc, rfl, hlc, _⟩ := hsd.ss.lv (unhide HNE)
  have HSS := hide hsd.ss
  have p0 := R2.cell 0
  have p1 := R2.cell 1
  have y0 := R2.frozen 0
  have y1 := R2.frozen 1
  simp only [List.getElem?_cons_zero, List.getElem?_cons_succ] at p0 p1
  clear hsd hb1 R2 HPO
  go_wp2_with fail
  refine ((unhide HFB) _ B2).mono ?_
  rintro e2 w1 ⟨rfl, hw1⟩
  rw [hw1]
  clear hw1 w1 HFB
  by_cases hlow : q < 0
  · have E := hide ((unhide ENO) (by omega))
    clear ENO LV'
    go_wp2_with fail
    refine ((unhide HCL) _ B2).mono ?_
    rintro e3 w3 ⟨s3, rfl, hr3, hb3⟩
    have R3 := (unhide HR2).below hb3 (unhide HR2).lt
    have F := hide (Pth.ret (hr3.mono (unhide HR2).lt) (B2.trans (hb3.mono B2.size)))
    obtain ⟨a3, n3, c3, rfl⟩ := hr3.shape
    clear p0 p1 y0 y1 hr3 hb3
    have p0 := R3.cell 0
    have p1 := R3.cell 1
    have y0 := R3.frozen 0
    have y1 := R3.frozen 1
    simp only [List.getElem?_cons_zero, List.getElem?_cons_succ] at p0 p1
    go_wp2_with fail
    refine bodyPost_ret (v := .agg #[.int .i64 0, .slice a3 n3 c3]) (by simp [results, Tryz.results84, go_sem, p0, p1]) rfl (ans_of (unhide E) ((unhide F) _ _).1 ((unhide F) _ _).2)
  have hlow' : ¬ q < 0 := hlow
  by_cases hbig : (ps.length : Int) ≤ q
  · have E := hide ((unhide ENO) (by omega))
    clear ENO LV'
    go_wp2_with fail
    refine ((unhide HCL) _ B2).mono ?_
    rintro e3 w3 ⟨s3, rfl, hr3, hb3⟩
    have R3 := (unhide HR2).below hb3 (unhide HR2).lt
    have F := hide (Pth.ret (hr3.mono (unhide HR2).lt) (B2.trans (hb3.mono B2.size)))
    obtain ⟨a3, n3, c3, rfl⟩ := hr3.shape
    clear p0 p1 y0 y1 hr3 hb3
    have p0 := R3.cell 0
    have p1 := R3.cell 1
    have y0 := R3.frozen 0
    have y1 := R3.frozen 1
    simp only [List.getElem?_cons_zero, List.getElem?_cons_succ] at p0 p1
    go_wp2_with fail
    refine bodyPost_ret (v := .agg #[.int .i64 0, .slice a3 n3 c3]) (by simp [results, Tryz.results84, go_sem, p0, p1]) rfl (ans_of (unhide E) ((unhide F) _ _).1 ((unhide F) _ _).2)
  obtain ⟨k, rfl⟩ : ∃ k : Nat, q = (k : Int) := ⟨q.toNat, by omega⟩
  have hk : k < ps.length := by omega
  have E := hide (show ((0 : Int), arrV (Pth.without ps (k : Int))) = (0, arrV (ps.eraseIdx k)) by rw [Pth.without_at hk])
  have LV2 := unhide LV'
  rw [Pth.without_at hk] at LV2
  have HDL := hide (delete_any (w.heap.size + 1) _ ps k w2 (unhide HSS) hk hs200 (unhide HNE))
  have hw : IntKind.i64.wrap ((k : Int) + 1) = (k : Int) + 1 := IntWalk.i64_in _ ⟨by omega, by omega⟩
  have hkI : ¬ (ps.length : Int) ≤ (k : Int) := hbig
  have HLV := hide LV2
  clear ENO LV' HCL hlow hbig LV2 HSS HNE
  have hel : (ps.eraseIdx k).length ≤ 200 := (unhide HLV).2.1
  generalize ps.eraseIdx k = L at *
  go_wp2_with fail
  refine (unhide HDL).mono ?_
  rintro e3 w3 ⟨a3, c3, rfl, hc3, hl3, hb3⟩
  have R3 := (unhide HR2).below hb3 (by omega)
  have B3 : Below w.heap.size w w3 := B2.trans (hb3.mono (by omega))
  have HLA := hide (layArrayV_any a3 c3 L w3 hl3 hc3 (by omega) (unhide HLV).2.2)
  have HR3 := hide R3
  clear p0 p1 y0 y1 hl3 hb3 HDL R3
  generalize arrV L = A at *
  go_wp2_with fail
  refine (unhide HLA).mono ?_
  rintro e4 w4 ⟨s4, rfl, hr4, hb4⟩
  have R4 := (unhide HR3).below hb4 (unhide HR3).lt
  have F := hide (Pth.ret (hr4.mono (unhide HR3).lt) (B3.trans (hb4.mono B3.size)))
  obtain ⟨a4, n4, c4, rfl⟩ := hr4.shape
  clear hr4 hb4 HLA
  have p0 := R4.cell 0
  have p1 := R4.cell 1
  have y0 := R4.frozen 0
  have y1 := R4.frozen 1
  simp only [List.getElem?_cons_zero, List.getElem?_cons_succ] at p0 p1
  go_wp2_with fail
  refine bodyPost_ret (v := .agg #[.int .i64 0, .slice a4 n4 c4]) (by simp [results, Tryz.results84, go_sem, p0, p1]) rfl (ans_of (unhide E) ((unhide F) _ _).1 ((unhide F) _ _).2)
end Go.Proofs.YtoaibccmlmaknaaGreat

namespace Go.Proofs.YtoaibccmlmaknaaGreat
open Go.RowKit
set_option linter.unusedVariables false
set_option linter.unusedSimpArgs false

/-- The answer's own block is the second new one. -/
theorem Pth.ret1 {w W : World} {s : Value} {l : List M.Cl} (hr : Res W (w.heap.size + 1 + 1) s l) (B : Below w.heap.size w W) (x y : Value) :
    Res ((W.setCell ⟨w.heap.size + 1, 0, none⟩ x).setCell ⟨w.heap.size + 1, 1, none⟩ y) w.heap.size s l ∧ Below w.heap.size w ((W.setCell ⟨w.heap.size + 1, 0, none⟩ x).setCell ⟨w.heap.size + 1, 1, none⟩ y) := by
  have hne : ∀ b, s.ownBlock = some b → b ≠ w.heap.size + 1 := fun b h => by have := hr.base b h; omega
  exact ⟨((hr.mono (by omega)).setOther _ _ hne).setOther _ _ hne, (B.setCell (by show w.heap.size ≤ w.heap.size + 1; omega) _).setCell (by show w.heap.size ≤ w.heap.size + 1; omega) _⟩

set_option maxRecDepth 100000 in
set_option maxHeartbeats 1000000 in
theorem dropStep_any (v : List M.Cl) (c : M.Cl) (b off cap : Nat) (w : World) (hv : M.valueFault v = 0) (hst : Pth.Stp c) (hrow : Row w b off v) (hb : b < w.heap.size) (hcap : v.length ≤ cap) :
    Calls Tryz.prog 75 #[.slice (some ⟨b, off, none⟩) v.length cap, .agg #[.int .i64 c.kind, .int .i64 c.num, .string c.text, .string c.key, .int .i64 c.n]] w (Ans w (Pth.outC v c)) := by
  have hlen := Pth.lens hv
  have hts := textOk_size hst.tx
  have hlenI : (0 : Int) < (v.length : Int) := by omega
  obtain ⟨W1, hW1⟩ : ∃ W1, W1 = (w.alloc (.cells #[.int .i64 c.kind, .int .i64 c.num, .string c.text, .string c.key, .int .i64 c.n] 56)).alloc (.cells #[.int .i64 0, .slice none 0 0] 49) := ⟨_, rfl⟩
  have B1 : Below w.heap.size w W1 := by rw [hW1]; exact ((Below.refl _ _).alloc (Nat.le_refl _) _).alloc (by simp) _
  have R1 : Own W1 (w.heap.size + 1) 49 [.int .i64 0, .slice none 0 0] := by rw [hW1]; exact ⟨_, by have := heap_alloc_new (w.alloc (.cells #[.int .i64 c.kind, .int .i64 c.num, .string c.text, .string c.key, .int .i64 c.n] 56)) (.cells #[.int .i64 0, .slice none 0 0] 49); rwa [World.size_alloc] at this, rfl⟩
  have O1 : Own W1 w.heap.size 56 [.int .i64 c.kind, .int .i64 c.num, .string c.text, .string c.key, .int .i64 c.n] := by rw [hW1]; exact Own.alloc ⟨_, heap_alloc_new _ _, rfl⟩ _
  have q0 := O1.cell 0
  have q1 := O1.cell 1
  have q2 := O1.cell 2
  simp only [List.getElem?_cons_zero, List.getElem?_cons_succ] at q0 q1 q2
  obtain ⟨f0, _, _, _, _⟩ := (hrow.below B1 hb) 0 (by omega)
  simp only [Nat.zero_mul, Nat.add_zero] at f0
  have HDK := hide (implDropKey_any v b off cap c.text W1 (hrow.below B1 hb) (Nat.lt_of_lt_of_le hb B1.size) (by omega) hcap (Pth.oks hv) (by omega))
  rw [drop_ok hv hst.tx] at HDK
  have HWE := hide (fun k5 => withoutElement_any v c.num b off cap W1 hv k5 hst.lo hst.hi (hrow.below B1 hb) (Nat.lt_of_lt_of_le hb B1.size) hcap)
  have HNR := hide (nullResult_any W1)
  have E4 := hide (show c.kind = 4 → Pth.outC v c = dropL v c.text from fun h => if_pos h)
  have E3 := hide (show c.kind ≠ 4 → Pth.outC v c = Pth.outI v c.num from fun h => if_neg h)
  have hkd := hst.kd
  have HR1 := hide R1
  have p0 := R1.cell 0
  have p1 := R1.cell 1
  have y0 := R1.frozen 0
  have y1 := R1.frozen 1
  simp only [List.getElem?_cons_zero, List.getElem?_cons_succ] at p0 p1
  clear hst hv hrow O1 R1
  rcases hkd with hk | hk
  · have E := hide ((unhide E4) hk)
    rw [hk] at q0 hW1 ⊢
    clear E3 E4 HWE HNR hk
    generalize dropL v c.text = R at *
    obtain ⟨rc, rl⟩ := R
    go_enter Tryz.func75, Tryz.ntmps75
    go_upto_region 1 with fail
    rw [← hW1]
    clear hW1
    go_wp2_with fail
    refine (unhide HDK).mono ?_
    rintro e2 w2 ⟨s2, rfl, hr2, hb2⟩
    have R2 := (unhide HR1).below hb2 (unhide HR1).lt
    have F := hide (Pth.ret1 (hr2.mono (unhide HR1).lt) (B1.trans (hb2.mono B1.size)))
    obtain ⟨a2, n2, c2, rfl⟩ := hr2.shape
    clear p0 p1 y0 y1 hr2 hb2
    have p0 := R2.cell 0
    have p1 := R2.cell 1
    have y0 := R2.frozen 0
    have y1 := R2.frozen 1
    simp only [List.getElem?_cons_zero, List.getElem?_cons_succ] at p0 p1
    go_wp2_with fail
    refine bodyPost_ret (v := .agg #[.int .i64 rc, .slice a2 n2 c2]) (by simp [results, Tryz.results75, go_sem, p0, p1]) rfl (ans_of (unhide E) ((unhide F) _ _).1 ((unhide F) _ _).2)
  · have EI := hide ((unhide E3) (by omega))
    rw [hk] at q0 hW1 ⊢
    clear E3 E4 HDK hk
    by_cases k0 : (v.getD 0 M.zero).kind = 0
    · have E := hide ((unhide EI).trans (show Pth.outI v c.num = (0, [M.zero]) from if_pos k0))
      rw [k0] at f0
      clear EI HWE k0
      go_enter Tryz.func75, Tryz.ntmps75
      go_upto_region 1 with fail
      rw [← hW1]
      clear hW1
      go_wp2_with fail
      refine (unhide HNR).mono ?_
      rintro e2 w2 ⟨s2, rfl, hr2, hb2⟩
      have R2 := (unhide HR1).below hb2 (unhide HR1).lt
      have F := hide (Pth.ret1 (hr2.mono (unhide HR1).lt) (B1.trans (hb2.mono B1.size)))
      obtain ⟨a2, n2, c2, rfl⟩ := hr2.shape
      clear p0 p1 y0 y1 hr2 hb2
      have p0 := R2.cell 0
      have p1 := R2.cell 1
      have y0 := R2.frozen 0
      have y1 := R2.frozen 1
      simp only [List.getElem?_cons_zero, List.getElem?_cons_succ] at p0 p1
      go_wp2_with fail
      refine bodyPost_ret (v := .agg #[.int .i64 0, .slice a2 n2 c2]) (by simp [results, Tryz.results75, go_sem, p0, p1]) rfl (ans_of (unhide E) ((unhide F) _ _).1 ((unhide F) _ _).2)
    by_cases k5 : (v.getD 0 M.zero).kind = 5
    · have E := hide ((unhide EI).trans (show Pth.outI v c.num = (0, arrV (Pth.without (subs v 0) (Pth.idx c.num (subs v 0).length))) by unfold Pth.outI; rw [if_neg k0, if_pos k5]))
      have HC := hide ((unhide HWE) k5)
      rw [k5] at f0
      clear EI HWE HNR k0 k5
      generalize arrV (Pth.without (subs v 0) (Pth.idx c.num (subs v 0).length)) = rl at *
      go_enter Tryz.func75, Tryz.ntmps75
      go_upto_region 1 with fail
      rw [← hW1]
      clear hW1
      go_wp2_with fail
      refine (unhide HC).mono ?_
      rintro e2 w2 ⟨s2, rfl, hr2, hb2⟩
      have R2 := (unhide HR1).below hb2 (unhide HR1).lt
      have F := hide (Pth.ret1 (hr2.mono (unhide HR1).lt) (B1.trans (hb2.mono B1.size)))
      obtain ⟨a2, n2, c2, rfl⟩ := hr2.shape
      clear p0 p1 y0 y1 hr2 hb2
      have p0 := R2.cell 0
      have p1 := R2.cell 1
      have y0 := R2.frozen 0
      have y1 := R2.frozen 1
      simp only [List.getElem?_cons_zero, List.getElem?_cons_succ] at p0 p1
      go_wp2_with fail
      refine bodyPost_ret (v := .agg #[.int .i64 0, .slice a2 n2 c2]) (by simp [results, Tryz.results75, go_sem, p0, p1]) rfl (ans_of (unhide E) ((unhide F) _ _).1 ((unhide F) _ _).2)
    · have E := hide ((unhide EI).trans (show Pth.outI v c.num = (6, []) by unfold Pth.outI; rw [if_neg k0, if_neg k5]))
      generalize (v.getD 0 M.zero).kind = kd at *
      have e0 : (kd == 0) = false := by simp [k0]
      have e5 : (kd == 5) = false := by simp [k5]
      have F := hide (Pth.ret1 (w := w) (W := W1) (resNil W1 _) B1)
      clear EI HWE HNR k0 k5
      go_enter Tryz.func75, Tryz.ntmps75
      go_upto_region 1 with fail
      rw [← hW1]
      clear hW1
      go_wp2_with fail
      refine bodyPost_ret (v := .agg #[.int .i64 6, .slice none 0 0]) (by simp [results, Tryz.results75, go_sem, p0, p1]) rfl (ans_of (unhide E) ((unhide F) _ _).1 ((unhide F) _ _).2)
end Go.Proofs.YtoaibccmlmaknaaGreat
