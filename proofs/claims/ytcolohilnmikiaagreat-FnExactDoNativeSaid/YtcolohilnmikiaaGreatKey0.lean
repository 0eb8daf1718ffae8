/-
  spec.RangeOf and impl.RangeOf.
  What KeysOf tells, plainly; texts and lists that do not touch one another.
-/
import Derived.Test.YtcolohilnmikiaaGreatBld
namespace Go.Proofs.YtcolohilnmikiaaGreat
open Go.RowKit
set_option linter.unusedVariables false

def nums (k : Nat) : List (List M.Cl) := (List.range k).map fun (j : Nat) => [numCl (j : Int)]
theorem nums_length (k : Nat) : (nums k).length = k := by simp [nums]
theorem nums_getD {k j : Nat} (hj : j < k) : (nums k).getD j [] = [numCl (j : Int)] := by simp [nums, List.getD_eq_getElem?_getD, hj]
theorem nums_succ (k : Nat) : nums k ++ [[numCl (k : Int)]] = nums (k + 1) := by simp [nums, List.range_succ]
theorem nums_all {k : Nat} (hk : k ≤ 199) : (∀ j, j < (nums k).length → M.valueFault ((nums k).getD j []) = 0) ∧ OkS (nums k) ∧ M.valueFault (arrV (nums k)) = 0 := by
  have h1 : ∀ j, j < (nums k).length → M.cellCode (numCl (j : Int)) = 0 := fun j hj => by rw [nums_length] at hj; exact code_num (by omega) (by omega)
  have hv : ∀ j, j < (nums k).length → M.valueFault ((nums k).getD j []) = 0 := fun j hj => by
    have := h1 j hj
    rw [nums_length] at hj; rw [nums_getD hj]; exact (one_valid this empty_toList rfl).1
  refine ⟨hv, fun j hj c hc => ?_, arr_valid hv (fun j hj => ?_) ?_ (by rw [nums_length]; omega)⟩
  · rw [nums_length] at hj; rw [nums_getD hj] at hc
    simp only [List.mem_cons, List.not_mem_nil, or_false] at hc
    subst hc
    unfold numCl M.Cl.ok
    simp only
    refine ⟨by omega, by omega, by omega, by decide, by decide⟩
  · have := h1 j hj
    rw [nums_length] at hj; rw [nums_getD hj]; exact one_laid this empty_toList rfl
  · rw [tot_ones (fun j hj => by rw [nums_length] at hj; rw [nums_getD hj]; rfl) _ (Nat.le_refl _), nums_length]; omega
def rngOut (n : Int) : Int × List M.Cl := if 199 < n then (3, []) else (0, arrV (nums n.toNat))
theorem rng_bad {n : Int} (h : 199 < n) : rngOut n = (3, []) := if_pos h
theorem rng_ok {n : Int} (h : ¬ 199 < n) : rngOut n = (0, arrV (nums n.toNat)) := if_neg h

set_option maxRecDepth 100000 in
set_option maxHeartbeats 4000000 in
theorem specRange_any (n : Int) (w : World) (n0 : -9223372036854775808 ≤ n) (n1 : n ≤ 9223372036854775807) :
    Calls Tryz.prog 37 #[.int .i64 n] w (Ans w (rngOut n)) := by
  have B0 : ∀ o, Below w.heap.size w (w.alloc o) := fun o => (Below.refl _ _).alloc (Nat.le_refl _) o
  have HB0 := hide B0
  clear B0
  have hR0 : Own (w.alloc (.cells #[.int .i64 0, .slice none 0 0] 26)) w.heap.size 26 [.int .i64 0, .slice none 0 0] := ⟨_, heap_alloc_new _ _, rfl⟩
  have HR0 := hide hR0
  clear hR0
  by_cases hbig : 199 < n
  · have fin := hide (rng_bad hbig)
    have d1 : decide ((199 : Int) < n) = true := decide_eq_true hbig
    go_enter Tryz.func37, Tryz.ntmps37
    go_wp2_with fail
    refine (l3Bad_any _ _).mono ?_
    rintro ec wc ⟨sc, rfl, hrc, hbc⟩
    have hRc := (unhide HR0).below hbc (unhide HR0).lt
    have r0 := hRc.cell 0
    have r1 := hRc.cell 1
    have z0 := hRc.frozen 0
    have z1 := hRc.frozen 1
    simp only [List.getElem?_cons_zero, List.getElem?_cons_succ] at r0 r1
    have HE := hide (Ans.store hrc ((unhide HB0) _) (unhide HR0).lt hbc)
    obtain ⟨ac, mc, cc, rfl⟩ := hrc.shape
    clear hrc hbc
    go_wp2_with fail
    refine bodyPost_ret (v := .agg #[.int .i64 3, .slice ac mc cc]) (by simp [results, Tryz.results37, go_sem, r0, r1]) rfl (ans_of (unhide fin) ((unhide HE) _ _).1 ((unhide HE) _ _).2)
  have fin := hide (rng_ok hbig)
  have d1 : decide ((199 : Int) < n) = false := decide_eq_false hbig
  obtain ⟨m, hm⟩ : ∃ m, m = n.toNat := ⟨_, rfl⟩
  rw [← hm] at fin
  have hm199 : m ≤ 199 := by omega
  have HALL := hide (nums_all hm199)
  have hmn : ∀ k : Nat, k < m → (k : Int) < n := fun k hk => by omega
  have hmn' : ∀ k : Nat, ¬ k < m → ¬ (k : Int) < n := fun k hk => by omega
  have HMN := hide hmn
  have HMN' := hide hmn'
  clear hm hmn hmn' hbig
  obtain ⟨i0, hi, hz0, hz1, hz2⟩ := info_parts Tryz.info24
  obtain ⟨w0, hw0⟩ : ∃ w0, w0 = w.alloc (.cells #[.int .i64 0, .slice none 0 0] 26) := ⟨_, rfl⟩
  have hs0 : w0.heap.size = w.heap.size + 1 := by rw [hw0]; simp
  rw [← hw0] at HR0
  have B00 : Below w.heap.size w w0 := by rw [hw0]; exact (unhide HB0) _
  have HS0 := hide (SS.empty w0 (w.heap.size + 1) (w.heap.size + 1) hs0.symm (Nat.le_refl _))
  go_enter Tryz.func37, Tryz.ntmps37
  go_wp2_with fail
  rw [← hw0]
  clear hw0
  go_loopg [3, 4] m (fun gh s3 s4 wr => ∃ k : Nat, Hid (gh = m - k) ∧ s4 = .int .i64 k ∧ k ≤ m ∧ Hid (SS wr (w.heap.size + 1) s3 (nums k)) ∧ Below (w.heap.size + 1) w0 wr)
  case atStart => exact ⟨0, rfl, rfl, by omega, unhide HS0, (Below.refl _ _).alloc (by omega) _⟩
  case round =>
    obtain ⟨k, hg, rfl, hk, hss, hbel⟩ := hrel
    by_cases hlt : k < m
    · have hlt' := (unhide HMN) k hlt
      go_wp2_with fail
      refine (l1Number_any _ _).mono ?_
      rintro e1 w1 ⟨sp, rfl, hrp0, hb1⟩
      have B1 : Below (w.heap.size + 1) w0 w1 := hbel.trans (hb1.mono (by have := hbel.size; omega))
      have hrp : Res w1 (w.heap.size + 1) sp [numCl (k : Int)] := hrp0.mono (by have := hbel.size; omega)
      have hss1 := (hss.out).below hb1
      clear hss hb1 hrp0 hbel
      obtain ⟨ss, hsl, hown, hres⟩ := hss1
      obtain ⟨pa, pn, pc, rfl⟩ := hrp.shape
      have hlk := nums_length k
      have hown3 := hide (fun o => (hlk ▸ hown : World.ownsRow w1 (w.heap.size + 1) 24 1 _ (k) ss).alloc o)
      have hbse := hide (ownsRow_base hown)
      have hone := hide (one_val w1 (.slice pa pn pc) 24)
      have honep := hide (one_plain' pa pn pc)
      have hsn := hide (fun w' o v' hg ho => SS.snoc (w3 := w') (o := o) (v' := v') hlk hsl hown hres hrp hg ho)
      have hb63 : (k) + 1 ≤ maxLen := by unfold maxLen; omega
      have hby : ((k) + 1) * 24 ≤ 140737488355328 := by omega
      have hbase : w.heap.size + 1 ≤ w1.heap.size + 1 := by have := B1.size; omega
      clear hown hres hrp hsl hlk
      go_wp2_with (at_builtin; refine wpList_append_own _ rfl (.tmp 14) (.tmp 17) 58 rfl (w.heap.size + 1) 24 i0 (.slice none 0 0) 1 24 Tryz.underlying58 hi hz0 hz1 hz2 rfl (by decide) _ (k) ss rfl ((unhide hown3) _) ⟨w1.heap.size, 0, none⟩ 1 1 [.slice pa pn pc] rfl rfl (unhide hone) (unhide honep) hb63 hby (by simpa using hbase) ?_)
      intro v' w2 ho' hg' _
      have hss' := hide ((unhide hsn) _ _ _ hg' ho')
      have B2 : Below (w.heap.size + 1) w0 w2 := (B1.alloc (by have := B1.size; omega) _).grown hg' (by simpa using hbase) (unhide hbse)
      rw [nums_succ] at hss'
      clear hg' ho' B1
      go_wp2_with fail
      go_roundg (m - (k + 1))
      case rel => exact ⟨k + 1, rfl, by go_num, by omega, unhide hss', B2⟩
      case measure => have := hg.out; omega
    · have hlt' := (unhide HMN') k hlt
      have hke : k = m := by omega
      subst hke
      obtain ⟨la, lc, hsh, hlc, hlv⟩ := (hss.out).lv (valid_ne (unhide HALL).1)
      subst hsh
      have BR : Below w.heap.size w wr := B00.trans (hbel.mono (by omega))
      have hRr := (unhide HR0).below hbel (by omega)
      have hwr : w.heap.size < wr.heap.size := hRr.lt
      have hnl := nums_length k
      have HNL := hide hnl
      clear hss hnl
      go_wp2_with fail
      refine (l1ArrayV_any la lc (nums k) _ hlv hlc (by rw [unhide HNL]; omega) (unhide HALL).1).mono ?_
      rintro e2 w2 ⟨s2, rfl, hr2, hb2⟩
      have hR2 := hRr.below hb2 hRr.lt
      have r0 := hR2.cell 0
      have r1 := hR2.cell 1
      have z0 := hR2.frozen 0
      have z1 := hR2.frozen 1
      simp only [List.getElem?_cons_zero, List.getElem?_cons_succ] at r0 r1
      have HE := hide (Ans.store hr2 BR hwr hb2)
      obtain ⟨ac, mc, cc, rfl⟩ := hr2.shape
      clear hr2 hb2 hlv
      go_wp2_with fail
      refine bodyPost_ret (v := .agg #[.int .i64 0, .slice ac mc cc]) (by simp [results, Tryz.results37, go_sem, r0, r1]) rfl (ans_of (unhide fin) ((unhide HE) _ _).1 ((unhide HE) _ _).2)

set_option maxRecDepth 100000 in
set_option maxHeartbeats 4000000 in
theorem implRange_any (n : Int) (w : World) (n0 : -9223372036854775808 ≤ n) (n1 : n ≤ 9223372036854775807) :
    Calls Tryz.prog 43 #[.int .i64 n] w (Ans w (rngOut n)) := by
  have B0 : ∀ o, Below w.heap.size w (w.alloc o) := fun o => (Below.refl _ _).alloc (Nat.le_refl _) o
  have HB0 := hide B0
  clear B0
  have hR0 : Own (w.alloc (.cells #[.int .i64 0, .slice none 0 0] 26)) w.heap.size 26 [.int .i64 0, .slice none 0 0] := ⟨_, heap_alloc_new _ _, rfl⟩
  have HR0 := hide hR0
  clear hR0
  by_cases hbig : 199 < n
  · have fin := hide (rng_bad hbig)
    have d1 : decide ((199 : Int) < n) = true := decide_eq_true hbig
    go_enter Tryz.func43, Tryz.ntmps43
    go_wp2_with fail
    refine bodyPost_ret (v := .agg #[.int .i64 3, .slice none 0 0]) (by simp [results, Tryz.results43, go_sem]) rfl (ans_of (unhide fin) (resNil _ _) ((unhide HB0) _))
  have fin := hide (rng_ok hbig)
  have d1 : decide ((199 : Int) < n) = false := decide_eq_false hbig
  obtain ⟨m, hm⟩ : ∃ m, m = n.toNat := ⟨_, rfl⟩
  rw [← hm] at fin
  have hm199 : m ≤ 199 := by omega
  have HALL := hide (nums_all hm199)
  have hmn : ∀ k : Nat, k < m → (k : Int) < n := fun k hk => by omega
  have hmn' : ∀ k : Nat, ¬ k < m → ¬ (k : Int) < n := fun k hk => by omega
  have HMN := hide hmn
  have HMN' := hide hmn'
  clear hm hmn hmn' hbig
  obtain ⟨i0, hi, hz0, hz1, hz2⟩ := info_parts Tryz.info24
  obtain ⟨w0, hw0⟩ : ∃ w0, w0 = w.alloc (.cells #[.int .i64 0, .slice none 0 0] 26) := ⟨_, rfl⟩
  have hs0 : w0.heap.size = w.heap.size + 1 := by rw [hw0]; simp
  rw [← hw0] at HR0
  have B00 : Below w.heap.size w w0 := by rw [hw0]; exact (unhide HB0) _
  have HS0 := hide (SS.empty w0 (w.heap.size + 1) (w.heap.size + 1) hs0.symm (Nat.le_refl _))
  go_enter Tryz.func43, Tryz.ntmps43
  go_wp2_with fail
  rw [← hw0]
  clear hw0
  go_loopg [3, 9] m (fun gh s3 s9 wr => ∃ k : Nat, Hid (gh = m - k) ∧ s9 = .int .i64 k ∧ k ≤ m ∧ Hid (SS wr (w.heap.size + 1) s3 (nums k)) ∧ Below (w.heap.size + 1) w0 wr)
  case atStart => exact ⟨0, rfl, rfl, by omega, SS.nil _ _, Below.refl _ _⟩
  case round =>
    obtain ⟨k, hg, rfl, hk, hss, hbel⟩ := hrel
    by_cases hlt : k < m
    · have hlt' := (unhide HMN) k hlt
      go_wp2_with fail
      refine (numberValue_any _ _).mono ?_
      rintro e1 w1 ⟨sp, rfl, hrp0, hb1⟩
      rw [num_ok (n := (k : Int)) (by omega)] at hrp0 ⊢
      simp only at hrp0 ⊢
      have B1 : Below (w.heap.size + 1) w0 w1 := hbel.trans (hb1.mono (by have := hbel.size; omega))
      have hrp : Res w1 (w.heap.size + 1) sp [numCl (k : Int)] := hrp0.mono (by have := hbel.size; omega)
      have hss1 := (hss.out).below hb1
      clear hss hb1 hrp0 hbel
      obtain ⟨pa, pn, pc, hsp⟩ := hrp.shape
      have hfv := field_value 0 pa pn pc
      subst hsp
      obtain ⟨ss, hsl, hown, hres⟩ := hss1
      have hlk := nums_length k
      have hown3 := hide (fun o => (hlk ▸ hown : World.ownsRow w1 (w.heap.size + 1) 24 1 _ (k) ss).alloc o)
      have hbse := hide (ownsRow_base hown)
      have hone := hide (one_val w1 (.slice pa pn pc) 24)
      have honep := hide (one_plain' pa pn pc)
      have hsn := hide (fun w' o v' hg ho => SS.snoc (w3 := w') (o := o) (v' := v') hlk hsl hown hres hrp hg ho)
      have hb63 : (k) + 1 ≤ maxLen := by unfold maxLen; omega
      have hby : ((k) + 1) * 24 ≤ 140737488355328 := by omega
      have hbase : w.heap.size + 1 ≤ w1.heap.size + 1 := by have := B1.size; omega
      clear hown hres hrp hsl hlk
      go_wp2_with (at_builtin; refine wpList_append_own _ rfl (.tmp 12) (.tmp 16) 58 rfl (w.heap.size + 1) 24 i0 (.slice none 0 0) 1 24 Tryz.underlying58 hi hz0 hz1 hz2 rfl (by decide) _ (k) ss rfl ((unhide hown3) _) ⟨w1.heap.size, 0, none⟩ 1 1 [.slice pa pn pc] rfl rfl (unhide hone) (unhide honep) hb63 hby (by simpa using hbase) ?_)
      intro v' w2 ho' hg' _
      have hss' := hide ((unhide hsn) _ _ _ hg' ho')
      have B2 : Below (w.heap.size + 1) w0 w2 := (B1.alloc (by have := B1.size; omega) _).grown hg' (by simpa using hbase) (unhide hbse)
      rw [nums_succ] at hss'
      clear hg' ho' B1 hfv
      go_wp2_with fail
      go_roundg (m - (k + 1))
      case rel => exact ⟨k + 1, rfl, by go_num, by omega, unhide hss', B2⟩
      case measure => have := hg.out; omega
    · have hlt' := (unhide HMN') k hlt
      have hke : k = m := by omega
      subst hke
      obtain ⟨la, lc, hsh, hlc, hlv⟩ := (hss.out).lv (valid_ne (unhide HALL).1)
      subst hsh
      have BR : Below w.heap.size w wr := B00.trans (hbel.mono (by omega))
      have hRr := (unhide HR0).below hbel (by omega)
      have hwr : w.heap.size < wr.heap.size := hRr.lt
      have hnl := nums_length k
      have HNL := hide hnl
      clear hss hnl
      go_wp2_with fail
      refine (layArrayV_any la lc (nums k) _ hlv hlc (by rw [unhide HNL]; omega) (unhide HALL).1).mono ?_
      rintro e2 w2 ⟨s2, rfl, hr2, hb2⟩
      have hR2 := hRr.below hb2 hRr.lt
      have B2 : Below w.heap.size w w2 := BR.trans (hb2.mono BR.size)
      have hsz2 := hb2.size
      have HT := hide (implTold_any s2 _ _ w2 hr2 hb2.size (arrV_ne (nums k)) (arrV_le (by rw [unhide HNL]; omega) (unhide HALL).1) (arrK_ok (nums k) (by rw [unhide HNL]; omega) (unhide HALL).2.1 _ (Nat.le_refl _)))
      rw [told_ok (unhide HALL).2.2] at HT
      obtain ⟨at2, mt2, ct2, rfl⟩ := hr2.shape
      clear hr2 hb2 hlv
      go_wp2_with fail
      refine (unhide HT).mono ?_
      rintro e3 w3 ⟨s3, rfl, hr3, hb3⟩
      have hR3 := hR2.below hb3 hR2.lt
      have r0 := hR3.cell 0
      have r1 := hR3.cell 1
      have z0 := hR3.frozen 0
      have z1 := hR3.frozen 1
      simp only [List.getElem?_cons_zero, List.getElem?_cons_succ] at r0 r1
      have HE := hide (Ans.storeC hr3 hwr (B2.trans (hb3.mono B2.size)))
      obtain ⟨ac, mc, cc, rfl⟩ := hr3.shape
      clear hr3 hb3 HT
      go_wp2_with fail
      refine bodyPost_ret (v := .agg #[.int .i64 0, .slice ac mc cc]) (by simp [results, Tryz.results43, go_sem, r0, r1]) rfl (ans_of (unhide fin) ((unhide HE) _ _).1 ((unhide HE) _ _).2)

end Go.Proofs.YtcolohilnmikiaaGreat

namespace Go.Proofs.YtcolohilnmikiaaGreat
open Go.RowKit
set_option linter.unusedVariables false

theorem arity_lt {v : List M.Cl} (hv : M.valueFault v = 0) : M.arity v 0 + 1 ≤ v.length := by
  have hl := (M.fault_zero hv).1
  obtain ⟨h1, h2, h3, _⟩ := M.places_in hv 0 (by omega)
  have h : ∀ j, j ≤ M.arity v 0 → j + 1 ≤ M.iter v j 1 := by
    intro j
    induction j with
    | zero => intro _; exact Nat.le_refl 1
    | succ j ih =>
      intro hj
      have h4 := ih (by omega)
      have h5 := h1 j (by omega)
      simp only [Nat.zero_add] at h5
      rw [M.iter_next]
      have h6 := (end_gt hv (a := M.iter v j 1) (by omega)).1
      omega
  have := h _ (Nat.le_refl _)
  simp only [Nat.zero_add] at h2
  omega
/-- Texts as values. -/
def strs (ks : List ByteArray) : List (List M.Cl) := ks.map fun s => [strCl s]
theorem strs_length (ks : List ByteArray) : (strs ks).length = ks.length := by simp [strs]
theorem strs_getD {ks : List ByteArray} {j : Nat} (hj : j < ks.length) : (strs ks).getD j [] = [strCl (ks.getD j ByteArray.empty)] := by simp [strs, List.getD_eq_getElem?_getD, hj]
theorem strs_succ (ks : List ByteArray) (k : Nat) (hk : k < ks.length) : strs (ks.take k) ++ [[strCl (ks.getD k ByteArray.empty)]] = strs (ks.take (k + 1)) := by
  rw [List.take_succ_eq_append_getElem hk]
  unfold strs
  rw [List.map_append, List.getD_eq_getElem?_getD, List.getElem?_eq_getElem hk]
  rfl
def TextsOk (ks : List ByteArray) : Prop := ∀ j, j < ks.length → M.textOk (ks.getD j ByteArray.empty) = true
theorem strs_all {ks : List ByteArray} (hk : ks.length ≤ 199) (ht : TextsOk ks) : (∀ j, j < (strs ks).length → M.valueFault ((strs ks).getD j []) = 0) ∧ OkS (strs ks) ∧ M.valueFault (arrV (strs ks)) = 0 := by
  have h1 : ∀ j, j < ks.length → M.cellCode (strCl (ks.getD j ByteArray.empty)) = 0 := fun j hj => code_str (ht j hj)
  have hv : ∀ j, j < (strs ks).length → M.valueFault ((strs ks).getD j []) = 0 := fun j hj => by
    rw [strs_length] at hj; rw [strs_getD hj]; exact (one_valid (h1 j hj) empty_toList rfl).1
  refine ⟨hv, fun j hj c hc => ?_, arr_valid hv (fun j hj => ?_) ?_ (by rw [strs_length]; omega)⟩
  · rw [strs_length] at hj; rw [strs_getD hj] at hc
    simp only [List.mem_cons, List.not_mem_nil, or_false] at hc
    subst hc
    have hsz : (ks.getD j ByteArray.empty).size ≤ 60 := by
      have := ht j hj
      unfold M.textOk at this
      rw [Bool.and_eq_true] at this
      exact of_decide_eq_true this.1
    unfold strCl M.Cl.ok
    simp only
    refine ⟨by omega, by omega, by omega, by omega, by decide⟩
  · rw [strs_length] at hj; rw [strs_getD hj]; exact one_laid (h1 j hj) empty_toList rfl
  · rw [tot_ones (fun j hj => by rw [strs_length] at hj; rw [strs_getD hj]; rfl) _ (Nat.le_refl _), strs_length]; omega
theorem keys_text {v : List M.Cl} (hv : M.valueFault v = 0) : TextsOk (keysAt v 0) := by
  intro j hj
  have hl := (M.fault_zero hv).1
  rw [keysAt_length] at hj
  rw [show (keysAt v 0).getD j ByteArray.empty = (v.getD (M.iter v j 1) M.zero).key from by simp [keysAt, M.places, List.getD_eq_getElem?_getD, hj]]
  obtain ⟨h1, h2, h3, _⟩ := M.places_in hv 0 (by omega)
  have h5 := h1 j hj
  simp only [Nat.zero_add] at h5
  have h := code_at hv (M.iter v j 1) (by omega)
  unfold M.cellCode at h
  split at h
  · cases h
  split at h
  · cases h
  split at h
  · cases h
  split at h
  · rename_i h4; exact h4.2
  · cases h
def keysL (v : List M.Cl) : Int × List M.Cl := if (v.getD 0 M.zero).kind = 5 then (0, arrV (nums (M.arity v 0))) else if (v.getD 0 M.zero).kind = 6 then (0, arrV (strs (keysAt v 0))) else (6, [])
def keysOut (v : List M.Cl) : Int × List M.Cl := if M.valueFault v ≠ 0 then (M.valueFault v, []) else keysL v
theorem keys_bad {v : List M.Cl} (h : M.valueFault v ≠ 0) : keysOut v = (M.valueFault v, []) := if_pos h
theorem keys_ok {v : List M.Cl} (h : M.valueFault v = 0) : keysOut v = keysL v := by unfold keysOut; rw [if_neg (by simp [h])]
theorem keys_5 {v : List M.Cl} (h : (v.getD 0 M.zero).kind = 5) : keysL v = (0, arrV (nums (M.arity v 0))) := if_pos h
theorem keys_6 {v : List M.Cl} (h : (v.getD 0 M.zero).kind = 6) : keysL v = (0, arrV (strs (keysAt v 0))) := by unfold keysL; rw [if_neg (by omega), if_pos h]
theorem keys_no {v : List M.Cl} (h5 : (v.getD 0 M.zero).kind ≠ 5) (h6 : (v.getD 0 M.zero).kind ≠ 6) : keysL v = (6, []) := by unfold keysL; rw [if_neg h5, if_neg h6]
/-- A row of texts stays, where a row of another kind grows. -/
theorem KS.grown {w w' : World} {B base : Nat} {v s : Value} {ks : List ByteArray} {n size : Nat} {e : TypeId} {xs : List Value} (h : KS w B v ks) (ho : w.ownsRow base e size s n xs) (hne : e ≠ 9) (hg : w.grownBy w' s.ownBlock) : KS w' B v ks := by
  obtain ⟨h1, h2 | ⟨g, cap, cur, h3, h4, h5, h6⟩⟩ := h
  · exact ⟨h1, .inl h2⟩
  · obtain ⟨c, hc, ec⟩ := grown_own hg (b := g) (t := 9) (ys := cur.toList) ⟨cur, h5, rfl⟩ (other_block ho (b := g) (t := 9) (ys := cur.toList) ⟨cur, h5, rfl⟩ hne)
    have : c = cur := Array.toList_inj.1 ec
    subst this
    exact ⟨h1, .inr ⟨g, cap, c, h3, h4, hc, h6⟩⟩
theorem KS.alloc {w : World} {B : Nat} {v : Value} {ks : List ByteArray} (h : KS w B v ks) (o : Obj) : KS (w.alloc o) B v ks := h.below ((Below.refl _ _).alloc (Nat.le_refl _) o)
theorem SS.ownsRow {w : World} {B : Nat} {v : Value} {ps : List (List M.Cl)} (h : SS w B v ps) : ∃ xs, w.ownsRow B 24 1 v ps.length xs := by obtain ⟨ss, _, h2, _⟩ := h; exact ⟨ss, h2⟩
theorem SS.alloc {w : World} {B : Nat} {v : Value} {ps : List (List M.Cl)} (h : SS w B v ps) (o : Obj) : SS (w.alloc o) B v ps := h.below ((Below.refl _ _).alloc (Nat.le_refl _) o)

end Go.Proofs.YtcolohilnmikiaaGreat
