/-
  Kinds as 17 numbers: an array's place, two arrays compared, stores of whole arrays; impl's kinds.with.
  impl.joined at kinds.
  impl.joined at kinds and no parts; impl.hasOwnCode, impl.mayFail.
  impl.mayFail: whether a node may fail.
-/
import Derived.Test.YtkjmnkbiflkpdaaKnG
import Derived.Laws.StructEq
namespace Go.Proofs.Ytkjmnkbiflkpdaa
open Go.RowKit
set_option linter.unusedVariables false
set_option linter.unusedSimpArgs false

namespace Kn
/-- Kinds, cell by cell. -/
def kis (f : Nat → Int) : List Value := (List.range 17).map fun j => .int .i64 (f j)
theorem kis_len (f : Nat → Int) : (kis f).length = 17 := by simp [kis]
theorem kis_get (f : Nat → Int) {j : Nat} (h : j < 17) : (kis f)[j]? = some (.int .i64 (f j)) := by
  unfold kis
  rw [List.getElem?_map, List.getElem?_range h]
  rfl
theorem kis_ext {f g : Nat → Int} (h : ∀ j, j < 17 → f j = g j) : kis f = kis g := by
  unfold kis
  refine List.map_congr_left fun j hj => ?_
  rw [h j (by simpa using hj)]
theorem kis_set (f : Nat → Int) (i : Nat) (x : Int) : (kis f).set i (.int .i64 x) = kis fun j => if j = i then x else f j := by
  refine List.ext_getElem? fun j => ?_
  by_cases hj : j < 17
  · rw [List.getElem?_set, kis_get _ hj, kis_len]
    by_cases h : i = j
    · subst h; rw [if_pos rfl, if_pos hj, kis_get _ hj, if_pos rfl]
    · rw [if_neg h, kis_get _ hj, if_neg (fun e => h e.symm)]
  · rw [List.getElem?_eq_none (by rw [List.length_set, kis_len]; omega), List.getElem?_eq_none (by rw [kis_len]; omega)]
theorem cells_eq (k : Kn) : cells k = .int .i64 k.lo :: .int .i64 k.hi :: .bool k.fa :: kis k.ki := rfl
theorem kiInfo : (Try.prog.info? 53).map (·.size) = some 17 := by kernel_rfl
theorem kis_one (f : Nat → Int) : (kis f).toArray.all (·.oneCell') = true := all_oneCell_toArray (fun v hv => by
  unfold kis at hv
  obtain ⟨j, _, rfl⟩ := List.mem_map.1 hv
  rfl)
theorem cells_one (k : Kn) : (cells k).toArray.all (·.oneCell') = true := by simp [cells, Value.oneCell']
/-- An element of an array that is a value. -/
theorem run_index (f : Nat → Int) (w : World) {i : Nat} (h : i < 17) : (Instr.index 53 (.agg (kis f).toArray) (.int .i64 (i : Int))).run Try.prog w = .ok (.int .i64 (f i)) w := by
  have hg : (kis f)[i]? = some (.int .i64 (f i)) := kis_get f h
  have h0 : (0 : Int) ≤ (i : Int) := by omega
  simp [Instr.index, run_underlying Try.underlying53, asIntOf, go_sem, h0]
  rw [if_pos h, hg]
  rfl
theorem run_part (f : Nat → Int) (w : World) {i : Nat} (h : i < 17) : (part 2 (kis f).toArray i).run Try.prog w = .ok (.int .i64 (f i)) w := by
  have hg : (kis f)[i]? = some (.int .i64 (f i)) := kis_get f h
  simp [part, go_sem]
  rw [hg]
  rfl
theorem run_eq (f g : Nat → Int) (w : World) (d : Nat) : (Op.equalIn (d + 1 + 1) 53 (.agg (kis f).toArray) (.agg (kis g).toArray)).run Try.prog w = .ok ((List.range 17).all fun j => f j == g j) w := by
  have hs : (sizeOf 2).run Try.prog w = .ok 1 w := by simp [go_sem]
  have hi : ∀ a b : Int, (Op.equalIn (d + 1) 2 (.int .i64 a) (.int .i64 b)).run Try.prog w = .ok (a == b) w := fun a b => run_equalIn_int w d _ _ .i64 a b Try.underlying2
  rw [Op.equalIn]
  simp only [Sem.run_bind, run_underlying Try.underlying53, Result.andThen_ok, hs]
  rw [Std.Legacy.Range.forIn_eq_forIn_range']
  simp only [Std.Legacy.Range.size, Nat.sub_zero, Nat.add_sub_cancel, Nat.div_one, Nat.mul_one]
  rw [← List.range_eq_range']
  have key : ∀ is : List Nat, (∀ i ∈ is, i < 17) → (Sem.run Try.prog (forIn is ((none : Option Bool), ()) fun i __s => do
      let a ← part 2 (kis f).toArray i
      let b ← part 2 (kis g).toArray i
      let r ← Op.equalIn (d + 1) 2 a b
      if (!r) = true then pure (ForInStep.done (some false, ())) else pure (ForInStep.yield (none, ()))) w) = .ok (if is.all (fun j => f j == g j) = true then ((none : Option Bool), ()) else (some false, ())) w := by
    intro is
    induction is with
    | nil => intro _; simp
    | cons i r ih =>
      intro h
      have hi17 := h i (List.mem_cons_self ..)
      simp only [List.forIn_cons, Sem.run_bind, run_part _ w hi17, Result.andThen_ok, hi]
      by_cases e : f i = g i
      · have e1 : (f i == g i) = true := by simpa using e
        simp only [e1, Bool.not_true, Bool.false_eq_true, if_false, Sem.run_pure, Result.andThen_ok, List.all_cons, Bool.true_and]
        exact ih (fun x hx => h x (List.mem_cons_of_mem _ hx))
      · have e1 : (f i == g i) = false := by simpa using e
        simp only [e1, Bool.not_false, if_true, Sem.run_pure, Result.andThen_ok, List.all_cons, Bool.false_and, Bool.false_eq_true, if_false]
  rw [key _ (fun i hi => by simpa using hi)]
  by_cases e : (List.range 17).all (fun j => f j == g j) = true
  · rw [if_pos e, e]; rfl
  · rw [if_neg e, Bool.not_eq_true _ |>.mp e]; rfl
theorem own_setCells {w : World} {b : Nat} {t : TypeId} : ∀ (ys xs : List Value) (o : Nat), Own w b t xs → o + ys.length ≤ xs.length → Own (w.setCells b o ys) b t (xs.take o ++ ys ++ xs.drop (o + ys.length)) := by
  intro ys
  induction ys generalizing w with
  | nil => intro xs o h _; rw [World.setCells]; simpa using h
  | cons y r ih =>
    intro xs o h hl
    rw [World.setCells]
    have h1 := ih (w := w.setCell ⟨b, o, none⟩ y) (xs.set o y) (o + 1) (h.set o y) (by simp only [List.length_set, List.length_cons] at hl ⊢; omega)
    have e : (xs.set o y).take (o + 1) ++ r ++ (xs.set o y).drop (o + 1 + r.length) = xs.take o ++ (y :: r) ++ xs.drop (o + (y :: r).length) := by
      have ho : o < xs.length := by simp only [List.length_cons] at hl; omega
      rw [List.take_add_one, List.getElem?_set, if_pos rfl, if_pos ho, List.take_set_of_le (Nat.le_refl _), List.drop_set, if_pos (by omega)]
      simp [Nat.add_comm, Nat.add_left_comm]
    rw [e] at h1
    exact h1
theorem own_all {w : World} {b : Nat} {t : TypeId} {xs ys : List Value} (h : Own w b t xs) (hl : ys.length = xs.length) : Own (w.setCells b 0 ys) b t ys := by
  have := own_setCells ys xs 0 h (by omega)
  rw [Nat.zero_add, hl, List.drop_length] at this
  simpa using this
theorem far_all {b c : Nat} {t : TypeId} {xs : List Value} (hne : b ≠ c) : ∀ (ys : List Value) (o : Nat) (w : World), Own w b t xs → Own (w.setCells c o ys) b t xs := by
  intro ys
  induction ys with
  | nil => intro o w h; exact h
  | cons y r ih => intro o w h; rw [World.setCells]; exact ih _ _ (h.setOther ⟨c, o, none⟩ y hne)
theorem below_all {B c : Nat} {w0 : World} (hB : B ≤ c) : ∀ (ys : List Value) (o : Nat) (w : World), Below B w0 w → Below B w0 (w.setCells c o ys) := by
  intro ys
  induction ys with
  | nil => intro o w h; exact h
  | cons y r ih => intro o w h; rw [World.setCells]; exact ih _ _ (h.setCell hB y)
theorem own_range {w : World} {b : Nat} {t : TypeId} {xs : List Value} (h : Own w b t xs) : w.rangeAt b 0 xs := fun j v hv => by rw [Nat.zero_add, h.cell j]; exact hv
theorem own_there {w : World} {b : Nat} {t : TypeId} {xs : List Value} (h : Own w b t xs) {n : Nat} (hn : n = xs.length) : w.there b 0 n := fun j hj => by
  rw [Nat.zero_add]
  refine ⟨?_, h.frozen j⟩
  rw [h.cell j, List.getElem?_eq_getElem (by omega)]
  rfl
end Kn

namespace Kn
theorem results_cell {fn : Func} {p : Tmp} {ty : TypeId} (h : fn.results = #[.cell p ty]) (tmps : Array Value) (P : Program) (w : World) (a : Addr) (v : Value) (hp : tmps.getD p undef = .pointer (some a)) (hl : (loadVar ty a).run P w = .ok v w) : (results fn tmps).run P w = .ok v w := by
  simp only [results, h]
  have hp' : tmps[p]?.getD undef = .pointer (some a) := by rw [← hp]; simp
  simp [Sem.run_bind, asAddr, hp', hl]
/-- Counts that are no more than cores have. -/
def KF (f : Nat → Int) (m : Int) : Prop := ∀ j, j < 17 → 0 ≤ f j ∧ f j ≤ m
/-- Where the first i counts are added. -/
def mix (f g : Nat → Int) (i : Nat) : Nat → Int := fun j => if j < i then f j + g j else f j
theorem mix_zero (f g : Nat → Int) : mix f g 0 = f := by funext j; unfold mix; rw [if_neg (by omega)]
theorem mix_end (f g : Nat → Int) : kis (mix f g 17) = kis fun j => f j + g j := kis_ext fun j hj => by unfold mix; rw [if_pos hj]
theorem mix_next (f g : Nat → Int) (i : Nat) : (kis (mix f g i)).set i (.int .i64 (f i + g i)) = kis (mix f g (i + 1)) := by
  rw [kis_set]
  refine kis_ext fun j hj => ?_
  unfold mix
  by_cases h : j = i
  · subst h; rw [if_pos rfl, if_pos (by omega)]
  · rw [if_neg h]
    by_cases h2 : j < i
    · rw [if_pos h2, if_pos (by omega)]
    · rw [if_neg h2, if_neg (by omega)]
def z17 : Array Value := (List.replicate 17 (Value.int .i64 0)).toArray
theorem z17_eq : z17 = (kis fun _ => 0).toArray := rfl
end Kn
set_option maxRecDepth 100000 in
set_option maxHeartbeats 4000000 in
theorem with_any (f : Nat → Int) (k : Kn) (w : World) (hf : Kn.KF f 100000) (hk : Kn.KF k.ki 100000) :
    Calls Try.prog 67 #[.agg (Kn.kis f).toArray, .agg (Kn.cells k).toArray] w fun e w' => e = .returned (.agg (Kn.kis fun j => f j + k.ki j).toArray) ∧ Below w.heap.size w w' := by
  have HFIN := hide (show Kn.kis (Kn.mix f k.ki 17) = Kn.kis fun j => f j + k.ki j from Kn.mix_end f k.ki)
  have HSZ := hide (show (Kn.kis fun j => f j + k.ki j).length = 17 from Kn.kis_len _)
  have HONE := hide (Kn.kis_one fun j => f j + k.ki j)
  generalize (Kn.kis fun j => f j + k.ki j) = A at *
  obtain ⟨W, hW⟩ : ∃ W, W = ((w.alloc (.cells (Kn.kis f).toArray 53)).alloc (.cells (Kn.cells k).toArray 55)).alloc (.cells Kn.z17 53) := ⟨_, rfl⟩
  have BN : Below w.heap.size w W := by rw [hW]; exact Kn.bel3 _ _ _ _
  have O0 : Own W w.heap.size 53 (Kn.kis f) := by
    rw [hW]
    exact Own.below (w := w.alloc _) ⟨_, heap_alloc_new _ _, rfl⟩ (((Below.refl _ _).alloc (Nat.le_refl _) _).alloc (by simp) _) (by simp)
  have O1 : Own W (w.heap.size + 1) 55 (Kn.cells k) := by
    rw [hW]
    have h : Own ((w.alloc (.cells (Kn.kis f).toArray 53)).alloc (.cells (Kn.cells k).toArray 55)) (w.alloc (.cells (Kn.kis f).toArray 53)).heap.size 55 (Kn.cells k) := ⟨_, heap_alloc_new _ _, rfl⟩
    have h2 := h.below ((Below.refl _ _).alloc (Nat.le_refl _) (.cells Kn.z17 53)) h.lt
    simpa using h2
  have O2 : Own W (w.heap.size + 1 + 1) 53 (Kn.kis fun _ => 0) := by
    rw [hW]
    have h : Own (((w.alloc (.cells (Kn.kis f).toArray 53)).alloc (.cells (Kn.cells k).toArray 55)).alloc (.cells Kn.z17 53)) ((w.alloc (.cells (Kn.kis f).toArray 53)).alloc (.cells (Kn.cells k).toArray 55)).heap.size 53 (Kn.kis fun _ => 0) := ⟨_, heap_alloc_new _ _, by rw [Kn.z17_eq]⟩
    simpa using h
  have hrg : W.rangeAt (w.heap.size + 1) 3 (Kn.kis k.ki) := fun j v hv => by
    rw [O1.cell, Kn.cells_eq, show 3 + j = j + 1 + 1 + 1 by omega]
    exact hv
  have HIX := hide (fun (V : World) (i : Nat) (h : i < 17) => Kn.run_index k.ki V h)
  have HF := hide hf
  have HK := hide hk
  clear hf hk O1
  go_enter Try.func67, Try.ntmps67
  go_upto_region 0 with fail
  refine wp_region_lit ?_
  refine Kn.step_val (v := .pointer (some ⟨w.heap.size, 0, none⟩)) (w' := w.alloc (.cells (Kn.kis f).toArray 53)) rfl (by kernel_rfl) ?_
  simp only [Act.put, List.setIfInBounds_toArray, List.set_cons_zero, List.set_cons_succ]
  refine Kn.step_val (v := .pointer (some ⟨w.heap.size + 1, 0, none⟩)) (w' := (w.alloc (.cells (Kn.kis f).toArray 53)).alloc (.cells (Kn.cells k).toArray 55)) rfl (by rw [← World.size_alloc w (.cells (Kn.kis f).toArray 53)]; kernel_rfl) ?_
  simp only [Act.put, List.setIfInBounds_toArray, List.set_cons_zero, List.set_cons_succ]
  refine Kn.step_val (v := .pointer (some ⟨w.heap.size + 1 + 1, 0, none⟩)) (w' := W) rfl (by rw [hW, ← World.size_alloc w (.cells (Kn.kis f).toArray 53), ← World.size_alloc (w.alloc (.cells (Kn.kis f).toArray 53)) (.cells (Kn.cells k).toArray 55)]; kernel_rfl) ?_
  simp only [Act.put, List.setIfInBounds_toArray, List.set_cons_zero, List.set_cons_succ]
  clear hW
  go_upto_region 1 with fail
  refine wp_region_lit ?_
  refine Kn.step_val (v := .pointer (some ⟨w.heap.size + 1, 3, none⟩)) (w' := W) rfl (by go_simp) ?_
  simp only [Act.put, List.setIfInBounds_toArray, List.set_cons_zero, List.set_cons_succ]
  refine wpList_load_mid rfl 53 (.tmp 7) rfl (w.heap.size + 1) 3 rfl (Kn.kis k.ki) _ hrg Try.underlying53 rfl (by rw [Kn.kis_len]; exact Kn.kiInfo) ?_
  simp only [Act.put, List.setIfInBounds_toArray, List.set_cons_zero, List.set_cons_succ]
  refine Kn.step_val (v := .int .i64 0) (w' := W) rfl (by rfl) ?_
  simp only [Act.put, List.setIfInBounds_toArray, List.set_cons_zero, List.set_cons_succ]
  have O0' : Own W w.heap.size 53 (Kn.kis (Kn.mix f k.ki 0)) := by rw [Kn.mix_zero]; exact O0
  clear hrg O0
  go_wp2_with fail
  go_loopg [9] 17 (fun gh s9 wr => ∃ (i : Nat), Hid (gh = 17 - i) ∧ s9 = .int .i64 i ∧ i ≤ 17 ∧ Hid (Own wr w.heap.size 53 (Kn.kis (Kn.mix f k.ki i))) ∧ Hid (Own wr (w.heap.size + 1 + 1) 53 (Kn.kis fun _ => 0)) ∧ Hid (Below w.heap.size w wr))
  case atStart => exact ⟨0, rfl, rfl, by omega, O0', O2, BN⟩
  case round =>
  clear O0' O2 BN
  obtain ⟨i, hg, rfl, hi, HO, HZ, HB⟩ := hrel
  by_cases hlt : i < 17
  · have hltI : (i : Int) < 17 := by omega
    have hi0I : (0 : Int) ≤ (i : Int) := by omega
    have hix := (unhide HIX) wr i hlt
    have hb1 := (unhide HF) i hlt
    have hb2 := (unhide HK) i hlt
    have hc : wr.cell? ⟨w.heap.size, i, none⟩ = some (.int .i64 (f i)) := by
      rw [(unhide HO).cell i, Kn.kis_get _ hlt]
      unfold Kn.mix
      rw [if_neg (by omega)]
    have hz := (unhide HO).frozen i
    have ON := hide (show Own (wr.setCell ⟨w.heap.size, i, none⟩ (.int .i64 (f i + k.ki i))) w.heap.size 53 (Kn.kis (Kn.mix f k.ki (i + 1))) by
      rw [← Kn.mix_next]
      exact (unhide HO).set i _)
    have ZN := hide ((unhide HZ).setOther ⟨w.heap.size, i, none⟩ (.int .i64 (f i + k.ki i)) (by simp only; omega))
    have BNN := hide ((unhide HB).setCell (p := ⟨w.heap.size, i, none⟩) (Nat.le_refl _) (.int .i64 (f i + k.ki i)))
    have hwr : wrap64 (f i + k.ki i) = f i + k.ki i := Kn.wrap_ok _ (by omega) (by omega)
    clear HO HZ HB HIX HF HK HFIN
    generalize k.ki i = gi at *
    generalize f i = fi at *
    go_wp2_with fail
    go_roundg (17 - (i + 1))
    case rel => exact ⟨i + 1, rfl, by go_num, by omega, unhide ON, unhide ZN, unhide BNN⟩
    case measure => have := hg.out; omega
  · have hltI : ¬ (i : Int) < 17 := by omega
    have hie : i = 17 := by omega
    have OF : Own wr w.heap.size 53 A := by rw [← unhide HFIN, ← hie]; exact unhide HO
    clear hie
    have hrg := Kn.own_range OF
    have hth : wr.there (w.heap.size + 1 + 1) 0 A.toArray.size := Kn.own_there (unhide HZ) (by rw [List.size_toArray, unhide HSZ, Kn.kis_len])
    have OR := hide (Kn.own_all (unhide HZ) (ys := A) (by rw [unhide HSZ, Kn.kis_len]))
    have BR := hide (Kn.below_all (c := w.heap.size + 1 + 1) (by omega) A 0 wr (unhide HB))
    clear HO HZ HB OF HIX HF HK HFIN
    have hsz := unhide HSZ
    have hone := unhide HONE
    go_upto_region 6 with fail
    refine wp_region_lit ?_
    refine wpList_load_mid rfl 53 (.tmp 2) rfl w.heap.size 0 rfl A _ hrg Try.underlying53 rfl (by rw [hsz]; exact Kn.kiInfo) ?_
    simp only [Act.put, List.setIfInBounds_toArray, List.set_cons_zero, List.set_cons_succ]
    refine wpList_store_mid rfl 53 (.tmp 4) (.tmp 20) rfl (w.heap.size + 1 + 1) 0 A.toArray rfl rfl hth (by rw [List.size_toArray, hsz]; exact Kn.kiInfo) hone ?_
    simp only [Act.put, List.setIfInBounds_toArray, List.set_cons_zero, List.set_cons_succ]
    have hrr : (wr.setCells (w.heap.size + 1 + 1) 0 A).rangeAt (w.heap.size + 1 + 1) 0 A := Kn.own_range (unhide OR)
    have BF := unhide BR
    clear OR BR hrg hth hone
    generalize wr.setCells (w.heap.size + 1 + 1) 0 A = WW at *
    have hld := run_loadVar_mid WW (w.heap.size + 1 + 1) 0 53 A _ hrr Try.underlying53 rfl (by rw [hsz]; exact Kn.kiInfo)
    clear hrr hsz
    go_wp2_with fail
    refine bodyPost_ret (v := .agg A.toArray) (Kn.results_cell Try.results67 _ _ _ _ _ rfl hld) rfl ?_
    exact ⟨rfl, BF⟩

end Go.Proofs.Ytkjmnkbiflkpdaa

namespace Go.Proofs.Ytkjmnkbiflkpdaa
open Go.RowKit
set_option linter.unusedVariables false
set_option linter.unusedSimpArgs false

namespace Kn
/-- Counts, with those of the parts added. -/
def fo (f : Nat → Int) (L : List Kn) (j : Nat) : Int := L.foldl (fun s k => s + k.ki j) (f j)
theorem fo_take (f : Nat → Int) (L : List Kn) (i : Nat) (hi : i < L.length) : fo f (L.take (i + 1)) = fun j => fo f (L.take i) j + (g L i).ki j := by
  funext j
  unfold fo
  rw [fold_take _ _ _ _ hi]
theorem KF.mono {f : Nat → Int} {m n : Int} (h : KF f m) (hm : m ≤ n) : KF f n := fun j hj => ⟨(h j hj).1, Int.le_trans (h j hj).2 hm⟩
theorem fo_fit {L : List Kn} (hL : ∀ k ∈ L, KF k.ki 1000) : ∀ {f : Nat → Int} {m : Int}, KF f m → KF (fo f L) (m + 1000 * L.length) := by
  induction L with
  | nil => intro f m h j hj; have := h j hj; unfold fo; simp only [List.foldl_nil, List.length_nil]; omega
  | cons k r ih =>
    intro f m h
    have h1 : KF (fun j => f j + k.ki j) (m + 1000) := fun j hj => by have := h j hj; have := hL k (List.mem_cons_self ..) j hj; simp only; omega
    have h2 := ih (fun x hx => hL x (List.mem_cons_of_mem _ hx)) h1
    intro j hj
    have := h2 j hj
    unfold fo at this ⊢
    rw [List.foldl_cons, List.length_cons]
    simp only at this
    omega
end Kn
set_option maxRecDepth 100000 in
set_option maxHeartbeats 4000000 in
theorem joined_kinds (f : Nat → Int) (q o cap : Nat) (L : List Kn) (w : World) (hr : Kn.Kr w q o L) (hL : ∀ k ∈ L, Kn.KF k.ki 1000) (hf : Kn.KF f 1) (hn : L.length ≤ 3) :
    Calls Try.prog 66 #[.agg (Kn.kis f).toArray, .slice (some ⟨q, o, none⟩) L.length cap, .func (.func 67) #[] #[]] w fun e w' => e = .returned (.agg (Kn.kis (Kn.fo f L)).toArray) ∧ Below w.heap.size w w' := by
  obtain ⟨w0, hw0⟩ : ∃ w0, w0 = (w.alloc (.cells (Kn.kis f).toArray 53)).alloc (.cells Kn.z17 53) := ⟨_, rfl⟩
  have B0 : Below w.heap.size w w0 := by rw [hw0]; exact Kn.bel2 _ _ _
  have OA : Own w0 w.heap.size 53 (Kn.kis f) := by
    rw [hw0]
    exact Own.below (w := w.alloc _) ⟨_, heap_alloc_new _ _, rfl⟩ ((Below.refl _ _).alloc (Nat.le_refl _) _) (by simp)
  have OR : Own w0 (w.heap.size + 1) 53 (Kn.kis fun _ => 0) := by
    rw [hw0]
    have h : Own ((w.alloc (.cells (Kn.kis f).toArray 53)).alloc (.cells Kn.z17 53)) (w.alloc (.cells (Kn.kis f).toArray 53)).heap.size 53 (Kn.kis fun _ => 0) := ⟨_, heap_alloc_new _ _, by rw [Kn.z17_eq]⟩
    simpa using h
  have HR := hide hr
  have HL := hide hL
  have HF := hide (fun i (hi : i ≤ L.length) => (Kn.fo_fit (fun k hk => hL k (List.mem_of_mem_take hk)) hf : Kn.KF (Kn.fo f (L.take i)) (1 + 1000 * ((L.take i).length : Nat))).mono (show (1 : Int) + 1000 * ((L.take i).length : Nat) ≤ 100000 by rw [List.length_take]; omega))
  have HFIN := hide (show Kn.fo f L = Kn.fo f (L.take L.length) by rw [List.take_length])
  have HST := hide (show Kn.fo f (L.take 0) = f by rw [List.take_zero]; rfl)
  clear hr hL hf
  go_enter Try.func66, Try.ntmps66
  go_upto_region 0 with fail
  refine wp_region_lit ?_
  refine Kn.step_val (v := .pointer (some ⟨w.heap.size, 0, none⟩)) (w' := w.alloc (.cells (Kn.kis f).toArray 53)) rfl (by kernel_rfl) ?_
  simp only [Act.put, List.setIfInBounds_toArray, List.set_cons_zero, List.set_cons_succ]
  refine Kn.step_val (v := .pointer (some ⟨w.heap.size + 1, 0, none⟩)) (w' := w0) rfl (by rw [hw0, ← World.size_alloc w (.cells (Kn.kis f).toArray 53)]; kernel_rfl) ?_
  simp only [Act.put, List.setIfInBounds_toArray, List.set_cons_zero, List.set_cons_succ]
  clear hw0
  go_wp2_with fail
  go_loopg [11] L.length (fun gh s11 wr => ∃ (i : Nat) (p : Nat → Int), Hid (gh = L.length - i) ∧ s11 = .int .i64 i ∧ i ≤ L.length ∧ Hid (p = Kn.fo f (L.take i)) ∧ Hid (Own wr w.heap.size 53 (Kn.kis p)) ∧ Hid (Own wr (w.heap.size + 1) 53 (Kn.kis fun _ => 0)) ∧ Hid (Below w.heap.size w wr))
  case atStart => exact ⟨0, f, rfl, rfl, by omega, (unhide HST).symm, OA, OR, B0⟩
  case round =>
  clear OA OR B0
  obtain ⟨i, p, hg, rfl, hi, hp, HOA, HOR, HB⟩ := hrel
  have hwr : w.heap.size + 1 < wr.heap.size := (unhide HOR).lt
  by_cases hlt : i < L.length
  · have hltI : (i : Int) < (L.length : Int) := by omega
    have hi0I : (0 : Int) ≤ (i : Int) := by omega
    have hc := ((unhide HR).below (unhide HB) (unhide HR).1).2 i hlt
    have hfit := (unhide HF) i (by omega)
    rw [← hp.out] at hfit
    have hkf := (unhide HL) _ (show Kn.g L i ∈ L by unfold Kn.g; rw [List.getD_eq_getElem?_getD, List.getElem?_eq_getElem hlt]; exact List.getElem_mem hlt)
    have HNX := hide (show Kn.fo f (L.take (i + 1)) = fun j => p j + (Kn.g L i).ki j by rw [Kn.fo_take _ _ _ hlt, ← hp.out])
    generalize Kn.g L i = k at *
    have hrg : wr.rangeAt q (o + i * 20) (Kn.cells k) := fun j v hv => by
      have hj : j < 20 := by have := (List.getElem?_eq_some_iff.1 hv).1; simpa [Kn.cells] using this
      rw [hc j hj]; exact hv
    have HC := hide (fun (W : World) => with_any p k W hfit (hkf.mono (by omega)))
    obtain ⟨r, hrr⟩ : ∃ r, r = fun j => p j + k.ki j := ⟨_, rfl⟩
    rw [← hrr] at HC HNX
    obtain ⟨w3, hw3⟩ : ∃ w3, w3 = wr.alloc (.cells (Kn.arr k) 55) := ⟨_, rfl⟩
    have B3 : Below wr.heap.size wr w3 := by rw [hw3]; exact (Below.refl _ _).alloc (Nat.le_refl _) _
    have O3 : Own w3 wr.heap.size 55 (Kn.cells k) := by rw [hw3]; exact ⟨_, heap_alloc_new _ _, rfl⟩
    have OA3 := (unhide HOA).below B3 (unhide HOA).lt
    have OR3 := (unhide HOR).below B3 (unhide HOR).lt
    have BB3 := (unhide HB).trans (B3.mono (unhide HB).size)
    have HC3 := hide ((unhide HC) w3)
    clear hc hfit hkf HC hrr B3 HOA HOR HB
    go_upto_region 3 with fail
    refine wp_region_lit ?_
    refine Kn.step_val (v := .pointer (some ⟨q, o + i * 20, none⟩)) (w' := wr) rfl (by go_simp) ?_
    simp only [Act.put, List.setIfInBounds_toArray, List.set_cons_zero, List.set_cons_succ]
    refine wpList_load_mid rfl 55 (.tmp 13) rfl q (o + i * 20) rfl (Kn.cells k) _ hrg Try.underlying55 rfl Kn.knInfo ?_
    simp only [Act.put, List.setIfInBounds_toArray, List.set_cons_zero, List.set_cons_succ]
    refine Kn.step_val (v := .pointer (some ⟨wr.heap.size, 0, none⟩)) (w' := wr.alloc (.cells Kn.zArr 55)) rfl (by kernel_rfl) ?_
    simp only [Act.put, List.setIfInBounds_toArray, List.set_cons_zero, List.set_cons_succ]
    refine Kn.step_skip (w' := wr.alloc (.cells (Kn.arr k) 55)) rfl (Kn.kn_store wr k _ _ (.tmp 8) (.tmp 14) rfl rfl rfl) ?_
    simp only [Act.put, List.setIfInBounds_toArray, List.set_cons_zero, List.set_cons_succ]
    rw [← hw3]
    clear hw3 hrg
    have hra := Kn.own_range OA3
    have hrk := Kn.own_range O3
    go_upto_region 4 with fail
    refine wp_region_lit ?_
    refine Kn.step_val (v := .func (.func 67) #[] #[]) (w' := w3) rfl (by rfl) ?_
    simp only [Act.put, List.setIfInBounds_toArray, List.set_cons_zero, List.set_cons_succ]
    refine wpList_load_mid rfl 53 (.tmp 3) rfl w.heap.size 0 rfl (Kn.kis p) _ hra Try.underlying53 rfl (by rw [Kn.kis_len]; exact Kn.kiInfo) ?_
    simp only [Act.put, List.setIfInBounds_toArray, List.set_cons_zero, List.set_cons_succ]
    refine wpList_load_mid rfl 55 (.tmp 8) rfl wr.heap.size 0 rfl (Kn.cells k) _ hrk Try.underlying55 rfl Kn.knInfo ?_
    simp only [Act.put, List.setIfInBounds_toArray, List.set_cons_zero, List.set_cons_succ]
    generalize (Kn.cells k).toArray = KA at *
    generalize (Kn.kis p).toArray = PA at *
    clear O3 hrk hra
    refine wpList_plain rfl fun K hK => ?_
    go_simp
    refine (unhide HC3).mono ?_
    rintro e w4 ⟨rfl, hb4⟩
    have OA4 := OA3.below hb4 OA3.lt
    have OR4 := OR3.below hb4 OR3.lt
    have BB4 := BB3.trans (hb4.mono BB3.size)
    clear HC3 OA3 OR3 BB3 hb4
    go_simp
    refine hK _ _ ?_
    clear hK K
    have hth : w4.there w.heap.size 0 (Kn.kis r).toArray.size := Kn.own_there OA4 (by rw [List.size_toArray, Kn.kis_len, Kn.kis_len])
    have HOA5 := hide (Kn.own_all OA4 (ys := Kn.kis r) (by rw [Kn.kis_len, Kn.kis_len]))
    have HOR5 := hide (Kn.far_all (c := w.heap.size) (Nat.succ_ne_self _) (Kn.kis r) 0 w4 OR4)
    have HB5 := hide (Kn.below_all (c := w.heap.size) (Nat.le_refl _) (Kn.kis r) 0 w4 BB4)
    clear OA4 OR4 BB4
    refine wpList_store_mid rfl 53 (.tmp 3) (.tmp 18) rfl w.heap.size 0 (Kn.kis r).toArray rfl rfl hth (by rw [List.size_toArray, Kn.kis_len]; exact Kn.kiInfo) (Kn.kis_one r) ?_
    simp only [Act.put, List.setIfInBounds_toArray, List.set_cons_zero, List.set_cons_succ]
    clear hth
    generalize (w4.setCells w.heap.size 0 (Kn.kis r)) = w5 at *
    go_wp2_with fail
    go_roundg (L.length - (i + 1))
    case rel => exact ⟨i + 1, r, rfl, by go_num, by omega, (unhide HNX).symm, unhide HOA5, unhide HOR5, unhide HB5⟩
    case measure => have := hg.out; omega
  · have hltI : ¬ (i : Int) < (L.length : Int) := by omega
    have hie : i = L.length := by omega
    have FIN := hide (show Kn.kis (Kn.fo f L) = Kn.kis p by rw [unhide HFIN, ← hie, ← hp.out])
    have hrg := Kn.own_range (unhide HOA)
    have hth : wr.there (w.heap.size + 1) 0 (Kn.kis p).toArray.size := Kn.own_there (unhide HOR) (by rw [List.size_toArray, Kn.kis_len, Kn.kis_len])
    have O2 := hide (Kn.own_all (unhide HOR) (ys := Kn.kis p) (by rw [Kn.kis_len, Kn.kis_len]))
    have BR := hide (Kn.below_all (c := w.heap.size + 1) (by omega) (Kn.kis p) 0 wr (unhide HB))
    have hsz : (Kn.kis p).length = 17 := Kn.kis_len _
    have hone := Kn.kis_one p
    clear HOR HOA HB hie HFIN hp
    generalize Kn.kis p = A at *
    go_upto_region 6 with fail
    refine wp_region_lit ?_
    refine wpList_load_mid rfl 53 (.tmp 3) rfl w.heap.size 0 rfl A _ hrg Try.underlying53 rfl (by rw [hsz]; exact Kn.kiInfo) ?_
    simp only [Act.put, List.setIfInBounds_toArray, List.set_cons_zero, List.set_cons_succ]
    refine wpList_store_mid rfl 53 (.tmp 6) (.tmp 20) rfl (w.heap.size + 1) 0 A.toArray rfl rfl hth (by rw [List.size_toArray, hsz]; exact Kn.kiInfo) hone ?_
    simp only [Act.put, List.setIfInBounds_toArray, List.set_cons_zero, List.set_cons_succ]
    have hrr : (wr.setCells (w.heap.size + 1) 0 A).rangeAt (w.heap.size + 1) 0 A := Kn.own_range (unhide O2)
    have BF := unhide BR
    clear O2 BR hrg hth hone
    generalize wr.setCells (w.heap.size + 1) 0 A = WW at *
    have hld := run_loadVar_mid WW (w.heap.size + 1) 0 53 A _ hrr Try.underlying53 rfl (by rw [hsz]; exact Kn.kiInfo)
    clear hrr hsz
    go_wp2_with fail
    refine bodyPost_ret (v := .agg A.toArray) (Kn.results_cell Try.results66 _ _ _ _ _ rfl hld) rfl ?_
    exact ⟨by rw [unhide FIN], BF⟩

end Go.Proofs.Ytkjmnkbiflkpdaa

namespace Go.Proofs.Ytkjmnkbiflkpdaa
open Go.RowKit
set_option linter.unusedVariables false
set_option linter.unusedSimpArgs false

set_option maxRecDepth 100000 in
set_option maxHeartbeats 4000000 in
theorem joined_kinds0 (f : Nat → Int) (a : Option Addr) (cap : Nat) (w : World) :
    Calls Try.prog 66 #[.agg (Kn.kis f).toArray, .slice a 0 cap, .func (.func 67) #[] #[]] w fun e w' => e = .returned (.agg (Kn.kis f).toArray) ∧ Below w.heap.size w w' := by
  obtain ⟨w0, hw0⟩ : ∃ w0, w0 = (w.alloc (.cells (Kn.kis f).toArray 53)).alloc (.cells Kn.z17 53) := ⟨_, rfl⟩
  have B0 : Below w.heap.size w w0 := by rw [hw0]; exact Kn.bel2 _ _ _
  have OA : Own w0 w.heap.size 53 (Kn.kis f) := by
    rw [hw0]
    exact Own.below (w := w.alloc _) ⟨_, heap_alloc_new _ _, rfl⟩ ((Below.refl _ _).alloc (Nat.le_refl _) _) (by simp)
  have OR : Own w0 (w.heap.size + 1) 53 (Kn.kis fun _ => 0) := by
    rw [hw0]
    have h : Own ((w.alloc (.cells (Kn.kis f).toArray 53)).alloc (.cells Kn.z17 53)) (w.alloc (.cells (Kn.kis f).toArray 53)).heap.size 53 (Kn.kis fun _ => 0) := ⟨_, heap_alloc_new _ _, by rw [Kn.z17_eq]⟩
    simpa using h
  have hsz : (Kn.kis f).length = 17 := Kn.kis_len _
  have hone := Kn.kis_one f
  go_enter Try.func66, Try.ntmps66
  go_upto_region 0 with fail
  refine wp_region_lit ?_
  refine Kn.step_val (v := .pointer (some ⟨w.heap.size, 0, none⟩)) (w' := w.alloc (.cells (Kn.kis f).toArray 53)) rfl (by kernel_rfl) ?_
  simp only [Act.put, List.setIfInBounds_toArray, List.set_cons_zero, List.set_cons_succ]
  refine Kn.step_val (v := .pointer (some ⟨w.heap.size + 1, 0, none⟩)) (w' := w0) rfl (by rw [hw0, ← World.size_alloc w (.cells (Kn.kis f).toArray 53)]; kernel_rfl) ?_
  simp only [Act.put, List.setIfInBounds_toArray, List.set_cons_zero, List.set_cons_succ]
  clear hw0
  have hrg := Kn.own_range OA
  have hth : w0.there (w.heap.size + 1) 0 (Kn.kis f).toArray.size := Kn.own_there OR (by rw [List.size_toArray, Kn.kis_len, Kn.kis_len])
  have O2 := hide (Kn.own_all OR (ys := Kn.kis f) (by rw [Kn.kis_len, Kn.kis_len]))
  have BR := hide (Kn.below_all (c := w.heap.size + 1) (by omega) (Kn.kis f) 0 w0 B0)
  clear OA OR B0
  obtain ⟨A, hA⟩ : ∃ A, A = Kn.kis f := ⟨_, rfl⟩
  have HA := hide hA
  rw [← hA] at hrg hth O2 BR hsz hone ⊢
  clear hA
  go_wp2_with fail
  go_loopg [11] 0 (fun gh s11 wr => s11 = .int .i64 0 ∧ wr = w0)
  case atStart => exact ⟨rfl, rfl⟩
  case round =>
  obtain ⟨rfl, hwr⟩ := hrel
  subst wr
  go_upto_region 6 with fail
  refine wp_region_lit ?_
  refine wpList_load_mid rfl 53 (.tmp 3) rfl w.heap.size 0 rfl A _ hrg Try.underlying53 rfl (by rw [hsz]; exact Kn.kiInfo) ?_
  simp only [Act.put, List.setIfInBounds_toArray, List.set_cons_zero, List.set_cons_succ]
  refine wpList_store_mid rfl 53 (.tmp 6) (.tmp 20) rfl (w.heap.size + 1) 0 A.toArray rfl rfl hth (by rw [List.size_toArray, hsz]; exact Kn.kiInfo) hone ?_
  simp only [Act.put, List.setIfInBounds_toArray, List.set_cons_zero, List.set_cons_succ]
  have hrr : (w0.setCells (w.heap.size + 1) 0 A).rangeAt (w.heap.size + 1) 0 A := Kn.own_range (unhide O2)
  have BF := unhide BR
  clear O2 BR hrg hth hone
  generalize w0.setCells (w.heap.size + 1) 0 A = WW at *
  have hld := run_loadVar_mid WW (w.heap.size + 1) 0 53 A _ hrr Try.underlying53 rfl (by rw [hsz]; exact Kn.kiInfo)
  clear hrr hsz
  go_wp2_with fail
  refine bodyPost_ret (v := .agg A.toArray) (Kn.results_cell Try.results66 _ _ _ _ _ rfl hld) rfl ?_
  exact ⟨by rw [unhide HA], BF⟩
theorem Kn.exec_neq (w : World) {o : Oper} {a : Act} (f g : Nat → Int) (x : Bool) {p q : Operand} {t : TypeId} (ho : o.op = .binOp .neq 53 p q t) (hp : a.eval p = .agg (Kn.kis f).toArray) (hq : a.eval q = .agg (Kn.kis g).toArray)
    (h : (Op.equalIn (9998 + 1 + 1) 53 (.agg (Kn.kis f).toArray) (.agg (Kn.kis g).toArray)).run Try.prog w = .ok x w) : (execOp a.eval o).run Try.prog w = .ok (.value (.bool (!x))) w := by
  have h1 : (eqGuard .neq 53 p q (.agg (Kn.kis f).toArray) (.agg (Kn.kis g).toArray)).run Try.prog w = .ok () w := run_eqGuard_agg w _ _ _ _ _ _ (by kernel_rfl)
  have h2 : (binOp .neq 53 (.agg (Kn.kis f).toArray) (.agg (Kn.kis g).toArray)).run Try.prog w = .ok (.bool (!x)) w := by
    rw [run_neq_struct]
    rw [show (10000 : Nat) = 9998 + 1 + 1 from rfl, h]
    rfl
  unfold execOp
  simp only [ho, hp, hq, Sem.run_bind, h1, h2, Sem.run_pure, Result.andThen_ok]
set_option maxRecDepth 100000 in
set_option maxHeartbeats 4000000 in
theorem hasOwn_no (c : Co) (ca : Option Addr) (cn cc : Nat) (pa : Option Addr) (pn pc : Nat) (L : List Kn) (h16 : (c.op == 16) = false) (h6 : (c.op == 6) = false) (h7 : (c.op == 7) = false) (h11 : (c.op == 11) = false) (h8 : (c.op == 8) = false) (h10 : (c.op == 10) = false) (w : World) :
    Calls Try.prog 82 #[.agg #[.int .i64 c.op, .int .i64 c.a, .int .i64 c.b, .int .i64 c.c, .int .i64 c.num, .slice ca cn cc], .slice pa pn pc] w fun e w' => e = .returned (.bool (Kn.own c L)) ∧ Below w.heap.size w w' := by
  have FIN := hide (show Kn.own c L = false by unfold Kn.own; simp at h16 h6 h7 h11 h8 h10; rw [if_neg h16, if_neg h6, if_neg (by omega), if_neg h8, if_neg h10])
  generalize c.a = c1 at *
  generalize c.b = c2 at *
  generalize c.c = c3 at *
  generalize c.num = c4 at *
  generalize c.op = co at *
  go_enter Try.func82, Try.ntmps82
  go_wp2_with fail
  go_ret
  exact ⟨ret_bool (unhide FIN).symm, (Below.refl _ _).alloc (Nat.le_refl _) _⟩
set_option maxRecDepth 100000 in
set_option maxHeartbeats 4000000 in
theorem hasOwn_7 (c : Co) (ca : Option Addr) (cn cc : Nat) (pa : Option Addr) (pn pc : Nat) (L : List Kn) (ho : c.op = 7) (w : World) :
    Calls Try.prog 82 #[.agg #[.int .i64 c.op, .int .i64 c.a, .int .i64 c.b, .int .i64 c.c, .int .i64 c.num, .slice ca cn cc], .slice pa pn pc] w fun e w' => e = .returned (.bool (Kn.own c L)) ∧ Below w.heap.size w w' := by
  have FIN := hide (show Kn.own c L = true by unfold Kn.own; simp [ho])
  rw [ho]
  generalize c.a = c1 at *
  generalize c.b = c2 at *
  generalize c.c = c3 at *
  generalize c.num = c4 at *
  clear ho
  go_enter Try.func82, Try.ntmps82
  go_wp2_with fail
  go_ret
  exact ⟨ret_bool (unhide FIN).symm, (Below.refl _ _).alloc (Nat.le_refl _) _⟩
set_option maxRecDepth 100000 in
set_option maxHeartbeats 4000000 in
theorem hasOwn_11 (c : Co) (ca : Option Addr) (cn cc : Nat) (pa : Option Addr) (pn pc : Nat) (L : List Kn) (ho : c.op = 11) (w : World) :
    Calls Try.prog 82 #[.agg #[.int .i64 c.op, .int .i64 c.a, .int .i64 c.b, .int .i64 c.c, .int .i64 c.num, .slice ca cn cc], .slice pa pn pc] w fun e w' => e = .returned (.bool (Kn.own c L)) ∧ Below w.heap.size w w' := by
  have FIN := hide (show Kn.own c L = true by unfold Kn.own; simp [ho])
  rw [ho]
  generalize c.a = c1 at *
  generalize c.b = c2 at *
  generalize c.c = c3 at *
  generalize c.num = c4 at *
  clear ho
  go_enter Try.func82, Try.ntmps82
  go_wp2_with fail
  go_ret
  exact ⟨ret_bool (unhide FIN).symm, (Below.refl _ _).alloc (Nat.le_refl _) _⟩
set_option maxRecDepth 100000 in
set_option maxHeartbeats 4000000 in
theorem hasOwn_16 (c : Co) (ca : Option Addr) (cn cc : Nat) (pa : Option Addr) (pn pc : Nat) (L : List Kn) (ho : c.op = 16) (w : World) :
    Calls Try.prog 82 #[.agg #[.int .i64 c.op, .int .i64 c.a, .int .i64 c.b, .int .i64 c.c, .int .i64 c.num, .slice ca cn cc], .slice pa pn pc] w fun e w' => e = .returned (.bool (Kn.own c L)) ∧ Below w.heap.size w w' := by
  have FIN := hide (show Kn.own c L = (c.num != 3) by unfold Kn.own; simp [ho])
  rw [ho]
  generalize c.a = c1 at *
  generalize c.b = c2 at *
  generalize c.c = c3 at *
  generalize c.num = c4 at *
  clear ho
  go_enter Try.func82, Try.ntmps82
  go_wp2_with fail
  go_ret
  exact ⟨ret_bool (unhide FIN).symm, (Below.refl _ _).alloc (Nat.le_refl _) _⟩
set_option maxRecDepth 100000 in
set_option maxHeartbeats 4000000 in
theorem hasOwn_6 (c : Co) (ca : Option Addr) (cn cc : Nat) (pa : Option Addr) (pn pc : Nat) (L : List Kn) (ho : c.op = 6) (w : World) :
    Calls Try.prog 82 #[.agg #[.int .i64 c.op, .int .i64 c.a, .int .i64 c.b, .int .i64 c.c, .int .i64 c.num, .slice ca cn cc], .slice pa pn pc] w fun e w' => e = .returned (.bool (Kn.own c L)) ∧ Below w.heap.size w w' := by
  by_cases p1 : c.num < 4
  · have FIN := hide (show Kn.own c L = true by unfold Kn.own; simp [ho, p1])
    rw [ho]
    generalize c.a = c1 at *
    generalize c.b = c2 at *
    generalize c.c = c3 at *
    generalize c.num = c4 at *
    clear ho
    go_enter Try.func82, Try.ntmps82
    go_wp2_with fail
    go_ret
    exact ⟨ret_bool (unhide FIN).symm, (Below.refl _ _).alloc (Nat.le_refl _) _⟩
  · by_cases p2 : 9 < c.num
    · have FIN := hide (show Kn.own c L = true by unfold Kn.own; simp [ho, p2])
      rw [ho]
      generalize c.a = c1 at *
      generalize c.b = c2 at *
      generalize c.c = c3 at *
      generalize c.num = c4 at *
      clear ho
      go_enter Try.func82, Try.ntmps82
      go_wp2_with fail
      go_ret
      exact ⟨ret_bool (unhide FIN).symm, (Below.refl _ _).alloc (Nat.le_refl _) _⟩
    · have FIN := hide (show Kn.own c L = false by unfold Kn.own; simp [ho, p1, p2])
      rw [ho]
      generalize c.a = c1 at *
      generalize c.b = c2 at *
      generalize c.c = c3 at *
      generalize c.num = c4 at *
      clear ho
      go_enter Try.func82, Try.ntmps82
      go_wp2_with fail
      go_ret
      exact ⟨ret_bool (unhide FIN).symm, (Below.refl _ _).alloc (Nat.le_refl _) _⟩
set_option maxRecDepth 100000 in
set_option maxHeartbeats 4000000 in
theorem hasOwn_8 (c : Co) (ca : Option Addr) (cn cc : Nat) (q cap : Nat) (L : List Kn) (ho : c.op = 8) (hn : L.length = 1) (w : World) (hr : Kn.Kr w q 0 L) :
    Calls Try.prog 82 #[.agg #[.int .i64 c.op, .int .i64 c.a, .int .i64 c.b, .int .i64 c.c, .int .i64 c.num, .slice ca cn cc], .slice (some ⟨q, 0, none⟩) L.length cap] w fun e w' => e = .returned (.bool (Kn.own c L)) ∧ Below w.heap.size w w' := by
  have FIN := hide (show Kn.own c L = decide (0 < (Kn.g L 0).hi) by unfold Kn.own; simp [ho])
  rw [ho, hn]
  generalize c.a = c1 at *
  generalize c.b = c2 at *
  generalize c.c = c3 at *
  generalize c.num = c4 at *
  clear ho
  obtain ⟨W, hW⟩ : ∃ W, W = w.alloc (.cells #[.int .i64 8, .int .i64 c1, .int .i64 c2, .int .i64 c3, .int .i64 c4, .slice ca cn cc] 48) := ⟨_, rfl⟩
  have BN : Below w.heap.size w W := by rw [hW]; exact (Below.refl _ _).alloc (Nat.le_refl _) _
  have f0 : W.cell? ⟨w.heap.size, 0, none⟩ = some (.int .i64 8) := by
    have h : Own W w.heap.size 48 [.int .i64 8, .int .i64 c1, .int .i64 c2, .int .i64 c3, .int .i64 c4, .slice ca cn cc] := by rw [hW]; exact ⟨_, heap_alloc_new _ _, rfl⟩
    exact h.cell 0
  have KR := hr.below BN hr.1
  have e1 : W.cell? ⟨q, 1, none⟩ = some (.int .i64 (Kn.g L 0).hi) := KR.2 0 (by omega) 1 (by omega)
  clear KR hr hn
  generalize (Kn.g L 0).hi = x at *
  go_enter Try.func82, Try.ntmps82
  go_upto_region 1 with fail
  rw [← hW]
  clear hW
  go_wp2_with fail
  go_ret
  exact ⟨ret_bool (unhide FIN).symm, BN⟩
set_option maxRecDepth 100000 in
set_option maxHeartbeats 4000000 in
theorem hasOwn_10 (c : Co) (ca : Option Addr) (cn cc : Nat) (q cap : Nat) (L : List Kn) (ho : c.op = 10) (hn : L.length = 1) (w : World) (hr : Kn.Kr w q 0 L) :
    Calls Try.prog 82 #[.agg #[.int .i64 c.op, .int .i64 c.a, .int .i64 c.b, .int .i64 c.c, .int .i64 c.num, .slice ca cn cc], .slice (some ⟨q, 0, none⟩) L.length cap] w fun e w' => e = .returned (.bool (Kn.own c L)) ∧ Below w.heap.size w w' := by
  have FIN := hide (show Kn.own c L = !Kn.isEmpty (Kn.g L 0) by unfold Kn.own; simp [ho])
  have HEQ := hide (fun V => Kn.run_eq (Kn.g L 0).ki (fun j => if j = 16 then 1 else 0) V 9998)
  rw [ho, hn]
  generalize c.a = c1 at *
  generalize c.b = c2 at *
  generalize c.c = c3 at *
  generalize c.num = c4 at *
  clear ho
  obtain ⟨W, hW⟩ : ∃ W, W = w.alloc (.cells #[.int .i64 10, .int .i64 c1, .int .i64 c2, .int .i64 c3, .int .i64 c4, .slice ca cn cc] 48) := ⟨_, rfl⟩
  have BN : Below w.heap.size w W := by rw [hW]; exact (Below.refl _ _).alloc (Nat.le_refl _) _
  have f0 : W.cell? ⟨w.heap.size, 0, none⟩ = some (.int .i64 10) := by
    have h : Own W w.heap.size 48 [.int .i64 10, .int .i64 c1, .int .i64 c2, .int .i64 c3, .int .i64 c4, .slice ca cn cc] := by rw [hW]; exact ⟨_, heap_alloc_new _ _, rfl⟩
    exact h.cell 0
  have KR := hr.below BN hr.1
  have hrg : W.rangeAt q 3 (Kn.kis (Kn.g L 0).ki) := fun j v hv => by
    have hj : j < 17 := by have := (List.getElem?_eq_some_iff.1 hv).1; rw [Kn.kis_len] at this; exact this
    have := KR.2 0 (by omega) (3 + j) (by omega)
    simp only [Nat.zero_mul, Nat.add_zero, Nat.zero_add] at this
    rw [this, Kn.cells_eq, show 3 + j = j + 1 + 1 + 1 by omega]
    exact hv
  clear KR hr hn
  have HRES := hide (show ((List.range 17).all fun j => (Kn.g L 0).ki j == if j = 16 then 1 else 0) = Kn.isEmpty (Kn.g L 0) from rfl)
  generalize Kn.isEmpty (Kn.g L 0) = x at *
  rw [unhide HRES] at HEQ
  generalize (Kn.g L 0).ki = ki at *
  go_enter Try.func82, Try.ntmps82
  go_upto_region 1 with fail
  rw [← hW]
  clear hW
  go_upto_region 12 with fail
  refine wp_region_lit ?_
  refine Kn.step_val (v := .slice (some ⟨q, 0, none⟩) 1 cap) (w' := W) rfl (by rfl) ?_
  simp only [Act.put, List.setIfInBounds_toArray, List.set_cons_zero, List.set_cons_succ]
  refine Kn.step_val (v := .pointer (some ⟨q, 0, none⟩)) (w' := W) rfl (by go_simp) ?_
  simp only [Act.put, List.setIfInBounds_toArray, List.set_cons_zero, List.set_cons_succ]
  refine Kn.step_val (v := .pointer (some ⟨q, 3, none⟩)) (w' := W) rfl (by go_simp) ?_
  simp only [Act.put, List.setIfInBounds_toArray, List.set_cons_zero, List.set_cons_succ]
  refine wpList_load_mid rfl 53 (.tmp 37) rfl q 3 rfl (Kn.kis ki) _ hrg Try.underlying53 rfl (by rw [Kn.kis_len]; exact Kn.kiInfo) ?_
  simp only [Act.put, List.setIfInBounds_toArray, List.set_cons_zero, List.set_cons_succ]
  refine Kn.step_val (v := .agg (Kn.kis fun j => if j = 16 then 1 else 0).toArray) (w' := W) rfl (by kernel_rfl) ?_
  simp only [Act.put, List.setIfInBounds_toArray, List.set_cons_zero, List.set_cons_succ]
  refine Kn.step_val (v := .bool (!x)) (w' := W) rfl (Kn.exec_neq W ki _ x rfl rfl rfl ((unhide HEQ) W)) ?_
  simp only [Act.put, List.setIfInBounds_toArray, List.set_cons_zero, List.set_cons_succ]
  go_wp2_with fail
  go_ret
  exact ⟨ret_bool (unhide FIN).symm, BN⟩
theorem hasOwn_any (c : Co) (ca : Option Addr) (cn cc : Nat) (pv : Value) (L : List Kn) (h1 : 1 ≤ c.op) (h2 : c.op ≤ 17) (hn : L.length = Co.kids c.op) (w : World) (hl : Kn.Lies w pv L) :
    Calls Try.prog 82 #[.agg #[.int .i64 c.op, .int .i64 c.a, .int .i64 c.b, .int .i64 c.c, .int .i64 c.num, .slice ca cn cc], pv] w fun e w' => e = .returned (.bool (Kn.own c L)) ∧ Below w.heap.size w w' := by
  obtain ⟨pa, pn, pc, rfl⟩ : ∃ pa pn pc, pv = .slice pa pn pc := by
    rcases hl with ⟨_, h⟩ | ⟨q, cap, _, h, _, _⟩ <;> exact ⟨_, _, _, h⟩
  have row : 0 < Co.kids c.op → ∃ q cap, Value.slice pa pn pc = .slice (some ⟨q, 0, none⟩) L.length cap ∧ Kn.Kr w q 0 L := fun h => by
    rcases hl with ⟨h0, _⟩ | ⟨q, cap, _, h, _, hr⟩
    · rw [h0] at hn; simp at hn; omega
    · exact ⟨q, cap, h, hr⟩
  by_cases e16 : c.op = 16
  · exact hasOwn_16 c ca cn cc pa pn pc L e16 w
  by_cases e6 : c.op = 6
  · exact hasOwn_6 c ca cn cc pa pn pc L e6 w
  by_cases e7 : c.op = 7
  · exact hasOwn_7 c ca cn cc pa pn pc L e7 w
  by_cases e11 : c.op = 11
  · exact hasOwn_11 c ca cn cc pa pn pc L e11 w
  by_cases e8 : c.op = 8
  · obtain ⟨q, cap, hv, hr⟩ := row (by rw [e8]; decide)
    rw [hv]
    exact hasOwn_8 c ca cn cc q cap L e8 (by rw [hn, e8]; decide) w hr
  by_cases e10 : c.op = 10
  · obtain ⟨q, cap, hv, hr⟩ := row (by rw [e10]; decide)
    rw [hv]
    exact hasOwn_10 c ca cn cc q cap L e10 (by rw [hn, e10]; decide) w hr
  exact hasOwn_no c ca cn cc pa pn pc L (by simpa using e16) (by simpa using e6) (by simpa using e7) (by simpa using e11) (by simpa using e8) (by simpa using e10) w

end Go.Proofs.Ytkjmnkbiflkpdaa

namespace Go.Proofs.Ytkjmnkbiflkpdaa
open Go.RowKit
set_option linter.unusedVariables false
set_option linter.unusedSimpArgs false

/-- joined at a row or at nothing. -/
theorem joined_orL (b : Bool) (pv : Value) (L : List Kn) (w : World) (hl : Kn.Lies w pv L) (hn : L.length ≤ 3) : Calls Try.prog 80 #[.bool b, pv, .func (.func 81) #[] #[]] w fun e w' => e = .returned (.bool (b || L.any Kn.fa)) ∧ Below w.heap.size w w' := by
  rcases hl with ⟨rfl, rfl⟩ | ⟨q, cap, _, rfl, _, hr⟩
  · refine (joined_or0 b none 0 w).mono ?_
    rintro e w' ⟨rfl, rfl⟩
    exact ⟨by simp, Below.refl _ _⟩
  · exact joined_or b q 0 cap L w hr hn
set_option maxRecDepth 100000 in
set_option maxHeartbeats 4000000 in
theorem mayFail_9 (c : Co) (ca : Option Addr) (cn cc q cap : Nat) (L : List Kn) (ho : c.op = 9) (hn : L.length = 1) (hcp : L.length ≤ cap) (w : World) (hr : Kn.Kr w q 0 L) :
    Calls Try.prog 65 #[.agg #[.int .i64 c.op, .int .i64 c.a, .int .i64 c.b, .int .i64 c.c, .int .i64 c.num, .slice ca cn cc], .slice (some ⟨q, 0, none⟩) L.length cap] w fun e w' => e = .returned (.bool (Kn.mf c L)) ∧ Below w.heap.size w w' := by
  have FIN := hide (show Kn.mf c L = false by
    unfold Kn.mf
    rw [if_pos (Or.inl ho), List.drop_eq_nil_of_le (by omega)]
    rfl)
  have HJ := hide (fun a n V => joined_or0 false a n V)
  have hcp1 : 1 ≤ cap := by omega
  rw [ho, hn]
  generalize c.a = c1 at *
  generalize c.b = c2 at *
  generalize c.c = c3 at *
  generalize c.num = c4 at *
  clear ho hn hcp hr
  have BN := fun o => hide ((Below.refl w.heap.size w).alloc (Nat.le_refl _) o)
  go_enter Try.func65, Try.ntmps65
  go_wp2_with fail
  all_goals
    refine ((unhide HJ) _ _ _).mono ?_
    rintro e w1 ⟨rfl, hw1⟩
    subst w1
    go_wp2_with fail
    go_ret
    exact ⟨ret_bool (unhide FIN).symm, unhide (BN _)⟩
set_option maxRecDepth 100000 in
set_option maxHeartbeats 4000000 in
theorem mayFail_5 (c : Co) (ca : Option Addr) (cn cc q cap : Nat) (L : List Kn) (ho : c.op = 5) (hn : L.length = 2) (hcp : L.length ≤ cap) (w : World) (hr : Kn.Kr w q 0 L) :
    Calls Try.prog 65 #[.agg #[.int .i64 c.op, .int .i64 c.a, .int .i64 c.b, .int .i64 c.c, .int .i64 c.num, .slice ca cn cc], .slice (some ⟨q, 0, none⟩) L.length cap] w fun e w' => e = .returned (.bool (Kn.mf c L)) ∧ Below w.heap.size w w' := by
  have FIN := hide (show Kn.mf c L = (false || (L.drop 1).any Kn.fa) by
    unfold Kn.mf
    rw [if_pos (Or.inr ho), Bool.false_or])
  have hD : (L.drop 1).length = 1 := by rw [List.length_drop]; omega
  have HJ := hide (fun (V : World) (hb : Below w.heap.size w V) n => joined_or false q 20 n (L.drop 1) V ⟨Nat.lt_of_lt_of_le hr.1 hb.size, fun i hi j hj => by
    rw [hD] at hi
    have h0 : i = 0 := by omega
    subst h0
    have h1 := (hr.below hb hr.1).2 1 (by omega) j hj
    have e : Kn.g (L.drop 1) 0 = Kn.g L 1 := by unfold Kn.g; rw [List.getD_eq_getElem?_getD, List.getD_eq_getElem?_getD, List.getElem?_drop]
    rw [e, ← h1]⟩ (by omega))
  rw [hD] at HJ
  obtain ⟨m, rfl⟩ : ∃ m, cap = m + 2 := ⟨cap - 2, by omega⟩
  rw [ho, hn]
  generalize (false || (L.drop 1).any Kn.fa) = x at *
  generalize c.a = c1 at *
  generalize c.b = c2 at *
  generalize c.c = c3 at *
  generalize c.num = c4 at *
  clear ho hn hcp hr hD
  have BN := fun o => hide ((Below.refl w.heap.size w).alloc (Nat.le_refl _) o)
  go_enter Try.func65, Try.ntmps65
  go_wp2_with fail
  refine ((unhide HJ) _ (unhide (BN _)) _).mono ?_
  rintro e w1 ⟨rfl, hb1⟩
  have B1 := (unhide (BN _)).trans (hb1.mono (unhide (BN _)).size)
  go_wp2_with fail
  go_ret
  exact ⟨ret_bool (unhide FIN).symm, B1⟩
set_option maxRecDepth 100000 in
set_option maxHeartbeats 4000000 in
theorem mayFail_no (c : Co) (ca : Option Addr) (cn cc : Nat) (pa : Option Addr) (pn pc : Nat) (L : List Kn) (h1 : 1 ≤ c.op) (h2 : c.op ≤ 17) (h9 : (c.op == 9) = false) (h5 : (c.op == 5) = false) (hn : L.length = Co.kids c.op) (w : World) (hl : Kn.Lies w (.slice pa pn pc) L) :
    Calls Try.prog 65 #[.agg #[.int .i64 c.op, .int .i64 c.a, .int .i64 c.b, .int .i64 c.c, .int .i64 c.num, .slice ca cn cc], .slice pa pn pc] w fun e w' => e = .returned (.bool (Kn.mf c L)) ∧ Below w.heap.size w w' := by
  have FIN := hide (show Kn.mf c L = (Kn.own c L || L.any Kn.fa) by
    unfold Kn.mf
    simp at h9 h5
    rw [if_neg (by omega)])
  have hk3 := Co.kids_le c.op
  have HO := hide (fun (V : World) (hb : Below w.heap.size w V) => hasOwn_any c ca cn cc (.slice pa pn pc) L h1 h2 hn V (hl.below hb))
  have HJ := hide (fun (V : World) (hb : Below w.heap.size w V) b => joined_orL b (.slice pa pn pc) L V (hl.below hb) (by omega))
  clear hl hn hk3 h1 h2
  generalize Kn.own c L = y at *
  generalize (L.any Kn.fa) = x at *
  generalize c.a = c1 at *
  generalize c.b = c2 at *
  generalize c.c = c3 at *
  generalize c.num = c4 at *
  generalize c.op = co at *
  have BN := fun o => hide ((Below.refl w.heap.size w).alloc (Nat.le_refl _) o)
  go_enter Try.func65, Try.ntmps65
  go_wp2_with fail
  refine ((unhide HO) _ (unhide (BN _))).mono ?_
  rintro e w1 ⟨rfl, hb1⟩
  have B1 := (unhide (BN _)).trans (hb1.mono (unhide (BN _)).size)
  clear hb1
  go_wp2_with fail
  refine ((unhide HJ) _ B1 _).mono ?_
  rintro e w2 ⟨rfl, hb2⟩
  have B2 := B1.trans (hb2.mono B1.size)
  clear hb2
  go_wp2_with fail
  go_ret
  exact ⟨ret_bool (unhide FIN).symm, B2⟩
theorem mayFail_any (c : Co) (ca : Option Addr) (cn cc : Nat) (pv : Value) (L : List Kn) (h1 : 1 ≤ c.op) (h2 : c.op ≤ 17) (hn : L.length = Co.kids c.op) (w : World) (hl : Kn.Lies w pv L) :
    Calls Try.prog 65 #[.agg #[.int .i64 c.op, .int .i64 c.a, .int .i64 c.b, .int .i64 c.c, .int .i64 c.num, .slice ca cn cc], pv] w fun e w' => e = .returned (.bool (Kn.mf c L)) ∧ Below w.heap.size w w' := by
  obtain ⟨pa, pn, pc, rfl⟩ : ∃ pa pn pc, pv = .slice pa pn pc := by
    rcases hl with ⟨_, h⟩ | ⟨q, cap, _, h, _, _⟩ <;> exact ⟨_, _, _, h⟩
  have row : 0 < Co.kids c.op → ∃ q cap, Value.slice pa pn pc = .slice (some ⟨q, 0, none⟩) L.length cap ∧ L.length ≤ cap ∧ Kn.Kr w q 0 L := fun h => by
    rcases hl with ⟨h0, _⟩ | ⟨q, cap, _, h, hc, hr⟩
    · rw [h0] at hn; simp at hn; omega
    · exact ⟨q, cap, h, hc, hr⟩
  by_cases e9 : c.op = 9
  · obtain ⟨q, cap, hv, hc, hr⟩ := row (by rw [e9]; decide)
    rw [hv]
    exact mayFail_9 c ca cn cc q cap L e9 (by rw [hn, e9]; decide) hc w hr
  by_cases e5 : c.op = 5
  · obtain ⟨q, cap, hv, hc, hr⟩ := row (by rw [e5]; decide)
    rw [hv]
    exact mayFail_5 c ca cn cc q cap L e5 (by rw [hn, e5]; decide) hc w hr
  exact mayFail_no c ca cn cc pa pn pc L h1 h2 (by simpa using e9) (by simpa using e5) hn w hl

end Go.Proofs.Ytkjmnkbiflkpdaa
