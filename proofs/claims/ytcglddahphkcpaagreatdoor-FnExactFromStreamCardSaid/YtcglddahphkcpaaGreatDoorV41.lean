/-
  StreamOf, plainly: the events of a value. No word of the program is used here.
-/
import Derived.Test.YtcglddahphkcpaaGreatDoorV35
import Derived.Test.YtcglddahphkcpaaGreatDoorV40
namespace Go.Proofs.YtcglddahphkcpaaGreatDoor
open Go.RowKit
set_option linter.unusedVariables false
set_option linter.unusedSimpArgs false
/-- A part that was laid, and at most so deep. -/
def LaidD (D : Nat) (q : List M.Cl) : Prop := ∃ p k d, q = setKey p k ∧ M.valueFault p = 0 ∧ M.textOk k = true ∧ M.walk p p.length 0 = some (p.length, d) ∧ d ≤ D
theorem laidD_of {D : Nat} {p : List M.Cl} {d : Nat} (hv : M.valueFault p = 0) (hw : M.walk p p.length 0 = some (p.length, d)) (hd : d ≤ D) : LaidD D p :=
  ⟨p, ByteArray.empty, d, (setKey_none hv).symm, hv, by decide, hw, hd⟩
theorem LaidD.laid {D : Nat} {p : List M.Cl} (h : LaidD D p) (hd : D ≤ 19) : Laid p := by
  obtain ⟨p, k, d, h1, h2, h3, h4, h5⟩ := h; exact ⟨p, k, d, h1, h2, h3, h4, by omega⟩
theorem made_deep {D : Nat} (h : M.Cl) (qs : List (List M.Cl)) (hcode : M.cellCode h = 0) (hkey : h.key.toList = []) (hn : h.n = qs.length) (hlen : tot qs qs.length + 1 ≤ 200) (hq : ∀ j, j < qs.length → LaidD D (qs.getD j []))
    (h5 : h.kind = 5 → ∀ j, j < qs.length → ((qs.getD j []).getD 0 M.zero).key.toList = [])
    (h6 : h.kind = 6 → ∀ j, j + 1 < qs.length → M.keyLe ((qs.getD (j + 1) []).getD 0 M.zero).key ((qs.getD j []).getD 0 M.zero).key = false) : ∃ d, M.walk (h :: qs.flatten) (h :: qs.flatten).length 0 = some ((h :: qs.flatten).length, d) ∧ d ≤ D + 1 := by
  have hL := made_length h qs
  have hpos : ∀ j, j < qs.length → 0 < (qs.getD j []).length := fun j hj => by
    obtain ⟨p, k, d, e, hv, _⟩ := hq j hj
    rw [e, setKey_length]; exact (fault_len hv).1
  have hmono : ∀ j, j < qs.length → tot qs (j + 1) ≤ tot qs qs.length := fun j hj => tot_le qs qs.length (j + 1) (by omega) (Nat.le_refl _)
  have hfc : M.firstCode (h :: qs.flatten) = 0 := by
    refine first_all fun c hc => ?_
    rcases List.mem_cons.1 hc with rfl | hc
    · exact hcode
    · obtain ⟨j, hj, hm⟩ := mem_part hc
      obtain ⟨p, k, d, e, hv, ht, _⟩ := hq j hj
      rw [e] at hm
      have hz := M.first_zero (M.fault_zero hv).2.2.1
      cases p with
      | nil => simp [setKey] at hm
      | cons c0 r =>
        simp only [setKey, List.mem_cons] at hm
        rcases hm with rfl | hm
        · exact code_setkey (hz c0 (by simp)) ht
        · exact hz c (by simp [hm])
  obtain ⟨f, hf⟩ : ∃ f, (h :: qs.flatten).length = f + 1 := ⟨tot qs qs.length, hL⟩
  have hwalk : ∀ j, j < qs.length → ∃ d, M.walk (h :: qs.flatten) f (tot qs j + 1) = some (tot qs (j + 1) + 1, d) ∧ d ≤ D := by
    intro j hj
    obtain ⟨p, k, d, e, hv, ht, hw, hd⟩ := hq j hj
    have hpl := (fault_len hv).1
    have hql : (qs.getD j []).length = p.length := by rw [e, setKey_length]
    have hts := tot_succ qs j hj
    have hm := hmono j hj
    have hs : M.Sub p (h :: qs.flatten) (tot qs j + 1) (tot qs (j + 1) + 1) := by
      have hat : ∀ i, i < p.length → (h :: qs.flatten).getD (tot qs j + 1 + i) M.zero = (setKey p k).getD i M.zero := fun i hi => by rw [made_at h qs j i hj (by omega), e]
      refine ⟨by omega, by omega, by omega, ?_, ?_, ?_⟩
      · intro i hi
        rw [hat i hi]
        by_cases h0 : i = 0
        · subst h0; rw [setKey_zero p k (by intro e; rw [e] at hpl; simp at hpl)]
        · rw [setKey_getD p k i (by omega)]
      · intro i hi
        rw [hat i hi]
        by_cases h0 : i = 0
        · subst h0; rw [setKey_zero p k (by intro e; rw [e] at hpl; simp at hpl)]
        · rw [setKey_getD p k i (by omega)]
      · intro i h0 hi
        rw [hat i hi, setKey_getD p k i h0]
    have hw2 := M.walk_le p p.length f (by omega) 0 _ hw
    have := M.walk_sup hs f 0 _ _ (by omega) hw2
    rw [Nat.add_zero, show tot qs j + 1 + p.length = tot qs (j + 1) + 1 from by omega] at this
    exact ⟨d, this, hd⟩
  have hfirst : ∀ j, j < qs.length → (h :: qs.flatten).getD (tot qs j + 1) M.zero = (qs.getD j []).getD 0 M.zero := fun j hj => made_at h qs j 0 hj (hpos j hj)
  have hbad : ∀ j, j < qs.length → M.bad (h :: qs.flatten) h j (tot qs j + 1) (M.lastK (h :: qs.flatten) (fun j => tot qs j + 1) j) = false := by
    intro j hj
    have hm := hmono j hj
    have hts := tot_succ qs j hj
    have hp0 := hpos j hj
    unfold M.bad
    rw [if_pos (by omega), hfirst j hj]
    rw [Bool.or_eq_false_iff]
    refine ⟨?_, ?_⟩
    · by_cases hk : h.kind = 5
      · rw [h5 hk j hj]; simp
      · simp [hk]
    · by_cases hk : h.kind = 6
      · by_cases h0 : 0 < j
        · have h7 := h6 hk (j - 1) (by omega)
          rw [show j - 1 + 1 = j from by omega] at h7
          unfold M.lastK
          rw [if_neg (by omega), hfirst (j - 1) (by omega), h7]
          simp
        · simp [h0]
      · simp [hk]
  obtain ⟨d', hk, hd'⟩ := M.kids_made (h :: qs.flatten) h f D qs.length (fun j => tot qs j + 1) hwalk hbad qs.length 0 0 (by omega) (by omega)
  have hw : M.walk (h :: qs.flatten) (h :: qs.flatten).length 0 = some ((h :: qs.flatten).length, d' + 1) := by
    rw [hf, M.walk]
    simp only [List.getD_cons_zero]
    rw [hn, Int.toNat_natCast]
    have h0 : M.lastK (h :: qs.flatten) (fun j => tot qs j + 1) 0 = ByteArray.empty := rfl
    rw [h0] at hk
    simp only [tot_zero, Nat.zero_add] at hk
    simp only [Nat.zero_add]
    rw [hk]
    simp only [Option.map_some]
    rw [← hL, hf]
  exact ⟨_, hw, by omega⟩
theorem arr_deep {D : Nat} {ps : List (List M.Cl)} (hv : ∀ j, j < ps.length → M.valueFault (ps.getD j []) = 0) (hd : ∀ j, j < ps.length → LaidD D (ps.getD j [])) (hlen : tot ps ps.length + 1 ≤ 200) (hn : ps.length ≤ 200) : ∃ d, M.walk (arrV ps) (arrV ps).length 0 = some ((arrV ps).length, d) ∧ d ≤ D + 1 := by
  have e : arrV ps = headCl 5 ps.length :: ps.flatten := by unfold arrV arrK; rw [List.take_length]
  rw [e]
  refine made_deep _ ps ?_ empty_toList rfl hlen hd (fun _ j hj => ?_) (fun h => absurd (show (5 : Int) = 6 from h) (by decide))
  · unfold headCl M.cellCode
    simp only
    rw [if_neg (by omega), if_neg, if_neg (by omega), if_pos ⟨by decide, by decide⟩]
    intro h
    rcases h with h | h | h
    · exact h.1 rfl
    · exact h.1 empty_toList
    · exact h.2.1 rfl
  · rw [fault_key (hv j hj)]; exact empty_toList
/-- A part of a value is less deep. -/
theorem subs_deep {v : List M.Cl} (hv : M.valueFault v = 0) {d0 : Nat} (hw0 : M.walk v v.length 0 = some (v.length, d0)) {j : Nat} (hj : j < M.arity v 0) : ∃ d, M.walk (part v (M.iter v j 1)) (part v (M.iter v j 1)).length 0 = some ((part v (M.iter v j 1)).length, d) ∧ d + 1 ≤ d0 := by
  have hl1 := (M.fault_zero hv).1
  have hl2 := (M.fault_zero hv).2.1
  obtain ⟨h1, h2, h3, _⟩ := M.places_in hv 0 (by omega)
  obtain ⟨ha1, ha2⟩ := h1 j hj
  simp only [Nat.zero_add] at ha1 ha2
  obtain ⟨f, hf⟩ : ∃ f, v.length = f + 1 := ⟨v.length - 1, by omega⟩
  have hw0' := hw0
  rw [hf] at hw0'
  simp only [M.walk, Option.map_eq_some_iff] at hw0'
  obtain ⟨⟨e1, d1⟩, h4, h5⟩ := hw0'
  simp only [Prod.mk.injEq] at h5
  obtain ⟨h5a, h5b⟩ := h5
  have hkd := (M.kids_depth v _ f (M.walk_depth v f) _ _ _ _ _ _ _ h4 (by omega) (by omega)).2 (M.iter v j 1) (by omega) (by omega)
  obtain ⟨e2, d2, hw2, hd2⟩ := hkd
  have hav : M.iter v j 1 < v.length := by omega
  have hw3 := M.walk_le v f v.length (by omega) _ _ hw2
  have he : M.endOf v (M.iter v j 1) = e2 := M.endOf_of (Nat.le_refl _) hw3
  have hg := end_gt hv hav
  have hpl := part_len hv hav
  have hs := M.walk_sub (part_sub hv hav) v.length 0 e2 d2 (by omega) hw3 (by omega)
  have hw := M.walk_less (part v (M.iter v j 1)) v.length (part v (M.iter v j 1)).length 0 _ d2 (by omega) hs (by omega)
  refine ⟨d2, ?_, by omega⟩
  rw [hw, hpl, he]
/-- A value without parts is one cell. -/
theorem leaf_one {v : List M.Cl} (hv : M.valueFault v = 0) {d0 : Nat} (hw0 : M.walk v v.length 0 = some (v.length, d0)) (hn : (v.getD 0 M.zero).n = 0) : v.length = 1 ∧ d0 = 1 := by
  have hl1 := (M.fault_zero hv).1
  obtain ⟨f, hf⟩ : ∃ f, v.length = f + 1 := ⟨v.length - 1, by omega⟩
  rw [hf] at hw0
  rw [M.walk, hn] at hw0
  simp [M.kids] at hw0
  omega
namespace Al
theorem pathC_deep {p : List M.Cl} (h : ∀ c ∈ p, Pth.Stp c) (hl : p.length ≤ 199) : LaidD 2 (pathC p) := by
  have hc : ∀ j, j < p.length → M.cellCode (p.getD j M.zero) = 0 ∧ (p.getD j M.zero).key.toList = [] ∧ (p.getD j M.zero).n = 0 := fun j hj => by
    have hs := h _ (getD_mem p j hj)
    have hc := Pth.cell_code hs.val (i := 0) (by simp)
    have hk := fault_key hs.val
    simp only [List.getD_cons_zero] at hc hk
    generalize p.getD j M.zero = c at *
    exact ⟨hc, by rw [hk]; exact empty_list, Pth.step_n hc (by unfold Pth.isStep; rcases hs.kd with e | e <;> simp [e])⟩
  have hd := arr_deep (D := 1) (ps := ones p) (ones_valid h) (fun j hj => by
    rw [ones_length] at hj
    rw [ones_getD p j hj]
    obtain ⟨a, b, c⟩ := hc j hj
    exact laidD_of (one_valid a b c).1 (one_valid a b c).2 (Nat.le_refl _)) (by rw [tot_ones (fun j hj => by rw [ones_length] at hj; rw [ones_getD p j hj]; rfl) _ (Nat.le_refl _), ones_length]; omega) (by rw [ones_length]; omega)
  rw [arr_ones] at hd
  obtain ⟨d, h1, h2⟩ := hd
  exact laidD_of (pathC_ok h hl).1 h1 h2
/-- An event is a value, and not great. -/
theorem laid_ok {cs : List M.Cl} {xs : List (List M.Cl)} (hs : ∀ c ∈ cs, Pth.Stp c) (hl : cs.length ≤ 100) (hx : xs = [] ∨ ∃ v, xs = [v] ∧ M.valueFault v = 0 ∧ LaidD 19 v ∧ v.length ≤ 90) : M.valueFault (Sev.laid cs xs) = 0 := by
  have h1 := (pathC_ok hs (by omega)).1
  have h2 := pathC_deep hs (by omega)
  have h3 := pathC_length cs
  unfold Sev.laid
  rcases hx with rfl | ⟨v, rfl, hv, hd, hvl⟩
  · refine arr_valid (fun j hj => ?_) (fun j hj => ?_) ?_ (by simp)
    · have : j = 0 := by simpa using hj
      subst this; exact h1
    · have : j = 0 := by simpa using hj
      subst this; exact h2.laid (by omega)
    · simp [tot]; omega
  · refine arr_valid (fun j hj => ?_) (fun j hj => ?_) ?_ (by simp)
    · have : j = 0 ∨ j = 1 := by simp at hj; omega
      rcases this with rfl | rfl
      · exact h1
      · exact hv
    · have : j = 0 ∨ j = 1 := by simp at hj; omega
      rcases this with rfl | rfl
      · exact h2.laid (by omega)
      · exact hd.laid (by omega)
    · simp [tot]; omega
/-- The events of a value, behind steps, by fuel. -/
def evs : Nat → List M.Cl → List M.Cl → List (List M.Cl)
  | 0, _, _ => []
  | f + 1, v, ahead => if (v.getD 0 M.zero).n = 0 then [Sev.laid ahead [v]] else allK (evs f) (decide ((v.getD 0 M.zero).kind = 6)) (keysAt v 0) (subs v 0) ahead (M.arity v 0) ++ [Sev.laid (ahead ++ [stepAt (decide ((v.getD 0 M.zero).kind = 6)) (keysAt v 0) (M.arity v 0 - 1)]) []]
theorem evs_leaf {f : Nat} {v ahead : List M.Cl} (h : (v.getD 0 M.zero).n = 0) : evs (f + 1) v ahead = [Sev.laid ahead [v]] := by rw [evs, if_pos h]
theorem evs_more {f : Nat} {v ahead : List M.Cl} (h : ¬ (v.getD 0 M.zero).n = 0) : evs (f + 1) v ahead = allK (evs f) (decide ((v.getD 0 M.zero).kind = 6)) (keysAt v 0) (subs v 0) ahead (M.arity v 0) ++ [Sev.laid (ahead ++ [stepAt (decide ((v.getD 0 M.zero).kind = 6)) (keysAt v 0) (M.arity v 0 - 1)]) []] := by rw [evs, if_neg h]
/-- There are no more events than cells. -/
theorem evs_len : ∀ (f : Nat) (v ahead : List M.Cl), M.valueFault v = 0 → (evs f v ahead).length ≤ v.length
  | 0, v, ahead, _ => by simp [evs]
  | f + 1, v, ahead, hv => by
    have hl := (M.fault_zero hv).1
    by_cases h0 : (v.getD 0 M.zero).n = 0
    · rw [evs_leaf h0, List.length_singleton]; omega
    have key : ∀ k, k ≤ M.arity v 0 → (allK (evs f) (decide ((v.getD 0 M.zero).kind = 6)) (keysAt v 0) (subs v 0) ahead k).length + 1 ≤ M.iter v k 1 := by
      intro k
      induction k with
      | zero => intro _; exact Nat.le_refl _
      | succ k ih =>
        intro hk
        have i1 := ih (by omega)
        obtain ⟨_, p2, p3⟩ := part_lt hv (show k < M.arity v 0 by omega)
        have h := evs_len f (part v (M.iter v k 1)) (ahead ++ [stepAt (decide ((v.getD 0 M.zero).kind = 6)) (keysAt v 0) k]) p3
        rw [allK, List.length_append, subs_getD v 0 k (by omega), Nat.zero_add]
        omega
    have h1 := key _ (Nat.le_refl _)
    have h2 := (iter_le hv (Nat.le_refl (M.arity v 0))).2
    rw [evs_more h0, List.length_append, List.length_singleton]
    omega
/-- Each event is a value. -/
theorem evs_ok : ∀ (f : Nat) (v ahead e : List M.Cl) (d : Nat), M.valueFault v = 0 → M.walk v v.length 0 = some (v.length, d) → (∀ c ∈ ahead, Pth.Stp c) → ahead.length + d ≤ 20 → e ∈ evs f v ahead → M.valueFault e = 0
  | 0, v, ahead, e, d, _, _, _, _, he => by simp [evs] at he
  | f + 1, v, ahead, e, d, hv, hw, hs, hd, he => by
    have hl := (M.fault_zero hv).1
    by_cases h0 : (v.getD 0 M.zero).n = 0
    · rw [evs_leaf h0, List.mem_singleton] at he
      obtain ⟨q1, q2⟩ := leaf_one hv hw h0
      rw [he]
      exact laid_ok hs (by omega) (.inr ⟨v, rfl, hv, laidD_of hv hw (by omega), by omega⟩)
    have hstp : ∀ k, k < M.arity v 0 → ∀ c ∈ ahead ++ [stepAt (decide ((v.getD 0 M.zero).kind = 6)) (keysAt v 0) k], Pth.Stp c := fun k hk c hc => by
      rcases List.mem_append.1 hc with hc | hc
      · exact hs c hc
      · rw [List.mem_singleton.1 hc]; exact (step_to hv hk).1
    have hn : 0 ≤ (v.getD 0 M.zero).n := Sev.n_ge hv
    have ha : 0 < M.arity v 0 := by unfold M.arity; omega
    have hd1 : 1 ≤ d := by obtain ⟨d1, _, h⟩ := subs_deep hv hw ha; omega
    rw [evs_more h0, List.mem_append] at he
    rcases he with he | he
    · obtain ⟨k, hk, he⟩ := mem_allK he
      obtain ⟨_, p2, p3⟩ := part_lt hv hk
      obtain ⟨d1, hw1, hd2⟩ := subs_deep hv hw hk
      rw [subs_getD v 0 k hk, Nat.zero_add] at he
      exact evs_ok f _ _ e d1 p3 hw1 (hstp k hk) (by rw [List.length_append, List.length_singleton]; omega) he
    · rw [List.mem_singleton] at he
      rw [he]
      exact laid_ok (hstp _ (by omega)) (by rw [List.length_append, List.length_singleton]; omega) (.inl rfl)
/-- What StreamOf tells. -/
def streamOut (v : List M.Cl) : Int × List (List M.Cl) := if M.valueFault v ≠ 0 then (M.valueFault v, []) else (0, evs v.length v [])
theorem stream_bad {v : List M.Cl} (h : M.valueFault v ≠ 0) : streamOut v = (M.valueFault v, []) := if_pos h
theorem stream_ok {v : List M.Cl} (h : M.valueFault v = 0) : streamOut v = (0, evs v.length v []) := if_neg (by simp [h])
theorem stream_fine {v : List M.Cl} (hv : M.valueFault v = 0) : (evs v.length v []).length ≤ 200 ∧ ∀ i, i < (evs v.length v []).length → M.valueFault ((evs v.length v []).getD i []) = 0 := by
  refine ⟨Nat.le_trans (evs_len _ v [] hv) (M.fault_zero hv).2.1, fun i hi => ?_⟩
  obtain ⟨d, hw, hd⟩ := (M.fault_zero hv).2.2.2.2
  have hm : (evs v.length v []).getD i [] ∈ evs v.length v [] := by rw [List.getD_eq_getElem?_getD, List.getElem?_eq_getElem hi]; exact List.getElem_mem hi
  exact evs_ok _ v [] _ d hv hw (fun c hc => by simp at hc) (by simp; omega) hm
end Al
end Go.Proofs.YtcglddahphkcpaaGreatDoor
