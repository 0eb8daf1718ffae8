/-
  StreamOf, plainly: the events of a value. No word of the program is used here.
  The program's events as they are laid: their row, the steps ahead, and what of memory is kept.
-/
import Derived.Test.YtcglddahphkcpaaGreatDoorU25
import Derived.Test.YtcglddahphkcpaaGreatDoorU29
import Derived.Test.YtcglddahphkcpaaGreatDoorU30
namespace Go.Proofs.YtcglddahphkcpaaGreatDoor
open Go.RowKit
set_option linter.unusedVariables false
set_option linter.unusedSimpArgs false
/-- A part that was laid, and at most so deep. -/
def LaidD (D : Nat) (q : List M.Cl) : Prop := ∃ p k d, q = setKey p k ∧ M.valueFault p = 0 ∧ M.textOk k = true ∧ M.walk p p.length 0 = some (p.length, d) ∧ d ≤ D
theorem laidD_of {D : Nat} {p : List M.Cl} {d : Nat} (hv : M.valueFault p = 0) (hw : M.walk p p.length 0 = some (p.length, d)) (hd : d ≤ D) : LaidD D p :=
  ⟨p, ByteArray.empty, d, (setKey_none hv).symm, hv, by decide, hw, hd⟩
theorem LaidD.laid {D : Nat} {p : List M.Cl} (h : LaidD D p) (hd : D ≤ 19) : Laid p := by
  obtain ⟨p, k, d, h1, h2, h3, h4, h5⟩ := h; exact ⟨p, k, d, h1, h2, h3, h4, by omega⟩
theorem made_deep {D : Nat} (h : M.Cl) (qs : List (List M.Cl)) (hcode : M.cellCode h = 0) (hkey : h.key.toList = []) (hn : h.n = qs.length) (hlen : tot qs qs.length + 1 ≤ 200) (hq : ∀ j, j < qs.length → LaidD D (qs.getD j []))
    (h5 : h.kind = 5 → ∀ j, j < qs.length → ((qs.getD j []).getD 0 M.zero).key.toList = [])
    (h6 : h.kind = 6 → ∀ j, j + 1 < qs.length → M.keyLe ((qs.getD (j + 1) []).getD 0 M.zero).key ((qs.getD j []).getD 0 M.zero).key = false) : ∃ d, M.walk (h :: qs.flatten) (h :: qs.flatten).length 0 = some ((h :: qs.flatten).length, d) ∧ d ≤ D + 1 := by
  have hL := made_length h qs
  have hpos : ∀ j, j < qs.length → 0 < (qs.getD j []).length := fun j hj => by
    obtain ⟨p, k, d, e, hv, _⟩ := hq j hj
    rw [e, setKey_length]; exact (fault_len hv).1
  have hmono : ∀ j, j < qs.length → tot qs (j + 1) ≤ tot qs qs.length := fun j hj => tot_le qs qs.length (j + 1) (by omega) (Nat.le_refl _)
  have hfc : M.firstCode (h :: qs.flatten) = 0 := by
    refine first_all fun c hc => ?_
    rcases List.mem_cons.1 hc with rfl | hc
    · exact hcode
    · obtain ⟨j, hj, hm⟩ := mem_part hc
      obtain ⟨p, k, d, e, hv, ht, _⟩ := hq j hj
      rw [e] at hm
      have hz := M.first_zero (M.fault_zero hv).2.2.1
      cases p with
      | nil => simp [setKey] at hm
      | cons c0 r =>
        simp only [setKey, List.mem_cons] at hm
        rcases hm with rfl | hm
        · exact code_setkey (hz c0 (by simp)) ht
        · exact hz c (by simp [hm])
  obtain ⟨f, hf⟩ : ∃ f, (h :: qs.flatten).length = f + 1 := ⟨tot qs qs.length, hL⟩
  have hwalk : ∀ j, j < qs.length → ∃ d, M.walk (h :: qs.flatten) f (tot qs j + 1) = some (tot qs (j + 1) + 1, d) ∧ d ≤ D := by
    intro j hj
    obtain ⟨p, k, d, e, hv, ht, hw, hd⟩ := hq j hj
    have hpl := (fault_len hv).1
    have hql : (qs.getD j []).length = p.length := by rw [e, setKey_length]
    have hts := tot_succ qs j hj
    have hm := hmono j hj
    have hs : M.Sub p (h :: qs.flatten) (tot qs j + 1) (tot qs (j + 1) + 1) := by
      have hat : ∀ i, i < p.length → (h :: qs.flatten).getD (tot qs j + 1 + i) M.zero = (setKey p k).getD i M.zero := fun i hi => by rw [made_at h qs j i hj (by omega), e]
      refine ⟨by omega, by omega, by omega, ?_, ?_, ?_⟩
      · intro i hi
        rw [hat i hi]
        by_cases h0 : i = 0
        · subst h0; rw [setKey_zero p k (by intro e; rw [e] at hpl; simp at hpl)]
        · rw [setKey_getD p k i (by omega)]
      · intro i hi
        rw [hat i hi]
        by_cases h0 : i = 0
        · subst h0; rw [setKey_zero p k (by intro e; rw [e] at hpl; simp at hpl)]
        · rw [setKey_getD p k i (by omega)]
      · intro i h0 hi
        rw [hat i hi, setKey_getD p k i h0]
    have hw2 := M.walk_le p p.length f (by omega) 0 _ hw
    have := M.walk_sup hs f 0 _ _ (by omega) hw2
    rw [Nat.add_zero, show tot qs j + 1 + p.length = tot qs (j + 1) + 1 from by omega] at this
    exact ⟨d, this, hd⟩
  have hfirst : ∀ j, j < qs.length → (h :: qs.flatten).getD (tot qs j + 1) M.zero = (qs.getD j []).getD 0 M.zero := fun j hj => made_at h qs j 0 hj (hpos j hj)
  have hbad : ∀ j, j < qs.length → M.bad (h :: qs.flatten) h j (tot qs j + 1) (M.lastK (h :: qs.flatten) (fun j => tot qs j + 1) j) = false := by
    intro j hj
    have hm := hmono j hj
    have hts := tot_succ qs j hj
    have hp0 := hpos j hj
    unfold M.bad
    rw [if_pos (by omega), hfirst j hj]
    rw [Bool.or_eq_false_iff]
    refine ⟨?_, ?_⟩
    · by_cases hk : h.kind = 5
      · rw [h5 hk j hj]; simp
      · simp [hk]
    · by_cases hk : h.kind = 6
      · by_cases h0 : 0 < j
        · have h7 := h6 hk (j - 1) (by omega)
          rw [show j - 1 + 1 = j from by omega] at h7
          unfold M.lastK
          rw [if_neg (by omega), hfirst (j - 1) (by omega), h7]
          simp
        · simp [h0]
      · simp [hk]
  obtain ⟨d', hk, hd'⟩ := M.kids_made (h :: qs.flatten) h f D qs.length (fun j => tot qs j + 1) hwalk hbad qs.length 0 0 (by omega) (by omega)
  have hw : M.walk (h :: qs.flatten) (h :: qs.flatten).length 0 = some ((h :: qs.flatten).length, d' + 1) := by
    rw [hf, M.walk]
    simp only [List.getD_cons_zero]
    rw [hn, Int.toNat_natCast]
    have h0 : M.lastK (h :: qs.flatten) (fun j => tot qs j + 1) 0 = ByteArray.empty := rfl
    rw [h0] at hk
    simp only [tot_zero, Nat.zero_add] at hk
    simp only [Nat.zero_add]
    rw [hk]
    simp only [Option.map_some]
    rw [← hL, hf]
  exact ⟨_, hw, by omega⟩
theorem arr_deep {D : Nat} {ps : List (List M.Cl)} (hv : ∀ j, j < ps.length → M.valueFault (ps.getD j []) = 0) (hd : ∀ j, j < ps.length → LaidD D (ps.getD j [])) (hlen : tot ps ps.length + 1 ≤ 200) (hn : ps.length ≤ 200) : ∃ d, M.walk (arrV ps) (arrV ps).length 0 = some ((arrV ps).length, d) ∧ d ≤ D + 1 := by
  have e : arrV ps = headCl 5 ps.length :: ps.flatten := by unfold arrV arrK; rw [List.take_length]
  rw [e]
  refine made_deep _ ps ?_ empty_toList rfl hlen hd (fun _ j hj => ?_) (fun h => absurd (show (5 : Int) = 6 from h) (by decide))
  · unfold headCl M.cellCode
    simp only
    rw [if_neg (by omega), if_neg, if_neg (by omega), if_pos ⟨by decide, by decide⟩]
    intro h
    rcases h with h | h | h
    · exact h.1 rfl
    · exact h.1 empty_toList
    · exact h.2.1 rfl
  · rw [fault_key (hv j hj)]; exact empty_toList
/-- A part of a value is less deep. -/
theorem subs_deep {v : List M.Cl} (hv : M.valueFault v = 0) {d0 : Nat} (hw0 : M.walk v v.length 0 = some (v.length, d0)) {j : Nat} (hj : j < M.arity v 0) : ∃ d, M.walk (part v (M.iter v j 1)) (part v (M.iter v j 1)).length 0 = some ((part v (M.iter v j 1)).length, d) ∧ d + 1 ≤ d0 := by
  have hl1 := (M.fault_zero hv).1
  have hl2 := (M.fault_zero hv).2.1
  obtain ⟨h1, h2, h3, _⟩ := M.places_in hv 0 (by omega)
  obtain ⟨ha1, ha2⟩ := h1 j hj
  simp only [Nat.zero_add] at ha1 ha2
  obtain ⟨f, hf⟩ : ∃ f, v.length = f + 1 := ⟨v.length - 1, by omega⟩
  have hw0' := hw0
  rw [hf] at hw0'
  simp only [M.walk, Option.map_eq_some_iff] at hw0'
  obtain ⟨⟨e1, d1⟩, h4, h5⟩ := hw0'
  simp only [Prod.mk.injEq] at h5
  obtain ⟨h5a, h5b⟩ := h5
  have hkd := (M.kids_depth v _ f (M.walk_depth v f) _ _ _ _ _ _ _ h4 (by omega) (by omega)).2 (M.iter v j 1) (by omega) (by omega)
  obtain ⟨e2, d2, hw2, hd2⟩ := hkd
  have hav : M.iter v j 1 < v.length := by omega
  have hw3 := M.walk_le v f v.length (by omega) _ _ hw2
  have he : M.endOf v (M.iter v j 1) = e2 := M.endOf_of (Nat.le_refl _) hw3
  have hg := end_gt hv hav
  have hpl := part_len hv hav
  have hs := M.walk_sub (part_sub hv hav) v.length 0 e2 d2 (by omega) hw3 (by omega)
  have hw := M.walk_less (part v (M.iter v j 1)) v.length (part v (M.iter v j 1)).length 0 _ d2 (by omega) hs (by omega)
  refine ⟨d2, ?_, by omega⟩
  rw [hw, hpl, he]
/-- A value without parts is one cell. -/
theorem leaf_one {v : List M.Cl} (hv : M.valueFault v = 0) {d0 : Nat} (hw0 : M.walk v v.length 0 = some (v.length, d0)) (hn : (v.getD 0 M.zero).n = 0) : v.length = 1 ∧ d0 = 1 := by
  have hl1 := (M.fault_zero hv).1
  obtain ⟨f, hf⟩ : ∃ f, v.length = f + 1 := ⟨v.length - 1, by omega⟩
  rw [hf] at hw0
  rw [M.walk, hn] at hw0
  simp [M.kids] at hw0
  omega
namespace Al
theorem pathC_deep {p : List M.Cl} (h : ∀ c ∈ p, Pth.Stp c) (hl : p.length ≤ 199) : LaidD 2 (pathC p) := by
  have hc : ∀ j, j < p.length → M.cellCode (p.getD j M.zero) = 0 ∧ (p.getD j M.zero).key.toList = [] ∧ (p.getD j M.zero).n = 0 := fun j hj => by
    have hs := h _ (getD_mem p j hj)
    have hc := Pth.cell_code hs.val (i := 0) (by simp)
    have hk := fault_key hs.val
    simp only [List.getD_cons_zero] at hc hk
    generalize p.getD j M.zero = c at *
    exact ⟨hc, by rw [hk]; exact empty_list, Pth.step_n hc (by unfold Pth.isStep; rcases hs.kd with e | e <;> simp [e])⟩
  have hd := arr_deep (D := 1) (ps := ones p) (ones_valid h) (fun j hj => by
    rw [ones_length] at hj
    rw [ones_getD p j hj]
    obtain ⟨a, b, c⟩ := hc j hj
    exact laidD_of (one_valid a b c).1 (one_valid a b c).2 (Nat.le_refl _)) (by rw [tot_ones (fun j hj => by rw [ones_length] at hj; rw [ones_getD p j hj]; rfl) _ (Nat.le_refl _), ones_length]; omega) (by rw [ones_length]; omega)
  rw [arr_ones] at hd
  obtain ⟨d, h1, h2⟩ := hd
  exact laidD_of (pathC_ok h hl).1 h1 h2
/-- An event is a value, and not great. -/
theorem laid_ok {cs : List M.Cl} {xs : List (List M.Cl)} (hs : ∀ c ∈ cs, Pth.Stp c) (hl : cs.length ≤ 100) (hx : xs = [] ∨ ∃ v, xs = [v] ∧ M.valueFault v = 0 ∧ LaidD 19 v ∧ v.length ≤ 90) : M.valueFault (Sev.laid cs xs) = 0 := by
  have h1 := (pathC_ok hs (by omega)).1
  have h2 := pathC_deep hs (by omega)
  have h3 := pathC_length cs
  unfold Sev.laid
  rcases hx with rfl | ⟨v, rfl, hv, hd, hvl⟩
  · refine arr_valid (fun j hj => ?_) (fun j hj => ?_) ?_ (by simp)
    · have : j = 0 := by simpa using hj
      subst this; exact h1
    · have : j = 0 := by simpa using hj
      subst this; exact h2.laid (by omega)
    · simp [tot]; omega
  · refine arr_valid (fun j hj => ?_) (fun j hj => ?_) ?_ (by simp)
    · have : j = 0 ∨ j = 1 := by simp at hj; omega
      rcases this with rfl | rfl
      · exact h1
      · exact hv
    · have : j = 0 ∨ j = 1 := by simp at hj; omega
      rcases this with rfl | rfl
      · exact h2.laid (by omega)
      · exact hd.laid (by omega)
    · simp [tot]; omega
/-- The events of a value, behind steps, by fuel. -/
def evs : Nat → List M.Cl → List M.Cl → List (List M.Cl)
  | 0, _, _ => []
  | f + 1, v, ahead => if (v.getD 0 M.zero).n = 0 then [Sev.laid ahead [v]] else allK (evs f) (decide ((v.getD 0 M.zero).kind = 6)) (keysAt v 0) (subs v 0) ahead (M.arity v 0) ++ [Sev.laid (ahead ++ [stepAt (decide ((v.getD 0 M.zero).kind = 6)) (keysAt v 0) (M.arity v 0 - 1)]) []]
theorem evs_leaf {f : Nat} {v ahead : List M.Cl} (h : (v.getD 0 M.zero).n = 0) : evs (f + 1) v ahead = [Sev.laid ahead [v]] := by rw [evs, if_pos h]
theorem evs_more {f : Nat} {v ahead : List M.Cl} (h : ¬ (v.getD 0 M.zero).n = 0) : evs (f + 1) v ahead = allK (evs f) (decide ((v.getD 0 M.zero).kind = 6)) (keysAt v 0) (subs v 0) ahead (M.arity v 0) ++ [Sev.laid (ahead ++ [stepAt (decide ((v.getD 0 M.zero).kind = 6)) (keysAt v 0) (M.arity v 0 - 1)]) []] := by rw [evs, if_neg h]
/-- There are no more events than cells. -/
theorem evs_len : ∀ (f : Nat) (v ahead : List M.Cl), M.valueFault v = 0 → (evs f v ahead).length ≤ v.length
  | 0, v, ahead, _ => by simp [evs]
  | f + 1, v, ahead, hv => by
    have hl := (M.fault_zero hv).1
    by_cases h0 : (v.getD 0 M.zero).n = 0
    · rw [evs_leaf h0, List.length_singleton]; omega
    have key : ∀ k, k ≤ M.arity v 0 → (allK (evs f) (decide ((v.getD 0 M.zero).kind = 6)) (keysAt v 0) (subs v 0) ahead k).length + 1 ≤ M.iter v k 1 := by
      intro k
      induction k with
      | zero => intro _; exact Nat.le_refl _
      | succ k ih =>
        intro hk
        have i1 := ih (by omega)
        obtain ⟨_, p2, p3⟩ := part_lt hv (show k < M.arity v 0 by omega)
        have h := evs_len f (part v (M.iter v k 1)) (ahead ++ [stepAt (decide ((v.getD 0 M.zero).kind = 6)) (keysAt v 0) k]) p3
        rw [allK, List.length_append, subs_getD v 0 k (by omega), Nat.zero_add]
        omega
    have h1 := key _ (Nat.le_refl _)
    have h2 := (iter_le hv (Nat.le_refl (M.arity v 0))).2
    rw [evs_more h0, List.length_append, List.length_singleton]
    omega
/-- Each event is a value. -/
theorem evs_ok : ∀ (f : Nat) (v ahead e : List M.Cl) (d : Nat), M.valueFault v = 0 → M.walk v v.length 0 = some (v.length, d) → (∀ c ∈ ahead, Pth.Stp c) → ahead.length + d ≤ 20 → e ∈ evs f v ahead → M.valueFault e = 0
  | 0, v, ahead, e, d, _, _, _, _, he => by simp [evs] at he
  | f + 1, v, ahead, e, d, hv, hw, hs, hd, he => by
    have hl := (M.fault_zero hv).1
    by_cases h0 : (v.getD 0 M.zero).n = 0
    · rw [evs_leaf h0, List.mem_singleton] at he
      obtain ⟨q1, q2⟩ := leaf_one hv hw h0
      rw [he]
      exact laid_ok hs (by omega) (.inr ⟨v, rfl, hv, laidD_of hv hw (by omega), by omega⟩)
    have hstp : ∀ k, k < M.arity v 0 → ∀ c ∈ ahead ++ [stepAt (decide ((v.getD 0 M.zero).kind = 6)) (keysAt v 0) k], Pth.Stp c := fun k hk c hc => by
      rcases List.mem_append.1 hc with hc | hc
      · exact hs c hc
      · rw [List.mem_singleton.1 hc]; exact (step_to hv hk).1
    have hn : 0 ≤ (v.getD 0 M.zero).n := Sev.n_ge hv
    have ha : 0 < M.arity v 0 := by unfold M.arity; omega
    have hd1 : 1 ≤ d := by obtain ⟨d1, _, h⟩ := subs_deep hv hw ha; omega
    rw [evs_more h0, List.mem_append] at he
    rcases he with he | he
    · obtain ⟨k, hk, he⟩ := mem_allK he
      obtain ⟨_, p2, p3⟩ := part_lt hv hk
      obtain ⟨d1, hw1, hd2⟩ := subs_deep hv hw hk
      rw [subs_getD v 0 k hk, Nat.zero_add] at he
      exact evs_ok f _ _ e d1 p3 hw1 (hstp k hk) (by rw [List.length_append, List.length_singleton]; omega) he
    · rw [List.mem_singleton] at he
      rw [he]
      exact laid_ok (hstp _ (by omega)) (by rw [List.length_append, List.length_singleton]; omega) (.inl rfl)
/-- What StreamOf tells. -/
def streamOut (v : List M.Cl) : Int × List (List M.Cl) := if M.valueFault v ≠ 0 then (M.valueFault v, []) else (0, evs v.length v [])
theorem stream_bad {v : List M.Cl} (h : M.valueFault v ≠ 0) : streamOut v = (M.valueFault v, []) := if_pos h
theorem stream_ok {v : List M.Cl} (h : M.valueFault v = 0) : streamOut v = (0, evs v.length v []) := if_neg (by simp [h])
theorem stream_fine {v : List M.Cl} (hv : M.valueFault v = 0) : (evs v.length v []).length ≤ 200 ∧ ∀ i, i < (evs v.length v []).length → M.valueFault ((evs v.length v []).getD i []) = 0 := by
  refine ⟨Nat.le_trans (evs_len _ v [] hv) (M.fault_zero hv).2.1, fun i hi => ?_⟩
  obtain ⟨d, hw, hd⟩ := (M.fault_zero hv).2.2.2.2
  have hm : (evs v.length v []).getD i [] ∈ evs v.length v [] := by rw [List.getD_eq_getElem?_getD, List.getElem?_eq_getElem hi]; exact List.getElem_mem hi
  exact evs_ok _ v [] _ d hv hw (fun c hc => by simp at hc) (by simp; omega) hm
end Al
end Go.Proofs.YtcglddahphkcpaaGreatDoor

namespace Go.Proofs.YtcglddahphkcpaaGreatDoor
open Go.RowKit
set_option linter.unusedVariables false
set_option linter.unusedSimpArgs false
namespace Al
/-- A row of values, each in memory of its own, none of it in a bad block. -/
def Sp (w : World) (B : Nat) (v : Value) (ps : List (List M.Cl)) (bad : Nat → Prop) : Prop :=
  ∃ ss : List Value, ss.length = ps.length ∧ w.ownsRow B 24 1 v ps.length ss ∧ (∀ i, i < ps.length → Res w B (ss.getD i (.slice none 0 0)) (ps.getD i [])) ∧ (∀ i j, i < j → j < ps.length → ∀ b, (ss.getD i (.slice none 0 0)).ownBlock = some b → (ss.getD j (.slice none 0 0)).ownBlock ≠ some b) ∧ ∀ i, i < ps.length → ∀ b, (ss.getD i (.slice none 0 0)).ownBlock = some b → ¬ bad b
theorem Sp.sd {w : World} {B : Nat} {v : Value} {ps : List (List M.Cl)} {bad : Nat → Prop} (h : Sp w B v ps bad) : SD w B v ps := by
  obtain ⟨ss, h1, h2, h3, h4, _⟩ := h; exact ⟨ss, h1, h2, h3, h4⟩
theorem Sp.nil (w : World) (B : Nat) (bad : Nat → Prop) : Sp w B (.slice none 0 0) [] bad := ⟨[], rfl, World.ownsRow_nil _ _ _ _, fun i hi => by simp at hi, fun i j _ hj => by simp at hj, fun i hi => by simp at hi⟩
theorem Sp.below {w w' : World} {B : Nat} {v : Value} {ps : List (List M.Cl)} {bad : Nat → Prop} (h : Sp w B v ps bad) (hb : Below w.heap.size w w') : Sp w' B v ps bad := by
  obtain ⟨ss, h1, h2, h3, h4⟩ := h
  exact ⟨ss, h1, ownsRow_below (B := 0) h2 hb, fun i hi => (h3 i hi).below hb, h4⟩
theorem Sp.less {w : World} {B : Nat} {v : Value} {ps : List (List M.Cl)} {bad bad' : Nat → Prop} (h : Sp w B v ps bad') (hb : ∀ g, bad g → bad' g) : Sp w B v ps bad := by
  obtain ⟨ss, h1, h2, h3, h4, h5⟩ := h
  exact ⟨ss, h1, h2, h3, h4, fun i hi b e k => h5 i hi b e (hb b k)⟩
/-- What laying events does. -/
structure Evd (base : Nat) (w w' : World) (ev sv : Value) (ahead : List M.Cl) (bad : Nat → Prop) (L : List (List M.Cl)) (ev' : Value) : Prop where
  row : Sp w' base ev' L bad
  st : w'.ownsRow base 111 5 sv ahead.length (flat ahead)
  os : w'.os = w.os
  tape : w'.tape = w.tape
  output : w'.output = w.output
  size : w.heap.size ≤ w'.heap.size
  block : ∀ k, k < w.heap.size → some k ≠ ev.ownBlock → some k ≠ sv.ownBlock → w'.heap[k]? = w.heap[k]?
  ne : Nw w ev ev'
theorem Evd.start {base : Nat} {w : World} {ev sv : Value} {ahead : List M.Cl} {bad : Nat → Prop} {L : List (List M.Cl)} (h : Sp w base ev L bad) (hs : w.ownsRow base 111 5 sv ahead.length (flat ahead)) : Evd base w w ev sv ahead bad L ev := ⟨h, hs, rfl, rfl, rfl, Nat.le_refl _, fun _ _ _ _ => rfl, .refl _ _⟩
theorem Evd.below {base : Nat} {w w1 w2 : World} {ev sv : Value} {ahead : List M.Cl} {bad : Nat → Prop} {L : List (List M.Cl)} {ev' : Value} (h : Evd base w w1 ev sv ahead bad L ev') (hb : Below w1.heap.size w1 w2) : Evd base w w2 ev sv ahead bad L ev' :=
  ⟨h.row.below hb, row_below h.st hb, hb.os.trans h.os, hb.tape.trans h.tape, hb.output.trans h.output, Nat.le_trans h.size hb.size, fun k hk a b => (hb.block k (Nat.lt_of_lt_of_le hk h.size)).trans (h.block k hk a b), h.ne⟩
theorem Evd.low {base : Nat} {w w' : World} {ev sv : Value} {ahead : List M.Cl} {bad : Nat → Prop} {L L0 : List (List M.Cl)} {ev' : Value} (h : Evd base w w' ev sv ahead bad L ev') (hl : Sp w base ev L0 bad) (hs : w.ownsRow base 111 5 sv ahead.length (flat ahead)) (hb : base ≤ w.heap.size) : Below base w w' :=
  ⟨h.os, h.tape, h.output, h.size, fun k hk => h.block k (by omega) (fun e => by obtain ⟨ss, _, h2, _⟩ := hl; have := ownsRow_base h2 k e.symm; omega) (fun e => by have := ownsRow_base hs k e.symm; omega)⟩
/-- The frame keeps what is of another type. -/
theorem Evd.other {base : Nat} {w w' : World} {ev sv : Value} {ahead : List M.Cl} {bad : Nat → Prop} {L L0 : List (List M.Cl)} {ev' : Value} (h : Evd base w w' ev sv ahead bad L ev') (hl : Sp w base ev L0 bad) (hs : w.ownsRow base 111 5 sv ahead.length (flat ahead)) {c : Nat} {t : TypeId} {xs : List Value} (ho : Own w c t xs) (h1 : 24 ≠ t) (h2 : 111 ≠ t) : Own w' c t xs := by
  obtain ⟨ss, _, hr, _⟩ := hl
  have n1 := other_block hr ho h1
  have n2 := other_block hs ho h2
  have hlt := ho.lt
  obtain ⟨a, a1, a2⟩ := ho
  exact ⟨a, (h.block c hlt (Ne.symm n1) (Ne.symm n2)).trans a1, a2⟩
/-- An event is laid behind the others. -/
theorem Evd.push {base : Nat} {w w1 w2 w4 : World} {o : Obj} {ev sv s ev1 v' : Value} {ahead p : List M.Cl} {bad : Nat → Prop} {L : List (List M.Cl)} (h : Evd base w w1 ev sv ahead bad L ev1) (hb : Below w1.heap.size w1 w2) (hbw : base ≤ w.heap.size) (hbad : ∀ g, bad g → g < w1.heap.size) (hr : Res w2 w1.heap.size s p) {ss : List Value} (hl : ss.length = L.length) (hown : w1.ownsRow base 24 1 ev1 L.length ss) (hres : ∀ i, i < L.length → Res w1 base (ss.getD i (.slice none 0 0)) (L.getD i []))
    (hdis : ∀ i j, i < j → j < L.length → ∀ b, (ss.getD i (.slice none 0 0)).ownBlock = some b → (ss.getD j (.slice none 0 0)).ownBlock ≠ some b) (hap : ∀ i, i < L.length → ∀ b, (ss.getD i (.slice none 0 0)).ownBlock = some b → ¬ bad b)
    (hg : (w2.alloc o).grownBy w4 ev1.ownBlock) (ho : w4.ownsRow base 24 1 v' (L.length + 1) (ss ++ [s])) (hn : v'.ownBlock = ev1.ownBlock ∨ ∀ g, v'.ownBlock = some g → (w2.alloc o).heap.size ≤ g) : Evd base w w4 ev sv ahead bad (L ++ [p]) v' := by
  have hs1 := h.size
  have hs2 := hb.size
  have hs3 : w2.heap.size ≤ (w2.alloc o).heap.size := by simp
  have hown2 := row_below hown hb
  have hown3 : (w2.alloc o).ownsRow base 24 1 ev1 L.length ss := hown2.alloc o
  have b3 : Below w1.heap.size w1 (w2.alloc o) := hb.alloc hs2 o
  have hst3 := row_below h.st b3
  refine ⟨?_, ?_, (hg.os.trans b3.os).trans h.os, (hg.tape.trans b3.tape).trans h.tape, (hg.output.trans b3.output).trans h.output, by have := hg.size; omega, fun k hk a b => ?_, ?_⟩
  · obtain ⟨ss', q1, q2, q3, q4⟩ := Sev.SD.snoc (w2 := w2) (w3 := w4) (o := o) (B := base) (s := ev1) (v' := v') (sp := s) (ps := L) (p := p) (ss := ss) hl hown2 (fun i hi => (hres i hi).below hb) hdis (hr.mono (by omega)) (fun j hj b hb1 hb2 => by have := (hres j hj).lt b hb1; have := hr.base b hb2; omega) hg ho
    have e : ss' = ss ++ [s] := by
      obtain ⟨_, ⟨h2, h3⟩ | ⟨g, cap, cur, h2, h3, h4, h5, h6, h7, h8⟩⟩ := q2
      · simp at h3
      · obtain ⟨_, ⟨k2, k3⟩ | ⟨g', cap', cur', k2, k3, k4, k5, k6, k7, k8⟩⟩ := ho
        · simp at k3
        · rw [h2] at k2
          simp only [Value.slice.injEq, Option.some.injEq, Addr.mk.injEq] at k2
          rw [← k2.1.1, h4] at k4
          simp only [Option.some.injEq, Obj.cells.injEq] at k4
          have el : (L ++ [p]).length = L.length + 1 := by simp
          rw [el] at h8
          rw [← h8, ← k8, k4.1]
    refine ⟨ss', q1, q2, q3, q4, fun i hi b hb1 hb2 => ?_⟩
    rw [e] at hb1
    rw [List.length_append] at hi
    simp only [List.length_cons, List.length_nil] at hi
    by_cases hh : i < L.length
    · rw [List.getD_eq_getElem?_getD, List.getElem?_append_left (by omega), ← List.getD_eq_getElem?_getD] at hb1
      exact hap i hh b hb1 hb2
    · have hi' : i = L.length := by omega
      rw [hi', List.getD_eq_getElem?_getD, List.getElem?_append_right (by omega), hl, Nat.sub_self] at hb1
      have := hr.base b hb1
      have := hbad b hb2
      omega
  · obtain ⟨q1, q2 | ⟨g, cap, cur, e1, q3, q4, q5⟩⟩ := hst3
    · exact ⟨q1, .inl q2⟩
    · have hne : ev1.ownBlock ≠ some g := other_block hown3 (b := g) (t := 111) (ys := cur.toList) ⟨cur, q4, rfl⟩ (by decide)
      exact ⟨q1, .inr ⟨g, cap, cur, e1, q3, (hg.block g (Array.getElem?_eq_some_iff.1 q4).1 (fun e => hne e.symm)).trans q4, q5⟩⟩
  · refine ((hg.block k (by omega) (fun e => ?_)).trans (b3.block k (by omega))).trans (h.block k hk a b)
    rcases h.ne with q | q
    · exact a (by rw [← q]; exact e)
    · have := q k e.symm; omega
  · refine h.ne.trans (w1 := w1) ?_ hs1
    rcases hn with hn | hn
    · exact .inl hn
    · exact .inr (fun g hg => by have := hn g hg; omega)
/-- The steps grow by one; then what lies behind is laid. -/
theorem Evd.child {base : Nat} {w w1 w2 : World} {ev sv ev1 sv1 : Value} {ahead : List M.Cl} {bad : Nat → Prop} {L : List (List M.Cl)} {c : M.Cl} (h : Evd base w w1 ev sv ahead bad L ev1) (hs : w.ownsRow base 111 5 sv ahead.length (flat ahead)) (hbad : ∀ g, bad g → g < w.heap.size) (hsv : ∀ g, sv.ownBlock = some g → bad g)
    (ho1 : w2.ownsRow base 111 5 sv1 (ahead.length + 1) (flat (ahead ++ [c]))) (ho0 : w2.ownsRow base 111 5 sv ahead.length (flat ahead)) (hg : w1.grownBy w2 sv.ownBlock)
    (hcase : (∃ g cap, sv = .slice (some ⟨g, 0, none⟩) ahead.length cap ∧ sv1 = .slice (some ⟨g, 0, none⟩) (ahead.length + 1) cap) ∨ ((∀ g, sv1.ownBlock = some g → w1.heap.size ≤ g) ∧ w1.grownBy w2 none)) :
    Sp w2 base ev1 L (fun g => bad g ∨ sv1.ownBlock = some g) ∧ (∀ g, (bad g ∨ sv1.ownBlock = some g) → g < w2.heap.size) ∧
    (∀ (w3 : World) (ev3 : Value) (L3 : List (List M.Cl)), Evd base w2 w3 ev1 sv1 (ahead ++ [c]) (fun g => bad g ∨ sv1.ownBlock = some g) L3 ev3 → Evd base w w3 ev sv ahead bad L3 ev3) := by
  obtain ⟨ss, hl, hown, hres, hdis, hap⟩ := h.row
  have hs1 := h.size
  have hs2 := hg.size
  have hnev : ∀ g c, w1.heap[g]? = some (.cells c 111 (0, 0)) → ev1.ownBlock ≠ some g := fun g c e => other_block hown (b := g) (t := 111) (ys := c.toList) ⟨c, e, rfl⟩ (by decide)
  have hevs : ∀ g, ev1.ownBlock = some g → sv.ownBlock ≠ some g := fun g hg1 hg2 => by
    obtain ⟨q1, ⟨q2, _⟩ | ⟨g', cap, cur, e1, q3, q4, q5⟩⟩ := h.st
    · rw [q2] at hg2; cases hg2
    · rw [e1] at hg2; cases hg2
      exact hnev _ cur q4 hg1
  have hown2 : w2.ownsRow base 24 1 ev1 L.length ss := by
    obtain ⟨q1, q2 | ⟨g, cap, cur, e1, q3, q4, q5⟩⟩ := hown
    · exact ⟨q1, .inl q2⟩
    · exact ⟨q1, .inr ⟨g, cap, cur, e1, q3, (hg.block g (Array.getElem?_eq_some_iff.1 q4).1 (fun e => hevs g (by rw [e1]; rfl) e.symm)).trans q4, q5⟩⟩
  have hres2 : ∀ i, i < L.length → Res w2 base (ss.getD i (.slice none 0 0)) (L.getD i []) := fun i hi => by
    have hr := hres i hi
    have hne := hap i hi
    obtain ⟨hn, q1 | ⟨b, cap, q1, q2, q3, xs, ⟨a, a1, a2⟩, q5⟩⟩ := hr
    · exact ⟨hn, .inl q1⟩
    · refine ⟨hn, .inr ⟨b, cap, q1, q2, q3, xs, ⟨a, (hg.block b (Array.getElem?_eq_some_iff.1 a1).1 (fun e => hne b (by rw [q1]; rfl) (hsv b e.symm))).trans a1, a2⟩, q5⟩⟩
  have hrl : ∀ i, i < L.length → ∀ b, (ss.getD i (.slice none 0 0)).ownBlock = some b → b < w1.heap.size := fun i hi b e => (hres i hi).lt b e
  refine ⟨⟨ss, hl, hown2, hres2, hdis, fun i hi b hb1 hb2 => ?_⟩, fun g hg1 => ?_, fun w3 ev3 L3 k => ?_⟩
  · rcases hb2 with hb2 | hb2
    · exact hap i hi b hb1 hb2
    · rcases hcase with ⟨g', cap, e1, e2⟩ | ⟨hn, _⟩
      · rw [e2] at hb2; cases hb2
        exact hap i hi g' hb1 (hsv g' (by rw [e1]; rfl))
      · have := hn b hb2; have := hrl i hi b hb1; omega
  · rcases hg1 with hg1 | hg1
    · have := hbad g hg1; omega
    · exact (World.ownsRow.lt ho1 g hg1).2
  · refine ⟨k.row.less fun g hg1 => .inl hg1, ?_, (k.os.trans hg.os).trans h.os, (k.tape.trans hg.tape).trans h.tape, (k.output.trans hg.output).trans h.output, Nat.le_trans hs1 (Nat.le_trans hs2 k.size), fun j hj a1 a2 => ?_, h.ne.trans (k.ne.imp id fun q g hg1 => Nat.le_trans hs2 (q g hg1)) hs1⟩
    · rcases hcase with ⟨g', cap, e1, e2⟩ | ⟨hn, _⟩
      · have h5 := k.st
        rw [e2, flat_append, List.length_append] at h5
        rw [e1]
        exact owns_prefix (m := 1) h5 (by rw [flat_length])
      · have hsl : ∀ g, sv.ownBlock = some g → g < w.heap.size := fun g hg => (World.ownsRow.lt hs g hg).2
        obtain ⟨q1, q2 | ⟨g, cap, cur, e1, q3, q4, q5⟩⟩ := ho0
        · exact ⟨q1, .inl q2⟩
        · have hgl : g < w.heap.size := hsl g (by rw [e1]; rfl)
          refine ⟨q1, .inr ⟨g, cap, cur, e1, q3, (k.block g (Array.getElem?_eq_some_iff.1 q4).1 (fun e => hevs g e.symm (by rw [e1]; rfl)) (fun e => by have := hn g e.symm; omega)).trans q4, q5⟩⟩
    · refine ((k.block j (by omega) (fun e => ?_) (fun e => ?_)).trans (hg.block j (by omega) (fun e => a2 e))).trans (h.block j hj a1 a2)
      · rcases h.ne with q | q
        · exact a1 (by rw [← q]; exact e)
        · have := q j e.symm; omega
      · rcases hcase with ⟨g', cap, e1, e2⟩ | ⟨hn, _⟩
        · rw [e2] at e; cases e
          exact a2 (by rw [e1]; rfl)
        · have := hn j e.symm; omega
/-- The events of the first parts are no more than the cells ahead of the next one. -/
theorem evs_bound (f : Nat) {v : List M.Cl} (hv : M.valueFault v = 0) (ahead : List M.Cl) : ∀ k, k ≤ M.arity v 0 → (allK (evs f) (decide ((v.getD 0 M.zero).kind = 6)) (keysAt v 0) (subs v 0) ahead k).length + 1 ≤ M.iter v k 1
  | 0, _ => Nat.le_refl _
  | k + 1, hk => by
    have i1 := evs_bound f hv ahead k (by omega)
    obtain ⟨_, p2, p3⟩ := part_lt hv (show k < M.arity v 0 by omega)
    have h := evs_len f (part v (M.iter v k 1)) (ahead ++ [stepAt (decide ((v.getD 0 M.zero).kind = 6)) (keysAt v 0) k]) p3
    rw [allK, List.length_append, subs_getD v 0 k (by omega), Nat.zero_add]
    omega
theorem evs_bound_at (f : Nat) {v : List M.Cl} (hv : M.valueFault v = 0) {a : Nat} (ha : a < v.length) (ahead : List M.Cl) (k : Nat) (hk : k ≤ M.arity v a) : (allK (evs f) (decide ((v.getD a M.zero).kind = 6)) (keysAt v a) (subs v a) ahead k).length + 1 ≤ M.iter (part v a) k 1 := by
  have := evs_bound f (part_valid hv ha) ahead k (by rw [part_arity hv ha]; exact hk)
  rwa [part_zero hv ha, (subs_part hv ha).1, (subs_part hv ha).2] at this
theorem evs_part_leaf (f : Nat) {v : List M.Cl} (hv : M.valueFault v = 0) {a : Nat} (ha : a < v.length) (ahead : List M.Cl) (h : (v.getD a M.zero).n = 0) : evs (f + 1) (part v a) ahead = [Sev.laid ahead [part v a]] := evs_leaf (by rw [part_zero hv ha]; exact h)
theorem evs_part_more (f : Nat) {v : List M.Cl} (hv : M.valueFault v = 0) {a : Nat} (ha : a < v.length) (ahead : List M.Cl) (h : ¬ (v.getD a M.zero).n = 0) : evs (f + 1) (part v a) ahead = allK (evs f) (decide ((v.getD a M.zero).kind = 6)) (keysAt v a) (subs v a) ahead (M.arity v a) ++ [Sev.laid (ahead ++ [stepAt (decide ((v.getD a M.zero).kind = 6)) (keysAt v a) (M.arity v a - 1)]) []] := by
  rw [evs_more (by rw [part_zero hv ha]; exact h), part_zero hv ha, (subs_part hv ha).1, (subs_part hv ha).2, part_arity hv ha]
end Al
end Go.Proofs.YtcglddahphkcpaaGreatDoor
