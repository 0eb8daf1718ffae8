/-
  Paths, plainly: what PathFault, GetPath and SetPath tell. No word of the program is used here.
-/
import Derived.Test.YtcglddahphkcpaaGreatDoorV20
import Derived.Test.YtcglddahphkcpaaGreatDoorV27
namespace Go.Proofs.YtcglddahphkcpaaGreatDoor
open Go.RowKit
set_option linter.unusedVariables false

namespace Pth
def isStep (c : M.Cl) : Bool := decide (c.kind = 4) || decide (c.kind = 3)
/-- What PathFault tells. -/
def fault (p : List M.Cl) : Int := if M.valueFault p ≠ 0 then M.valueFault p else if (p.getD 0 M.zero).kind = 5 then (if (p.drop 1).all isStep = true then 0 else 6) else 6
theorem fault_bad {p : List M.Cl} (h : M.valueFault p ≠ 0) : fault p = M.valueFault p := if_pos h
theorem fault_kind {p : List M.Cl} (h : M.valueFault p = 0) (hk : (p.getD 0 M.zero).kind ≠ 5) : fault p = 6 := by unfold fault; rw [if_neg (by simp [h]), if_neg hk]
theorem fault_step {p : List M.Cl} (h : M.valueFault p = 0) (hk : (p.getD 0 M.zero).kind = 5) (hs : (p.drop 1).all isStep = false) : fault p = 6 := by unfold fault; rw [if_neg (by simp [h]), if_pos hk, if_neg (by rw [hs]; exact Bool.false_ne_true)]
theorem fault_ok {p : List M.Cl} (h : M.valueFault p = 0) (hk : (p.getD 0 M.zero).kind = 5) (hs : (p.drop 1).all isStep = true) : fault p = 0 := by unfold fault; rw [if_neg (by simp [h]), if_pos hk, if_pos hs]
theorem fault_no {p : List M.Cl} (h : fault p = 0) : M.valueFault p = 0 ∧ (p.getD 0 M.zero).kind = 5 ∧ (p.drop 1).all isStep = true := by
  unfold fault at h
  split at h
  · rename_i q; exact absurd h q
  rename_i q
  split at h
  · rename_i q2
    split at h
    · rename_i q3; exact ⟨by simpa using q, q2, q3⟩
    · cases h
  · cases h

theorem okOf {c : M.Cl} (h : M.cellCode c = 0) : c.ok := by
  unfold M.cellCode at h
  split at h
  · cases h
  split at h
  · cases h
  split at h
  · cases h
  split at h
  · rename_i h1 h2 h3 h4
    have t1 : c.text.size ≤ 60 := by have := h4.1; unfold M.textOk at this; rw [Bool.and_eq_true, decide_eq_true_eq] at this; exact this.1
    have t2 : c.key.size ≤ 60 := by have := h4.2; unfold M.textOk at this; rw [Bool.and_eq_true, decide_eq_true_eq] at this; exact this.1
    unfold M.Cl.ok
    omega
  · cases h
theorem oks {v : List M.Cl} (h : M.valueFault v = 0) : ∀ c ∈ v, c.ok := fun c hc => okOf (M.first_zero (M.fault_zero h).2.2.1 c hc)
theorem lens {v : List M.Cl} (h : M.valueFault v = 0) : 1 ≤ v.length ∧ v.length ≤ 200 := ⟨(M.fault_zero h).1, (M.fault_zero h).2.1⟩
theorem step_n {c : M.Cl} (h : M.cellCode c = 0) (hs : isStep c = true) : c.n = 0 := by
  unfold isStep at hs
  rw [Bool.or_eq_true, decide_eq_true_eq, decide_eq_true_eq] at hs
  unfold M.cellCode at h
  split at h
  · cases h
  split at h
  · cases h
  rename_i h2
  by_cases e : c.n = 0
  · exact e
  · exact absurd (.inr (.inr ⟨e, by omega, by omega⟩)) h2
theorem end_step {v : List M.Cl} (hv : M.valueFault v = 0) {a : Nat} (ha : a < v.length) (hn : (v.getD a M.zero).n = 0) : M.endOf v a = a + 1 := by
  obtain ⟨d, hw, h1, h2, _⟩ := M.endOf_spec hv a ha
  obtain ⟨_, q1, q2⟩ := M.walk_owe (M.fits_of hv) _ a _ _ hw
  by_cases e : M.endOf v a = a + 1
  · exact e
  · have q3 := q2 (a + 1) (by omega) (by omega)
    rw [show a + 1 - a = 1 by omega, M.owe_front, hn] at q3
    simp only [M.owe] at q3
    omega
theorem iter_step {v : List M.Cl} (hv : M.valueFault v = 0) {k : Nat} (hk : k < v.length) (h : ∀ i, 1 ≤ i → i ≤ k → (v.getD i M.zero).n = 0) : ∀ j, j ≤ k → M.iter v j 1 = j + 1 := by
  intro j
  induction j with
  | zero => intro _; rfl
  | succ j ih => intro hj; rw [M.iter_next, ih (by omega), end_step hv (by omega) (h (j + 1) (by omega) (by omega))]
theorem end_zero {v : List M.Cl} (hv : M.valueFault v = 0) : M.endOf v 0 = v.length := by
  obtain ⟨d, hw, _⟩ := (M.fault_zero hv).2.2.2.2
  exact M.endOf_of (Nat.le_refl _) hw
theorem cell_code {v : List M.Cl} (hv : M.valueFault v = 0) {i : Nat} (hi : i < v.length) : M.cellCode (v.getD i M.zero) = 0 := M.first_zero (M.fault_zero hv).2.2.1 _ (getD_mem v i hi)
theorem all_at {p : List M.Cl} (hs : (p.drop 1).all isStep = true) {i : Nat} (h1 : 1 ≤ i) (hi : i < p.length) : isStep (p.getD i M.zero) = true := by
  rw [List.all_eq_true] at hs
  refine hs _ ?_
  have : p.getD i M.zero = (p.drop 1)[i - 1]'(by rw [List.length_drop]; omega) := by
    rw [List.getElem_drop]
    simp only [show 1 + (i - 1) = i by omega]
    rw [List.getD_eq_getElem?_getD, List.getElem?_eq_getElem hi]; rfl
  rw [this]
  exact List.getElem_mem _
/-- Where all cells behind the first are strings and numbers, each is a part. -/
theorem places {p : List M.Cl} (hv : M.valueFault p = 0) (hs : (p.drop 1).all isStep = true) : M.arity p 0 + 1 = p.length ∧ ∀ j, j < M.arity p 0 → M.iter p j 1 = j + 1 := by
  have hl := (lens hv).1
  have hit := iter_step hv (k := p.length - 1) (by omega) (fun i h1 h2 => step_n (cell_code hv (by omega)) (all_at hs h1 (by omega)))
  obtain ⟨h1, h2, h3, _⟩ := M.places_in hv 0 (by omega)
  rw [end_zero hv] at h1 h2
  simp only [Nat.zero_add] at h1 h2
  have ha : M.arity p 0 + 1 = p.length := by
    by_cases e : M.arity p 0 ≤ p.length - 1
    · have := hit _ e; omega
    · have := h1 (p.length - 1) (by omega)
      rw [hit _ (Nat.le_refl _)] at this
      omega
  exact ⟨ha, fun j hj => hit j (by omega)⟩
/-- Where the first cells of all parts are strings and numbers, all cells are. -/
theorem all_of {p : List M.Cl} (hv : M.valueFault p = 0) (h : ∀ j, j < M.arity p 0 → isStep (p.getD (M.iter p j 1) M.zero) = true) : (p.drop 1).all isStep = true := by
  have hl := (lens hv).1
  obtain ⟨h1, h2, h3, _⟩ := M.places_in hv 0 (by omega)
  rw [end_zero hv] at h1 h2
  simp only [Nat.zero_add] at h1 h2
  have hit : ∀ j, j ≤ M.arity p 0 → M.iter p j 1 = j + 1 := by
    intro j
    induction j with
    | zero => intro _; rfl
    | succ j ih =>
      intro hj
      have e := ih (by omega)
      have q := h1 j (by omega)
      have s := h j (by omega)
      rw [M.iter_next]
      rw [e] at q s ⊢
      exact end_step hv (by omega) (step_n (cell_code hv (by omega)) s)
  have he := hit _ (Nat.le_refl _)
  rw [List.all_eq_true]
  intro c hc
  obtain ⟨i, hi, rfl⟩ := List.getElem_of_mem hc
  rw [List.length_drop] at hi
  rw [List.getElem_drop]
  have s := h i (by omega)
  rw [hit i (by omega), List.getD_eq_getElem?_getD, List.getElem?_eq_getElem (by omega)] at s
  simp only [Option.getD_some] at s
  simpa [Nat.add_comm] using s
/-- The parts of an array have no keys. -/
theorem nokeys (v : List M.Cl) (hv : M.valueFault v = 0) (hk : (v.getD 0 M.zero).kind = 5) : ∀ j, j < M.arity v 0 → (v.getD (M.iter v j 1) M.zero).key.toList = [] := by
  have hl := (M.fault_zero hv).1
  obtain ⟨d, hw, _⟩ := (M.fault_zero hv).2.2.2.2
  obtain ⟨f, hf⟩ : ∃ f, v.length = f + 1 := ⟨v.length - 1, by omega⟩
  have hw' := hw
  rw [hf] at hw'
  simp only [M.walk, Option.map_eq_some_iff] at hw'
  obtain ⟨r, h1, _⟩ := hw'
  have key : ∀ m k e d last r, M.kids (M.walk v f) v (v.getD 0 M.zero) m k e d last = some r → e ≤ v.length → d ≤ f → ∀ j, j < m → (v.getD (M.iter v j e) M.zero).key.toList = [] := by
    intro m
    induction m with
    | zero => intro k e d last r _ _ _ j hj; omega
    | succ m ih =>
      intro k e d last r h he hd j hj
      simp only [M.kids] at h
      split at h
      · cases h
      rename_i hb
      have hlt : e < v.length := by
        by_cases hx : e < v.length
        · exact hx
        · exact absurd (show M.bad v (v.getD 0 M.zero) k e last = true by unfold M.bad; rw [if_neg hx]) hb
      split at h
      · cases h
      · rename_i e1 d1 hr
        have hwb := M.walk_bd v f e hlt _ hr
        simp only at hwb
        have he1 : M.endOf v e = e1 := M.endOf_of (by omega) hr
        cases j with
        | zero =>
          show (v.getD e M.zero).key.toList = []
          have hb' : M.bad v (v.getD 0 M.zero) k e last = false := by cases hx : M.bad v (v.getD 0 M.zero) k e last with | true => exact absurd hx hb | false => rfl
          unfold M.bad at hb'
          rw [if_pos hlt, Bool.or_eq_false_iff] at hb'
          have h2 := hb'.1
          rw [hk, decide_eq_true rfl] at h2
          simpa using h2
        | succ j =>
          have := ih (k + 1) e1 (max d d1) _ r h hwb.2.1 (by omega) j (by omega)
          rw [show M.iter v (j + 1) e = M.iter v j e1 by rw [M.iter, he1]]
          exact this
  intro j hj
  exact key _ 0 1 0 ByteArray.empty r h1 (by omega) (by omega) j (by unfold M.arity at hj; omega)

/-- A step of a path: a string or a number, by itself a value. -/
structure Stp (c : M.Cl) : Prop where
  val : M.valueFault [c] = 0
  kd : c.kind = 4 ∨ c.kind = 3
  tx : M.textOk c.text = true
  lo : -1000000000000000 ≤ c.num
  hi : c.num ≤ 1000000000000000
/-- The steps of a path are its cells behind the first, and each part is one of them. -/
theorem steps {p : List M.Cl} (h : fault p = 0) : (subs p 0).length = (p.drop 1).length ∧ (∀ j, j < (p.drop 1).length → (subs p 0).getD j [] = [(p.drop 1).getD j M.zero]) ∧ ∀ c ∈ p.drop 1, Stp c := by
  obtain ⟨hv, hk, hs⟩ := fault_no h
  obtain ⟨ha, hp⟩ := places hv hs
  have hl := (lens hv).1
  have hcut : ∀ j, j < (p.drop 1).length → (p.drop 1).getD j M.zero = p.getD (j + 1) M.zero := by
    intro j hj
    rw [List.getD_eq_getElem?_getD, List.getD_eq_getElem?_getD, List.getElem?_drop, Nat.add_comm]
  have hone : ∀ j, j < (p.drop 1).length → part p (M.iter p j 1) = [p.getD (j + 1) M.zero] ∧ Stp (p.getD (j + 1) M.zero) := by
    intro j hj
    rw [List.length_drop] at hj
    have hst := all_at hs (i := j + 1) (by omega) (by omega)
    have hcd := cell_code hv (i := j + 1) (by omega)
    have hn := step_n hcd hst
    have hkey := nokeys p hv hk j (by omega)
    rw [hp j (by omega)] at hkey ⊢
    have hke : (p.getD (j + 1) M.zero).key = ByteArray.empty := bytes_ext (hkey.trans empty_list.symm)
    constructor
    · unfold part
      rw [end_step hv (by omega) hn]
      have hc : cut p (j + 1) (j + 1 + 1) = [p.getD (j + 1) M.zero] := by
        unfold cut
        rw [show j + 1 + 1 - (j + 1) = 1 by omega, List.drop_eq_getElem_cons (show j + 1 < p.length by omega), List.take_succ_cons, List.take_zero, List.getD_eq_getElem?_getD, List.getElem?_eq_getElem (show j + 1 < p.length by omega)]
        rfl
      rw [hc]
      simp only [setKey]
      generalize p.getD (j + 1) M.zero = c at *
      rw [← hke]
    · obtain ⟨_, _, c2, c3, _, _, c6, _⟩ := code_bd hcd
      refine ⟨(one_valid hcd hkey hn).1, ?_, c6, c2, c3⟩
      unfold isStep at hst
      rw [Bool.or_eq_true, decide_eq_true_eq, decide_eq_true_eq] at hst
      exact hst
  refine ⟨by rw [subs_length, List.length_drop]; omega, fun j hj => ?_, fun c hc => ?_⟩
  · rw [subs_getD' p j (by rw [List.length_drop] at hj; omega), (hone j hj).1, hcut j hj]
  · obtain ⟨j, hj, rfl⟩ := List.getElem_of_mem hc
    have := (hone j hj).2
    rw [← hcut j hj, List.getD_eq_getElem?_getD, List.getElem?_eq_getElem hj] at this
    exact this

/-- Where no code is told, what is told has no fault; where one is, nothing else is. -/
structure Gd (r : Int × List M.Cl) : Prop where
  ok : r.1 = 0 → M.valueFault r.2 = 0
  no : r.1 ≠ 0 → r.2 = []
theorem gdBad (c : Int) (h : c ≠ 0) : Gd (c, []) := ⟨fun q => absurd q h, fun _ => rfl⟩
theorem gdOf {l : List M.Cl} (h : M.valueFault l = 0) : Gd (0, l) := ⟨fun _ => h, fun q => absurd rfl q⟩
theorem gdTold (l : List M.Cl) : Gd (told l) := by
  by_cases h : M.valueFault l = 0
  · rw [told_ok h]; exact gdOf h
  · rw [told_bad h]; exact gdBad _ h
theorem part_gd {v : List M.Cl} (hv : M.valueFault v = 0) {i : Nat} (hi : i < M.arity v 0) : M.valueFault (part v (M.iter v i 1)) = 0 := by
  have h := (subs_all hv (oks hv)).2.1 i (by rw [subs_length]; exact hi)
  rw [subs_getD' v i hi] at h
  exact h
theorem get_gd {v : List M.Cl} (hv : M.valueFault v = 0) (key : ByteArray) : Gd (getOut v key) := by
  unfold getOut
  split
  · exact gdBad _ (by decide)
  · refine gdOf ?_
    unfold getV
    split
    · rename_i j hj
      exact part_gd hv (List.mem_range.1 (List.mem_of_find?_eq_some hj))
    · exact zero_valid.1
theorem set_gd (v : List M.Cl) (key : ByteArray) (u : List M.Cl) : Gd (setOut v key u) := by
  unfold setOut
  split
  · rename_i h; exact gdBad _ h
  split
  · unfold setIn
    split
    · exact gdBad _ (by decide)
    · exact gdTold _
  · exact gdBad _ (by decide)

/-- What the faults of a value and of a path tell. -/
def asked (v p : List M.Cl) : Int := if M.valueFault v ≠ 0 then M.valueFault v else fault p
theorem asked_bad {v p : List M.Cl} (h : M.valueFault v ≠ 0) : asked v p = M.valueFault v := if_pos h
theorem asked_ok {v p : List M.Cl} (h : M.valueFault v = 0) : asked v p = fault p := by unfold asked; rw [if_neg (by simp [h])]
theorem asked_no {v p : List M.Cl} (h : asked v p = 0) : M.valueFault v = 0 ∧ fault p = 0 := by
  unfold asked at h
  split at h
  · rename_i q; exact absurd h q
  · rename_i q; exact ⟨by simpa using q, h⟩
/-- A place that may be counted from the end. -/
def idx (n : Int) (m : Nat) : Int := if n < 0 then n + m else n
/-- The list with nulls behind it until it has k elements. -/
def pad (ps : List (List M.Cl)) (k : Nat) : List (List M.Cl) := ps ++ List.replicate (k - ps.length) [M.zero]
theorem pad_length (ps : List (List M.Cl)) (k : Nat) : (pad ps k).length = max ps.length k := by unfold pad; rw [List.length_append, List.length_replicate]; omega
theorem pad_le {ps : List (List M.Cl)} {k : Nat} (h : k ≤ ps.length) : pad ps k = ps := by unfold pad; rw [show k - ps.length = 0 by omega]; simp
theorem pad_succ {ps : List (List M.Cl)} {k : Nat} (h : ps.length ≤ k) : pad ps (k + 1) = pad ps k ++ [[M.zero]] := by
  unfold pad
  rw [show k + 1 - ps.length = (k - ps.length) + 1 by omega, List.replicate_succ', List.append_assoc]
/-- The elements of an array; none of a null. -/
def els (v : List M.Cl) : List (List M.Cl) := if (v.getD 0 M.zero).kind = 5 then subs v 0 else []
/-- What SetPath tells of steps. -/
def setS (v : List M.Cl) : List M.Cl → List M.Cl → Int × List M.Cl
  | [], x => (0, x)
  | c :: cs, x =>
    if c.kind = 4 then
      (if (getOut v c.text).1 = 0 then (if (setS (getOut v c.text).2 cs x).1 = 0 then setOut v c.text (setS (getOut v c.text).2 cs x).2 else setS (getOut v c.text).2 cs x) else getOut v c.text)
    else if (v.getD 0 M.zero).kind ≠ 5 ∧ (v.getD 0 M.zero).kind ≠ 0 then (6, [])
    else if idx c.num (els v).length < 0 then (3, [])
    else if 200 ≤ idx c.num (els v).length then (2, [])
    else
      (if (setS ((pad (els v) ((idx c.num (els v).length).toNat + 1)).getD (idx c.num (els v).length).toNat []) cs x).1 = 0 then
        told (arrV ((pad (els v) ((idx c.num (els v).length).toNat + 1)).set (idx c.num (els v).length).toNat (setS ((pad (els v) ((idx c.num (els v).length).toNat + 1)).getD (idx c.num (els v).length).toNat []) cs x).2))
      else setS ((pad (els v) ((idx c.num (els v).length).toNat + 1)).getD (idx c.num (els v).length).toNat []) cs x)
theorem els_val {v : List M.Cl} (hv : M.valueFault v = 0) : (els v).length ≤ 200 ∧ ∀ j, j < (els v).length → M.valueFault ((els v).getD j []) = 0 := by
  unfold els
  split
  · have h := subs_all hv (oks hv)
    exact ⟨h.1, h.2.1⟩
  · exact ⟨by simp, fun j hj => by simp at hj⟩
theorem pad_val {ps : List (List M.Cl)} (h : ∀ j, j < ps.length → M.valueFault (ps.getD j []) = 0) (k : Nat) : ∀ j, j < (pad ps k).length → M.valueFault ((pad ps k).getD j []) = 0 := by
  intro j hj
  unfold pad
  by_cases e : j < ps.length
  · rw [List.getD_eq_getElem?_getD, List.getElem?_append_left e, ← List.getD_eq_getElem?_getD]
    exact h j e
  · rw [List.getD_eq_getElem?_getD, List.getElem?_append_right (by omega), List.getElem?_replicate, if_pos (by rw [pad_length] at hj; omega)]
    exact zero_valid.1
theorem set_val {ps : List (List M.Cl)} (h : ∀ j, j < ps.length → M.valueFault (ps.getD j []) = 0) (k : Nat) {x : List M.Cl} (hx : M.valueFault x = 0) : ∀ j, j < (ps.set k x).length → M.valueFault ((ps.set k x).getD j []) = 0 := by
  intro j hj
  rw [List.length_set] at hj
  rw [List.getD_eq_getElem?_getD, List.getElem?_set]
  split
  · rw [if_pos (by omega)]; exact hx
  · rw [← List.getD_eq_getElem?_getD]; exact h j hj
theorem setS_gd {v x : List M.Cl} (hv : M.valueFault v = 0) (hx : M.valueFault x = 0) (cs : List M.Cl) : Gd (setS v cs x) := by
  induction cs generalizing v with
  | nil => exact gdOf hx
  | cons c cs ih =>
    rw [setS]
    split
    · split
      · rename_i q
        split
        · exact set_gd _ _ _
        · exact ih ((get_gd hv _).ok q)
      · exact get_gd hv _
    split
    · exact gdBad _ (by decide)
    split
    · exact gdBad _ (by decide)
    split
    · exact gdBad _ (by decide)
    rename_i h0 h1
    split
    · exact gdTold _
    · exact ih (pad_val (els_val hv).2 _ _ (by rw [pad_length]; omega))
/-- What SetPath tells. -/
def setOutP (v p x : List M.Cl) : Int × List M.Cl := if asked v p = 0 then (if M.valueFault x = 0 then setS v (p.drop 1) x else (M.valueFault x, [])) else (asked v p, [])
theorem setP_ok {v p x : List M.Cl} (h : asked v p = 0) (hx : M.valueFault x = 0) : setOutP v p x = setS v (p.drop 1) x := by unfold setOutP; rw [if_pos h, if_pos hx]
theorem setP_x {v p x : List M.Cl} (h : asked v p = 0) (hx : M.valueFault x ≠ 0) : setOutP v p x = (M.valueFault x, []) := by unfold setOutP; rw [if_pos h, if_neg hx]
theorem setP_bad {v p x : List M.Cl} (h : asked v p ≠ 0) : setOutP v p x = (asked v p, []) := if_neg h
end Pth
end Go.Proofs.YtcglddahphkcpaaGreatDoor
