/-
  Paths, plainly: what PathFault, GetPath and SetPath tell. No word of the program is used here.
  impl.PathFault and spec.PathFault, and what both ask ahead of a path.
-/
import Derived.Test.YtlbmpldknfcfhaaDoorU10
import Derived.Test.YtlbmpldknfcfhaaDoorU23
import Derived.Test.YtlbmpldknfcfhaaDoorU25
namespace Go.Proofs.YtlbmpldknfcfhaaDoor
open Go.RowKit
set_option linter.unusedVariables false

namespace Pth
def isStep (c : M.Cl) : Bool := decide (c.kind = 4) || decide (c.kind = 3)
/-- What PathFault tells. -/
def fault (p : List M.Cl) : Int := if M.valueFault p ≠ 0 then M.valueFault p else if (p.getD 0 M.zero).kind = 5 then (if (p.drop 1).all isStep = true then 0 else 6) else 6
theorem fault_bad {p : List M.Cl} (h : M.valueFault p ≠ 0) : fault p = M.valueFault p := if_pos h
theorem fault_kind {p : List M.Cl} (h : M.valueFault p = 0) (hk : (p.getD 0 M.zero).kind ≠ 5) : fault p = 6 := by unfold fault; rw [if_neg (by simp [h]), if_neg hk]
theorem fault_step {p : List M.Cl} (h : M.valueFault p = 0) (hk : (p.getD 0 M.zero).kind = 5) (hs : (p.drop 1).all isStep = false) : fault p = 6 := by unfold fault; rw [if_neg (by simp [h]), if_pos hk, if_neg (by rw [hs]; exact Bool.false_ne_true)]
theorem fault_ok {p : List M.Cl} (h : M.valueFault p = 0) (hk : (p.getD 0 M.zero).kind = 5) (hs : (p.drop 1).all isStep = true) : fault p = 0 := by unfold fault; rw [if_neg (by simp [h]), if_pos hk, if_pos hs]
theorem fault_no {p : List M.Cl} (h : fault p = 0) : M.valueFault p = 0 ∧ (p.getD 0 M.zero).kind = 5 ∧ (p.drop 1).all isStep = true := by
  unfold fault at h
  split at h
  · rename_i q; exact absurd h q
  rename_i q
  split at h
  · rename_i q2
    split at h
    · rename_i q3; exact ⟨by simpa using q, q2, q3⟩
    · cases h
  · cases h

theorem okOf {c : M.Cl} (h : M.cellCode c = 0) : c.ok := by
  unfold M.cellCode at h
  split at h
  · cases h
  split at h
  · cases h
  split at h
  · cases h
  split at h
  · rename_i h1 h2 h3 h4
    have t1 : c.text.size ≤ 60 := by have := h4.1; unfold M.textOk at this; rw [Bool.and_eq_true, decide_eq_true_eq] at this; exact this.1
    have t2 : c.key.size ≤ 60 := by have := h4.2; unfold M.textOk at this; rw [Bool.and_eq_true, decide_eq_true_eq] at this; exact this.1
    unfold M.Cl.ok
    omega
  · cases h
theorem oks {v : List M.Cl} (h : M.valueFault v = 0) : ∀ c ∈ v, c.ok := fun c hc => okOf (M.first_zero (M.fault_zero h).2.2.1 c hc)
theorem lens {v : List M.Cl} (h : M.valueFault v = 0) : 1 ≤ v.length ∧ v.length ≤ 200 := ⟨(M.fault_zero h).1, (M.fault_zero h).2.1⟩
theorem step_n {c : M.Cl} (h : M.cellCode c = 0) (hs : isStep c = true) : c.n = 0 := by
  unfold isStep at hs
  rw [Bool.or_eq_true, decide_eq_true_eq, decide_eq_true_eq] at hs
  unfold M.cellCode at h
  split at h
  · cases h
  split at h
  · cases h
  rename_i h2
  by_cases e : c.n = 0
  · exact e
  · exact absurd (.inr (.inr ⟨e, by omega, by omega⟩)) h2
theorem end_step {v : List M.Cl} (hv : M.valueFault v = 0) {a : Nat} (ha : a < v.length) (hn : (v.getD a M.zero).n = 0) : M.endOf v a = a + 1 := by
  obtain ⟨d, hw, h1, h2, _⟩ := M.endOf_spec hv a ha
  obtain ⟨_, q1, q2⟩ := M.walk_owe (M.fits_of hv) _ a _ _ hw
  by_cases e : M.endOf v a = a + 1
  · exact e
  · have q3 := q2 (a + 1) (by omega) (by omega)
    rw [show a + 1 - a = 1 by omega, M.owe_front, hn] at q3
    simp only [M.owe] at q3
    omega
theorem iter_step {v : List M.Cl} (hv : M.valueFault v = 0) {k : Nat} (hk : k < v.length) (h : ∀ i, 1 ≤ i → i ≤ k → (v.getD i M.zero).n = 0) : ∀ j, j ≤ k → M.iter v j 1 = j + 1 := by
  intro j
  induction j with
  | zero => intro _; rfl
  | succ j ih => intro hj; rw [M.iter_next, ih (by omega), end_step hv (by omega) (h (j + 1) (by omega) (by omega))]
theorem end_zero {v : List M.Cl} (hv : M.valueFault v = 0) : M.endOf v 0 = v.length := by
  obtain ⟨d, hw, _⟩ := (M.fault_zero hv).2.2.2.2
  exact M.endOf_of (Nat.le_refl _) hw
theorem cell_code {v : List M.Cl} (hv : M.valueFault v = 0) {i : Nat} (hi : i < v.length) : M.cellCode (v.getD i M.zero) = 0 := M.first_zero (M.fault_zero hv).2.2.1 _ (getD_mem v i hi)
theorem all_at {p : List M.Cl} (hs : (p.drop 1).all isStep = true) {i : Nat} (h1 : 1 ≤ i) (hi : i < p.length) : isStep (p.getD i M.zero) = true := by
  rw [List.all_eq_true] at hs
  refine hs _ ?_
  have : p.getD i M.zero = (p.drop 1)[i - 1]'(by rw [List.length_drop]; omega) := by
    rw [List.getElem_drop]
    simp only [show 1 + (i - 1) = i by omega]
    rw [List.getD_eq_getElem?_getD, List.getElem?_eq_getElem hi]; rfl
  rw [this]
  exact List.getElem_mem _
/-- Where all cells behind the first are strings and numbers, each is a part. -/
theorem places {p : List M.Cl} (hv : M.valueFault p = 0) (hs : (p.drop 1).all isStep = true) : M.arity p 0 + 1 = p.length ∧ ∀ j, j < M.arity p 0 → M.iter p j 1 = j + 1 := by
  have hl := (lens hv).1
  have hit := iter_step hv (k := p.length - 1) (by omega) (fun i h1 h2 => step_n (cell_code hv (by omega)) (all_at hs h1 (by omega)))
  obtain ⟨h1, h2, h3, _⟩ := M.places_in hv 0 (by omega)
  rw [end_zero hv] at h1 h2
  simp only [Nat.zero_add] at h1 h2
  have ha : M.arity p 0 + 1 = p.length := by
    by_cases e : M.arity p 0 ≤ p.length - 1
    · have := hit _ e; omega
    · have := h1 (p.length - 1) (by omega)
      rw [hit _ (Nat.le_refl _)] at this
      omega
  exact ⟨ha, fun j hj => hit j (by omega)⟩
/-- Where the first cells of all parts are strings and numbers, all cells are. -/
theorem all_of {p : List M.Cl} (hv : M.valueFault p = 0) (h : ∀ j, j < M.arity p 0 → isStep (p.getD (M.iter p j 1) M.zero) = true) : (p.drop 1).all isStep = true := by
  have hl := (lens hv).1
  obtain ⟨h1, h2, h3, _⟩ := M.places_in hv 0 (by omega)
  rw [end_zero hv] at h1 h2
  simp only [Nat.zero_add] at h1 h2
  have hit : ∀ j, j ≤ M.arity p 0 → M.iter p j 1 = j + 1 := by
    intro j
    induction j with
    | zero => intro _; rfl
    | succ j ih =>
      intro hj
      have e := ih (by omega)
      have q := h1 j (by omega)
      have s := h j (by omega)
      rw [M.iter_next]
      rw [e] at q s ⊢
      exact end_step hv (by omega) (step_n (cell_code hv (by omega)) s)
  have he := hit _ (Nat.le_refl _)
  rw [List.all_eq_true]
  intro c hc
  obtain ⟨i, hi, rfl⟩ := List.getElem_of_mem hc
  rw [List.length_drop] at hi
  rw [List.getElem_drop]
  have s := h i (by omega)
  rw [hit i (by omega), List.getD_eq_getElem?_getD, List.getElem?_eq_getElem (by omega)] at s
  simp only [Option.getD_some] at s
  simpa [Nat.add_comm] using s
/-- The parts of an array have no keys. -/
theorem nokeys (v : List M.Cl) (hv : M.valueFault v = 0) (hk : (v.getD 0 M.zero).kind = 5) : ∀ j, j < M.arity v 0 → (v.getD (M.iter v j 1) M.zero).key.toList = [] := by
  have hl := (M.fault_zero hv).1
  obtain ⟨d, hw, _⟩ := (M.fault_zero hv).2.2.2.2
  obtain ⟨f, hf⟩ : ∃ f, v.length = f + 1 := ⟨v.length - 1, by omega⟩
  have hw' := hw
  rw [hf] at hw'
  simp only [M.walk, Option.map_eq_some_iff] at hw'
  obtain ⟨r, h1, _⟩ := hw'
  have key : ∀ m k e d last r, M.kids (M.walk v f) v (v.getD 0 M.zero) m k e d last = some r → e ≤ v.length → d ≤ f → ∀ j, j < m → (v.getD (M.iter v j e) M.zero).key.toList = [] := by
    intro m
    induction m with
    | zero => intro k e d last r _ _ _ j hj; omega
    | succ m ih =>
      intro k e d last r h he hd j hj
      simp only [M.kids] at h
      split at h
      · cases h
      rename_i hb
      have hlt : e < v.length := by
        by_cases hx : e < v.length
        · exact hx
        · exact absurd (show M.bad v (v.getD 0 M.zero) k e last = true by unfold M.bad; rw [if_neg hx]) hb
      split at h
      · cases h
      · rename_i e1 d1 hr
        have hwb := M.walk_bd v f e hlt _ hr
        simp only at hwb
        have he1 : M.endOf v e = e1 := M.endOf_of (by omega) hr
        cases j with
        | zero =>
          show (v.getD e M.zero).key.toList = []
          have hb' : M.bad v (v.getD 0 M.zero) k e last = false := by cases hx : M.bad v (v.getD 0 M.zero) k e last with | true => exact absurd hx hb | false => rfl
          unfold M.bad at hb'
          rw [if_pos hlt, Bool.or_eq_false_iff] at hb'
          have h2 := hb'.1
          rw [hk, decide_eq_true rfl] at h2
          simpa using h2
        | succ j =>
          have := ih (k + 1) e1 (max d d1) _ r h hwb.2.1 (by omega) j (by omega)
          rw [show M.iter v (j + 1) e = M.iter v j e1 by rw [M.iter, he1]]
          exact this
  intro j hj
  exact key _ 0 1 0 ByteArray.empty r h1 (by omega) (by omega) j (by unfold M.arity at hj; omega)

/-- A step of a path: a string or a number, by itself a value. -/
structure Stp (c : M.Cl) : Prop where
  val : M.valueFault [c] = 0
  kd : c.kind = 4 ∨ c.kind = 3
  tx : M.textOk c.text = true
  lo : -1000000000000000 ≤ c.num
  hi : c.num ≤ 1000000000000000
/-- The steps of a path are its cells behind the first, and each part is one of them. -/
theorem steps {p : List M.Cl} (h : fault p = 0) : (subs p 0).length = (p.drop 1).length ∧ (∀ j, j < (p.drop 1).length → (subs p 0).getD j [] = [(p.drop 1).getD j M.zero]) ∧ ∀ c ∈ p.drop 1, Stp c := by
  obtain ⟨hv, hk, hs⟩ := fault_no h
  obtain ⟨ha, hp⟩ := places hv hs
  have hl := (lens hv).1
  have hcut : ∀ j, j < (p.drop 1).length → (p.drop 1).getD j M.zero = p.getD (j + 1) M.zero := by
    intro j hj
    rw [List.getD_eq_getElem?_getD, List.getD_eq_getElem?_getD, List.getElem?_drop, Nat.add_comm]
  have hone : ∀ j, j < (p.drop 1).length → part p (M.iter p j 1) = [p.getD (j + 1) M.zero] ∧ Stp (p.getD (j + 1) M.zero) := by
    intro j hj
    rw [List.length_drop] at hj
    have hst := all_at hs (i := j + 1) (by omega) (by omega)
    have hcd := cell_code hv (i := j + 1) (by omega)
    have hn := step_n hcd hst
    have hkey := nokeys p hv hk j (by omega)
    rw [hp j (by omega)] at hkey ⊢
    have hke : (p.getD (j + 1) M.zero).key = ByteArray.empty := bytes_ext (hkey.trans empty_list.symm)
    constructor
    · unfold part
      rw [end_step hv (by omega) hn]
      have hc : cut p (j + 1) (j + 1 + 1) = [p.getD (j + 1) M.zero] := by
        unfold cut
        rw [show j + 1 + 1 - (j + 1) = 1 by omega, List.drop_eq_getElem_cons (show j + 1 < p.length by omega), List.take_succ_cons, List.take_zero, List.getD_eq_getElem?_getD, List.getElem?_eq_getElem (show j + 1 < p.length by omega)]
        rfl
      rw [hc]
      simp only [setKey]
      generalize p.getD (j + 1) M.zero = c at *
      rw [← hke]
    · obtain ⟨_, _, c2, c3, _, _, c6, _⟩ := code_bd hcd
      refine ⟨(one_valid hcd hkey hn).1, ?_, c6, c2, c3⟩
      unfold isStep at hst
      rw [Bool.or_eq_true, decide_eq_true_eq, decide_eq_true_eq] at hst
      exact hst
  refine ⟨by rw [subs_length, List.length_drop]; omega, fun j hj => ?_, fun c hc => ?_⟩
  · rw [subs_getD' p j (by rw [List.length_drop] at hj; omega), (hone j hj).1, hcut j hj]
  · obtain ⟨j, hj, rfl⟩ := List.getElem_of_mem hc
    have := (hone j hj).2
    rw [← hcut j hj, List.getD_eq_getElem?_getD, List.getElem?_eq_getElem hj] at this
    exact this

/-- Where no code is told, what is told has no fault; where one is, nothing else is. -/
structure Gd (r : Int × List M.Cl) : Prop where
  ok : r.1 = 0 → M.valueFault r.2 = 0
  no : r.1 ≠ 0 → r.2 = []
theorem gdBad (c : Int) (h : c ≠ 0) : Gd (c, []) := ⟨fun q => absurd q h, fun _ => rfl⟩
theorem gdOf {l : List M.Cl} (h : M.valueFault l = 0) : Gd (0, l) := ⟨fun _ => h, fun q => absurd rfl q⟩
theorem part_gd {v : List M.Cl} (hv : M.valueFault v = 0) {i : Nat} (hi : i < M.arity v 0) : M.valueFault (part v (M.iter v i 1)) = 0 := by
  have h := (subs_all hv (oks hv)).2.1 i (by rw [subs_length]; exact hi)
  rw [subs_getD' v i hi] at h
  exact h
theorem get_gd {v : List M.Cl} (hv : M.valueFault v = 0) (key : ByteArray) : Gd (getOut v key) := by
  unfold getOut
  split
  · exact gdBad _ (by decide)
  · refine gdOf ?_
    unfold getV
    split
    · rename_i j hj
      exact part_gd hv (List.mem_range.1 (List.mem_of_find?_eq_some hj))
    · exact zero_valid.1
theorem at_gd {v : List M.Cl} (hv : M.valueFault v = 0) (c : M.Cl) : Gd (atIn v c) := by
  unfold atIn
  split
  · exact get_gd hv _
  split
  · unfold idxOut
    split
    · exact gdBad _ (by decide)
    · refine gdOf ?_
      unfold idxV
      split
      · exact zero_valid.1
      · rename_i h
        refine part_gd hv ?_
        split <;> omega
  · exact gdBad _ (by decide)
/-- What the steps lead to. -/
def getS (v : List M.Cl) : List M.Cl → Int × List M.Cl
  | [] => (0, v)
  | c :: cs => if (atIn v c).1 = 0 then getS (atIn v c).2 cs else atIn v c
/-- What the first k steps lead to, as long as no code is told. -/
theorem get_take {v : List M.Cl} {cs : List M.Cl} : ∀ {k : Nat}, k < cs.length → ∀ {u : List M.Cl}, getS v (cs.take k) = (0, u) → getS v (cs.take (k + 1)) = (if (atIn u (cs.getD k M.zero)).1 = 0 then (0, (atIn u (cs.getD k M.zero)).2) else atIn u (cs.getD k M.zero)) := by
  intro k
  induction k generalizing v cs with
  | zero =>
    intro hk u h
    cases cs with
    | nil => simp at hk
    | cons c cs =>
      simp only [List.take_zero, getS, Prod.mk.injEq, true_and] at h
      subst h
      simp only [Nat.zero_add, List.take_succ_cons, List.take_zero, getS, List.getD_cons_zero]
  | succ k ih =>
    intro hk u h
    cases cs with
    | nil => simp at hk
    | cons c cs =>
      simp only [List.take_succ_cons, getS] at h ⊢
      split at h
      · rename_i q
        rw [if_pos q, List.getD_cons_succ]
        exact ih (by simpa using hk) h
      · rename_i q
        rw [h] at q
        exact absurd rfl q
theorem get_stop {v : List M.Cl} {cs : List M.Cl} : ∀ {k : Nat}, k < cs.length → ∀ {u : List M.Cl}, getS v (cs.take k) = (0, u) → (atIn u (cs.getD k M.zero)).1 ≠ 0 → getS v cs = atIn u (cs.getD k M.zero) := by
  intro k
  induction k generalizing v cs with
  | zero =>
    intro hk u h hq
    cases cs with
    | nil => simp at hk
    | cons c cs =>
      simp only [List.take_zero, getS, Prod.mk.injEq, true_and] at h
      subst h
      rw [List.getD_cons_zero] at hq ⊢
      rw [getS, if_neg hq]
  | succ k ih =>
    intro hk u h hq
    cases cs with
    | nil => simp at hk
    | cons c cs =>
      simp only [List.take_succ_cons, getS, List.getD_cons_succ] at h hq ⊢
      split at h
      · rename_i q
        rw [if_pos q]
        exact ih (by simpa using hk) h hq
      · rename_i q
        rw [h] at q
        exact absurd rfl q
/-- What the faults of a value and of a path tell. -/
def asked (v p : List M.Cl) : Int := if M.valueFault v ≠ 0 then M.valueFault v else fault p
theorem asked_bad {v p : List M.Cl} (h : M.valueFault v ≠ 0) : asked v p = M.valueFault v := if_pos h
theorem asked_ok {v p : List M.Cl} (h : M.valueFault v = 0) : asked v p = fault p := by unfold asked; rw [if_neg (by simp [h])]
theorem asked_no {v p : List M.Cl} (h : asked v p = 0) : M.valueFault v = 0 ∧ fault p = 0 := by
  unfold asked at h
  split at h
  · rename_i q; exact absurd h q
  · rename_i q; exact ⟨by simpa using q, h⟩
/-- What GetPath tells. -/
def getOutP (v p : List M.Cl) : Int × List M.Cl := if asked v p = 0 then getS v (p.drop 1) else (asked v p, [])
theorem getP_ok {v p : List M.Cl} (h : asked v p = 0) : getOutP v p = getS v (p.drop 1) := if_pos h
theorem getP_bad {v p : List M.Cl} (h : asked v p ≠ 0) : getOutP v p = (asked v p, []) := if_neg h

end Pth
end Go.Proofs.YtlbmpldknfcfhaaDoor

namespace Go.Proofs.YtlbmpldknfcfhaaDoor
open Go.RowKit
set_option linter.unusedVariables false

theorem Row.tail {w : World} {b off : Nat} {p : List M.Cl} (h : Row w b off p) : Row w b (off + 5) (p.drop 1) := by
  intro i hi
  have hi' := hi
  rw [List.length_drop] at hi'
  have := h (i + 1) (by omega)
  rw [show off + (i + 1) * 5 = off + 5 + i * 5 by omega] at this
  rwa [show (p.drop 1).getD i M.zero = p.getD (i + 1) M.zero by rw [List.getD_eq_getElem?_getD, List.getD_eq_getElem?_getD, List.getElem?_drop, Nat.add_comm]]
theorem Row.none (w : World) (b off : Nat) : Row w b off [] := fun i hi => absurd hi (by simp)

set_option maxHeartbeats 400000 in
theorem stepsOf_any (p : List M.Cl) (b off cap : Nat) (w : World) (hl : 1 ≤ p.length) (hn : cap ≤ 9223372036854775807) (hcap : p.length ≤ cap) (hrow : Row w b off p) :
    Calls Tryd.prog 53 #[.slice (some ⟨b, off, none⟩) p.length cap] w fun e w' => ∃ o, e = .returned (.slice (some ⟨b, o, none⟩) (p.drop 1).length (cap - 1)) ∧ w' = w ∧ Row w b o (p.drop 1) := by
  have HD := hide (List.length_drop (i := 1) (l := p))
  have HR := hide hrow.tail
  have H0 := hide (show p.length = 1 → ∀ o, Row w b o (p.drop 1) from fun h o => by rw [List.drop_eq_nil_of_le (by omega)]; exact Row.none _ _ _)
  rw [unhide HD]
  clear hrow
  by_cases h1 : cap = 1
  · have e1 : p.length = 1 := by omega
    have HR0 := hide ((unhide H0) e1 off)
    clear HD HR H0
    subst h1
    rw [e1]
    clear e1 hl hcap
    go_enter Tryd.func53, Tryd.ntmps53
    go_wp2_with fail
    go_ret
    exact ⟨off, rfl, rfl, unhide HR0⟩
  · clear HD H0
    have h2 : 1 < cap := by omega
    clear h1
    go_enter Tryd.func53, Tryd.ntmps53
    go_wp2_with fail
    go_ret
    exact ⟨off + 5, rfl, rfl, unhide HR⟩

set_option maxRecDepth 100000 in
set_option maxHeartbeats 1000000 in
theorem implPathFault_any (p : List M.Cl) (b off cap : Nat) (w : World) (hrow : Row w b off p) (hb : b < w.heap.size) (hn : p.length ≤ 1048576) (hcap : p.length ≤ cap) (hc : cap ≤ 9223372036854775807) (hok : ∀ c ∈ p, c.ok) :
    Calls Tryd.prog 71 #[.slice (some ⟨b, off, none⟩) p.length cap] w fun e w' => e = .returned (.int .i64 (Pth.fault p)) ∧ Below w.heap.size w w' := by
  have HS := hide (fun w' (h : 1 ≤ p.length) r => stepsOf_any p b off cap w' h hc hcap r)
  go_enter Tryd.func71, Tryd.ntmps71
  go_wp2_with fail
  refine (implFault_any p b off cap _ hrow hb hn hcap hok).mono ?_
  rintro e w1 ⟨rfl, hb1⟩
  have hrow1 := hrow.below hb1 hb
  have hb1' : b < w1.heap.size := Nat.lt_of_lt_of_le hb hb1.size
  clear hok hrow
  generalize hq : M.valueFault p = q
  by_cases hz : q = 0
  · subst hz
    have hl1 := (Pth.lens hq).1
    have hl2 := (Pth.lens hq).2
    obtain ⟨f0, _, _, _, _⟩ := hrow1 0 (by omega)
    simp only [Nat.zero_mul, Nat.add_zero] at f0
    have FK := hide (Pth.fault_kind hq)
    have FS := hide (Pth.fault_step hq)
    have FO := hide (Pth.fault_ok hq)
    have HQ := hide hq
    clear hq
    by_cases hk : (p.getD 0 M.zero).kind = 5
    · have FS := hide ((unhide FS) hk)
      have FO := hide ((unhide FO) hk)
      rw [hk] at f0
      clear FK hk
      have HRW := hide hrow1
      clear hrow1
      go_wp2_with fail
      refine ((unhide HS) _ hl1 (unhide HRW)).mono ?_
      rintro e w2 ⟨o, rfl, hw2, hst⟩
      rw [hw2]
      clear hw2 w2 f0 HRW HS HQ
      have hcsl := List.length_drop (i := 1) (l := p)
      generalize p.drop 1 = cs at *
      have hm : cs.length ≤ 200 := by rw [hcsl]; omega
      clear hcsl
      go_wp2_with fail
      go_loopg [19] cs.length (fun g s19 wr => ∃ k : Nat, Hid (g = cs.length - k) ∧ s19 = .int .i64 k ∧ k ≤ cs.length ∧ Hid (∀ j, j < k → Pth.isStep (cs.getD j M.zero) = true) ∧ Below w.heap.size w wr ∧ Row wr b o cs ∧ b < wr.heap.size)
      case atStart => exact ⟨0, rfl, rfl, by omega, fun j hj => absurd hj (by omega), hb1, hst, hb1'⟩
      case round =>
        obtain ⟨k, hg, rfl, hk, hall, hbel, hrw, hbw⟩ := hrel
        by_cases hlt : k < cs.length
        · obtain ⟨g0, g1, g2, g3, g4⟩ := hrw k hlt
          have B2 := hide (fun x => hbel.alloc hbel.size x)
          have R2 := hide (fun x => hrw.below ((Below.refl wr.heap.size wr).alloc (Nat.le_refl _) x) hbw)
          have W2 := hide (show ∀ x, b < (wr.alloc x).heap.size from fun x => by simp; omega)
          have NO := hide (fun (h : Pth.isStep (cs.getD k M.zero) = false) => (unhide FS) (by
            rw [List.all_eq_false]
            refine ⟨cs.getD k M.zero, getD_mem cs k hlt, by rw [h]; exact Bool.false_ne_true⟩))
          have YES := hide (fun (h : Pth.isStep (cs.getD k M.zero) = true) => (show ∀ j, j < k + 1 → Pth.isStep (cs.getD j M.zero) = true from fun j hj => by
            by_cases e : j = k
            · rw [e]; exact h
            · exact hall.out j (by omega)))
          clear hall hbel hrw hbw FS FO
          generalize cs.getD k M.zero = c at *
          by_cases k4 : c.kind = 4
          · have Y := hide ((unhide YES) (by unfold Pth.isStep; simp [k4]))
            rw [k4] at g0
            clear k4 NO YES
            go_wp2_with fail
            go_roundg (cs.length - (k + 1))
            case rel => exact ⟨k + 1, rfl, by go_num, by omega, unhide Y, (unhide B2) _, (unhide R2) _, (unhide W2) _⟩
            case measure => have := hg.out; omega
          by_cases k3 : c.kind = 3
          · have Y := hide ((unhide YES) (by unfold Pth.isStep; simp [k3]))
            rw [k3] at g0
            clear k4 k3 NO YES
            go_wp2_with fail
            go_roundg (cs.length - (k + 1))
            case rel => exact ⟨k + 1, rfl, by go_num, by omega, unhide Y, (unhide B2) _, (unhide R2) _, (unhide W2) _⟩
            case measure => have := hg.out; omega
          · have fin := hide ((unhide NO) (by unfold Pth.isStep; simp [k3, k4]))
            have e4 : (c.kind == 4) = false := by simp [k4]
            have e3 : (c.kind == 3) = false := by simp [k3]
            have n4 : (c.kind != 4) = true := by simp [k4]
            have n3 : (c.kind != 3) = true := by simp [k3]
            generalize c.kind = kd at *
            clear k4 k3 NO YES
            go_wp2_with fail
            go_ret
            exact ⟨ret_int (unhide fin).symm, (unhide B2) _⟩
        · have hke : k = cs.length := by omega
          have fin := hide ((unhide FO) (by
            rw [List.all_eq_true]
            intro c hc
            obtain ⟨j, hj, rfl⟩ := List.getElem_of_mem hc
            have := hall.out j (by omega)
            rw [List.getD_eq_getElem?_getD, List.getElem?_eq_getElem hj] at this
            exact this))
          clear hke hall FS FO hrw
          go_wp2_with fail
          go_ret
          exact ⟨ret_int (unhide fin).symm, hbel⟩
    · have fin := hide ((unhide FK) hk)
      generalize (p.getD 0 M.zero).kind = kd at *
      have e5 : (kd == 5) = false := by simp [hk]
      clear FS FO FK hk hrow1
      go_wp2_with fail
      go_ret
      exact ⟨ret_int (unhide fin).symm, hb1⟩
  · have fin := hide ((Pth.fault_bad (by rw [hq]; exact hz)).trans hq)
    have hz' : (q == 0) = false := by simp [hz]
    clear hq hrow1
    go_wp2_with fail
    go_ret
    exact ⟨ret_int (unhide fin).symm, hb1⟩

/-- What spec.l13Path tells of a value. -/
theorem Pth.path_no {p : List M.Cl} (hv : M.valueFault p = 0) {k : Nat} (hk : k < M.arity p 0) (h : Pth.isStep (p.getD (M.iter p k 1) M.zero) = false) : (p.drop 1).all Pth.isStep = false := by
  by_cases e : (p.drop 1).all Pth.isStep = true
  · have hp := Pth.places hv e
    have := Pth.all_at e (i := k + 1) (by omega) (by omega)
    rw [← hp.2 k hk, h] at this
    cases this
  · simpa using e
theorem part_kind {v : List M.Cl} (hv : M.valueFault v = 0) {j : Nat} (hj : j < M.arity v 0) : ((subs v 0).getD j []).getD 0 M.zero = { v.getD (M.iter v j 1) M.zero with key := ByteArray.empty } ∧ 1 ≤ ((subs v 0).getD j []).length := by
  have hl := (Pth.lens hv).1
  have h1 := (M.places_in hv 0 (by omega)).1 j hj
  have h3 := (M.places_in hv 0 (by omega)).2.2.1
  simp only [Nat.zero_add] at h1
  obtain ⟨d, _, h5, h6, _⟩ := M.endOf_spec hv (M.iter v j 1) (by omega)
  rw [subs_getD' v j hj]
  unfold part
  generalize M.iter v j 1 = a at *
  have hcl := cut_length v a (M.endOf v a) h6
  have h0 := cut_getD v a (M.endOf v a) 0 (by omega)
  rw [setKey_length]
  generalize cut v a (M.endOf v a) = l at *
  cases l with
  | nil => simp at hcl; omega
  | cons c r =>
    rw [List.getD_cons_zero, Nat.add_zero] at h0
    refine ⟨?_, by simp⟩
    rw [← h0]
    rfl

set_option maxRecDepth 100000 in
set_option maxHeartbeats 1000000 in
theorem l13Path_any (p : List M.Cl) (b off cap : Nat) (w : World) (hv : M.valueFault p = 0) (hrow : Row w b off p) (hb : b < w.heap.size) (hcap : p.length ≤ cap) (hok : ∀ c ∈ p, c.ok) :
    Calls Tryd.prog 66 #[.slice (some ⟨b, off, none⟩) p.length cap] w fun e w' => e = .returned (.bool (decide (Pth.fault p = 0))) ∧ Below w.heap.size w w' := by
  have hl1 := (Pth.lens hv).1
  have HP := hide (fun w' r hb' => l1Parts_any p b off cap w' hv r hb' hcap hok)
  obtain ⟨f0, _, _, _, _⟩ := hrow 0 (by omega)
  simp only [Nat.zero_mul, Nat.add_zero] at f0
  have FK := hide (Pth.fault_kind hv)
  have FS := hide (fun k5 => fun (k : Nat) hk h => Pth.fault_step hv k5 (Pth.path_no (k := k) hv hk h))
  have FO := hide (fun k5 h => Pth.fault_ok hv k5 (Pth.all_of hv h))
  have hsl := hide (subs_length p 0)
  have hsm := hide (subs_all hv hok).1
  have hne := hide (subs_all hv hok).2.2.2
  have HPK := hide (fun (j : Nat) hj => part_kind hv (j := j) hj)
  clear hv hok
  by_cases hk : (p.getD 0 M.zero).kind = 5
  · have FS := hide ((unhide FS) hk)
    have FO := hide ((unhide FO) hk)
    rw [hk] at f0
    clear FK hk
    go_enter Tryd.func66, Tryd.ntmps66
    go_wp2_with fail
    refine ((unhide HP) _ hrow hb).mono ?_
    rintro e w1 ⟨s, rfl, hss, hb1⟩
    clear HP f0 hrow
    have hlv := hss.lv (unhide hne)
    clear hss hne
    have hmm : M.arity p 0 ≤ 200 := by rw [← unhide hsl]; exact unhide hsm
    have HSL := hide (unhide hsl)
    rw [unhide hsl] at hlv
    clear hsm
    generalize hm : M.arity p 0 = m at *
    clear hm
    obtain ⟨a, ca, rfl, hca, hlv⟩ := hlv
    have HLV := hide hlv
    clear hlv
    go_wp2_with fail
    go_loopg [4] m (fun g s4 wr => ∃ k : Nat, Hid (g = m - k) ∧ s4 = .int .i64 k ∧ k ≤ m ∧ Hid (∀ j, j < k → Pth.isStep (p.getD (M.iter p j 1) M.zero) = true) ∧ wr = w1)
    case atStart => exact ⟨0, rfl, rfl, by omega, fun j hj => absurd hj (by omega), rfl⟩
    case round =>
      obtain ⟨k, hg, rfl, hk, hall, rfl⟩ := hrel
      by_cases hlt : k < m
      · obtain ⟨g, bk, ok, ck, rfl, hgl, f0, hck, hbk, hrk⟩ := (unhide HLV) k (by rw [unhide hsl]; exact hlt)
        have hpk := (unhide HPK) k hlt
        obtain ⟨x0, _, _, _, _⟩ := hrk 0 hpk.2
        rw [hpk.1] at x0
        simp only [Nat.zero_mul, Nat.add_zero] at x0
        have hp1 := hpk.2
        clear hpk
        generalize (subs p 0).getD k [] = q at *
        have NO := hide (fun (h : Pth.isStep (p.getD (M.iter p k 1) M.zero) = false) => (unhide FS) k hlt h)
        have YES := hide (fun (h : Pth.isStep (p.getD (M.iter p k 1) M.zero) = true) => (show ∀ j, j < k + 1 → Pth.isStep (p.getD (M.iter p j 1) M.zero) = true from fun j hj => by
          by_cases e : j = k
          · rw [e]; exact h
          · exact hall.out j (by omega)))
        clear hall FS FO HPK hrk
        generalize p.getD (M.iter p k 1) M.zero = c at *
        by_cases k4 : c.kind = 4
        · have Y := hide ((unhide YES) (by unfold Pth.isStep; simp [k4]))
          rw [k4] at x0
          clear k4 NO YES
          go_wp2_with fail
          go_roundg (m - (k + 1))
          case rel => exact ⟨k + 1, rfl, by go_num, by omega, unhide Y, rfl⟩
          case measure => have := hg.out; omega
        by_cases k3 : c.kind = 3
        · have Y := hide ((unhide YES) (by unfold Pth.isStep; simp [k3]))
          rw [k3] at x0
          clear k4 k3 NO YES
          go_wp2_with fail
          go_roundg (m - (k + 1))
          case rel => exact ⟨k + 1, rfl, by go_num, by omega, unhide Y, rfl⟩
          case measure => have := hg.out; omega
        · have fin := hide ((unhide NO) (by unfold Pth.isStep; simp [k3, k4]))
          have n4 : (c.kind != 4) = true := by simp [k4]
          have n3 : (c.kind != 3) = true := by simp [k3]
          have e4 : (c.kind == 4) = false := by simp [k4]
          have e3 : (c.kind == 3) = false := by simp [k3]
          generalize c.kind = kd at *
          clear k4 k3 NO YES
          go_wp2_with fail
          go_ret
          exact ⟨ret_bool (by rw [unhide fin]; rfl), hb1⟩
      · have hke : k = m := by omega
        have fin := hide ((unhide FO) (fun j hj => hall.out j (by omega)))
        clear hke hall FS FO HPK
        go_wp2_with fail
        go_ret
        exact ⟨ret_bool (by rw [unhide fin]; rfl), hb1⟩
  · have fin := hide ((unhide FK) hk)
    generalize (p.getD 0 M.zero).kind = kd at *
    have e5 : (kd == 5) = false := by simp [hk]
    clear FS FO FK hk hrow HP HPK
    go_enter Tryd.func66, Tryd.ntmps66
    go_wp2_with fail
    go_ret
    exact ⟨ret_bool (by rw [unhide fin]; rfl), Below.refl _ _⟩

theorem specPathFault_any (p : List M.Cl) (b off cap : Nat) (w : World) (hrow : Row w b off p) (hb : b < w.heap.size) (hn : p.length ≤ 1048576) (hcap : p.length ≤ cap) (hok : ∀ c ∈ p, c.ok) :
    Calls Tryd.prog 42 #[.slice (some ⟨b, off, none⟩) p.length cap] w fun e w' => e = .returned (.int .i64 (Pth.fault p)) ∧ Below w.heap.size w w' := by
  have HP := hide (fun w' hv r hb' => l13Path_any p b off cap w' hv r hb' hcap hok)
  go_enter Tryd.func42, Tryd.ntmps42
  go_wp2_with fail
  refine (specFault_any p b off cap _ hrow hb hn hcap hok).mono ?_
  rintro e w1 ⟨rfl, hb1⟩
  have hrow1 := hrow.below hb1 hb
  have hb1' : b < w1.heap.size := Nat.lt_of_lt_of_le hb hb1.size
  clear hok hrow
  generalize hq : M.valueFault p = q
  by_cases hz : q = 0
  · subst hz
    have HC := hide ((unhide HP) w1 hq hrow1 hb1')
    have h6 : Pth.fault p = 0 ∨ Pth.fault p = 6 := by unfold Pth.fault; rw [if_neg (by simp [hq])]; split <;> (try split) <;> simp
    clear HP hrow1 hq
    generalize hr : Pth.fault p = r at *
    have fin := hide hr
    clear hr
    rcases h6 with rfl | rfl
    · go_wp2_with fail
      refine (unhide HC).mono ?_
      rintro e w2 ⟨rfl, hb2⟩
      have B2 := hb1.trans (hb2.mono hb1.size)
      clear hb2 HC
      go_wp2_with fail
      go_ret
      exact ⟨ret_int (unhide fin).symm, B2⟩
    · go_wp2_with fail
      refine (unhide HC).mono ?_
      rintro e w2 ⟨rfl, hb2⟩
      have B2 := hb1.trans (hb2.mono hb1.size)
      clear hb2 HC
      go_wp2_with fail
      go_ret
      exact ⟨ret_int (unhide fin).symm, B2⟩
  · have fin := hide ((Pth.fault_bad (by rw [hq]; exact hz)).trans hq)
    have hz' : (q == 0) = false := by simp [hz]
    clear hq hrow1 HP
    go_wp2_with fail
    go_ret
    exact ⟨ret_int (unhide fin).symm, hb1⟩

theorem pathedFault_any (v : List M.Cl) (b off cap : Nat) (p : List M.Cl) (b' off' cap' : Nat) (w : World) (hrow : Row w b off v) (hb : b < w.heap.size) (hn : v.length ≤ 1048576) (hcap : v.length ≤ cap) (hok : ∀ c ∈ v, c.ok) (hrow' : Row w b' off' p) (hb' : b' < w.heap.size) (hn' : p.length ≤ 1048576) (hcap' : p.length ≤ cap') (hc : cap' ≤ 9223372036854775807) (hok' : ∀ c ∈ p, c.ok) :
    Calls Tryd.prog 51 #[.slice (some ⟨b, off, none⟩) v.length cap, .slice (some ⟨b', off', none⟩) p.length cap'] w fun e w' => e = .returned (.int .i64 (Pth.asked v p)) ∧ Below w.heap.size w w' := by
  have HP := hide (fun w' r hb'' => implPathFault_any p b' off' cap' w' r hb'' hn' hcap' hc hok')
  go_enter Tryd.func51, Tryd.ntmps51
  go_wp2_with fail
  refine (implFault_any v b off cap _ hrow hb hn hcap hok).mono ?_
  rintro e w1 ⟨rfl, hb1⟩
  have hrow1 := hide (hrow'.below hb1 hb')
  have hb1' : b' < w1.heap.size := Nat.lt_of_lt_of_le hb' hb1.size
  clear hok hrow hok' hrow'
  generalize hq : M.valueFault v = q
  by_cases hz : q = 0
  · subst hz
    have fin := hide (Pth.asked_ok (p := p) hq)
    clear hq
    generalize Pth.fault p = r at *
    go_wp2_with fail
    refine ((unhide HP) _ (unhide hrow1) hb1').mono ?_
    rintro e w2 ⟨rfl, hb2⟩
    have B2 := hb1.trans (hb2.mono hb1.size)
    clear hb2 HP
    go_wp2_with fail
    go_ret
    exact ⟨ret_int (unhide fin).symm, B2⟩
  · have fin := hide ((Pth.asked_bad (p := p) (by rw [hq]; exact hz)).trans hq)
    have hz' : (q == 0) = false := by simp [hz]
    clear hq hrow1 HP
    go_wp2_with fail
    go_ret
    exact ⟨ret_int (unhide fin).symm, hb1⟩

theorem l13Asked_any (v : List M.Cl) (b off cap : Nat) (p : List M.Cl) (b' off' cap' : Nat) (w : World) (hrow : Row w b off v) (hb : b < w.heap.size) (hn : v.length ≤ 1048576) (hcap : v.length ≤ cap) (hok : ∀ c ∈ v, c.ok) (hrow' : Row w b' off' p) (hb' : b' < w.heap.size) (hn' : p.length ≤ 1048576) (hcap' : p.length ≤ cap') (hok' : ∀ c ∈ p, c.ok) :
    Calls Tryd.prog 44 #[.slice (some ⟨b, off, none⟩) v.length cap, .slice (some ⟨b', off', none⟩) p.length cap'] w fun e w' => e = .returned (.int .i64 (Pth.asked v p)) ∧ Below w.heap.size w w' := by
  have HP := hide (fun w' r hb'' => specPathFault_any p b' off' cap' w' r hb'' hn' hcap' hok')
  go_enter Tryd.func44, Tryd.ntmps44
  go_wp2_with fail
  refine (specFault_any v b off cap _ hrow hb hn hcap hok).mono ?_
  rintro e w1 ⟨rfl, hb1⟩
  have hrow1 := hide (hrow'.below hb1 hb')
  have hb1' : b' < w1.heap.size := Nat.lt_of_lt_of_le hb' hb1.size
  clear hok hrow hok' hrow'
  generalize hq : M.valueFault v = q
  by_cases hz : q = 0
  · subst hz
    have fin := hide (Pth.asked_ok (p := p) hq)
    clear hq
    generalize Pth.fault p = r at *
    go_wp2_with fail
    refine ((unhide HP) _ (unhide hrow1) hb1').mono ?_
    rintro e w2 ⟨rfl, hb2⟩
    have B2 := hb1.trans (hb2.mono hb1.size)
    clear hb2 HP
    go_wp2_with fail
    go_ret
    exact ⟨ret_int (unhide fin).symm, B2⟩
  · have fin := hide ((Pth.asked_bad (p := p) (by rw [hq]; exact hz)).trans hq)
    have hz' : (q == 0) = false := by simp [hz]
    clear hq hrow1 HP
    go_wp2_with fail
    go_ret
    exact ⟨ret_int (unhide fin).symm, hb1⟩
end Go.Proofs.YtlbmpldknfcfhaaDoor
