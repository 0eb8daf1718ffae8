/-
  What DropKey tells, plainly: an object without one of its members has no fault.
  Lists of parts that are kept where another list grows.
-/
import Derived.Test.YtfcglmkbfdfaeaaS25
import Derived.Maps.AppendAt
namespace Go.Proofs.Ytfcglmkbfdfaeaa
open Go.RowKit
set_option linter.unusedVariables false

/-- The places of the members that stay. -/
def stay (v : List M.Cl) (key : ByteArray) (k : Nat) : List Nat := (List.range k).filter fun j => !((v.getD (M.iter v j 1) M.zero).key.toList == key.toList)
def stayK (v : List M.Cl) (key : ByteArray) (k : Nat) : List ByteArray := (stay v key k).map fun j => (v.getD (M.iter v j 1) M.zero).key
def stayP (v : List M.Cl) (key : ByteArray) (k : Nat) : List (List M.Cl) := (stay v key k).map fun j => part v (M.iter v j 1)
theorem stay_yes {v : List M.Cl} {key : ByteArray} {k : Nat} (h : ((v.getD (M.iter v k 1) M.zero).key.toList == key.toList) = true) : stay v key (k + 1) = stay v key k := by
  unfold stay; rw [List.range_succ, List.filter_append, List.filter_cons_of_neg (by rw [h]; decide), List.filter_nil, List.append_nil]
theorem stay_no {v : List M.Cl} {key : ByteArray} {k : Nat} (h : ((v.getD (M.iter v k 1) M.zero).key.toList == key.toList) = false) : stay v key (k + 1) = stay v key k ++ [k] := by
  unfold stay; rw [List.range_succ, List.filter_append, List.filter_cons_of_pos (by rw [h]; rfl), List.filter_nil]
theorem stayK_yes {v : List M.Cl} {key : ByteArray} {k : Nat} (h : ((v.getD (M.iter v k 1) M.zero).key.toList == key.toList) = true) : stayK v key (k + 1) = stayK v key k ∧ stayP v key (k + 1) = stayP v key k := by
  unfold stayK stayP; rw [stay_yes h]; exact ⟨rfl, rfl⟩
theorem stayK_no {v : List M.Cl} {key : ByteArray} {k : Nat} (h : ((v.getD (M.iter v k 1) M.zero).key.toList == key.toList) = false) : stayK v key (k + 1) = stayK v key k ++ [(v.getD (M.iter v k 1) M.zero).key] ∧ stayP v key (k + 1) = stayP v key k ++ [part v (M.iter v k 1)] := by
  unfold stayK stayP; rw [stay_no h, List.map_append, List.map_append]; exact ⟨rfl, rfl⟩
theorem stay_length (v : List M.Cl) (key : ByteArray) (k : Nat) : (stay v key k).length ≤ k := by
  have := List.length_filter_le (fun j => !((v.getD (M.iter v j 1) M.zero).key.toList == key.toList)) (List.range k)
  simpa [stay] using this
theorem stayK_length (v : List M.Cl) (key : ByteArray) (k : Nat) : (stayK v key k).length = (stay v key k).length ∧ (stayP v key k).length = (stay v key k).length := by simp [stayK, stayP]
theorem stay_lt {v : List M.Cl} {key : ByteArray} {k j : Nat} (h : j ∈ stay v key k) : j < k := by
  unfold stay at h
  exact List.mem_range.1 (List.mem_filter.1 h).1
theorem stay_sorted (v : List M.Cl) (key : ByteArray) (k : Nat) : (stay v key k).Pairwise (· < ·) := by
  unfold stay
  exact (List.pairwise_lt_range (n := k)).filter _
theorem stay_at {v : List M.Cl} {key : ByteArray} {k i : Nat} (hi : i < (stay v key k).length) : (stayK v key k).getD i ByteArray.empty = (v.getD (M.iter v ((stay v key k).getD i 0) 1) M.zero).key ∧ (stayP v key k).getD i [] = part v (M.iter v ((stay v key k).getD i 0) 1) ∧ (stay v key k).getD i 0 < k := by
  refine ⟨by simp [stayK, List.getD_eq_getElem?_getD, hi], by simp [stayP, List.getD_eq_getElem?_getD, hi], ?_⟩
  refine stay_lt (v := v) (key := key) ?_
  rw [List.getD_eq_getElem?_getD, List.getElem?_eq_getElem hi]
  exact List.getElem_mem hi

/-- The keys of an object's members rise. -/
theorem keys_rise (v : List M.Cl) (hv : M.valueFault v = 0) (hk : (v.getD 0 M.zero).kind = 6) : ∀ j, j + 1 < M.arity v 0 → M.keyLe (v.getD (M.iter v (j + 1) 1) M.zero).key (v.getD (M.iter v j 1) M.zero).key = false := by
  have hl := (M.fault_zero hv).1
  obtain ⟨d, hw, _⟩ := (M.fault_zero hv).2.2.2.2
  obtain ⟨f, hf⟩ : ∃ f, v.length = f + 1 := ⟨v.length - 1, by omega⟩
  have hw' := hw
  rw [hf] at hw'
  simp only [M.walk, Option.map_eq_some_iff] at hw'
  obtain ⟨r, h1, _⟩ := hw'
  have key : ∀ m k e d last r, M.kids (M.walk v f) v (v.getD 0 M.zero) m k e d last = some r → e ≤ v.length → d ≤ f → (∀ j, j < m → (0 < k + j → M.keyLe (v.getD (M.iter v j e) M.zero).key (if j = 0 then last else (v.getD (M.iter v (j - 1) e) M.zero).key) = false)) := by
    intro m
    induction m with
    | zero => intro k e d last r _ _ _ j hj; omega
    | succ m ih =>
      intro k e d last r h he hd j hj hkj
      simp only [M.kids] at h
      split at h
      · cases h
      rename_i hb
      have hlt : e < v.length := by
        by_cases hx : e < v.length
        · exact hx
        · exact absurd (show M.bad v (v.getD 0 M.zero) k e last = true by unfold M.bad; rw [if_neg hx]) hb
      split at h
      · cases h
      · rename_i e1 d1 hr
        have hwb := M.walk_bd v f e hlt _ hr
        simp only at hwb
        have he1 : M.endOf v e = e1 := M.endOf_of (by omega) hr
        cases j with
        | zero =>
          rw [if_pos rfl]
          show M.keyLe (v.getD e M.zero).key last = false
          have hb' : M.bad v (v.getD 0 M.zero) k e last = false := by cases hx : M.bad v (v.getD 0 M.zero) k e last with | true => exact absurd hx hb | false => rfl
          unfold M.bad at hb'
          rw [if_pos hlt, Bool.or_eq_false_iff] at hb'
          have h2 := hb'.2
          rw [hk, decide_eq_true rfl, decide_eq_true (show 0 < k by omega)] at h2
          simpa using h2
        | succ j =>
          have := ih (k + 1) e1 (max d d1) _ r h hwb.2.1 (by omega) j (by omega) (by omega)
          rw [if_neg (by omega), Nat.add_sub_cancel]
          have hi : M.iter v (j + 1) e = M.iter v j e1 := by rw [M.iter, he1]
          rw [hi]
          by_cases hj0 : j = 0
          · subst hj0
            rw [if_pos rfl] at this
            exact this
          · rw [if_neg hj0] at this
            have hi2 : M.iter v j e = M.iter v (j - 1) e1 := by
              obtain ⟨i, rfl⟩ : ∃ i, j = i + 1 := ⟨j - 1, by omega⟩
              rw [M.iter, he1]; rfl
            rw [hi2]
            exact this
  intro j hj
  have := key _ 0 1 0 ByteArray.empty r h1 (by omega) (by omega) (j + 1) (by unfold M.arity at hj; omega) (by omega)
  rwa [if_neg (by omega), Nat.add_sub_cancel] at this
theorem keyLe_false {a b : ByteArray} (h : M.keyLe a b = false) : Op.bytesLess b.toList a.toList = true := by
  unfold M.keyLe at h
  rw [Bool.or_eq_false_iff] at h
  rcases St.bl_tri b.toList a.toList with h1 | h1 | h1
  · exact h1
  · have := h.2
    rw [h1] at this
    simp at this
  · rw [h1] at h; cases h.1
theorem keys_rise2 (v : List M.Cl) (hv : M.valueFault v = 0) (hk : (v.getD 0 M.zero).kind = 6) (i j : Nat) (hij : i < j) (hj : j < M.arity v 0) : Op.bytesLess (v.getD (M.iter v i 1) M.zero).key.toList (v.getD (M.iter v j 1) M.zero).key.toList = true := by
  induction j with
  | zero => omega
  | succ j ih =>
    have h1 := keyLe_false (keys_rise v hv hk j hj)
    by_cases e : i = j
    · subst e; exact h1
    · exact St.bl_trans _ _ _ (ih (by omega) (by omega)) h1
/-- Keys that rise stand as they are. -/
theorem stand_rise (ks : List ByteArray) (h : ∀ i j, i < j → j < ks.length → Op.bytesLess (ks.getD i ByteArray.empty).toList (ks.getD j ByteArray.empty).toList = true) (k : Nat) (hk : k ≤ ks.length) : St.stand ks k = List.range k := by
  refine St.pw_ext (ks := ks) _ _ (St.stand_pw ks k) ?_ (fun x => ?_)
  · refine List.Pairwise.imp_of_mem (R := (· < ·)) (fun {a b} ha hb hab => ?_) (List.pairwise_lt_range (n := k))
    exact h a b hab (by have := List.mem_range.1 hb; omega)
  · rw [St.stand_mem, List.mem_range]
    refine ⟨fun g => g.1, fun g => ⟨g, fun q h1 h2 e => ?_⟩⟩
    have := h x q h1 (by omega)
    unfold St.kl at e
    rw [← e, St.bl_irr] at this
    cases this

def dropIn (v : List M.Cl) (key : ByteArray) : List M.Cl := objV (stayK v key (M.arity v 0)) (stayP v key (M.arity v 0))
theorem drop_facts {v : List M.Cl} (key : ByteArray) (hv : M.valueFault v = 0) (hok : ∀ c ∈ v, c.ok) (k : Nat) (hk : k ≤ M.arity v 0) : (stayK v key k).length = (stayP v key k).length ∧ (stayK v key k).length ≤ 200 ∧ (∀ j, j < (stayP v key k).length → M.valueFault ((stayP v key k).getD j []) = 0) ∧ OkS (stayP v key k) ∧ TextsOk (stayK v key k) := by
  have hall := subs_all hv hok
  have hl := stayK_length v key k
  have hsl := stay_length v key k
  have hsub : ∀ j, j < M.arity v 0 → (subs v 0).getD j [] = part v (M.iter v j 1) := fun j hj => by simp [subs, M.places, List.getD_eq_getElem?_getD, hj]
  have hkey : ∀ j, j < M.arity v 0 → (keysAt v 0).getD j ByteArray.empty = (v.getD (M.iter v j 1) M.zero).key := fun j hj => by simp [keysAt, M.places, List.getD_eq_getElem?_getD, hj]
  have h200 := hall.1
  rw [subs_length] at hall h200
  refine ⟨by omega, by omega, fun j hj => ?_, fun j hj => ?_, fun j hj => ?_⟩
  · rw [hl.2] at hj
    have := stay_at hj
    rw [this.2.1, ← hsub _ (by omega)]; exact hall.2.1 _ (by omega)
  · rw [hl.2] at hj
    have := stay_at hj
    rw [this.2.1, ← hsub _ (by omega)]; exact hall.2.2.1 _ (by rw [subs_length]; omega)
  · rw [hl.1] at hj
    have := stay_at hj
    rw [this.1, ← hkey _ (by omega)]; exact keys_text hv _ (by rw [keysAt_length]; omega)
theorem tot_stay {v : List M.Cl} (key : ByteArray) (hv : M.valueFault v = 0) (k : Nat) (hk : k ≤ M.arity v 0) : tot (stayP v key k) (stayP v key k).length + 1 ≤ M.iter v k 1 := by
  have hl := (M.fault_zero hv).1
  obtain ⟨h1, h2, h3, _⟩ := M.places_in hv 0 (by omega)
  induction k with
  | zero => show tot (stayP v key 0) _ + 1 ≤ 1; simp [stayP, stay, tot]
  | succ k ih =>
    have := ih (by omega)
    have h5 := h1 k (by omega)
    simp only [Nat.zero_add] at h5
    have hg := end_gt hv (a := M.iter v k 1) (by omega)
    rw [M.iter_next]
    cases hh : ((v.getD (M.iter v k 1) M.zero).key.toList == key.toList) with
    | true => rw [(stayK_yes hh).2]; omega
    | false =>
      rw [(stayK_no hh).2]
      have e : tot (stayP v key k ++ [part v (M.iter v k 1)]) (stayP v key k ++ [part v (M.iter v k 1)]).length = tot (stayP v key k) (stayP v key k).length + (part v (M.iter v k 1)).length := by
        unfold tot; rw [List.take_length, List.take_length, List.map_append, List.sum_append]; simp
      rw [e, part_len hv (by omega)]
      omega
theorem drop_valid {v : List M.Cl} (key : ByteArray) (hv : M.valueFault v = 0) (hok : ∀ c ∈ v, c.ok) (hk : (v.getD 0 M.zero).kind = 6) : M.valueFault (dropIn v key) = 0 := by
  have hl := (M.fault_zero hv).1
  have hl2 := (M.fault_zero hv).2.1
  have hsubg : ∀ i, i < M.arity v 0 → (subs v 0).getD i [] = part v (M.iter v i 1) := fun i hi => by simp [subs, M.places, List.getD_eq_getElem?_getD, hi]
  obtain ⟨h1, h2, h3, _⟩ := M.places_in hv 0 (by omega)
  obtain ⟨f1, f2, f3, f4, f5⟩ := drop_facts key hv hok (M.arity v 0) (Nat.le_refl _)
  have hsl := stayK_length v key (M.arity v 0)
  have hrise : ∀ i j, i < j → j < (stayK v key (M.arity v 0)).length → Op.bytesLess ((stayK v key (M.arity v 0)).getD i ByteArray.empty).toList ((stayK v key (M.arity v 0)).getD j ByteArray.empty).toList = true := by
    intro i j hij hj
    rw [hsl.1] at hj
    have hi' := stay_at (v := v) (key := key) (k := M.arity v 0) (i := i) (by omega)
    have hj' := stay_at (v := v) (key := key) (k := M.arity v 0) (i := j) hj
    rw [hi'.1, hj'.1]
    refine keys_rise2 v hv hk _ _ ?_ hj'.2.2
    rw [List.getD_eq_getElem?_getD, List.getElem?_eq_getElem (by omega), List.getD_eq_getElem?_getD, List.getElem?_eq_getElem hj]
    exact List.pairwise_iff_getElem.1 (stay_sorted v key _) i j (by omega) hj hij
  have hst := stand_rise _ hrise _ (Nat.le_refl _)
  have htot := tot_stay key hv (M.arity v 0) (Nat.le_refl _)
  simp only [Nat.zero_add] at h2
  rw [h2] at htot
  unfold dropIn objV
  rw [hst]
  generalize hKs : stayK v key (M.arity v 0) = Ks at *
  generalize hPs : stayP v key (M.arity v 0) = Ps at *
  have hqs : objK Ks Ps (List.range Ks.length) (List.range Ks.length).length = headCl 6 Ks.length :: ((List.range Ks.length).map fun p => setKey (Ps.getD p []) (Ks.getD p ByteArray.empty)).flatten := by
    unfold objK memK; rw [List.take_length, List.length_range]
  rw [hqs]
  obtain ⟨qs, hq⟩ : ∃ qs, qs = (List.range Ks.length).map fun p => setKey (Ps.getD p []) (Ks.getD p ByteArray.empty) := ⟨_, rfl⟩
  have hql : qs.length = Ks.length := by rw [hq]; simp
  have hqg : ∀ j, j < qs.length → qs.getD j [] = setKey (Ps.getD j []) (Ks.getD j ByteArray.empty) := fun j hj => by rw [hql] at hj; rw [hq]; simp [List.getD_eq_getElem?_getD, hj]
  have hqt : ∀ k, k ≤ qs.length → tot qs k = tot Ps k := by
    intro k
    induction k with
    | zero => intro _; rw [tot_zero, tot_zero]
    | succ k ih => intro hk'; rw [tot_succ qs k (by omega), tot_succ Ps k (by omega), ih (by omega), hqg k (by omega), setKey_length]
  rw [← hq]
  have hfst : ∀ j, j < qs.length → ((qs.getD j []).getD 0 M.zero).key = Ks.getD j ByteArray.empty := fun j hj => by
    rw [hqg j hj, setKey_zero _ _ (valid_ne f3 j (by omega))]
  refine made_ok _ qs ?_ empty_toList (by rw [hql]; rfl) (by rw [hqt _ (Nat.le_refl _), hql, f1]; omega) (fun j hj => ?_) (fun h => absurd (show (6 : Int) = 5 from h) (by decide)) (fun _ j hj => ?_)
  · unfold headCl M.cellCode
    simp only
    rw [if_neg (by omega), if_neg, if_neg (by omega), if_pos ⟨by decide, by decide⟩]
    intro h
    rcases h with h | h | h
    · exact h.1 rfl
    · exact h.1 empty_toList
    · exact h.2.2 rfl
  · have hj' : j < (stay v key (M.arity v 0)).length := by omega
    have hat := stay_at hj'
    rw [hPs] at hat
    have hsub := hsubg _ hat.2.2
    have hw := subs_laid hv (j := (stay v key (M.arity v 0)).getD j 0) (by rw [subs_length]; exact hat.2.2)
    rw [hsub, ← hat.2.1] at hw
    obtain ⟨d, hw1, hw2⟩ := hw
    exact ⟨Ps.getD j [], Ks.getD j ByteArray.empty, d, hqg j hj, f3 j (by omega), f5 j (by omega), hw1, hw2⟩
  · rw [hfst (j + 1) hj, hfst j (by omega)]
    have := hrise j (j + 1) (by omega) (by omega)
    unfold M.keyLe
    rw [Bool.or_eq_false_iff]
    refine ⟨?_, ?_⟩
    · cases hx : Op.bytesLess (Ks.getD (j + 1) ByteArray.empty).toList (Ks.getD j ByteArray.empty).toList with
      | false => rfl
      | true => have := St.bl_trans _ _ _ this hx; rw [St.bl_irr] at this; cases this
    · cases hx : ((Ks.getD (j + 1) ByteArray.empty).toList == (Ks.getD j ByteArray.empty).toList) with
      | false => rfl
      | true => rw [eq_of_beq hx, St.bl_irr] at this; cases this

def dropL (v : List M.Cl) (key : ByteArray) : Int × List M.Cl := if (v.getD 0 M.zero).kind = 0 then (0, [M.zero]) else if (v.getD 0 M.zero).kind = 6 then (0, dropIn v key) else (6, [])
def dropOut (v : List M.Cl) (key : ByteArray) : Int × List M.Cl := if M.valueFault v ≠ 0 then (M.valueFault v, []) else if M.textOk key = true then dropL v key else (5, [])
theorem drop_bad {v : List M.Cl} {key : ByteArray} (h : M.valueFault v ≠ 0) : dropOut v key = (M.valueFault v, []) := if_pos h
theorem drop_text {v : List M.Cl} {key : ByteArray} (h : M.valueFault v = 0) (ht : M.textOk key = false) : dropOut v key = (5, []) := by unfold dropOut; rw [if_neg (by simp [h]), if_neg (by simp [ht])]
theorem drop_ok {v : List M.Cl} {key : ByteArray} (h : M.valueFault v = 0) (ht : M.textOk key = true) : dropOut v key = dropL v key := by unfold dropOut; rw [if_neg (by simp [h]), if_pos ht]
theorem drop_0 {v : List M.Cl} {key : ByteArray} (h : (v.getD 0 M.zero).kind = 0) : dropL v key = (0, [M.zero]) := if_pos h
theorem drop_6 {v : List M.Cl} {key : ByteArray} (h : (v.getD 0 M.zero).kind = 6) : dropL v key = (0, dropIn v key) := by unfold dropL; rw [if_neg (by omega), if_pos h]
theorem drop_no {v : List M.Cl} {key : ByteArray} (h0 : (v.getD 0 M.zero).kind ≠ 0) (h6 : (v.getD 0 M.zero).kind ≠ 6) : dropL v key = (6, []) := by unfold dropL; rw [if_neg h0, if_neg h6]

end Go.Proofs.Ytfcglmkbfdfaeaa

namespace Go.Proofs.Ytfcglmkbfdfaeaa
open Go.RowKit
set_option linter.unusedVariables false

theorem SS.keptT {w w' : World} {B base : Nat} {v s : Value} {ps : List (List M.Cl)} {e : TypeId} {size n : Nat} {xs : List Value} (h : SS w B v ps) (ho : w.ownsRow base e size s n xs) (h1 : e ≠ 24) (h2 : e ≠ 34) (hg : w.grownBy w' s.ownBlock) : SS w' B v ps := by
  obtain ⟨ss, hl, hown, hres⟩ := h
  refine ⟨ss, hl, hown.kept hg ?_, fun i hi => grown_res ho hg (hres i hi) h2⟩
  obtain ⟨_, ⟨rfl, _⟩ | ⟨g, cap, cur, rfl, _, hh, _⟩⟩ := hown
  · exact .inl rfl
  · refine .inr fun e => ?_
    exact other_block ho (b := g) (t := 24) (ys := cur.toList) ⟨cur, hh, rfl⟩ h1 (by rw [← e]; rfl)
/-- Two slices lie in unlike blocks. -/
def Apart (s t : Value) : Prop := ∀ g, t.ownBlock = some g → s.ownBlock ≠ some g
end Go.Proofs.Ytfcglmkbfdfaeaa
