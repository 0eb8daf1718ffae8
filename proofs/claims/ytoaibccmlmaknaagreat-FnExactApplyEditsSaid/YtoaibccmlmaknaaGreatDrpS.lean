/-
  What DropKey tells, plainly: an object without one of its members has no fault.
  Lists of parts that are kept where another list grows.
  spec.DropKey.
-/
import Derived.Test.YtoaibccmlmaknaaGreatObj0
import Derived.Test.YtoaibccmlmaknaaGreatObSV
import Derived.Maps.AppendAt
namespace Go.Proofs.YtoaibccmlmaknaaGreat
open Go.RowKit
set_option linter.unusedVariables false

/-- The places of the members that stay. -/
def stay (v : List M.Cl) (key : ByteArray) (k : Nat) : List Nat := (List.range k).filter fun j => !((v.getD (M.iter v j 1) M.zero).key.toList == key.toList)
def stayK (v : List M.Cl) (key : ByteArray) (k : Nat) : List ByteArray := (stay v key k).map fun j => (v.getD (M.iter v j 1) M.zero).key
def stayP (v : List M.Cl) (key : ByteArray) (k : Nat) : List (List M.Cl) := (stay v key k).map fun j => part v (M.iter v j 1)
theorem stay_yes {v : List M.Cl} {key : ByteArray} {k : Nat} (h : ((v.getD (M.iter v k 1) M.zero).key.toList == key.toList) = true) : stay v key (k + 1) = stay v key k := by
  unfold stay; rw [List.range_succ, List.filter_append, List.filter_cons_of_neg (by rw [h]; decide), List.filter_nil, List.append_nil]
theorem stay_no {v : List M.Cl} {key : ByteArray} {k : Nat} (h : ((v.getD (M.iter v k 1) M.zero).key.toList == key.toList) = false) : stay v key (k + 1) = stay v key k ++ [k] := by
  unfold stay; rw [List.range_succ, List.filter_append, List.filter_cons_of_pos (by rw [h]; rfl), List.filter_nil]
theorem stayK_yes {v : List M.Cl} {key : ByteArray} {k : Nat} (h : ((v.getD (M.iter v k 1) M.zero).key.toList == key.toList) = true) : stayK v key (k + 1) = stayK v key k ∧ stayP v key (k + 1) = stayP v key k := by
  unfold stayK stayP; rw [stay_yes h]; exact ⟨rfl, rfl⟩
theorem stayK_no {v : List M.Cl} {key : ByteArray} {k : Nat} (h : ((v.getD (M.iter v k 1) M.zero).key.toList == key.toList) = false) : stayK v key (k + 1) = stayK v key k ++ [(v.getD (M.iter v k 1) M.zero).key] ∧ stayP v key (k + 1) = stayP v key k ++ [part v (M.iter v k 1)] := by
  unfold stayK stayP; rw [stay_no h, List.map_append, List.map_append]; exact ⟨rfl, rfl⟩
theorem stay_length (v : List M.Cl) (key : ByteArray) (k : Nat) : (stay v key k).length ≤ k := by
  have := List.length_filter_le (fun j => !((v.getD (M.iter v j 1) M.zero).key.toList == key.toList)) (List.range k)
  simpa [stay] using this
theorem stayK_length (v : List M.Cl) (key : ByteArray) (k : Nat) : (stayK v key k).length = (stay v key k).length ∧ (stayP v key k).length = (stay v key k).length := by simp [stayK, stayP]
theorem stay_lt {v : List M.Cl} {key : ByteArray} {k j : Nat} (h : j ∈ stay v key k) : j < k := by
  unfold stay at h
  exact List.mem_range.1 (List.mem_filter.1 h).1
theorem stay_sorted (v : List M.Cl) (key : ByteArray) (k : Nat) : (stay v key k).Pairwise (· < ·) := by
  unfold stay
  exact (List.pairwise_lt_range (n := k)).filter _
theorem stay_at {v : List M.Cl} {key : ByteArray} {k i : Nat} (hi : i < (stay v key k).length) : (stayK v key k).getD i ByteArray.empty = (v.getD (M.iter v ((stay v key k).getD i 0) 1) M.zero).key ∧ (stayP v key k).getD i [] = part v (M.iter v ((stay v key k).getD i 0) 1) ∧ (stay v key k).getD i 0 < k := by
  refine ⟨by simp [stayK, List.getD_eq_getElem?_getD, hi], by simp [stayP, List.getD_eq_getElem?_getD, hi], ?_⟩
  refine stay_lt (v := v) (key := key) ?_
  rw [List.getD_eq_getElem?_getD, List.getElem?_eq_getElem hi]
  exact List.getElem_mem hi

/-- The keys of an object's members rise. -/
theorem keys_rise (v : List M.Cl) (hv : M.valueFault v = 0) (hk : (v.getD 0 M.zero).kind = 6) : ∀ j, j + 1 < M.arity v 0 → M.keyLe (v.getD (M.iter v (j + 1) 1) M.zero).key (v.getD (M.iter v j 1) M.zero).key = false := by
  have hl := (M.fault_zero hv).1
  obtain ⟨d, hw, _⟩ := (M.fault_zero hv).2.2.2.2
  obtain ⟨f, hf⟩ : ∃ f, v.length = f + 1 := ⟨v.length - 1, by omega⟩
  have hw' := hw
  rw [hf] at hw'
  simp only [M.walk, Option.map_eq_some_iff] at hw'
  obtain ⟨r, h1, _⟩ := hw'
  have key : ∀ m k e d last r, M.kids (M.walk v f) v (v.getD 0 M.zero) m k e d last = some r → e ≤ v.length → d ≤ f → (∀ j, j < m → (0 < k + j → M.keyLe (v.getD (M.iter v j e) M.zero).key (if j = 0 then last else (v.getD (M.iter v (j - 1) e) M.zero).key) = false)) := by
    intro m
    induction m with
    | zero => intro k e d last r _ _ _ j hj; omega
    | succ m ih =>
      intro k e d last r h he hd j hj hkj
      simp only [M.kids] at h
      split at h
      · cases h
      rename_i hb
      have hlt : e < v.length := by
        by_cases hx : e < v.length
        · exact hx
        · exact absurd (show M.bad v (v.getD 0 M.zero) k e last = true by unfold M.bad; rw [if_neg hx]) hb
      split at h
      · cases h
      · rename_i e1 d1 hr
        have hwb := M.walk_bd v f e hlt _ hr
        simp only at hwb
        have he1 : M.endOf v e = e1 := M.endOf_of (by omega) hr
        cases j with
        | zero =>
          rw [if_pos rfl]
          show M.keyLe (v.getD e M.zero).key last = false
          have hb' : M.bad v (v.getD 0 M.zero) k e last = false := by cases hx : M.bad v (v.getD 0 M.zero) k e last with | true => exact absurd hx hb | false => rfl
          unfold M.bad at hb'
          rw [if_pos hlt, Bool.or_eq_false_iff] at hb'
          have h2 := hb'.2
          rw [hk, decide_eq_true rfl, decide_eq_true (show 0 < k by omega)] at h2
          simpa using h2
        | succ j =>
          have := ih (k + 1) e1 (max d d1) _ r h hwb.2.1 (by omega) j (by omega) (by omega)
          rw [if_neg (by omega), Nat.add_sub_cancel]
          have hi : M.iter v (j + 1) e = M.iter v j e1 := by rw [M.iter, he1]
          rw [hi]
          by_cases hj0 : j = 0
          · subst hj0
            rw [if_pos rfl] at this
            exact this
          · rw [if_neg hj0] at this
            have hi2 : M.iter v j e = M.iter v (j - 1) e1 := by
              obtain ⟨i, rfl⟩ : ∃ i, j = i + 1 := ⟨j - 1, by omega⟩
              rw [M.iter, he1]; rfl
            rw [hi2]
            exact this
  intro j hj
  have := key _ 0 1 0 ByteArray.empty r h1 (by omega) (by omega) (j + 1) (by unfold M.arity at hj; omega) (by omega)
  rwa [if_neg (by omega), Nat.add_sub_cancel] at this
theorem keyLe_false {a b : ByteArray} (h : M.keyLe a b = false) : Op.bytesLess b.toList a.toList = true := by
  unfold M.keyLe at h
  rw [Bool.or_eq_false_iff] at h
  rcases St.bl_tri b.toList a.toList with h1 | h1 | h1
  · exact h1
  · have := h.2
    rw [h1] at this
    simp at this
  · rw [h1] at h; cases h.1
theorem keys_rise2 (v : List M.Cl) (hv : M.valueFault v = 0) (hk : (v.getD 0 M.zero).kind = 6) (i j : Nat) (hij : i < j) (hj : j < M.arity v 0) : Op.bytesLess (v.getD (M.iter v i 1) M.zero).key.toList (v.getD (M.iter v j 1) M.zero).key.toList = true := by
  induction j with
  | zero => omega
  | succ j ih =>
    have h1 := keyLe_false (keys_rise v hv hk j hj)
    by_cases e : i = j
    · subst e; exact h1
    · exact St.bl_trans _ _ _ (ih (by omega) (by omega)) h1
/-- Keys that rise stand as they are. -/
theorem stand_rise (ks : List ByteArray) (h : ∀ i j, i < j → j < ks.length → Op.bytesLess (ks.getD i ByteArray.empty).toList (ks.getD j ByteArray.empty).toList = true) (k : Nat) (hk : k ≤ ks.length) : St.stand ks k = List.range k := by
  refine St.pw_ext (ks := ks) _ _ (St.stand_pw ks k) ?_ (fun x => ?_)
  · refine List.Pairwise.imp_of_mem (R := (· < ·)) (fun {a b} ha hb hab => ?_) (List.pairwise_lt_range (n := k))
    exact h a b hab (by have := List.mem_range.1 hb; omega)
  · rw [St.stand_mem, List.mem_range]
    refine ⟨fun g => g.1, fun g => ⟨g, fun q h1 h2 e => ?_⟩⟩
    have := h x q h1 (by omega)
    unfold St.kl at e
    rw [← e, St.bl_irr] at this
    cases this

def dropIn (v : List M.Cl) (key : ByteArray) : List M.Cl := objV (stayK v key (M.arity v 0)) (stayP v key (M.arity v 0))
theorem drop_facts {v : List M.Cl} (key : ByteArray) (hv : M.valueFault v = 0) (hok : ∀ c ∈ v, c.ok) (k : Nat) (hk : k ≤ M.arity v 0) : (stayK v key k).length = (stayP v key k).length ∧ (stayK v key k).length ≤ 200 ∧ (∀ j, j < (stayP v key k).length → M.valueFault ((stayP v key k).getD j []) = 0) ∧ OkS (stayP v key k) ∧ TextsOk (stayK v key k) := by
  have hall := subs_all hv hok
  have hl := stayK_length v key k
  have hsl := stay_length v key k
  have hsub : ∀ j, j < M.arity v 0 → (subs v 0).getD j [] = part v (M.iter v j 1) := fun j hj => by simp [subs, M.places, List.getD_eq_getElem?_getD, hj]
  have hkey : ∀ j, j < M.arity v 0 → (keysAt v 0).getD j ByteArray.empty = (v.getD (M.iter v j 1) M.zero).key := fun j hj => by simp [keysAt, M.places, List.getD_eq_getElem?_getD, hj]
  have h200 := hall.1
  rw [subs_length] at hall h200
  refine ⟨by omega, by omega, fun j hj => ?_, fun j hj => ?_, fun j hj => ?_⟩
  · rw [hl.2] at hj
    have := stay_at hj
    rw [this.2.1, ← hsub _ (by omega)]; exact hall.2.1 _ (by omega)
  · rw [hl.2] at hj
    have := stay_at hj
    rw [this.2.1, ← hsub _ (by omega)]; exact hall.2.2.1 _ (by rw [subs_length]; omega)
  · rw [hl.1] at hj
    have := stay_at hj
    rw [this.1, ← hkey _ (by omega)]; exact keys_text hv _ (by rw [keysAt_length]; omega)
theorem tot_stay {v : List M.Cl} (key : ByteArray) (hv : M.valueFault v = 0) (k : Nat) (hk : k ≤ M.arity v 0) : tot (stayP v key k) (stayP v key k).length + 1 ≤ M.iter v k 1 := by
  have hl := (M.fault_zero hv).1
  obtain ⟨h1, h2, h3, _⟩ := M.places_in hv 0 (by omega)
  induction k with
  | zero => show tot (stayP v key 0) _ + 1 ≤ 1; simp [stayP, stay, tot]
  | succ k ih =>
    have := ih (by omega)
    have h5 := h1 k (by omega)
    simp only [Nat.zero_add] at h5
    have hg := end_gt hv (a := M.iter v k 1) (by omega)
    rw [M.iter_next]
    cases hh : ((v.getD (M.iter v k 1) M.zero).key.toList == key.toList) with
    | true => rw [(stayK_yes hh).2]; omega
    | false =>
      rw [(stayK_no hh).2]
      have e : tot (stayP v key k ++ [part v (M.iter v k 1)]) (stayP v key k ++ [part v (M.iter v k 1)]).length = tot (stayP v key k) (stayP v key k).length + (part v (M.iter v k 1)).length := by
        unfold tot; rw [List.take_length, List.take_length, List.map_append, List.sum_append]; simp
      rw [e, part_len hv (by omega)]
      omega
theorem drop_valid {v : List M.Cl} (key : ByteArray) (hv : M.valueFault v = 0) (hok : ∀ c ∈ v, c.ok) (hk : (v.getD 0 M.zero).kind = 6) : M.valueFault (dropIn v key) = 0 := by
  have hl := (M.fault_zero hv).1
  have hl2 := (M.fault_zero hv).2.1
  have hsubg : ∀ i, i < M.arity v 0 → (subs v 0).getD i [] = part v (M.iter v i 1) := fun i hi => by simp [subs, M.places, List.getD_eq_getElem?_getD, hi]
  obtain ⟨h1, h2, h3, _⟩ := M.places_in hv 0 (by omega)
  obtain ⟨f1, f2, f3, f4, f5⟩ := drop_facts key hv hok (M.arity v 0) (Nat.le_refl _)
  have hsl := stayK_length v key (M.arity v 0)
  have hrise : ∀ i j, i < j → j < (stayK v key (M.arity v 0)).length → Op.bytesLess ((stayK v key (M.arity v 0)).getD i ByteArray.empty).toList ((stayK v key (M.arity v 0)).getD j ByteArray.empty).toList = true := by
    intro i j hij hj
    rw [hsl.1] at hj
    have hi' := stay_at (v := v) (key := key) (k := M.arity v 0) (i := i) (by omega)
    have hj' := stay_at (v := v) (key := key) (k := M.arity v 0) (i := j) hj
    rw [hi'.1, hj'.1]
    refine keys_rise2 v hv hk _ _ ?_ hj'.2.2
    rw [List.getD_eq_getElem?_getD, List.getElem?_eq_getElem (by omega), List.getD_eq_getElem?_getD, List.getElem?_eq_getElem hj]
    exact List.pairwise_iff_getElem.1 (stay_sorted v key _) i j (by omega) hj hij
  have hst := stand_rise _ hrise _ (Nat.le_refl _)
  have htot := tot_stay key hv (M.arity v 0) (Nat.le_refl _)
  simp only [Nat.zero_add] at h2
  rw [h2] at htot
  unfold dropIn objV
  rw [hst]
  generalize hKs : stayK v key (M.arity v 0) = Ks at *
  generalize hPs : stayP v key (M.arity v 0) = Ps at *
  have hqs : objK Ks Ps (List.range Ks.length) (List.range Ks.length).length = headCl 6 Ks.length :: ((List.range Ks.length).map fun p => setKey (Ps.getD p []) (Ks.getD p ByteArray.empty)).flatten := by
    unfold objK memK; rw [List.take_length, List.length_range]
  rw [hqs]
  obtain ⟨qs, hq⟩ : ∃ qs, qs = (List.range Ks.length).map fun p => setKey (Ps.getD p []) (Ks.getD p ByteArray.empty) := ⟨_, rfl⟩
  have hql : qs.length = Ks.length := by rw [hq]; simp
  have hqg : ∀ j, j < qs.length → qs.getD j [] = setKey (Ps.getD j []) (Ks.getD j ByteArray.empty) := fun j hj => by rw [hql] at hj; rw [hq]; simp [List.getD_eq_getElem?_getD, hj]
  have hqt : ∀ k, k ≤ qs.length → tot qs k = tot Ps k := by
    intro k
    induction k with
    | zero => intro _; rw [tot_zero, tot_zero]
    | succ k ih => intro hk'; rw [tot_succ qs k (by omega), tot_succ Ps k (by omega), ih (by omega), hqg k (by omega), setKey_length]
  rw [← hq]
  have hfst : ∀ j, j < qs.length → ((qs.getD j []).getD 0 M.zero).key = Ks.getD j ByteArray.empty := fun j hj => by
    rw [hqg j hj, setKey_zero _ _ (valid_ne f3 j (by omega))]
  refine made_ok _ qs ?_ empty_toList (by rw [hql]; rfl) (by rw [hqt _ (Nat.le_refl _), hql, f1]; omega) (fun j hj => ?_) (fun h => absurd (show (6 : Int) = 5 from h) (by decide)) (fun _ j hj => ?_)
  · unfold headCl M.cellCode
    simp only
    rw [if_neg (by omega), if_neg, if_neg (by omega), if_pos ⟨by decide, by decide⟩]
    intro h
    rcases h with h | h | h
    · exact h.1 rfl
    · exact h.1 empty_toList
    · exact h.2.2 rfl
  · have hj' : j < (stay v key (M.arity v 0)).length := by omega
    have hat := stay_at hj'
    rw [hPs] at hat
    have hsub := hsubg _ hat.2.2
    have hw := subs_laid hv (j := (stay v key (M.arity v 0)).getD j 0) (by rw [subs_length]; exact hat.2.2)
    rw [hsub, ← hat.2.1] at hw
    obtain ⟨d, hw1, hw2⟩ := hw
    exact ⟨Ps.getD j [], Ks.getD j ByteArray.empty, d, hqg j hj, f3 j (by omega), f5 j (by omega), hw1, hw2⟩
  · rw [hfst (j + 1) hj, hfst j (by omega)]
    have := hrise j (j + 1) (by omega) (by omega)
    unfold M.keyLe
    rw [Bool.or_eq_false_iff]
    refine ⟨?_, ?_⟩
    · cases hx : Op.bytesLess (Ks.getD (j + 1) ByteArray.empty).toList (Ks.getD j ByteArray.empty).toList with
      | false => rfl
      | true => have := St.bl_trans _ _ _ this hx; rw [St.bl_irr] at this; cases this
    · cases hx : ((Ks.getD (j + 1) ByteArray.empty).toList == (Ks.getD j ByteArray.empty).toList) with
      | false => rfl
      | true => rw [eq_of_beq hx, St.bl_irr] at this; cases this

def dropL (v : List M.Cl) (key : ByteArray) : Int × List M.Cl := if (v.getD 0 M.zero).kind = 0 then (0, [M.zero]) else if (v.getD 0 M.zero).kind = 6 then (0, dropIn v key) else (6, [])
def dropOut (v : List M.Cl) (key : ByteArray) : Int × List M.Cl := if M.valueFault v ≠ 0 then (M.valueFault v, []) else if M.textOk key = true then dropL v key else (5, [])
theorem drop_bad {v : List M.Cl} {key : ByteArray} (h : M.valueFault v ≠ 0) : dropOut v key = (M.valueFault v, []) := if_pos h
theorem drop_text {v : List M.Cl} {key : ByteArray} (h : M.valueFault v = 0) (ht : M.textOk key = false) : dropOut v key = (5, []) := by unfold dropOut; rw [if_neg (by simp [h]), if_neg (by simp [ht])]
theorem drop_ok {v : List M.Cl} {key : ByteArray} (h : M.valueFault v = 0) (ht : M.textOk key = true) : dropOut v key = dropL v key := by unfold dropOut; rw [if_neg (by simp [h]), if_pos ht]
theorem drop_0 {v : List M.Cl} {key : ByteArray} (h : (v.getD 0 M.zero).kind = 0) : dropL v key = (0, [M.zero]) := if_pos h
theorem drop_6 {v : List M.Cl} {key : ByteArray} (h : (v.getD 0 M.zero).kind = 6) : dropL v key = (0, dropIn v key) := by unfold dropL; rw [if_neg (by omega), if_pos h]
theorem drop_no {v : List M.Cl} {key : ByteArray} (h0 : (v.getD 0 M.zero).kind ≠ 0) (h6 : (v.getD 0 M.zero).kind ≠ 6) : dropL v key = (6, []) := by unfold dropL; rw [if_neg h0, if_neg h6]

end Go.Proofs.YtoaibccmlmaknaaGreat

namespace Go.Proofs.YtoaibccmlmaknaaGreat
open Go.RowKit
set_option linter.unusedVariables false

theorem SS.keptT {w w' : World} {B base : Nat} {v s : Value} {ps : List (List M.Cl)} {e : TypeId} {size n : Nat} {xs : List Value} (h : SS w B v ps) (ho : w.ownsRow base e size s n xs) (h1 : e ≠ 26) (h2 : e ≠ 56) (hg : w.grownBy w' s.ownBlock) : SS w' B v ps := by
  obtain ⟨ss, hl, hown, hres⟩ := h
  refine ⟨ss, hl, hown.kept hg ?_, fun i hi => grown_res ho hg (hres i hi) h2⟩
  obtain ⟨_, ⟨rfl, _⟩ | ⟨g, cap, cur, rfl, _, hh, _⟩⟩ := hown
  · exact .inl rfl
  · refine .inr fun e => ?_
    exact other_block ho (b := g) (t := 26) (ys := cur.toList) ⟨cur, hh, rfl⟩ h1 (by rw [← e]; rfl)
theorem SS.keptB {w w' : World} {B base : Nat} {v s : Value} {ps : List (List M.Cl)} {n : Nat} {xs : List Value} (h : SS w B v ps) (ho : w.ownsRow base 26 1 s n xs) (hne : v.ownBlock = none ∨ v.ownBlock ≠ s.ownBlock) (hg : w.grownBy w' s.ownBlock) : SS w' B v ps := by
  obtain ⟨ss, hl, hown, hres⟩ := h
  exact ⟨ss, hl, hown.kept hg hne, fun i hi => grown_res ho hg (hres i hi) (by decide)⟩
theorem KS.keptB {w w' : World} {B base : Nat} {v s : Value} {ks : List ByteArray} {n : Nat} {xs : List Value} (h : KS w B v ks) (ho : w.ownsRow base 9 1 s n xs) (hne : v.ownBlock = none ∨ v.ownBlock ≠ s.ownBlock) (hg : w.grownBy w' s.ownBlock) : KS w' B v ks := World.ownsRow.kept h hg hne
theorem KS.mono {w : World} {B B' : Nat} {v : Value} {ks : List ByteArray} (h : KS w B v ks) (hB : B' ≤ B) : KS w B' v ks := by
  obtain ⟨h1, h2 | ⟨g, cap, cur, h3, h4, h5⟩⟩ := h
  · exact ⟨h1, .inl h2⟩
  · exact ⟨h1, .inr ⟨g, cap, cur, h3, by omega, h5⟩⟩
theorem KSrow_mono {w : World} {B B' : Nat} {e : TypeId} {size : Nat} {v : Value} {n : Nat} {xs : List Value} (h : w.ownsRow B e size v n xs) (hB : B' ≤ B) : w.ownsRow B' e size v n xs := by
  obtain ⟨h1, h2 | ⟨g, cap, cur, h3, h4, h5⟩⟩ := h
  · exact ⟨h1, .inl h2⟩
  · exact ⟨h1, .inr ⟨g, cap, cur, h3, by omega, h5⟩⟩
theorem SS.mono {w : World} {B B' : Nat} {v : Value} {ps : List (List M.Cl)} (h : SS w B v ps) (hB : B' ≤ B) : SS w B' v ps := by
  obtain ⟨ss, hl, hown, hres⟩ := h
  exact ⟨ss, hl, KSrow_mono hown hB, fun i hi => (hres i hi).mono hB⟩
/-- Two slices lie in unlike blocks. -/
def Apart (s t : Value) : Prop := ∀ g, t.ownBlock = some g → s.ownBlock ≠ some g
theorem Apart.or {s t : Value} (h : Apart s t) : t.ownBlock = none ∨ t.ownBlock ≠ s.ownBlock := by
  cases ht : t.ownBlock with
  | none => exact .inl rfl
  | some g => exact .inr fun e => h g ht e.symm
theorem Apart.next {s s' t : Value} {n : Nat} (h : Apart s t) (ht : ∀ g, t.ownBlock = some g → g < n) (hat : s'.ownBlock = s.ownBlock ∨ s'.ownBlock = some n) : Apart s' t := by
  intro g hg e
  rcases hat with hat | hat
  · exact h g hg (hat.symm.trans e)
  · rw [hat] at e
    have := ht g hg
    simp only [Option.some.injEq] at e
    omega
theorem KS.emptyAt (w : World) (B b : Nat) (hb : b = w.heap.size) (hB : B ≤ b) : KS (w.alloc (.cells #[] 9)) B (.slice (some ⟨b, 0, none⟩) 0 0) [] := by
  subst hb
  exact ⟨rfl, .inr ⟨w.heap.size, 0, #[], rfl, hB, heap_alloc_new _ _, Nat.le_refl _, by simp [maxLen], rfl, rfl⟩⟩
theorem row_blt {w : World} {base : Nat} {e : TypeId} {size : Nat} {v : Value} {n : Nat} {xs : List Value} (h : w.ownsRow base e size v n xs) : ∀ g, v.ownBlock = some g → base ≤ g ∧ g < w.heap.size := h.lt

end Go.Proofs.YtoaibccmlmaknaaGreat

namespace Go.Proofs.YtoaibccmlmaknaaGreat
open Go.RowKit
set_option linter.unusedVariables false

set_option maxRecDepth 100000 in
set_option maxHeartbeats 8000000 in
theorem specDropKey_any (v : List M.Cl) (b off cap : Nat) (key : ByteArray) (w : World) (hrow : Row w b off v) (hb : b < w.heap.size) (hn : v.length ≤ 1048576) (hcap : v.length ≤ cap) (hok : ∀ c ∈ v, c.ok) (hk : key.size ≤ 9223372036854775807) :
    Calls Tryz.prog 44 #[.slice (some ⟨b, off, none⟩) v.length cap, .string key] w (Ans w (dropOut v key)) := by
  have OK := hide hok
  have HT := hide (l1Text_any key)
  have B0 : ∀ o, Below w.heap.size w (w.alloc o) := fun o => (Below.refl _ _).alloc (Nat.le_refl _) o
  have HB0 := hide B0
  clear B0
  clear hok
  go_enter Tryz.func44, Tryz.ntmps44
  go_wp2_with fail
  refine (specFault_any v b off cap _ (hrow.below ((unhide HB0) _) hb) (by simp; omega) hn hcap (unhide OK)).mono ?_
  rintro e1 w1 ⟨rfl, hb1⟩
  have hR : Own w1 w.heap.size 49 [.int .i64 0, .slice none 0 0] := Own.below ⟨_, heap_alloc_new _ _, rfl⟩ hb1 (by simp)
  have B1 : Below w.heap.size w w1 := ((unhide HB0) _).trans (hb1.mono (by simp))
  have hrow1 := hrow.below B1 hb
  have hb1' : b < w1.heap.size := Nat.lt_of_lt_of_le hb B1.size
  clear hb1
  generalize hq : M.valueFault v = q
  by_cases hz : q = 0
  · subst hz
    go_wp2_with fail
    refine ((unhide HT) _ hk).mono ?_
    rintro e2 w1x ⟨rfl, hw1⟩
    have hw1y := hw1.symm
    clear hw1
    subst hw1y
    cases ht : M.textOk key with
    | false =>
      have fin := hide (drop_text hq ht)
      clear ht hq
      go_wp2_with fail
      refine (l3Bad_any _ _).mono ?_
      rintro ec wc ⟨sc, rfl, hrc, hbc⟩
      have hRc := hR.below hbc hR.lt
      have r0 := hRc.cell 0
      have r1 := hRc.cell 1
      have z0 := hRc.frozen 0
      have z1 := hRc.frozen 1
      simp only [List.getElem?_cons_zero, List.getElem?_cons_succ] at r0 r1
      have HE := hide (Ans.store hrc B1 hR.lt hbc)
      obtain ⟨ac, mc, cc, rfl⟩ := hrc.shape
      clear hrc hbc
      go_wp2_with fail
      refine bodyPost_ret (v := .agg #[.int .i64 5, .slice ac mc cc]) (by simp [results, Tryz.results44, go_sem, r0, r1]) rfl (ans_of (unhide fin) ((unhide HE) _ _).1 ((unhide HE) _ _).2)
    | true =>
      have fin := hide (drop_ok hq ht)
      have hl1 := (M.fault_zero hq).1
      obtain ⟨f0, _, _, _, _⟩ := hrow1 0 (by omega)
      simp only [Nat.zero_mul, Nat.add_zero] at f0
      by_cases k0 : (v.getD 0 M.zero).kind = 0
      · have fin2 := hide ((unhide fin).trans (drop_0 k0))
        rw [k0] at f0
        clear k0 hq ht fin
        go_wp2_with fail
        refine (l3Null_any _).mono ?_
        rintro ec wc ⟨sc, rfl, hrc, hbc⟩
        have hRc := hR.below hbc hR.lt
        have r0 := hRc.cell 0
        have r1 := hRc.cell 1
        have z0 := hRc.frozen 0
        have z1 := hRc.frozen 1
        simp only [List.getElem?_cons_zero, List.getElem?_cons_succ] at r0 r1
        have HE := hide (Ans.store hrc B1 hR.lt hbc)
        obtain ⟨ac, mc, cc, rfl⟩ := hrc.shape
        clear hrc hbc
        go_wp2_with fail
        refine bodyPost_ret (v := .agg #[.int .i64 0, .slice ac mc cc]) (by simp [results, Tryz.results44, go_sem, r0, r1]) rfl (ans_of (unhide fin2) ((unhide HE) _ _).1 ((unhide HE) _ _).2)
      by_cases k6 : (v.getD 0 M.zero).kind = 6
      · have fin2 := hide ((unhide fin).trans (drop_6 k6))
        have HV := hide hq
        have HDI := hide (show dropIn v key = objV (stayK v key (M.arity v 0)) (stayP v key (M.arity v 0)) from rfl)
        have HDF := hide (fun k hk => drop_facts key hq (unhide OK) k hk)
        have hA200 := (M.places_in hq 0 (by omega)).2.2.2
        have HKF := hide (fun w' (r : Row w' b off v) hb' => l1Keys_any v b off cap w' hq r hb' hcap (unhide OK))
        have HPF := hide (fun w' (r : Row w' b off v) hb' => l1Parts_any v b off cap w' hq r hb' hcap (unhide OK))
        have HKL := hide (keysAt_length v 0)
        have HSL := hide (subs_length v 0)
        have hget := hide (fun i (hi : i < M.arity v 0) => show (keysAt v 0).getD i ByteArray.empty = (v.getD (M.iter v i 1) M.zero).key by simp [keysAt, M.places, List.getD_eq_getElem?_getD, hi])
        have hget2 := hide (fun i (hi : i < M.arity v 0) => show (subs v 0).getD i [] = part v (M.iter v i 1) by simp [subs, M.places, List.getD_eq_getElem?_getD, hi])
        have hlt1 := hR.lt
        obtain ⟨i0, hi, hz0, hz1, hz2⟩ := info_parts Tryz.info26
        obtain ⟨t0, ht0, hy0, hy1, hy2⟩ := info_parts Tryz.info9
        rw [k6] at f0
        clear k0 k6 ht fin hq
        obtain ⟨w2, hw2⟩ : ∃ w2, w2 = (w1.alloc (.cells #[] 9)).alloc (.cells #[] 26) := ⟨_, rfl⟩
        have hs2 : w2.heap.size = w1.heap.size + 2 := by rw [hw2]; simp
        have B12 : Below w1.heap.size w1 w2 := by rw [hw2]; exact ((Below.refl _ _).alloc (Nat.le_refl _) _).alloc (by simp) _
        have hK0 : KS w2 w1.heap.size (.slice (some ⟨w1.heap.size, 0, none⟩) 0 0) [] := by rw [hw2]; exact (KS.emptyAt w1 w1.heap.size w1.heap.size rfl (Nat.le_refl _)).alloc _
        have hS0 : SS w2 w1.heap.size (.slice (some ⟨w1.heap.size + 1, 0, none⟩) 0 0) [] := by rw [hw2]; exact SS.empty (w1.alloc (.cells #[] 9)) w1.heap.size (w1.heap.size + 1) (by simp) (by omega)
        go_wp2_with fail
        rw [← hw2]
        clear hw2
        refine ((unhide HKF) _ (hrow1.below B12 hb1') (by omega)).mono ?_
        rintro e3 w3 ⟨s3, rfl, hk3, hb3⟩
        have hK3 := hK0.below hb3
        have hS3 := hS0.below hb3
        have B13 : Below w1.heap.size w1 w3 := B12.trans (hb3.mono B12.size)
        have hs3 := hb3.size
        obtain ⟨ka, kc, rfl, hkc, _⟩ := hk3.tv
        clear hK0 hS0 hb3 f0
        go_wp2_with fail
        refine ((unhide HPF) _ (hrow1.below B13 hb1') (by omega)).mono ?_
        rintro e4 w4 ⟨s4, rfl, hs4, hb4⟩
        have hK4 := hide (hK3.below hb4)
        have hS4 := hide (hS3.below hb4)
        have hk4 := hide ((hk3.below hb4).mono (show w1.heap.size ≤ w2.heap.size by omega))
        have hs4' := hide (hs4.mono (show w1.heap.size ≤ w3.heap.size by omega))
        have B14 : Below w1.heap.size w1 w4 := B13.trans (hb4.mono B13.size)
        have hap1 := hide (show Apart (.slice (some ⟨w1.heap.size, 0, none⟩) 0 0) (.slice ka (keysAt v 0).length kc) from fun g hg e => by
          have := (row_blt hk3 g hg).1
          simp only [Value.ownBlock, Option.some.injEq] at e
          omega)
        obtain ⟨xs4, hxs4⟩ := hs4.ownsRow
        have hap2 := hide (show Apart (.slice (some ⟨w1.heap.size + 1, 0, none⟩) 0 0) s4 from fun g hg e => by
          have := (row_blt hxs4 g hg).1
          simp only [Value.ownBlock, Option.some.injEq] at e
          omega)
        obtain ⟨pa, pc, hsh4, hpc, _⟩ := hs4.lv (by
          have := (subs_all (unhide HV) (unhide OK)).2.2.2
          exact this)
        subst hsh4
        rw [unhide HKL] at hkc hk4 hap1 ⊢
        rw [unhide HSL] at hpc hs4' hap2 ⊢
        clear hK3 hS3 hk3 hs4 hb4 hxs4
        generalize hm : M.arity v 0 = m at *
        go_wp2_with fail
        go_loopg [6, 7, 10] m (fun gh s6 s7 s10 wr => ∃ k : Nat, Hid (gh = m - k) ∧ s10 = .int .i64 k ∧ k ≤ m ∧ Hid (KS wr w1.heap.size s6 (stayK v key k)) ∧ Hid (SS wr w1.heap.size s7 (stayP v key k)) ∧ Hid (KS wr w1.heap.size (.slice ka m kc) (keysAt v 0)) ∧ Hid (SS wr w1.heap.size (.slice pa m pc) (subs v 0)) ∧ Hid (Apart s6 (.slice ka m kc)) ∧ Hid (Apart s7 (.slice pa m pc)) ∧ Below w1.heap.size w1 wr)
        case atStart => exact ⟨0, rfl, rfl, by omega, unhide hK4, unhide hS4, unhide hk4, unhide hs4', unhide hap1, unhide hap2, B14⟩
        case round =>
          clear hK4 hS4 hk4 hs4' hap1 hap2 B14
          obtain ⟨k, hg, rfl, hk', hK, hS, hka, hsa, hp1, hp2, hbel⟩ := hrel
          by_cases hlt : k < m
          · obtain ⟨ka', kc', heq, _, htv⟩ := (hka.out).tv
            rw [unhide HKL] at heq
            cases heq
            obtain ⟨g, rfl, hgl, fk⟩ := htv k (by rw [unhide HKL]; exact hlt)
            rw [(unhide hget) k hlt] at fk
            cases hh : ((v.getD (M.iter v k 1) M.zero).key.toList == key.toList) with
            | true =>
              have hsy := hide (stayK_yes hh)
              generalize (v.getD (M.iter v k 1) M.zero).key = ky at *
              have hnq : (ky.toList != key.toList) = false := by rw [bne, hh]; rfl
              go_wp2_with fail
              go_roundg (m - (k + 1))
              case rel => exact ⟨k + 1, rfl, by go_num, by omega, by rw [(unhide hsy).1]; exact hK.out, by rw [(unhide hsy).2]; exact hS.out, hka.out, hsa.out, hp1.out, hp2.out, hbel⟩
              case measure => have := hg.out; omega
            | false =>
              have hsn := hide (stayK_no hh)
              have hkl := (stayK_length v key k).1
              have hpl := (stayK_length v key k).2
              have hsl := stay_length v key k
              have hnl : (stay v key k).length ≤ 200 := by omega
              generalize hkye : (v.getD (M.iter v k 1) M.zero).key = ky at *
              have hnq : (ky.toList != key.toList) = true := by rw [bne, hh]; rfl
              have hkown := hide (fun o => (KS.row (hK.out) hkl).alloc o)
              have hkbse := hide (ownsRow_base (hK.out))
              have hkone := hide (one_val wr (.string ky) 9)
              have hkonep := hide (app_string ky)
              have hk63 : (stay v key k).length + 1 ≤ maxLen := by unfold maxLen; omega
              have hkby : ((stay v key k).length + 1) * 16 ≤ 140737488355328 := by omega
              have hsz := hbel.size
              have F1 := hide (fun (w' : World) o (hg : (wr.alloc o).grownBy w' u6.ownBlock) => ((hka.out).alloc o).keptB (w' := w') ((KS.row (hK.out) hkl).alloc o) (hp1.out).or hg)
              have F2 := hide (fun (w' : World) o (hg : (wr.alloc o).grownBy w' u6.ownBlock) => ((hsa.out).alloc o).keptT (w' := w') ((KS.row (hK.out) hkl).alloc o) (by decide) (by decide) hg)
              have F3 := hide (fun (w' : World) o (hg : (wr.alloc o).grownBy w' u6.ownBlock) => ((hS.out).alloc o).keptT (w' := w') ((KS.row (hK.out) hkl).alloc o) (by decide) (by decide) hg)
              have F5 := hide (fun (v' : Value) (h : v'.ownBlock = u6.ownBlock ∨ v'.ownBlock = some (wr.heap.size + 1)) => (hp1.out).next (fun g hg => Nat.lt_succ_of_lt (row_blt (hka.out) g hg).2) h)
              have hF6 := hide (hp2.out)
              clear hK hS hka hsa hp1 hp2 htv
              go_wp2_with (at_builtin; refine wpList_append_own_at _ rfl (.tmp 52) (.tmp 57) 89 rfl w1.heap.size 9 t0 (.string ByteArray.empty) 1 16 Tryz.underlying89 ht0 hy0 hy1 hy2 rfl (by decide) _ (stay v key k).length _ rfl ((unhide hkown) _) ⟨wr.heap.size, 0, none⟩ 1 1 [.string ky] rfl rfl (unhide hkone) (unhide hkonep) hk63 hkby (by simp; omega) ?_)
              intro v6 w6 ho6 hg6 _ hat6
              have B6 : Below w1.heap.size w1 w6 := (hbel.alloc hbel.size _).grown hg6 (by simp; omega) (unhide hkbse)
              have G1 := hide ((unhide F1) _ _ hg6)
              have G2 := hide ((unhide F2) _ _ hg6)
              have G3 := hide ((unhide F3) _ _ hg6)
              have G5 := hide ((unhide F5) v6 (by simpa using hat6))
              have G6 := hide (show KS w6 w1.heap.size v6 (stayK v key (k + 1)) by rw [(unhide hsn).1]; exact KS.snoc hkl ho6)
              clear hg6 ho6 hat6 fk
              obtain ⟨g2, cap2, sv, heq2, hcap2, f2, hr2⟩ := (unhide G2).at (i := k) (by rw [unhide HSL]; exact hlt)
              rw [unhide HSL] at heq2
              cases heq2
              rw [(unhide hget2) k hlt] at hr2
              obtain ⟨sa, sn, sc, hsv⟩ := hr2.shape
              subst hsv
              obtain ⟨ss, hsl7, hown7, hres7⟩ := unhide G3
              have hown7' := hide (fun o => (hpl ▸ hown7 : World.ownsRow w6 w1.heap.size 26 1 u7 (stay v key k).length ss).alloc o)
              have hbse7 := hide (ownsRow_base hown7)
              have hone7 := hide (one_val w6 (.slice sa sn sc) 26)
              have honep7 := hide (one_plain' sa sn sc)
              have hsn7 := hide (fun w' o v' hg ho => SS.snoc (w3 := w') (o := o) (v' := v') hpl hsl7 hown7 hres7 hr2 hg ho)
              have hby7 : ((stay v key k).length + 1) * 24 ≤ 140737488355328 := by omega
              have hsz6 := B6.size
              have K1 := hide (fun (w' : World) o (hg : (w6.alloc o).grownBy w' u7.ownBlock) => ((unhide G1).alloc o).grown (w' := w') (hown7.alloc o) (by decide) hg)
              have K2 := hide (fun (w' : World) o (hg : (w6.alloc o).grownBy w' u7.ownBlock) => ((unhide G6).alloc o).grown (w' := w') (hown7.alloc o) (by decide) hg)
              have K3 := hide (fun (w' : World) o (hg : (w6.alloc o).grownBy w' u7.ownBlock) => ((unhide G2).alloc o).keptB (w' := w') (hown7.alloc o) (unhide hF6).or hg)
              obtain ⟨xs2, hxs2⟩ := (unhide G2).ownsRow
              have K4 := hide (fun (v' : Value) (h : v'.ownBlock = u7.ownBlock ∨ v'.ownBlock = some (w6.heap.size + 1)) => (unhide hF6).next (fun g hg => Nat.lt_succ_of_lt (row_blt hxs2 g hg).2) h)
              clear hown7 hres7 hsl7 hr2 hxs2 F1 F2 F3 F5 hkown hkone hkonep
              go_wp2_with (at_builtin; refine wpList_append_own_at _ rfl (.tmp 59) (.tmp 64) 53 rfl w1.heap.size 26 i0 (.slice none 0 0) 1 24 Tryz.underlying53 hi hz0 hz1 hz2 rfl (by decide) _ (stay v key k).length ss rfl ((unhide hown7') _) ⟨w6.heap.size, 0, none⟩ 1 1 [.slice sa sn sc] rfl rfl (unhide hone7) (unhide honep7) hk63 hby7 (by simp; omega) ?_)
              intro v7 w7 ho7 hg7 _ hat7
              have B7 : Below w1.heap.size w1 w7 := (B6.alloc B6.size _).grown hg7 (by simp; omega) (unhide hbse7)
              have R1 := hide ((unhide K1) _ _ hg7)
              have R2 := hide ((unhide K2) _ _ hg7)
              have R3 := hide ((unhide K3) _ _ hg7)
              have R4 := hide ((unhide K4) v7 (by simpa using hat7))
              have R5 := hide (show SS w7 w1.heap.size v7 (stayP v key (k + 1)) by rw [(unhide hsn).2]; exact (unhide hsn7) _ _ _ hg7 ho7)
              clear hg7 ho7 hat7 f2 K1 K2 K3 K4 hsn7 hown7' hone7 honep7 G1 G2 G3 G6 hF6
              go_wp2_with fail
              go_roundg (m - (k + 1))
              case rel => exact ⟨k + 1, rfl, by go_num, by omega, unhide R2, unhide R5, unhide R1, unhide R3, unhide G5, unhide R4, B7⟩
              case measure => have := hg.out; omega
          · have hke : k = m := by omega
            subst hke
            obtain ⟨f1, f2, f3, f4, f5⟩ := (unhide HDF) k (by omega)
            obtain ⟨ka6, kc6, hka6, hkc6, htv6⟩ := (hK.out).tv
            obtain ⟨la6, lc6, hla6, hlc6, hlv6⟩ := (hS.out).lv (valid_ne f3)
            subst hka6 hla6
            have BR : Below w.heap.size w wr := B1.trans (hbel.mono B1.size)
            have hRr := hR.below hbel hR.lt
            have hwr : w.heap.size < wr.heap.size := hRr.lt
            have HF1 := hide f1
            have HF2 := hide (show (stayK v key k).length ≤ 4096 by omega)
            have HF3 := hide f3
            clear hK hS hka hsa hp1 hp2 f1 f2 f3 f4 f5
            rw [unhide HDI] at fin2
            clear HDI
            generalize stayK v key k = SK at *
            generalize stayP v key k = SP at *
            go_wp2_with fail
            refine (l1ObjectV_any _ _ _ _ SK SP _ htv6 hlv6 hkc6 hlc6 (unhide HF1) (unhide HF2) (unhide HF3)).mono ?_
            rintro e6 w6 ⟨s6, rfl, hr6, hb6⟩
            have hR6 := hRr.below hb6 hRr.lt
            have r0 := hR6.cell 0
            have r1 := hR6.cell 1
            have z0 := hR6.frozen 0
            have z1 := hR6.frozen 1
            simp only [List.getElem?_cons_zero, List.getElem?_cons_succ] at r0 r1
            have HE := hide (Ans.store hr6 BR hwr hb6)
            obtain ⟨ac, mc, cc, rfl⟩ := hr6.shape
            clear hr6 hb6 hlv6 htv6
            go_wp2_with fail
            refine bodyPost_ret (v := .agg #[.int .i64 0, .slice ac mc cc]) (by simp [results, Tryz.results44, go_sem, r0, r1]) rfl (ans_of (unhide fin2) ((unhide HE) _ _).1 ((unhide HE) _ _).2)
      · have fin2 := hide ((unhide fin).trans (drop_no k0 k6))
        generalize v.getD 0 M.zero = c at *
        have e0 : (c.kind == 0) = false := by simp [k0]
        have n6 : (c.kind != 6) = true := by simp [k6]
        clear k0 k6 fin hq ht
        go_wp2_with fail
        refine (l3Bad_any _ _).mono ?_
        rintro ec wc ⟨sc, rfl, hrc, hbc⟩
        have hRc := hR.below hbc hR.lt
        have r0 := hRc.cell 0
        have r1 := hRc.cell 1
        have z0 := hRc.frozen 0
        have z1 := hRc.frozen 1
        simp only [List.getElem?_cons_zero, List.getElem?_cons_succ] at r0 r1
        have HE := hide (Ans.store hrc B1 hR.lt hbc)
        obtain ⟨ac, mc, cc, rfl⟩ := hrc.shape
        clear hrc hbc
        go_wp2_with fail
        refine bodyPost_ret (v := .agg #[.int .i64 6, .slice ac mc cc]) (by simp [results, Tryz.results44, go_sem, r0, r1]) rfl (ans_of (unhide fin2) ((unhide HE) _ _).1 ((unhide HE) _ _).2)
  · have fin := hide ((drop_bad (key := key) (by rw [hq]; exact hz)).trans (by rw [hq]))
    have hz' : (q == 0) = false := by simp [hz]
    clear hq
    go_wp2_with fail
    refine (l3Bad_any _ _).mono ?_
    rintro ec wc ⟨sc, rfl, hrc, hbc⟩
    have hRc := hR.below hbc hR.lt
    have r0 := hRc.cell 0
    have r1 := hRc.cell 1
    have z0 := hRc.frozen 0
    have z1 := hRc.frozen 1
    simp only [List.getElem?_cons_zero, List.getElem?_cons_succ] at r0 r1
    have HE := hide (Ans.store hrc B1 hR.lt hbc)
    obtain ⟨ac, mc, cc, rfl⟩ := hrc.shape
    clear hrc hbc
    go_wp2_with fail
    refine bodyPost_ret (v := .agg #[.int .i64 q, .slice ac mc cc]) (by simp [results, Tryz.results44, go_sem, r0, r1]) rfl (ans_of (unhide fin) ((unhide HE) _ _).1 ((unhide HE) _ _).2)

end Go.Proofs.YtoaibccmlmaknaaGreat
