/-
  A value is put together again of its leaves, one after the other. No word of the program is used here.
-/
import Derived.Test.YtcglddahphkcpaaGreatDoorU23
import Derived.Test.YtcglddahphkcpaaGreatDoorU25
import Derived.Test.YtcglddahphkcpaaGreatDoorU31
import Derived.Test.YtcglddahphkcpaaGreatDoorU34
namespace Go.Proofs.YtcglddahphkcpaaGreatDoor
open Go.RowKit
set_option linter.unusedVariables false
set_option linter.unusedSimpArgs false
namespace Fs
theorem ext_getD {α : Type} (d : α) {l l' : List α} (hl : l.length = l'.length) (h : ∀ i, i < l'.length → l.getD i d = l'.getD i d) : l = l' := by
  refine List.ext_getElem hl fun i h1 h2 => ?_
  have := h i h2
  rwa [List.getD_eq_getElem?_getD, List.getElem?_eq_getElem h1, List.getD_eq_getElem?_getD, List.getElem?_eq_getElem h2] at this
theorem take_snoc {α : Type} (d : α) (l : List α) (k : Nat) (hk : k < l.length) : l.take k ++ [l.getD k d] = l.take (k + 1) := by
  rw [List.take_succ_eq_append_getElem hk, List.getD_eq_getElem?_getD, List.getElem?_eq_getElem hk]; rfl
theorem take_getD {α : Type} (d : α) (l : List α) (k j : Nat) (hj : j < k) : (l.take k).getD j d = l.getD j d := by
  rw [List.getD_eq_getElem?_getD, List.getElem?_take_of_lt hj, List.getD_eq_getElem?_getD]
theorem snoc_lt {α : Type} (d : α) (l : List α) (x : α) (j : Nat) (hj : j < l.length) : (l ++ [x]).getD j d = l.getD j d := by
  rw [List.getD_eq_getElem?_getD, List.getElem?_append_left hj, List.getD_eq_getElem?_getD]
theorem snoc_at {α : Type} (d : α) (l : List α) (x : α) (j : Nat) (hj : l.length = j) : (l ++ [x]).getD j d = x := by
  rw [List.getD_eq_getElem?_getD, List.getElem?_append_right (by omega), hj]; simp
theorem range_getD (m j : Nat) (hj : j < m) : (List.range m).getD j 0 = j := by simp [List.getD_eq_getElem?_getD, hj]
/-- A value of few cells that is not deep. -/
def Fine (d n : Nat) (y : List M.Cl) : Prop := M.valueFault y = 0 ∧ y.length ≤ n ∧ ∃ d', M.walk y y.length 0 = some (y.length, d') ∧ d' ≤ d
theorem Fine.mono {d n d' n' : Nat} {y : List M.Cl} (h : Fine d n y) (hd : d ≤ d') (hn : n ≤ n') : Fine d' n' y := by
  obtain ⟨a, b, e, f, g⟩ := h; exact ⟨a, by omega, e, f, by omega⟩
theorem Fine.laidD {d n : Nat} {y : List M.Cl} (h : Fine d n y) : LaidD d y := by
  obtain ⟨a, b, e, f, g⟩ := h; exact laidD_of a f g
theorem count_le {Q : List (List M.Cl)} (hv : ∀ j, j < Q.length → M.valueFault (Q.getD j []) = 0) : Q.length ≤ tot Q Q.length := by
  have : ∀ k, k ≤ Q.length → k ≤ tot Q k := by
    intro k
    induction k with
    | zero => intro _; exact Nat.zero_le _
    | succ k ih => intro hk; rw [tot_succ Q k (by omega)]; have := ih (by omega); have := (fault_len (hv k (by omega))).1; omega
  exact this _ (Nat.le_refl _)
def Rise (K : List ByteArray) : Prop := ∀ i j, i < j → j < K.length → Op.bytesLess (K.getD i ByteArray.empty).toList (K.getD j ByteArray.empty).toList = true
section
variable {K : List ByteArray} {Q : List (List M.Cl)} (hr : Rise K)
include hr
theorem objV_rise : objV K Q = Mb.ob K Q (List.range K.length) := by rw [Mb.ob_of, stand_rise K hr _ (Nat.le_refl _)]
theorem ob_kind : ((objV K Q).getD 0 M.zero).kind = 6 := by rw [objV_rise hr]; rfl
variable (hl : K.length = Q.length) (hv : ∀ j, j < Q.length → M.valueFault (Q.getD j []) = 0)
include hl hv
omit hr in
theorem ob_vals : ∀ p ∈ List.range K.length, M.valueFault (Q.getD p []) = 0 := fun p hp => hv p (by rw [← hl]; exact List.mem_range.1 hp)
theorem ob_keys : keysAt (objV K Q) 0 = K := by
  rw [objV_rise hr]
  have ha : M.arity (Mb.ob K Q (List.range K.length)) 0 = K.length := by rw [Mb.ob_arity, List.length_range]
  refine ext_getD ByteArray.empty (by rw [keysAt_length, ha]) fun i h1 => ?_
  rw [Al.keysAt_getD _ 0 i (by rw [ha]; exact h1), Nat.zero_add, Mb.ob_key (ob_vals hl hv) (by rw [List.length_range]; exact h1), range_getD _ _ h1]
theorem ob_subs : subs (objV K Q) 0 = Q := by
  rw [objV_rise hr]
  have ha : M.arity (Mb.ob K Q (List.range K.length)) 0 = K.length := by rw [Mb.ob_arity, List.length_range]
  refine ext_getD [] (by rw [subs_length, ha, hl]) fun i h1 => ?_
  have h1' : i < K.length := by omega
  rw [Al.subs_getD _ 0 i (by rw [ha]; exact h1'), Nat.zero_add, Mb.ob_part (ob_vals hl hv) (by rw [List.length_range]; exact h1'), range_getD _ _ h1']
theorem ob_get {key : ByteArray} {p : Nat} (hp : p < K.length) (hk : K.getD p ByteArray.empty = key) : getV (objV K Q) key = Q.getD p [] := by
  rw [objV_rise hr]
  refine Mb.ob_get (ob_vals hl hv) (List.mem_range.2 hp) (by rw [hk]) ?_
  have := St.stand_pw K K.length
  rwa [stand_rise K hr _ (Nat.le_refl _)] at this
theorem ob_miss {key : ByteArray} (h : ∀ p, p < K.length → (K.getD p ByteArray.empty).toList ≠ key.toList) : getV (objV K Q) key = [M.zero] := by
  rw [objV_rise hr]
  exact Mb.ob_miss (ob_vals hl hv) fun p hp => h p (List.mem_range.1 hp)
theorem ob_fine {D N : Nat} (hq : ∀ j, j < Q.length → Fine D 200 (Q.getD j [])) (hk : ∀ j, j < K.length → M.textOk (K.getD j ByteArray.empty) = true) (ht : tot Q Q.length + 1 ≤ N) (hN : N ≤ 200) (hD : D ≤ 19) : Fine (D + 1) N (objV K Q) := by
  have e : objV K Q = headCl 6 K.length :: ((List.range K.length).map fun p => setKey (Q.getD p []) (K.getD p ByteArray.empty)).flatten := by rw [objV_rise hr]; unfold Mb.ob Mb.mem; rw [List.length_range]
  rw [e]
  obtain ⟨qs, hqs⟩ : ∃ qs, qs = (List.range K.length).map fun p => setKey (Q.getD p []) (K.getD p ByteArray.empty) := ⟨_, rfl⟩
  have hql : qs.length = K.length := by rw [hqs]; simp
  have hqg : ∀ j, j < qs.length → qs.getD j [] = setKey (Q.getD j []) (K.getD j ByteArray.empty) := fun j hj => by rw [hql] at hj; rw [hqs]; simp [List.getD_eq_getElem?_getD, hj]
  have hqt : ∀ k, k ≤ qs.length → tot qs k = tot Q k := by
    intro k
    induction k with
    | zero => intro _; rw [tot_zero, tot_zero]
    | succ k ih => intro hk'; rw [tot_succ qs k (by omega), tot_succ Q k (by omega), ih (by omega), hqg k (by omega), setKey_length]
  rw [← hqs]
  have hfst : ∀ j, j < qs.length → ((qs.getD j []).getD 0 M.zero).key = K.getD j ByteArray.empty := fun j hj => by
    rw [hqg j hj, setKey_zero _ _ (valid_ne hv j (by omega))]
  have hcl := count_le hv
  have hc : M.cellCode (headCl 6 K.length) = 0 := by
    unfold headCl M.cellCode
    simp only
    rw [if_neg (by omega), if_neg, if_neg (by omega), if_pos ⟨by decide, by decide⟩]
    intro h
    rcases h with h | h | h
    · exact h.1 rfl
    · exact h.1 empty_toList
    · exact h.2.2 rfl
  have hD2 : ∀ j, j < qs.length → LaidD D (qs.getD j []) := fun j hj => by
    obtain ⟨a, b, d', c1, c2⟩ := hq j (by omega)
    exact ⟨Q.getD j [], K.getD j ByteArray.empty, d', hqg j hj, a, hk j (by omega), c1, c2⟩
  have hord : (headCl 6 K.length).kind = 6 → ∀ j, j + 1 < qs.length → M.keyLe ((qs.getD (j + 1) []).getD 0 M.zero).key ((qs.getD j []).getD 0 M.zero).key = false := fun _ j hj => by
    rw [hfst (j + 1) hj, hfst j (by omega)]
    have := hr j (j + 1) (by omega) (by omega)
    unfold M.keyLe
    rw [Bool.or_eq_false_iff]
    refine ⟨?_, ?_⟩
    · cases hx : Op.bytesLess (K.getD (j + 1) ByteArray.empty).toList (K.getD j ByteArray.empty).toList with
      | false => rfl
      | true => have := St.bl_trans _ _ _ this hx; rw [St.bl_irr] at this; cases this
    · cases hx : ((K.getD (j + 1) ByteArray.empty).toList == (K.getD j ByteArray.empty).toList) with
      | false => rfl
      | true => rw [eq_of_beq hx, St.bl_irr] at this; cases this
  have hlen : tot qs qs.length + 1 ≤ 200 := by rw [hqt _ (Nat.le_refl _), hql, hl]; omega
  refine ⟨made_ok _ qs hc empty_toList (by rw [hql]; rfl) hlen (fun j hj => (hD2 j hj).laid hD) (fun h => absurd (show (6 : Int) = 5 from h) (by decide)) hord, ?_, ?_⟩
  · rw [made_length, hqt _ (Nat.le_refl _), hql, hl]; exact ht
  · exact made_deep _ qs hc empty_toList (by rw [hql]; rfl) hlen hD2 (fun h => absurd (show (6 : Int) = 5 from h) (by decide)) hord
end
/-- A member that was set last is what is laid. -/
theorem ob_dup {K : List ByteArray} {Q : List (List M.Cl)} {k : ByteArray} (hr : Rise (K ++ [k])) (hl : K.length = Q.length) (y y' : List M.Cl) : objV (K ++ [k] ++ [k]) (Q ++ [y] ++ [y']) = objV (K ++ [k]) (Q ++ [y']) := by
  have hk1 : ∀ j, j < K.length → (K ++ [k] ++ [k]).getD j ByteArray.empty = (K ++ [k]).getD j ByteArray.empty := fun j hj => by rw [snoc_lt _ _ _ _ (by simp; omega)]
  have hk2 : (K ++ [k] ++ [k]).getD (K.length + 1) ByteArray.empty = k := snoc_at _ _ _ _ (by simp)
  have hk3 : (K ++ [k] ++ [k]).getD K.length ByteArray.empty = k := by rw [snoc_lt _ _ _ _ (by simp), snoc_at _ _ _ _ rfl]
  have hk4 : (K ++ [k]).getD K.length ByteArray.empty = k := snoc_at _ _ _ _ rfl
  have hlen : (K ++ [k] ++ [k]).length = K.length + 2 := by simp
  have hst : St.stand (K ++ [k] ++ [k]) (K.length + 2) = List.range K.length ++ [K.length + 1] := by
    refine St.pw_ext (ks := K ++ [k] ++ [k]) _ _ (St.stand_pw _ _) ?_ (fun x => ?_)
    · rw [List.pairwise_append]
      refine ⟨?_, List.pairwise_singleton _ _, fun a ha b hb => ?_⟩
      · refine List.Pairwise.imp_of_mem (R := (· < ·)) (fun {a b} ha hb hab => ?_) (List.pairwise_lt_range (n := K.length))
        have ha := List.mem_range.1 ha
        have hb := List.mem_range.1 hb
        unfold St.R St.kl
        rw [hk1 a ha, hk1 b hb]
        exact hr a b hab (by simp; omega)
      · have ha := List.mem_range.1 ha
        rw [List.mem_singleton.1 hb]
        unfold St.R St.kl
        rw [hk1 a ha, hk2]
        have := hr a K.length ha (by simp)
        rwa [hk4] at this
    · rw [St.stand_mem, List.mem_append, List.mem_range, List.mem_singleton]
      constructor
      · rintro ⟨h1, h2⟩
        by_cases e : x = K.length
        · exact absurd (show St.kl (K ++ [k] ++ [k]) (K.length + 1) = St.kl (K ++ [k] ++ [k]) x by unfold St.kl; rw [hk2, e, hk3]) (h2 _ (by omega) (by omega))
        · omega
      · rintro (h | h)
        · refine ⟨by omega, fun q h1 h2 e => ?_⟩
          have hlast : ∀ z : ByteArray, z = k → z.toList = ((K ++ [k]).getD x ByteArray.empty).toList → False := fun z hz e => by
            have := hr x K.length h (by simp)
            rw [hk4, ← e, hz, St.bl_irr] at this
            cases this
          unfold St.kl at e
          rw [hk1 x h] at e
          by_cases hq : q < K.length
          · rw [hk1 q hq] at e
            have := hr x q h1 (by simp; omega)
            rw [e, St.bl_irr] at this; cases this
          · by_cases hq2 : q = K.length
            · rw [hq2, hk3] at e; exact hlast k rfl e
            · rw [show q = K.length + 1 by omega, hk2] at e; exact hlast k rfl e
        · exact ⟨by omega, fun q h1 h2 => by omega⟩
  rw [Mb.ob_of, hlen, hst, objV_rise hr]
  have hq1 : ∀ j, j < K.length → (Q ++ [y] ++ [y']).getD j [] = (Q ++ [y']).getD j [] := fun j hj => by rw [snoc_lt _ _ _ _ (by simp; omega), snoc_lt _ _ _ _ (by omega), snoc_lt _ _ _ _ (by omega)]
  have hm : Mb.mem (K ++ [k] ++ [k]) (Q ++ [y] ++ [y']) (List.range K.length ++ [K.length + 1]) = Mb.mem (K ++ [k]) (Q ++ [y']) (List.range (K ++ [k]).length) := by
    unfold Mb.mem
    rw [List.length_append, show K.length + [k].length = K.length + 1 from rfl, List.range_succ, List.map_append, List.map_append]
    congr 1
    · refine List.map_congr_left fun j hj => ?_
      have hj := List.mem_range.1 hj
      rw [hk1 j hj, hq1 j hj]
    · simp only [List.map_cons, List.map_nil]
      rw [hk2, hk4, snoc_at _ _ _ (K.length + 1) (by simp [hl]), snoc_at _ _ _ K.length hl.symm]
  unfold Mb.ob
  rw [hm]
  simp
/-- Arrays. -/
theorem ar_fine {D N : Nat} {Q : List (List M.Cl)} (hq : ∀ j, j < Q.length → Fine D 200 (Q.getD j [])) (ht : tot Q Q.length + 1 ≤ N) (hN : N ≤ 200) (hD : D ≤ 19) : Fine (D + 1) N (arrV Q) := by
  have hn : Q.length ≤ 200 := by have := count_le (fun j hj => (hq j hj).1); omega
  refine ⟨arr_valid (fun j hj => (hq j hj).1) (fun j hj => (hq j hj).laidD.laid hD) (by omega) hn, ?_, arr_deep (fun j hj => (hq j hj).1) (fun j hj => (hq j hj).laidD) (by omega) hn⟩
  rw [arrV_eq, made_length]
  exact ht
/-- The leaves of a value and their paths, by fuel. -/
def lvK (g : List M.Cl → List (List M.Cl × List M.Cl)) (obj : Bool) (ks : List ByteArray) (ps : List (List M.Cl)) : Nat → List (List M.Cl × List M.Cl)
  | 0 => []
  | k + 1 => lvK g obj ks ps k ++ (g (ps.getD k [])).map fun q => (Al.stepAt obj ks k :: q.1, q.2)
def lvs : Nat → List M.Cl → List (List M.Cl × List M.Cl)
  | 0, _ => []
  | f + 1, v => if (v.getD 0 M.zero).n = 0 then [([], v)] else lvK (lvs f) (decide ((v.getD 0 M.zero).kind = 6)) (keysAt v 0) (subs v 0) (M.arity v 0)
/-- What was set one after the other, each time a value of G. -/
def Goes (G : List M.Cl → Prop) : List M.Cl → List (List M.Cl × List M.Cl) → List M.Cl → Prop
  | u, [], r => u = r
  | u, q :: L, r => ∃ u', Pth.setS u q.1 q.2 = (0, u') ∧ G u' ∧ Goes G u' L r
theorem Goes.app {G : List M.Cl → Prop} : ∀ {L : List (List M.Cl × List M.Cl)} {u m : List M.Cl} {L' : List (List M.Cl × List M.Cl)} {r : List M.Cl}, Goes G u L m → Goes G m L' r → Goes G u (L ++ L') r
  | [], u, m, L', r, h, h' => by cases (show u = m from h); exact h'
  | q :: L, u, m, L', r, ⟨u', h1, h2, h3⟩, h' => ⟨u', h1, h2, Goes.app h3 h'⟩
theorem Goes.split {G : List M.Cl → Prop} : ∀ {L : List (List M.Cl × List M.Cl)} {u : List M.Cl} {L' : List (List M.Cl × List M.Cl)} {r : List M.Cl}, Goes G u (L ++ L') r → ∃ m, Goes G u L m ∧ Goes G m L' r
  | [], u, L', r, h => ⟨u, rfl, h⟩
  | q :: L, u, L', r, ⟨u', h1, h2, h3⟩ => by
    obtain ⟨m, h4, h5⟩ := Goes.split h3
    exact ⟨m, ⟨u', h1, h2, h4⟩, h5⟩
/-- What is set behind a step c into u is set into y, and F of it is left. -/
def At (G : List M.Cl → Prop) (c : M.Cl) (F : List M.Cl → List M.Cl) (u y : List M.Cl) : Prop := ∀ p x y', Pth.setS y p x = (0, y') → G y' → Pth.setS u (c :: p) x = (0, F y')
theorem goes_in {G G' : List M.Cl → Prop} {c : M.Cl} {F : List M.Cl → List M.Cl} (hF : ∀ y, G y → At G c F (F y) y) (hG : ∀ y, G y → G' (F y)) : ∀ (L : List (List M.Cl × List M.Cl)) {u y r : List M.Cl}, L ≠ [] → At G c F u y → Goes G y L r → Goes G' u (L.map fun q => (c :: q.1, q.2)) (F r)
  | [], _, _, _, h, _, _ => absurd rfl h
  | q :: L, u, y, r, _, ha, ⟨y', h1, h2, h3⟩ => by
    refine ⟨F y', ha _ _ _ h1 h2, hG _ h2, ?_⟩
    cases L with
    | nil => cases (show y' = r from h3); rfl
    | cons q' L => exact goes_in hF hG (q' :: L) (by simp) (hF _ h2) h3
theorem told_fine {D N : Nat} {l : List M.Cl} (h : Fine D N l) : told l = (0, l) := by unfold told; rw [if_pos h.1]
theorem at_obj {G : List M.Cl → Prop} {c : M.Cl} {F : List M.Cl → List M.Cl} {u y : List M.Cl} (hk : c.kind = 4) (ht : M.textOk c.text = true) (hv : M.valueFault u = 0) (h6 : (u.getD 0 M.zero).kind = 0 ∨ (u.getD 0 M.zero).kind = 6) (hg : getV u c.text = y) (hGv : ∀ y', G y' → M.valueFault y' = 0)
    (hF : ∀ y', G y' → told (objV (keysAt u 0 ++ [c.text]) (subs u 0 ++ [y'])) = (0, F y')) : At G c F u y := by
  intro p x y' hs hy
  rw [Pth.setS, if_pos hk, get_some h6, hg, if_pos rfl, hs, if_pos rfl]
  show setOut u c.text y' = _
  rw [set_ok (by unfold bothOut; rw [if_neg (by simp [hv])]; exact hGv _ hy) ht, set_some h6]
  exact hF _ hy
theorem at_arr {G : List M.Cl → Prop} {c : M.Cl} {Q : List (List M.Cl)} {u y : List M.Cl} {j : Nat} (hk : c.kind = 3) (hn : c.num = (j : Int)) (hj : j < 200) (h5 : (u.getD 0 M.zero).kind = 5 ∨ (u.getD 0 M.zero).kind = 0) (hQ : Q.length = j) (hp : Pth.pad (Pth.els u) (j + 1) = Q ++ [y])
    (hF : ∀ y', G y' → M.valueFault (arrV (Q ++ [y'])) = 0) : At G c (fun y' => arrV (Q ++ [y'])) u y := by
  intro p x y' hs hy
  have hi : Pth.idx c.num (Pth.els u).length = (j : Int) := by rw [hn]; unfold Pth.idx; rw [if_neg (by omega)]
  rw [Pth.setS, if_neg (by rw [hk]; decide), if_neg (by rintro ⟨a, b⟩; rcases h5 with e | e; exact a e; exact b e), hi, if_neg (by omega), if_neg (by omega), Int.toNat_natCast, hp, snoc_at _ _ _ _ hQ, hs, if_pos rfl]
  show told (arrV ((Q ++ [y]).set j y')) = _
  rw [show (Q ++ [y]).set j y' = Q ++ [y'] by rw [List.set_append_right _ _ (by omega), hQ, Nat.sub_self]; rfl]
  unfold told
  rw [if_pos (hF _ hy)]
theorem tot_take (ps : List (List M.Cl)) (k : Nat) (hk : k ≤ ps.length) : tot (ps.take k) (ps.take k).length = tot ps k := by
  unfold tot; rw [List.take_length]
theorem tot_iter {v : List M.Cl} (hv : M.valueFault v = 0) : ∀ k, k ≤ M.arity v 0 → tot (subs v 0) k + 1 = M.iter v k 1 := by
  intro k
  induction k with
  | zero => intro _; rw [tot_zero]; rfl
  | succ k ih =>
    intro hk
    have h2 := (Al.part_lt hv (show k < M.arity v 0 by omega)).2.1
    rw [tot_succ _ k (by rw [subs_length]; omega), Al.subs_getD v 0 k (by omega), Nat.zero_add]
    have := ih (by omega)
    omega
/-- All that is set of a value's leaves, into null, makes the value. -/
theorem goes_all : ∀ (f : Nat) (v : List M.Cl) (d : Nat), M.valueFault v = 0 → v.length ≤ f → M.walk v v.length 0 = some (v.length, d) → Goes (Fine d v.length) [M.zero] (lvs f v) v ∧ lvs f v ≠ []
  | 0, v, d, hv, hf, _ => by have := (M.fault_zero hv).1; omega
  | f + 1, v, d, hv, hf, hw => by
    have hl := (M.fault_zero hv).1
    have hl2 := (M.fault_zero hv).2.1
    by_cases h0 : (v.getD 0 M.zero).n = 0
    · rw [lvs, if_pos h0]
      exact ⟨⟨v, rfl, ⟨hv, Nat.le_refl _, d, hw, Nat.le_refl _⟩, rfl⟩, by simp⟩
    have hn := Sev.n_ge hv
    have ha : 0 < M.arity v 0 := by unfold M.arity; omega
    have hd20 : d ≤ 20 := by
      obtain ⟨d', h1, h2⟩ := (M.fault_zero hv).2.2.2.2
      rw [hw] at h1
      simp only [Option.some.injEq, Prod.mk.injEq, true_and] at h1
      omega
    have hk56 : (v.getD 0 M.zero).kind = 5 ∨ (v.getD 0 M.zero).kind = 6 := by
      by_cases h5 : (v.getD 0 M.zero).kind = 5
      · exact .inl h5
      by_cases h6 : (v.getD 0 M.zero).kind = 6
      · exact .inr h6
      have := arity_null hv h5 h6
      omega
    have hsl : (subs v 0).length = M.arity v 0 := subs_length v 0
    have hkl : (keysAt v 0).length = M.arity v 0 := keysAt_length v 0
    have hd1 : 1 ≤ d := by obtain ⟨d1, _, h⟩ := subs_deep hv hw ha; omega
    have hpart : ∀ k, k < M.arity v 0 → ∃ dp, M.walk ((subs v 0).getD k []) ((subs v 0).getD k []).length 0 = some (((subs v 0).getD k []).length, dp) ∧ dp + 1 ≤ d ∧ M.valueFault ((subs v 0).getD k []) = 0 ∧ ((subs v 0).getD k []).length ≤ f ∧ tot (subs v 0) k + ((subs v 0).getD k []).length + 1 ≤ v.length := fun k hk => by
      obtain ⟨p1, p2, p3⟩ := Al.part_lt hv hk
      obtain ⟨dp, w1, w2⟩ := subs_deep hv hw hk
      have h4 := (Al.iter_le hv (show k + 1 ≤ M.arity v 0 from hk)).2
      have h5 := tot_iter hv k (by omega)
      have h6 := (Al.iter_le hv (Nat.le_of_lt hk)).1
      rw [Al.subs_getD v 0 k hk, Nat.zero_add]
      exact ⟨dp, w1, w2, p3, by omega, by omega⟩
    have hQf : ∀ k, k ≤ M.arity v 0 → ∀ j, j < ((subs v 0).take k).length → Fine (d - 1) 200 (((subs v 0).take k).getD j []) := fun k hk j hj => by
      rw [List.length_take] at hj
      rw [take_getD _ _ _ _ (by omega)]
      obtain ⟨dp, w1, w2, w3, w4, w5⟩ := hpart j (by omega)
      exact ⟨w3, by omega, dp, w1, by omega⟩
    rw [lvs, if_neg h0]
    have hne : ∀ k, k ≤ M.arity v 0 → 0 < k → lvK (lvs f) (decide ((v.getD 0 M.zero).kind = 6)) (keysAt v 0) (subs v 0) k ≠ [] := fun k hk h => by
      obtain ⟨m, rfl⟩ : ∃ m, k = m + 1 := ⟨k - 1, by omega⟩
      obtain ⟨dp, w1, w2, w3, w4, _⟩ := hpart m (by omega)
      have := (goes_all f _ dp w3 w4 w1).2
      rw [lvK]
      intro e
      have e2 := List.append_eq_nil_iff.1 e
      exact this (List.map_eq_nil_iff.1 e2.2)
    refine ⟨?_, hne _ (Nat.le_refl _) ha⟩
    have snocF : ∀ k, k < M.arity v 0 → ∀ (dp : Nat) (y : List M.Cl), dp + 1 ≤ d → Fine dp ((subs v 0).getD k []).length y → tot (subs v 0) k + ((subs v 0).getD k []).length + 1 ≤ v.length → (∀ j, j < ((subs v 0).take k ++ [y]).length → Fine (d - 1) 200 (((subs v 0).take k ++ [y]).getD j [])) ∧ tot ((subs v 0).take k ++ [y]) ((subs v 0).take k ++ [y]).length + 1 ≤ v.length := fun k hk dp y hdp hy htot => by
      refine ⟨fun j hj => ?_, ?_⟩
      · rw [List.length_append, List.length_singleton] at hj
        by_cases e : j < ((subs v 0).take k).length
        · rw [snoc_lt _ _ _ _ e]; exact hQf k (by omega) j e
        · rw [snoc_at _ _ _ _ (by omega)]; exact hy.mono (by omega) (by omega)
      · rw [J.tot_snoc, tot_take _ _ (by omega)]
        have := hy.2.1
        omega
    rcases hk56 with h5 | h6
    · rw [decide_eq_false (by omega)]
      have key : ∀ k, k ≤ M.arity v 0 → Goes (Fine d v.length) [M.zero] (lvK (lvs f) false (keysAt v 0) (subs v 0) k) (if k = 0 then [M.zero] else arrV ((subs v 0).take k)) := by
        intro k
        induction k with
        | zero => intro _; exact rfl
        | succ k ih =>
          intro hk
          obtain ⟨dp, w1, w2, w3, w4, w5⟩ := hpart k (by omega)
          have hrec := goes_all f _ dp w3 w4 w1
          rw [if_neg (by omega), lvK]
          refine Goes.app (ih (by omega)) ?_
          rw [← take_snoc [] (subs v 0) k (by omega)]
          have hQl : ((subs v 0).take k).length = k := by rw [List.length_take]; omega
          have hkl2 : k < 200 := by have := (Al.iter_le hv (Nat.le_of_lt (show k < M.arity v 0 by omega))); omega
          have hst : (Al.stepAt false (keysAt v 0) k).kind = 3 ∧ (Al.stepAt false (keysAt v 0) k).num = (k : Int) := ⟨rfl, rfl⟩
          have hok : ∀ y, Fine dp ((subs v 0).getD k []).length y → Fine d v.length (arrV ((subs v 0).take k ++ [y])) := fun y hy => by
            obtain ⟨a, b⟩ := snocF k (by omega) dp y w2 hy w5
            exact (ar_fine (D := d - 1) a b hl2 (by omega)).mono (by omega) (Nat.le_refl _)
          have hels : ∀ y, Fine dp ((subs v 0).getD k []).length y → Pth.els (arrV ((subs v 0).take k ++ [y])) = (subs v 0).take k ++ [y] := fun y hy => by
            unfold Pth.els
            rw [if_pos (by rw [arrV_eq]; rfl), arr_subs (fun j hj => ((snocF k (by omega) dp y w2 hy w5).1 j hj).1)]
          refine goes_in (F := fun y => arrV ((subs v 0).take k ++ [y])) (fun y hy => ?_) hok _ hrec.2 ?_ hrec.1
          · refine at_arr hst.1 hst.2 hkl2 (.inl (by rw [arrV_eq]; rfl)) hQl ?_ (fun y' hy' => (hok y' hy').1)
            rw [hels y hy, Pth.pad_le (by rw [List.length_append, hQl]; exact Nat.le_refl _)]
          · refine at_arr hst.1 hst.2 hkl2 ?_ hQl ?_ (fun y' hy' => (hok y' hy').1)
            · split
              · exact .inr rfl
              · exact .inl (by rw [arrV_eq]; rfl)
            · have hels0 : Pth.els (if k = 0 then [M.zero] else arrV ((subs v 0).take k)) = (subs v 0).take k := by
                split
                · rename_i e; subst e; rfl
                · unfold Pth.els
                  rw [if_pos (by rw [arrV_eq]; rfl), arr_subs (fun j hj => (hQf k (by omega) j hj).1)]
              rw [hels0, Pth.pad_succ (by omega), Pth.pad_le (by omega)]
      have := key _ (Nat.le_refl _)
      rwa [if_neg (by omega), ← hsl, List.take_length, arr_again hv h5, hsl] at this
    · rw [decide_eq_true h6]
      have hrise : ∀ k, k ≤ M.arity v 0 → Rise ((keysAt v 0).take k) := fun k hk i j hij hj => by
        rw [List.length_take] at hj
        rw [take_getD _ _ _ _ (by omega), take_getD _ _ _ _ (by omega), Al.keysAt_getD v 0 i (by omega), Al.keysAt_getD v 0 j (by omega)]
        exact keys_rise2 v hv h6 i j hij (by omega)
      have htx : ∀ j, j < M.arity v 0 → M.textOk ((keysAt v 0).getD j ByteArray.empty) = true := fun j hj => keys_text hv _ (by omega)
      have key : ∀ k, k ≤ M.arity v 0 → Goes (Fine d v.length) [M.zero] (lvK (lvs f) true (keysAt v 0) (subs v 0) k) (if k = 0 then [M.zero] else objV ((keysAt v 0).take k) ((subs v 0).take k)) := by
        intro k
        induction k with
        | zero => intro _; exact rfl
        | succ k ih =>
          intro hk
          obtain ⟨dp, w1, w2, w3, w4, w5⟩ := hpart k (by omega)
          have hrec := goes_all f _ dp w3 w4 w1
          rw [if_neg (by omega), lvK]
          refine Goes.app (ih (by omega)) ?_
          have hr1 := hrise (k + 1) hk
          rw [← take_snoc [] (subs v 0) k (by omega), ← take_snoc ByteArray.empty (keysAt v 0) k (by omega)]
          rw [← take_snoc ByteArray.empty (keysAt v 0) k (by omega)] at hr1
          have hr0 := hrise k (by omega)
          have hQl : ((subs v 0).take k).length = k := by rw [List.length_take]; omega
          have hKl : ((keysAt v 0).take k).length = k := by rw [List.length_take]; omega
          obtain ⟨c, hc⟩ : ∃ c, c = Al.stepAt true (keysAt v 0) k := ⟨_, rfl⟩
          have hck : c.kind = 4 := by rw [hc]; rfl
          have hct : c.text = (keysAt v 0).getD k ByteArray.empty := by rw [hc]; rfl
          have hcx : M.textOk c.text = true := by rw [hct]; exact htx k (by omega)
          rw [← hct] at hr1 ⊢
          rw [← hc]
          have hkt : ∀ j, j < ((keysAt v 0).take k ++ [c.text]).length → M.textOk (((keysAt v 0).take k ++ [c.text]).getD j ByteArray.empty) = true := fun j hj => by
            rw [List.length_append, List.length_singleton] at hj
            by_cases e : j < ((keysAt v 0).take k).length
            · rw [snoc_lt _ _ _ _ e, take_getD _ _ _ _ (by omega)]; exact htx j (by omega)
            · rw [snoc_at _ _ _ _ (by omega)]; exact hcx
          have hll : ∀ y : List M.Cl, ((keysAt v 0).take k ++ [c.text]).length = ((subs v 0).take k ++ [y]).length := fun y => by simp [hQl, hKl]
          have hll0 : ((keysAt v 0).take k).length = ((subs v 0).take k).length := by omega
          have hval : ∀ y, Fine dp ((subs v 0).getD k []).length y → ∀ j, j < ((subs v 0).take k ++ [y]).length → M.valueFault (((subs v 0).take k ++ [y]).getD j []) = 0 := fun y hy j hj => ((snocF k (by omega) dp y w2 hy w5).1 j hj).1
          have hval0 : ∀ j, j < ((subs v 0).take k).length → M.valueFault (((subs v 0).take k).getD j []) = 0 := fun j hj => (hQf k (by omega) j hj).1
          have hok : ∀ y, Fine dp ((subs v 0).getD k []).length y → Fine d v.length (objV ((keysAt v 0).take k ++ [c.text]) ((subs v 0).take k ++ [y])) := fun y hy => by
            obtain ⟨a, b⟩ := snocF k (by omega) dp y w2 hy w5
            exact (ob_fine hr1 (hll y) (hval y hy) (D := d - 1) a hkt b hl2 (by omega)).mono (by omega) (Nat.le_refl _)
          refine goes_in (F := fun y => objV ((keysAt v 0).take k ++ [c.text]) ((subs v 0).take k ++ [y])) (fun y hy => ?_) hok _ hrec.2 ?_ hrec.1
          · refine at_obj hck hcx (hok y hy).1 (.inr (ob_kind hr1)) ?_ (fun y' hy' => hy'.1) (fun y' hy' => ?_)
            · rw [ob_get hr1 (hll y) (hval y hy) (p := k) (by rw [List.length_append, hKl]; exact Nat.lt_succ_self _) (snoc_at _ _ _ _ hKl), snoc_at _ _ _ _ hQl]
            · rw [ob_keys hr1 (hll y) (hval y hy), ob_subs hr1 (hll y) (hval y hy), ob_dup hr1 hll0, told_fine (hok y' hy')]
          · by_cases e : k = 0
            · subst e
              rw [if_pos rfl]
              refine at_obj hck hcx zero_valid.1 (.inl rfl) ?_ (fun y' hy' => hy'.1) (fun y' hy' => ?_)
              · exact getV_none fun j hj => absurd hj (by rw [show M.arity [M.zero] 0 = 0 from rfl]; omega)
              · exact told_fine (hok y' hy')
            · rw [if_neg e]
              have hf0 : M.valueFault (objV ((keysAt v 0).take k) ((subs v 0).take k)) = 0 := by
                have ht : tot ((subs v 0).take k) ((subs v 0).take k).length + 1 ≤ v.length := by rw [tot_take _ _ (by omega)]; omega
                exact (ob_fine hr0 hll0 hval0 (D := d - 1) (hQf k (by omega)) (fun j hj => by rw [take_getD _ _ _ _ (by omega)]; exact htx j (by omega)) ht hl2 (by omega)).1
              refine at_obj hck hcx hf0 (.inr (ob_kind hr0)) ?_ (fun y' hy' => hy'.1) (fun y' hy' => ?_)
              · refine ob_miss hr0 hll0 hval0 fun p hp e2 => ?_
                have := hr1 p k (by omega) (by rw [List.length_append, hKl]; exact Nat.lt_succ_self _)
                rw [snoc_at _ _ _ _ hKl, snoc_lt _ _ _ _ hp, e2, St.bl_irr] at this
                cases this
              · rw [ob_keys hr0 hll0 hval0, ob_subs hr0 hll0 hval0, told_fine (hok y' hy')]
      have := key _ (Nat.le_refl _)
      rwa [if_neg (by omega), show List.take (M.arity v 0) (keysAt v 0) = keysAt v 0 by rw [← hkl, List.take_length], show List.take (M.arity v 0) (subs v 0) = subs v 0 by rw [← hsl, List.take_length], obj_again hv h6] at this
end Fs
end Go.Proofs.YtcglddahphkcpaaGreatDoor
