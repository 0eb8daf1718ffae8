/-
  Plainly: a value and all values in it, each ahead of those in it.
  spec.PartAt and impl.PartAt answer alike.
  A value is put together again of its parts.
  An array is its parts; what DeepOf tells, as the law holds it.
  impl.StreamOf and spec.StreamOf.
-/
import Derived.Test.YtcglddahphkcpaaGreatDoorU07
import Derived.Test.YtcglddahphkcpaaGreatDoorU10
import Derived.Test.YtcglddahphkcpaaGreatDoorU16
import Derived.Test.YtcglddahphkcpaaGreatDoorU17
import Derived.Test.YtcglddahphkcpaaGreatDoorU25
import Derived.Test.YtcglddahphkcpaaGreatDoorU32
import Derived.Test.YtcglddahphkcpaaGreatDoorU33
namespace Go.Proofs.YtcglddahphkcpaaGreatDoor
open Go.RowKit
set_option linter.unusedVariables false

theorem end_whole {v : List M.Cl} (hv : M.valueFault v = 0) : M.endOf v 0 = v.length := by
  obtain ⟨_, _, _, _, d, hw, _⟩ := M.fault_zero hv
  exact M.endOf_of (Nat.le_refl _) hw
theorem part_self {v : List M.Cl} (hv : M.valueFault v = 0) : part v 0 = v := by
  unfold part
  rw [end_whole hv, show cut v 0 v.length = v by unfold cut; simp]
  exact setKey_none hv
end Go.Proofs.YtcglddahphkcpaaGreatDoor

namespace Go.Proofs.YtcglddahphkcpaaGreatDoor
open Go.RowKit
set_option linter.unusedVariables false

/-- What PartAt answers. -/
def partOut (v : List M.Cl) (at' : Int) : Int × List M.Cl := if asked v at' ≠ 0 then (asked v at', []) else (0, part v at'.toNat)
theorem part_ok {v : List M.Cl} {at' : Int} (h : asked v at' = 0) : partOut v at' = (0, part v at'.toNat) := by unfold partOut; rw [if_neg (by simp [h])]

end Go.Proofs.YtcglddahphkcpaaGreatDoor

namespace Go.Proofs.YtcglddahphkcpaaGreatDoor
open Go.RowKit
set_option linter.unusedVariables false

theorem bytes_nil {b : ByteArray} (h : b.toList = []) : b = ByteArray.empty := bytes_ext (h.trans empty_list.symm)
/-- The parts of an array have no keys. -/
theorem keys_none (v : List M.Cl) (hv : M.valueFault v = 0) (hk : (v.getD 0 M.zero).kind = 5) : ∀ j, j < M.arity v 0 → (v.getD (M.iter v j 1) M.zero).key.toList = [] := by
  have hl := (M.fault_zero hv).1
  obtain ⟨d, hw, _⟩ := (M.fault_zero hv).2.2.2.2
  obtain ⟨f, hf⟩ : ∃ f, v.length = f + 1 := ⟨v.length - 1, by omega⟩
  have hw' := hw
  rw [hf] at hw'
  simp only [M.walk, Option.map_eq_some_iff] at hw'
  obtain ⟨r, h1, _⟩ := hw'
  have key : ∀ m k e d last r, M.kids (M.walk v f) v (v.getD 0 M.zero) m k e d last = some r → e ≤ v.length → d ≤ f → ∀ j, j < m → (v.getD (M.iter v j e) M.zero).key.toList = [] := by
    intro m
    induction m with
    | zero => intro k e d last r _ _ _ j hj; omega
    | succ m ih =>
      intro k e d last r h he hd j hj
      simp only [M.kids] at h
      split at h
      · cases h
      rename_i hb
      have hlt : e < v.length := by
        by_cases hx : e < v.length
        · exact hx
        · exact absurd (show M.bad v (v.getD 0 M.zero) k e last = true by unfold M.bad; rw [if_neg hx]) hb
      split at h
      · cases h
      · rename_i e1 d1 hr
        have hwb := M.walk_bd v f e hlt _ hr
        simp only at hwb
        have he1 : M.endOf v e = e1 := M.endOf_of (by omega) hr
        cases j with
        | zero =>
          show (v.getD e M.zero).key.toList = []
          have hb' : M.bad v (v.getD 0 M.zero) k e last = false := by cases hx : M.bad v (v.getD 0 M.zero) k e last with | true => exact absurd hx hb | false => rfl
          unfold M.bad at hb'
          rw [if_pos hlt, Bool.or_eq_false_iff] at hb'
          have h2 := hb'.1
          rw [hk, decide_eq_true rfl] at h2
          simpa using h2
        | succ j =>
          have := ih (k + 1) e1 (max d d1) _ r h hwb.2.1 (by omega) j (by omega)
          rw [show M.iter v (j + 1) e = M.iter v j e1 by rw [M.iter, he1]]
          exact this
  intro j hj
  exact key _ 0 1 0 ByteArray.empty r h1 (by omega) (by omega) j (by unfold M.arity at hj; omega)
theorem head_cell {v : List M.Cl} (hv : M.valueFault v = 0) {k : Int} (hk : (v.getD 0 M.zero).kind = k) (h56 : k = 5 ∨ k = 6) : v.getD 0 M.zero = headCl k (M.arity v 0) := by
  have hl := (M.fault_zero hv).1
  have hkey := fault_key hv
  have hc := M.first_zero (M.fault_zero hv).2.2.1 _ (getD_mem v 0 (by omega))
  unfold M.arity
  generalize v.getD 0 M.zero = c at *
  obtain ⟨kind, num, text, key, n⟩ := c
  simp only at hk hkey hc
  subst hk
  subst hkey
  unfold M.cellCode at hc
  simp only at hc
  split at hc
  · cases hc
  split at hc
  · cases hc
  rename_i h1
  split at hc
  · cases hc
  rename_i h2
  have hnum : num = 0 := by
    by_cases e : num = 0
    · exact e
    · exact absurd (.inl ⟨e, by omega⟩) h1
  have htx : text.toList = [] := by
    by_cases e : text.toList = []
    · exact e
    · exact absurd (.inr (.inl ⟨e, by omega⟩)) h1
  unfold headCl
  rw [hnum, show text = ByteArray.empty from bytes_nil htx]
  simp only
  rw [show ((n.toNat : Nat) : Int) = n from Int.toNat_of_nonneg (by omega)]
theorem take_parts {v : List M.Cl} (hv : M.valueFault v = 0) (k : Nat) (hk : k ≤ M.arity v 0) : v.take (M.iter v k 1) = v.take 1 ++ ((List.range k).map fun j => cut v (M.iter v j 1) (M.iter v (j + 1) 1)).flatten := by
  have hl := (M.fault_zero hv).1
  have hin := M.places_in hv 0 (by omega)
  induction k with
  | zero => simp [M.iter]
  | succ k ih =>
    have h1 := hin.1 k (by omega)
    simp only [Nat.zero_add] at h1
    have hg := end_gt hv (a := M.iter v k 1) (by have := hin.2.2.1; omega)
    rw [← M.iter_next] at hg
    rw [List.range_succ, List.map_append, List.flatten_append, ← List.append_assoc, ← ih (by omega)]
    simp only [List.map_cons, List.map_nil, List.flatten_cons, List.flatten_nil, List.append_nil]
    unfold cut
    obtain ⟨m, hm⟩ : ∃ m, M.iter v (k + 1) 1 = M.iter v k 1 + m := ⟨M.iter v (k + 1) 1 - M.iter v k 1, by omega⟩
    rw [hm, Nat.add_sub_cancel_left, List.take_add]
theorem flat_parts {v : List M.Cl} (hv : M.valueFault v = 0) : v = v.getD 0 M.zero :: ((List.range (M.arity v 0)).map fun j => cut v (M.iter v j 1) (M.iter v (j + 1) 1)).flatten := by
  have hl := (M.fault_zero hv).1
  have h2 := (M.places_in hv 0 (by omega)).2.1
  simp only [Nat.zero_add] at h2
  have := take_parts hv (M.arity v 0) (Nat.le_refl _)
  rw [h2, end_whole hv, List.take_length] at this
  have ht : v.take 1 = [v.getD 0 M.zero] := by
    cases v with
    | nil => simp at hl
    | cons c r => simp
  rw [ht] at this
  exact this
theorem cut_key {v : List M.Cl} (hv : M.valueFault v = 0) {j : Nat} (hj : j < M.arity v 0) : setKey (part v (M.iter v j 1)) (v.getD (M.iter v j 1) M.zero).key = cut v (M.iter v j 1) (M.iter v (j + 1) 1) := by
  have hl := (M.fault_zero hv).1
  have hin := M.places_in hv 0 (by omega)
  have h1 := hin.1 j hj
  simp only [Nat.zero_add] at h1
  have hlt : M.iter v j 1 < v.length := by have := hin.2.2.1; omega
  have hne := cut_ne hv hlt
  have hz := cut_getD v (M.iter v j 1) (M.endOf v (M.iter v j 1)) 0 (by have := end_gt hv hlt; omega)
  rw [Nat.add_zero] at hz
  rw [← hz]
  unfold part
  rw [M.iter_next]
  generalize cut v (M.iter v j 1) (M.endOf v (M.iter v j 1)) = q at *
  cases q with
  | nil => exact absurd rfl hne
  | cons c r => rfl
theorem arr_again {v : List M.Cl} (hv : M.valueFault v = 0) (hk : (v.getD 0 M.zero).kind = 5) : arrV (subs v 0) = v := by
  have e : arrV (subs v 0) = headCl 5 (subs v 0).length :: (subs v 0).flatten := by unfold arrV arrK; rw [List.take_length]
  rw [e, subs_length, ← head_cell hv hk (.inl rfl)]
  conv => rhs; rw [flat_parts hv]
  refine congrArg _ (congrArg _ ?_)
  unfold subs M.places
  rw [List.map_map]
  refine List.map_congr_left fun j hj => ?_
  have hj := List.mem_range.1 hj
  show part v (M.iter v j (0 + 1)) = _
  rw [Nat.zero_add, ← cut_key hv hj, show (v.getD (M.iter v j 1) M.zero).key = ByteArray.empty from bytes_nil (keys_none v hv hk j hj)]
  have hin := M.places_in hv 0 (by have := (M.fault_zero hv).1; omega)
  have h1 := hin.1 j hj
  simp only [Nat.zero_add] at h1
  exact (setKey_none (part_valid hv (by have := hin.2.2.1; omega))).symm
theorem obj_again {v : List M.Cl} (hv : M.valueFault v = 0) (hk : (v.getD 0 M.zero).kind = 6) : objV (keysAt v 0) (subs v 0) = v := by
  have hkl : (keysAt v 0).length = M.arity v 0 := keysAt_length v 0
  have hg : ∀ i, i < M.arity v 0 → (keysAt v 0).getD i ByteArray.empty = (v.getD (M.iter v i 1) M.zero).key := fun i hi => by simp [keysAt, M.places, List.getD_eq_getElem?_getD, hi]
  have hs : ∀ i, i < M.arity v 0 → (subs v 0).getD i [] = part v (M.iter v i 1) := fun i hi => by simp [subs, M.places, List.getD_eq_getElem?_getD, hi]
  have hst := stand_rise (keysAt v 0) (fun i j hij hj => by rw [hkl] at hj; rw [hg i (by omega), hg j hj]; exact keys_rise2 v hv hk i j hij hj) _ (Nat.le_refl _)
  unfold objV
  rw [hst, hkl]
  unfold objK memK
  rw [List.take_length, List.length_range, ← head_cell hv hk (.inr rfl)]
  conv => rhs; rw [flat_parts hv]
  refine congrArg _ (congrArg _ (List.map_congr_left fun j hj => ?_))
  have hj := List.mem_range.1 hj
  rw [hg j hj, hs j hj, cut_key hv hj]

end Go.Proofs.YtcglddahphkcpaaGreatDoor

namespace Go.Proofs.YtcglddahphkcpaaGreatDoor
open Go.RowKit
set_option linter.unusedVariables false

theorem arrV_eq (ps : List (List M.Cl)) : arrV ps = headCl 5 ps.length :: ps.flatten := by unfold arrV arrK; rw [List.take_length]
section
variable {ps : List (List M.Cl)} (hv : ∀ j, j < ps.length → M.valueFault (ps.getD j []) = 0)
include hv
theorem arr_end {j : Nat} (hj : j < ps.length) : M.endOf (arrV ps) (tot ps j + 1) = tot ps (j + 1) + 1 := by
  obtain ⟨h1, h2, _, _, d, hw, _⟩ := M.fault_zero (hv j hj)
  have hL := made_length (headCl 5 ps.length) ps
  have hts := tot_succ ps j hj
  have hm := tot_le ps ps.length (j + 1) (by omega) (Nat.le_refl _)
  rw [arrV_eq]
  have hat : ∀ i, i < (ps.getD j []).length → (headCl 5 ps.length :: ps.flatten).getD (tot ps j + 1 + i) M.zero = (ps.getD j []).getD i M.zero := fun i hi => made_at _ ps j i hj hi
  have hs : M.Sub (ps.getD j []) (headCl 5 ps.length :: ps.flatten) (tot ps j + 1) (tot ps (j + 1) + 1) := ⟨by omega, by omega, by omega, fun i hi => by rw [hat i hi], fun i hi => by rw [hat i hi], fun i h0 hi => by rw [hat i hi]⟩
  have := M.walk_sup hs _ 0 _ _ (by omega) hw
  rw [Nat.add_zero, show tot ps j + 1 + (ps.getD j []).length = tot ps (j + 1) + 1 by omega] at this
  exact M.endOf_of (by omega) this
theorem arr_iter (j : Nat) (hj : j ≤ ps.length) : M.iter (arrV ps) j 1 = tot ps j + 1 := by
  induction j with
  | zero => rw [tot_zero]; rfl
  | succ j ih => rw [M.iter_next, ih (by omega), arr_end hv (by omega)]
theorem arr_part {j : Nat} (hj : j < ps.length) : part (arrV ps) (tot ps j + 1) = ps.getD j [] := by
  have e : cut (arrV ps) (tot ps j + 1) (M.endOf (arrV ps) (tot ps j + 1)) = ps.getD j [] := by
    rw [arr_end hv hj, tot_succ ps j hj, arrV_eq]
    obtain ⟨rest, hr⟩ := flatten_at ps j hj
    unfold cut
    rw [hr, List.drop_succ_cons, List.append_assoc, List.drop_append_of_le_length (by rw [tot_flatten]; omega), List.drop_of_length_le (by rw [tot_flatten]; omega), List.nil_append]
    rw [show tot ps j + (ps.getD j []).length + 1 - (tot ps j + 1) = (ps.getD j []).length by omega]
    exact List.take_left
  unfold part
  rw [e]
  exact setKey_none (hv j hj)
theorem arr_subs : subs (arrV ps) 0 = ps := by
  have ha : M.arity (arrV ps) 0 = ps.length := by rw [arrV_eq]; simp [M.arity, headCl]
  unfold subs M.places
  rw [ha, List.map_map]
  refine List.ext_getElem (by simp) fun i h1 h2 => ?_
  simp only [List.getElem_map, List.getElem_range, Function.comp]
  rw [arr_iter hv i (by omega), arr_part hv h2]
  simp [List.getD_eq_getElem?_getD, h2]
end
end Go.Proofs.YtcglddahphkcpaaGreatDoor

namespace Go.Proofs.YtcglddahphkcpaaGreatDoor
open Go.RowKit
set_option linter.unusedVariables false
set_option linter.unusedSimpArgs false
namespace Al
theorem evs_ne {v : List M.Cl} (hv : M.valueFault v = 0) : ∀ i, i < (evs v.length v []).length → (evs v.length v []).getD i [] ≠ [] := fun i hi e => by
  have := (fault_len ((stream_fine hv).2 i hi)).1
  rw [e] at this; simp at this
set_option maxRecDepth 100000 in
set_option maxHeartbeats 2000000 in
theorem implStreamOf_any (v : List M.Cl) (b off cap : Nat) (w : World) (hrow : Row w b off v) (hb : b < w.heap.size) (hn : v.length ≤ 1048576) (hcap : v.length ≤ cap) (hok : ∀ c ∈ v, c.ok) :
    Calls Tryz.prog 20 #[.slice (some ⟨b, off, none⟩) v.length cap] w (AnsR w (streamOut v)) := by
  have OK := hide hok
  have B0 : ∀ o, Below w.heap.size w (w.alloc o) := fun o => (Below.refl _ _).alloc (Nat.le_refl _) o
  have HB0 := hide B0
  clear B0 hok
  go_enter Tryz.func20, Tryz.ntmps20
  go_wp2_with fail
  refine (implFault_any v b off cap _ (hrow.below ((unhide HB0) _) hb) (by simp; omega) hn hcap (unhide OK)).mono ?_
  rintro e1 w1 ⟨rfl, hb1⟩
  have hR : Own w1 w.heap.size 41 [.int .i64 0, .slice none 0 0] := Own.below ⟨_, heap_alloc_new _ _, rfl⟩ hb1 (by simp)
  have B1 : Below w.heap.size w w1 := ((unhide HB0) _).trans (hb1.mono (by simp))
  have hrow1 := hrow.below B1 hb
  have hb1' : b < w1.heap.size := Nat.lt_of_lt_of_le hb B1.size
  clear hb1
  by_cases hv : M.valueFault v = 0
  · rw [hv]
    have fin := hide (stream_ok hv)
    have hl := (M.fault_zero hv)
    have hp0 : part v 0 = v := part_self hv
    have HEV := hide (ev_says v.length v b off cap 0 [] (.slice none 0 0) w1.heap.size (.slice none 0 0) (fun _ => False) [] w1 hv (by have := hl.1; omega) (by rw [hp0]; omega) hrow1 hb1' (Nat.le_refl _) hcap (Sp.nil _ _ _) (World.ownsRow_nil _ _ _ _) (fun g h => h.elim) (fun g h => by cases h) (fun c hc => by simp at hc) (by rw [hp0]; have := hl.2.1; simp; omega) (by rw [hp0]; have := hl.2.1; simp; omega))
    rw [hp0, List.nil_append] at HEV
    have HNE := hide (evs_ne hv)
    have HSP := hide (show Sp w1 w1.heap.size (.slice none 0 0) [] (fun _ => False) from Sp.nil _ _ _)
    clear hl hp0 hv hrow1 hrow
    go_wp2_with fail
    refine (unhide HEV).mono ?_
    rintro e2 w2 ⟨ev, rfl, hE⟩
    have hb2 := hE.low (unhide HSP) (World.ownsRow_nil _ _ _ _) (Nat.le_refl _)
    have hp3 := hE.row.sd.pr (unhide HNE)
    have hR3 := hR.below hb2 hR.lt
    have r0 := hR3.cell 0
    have r1 := hR3.cell 1
    have z0 := hR3.frozen 0
    have z1 := hR3.frozen 1
    simp only [List.getElem?_cons_zero, List.getElem?_cons_succ] at r0 r1
    have HE := hide (PR.stored hp3 B1 hR.lt hb2)
    obtain ⟨ac, mc, cc, rfl⟩ := hp3.ps.shape
    clear hE hp3 hb2 HEV HSP
    go_wp2_with fail
    refine bodyPost_ret (v := .agg #[.int .i64 0, .slice ac mc cc]) (by simp [results, Tryz.results20, go_sem, r0, r1]) rfl (ansR_of (unhide fin) ((unhide HE) _ _).1 ((unhide HE) _ _).2)
  · have fin := hide (stream_bad hv)
    generalize M.valueFault v = q at *
    have hz' : (q == 0) = false := by simp [hv]
    have hz2 : (q != 0) = true := by simp [hv]
    have r0 := hR.cell 0
    have r1 := hR.cell 1
    have z0 := hR.frozen 0
    have z1 := hR.frozen 1
    simp only [List.getElem?_cons_zero, List.getElem?_cons_succ] at r0 r1
    clear hv
    go_wp2_with fail
    refine bodyPost_ret (v := .agg #[.int .i64 q, .slice none 0 0]) (by simp [results, Tryz.results20, go_sem, r0, r1]) rfl (ansR_of (unhide fin) (.inl ⟨rfl, rfl⟩) (store_below B1 _ _))
set_option maxRecDepth 100000 in
set_option maxHeartbeats 2000000 in
theorem specStreamOf_any (v : List M.Cl) (b off cap : Nat) (w : World) (hrow : Row w b off v) (hb : b < w.heap.size) (hn : v.length ≤ 1048576) (hcap : v.length ≤ cap) (hok : ∀ c ∈ v, c.ok) :
    Calls Tryz.prog 21 #[.slice (some ⟨b, off, none⟩) v.length cap] w (AnsS w (streamOut v)) := by
  have OK := hide hok
  have B0 : ∀ o, Below w.heap.size w (w.alloc o) := fun o => (Below.refl _ _).alloc (Nat.le_refl _) o
  have HB0 := hide B0
  clear B0 hok
  go_enter Tryz.func21, Tryz.ntmps21
  go_wp2_with fail
  refine (specFault_any v b off cap _ (hrow.below ((unhide HB0) _) hb) (by simp; omega) hn hcap (unhide OK)).mono ?_
  rintro e1 w1 ⟨rfl, hb1⟩
  have hR : Own w1 w.heap.size 41 [.int .i64 0, .slice none 0 0] := Own.below ⟨_, heap_alloc_new _ _, rfl⟩ hb1 (by simp)
  have B1 : Below w.heap.size w w1 := ((unhide HB0) _).trans (hb1.mono (by simp))
  have hrow1 := hrow.below B1 hb
  have hb1' : b < w1.heap.size := Nat.lt_of_lt_of_le hb B1.size
  clear hb1
  by_cases hv : M.valueFault v = 0
  · rw [hv]
    have fin := hide (stream_ok hv)
    have hl := (M.fault_zero hv).2.1
    have HEV := hide (all_evs v.length v b off cap none 0 [] w1 hv (Nat.le_refl _) hrow1 hb1' hcap (PT.nil _ _) (fun _ => ⟨rfl, rfl⟩) (Nat.le_refl _) (by omega) (by simp; omega) (fun c hc => by simp at hc))
    have hfine := stream_fine hv
    have HNE := hide (evs_ne hv)
    obtain ⟨L, hL⟩ : ∃ L, L = evs v.length v [] := ⟨_, rfl⟩
    rw [← hL] at fin HEV hfine HNE
    have HVF := hide hfine.2
    have hl2 := hfine.1
    clear hL hv hl hrow1 hrow hfine
    go_wp2_with fail
    refine (unhide HEV).mono ?_
    rintro e2 w2 ⟨s, rfl, hss, hb2⟩
    have hps := hide (hss.ps (unhide HNE))
    obtain ⟨a2, c2, rfl, hc2, hlv⟩ := hss.lv (unhide HNE)
    have HLV := hide hlv
    have hR2 := hR.below hb2 hR.lt
    have HR2 := hide hR2
    have B2 := hide (B1.trans (hb2.mono B1.size))
    have HBS := hide (show w.heap.size < w1.heap.size from hR.lt)
    have hb12 := hide hb2
    have h200 : ¬ 200 < (L.length : Int) := by omega
    have HL2 := hide hl2
    obtain ⟨n, hnn⟩ : ∃ n, n = L.length := ⟨_, rfl⟩
    have HN := hide hnn
    rw [← hnn] at h200 hl2 ⊢
    clear hss hlv hR2 hb2 hR HEV hnn
    go_wp2_with fail
    go_loopg [5] n (fun gh s5 wr => ∃ k : Nat, Hid (gh = n - k) ∧ s5 = .int .i64 (k : Int) ∧ k ≤ n ∧ Hid (Below w2.heap.size w2 wr))
    case atStart => exact ⟨0, rfl, rfl, by omega, Below.refl _ _⟩
    case round =>
      obtain ⟨k, hg, rfl, hk, hbel⟩ := hrel
      by_cases hlt : k < n
      · have hltI : (k : Int) < (n : Int) := by omega
        have hk0 : (0 : Int) ≤ (k : Int) := by omega
        obtain ⟨g, b3, o3, c3, rfl, hgl, f3, hc3, hb3, hr3⟩ := ((unhide HLV).below hbel.out) k (by rw [← unhide HN]; exact hlt)
        have hvf := (unhide HVF) k (by rw [← unhide HN]; exact hlt)
        have HF := hide (specFault_any (L.getD k []) b3 o3 c3 wr hr3 hb3 (by have := (fault_len hvf).2; omega) hc3 (Pth.oks hvf))
        rw [hvf] at HF
        clear hr3 hvf hb3 hc3
        generalize L.getD k [] = q at *
        go_wp2_with fail
        refine (unhide HF).mono ?_
        rintro e4 w4 ⟨rfl, hb4⟩
        have B4 := hide (hbel.out.trans (hb4.mono hbel.out.size))
        clear hb4 f3 HF hbel
        go_wp2_with fail
        go_roundg (n - (k + 1))
        case rel => exact ⟨k + 1, rfl, by go_num, by omega, unhide B4⟩
        case measure => have := hg.out; omega
      · have hR4 := (unhide HR2).below hbel.out (unhide HR2).lt
        have r0 := hR4.cell 0
        have r1 := hR4.cell 1
        have z0 := hR4.frozen 0
        have z1 := hR4.frozen 1
        simp only [List.getElem?_cons_zero, List.getElem?_cons_succ] at r0 r1
        have BB := (unhide hb12).trans (hbel.out.mono (unhide hb12).size)
        have HP4 : PS wr w1.heap.size wr.heap.size (.slice a2 n c2) L := by
          have := (unhide hps).below hbel.out
          rw [← unhide HN] at this
          exact this.mono (Nat.le_refl _) hbel.out.size
        have HE := hide (PS.stored HP4 B1 (unhide HBS) BB)
        have hkI : ¬ (k : Int) < (n : Int) := by omega
        clear hR4 HP4 BB hbel
        go_wp2_with fail
        refine bodyPost_ret (v := .agg #[.int .i64 0, .slice a2 n c2]) (by simp [results, Tryz.results21, go_sem, r0, r1]) rfl (ansS_of (unhide fin) ((unhide HE) _ _).1 ((unhide HE) _ _).2)
  · have fin := hide (stream_bad hv)
    generalize M.valueFault v = q at *
    have hz' : (q == 0) = false := by simp [hv]
    have hz2 : (q != 0) = true := by simp [hv]
    have r0 := hR.cell 0
    have r1 := hR.cell 1
    have z0 := hR.frozen 0
    have z1 := hR.frozen 1
    simp only [List.getElem?_cons_zero, List.getElem?_cons_succ] at r0 r1
    clear hv
    go_wp2_with fail
    refine bodyPost_ret (v := .agg #[.int .i64 q, .slice none 0 0]) (by simp [results, Tryz.results21, go_sem, r0, r1]) rfl (ansS_of (unhide fin) (.inl ⟨rfl, rfl⟩) (store_below B1 _ _))
end Al
end Go.Proofs.YtcglddahphkcpaaGreatDoor
