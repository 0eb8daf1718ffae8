/-
  spec.l14Place, spec.l14Keys: the names of two rising lists, sorted, each once (mk_mgk.py).
-/
import Derived.Test.YtlmibdddfjbbdaaM17
import Derived.Test.YtlmibdddfjbbdaaM27
import Derived.Test.YtlmibdddfjbbdaaM33
import Derived.Test.YtlmibdddfjbbdaaM44
import Derived.BigQuiet
namespace Go.Proofs.Ytlmibdddfjbbdaa
open Go.RowKit
set_option linter.unusedVariables false
set_option linter.unusedSimpArgs false
namespace Mg
/-- What stands while two lists are joined. -/
structure Inv (a b : List ByteArray) (i k : Nat) (out : List ByteArray) : Prop where
  up : Tr.Rising out
  mem : ∀ x, x ∈ out ↔ x ∈ a.take i ∨ x ∈ b.take k
  left : ∀ x ∈ out, ∀ y ∈ a.drop i, Tr.less x y = true
  right : ∀ x ∈ out, ∀ y ∈ b.drop k, Tr.less x y = true
  size : out.length ≤ i + k
theorem Inv.start (a b : List ByteArray) : Inv a b 0 0 [] := ⟨List.Pairwise.nil, fun x => by simp, fun x hx => by simp at hx, fun x hx => by simp at hx, by simp⟩
theorem drop_cons {a : List ByteArray} {i : Nat} (h : i < a.length) : a.drop i = a.getD i ByteArray.empty :: a.drop (i + 1) := by
  rw [List.getD_eq_getElem?_getD, List.getElem?_eq_getElem h]; exact List.drop_eq_getElem_cons h
theorem take_snoc {a : List ByteArray} {i : Nat} (h : i < a.length) : a.take (i + 1) = a.take i ++ [a.getD i ByteArray.empty] := by
  rw [List.take_succ_eq_append_getElem h, List.getD_eq_getElem?_getD, List.getElem?_eq_getElem h]; rfl
theorem rise_drop {a : List ByteArray} (ha : Tr.Rising a) {i : Nat} (h : i < a.length) : ∀ y ∈ a.drop (i + 1), Tr.less (a.getD i ByteArray.empty) y = true := fun y hy => by
  unfold Tr.Rising at ha
  have : (a.drop i).Pairwise fun a b => Tr.less a b = true := ha.sublist (List.drop_sublist i a)
  rw [drop_cons h, List.pairwise_cons] at this
  exact this.1 y hy
theorem Inv.snoc {out : List ByteArray} {x : ByteArray} (h : Tr.Rising out) (hx : ∀ y ∈ out, Tr.less y x = true) : Tr.Rising (out ++ [x]) := by
  unfold Tr.Rising at h ⊢
  exact List.pairwise_append.2 ⟨h, List.pairwise_singleton _ _, fun y hy z hz => by rw [List.mem_singleton.1 hz]; exact hx y hy⟩
theorem Inv.stepL {a b : List ByteArray} {i k : Nat} {out : List ByteArray} (h : Inv a b i k out) (ha : Tr.Rising a) (hi : i < a.length) (hb : ∀ y ∈ b.drop k, Tr.less (a.getD i ByteArray.empty) y = true) : Inv a b (i + 1) k (out ++ [a.getD i ByteArray.empty]) := by
  refine ⟨Inv.snoc h.up fun y hy => h.left y hy _ (by rw [drop_cons hi]; exact List.mem_cons_self), fun x => ?_, fun x hx y hy => ?_, fun x hx y hy => ?_, by rw [List.length_append, List.length_singleton]; have := h.size; omega⟩
  · rw [List.mem_append, h.mem, take_snoc hi, List.mem_append]
    constructor
    · rintro ((h | h) | h)
      · exact .inl (.inl h)
      · exact .inr h
      · exact .inl (.inr h)
    · rintro ((h | h) | h)
      · exact .inl (.inl h)
      · exact .inr h
      · exact .inl (.inr h)
  · rcases List.mem_append.1 hx with hx | hx
    · exact h.left x hx y (by rw [drop_cons hi]; exact List.mem_cons_of_mem _ hy)
    · rw [List.mem_singleton.1 hx]; exact rise_drop ha hi y hy
  · rcases List.mem_append.1 hx with hx | hx
    · exact h.right x hx y hy
    · rw [List.mem_singleton.1 hx]; exact hb y hy
theorem Inv.symm {a b : List ByteArray} {i k : Nat} {out : List ByteArray} (h : Inv a b i k out) : Inv b a k i out := ⟨h.up, fun x => (h.mem x).trans or_comm, h.right, h.left, by have := h.size; omega⟩
theorem Inv.stepR {a b : List ByteArray} {i k : Nat} {out : List ByteArray} (h : Inv a b i k out) (hb : Tr.Rising b) (hk : k < b.length) (ha : ∀ y ∈ a.drop i, Tr.less (b.getD k ByteArray.empty) y = true) : Inv a b i (k + 1) (out ++ [b.getD k ByteArray.empty]) := (h.symm.stepL hb hk ha).symm
theorem Inv.stepB {a b : List ByteArray} {i k : Nat} {out : List ByteArray} (h : Inv a b i k out) (ha : Tr.Rising a) (hb : Tr.Rising b) (hi : i < a.length) (hk : k < b.length) (he : a.getD i ByteArray.empty = b.getD k ByteArray.empty) : Inv a b (i + 1) (k + 1) (out ++ [b.getD k ByteArray.empty]) := by
  refine ⟨Inv.snoc h.up fun y hy => h.right y hy _ (by rw [drop_cons hk]; exact List.mem_cons_self), fun x => ?_, fun x hx y hy => ?_, fun x hx y hy => ?_, by rw [List.length_append, List.length_singleton]; have := h.size; omega⟩
  · rw [List.mem_append, h.mem, take_snoc hi, take_snoc hk, List.mem_append, List.mem_append, he]
    constructor
    · rintro ((h | h) | h)
      · exact .inl (.inl h)
      · exact .inr (.inl h)
      · exact .inr (.inr h)
    · rintro ((h | h) | (h | h))
      · exact .inl (.inl h)
      · exact .inr h
      · exact .inl (.inr h)
      · exact .inr h
  · rcases List.mem_append.1 hx with hx | hx
    · exact h.left x hx y (by rw [drop_cons hi]; exact List.mem_cons_of_mem _ hy)
    · rw [List.mem_singleton.1 hx, ← he]; exact rise_drop ha hi y hy
  · rcases List.mem_append.1 hx with hx | hx
    · exact h.right x hx y (by rw [drop_cons hk]; exact List.mem_cons_of_mem _ hy)
    · rw [List.mem_singleton.1 hx]; exact rise_drop hb hk y hy
theorem Inv.done {a b out : List ByteArray} (h : Inv a b a.length b.length out) : out = Tr.onceB (a ++ b) := by
  refine Tr.rising_one h.up (Tr.once_up _) fun x => ?_
  rw [h.mem, List.take_length, List.take_length]
  exact (List.mem_append).symm.trans (Tr.once_mem _ x).symm
theorem Inv.len {a b : List ByteArray} {i k : Nat} {out : List ByteArray} (h : Inv a b i k out) (hi : i ≤ a.length) (hk : k ≤ b.length) : out.length ≤ a.length + b.length := by have := h.size; omega
/-- The keys of a value rise. -/
theorem keys_rising {v : List M.Cl} (hv : M.valueFault v = 0) (hk : (v.getD 0 M.zero).kind = 6) : Tr.Rising (keysAt v 0) := by
  unfold Tr.Rising
  rw [List.pairwise_iff_getElem]
  intro i j hi hj hij
  rw [keysAt_length] at hi hj
  have h := keys_rise2 v hv hk i j hij hj
  have e : ∀ q (hq : q < (keysAt v 0).length), (keysAt v 0)[q] = (v.getD (M.iter v q 1) M.zero).key := fun q hq => by simp [keysAt, M.places]
  rw [e, e]
  exact h
/-- The first place of a name. -/
def placeI (ks : List ByteArray) (key : ByteArray) : Int := match (List.range ks.length).find? (fun j => (ks.getD j ByteArray.empty).toList == key.toList) with
  | some j => (j : Int)
  | none => -1
theorem place_hit {ks : List ByteArray} {key : ByteArray} {k : Nat} (hk : k < ks.length) (h : ∀ j, j < k → ((ks.getD j ByteArray.empty).toList == key.toList) = false) (hh : ((ks.getD k ByteArray.empty).toList == key.toList) = true) : placeI ks key = (k : Int) := by
  unfold placeI
  rw [List.find?_range_eq_some.2 ⟨hh, List.mem_range.2 hk, fun j hj => by rw [h j hj]; rfl⟩]
theorem place_none {ks : List ByteArray} {key : ByteArray} (h : ∀ j, j < ks.length → ((ks.getD j ByteArray.empty).toList == key.toList) = false) : placeI ks key = -1 := by
  unfold placeI
  rw [List.find?_range_eq_none.2 fun j hj => by rw [h j hj]; rfl]
set_option maxRecDepth 100000 in
set_option maxHeartbeats 1000000 in
theorem l14Place_any (a : Option Addr) (kc : Nat) (ks : List ByteArray) (key : ByteArray) (w : World) (hA : TV w a ks) (hn : ks.length ≤ 1048576) :
    Calls Try.prog 28 #[.slice a ks.length kc, .string key] w fun e w' => e = .returned (.int .i64 (placeI ks key)) ∧ w' = w := by
  have HA := hide hA
  clear hA
  go_enter Try.func28, Try.ntmps28
  go_wp2_with fail
  go_loopg [5] ks.length (fun g s5 wr => ∃ k : Nat, Hid (g = ks.length - k) ∧ s5 = .int .i64 (k : Int) ∧ k ≤ ks.length ∧ Hid (∀ j, j < k → ((ks.getD j ByteArray.empty).toList == key.toList) = false) ∧ wr = w)
  case atStart => exact ⟨0, rfl, rfl, by omega, fun j hj => absurd hj (by omega), rfl⟩
  case round =>
    obtain ⟨k, hg, rfl, hk, hall, rfl⟩ := hrel
    by_cases hlt : k < ks.length
    · have hltI : (k : Int) < (ks.length : Int) := by omega
      have hk0 : (0 : Int) ≤ (k : Int) := by omega
      obtain ⟨g, rfl, hgl, f0⟩ := (unhide HA) k hlt
      have HIT := hide (fun hh => place_hit (key := key) hlt hall.out hh)
      have NEXT := hide (fun (hh : ((ks.getD k ByteArray.empty).toList == key.toList) = false) j (hj : j < k + 1) => show ((ks.getD j ByteArray.empty).toList == key.toList) = false by
        by_cases e : j = k
        · subst e; exact hh
        · exact hall.out j (by omega))
      generalize ks.getD k ByteArray.empty = y at *
      cases hq : (y.toList == key.toList) with
      | true =>
        have fin := hide ((unhide HIT) hq)
        clear HIT NEXT hall
        go_wp2_with fail
        go_ret
        exact ⟨ret_int (unhide fin).symm, rfl⟩
      | false =>
        have HN := hide ((unhide NEXT) hq)
        clear HIT NEXT hall
        go_wp2_with fail
        go_roundg (ks.length - (k + 1))
        case rel => exact ⟨k + 1, rfl, by go_num, by omega, unhide HN, rfl⟩
        case measure => have := hg.out; omega
    · have hke : k = ks.length := by omega
      have fin := hide (place_none (key := key) (ks := ks) (by rw [← hke]; exact hall.out))
      clear hall hke
      go_wp2_with fail
      go_ret
      exact ⟨ret_int (unhide fin).symm, rfl⟩
set_option maxRecDepth 100000 in
set_option maxHeartbeats 16000000 in
theorem l14Keys_any (a a' : Option Addr) (kc kc' : Nat) (ka kb : List ByteArray) (w : World) (hA : TV w a ka) (hB : TV w a' kb) (ha : Tr.Rising ka) (hb : Tr.Rising kb) (hla : ka.length ≤ 1048576) (hlb : kb.length ≤ 1048576) :
    Calls Try.prog 27 #[.slice a ka.length kc, .slice a' kb.length kc'] w fun e w' => ∃ s, e = .returned s ∧ KS w' w.heap.size s (Tr.onceB (ka ++ kb)) ∧ Below w.heap.size w w' := by
  have HA := hide hA
  have HB := hide hB
  have RA := hide ha
  have RB := hide hb
  clear hA hB ha hb
  obtain ⟨i0, hi, hz0, hz1, hz2⟩ := info_parts Try.info9
  obtain ⟨W0, hW0⟩ : ∃ W0, W0 = w.alloc (.cells #[] 9) := ⟨_, rfl⟩
  have B0 : Below w.heap.size w W0 := by rw [hW0]; exact (Below.refl _ _).alloc (Nat.le_refl _) _
  have O0 := hide (show W0.ownsRow w.heap.size 9 1 (.slice (some ⟨w.heap.size, 0, none⟩) 0 0) ([] : List ByteArray).length (([] : List ByteArray).map Value.string) by rw [hW0]; exact ⟨rfl, .inr ⟨w.heap.size, 0, #[], rfl, Nat.le_refl _, heap_alloc_new _ _, Nat.le_refl _, by simp [maxLen], rfl, rfl⟩⟩)
  go_enter Try.func27, Try.ntmps27
  go_wp2_with fail
  rw [← hW0]
  clear hW0
  go_loopg [5, 6, 7] (ka.length + kb.length) (fun g s5 s6 s7 wr => ∃ (i k : Nat) (out : List ByteArray), Hid (g = ka.length + kb.length - (i + k)) ∧ s6 = .int .i64 (i : Int) ∧ s7 = .int .i64 (k : Int) ∧ i ≤ ka.length ∧ k ≤ kb.length ∧ Hid (wr.ownsRow w.heap.size 9 1 s5 out.length (out.map Value.string)) ∧ Hid (Inv ka kb i k out) ∧ Below w.heap.size w wr)
  case atStart => exact ⟨0, 0, [], rfl, rfl, rfl, by omega, by omega, unhide O0, Inv.start _ _, B0⟩
  case round =>
    clear O0 B0
    obtain ⟨i, k, out, hg, rfl, rfl, hil, hkl, hown, hinv, hbel⟩ := hrel
    have hol := hinv.out.len hil hkl
    have HINV := hide hinv.out
    obtain ⟨m, hm⟩ : ∃ m, m = out.length := ⟨_, rfl⟩
    have hmb : m ≤ 2097152 := by omega
    have HOWwr := hide (show wr.ownsRow w.heap.size 9 1 u5 m (out.map Value.string) by rw [hm]; exact hown.out)
    have HML := hide hm
    obtain ⟨oa, oc, rfl⟩ : ∃ oa oc, u5 = .slice oa m oc := by
      have h := unhide HOWwr
      rcases h.2 with ⟨h1, h2⟩ | ⟨g, cap, cur, h1, _⟩
      · exact ⟨none, 0, by rw [h1, h2]⟩
      · exact ⟨_, _, h1⟩
    clear hown hinv hol hm
    have hbelwr := hbel
    by_cases hi2 : i < ka.length
    · obtain ⟨ga, rfl, hga, fa⟩ := ((unhide HA).below hbel) i hi2
      have hiI : (i : Int) < (ka.length : Int) := by omega
      have hdi : decide ((i : Int) < (ka.length : Int)) = true := decide_eq_true hiI
      have hdin : decide (i < ka.length) = true := decide_eq_true hi2
      have hi0 : (0 : Int) ≤ (i : Int) := by omega
      by_cases hk2 : k < kb.length
      · obtain ⟨gb, rfl, hgb, fb⟩ := ((unhide HB).below hbel) k hk2
        have hkI : (k : Int) < (kb.length : Int) := by omega
        have hk0 : (0 : Int) ≤ (k : Int) := by omega
        have hkN : ¬ (kb.length : Int) ≤ (k : Int) := by omega
        have hdk : decide ((kb.length : Int) ≤ (k : Int)) = false := decide_eq_false hkN
        have hdk2 : decide ((k : Int) < (kb.length : Int)) = true := decide_eq_true hkI
        have hdkn : decide (kb.length ≤ k) = false := decide_eq_false (by omega)
        have hdkm : decide (k < kb.length) = true := decide_eq_true hk2
        have hbd := rise_drop (unhide RB) hk2
        have had := rise_drop (unhide RA) hi2
        have SL := hide (fun (h : Tr.less (ka.getD i ByteArray.empty) (kb.getD k ByteArray.empty) = true) => (unhide HINV).stepL (unhide RA) hi2 fun y hy => by
          rw [drop_cons hk2] at hy
          rcases List.mem_cons.1 hy with e | hy
          · rw [e]; exact h
          · exact Tr.less_trans h (hbd y hy))
        have SB := hide (fun (h : ka.getD i ByteArray.empty = kb.getD k ByteArray.empty) => (unhide HINV).stepB (unhide RA) (unhide RB) hi2 hk2 h)
        have SR := hide (fun (h : Tr.less (kb.getD k ByteArray.empty) (ka.getD i ByteArray.empty) = true) => (unhide HINV).stepR (unhide RB) hk2 fun y hy => by
          rw [drop_cons hi2] at hy
          rcases List.mem_cons.1 hy with e | hy
          · rw [e]; exact h
          · exact Tr.less_trans h (had y hy))
        clear hbd had HINV
        generalize ka.getD i ByteArray.empty = x at *
        generalize kb.getD k ByteArray.empty = y at *
        rcases Tr.less_tri x y with h | h | h
        · have HN := hide ((unhide SL) h)
          have h1 : Op.bytesLess x.toList y.toList = true := h
          clear SL SB SR h
          have faq := fun q => (show (wr.drewN q).cell? ⟨ga, i, none⟩ = some (.string x) from fa)
          have fbq := fun q => (show (wr.drewN q).cell? ⟨gb, k, none⟩ = some (.string y) from fb)
          go_wp2_with fail
          go_quiet (fail)
          obtain ⟨w9, hw9⟩ : ∃ w9, w9 = wr.drewN nq := ⟨_, rfl⟩
          rw [← hw9]
          have hbelw9 : Below w.heap.size w w9 := by rw [hw9]; exact below_drewN hbelwr nq
          have HOWw9 := hide (show w9.ownsRow w.heap.size 9 1 (.slice oa m oc) m (out.map Value.string) by rw [hw9]; exact unhide HOWwr)
          have fan : w9.cell? ⟨ga, i, none⟩ = some (.string x) := by rw [hw9]; exact fa
          clear fa faq
          have fa := fan
          clear fan
          have fbn : w9.cell? ⟨gb, k, none⟩ = some (.string y) := by rw [hw9]; exact fb
          clear fb fbq
          have fb := fbn
          clear fbn
          clear hw9 hbelwr HOWwr
          have hown1 := hide (fun o => (unhide HOWw9).alloc o)
          have hbse := hide (ownsRow_base (unhide HOWw9))
          have hone := hide (one_val w9 (.string x) 9)
          have honep := hide (show ∀ u ∈ ([Value.string x] : List Value), u.oneCell' = true by intro u hu; simp only [List.mem_cons, List.not_mem_nil, or_false] at hu; subst hu; rfl)
          have hb63 : m + 1 ≤ maxLen := by unfold maxLen; omega
          have hby : (m + 1) * 16 ≤ 140737488355328 := by omega
          have hbase : w.heap.size ≤ w9.heap.size + 1 := by have := hbelw9.size; omega
          clear HOWw9
          go_wp2_with (at_builtin; refine wpList_append_own _ rfl (.tmp 40) (.tmp 45) 48 rfl w.heap.size 9 i0 (.string ByteArray.empty) 1 16 Try.underlying48 hi hz0 hz1 hz2 rfl (by decide) _ m _ rfl ((unhide hown1) _) ⟨w9.heap.size, 0, none⟩ 1 1 [.string x] rfl rfl (unhide hone) (unhide honep) hb63 hby (by simpa using hbase) ?_)
          intro v' w2 ho2 hg2 _
          rw [unhide HML] at ho2
          have HO2 := hide (show w2.ownsRow w.heap.size 9 1 v' (out ++ [x]).length ((out ++ [x]).map Value.string) by rw [List.length_append, List.map_append]; exact ho2)
          have B2 : Below w.heap.size w w2 := (hbelw9.alloc hbelw9.size _).grown hg2 (by simpa using hbase) (unhide hbse)
          clear ho2 hg2 hown1 hone honep hbse
          go_wp2_with fail
          go_roundg (ka.length + kb.length - (i + 1 + k))
          case rel => exact ⟨i + 1, k, _, rfl, by go_num, by go_num, by omega, by omega, unhide HO2, unhide HN, B2⟩
          case measure => have := hg.out; omega
        · have HN := hide ((unhide SB) h)
          subst h
          have h1 : Op.bytesLess x.toList x.toList = false := Tr.bl_irr _
          have h2 : (x.toList == x.toList) = true := by simp
          clear SL SB SR
          have faq := fun q => (show (wr.drewN q).cell? ⟨ga, i, none⟩ = some (.string x) from fa)
          have fbq := fun q => (show (wr.drewN q).cell? ⟨gb, k, none⟩ = some (.string x) from fb)
          go_wp2_with fail
          go_quiet (fail)
          obtain ⟨w9, hw9⟩ : ∃ w9, w9 = wr.drewN nq := ⟨_, rfl⟩
          rw [← hw9]
          have hbelw9 : Below w.heap.size w w9 := by rw [hw9]; exact below_drewN hbelwr nq
          have HOWw9 := hide (show w9.ownsRow w.heap.size 9 1 (.slice oa m oc) m (out.map Value.string) by rw [hw9]; exact unhide HOWwr)
          have fan : w9.cell? ⟨ga, i, none⟩ = some (.string x) := by rw [hw9]; exact fa
          clear fa faq
          have fa := fan
          clear fan
          have fbn : w9.cell? ⟨gb, k, none⟩ = some (.string x) := by rw [hw9]; exact fb
          clear fb fbq
          have fb := fbn
          clear fbn
          clear hw9 hbelwr HOWwr
          have faq := fun q => (show (w9.drewN q).cell? ⟨ga, i, none⟩ = some (.string x) from fa)
          have fbq := fun q => (show (w9.drewN q).cell? ⟨gb, k, none⟩ = some (.string x) from fb)
          go_wp2_with fail
          go_quiet (fail)
          obtain ⟨w10, hw10⟩ : ∃ w10, w10 = w9.drewN nq := ⟨_, rfl⟩
          rw [← hw10]
          have hbelw10 : Below w.heap.size w w10 := by rw [hw10]; exact below_drewN hbelw9 nq
          have HOWw10 := hide (show w10.ownsRow w.heap.size 9 1 (.slice oa m oc) m (out.map Value.string) by rw [hw10]; exact unhide HOWw9)
          have fan : w10.cell? ⟨ga, i, none⟩ = some (.string x) := by rw [hw10]; exact fa
          clear fa faq
          have fa := fan
          clear fan
          have fbn : w10.cell? ⟨gb, k, none⟩ = some (.string x) := by rw [hw10]; exact fb
          clear fb fbq
          have fb := fbn
          clear fbn
          clear hw10 hbelw9 HOWw9
          have hown1 := hide (fun o => (unhide HOWw10).alloc o)
          have hbse := hide (ownsRow_base (unhide HOWw10))
          have hone := hide (one_val w10 (.string x) 9)
          have honep := hide (show ∀ u ∈ ([Value.string x] : List Value), u.oneCell' = true by intro u hu; simp only [List.mem_cons, List.not_mem_nil, or_false] at hu; subst hu; rfl)
          have hb63 : m + 1 ≤ maxLen := by unfold maxLen; omega
          have hby : (m + 1) * 16 ≤ 140737488355328 := by omega
          have hbase : w.heap.size ≤ w10.heap.size + 1 := by have := hbelw10.size; omega
          clear HOWw10
          go_wp2_with (at_builtin; refine wpList_append_own _ rfl (.tmp 66) (.tmp 71) 48 rfl w.heap.size 9 i0 (.string ByteArray.empty) 1 16 Try.underlying48 hi hz0 hz1 hz2 rfl (by decide) _ m _ rfl ((unhide hown1) _) ⟨w10.heap.size, 0, none⟩ 1 1 [.string x] rfl rfl (unhide hone) (unhide honep) hb63 hby (by simpa using hbase) ?_)
          intro v' w2 ho2 hg2 _
          rw [unhide HML] at ho2
          have HO2 := hide (show w2.ownsRow w.heap.size 9 1 v' (out ++ [x]).length ((out ++ [x]).map Value.string) by rw [List.length_append, List.map_append]; exact ho2)
          have B2 : Below w.heap.size w w2 := (hbelw10.alloc hbelw10.size _).grown hg2 (by simpa using hbase) (unhide hbse)
          clear ho2 hg2 hown1 hone honep hbse
          go_wp2_with fail
          go_roundg (ka.length + kb.length - (i + 1 + k + 1))
          case rel => exact ⟨i + 1, k + 1, _, rfl, by go_num, by go_num, by omega, by omega, unhide HO2, unhide HN, B2⟩
          case measure => have := hg.out; omega
        · have HN := hide ((unhide SR) h)
          have h1 : Op.bytesLess x.toList y.toList = false := Tr.less_asymm h
          have h2 : (x.toList == y.toList) = false := by
            rw [beq_eq_false_iff_ne]
            intro e
            rw [e, Tr.bl_irr] at h1
            have h3 : Op.bytesLess y.toList x.toList = true := h
            rw [e, Tr.bl_irr] at h3
            cases h3
          clear SL SB SR h
          have faq := fun q => (show (wr.drewN q).cell? ⟨ga, i, none⟩ = some (.string x) from fa)
          have fbq := fun q => (show (wr.drewN q).cell? ⟨gb, k, none⟩ = some (.string y) from fb)
          go_wp2_with fail
          go_quiet (fail)
          obtain ⟨w9, hw9⟩ : ∃ w9, w9 = wr.drewN nq := ⟨_, rfl⟩
          rw [← hw9]
          have hbelw9 : Below w.heap.size w w9 := by rw [hw9]; exact below_drewN hbelwr nq
          have HOWw9 := hide (show w9.ownsRow w.heap.size 9 1 (.slice oa m oc) m (out.map Value.string) by rw [hw9]; exact unhide HOWwr)
          have fan : w9.cell? ⟨ga, i, none⟩ = some (.string x) := by rw [hw9]; exact fa
          clear fa faq
          have fa := fan
          clear fan
          have fbn : w9.cell? ⟨gb, k, none⟩ = some (.string y) := by rw [hw9]; exact fb
          clear fb fbq
          have fb := fbn
          clear fbn
          clear hw9 hbelwr HOWwr
          have faq := fun q => (show (w9.drewN q).cell? ⟨ga, i, none⟩ = some (.string x) from fa)
          have fbq := fun q => (show (w9.drewN q).cell? ⟨gb, k, none⟩ = some (.string y) from fb)
          go_wp2_with fail
          go_quiet (fail)
          obtain ⟨w10, hw10⟩ : ∃ w10, w10 = w9.drewN nq := ⟨_, rfl⟩
          rw [← hw10]
          have hbelw10 : Below w.heap.size w w10 := by rw [hw10]; exact below_drewN hbelw9 nq
          have HOWw10 := hide (show w10.ownsRow w.heap.size 9 1 (.slice oa m oc) m (out.map Value.string) by rw [hw10]; exact unhide HOWw9)
          have fan : w10.cell? ⟨ga, i, none⟩ = some (.string x) := by rw [hw10]; exact fa
          clear fa faq
          have fa := fan
          clear fan
          have fbn : w10.cell? ⟨gb, k, none⟩ = some (.string y) := by rw [hw10]; exact fb
          clear fb fbq
          have fb := fbn
          clear fbn
          clear hw10 hbelw9 HOWw9
          have hown1 := hide (fun o => (unhide HOWw10).alloc o)
          have hbse := hide (ownsRow_base (unhide HOWw10))
          have hone := hide (one_val w10 (.string y) 9)
          have honep := hide (show ∀ u ∈ ([Value.string y] : List Value), u.oneCell' = true by intro u hu; simp only [List.mem_cons, List.not_mem_nil, or_false] at hu; subst hu; rfl)
          have hb63 : m + 1 ≤ maxLen := by unfold maxLen; omega
          have hby : (m + 1) * 16 ≤ 140737488355328 := by omega
          have hbase : w.heap.size ≤ w10.heap.size + 1 := by have := hbelw10.size; omega
          clear HOWw10
          go_wp2_with (at_builtin; refine wpList_append_own _ rfl (.tmp 66) (.tmp 71) 48 rfl w.heap.size 9 i0 (.string ByteArray.empty) 1 16 Try.underlying48 hi hz0 hz1 hz2 rfl (by decide) _ m _ rfl ((unhide hown1) _) ⟨w10.heap.size, 0, none⟩ 1 1 [.string y] rfl rfl (unhide hone) (unhide honep) hb63 hby (by simpa using hbase) ?_)
          intro v' w2 ho2 hg2 _
          rw [unhide HML] at ho2
          have HO2 := hide (show w2.ownsRow w.heap.size 9 1 v' (out ++ [y]).length ((out ++ [y]).map Value.string) by rw [List.length_append, List.map_append]; exact ho2)
          have B2 : Below w.heap.size w w2 := (hbelw10.alloc hbelw10.size _).grown hg2 (by simpa using hbase) (unhide hbse)
          clear ho2 hg2 hown1 hone honep hbse
          go_wp2_with fail
          go_roundg (ka.length + kb.length - (i + k + 1))
          case rel => exact ⟨i, k + 1, _, rfl, by go_num, by go_num, by omega, by omega, unhide HO2, unhide HN, B2⟩
          case measure => have := hg.out; omega
      · have hkI : (kb.length : Int) ≤ (k : Int) := by omega
        have hkN : ¬ (k : Int) < (kb.length : Int) := by omega
        have hdk : decide ((kb.length : Int) ≤ (k : Int)) = true := decide_eq_true hkI
        have hdk2 : decide ((k : Int) < (kb.length : Int)) = false := decide_eq_false hkN
        have hdkn : decide (kb.length ≤ k) = true := decide_eq_true (by omega)
        have hdkm : decide (k < kb.length) = false := decide_eq_false hk2
        have HN := hide ((unhide HINV).stepL (unhide RA) hi2 fun y hy => by rw [List.drop_of_length_le (by omega)] at hy; simp at hy)
        clear HINV
        generalize ka.getD i ByteArray.empty = x at *
        have faq := fun q => (show (wr.drewN q).cell? ⟨ga, i, none⟩ = some (.string x) from fa)
        go_wp2_with fail
        go_quiet (fail)
        obtain ⟨w9, hw9⟩ : ∃ w9, w9 = wr.drewN nq := ⟨_, rfl⟩
        rw [← hw9]
        have hbelw9 : Below w.heap.size w w9 := by rw [hw9]; exact below_drewN hbelwr nq
        have HOWw9 := hide (show w9.ownsRow w.heap.size 9 1 (.slice oa m oc) m (out.map Value.string) by rw [hw9]; exact unhide HOWwr)
        have fan : w9.cell? ⟨ga, i, none⟩ = some (.string x) := by rw [hw9]; exact fa
        clear fa faq
        have fa := fan
        clear fan
        clear hw9 hbelwr HOWwr
        have hown1 := hide (fun o => (unhide HOWw9).alloc o)
        have hbse := hide (ownsRow_base (unhide HOWw9))
        have hone := hide (one_val w9 (.string x) 9)
        have honep := hide (show ∀ u ∈ ([Value.string x] : List Value), u.oneCell' = true by intro u hu; simp only [List.mem_cons, List.not_mem_nil, or_false] at hu; subst hu; rfl)
        have hb63 : m + 1 ≤ maxLen := by unfold maxLen; omega
        have hby : (m + 1) * 16 ≤ 140737488355328 := by omega
        have hbase : w.heap.size ≤ w9.heap.size + 1 := by have := hbelw9.size; omega
        clear HOWw9
        go_wp2_with (at_builtin; refine wpList_append_own _ rfl (.tmp 40) (.tmp 45) 48 rfl w.heap.size 9 i0 (.string ByteArray.empty) 1 16 Try.underlying48 hi hz0 hz1 hz2 rfl (by decide) _ m _ rfl ((unhide hown1) _) ⟨w9.heap.size, 0, none⟩ 1 1 [.string x] rfl rfl (unhide hone) (unhide honep) hb63 hby (by simpa using hbase) ?_)
        intro v' w2 ho2 hg2 _
        rw [unhide HML] at ho2
        have HO2 := hide (show w2.ownsRow w.heap.size 9 1 v' (out ++ [x]).length ((out ++ [x]).map Value.string) by rw [List.length_append, List.map_append]; exact ho2)
        have B2 : Below w.heap.size w w2 := (hbelw9.alloc hbelw9.size _).grown hg2 (by simpa using hbase) (unhide hbse)
        clear ho2 hg2 hown1 hone honep hbse
        go_wp2_with fail
        go_roundg (ka.length + kb.length - (i + 1 + k))
        case rel => exact ⟨i + 1, k, _, rfl, by go_num, by go_num, by omega, by omega, unhide HO2, unhide HN, B2⟩
        case measure => have := hg.out; omega
    · have hiN : ¬ (i : Int) < (ka.length : Int) := by omega
      have hdi : decide ((i : Int) < (ka.length : Int)) = false := decide_eq_false hiN
      have hdin : decide (i < ka.length) = false := decide_eq_false hi2
      by_cases hk2 : k < kb.length
      · obtain ⟨gb, rfl, hgb, fb⟩ := ((unhide HB).below hbel) k hk2
        have hkI : (k : Int) < (kb.length : Int) := by omega
        have hk0 : (0 : Int) ≤ (k : Int) := by omega
        have hkN : ¬ (kb.length : Int) ≤ (k : Int) := by omega
        have hdk : decide ((kb.length : Int) ≤ (k : Int)) = false := decide_eq_false hkN
        have hdk2 : decide ((k : Int) < (kb.length : Int)) = true := decide_eq_true hkI
        have hdkn : decide (kb.length ≤ k) = false := decide_eq_false (by omega)
        have hdkm : decide (k < kb.length) = true := decide_eq_true hk2
        have HN := hide ((unhide HINV).stepR (unhide RB) hk2 fun y hy => by rw [List.drop_of_length_le (by omega)] at hy; simp at hy)
        clear HINV
        generalize kb.getD k ByteArray.empty = y at *
        have fbq := fun q => (show (wr.drewN q).cell? ⟨gb, k, none⟩ = some (.string y) from fb)
        go_wp2_with fail
        go_quiet (fail)
        obtain ⟨w9, hw9⟩ : ∃ w9, w9 = wr.drewN nq := ⟨_, rfl⟩
        rw [← hw9]
        have hbelw9 : Below w.heap.size w w9 := by rw [hw9]; exact below_drewN hbelwr nq
        have HOWw9 := hide (show w9.ownsRow w.heap.size 9 1 (.slice oa m oc) m (out.map Value.string) by rw [hw9]; exact unhide HOWwr)
        have fbn : w9.cell? ⟨gb, k, none⟩ = some (.string y) := by rw [hw9]; exact fb
        clear fb fbq
        have fb := fbn
        clear fbn
        clear hw9 hbelwr HOWwr
        have fbq := fun q => (show (w9.drewN q).cell? ⟨gb, k, none⟩ = some (.string y) from fb)
        go_wp2_with fail
        go_quiet (fail)
        obtain ⟨w10, hw10⟩ : ∃ w10, w10 = w9.drewN nq := ⟨_, rfl⟩
        rw [← hw10]
        have hbelw10 : Below w.heap.size w w10 := by rw [hw10]; exact below_drewN hbelw9 nq
        have HOWw10 := hide (show w10.ownsRow w.heap.size 9 1 (.slice oa m oc) m (out.map Value.string) by rw [hw10]; exact unhide HOWw9)
        have fbn : w10.cell? ⟨gb, k, none⟩ = some (.string y) := by rw [hw10]; exact fb
        clear fb fbq
        have fb := fbn
        clear fbn
        clear hw10 hbelw9 HOWw9
        have hown1 := hide (fun o => (unhide HOWw10).alloc o)
        have hbse := hide (ownsRow_base (unhide HOWw10))
        have hone := hide (one_val w10 (.string y) 9)
        have honep := hide (show ∀ u ∈ ([Value.string y] : List Value), u.oneCell' = true by intro u hu; simp only [List.mem_cons, List.not_mem_nil, or_false] at hu; subst hu; rfl)
        have hb63 : m + 1 ≤ maxLen := by unfold maxLen; omega
        have hby : (m + 1) * 16 ≤ 140737488355328 := by omega
        have hbase : w.heap.size ≤ w10.heap.size + 1 := by have := hbelw10.size; omega
        clear HOWw10
        go_wp2_with (at_builtin; refine wpList_append_own _ rfl (.tmp 66) (.tmp 71) 48 rfl w.heap.size 9 i0 (.string ByteArray.empty) 1 16 Try.underlying48 hi hz0 hz1 hz2 rfl (by decide) _ m _ rfl ((unhide hown1) _) ⟨w10.heap.size, 0, none⟩ 1 1 [.string y] rfl rfl (unhide hone) (unhide honep) hb63 hby (by simpa using hbase) ?_)
        intro v' w2 ho2 hg2 _
        rw [unhide HML] at ho2
        have HO2 := hide (show w2.ownsRow w.heap.size 9 1 v' (out ++ [y]).length ((out ++ [y]).map Value.string) by rw [List.length_append, List.map_append]; exact ho2)
        have B2 : Below w.heap.size w w2 := (hbelw10.alloc hbelw10.size _).grown hg2 (by simpa using hbase) (unhide hbse)
        clear ho2 hg2 hown1 hone honep hbse
        go_wp2_with fail
        go_roundg (ka.length + kb.length - (i + k + 1))
        case rel => exact ⟨i, k + 1, _, rfl, by go_num, by go_num, by omega, by omega, unhide HO2, unhide HN, B2⟩
        case measure => have := hg.out; omega
      · have hkN : ¬ (k : Int) < (kb.length : Int) := by omega
        have e1 : i = ka.length := by omega
        have e2 : k = kb.length := by omega
        have FIN := hide (show KS wr w.heap.size (.slice oa m oc) (Tr.onceB (ka ++ kb)) by
          have h := unhide HINV
          rw [e1, e2] at h
          rw [← h.done]
          unfold KS
          rw [← unhide HML]
          exact unhide HOWwr)
        clear HINV HOWwr e1 e2
        go_wp2_with fail
        go_ret
        exact ⟨_, rfl, unhide FIN, hbel⟩
end Mg
end Go.Proofs.Ytlmibdddfjbbdaa
