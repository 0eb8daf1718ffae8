/-
  spec.RangeOf and impl.RangeOf.
  What KeysOf tells, plainly; texts and lists that do not touch one another.
  Lists of texts and of parts that are handed on to make an object.
  Lists that are joined, and what a sum of two values is, plainly.
  spec.l1Object, where what it answers need not grow: out of the contract with room.
  spec.SetKey.
-/
import Derived.Test.YtcglddahphkcpaaGreatDoorV16
import Derived.Test.YtcglddahphkcpaaGreatDoorV18
import Derived.Test.YtcglddahphkcpaaGreatDoorV19
import Derived.Test.YtcglddahphkcpaaGreatDoorV25
import Derived.Test.YtcglddahphkcpaaGreatDoorV26
import Derived.Laws.AppendOwnNone
namespace Go.Proofs.YtcglddahphkcpaaGreatDoor
open Go.RowKit
set_option linter.unusedVariables false

end Go.Proofs.YtcglddahphkcpaaGreatDoor

namespace Go.Proofs.YtcglddahphkcpaaGreatDoor
open Go.RowKit
set_option linter.unusedVariables false

def TextsOk (ks : List ByteArray) : Prop := ∀ j, j < ks.length → M.textOk (ks.getD j ByteArray.empty) = true
theorem keys_text {v : List M.Cl} (hv : M.valueFault v = 0) : TextsOk (keysAt v 0) := by
  intro j hj
  have hl := (M.fault_zero hv).1
  rw [keysAt_length] at hj
  rw [show (keysAt v 0).getD j ByteArray.empty = (v.getD (M.iter v j 1) M.zero).key from by simp [keysAt, M.places, List.getD_eq_getElem?_getD, hj]]
  obtain ⟨h1, h2, h3, _⟩ := M.places_in hv 0 (by omega)
  have h5 := h1 j hj
  simp only [Nat.zero_add] at h5
  have h := code_at hv (M.iter v j 1) (by omega)
  unfold M.cellCode at h
  split at h
  · cases h
  split at h
  · cases h
  split at h
  · cases h
  split at h
  · rename_i h4; exact h4.2
  · cases h
/-- A row of texts stays, where a row of another kind grows. -/
theorem KS.grown {w w' : World} {B base : Nat} {v s : Value} {ks : List ByteArray} {n size : Nat} {e : TypeId} {xs : List Value} (h : KS w B v ks) (ho : w.ownsRow base e size s n xs) (hne : e ≠ 9) (hg : w.grownBy w' s.ownBlock) : KS w' B v ks := by
  obtain ⟨h1, h2 | ⟨g, cap, cur, h3, h4, h5, h6⟩⟩ := h
  · exact ⟨h1, .inl h2⟩
  · obtain ⟨c, hc, ec⟩ := grown_own hg (b := g) (t := 9) (ys := cur.toList) ⟨cur, h5, rfl⟩ (other_block ho (b := g) (t := 9) (ys := cur.toList) ⟨cur, h5, rfl⟩ hne)
    have : c = cur := Array.toList_inj.1 ec
    subst this
    exact ⟨h1, .inr ⟨g, cap, c, h3, h4, hc, h6⟩⟩
theorem KS.alloc {w : World} {B : Nat} {v : Value} {ks : List ByteArray} (h : KS w B v ks) (o : Obj) : KS (w.alloc o) B v ks := h.below ((Below.refl _ _).alloc (Nat.le_refl _) o)
end Go.Proofs.YtcglddahphkcpaaGreatDoor

namespace Go.Proofs.YtcglddahphkcpaaGreatDoor
open Go.RowKit
set_option linter.unusedVariables false

theorem KS.snoc {w3 : World} {B : Nat} {v' : Value} {ks : List ByteArray} {key : ByteArray} {k : Nat} (hk : ks.length = k) (ho : w3.ownsRow B 9 1 v' (k + 1) (ks.map Value.string ++ [.string key])) : KS w3 B v' (ks ++ [key]) := by
  subst hk
  unfold KS
  simpa using ho
theorem KS.row {w : World} {B : Nat} {v : Value} {ks : List ByteArray} {k : Nat} (h : KS w B v ks) (hk : ks.length = k) : w.ownsRow B 9 1 v k (ks.map Value.string) := by
  subst hk; exact h
/-- Parts, and one more that lies elsewhere. -/
theorem SS.lvSnoc {w2 w3 : World} {o : Obj} {B k : Nat} {s v' : Value} {ps : List (List M.Cl)} {u : List M.Cl} {ss : List Value} {b off cap : Nat} (hk : ps.length = k) (hl : ss.length = ps.length) (hown : w2.ownsRow B 24 1 s ps.length ss) (hres : ∀ i, i < ps.length → Res w2 B (ss.getD i (.slice none 0 0)) (ps.getD i [])) (hne : ∀ i, i < ps.length → ps.getD i [] ≠ []) (hg : (w2.alloc o).grownBy w3 s.ownBlock) (ho : w3.ownsRow B 24 1 v' (k + 1) (ss ++ [.slice (some ⟨b, off, none⟩) u.length cap])) (hrow : Row w3 b off u) (hb : b < w3.heap.size) (hcap : u.length ≤ cap) :
    ∃ a c, v' = .slice a (ps ++ [u]).length c ∧ (ps ++ [u]).length ≤ c ∧ LV w3 a (ps ++ [u]) := by
  subst hk
  have keep : ∀ (r : Value) (l : List M.Cl), Res w2 B r l → Res w3 B r l := fun r l h => grown_res (hown.alloc o) hg (h.alloc o) (by decide)
  obtain ⟨_, ⟨_, h0⟩ | ⟨g, c, cur, rfl, hgB, hh, hnc, hcm, hcs, ht⟩⟩ := ho
  · omega
  · refine ⟨some ⟨g, 0, none⟩, c, by simp, by simpa using hnc, fun i hi => ?_⟩
    rw [List.length_append] at hi
    simp only [List.length_cons, List.length_nil] at hi
    have hcell := row_at (base := 0) (cap := 0) (i := i) hh ht (by omega)
    by_cases e : i < ps.length
    · obtain ⟨bi, ci, he, hci, hO⟩ := res_any (keep _ _ (hres i e)) (hne i e)
      rw [show (ps ++ [u]).getD i [] = ps.getD i [] from by rw [List.getD_eq_getElem?_getD, List.getElem?_append_left e, ← List.getD_eq_getElem?_getD]]
      refine ⟨g, bi, 0, ci, rfl, (Array.getElem?_eq_some_iff.1 hh).1, ?_, hci, hO.lt, hO.row⟩
      rw [hcell, List.getElem?_append_left (by omega), List.getElem?_eq_getElem (by omega)]
      rw [List.getD_eq_getElem?_getD, List.getElem?_eq_getElem (by omega)] at he
      simp only [Option.getD_some] at he
      rw [he]
    · obtain rfl : i = ps.length := by omega
      rw [show (ps ++ [u]).getD ps.length [] = u from by rw [List.getD_eq_getElem?_getD, List.getElem?_append_right (Nat.le_refl _), Nat.sub_self]; rfl]
      refine ⟨g, b, off, cap, rfl, (Array.getElem?_eq_some_iff.1 hh).1, ?_, hcap, hb, hrow⟩
      rw [hcell, List.getElem?_append_right (by omega), hl, Nat.sub_self]
      rfl
theorem TV.one (w : World) (g : Nat) (key : ByteArray) (t : TypeId) (hg : g = w.heap.size) : TV (w.alloc (.cells #[.string key] t)) (some ⟨g, 0, none⟩) [key] := by
  subst hg
  intro i hi
  simp only [List.length_cons, List.length_nil] at hi
  obtain rfl : i = 0 := by omega
  exact ⟨w.heap.size, rfl, by simp, World.cell?_alloc_mark w _ _ (0, 0) 0⟩
/-- What is known of an object that is made. -/
theorem obj_made {ks : List ByteArray} {ps : List (List M.Cl)} (hlen : ks.length = ps.length) (hn : ks.length ≤ 4096) (hv : ∀ j, j < ps.length → M.valueFault (ps.getD j []) = 0) (hok : OkS ps) (hk : TextsOk ks) : objV ks ps ≠ [] ∧ (objV ks ps).length ≤ 1048576 ∧ ∀ c ∈ objV ks ps, c.ok := by
  have hst := St.stand_lt ks ks.length
  have hsl := St.stand_length ks ks.length
  have hL : ∀ p ∈ St.stand ks ks.length, (ps.getD p []).length ≤ 200 := fun p hp => (fault_len (hv p (by have := hst p hp; omega))).2
  refine ⟨by unfold objV objK; simp, ?_, ?_⟩
  · have := objK_length ks ps _ hL _ (Nat.le_refl _)
    unfold objV
    omega
  · refine objK_ok ks ps _ (by omega) (fun p hp => hok p (by have := hst p hp; omega)) (fun p hp => ?_) _ (Nat.le_refl _)
    have := hk p (hst p hp)
    unfold M.textOk at this
    rw [Bool.and_eq_true] at this
    have := of_decide_eq_true this.1
    omega
theorem texts_snoc {ks : List ByteArray} {key : ByteArray} (h : TextsOk ks) (hk : M.textOk key = true) : TextsOk (ks ++ [key]) := by
  intro j hj
  rw [List.length_append] at hj
  simp only [List.length_cons, List.length_nil] at hj
  by_cases e : j < ks.length
  · rw [List.getD_eq_getElem?_getD, List.getElem?_append_left e, ← List.getD_eq_getElem?_getD]; exact h j e
  · obtain rfl : j = ks.length := by omega
    rw [List.getD_eq_getElem?_getD, List.getElem?_append_right (Nat.le_refl _), Nat.sub_self]; exact hk
theorem parts_snoc {P : List M.Cl → Prop} {ps : List (List M.Cl)} {u : List M.Cl} (h : ∀ j, j < ps.length → P (ps.getD j [])) (hu : P u) : ∀ j, j < (ps ++ [u]).length → P ((ps ++ [u]).getD j []) := by
  intro j hj
  rw [List.length_append] at hj
  simp only [List.length_cons, List.length_nil] at hj
  by_cases e : j < ps.length
  · rw [List.getD_eq_getElem?_getD, List.getElem?_append_left e, ← List.getD_eq_getElem?_getD]; exact h j e
  · obtain rfl : j = ps.length := by omega
    rw [List.getD_eq_getElem?_getD, List.getElem?_append_right (Nat.le_refl _), Nat.sub_self]; exact hu

/-- What SetKey tells, of values without a fault and a key that fits. -/
def setIn (v : List M.Cl) (key : ByteArray) (u : List M.Cl) : Int × List M.Cl := if (v.getD 0 M.zero).kind ≠ 0 ∧ (v.getD 0 M.zero).kind ≠ 6 then (6, []) else told (objV (keysAt v 0 ++ [key]) (subs v 0 ++ [u]))
def setOut (v : List M.Cl) (key : ByteArray) (u : List M.Cl) : Int × List M.Cl := if bothOut v u ≠ 0 then (bothOut v u, []) else if M.textOk key = true then setIn v key u else (5, [])
theorem set_bad {v : List M.Cl} {key : ByteArray} {u : List M.Cl} (h : bothOut v u ≠ 0) : setOut v key u = (bothOut v u, []) := if_pos h
theorem set_text {v : List M.Cl} {key : ByteArray} {u : List M.Cl} (h : bothOut v u = 0) (ht : M.textOk key = false) : setOut v key u = (5, []) := by unfold setOut; rw [if_neg (by simp [h]), if_neg (by simp [ht])]
theorem set_ok {v : List M.Cl} {key : ByteArray} {u : List M.Cl} (h : bothOut v u = 0) (ht : M.textOk key = true) : setOut v key u = setIn v key u := by unfold setOut; rw [if_neg (by simp [h]), if_pos ht]
theorem set_kind {v : List M.Cl} {key : ByteArray} {u : List M.Cl} (h0 : (v.getD 0 M.zero).kind ≠ 0) (h6 : (v.getD 0 M.zero).kind ≠ 6) : setIn v key u = (6, []) := if_pos ⟨h0, h6⟩
theorem set_some {v : List M.Cl} {key : ByteArray} {u : List M.Cl} (h : (v.getD 0 M.zero).kind = 0 ∨ (v.getD 0 M.zero).kind = 6) : setIn v key u = told (objV (keysAt v 0 ++ [key]) (subs v 0 ++ [u])) := if_neg fun g => by
  rcases h with h | h
  · exact g.1 h
  · exact g.2 h
theorem null_parts {v : List M.Cl} (hv : M.valueFault v = 0) (h : (v.getD 0 M.zero).kind ≠ 5) (h' : (v.getD 0 M.zero).kind ≠ 6) : keysAt v 0 = [] ∧ subs v 0 = [] := by
  have := arity_null hv h h'
  unfold keysAt subs M.places
  rw [this]
  exact ⟨rfl, rfl⟩
theorem app_string (key : ByteArray) : ∀ u ∈ ([Value.string key] : List Value), u.oneCell' = true := by
  intro u hu; simp only [List.mem_cons, List.not_mem_nil, or_false] at hu; subst hu; rfl

end Go.Proofs.YtcglddahphkcpaaGreatDoor

namespace Go.Proofs.YtcglddahphkcpaaGreatDoor
open Go.RowKit
set_option linter.unusedVariables false

theorem SS.one {w : World} {B : Nat} {v : Value} {ps : List (List M.Cl)} {ss : List Value} (hl : ss.length = ps.length) (hr : ∀ i, i < ps.length → Res w B (ss.getD i (.slice none 0 0)) (ps.getD i [])) : ∀ u ∈ ss, u.oneCell' = true := by
  intro u hu
  obtain ⟨i, hi, rfl⟩ := List.getElem_of_mem hu
  have := hr i (by omega)
  rw [List.getD_eq_getElem?_getD, List.getElem?_eq_getElem hi] at this
  obtain ⟨a, n, c, e⟩ := this.shape
  simp only [Option.getD_some] at e
  rw [e]; rfl
theorem told_str (s : ByteArray) : told [strCl s] = strOut s := by
  cases h : M.textOk s with
  | false =>
    have hne : s.toList ≠ [] := by
      intro e
      have hs : s = ByteArray.empty := bytes_ext (by rw [e, empty_toList])
      rw [hs] at h
      exact absurd h (by decide)
    have hc : M.cellCode (strCl s) = 5 := by
      unfold strCl M.cellCode
      simp only
      rw [if_neg (by omega), if_neg, if_neg (by omega), if_neg (by simp [h])]
      intro g
      rcases g with g | g | g
      · exact g.1 rfl
      · exact g.2 rfl
      · exact g.1 rfl
    have hf : M.valueFault [strCl s] = 5 := by unfold M.valueFault; rw [if_neg (by simp)]; simp [M.firstCode, hc]
    rw [str_bad h, told_bad (by rw [hf]; decide), hf]
  | true => rw [str_ok h, told_ok (one_valid (code_str h) empty_toList rfl).1]; rfl
theorem zero_valid : M.valueFault [M.zero] = 0 ∧ ∀ c ∈ [M.zero], c.ok := by
  refine ⟨(one_valid (c := M.zero) ?_ empty_toList rfl).1, fun c hc => ?_⟩
  · unfold M.zero M.cellCode
    simp only
    rw [if_neg (by omega), if_neg, if_neg (by omega), if_pos ⟨by decide, by decide⟩]
    intro g
    rcases g with g | g | g
    · exact g.1 rfl
    · exact g.1 empty_toList
    · exact g.1 rfl
  · simp only [List.mem_cons, List.not_mem_nil, or_false] at hc
    subst hc
    unfold M.zero M.Cl.ok
    simp only
    refine ⟨by omega, by omega, by omega, by decide, by decide⟩

end Go.Proofs.YtcglddahphkcpaaGreatDoor

namespace Go.Proofs.YtcglddahphkcpaaGreatDoor
open Go.RowKit
set_option linter.unusedVariables false

theorem l1ObjectB_any (a a' : Option Addr) (kc lc : Nat) (ks : List ByteArray) (ps : List (List M.Cl)) (w : World) (hK : TV w a ks) (hL : LV w a' ps) (hkc : ks.length ≤ kc) (hlc : ps.length ≤ lc) (hlen : ks.length = ps.length) (hn : ks.length ≤ 4096) (hv : ∀ j, j < ps.length → 1 ≤ (ps.getD j []).length) (ht : tot ps ps.length ≤ 1048570) :
    Calls Tryz.prog 136 #[.slice a ks.length kc, .slice a' ps.length lc] w fun e w' => ∃ s, e = .returned s ∧ Res w' w.heap.size s (objV ks ps) ∧ Below w.heap.size w w' := by
  refine (l1ObjectO_any a a' kc lc ks ps w hK hL hkc hlc hlen hn hv ht).mono ?_
  rintro e w' ⟨s, h1, h2, h3⟩
  exact ⟨s, h1, h2.res, h3⟩
theorem l1ObjectV_any (a a' : Option Addr) (kc lc : Nat) (ks : List ByteArray) (ps : List (List M.Cl)) (w : World) (hK : TV w a ks) (hL : LV w a' ps) (hkc : ks.length ≤ kc) (hlc : ps.length ≤ lc) (hlen : ks.length = ps.length) (hn : ks.length ≤ 4096) (hv : ∀ j, j < ps.length → M.valueFault (ps.getD j []) = 0) :
    Calls Tryz.prog 136 #[.slice a ks.length kc, .slice a' ps.length lc] w fun e w' => ∃ s, e = .returned s ∧ Res w' w.heap.size s (objV ks ps) ∧ Below w.heap.size w w' :=
  l1ObjectB_any a a' kc lc ks ps w hK hL hkc hlc hlen hn (fun j hj => (fault_len (hv j hj)).1) (by have := tot_small ps ps.length (Nat.le_refl _) (fun j hj => (fault_len (hv j hj)).2); omega)
end Go.Proofs.YtcglddahphkcpaaGreatDoor

namespace Go.Proofs.YtcglddahphkcpaaGreatDoor
open Go.RowKit
set_option linter.unusedVariables false

set_option maxRecDepth 100000 in
set_option maxHeartbeats 4000000 in
theorem specSetKey_any (v : List M.Cl) (b off cap : Nat) (key : ByteArray) (u : List M.Cl) (b' off' cap' : Nat) (w : World) (hrow : Row w b off v) (hb : b < w.heap.size) (hn : v.length ≤ 1048576) (hcap : v.length ≤ cap) (hok : ∀ c ∈ v, c.ok) (hrow' : Row w b' off' u) (hb' : b' < w.heap.size) (hn' : u.length ≤ 1048576) (hcap' : u.length ≤ cap') (hok' : ∀ c ∈ u, c.ok) (hk : key.size ≤ 9223372036854775807) :
    Calls Tryz.prog 75 #[.slice (some ⟨b, off, none⟩) v.length cap, .string key, .slice (some ⟨b', off', none⟩) u.length cap'] w (Ans w (setOut v key u)) := by
  have OK := hide hok
  have OK' := hide hok'
  have HT1 := hide (l1Text_any key)
  have B0 : ∀ o, Below w.heap.size w (w.alloc o) := fun o => (Below.refl _ _).alloc (Nat.le_refl _) o
  have HB0 := hide B0
  clear B0
  clear hok hok'
  go_enter Tryz.func75, Tryz.ntmps75
  go_wp2_with fail
  refine (l3Both_any v b off cap u b' off' cap' _ (hrow.below ((unhide HB0) _) hb) (by simp; omega) hn hcap (unhide OK) (hrow'.below ((unhide HB0) _) hb') (by simp; omega) hn' hcap' (unhide OK')).mono ?_
  rintro e1 w1 ⟨rfl, hb1⟩
  have hR : Own w1 w.heap.size 59 [.int .i64 0, .slice none 0 0] := Own.below ⟨_, heap_alloc_new _ _, rfl⟩ hb1 (by simp)
  have B1 : Below w.heap.size w w1 := ((unhide HB0) _).trans (hb1.mono (by simp))
  have hrow1 := hrow.below B1 hb
  have hb1' : b < w1.heap.size := Nat.lt_of_lt_of_le hb B1.size
  have hrow2 := hrow'.below B1 hb'
  have hb2' : b' < w1.heap.size := Nat.lt_of_lt_of_le hb' B1.size
  clear hb1
  generalize hq : bothOut v u = q
  by_cases hz : q = 0
  · subst hz
    obtain ⟨hv, hu⟩ := both_zero hq
    go_wp2_with fail
    refine ((unhide HT1) _ hk).mono ?_
    rintro e2 w1x ⟨rfl, hw1⟩
    have hw1y := hw1.symm
    clear hw1
    subst hw1y
    cases ht : M.textOk key with
    | false =>
      have fin := hide (set_text hq ht)
      clear ht hq
      go_wp2_with fail
      refine (l3Bad_any _ _).mono ?_
      rintro ec wc ⟨sc, rfl, hrc, hbc⟩
      have hRc := hR.below hbc hR.lt
      have r0 := hRc.cell 0
      have r1 := hRc.cell 1
      have z0 := hRc.frozen 0
      have z1 := hRc.frozen 1
      simp only [List.getElem?_cons_zero, List.getElem?_cons_succ] at r0 r1
      have HE := hide (Ans.store hrc B1 hR.lt hbc)
      obtain ⟨ac, mc, cc, rfl⟩ := hrc.shape
      clear hrc hbc
      go_wp2_with fail
      refine bodyPost_ret (v := .agg #[.int .i64 5, .slice ac mc cc]) (by simp [results, Tryz.results75, go_sem, r0, r1]) rfl (ans_of (unhide fin) ((unhide HE) _ _).1 ((unhide HE) _ _).2)
    | true =>
      have fin := hide (set_ok hq ht)
      have hl1 := (M.fault_zero hv).1
      obtain ⟨f0, _, _, _, _⟩ := hrow1 0 (by omega)
      simp only [Nat.zero_mul, Nat.add_zero] at f0
      by_cases k0 : (v.getD 0 M.zero).kind = 0
      · have fin2 := hide ((unhide fin).trans (set_some (.inl k0)))
        obtain ⟨hn1, hn2⟩ := null_parts hv (by rw [k0]; decide) (by rw [k0]; decide)
        rw [hn1, hn2, List.nil_append, List.nil_append] at fin2
        have HTV := hide (fun W => TV.one W W.heap.size key 9 rfl)
        have hom := obj_made (ks := [key]) (ps := [u]) rfl (by simp) (parts_snoc (P := fun p => M.valueFault p = 0) (ps := []) (fun j hj => by simp at hj) hu) (okS_one (unhide OK')) (texts_snoc (ks := []) (fun j hj => by simp at hj) ht)
        have HOM := hide hom
        have HVV := hide (parts_snoc (P := fun p => M.valueFault p = 0) (ps := []) (u := u) (fun j hj => by simp at hj) hu)
        have HG := hide (l1ObjectV_any (some ⟨w1.heap.size, 0, none⟩) (some ⟨w1.heap.size + 1, 0, none⟩) 1 1 [key] [u] ((w1.alloc (.cells #[.string key] 9)).alloc (.cells #[.slice (some ⟨b', off', none⟩) u.length cap'] 24)) ((TV.one w1 _ key 9 rfl).below ((Below.refl _ _).alloc (Nat.le_refl _) _)) (LV.one (w1.alloc (.cells #[.string key] 9)) (w1.heap.size + 1) b' off' cap' u 24 (by simp) (hrow2.below ((Below.refl _ _).alloc (Nat.le_refl _) _) hb2') (by simp; omega) hcap') (by simp) (by simp) rfl (by simp) (unhide HVV))
        simp only [List.length_cons, List.length_nil, Nat.zero_add] at HG
        have HRA := hide (fun o o' => (hR.alloc o).alloc o')
        have HBA := hide (fun o o' => (B1.alloc B1.size o).alloc (by have := B1.size; simp; omega) o')
        have hlt1 := hR.lt
        rw [k0] at f0
        clear k0 hv hu ht hq hom hn1 hn2 fin
        go_wp2_with fail
        refine (unhide HG).mono ?_
        rintro e6 w6 ⟨s6, rfl, hr6, hb6⟩
        have hR6 := ((unhide HRA) _ _).below hb6 (by simp; omega)
        have B6 : Below w.heap.size w w6 := ((unhide HBA) _ _).trans (hb6.mono (by have := B1.size; simp; omega))
        have HT := hide (specTold_any s6 _ _ w6 hr6 hb6.size (unhide HOM).1 (unhide HOM).2.1 (unhide HOM).2.2)
        obtain ⟨at6, mt6, ct6, rfl⟩ := hr6.shape
        clear hr6 hb6 f0
        generalize hR2 : told (objV [key] [u]) = R at *
        obtain ⟨rc, rl⟩ := R
        clear hR2
        go_wp2_with fail
        refine (unhide HT).mono ?_
        rintro e7 w7 ⟨s7, rfl, hr7, hb7⟩
        have hR7 := hR6.below hb7 hR6.lt
        have r0 := hR7.cell 0
        have r1 := hR7.cell 1
        have z0 := hR7.frozen 0
        have z1 := hR7.frozen 1
        simp only [List.getElem?_cons_zero, List.getElem?_cons_succ] at r0 r1
        have HE := hide (Ans.storeC hr7 (show w.heap.size < _ by simp; omega) (B6.trans (hb7.mono B6.size)))
        obtain ⟨ac, mc, cc, rfl⟩ := hr7.shape
        clear hr7 hb7 HT
        go_wp2_with fail
        refine bodyPost_ret (v := .agg #[.int .i64 rc, .slice ac mc cc]) (by simp [results, Tryz.results75, go_sem, r0, r1]) rfl (ans_of (unhide fin2) ((unhide HE) _ _).1 ((unhide HE) _ _).2)
      by_cases k6 : (v.getD 0 M.zero).kind = 6
      · have fin2 := hide ((unhide fin).trans (set_some (.inr k6)))
        rw [k6] at f0
        clear k6 k0 hq fin
        have HK := hide (l1Keys_any v b off cap w1 hv hrow1 hb1' hcap (unhide OK))
        have HPF := hide (fun w' (r : Row w' b off v) hb' => l1Parts_any v b off cap w' hv r hb' hcap (unhide OK))
        have hall := subs_all hv (unhide OK)
        have hom := obj_made (ks := keysAt v 0 ++ [key]) (ps := subs v 0 ++ [u]) (by simp [keysAt_length, subs_length]) (by have := hall.1; rw [subs_length] at this; simp [keysAt_length]; omega) (parts_snoc (P := fun p => M.valueFault p = 0) hall.2.1 hu) (parts_snoc (P := fun p => ∀ c ∈ p, c.ok) hall.2.2.1 (unhide OK')) (texts_snoc (keys_text hv) ht)
        have hvv := parts_snoc (P := fun p => M.valueFault p = 0) hall.2.1 hu
        have hlen : (keysAt v 0 ++ [key]).length = (subs v 0 ++ [u]).length ∧ (keysAt v 0 ++ [key]).length ≤ 4096 := ⟨by simp [keysAt_length, subs_length], by have := hall.1; rw [subs_length] at this; simp [keysAt_length]; omega⟩
        obtain ⟨KK, hKK⟩ : ∃ KK, KK = keysAt v 0 ++ [key] := ⟨_, rfl⟩
        obtain ⟨PP, hPP⟩ : ∃ PP, PP = subs v 0 ++ [u] := ⟨_, rfl⟩
        rw [← hKK, ← hPP] at hom hlen
        rw [← hPP] at hvv
        rw [← hKK, ← hPP] at fin2
        have HOM := hide hom
        have HVV := hide hvv
        have HLEN := hide hlen
        have HKK := hide hKK
        have HPP := hide hPP
        have hm200 : M.arity v 0 ≤ 200 := by have := hall.1; rwa [subs_length] at this
        have HNE := hide hall.2.2.2
        have HKL := hide (keysAt_length v 0)
        have HSL := hide (subs_length v 0)
        obtain ⟨i0, hi, hz0, hz1, hz2⟩ := info_parts Tryz.info24
        obtain ⟨t0, ht0, hy0, hy1, hy2⟩ := info_parts Tryz.info9
        clear hv hu ht hall hom hvv hlen hKK hPP
        go_wp2_with fail
        refine (unhide HK).mono ?_
        rintro e2 w2 ⟨s2, rfl, hk2, hb2⟩
        have hR2 := hR.below hb2 hR.lt
        have B2 : Below w.heap.size w w2 := B1.trans (hb2.mono B1.size)
        have hsz2 := hb2.size
        obtain ⟨ka2, kc2, rfl, _, _⟩ := hk2.tv
        have hkownk := hide (fun o => (KS.row (hk2) (unhide HKL)).alloc o)
        have hkbsek := hide (ownsRow_base (hk2))
        have hkonek := hide (one_val w2 (.string key) 9)
        have hkonepk := hide (app_string key)
        have hk63k : (M.arity v 0) + 1 ≤ maxLen := by unfold maxLen; omega
        have hkbyk : ((M.arity v 0) + 1) * 16 ≤ 140737488355328 := by omega
        go_wp2_with (at_builtin; refine wpList_append_own _ rfl (.tmp 34) (.tmp 36) 69 rfl (w1.heap.size) 9 t0 (.string ByteArray.empty) 1 16 Tryz.underlying69 ht0 hy0 hy1 hy2 rfl (by decide) _ (M.arity v 0) _ rfl ((unhide hkownk) _) ⟨w2.heap.size, 0, none⟩ 1 1 [.string key] rfl rfl (unhide hkonek) (unhide hkonepk) hk63k hkbyk (by simp; omega) ?_)
        intro kvk w3 hkok hkgk _
        have hk3 := hide (KS.snoc (unhide HKL) hkok)
        rw [← unhide HKK] at hk3
        have B3 : Below w1.heap.size w1 w3 := ((hb2.alloc hb2.size _).grown hkgk (by simp; omega) (unhide hkbsek))
        have hR3 := hR.below B3 hR.lt
        have B3' : Below w.heap.size w w3 := B1.trans (B3.mono B1.size)
        clear hb2 hkok hkgk hk2 hkownk hkonek HK hR2 B2
        obtain ⟨ka3, kc3, hka3, hkc3, htv3⟩ := (unhide hk3).tv
        subst hka3
        go_wp2_with fail
        refine ((unhide HPF) _ (hrow.below B3' hb) (Nat.lt_of_lt_of_le hb B3'.size)).mono ?_
        rintro e4 w4 ⟨s4, rfl, hs4, hb4⟩
        have hss4 : SS w4 w3.heap.size s4 (subs v 0) := hs4
        have hk4 := hide ((unhide hk3).below hb4)
        have B4 : Below w.heap.size w w4 := B3'.trans (hb4.mono B3'.size)
        have hR4 := hR3.below hb4 hR3.lt
        have hsz4 := hb4.size
        have hsz3 := B3'.size
        have hsz5 := B4.size
        have hbse4 := hide (fun (xs : List Value) (h : w4.ownsRow w3.heap.size 24 1 s4 (subs v 0).length xs) => ownsRow_base h)
        obtain ⟨ss4, hsl4, hown4, hres4⟩ := hss4
        have hrow4 := hrow'.below B4 hb'
        have hlk4 := unhide HSL
        have hown5 := hide (fun o => (hlk4 ▸ hown4 : World.ownsRow w4 w3.heap.size 24 1 _ (M.arity v 0) ss4).alloc o)
        have hbse5 := hide (ownsRow_base hown4)
        have hone5 := hide (one_val w4 (.slice (some ⟨b', off', none⟩) u.length cap') 24)
        have honep5 := hide (one_plain' (some ⟨b', off', none⟩) u.length cap')
        have hkg5 := hide (fun (w' : World) o hg => ((unhide hk4).alloc o).grown (w' := w') (hown4.alloc o) (by decide) hg)
        have hlv5 := hide (fun w' o v' hg ho hr hbb => SS.lvSnoc (w3 := w') (o := o) (v' := v') (u := u) (b := b') (off := off') (cap := cap') hlk4 hsl4 hown4 hres4 (unhide HNE) hg ho hr hbb hcap')
        have hb635 : M.arity v 0 + 1 ≤ maxLen := by unfold maxLen; omega
        have hby5 : (M.arity v 0 + 1) * 24 ≤ 140737488355328 := by omega
        obtain ⟨sa4, sn4, sc4, hsh4⟩ : ∃ x y z, s4 = Value.slice x y z := by
          rcases hown4.2 with ⟨h, _⟩ | ⟨_, _, _, h, _⟩
          · exact ⟨_, _, _, h⟩
          · exact ⟨_, _, _, h⟩
        subst hsh4
        clear hs4 hres4 hsl4 hown4 hlk4 hbse4 htv3 HPF B3' B3
        generalize hm : M.arity v 0 = m at *
        clear hm
        go_wp2_with (at_builtin; refine wpList_append_own _ rfl (.tmp 39) (.tmp 41) 28 rfl w3.heap.size 24 i0 (.slice none 0 0) 1 24 Tryz.underlying28 hi hz0 hz1 hz2 rfl (by decide) _ m ss4 rfl ((unhide hown5) _) ⟨w4.heap.size, 0, none⟩ 1 1 [.slice (some ⟨b', off', none⟩) u.length cap'] rfl rfl (unhide hone5) (unhide honep5) hb635 hby5 (by simp; omega) ?_)
        intro v5 w5 ho5 hg5 _
        have B5 : Below w3.heap.size w3 w5 := ((hb4.alloc hb4.size _).grown hg5 (by simp; omega) (unhide hbse5))
        have B5' : Below w.heap.size w w5 := (B4.alloc B4.size _).grown hg5 (by simp; omega) (fun k hk => by have := (unhide hbse5) k hk; omega)
        have hRx : Own w5 w.heap.size 59 [.int .i64 0, .slice none 0 0] := hR3.below B5 hR3.lt
        have hk5 := (unhide hkg5) _ _ hg5
        have h5 := (unhide hlv5) _ _ _ hg5 ho5 (hrow'.below B5' hb') (Nat.lt_of_lt_of_le hb' B5'.size)
        rw [← unhide HPP] at h5
        obtain ⟨la5, lc5, hla5, hlc5, hlv5'⟩ := h5
        obtain ⟨ka5, kc5, hka5, hkc5, htv5⟩ := hk5.tv
        cases hka5
        subst hla5
        clear ho5 hg5 hk5 hk4 hkg5 hlv5 hown5 hone5 hR4 B4 B5 hb4
        go_wp2_with fail
        refine (l1ObjectV_any _ _ _ _ KK PP _ htv5 hlv5' hkc5 hlc5 (unhide HLEN).1 (unhide HLEN).2 (unhide HVV)).mono ?_
        rintro e6 w6 ⟨s6, rfl, hr6, hb6⟩
        have hR6 := hRx.below hb6 hRx.lt
        have hlt5 := hRx.lt
        have B6 : Below w.heap.size w w6 := B5'.trans (hb6.mono B5'.size)
        have HT := hide (specTold_any s6 _ _ w6 hr6 hb6.size (unhide HOM).1 (unhide HOM).2.1 (unhide HOM).2.2)
        obtain ⟨at6, mt6, ct6, rfl⟩ := hr6.shape
        clear hr6 hb6 hlv5' htv5 hRx B5'
        generalize hR2 : told (objV KK PP) = R at *
        obtain ⟨rc, rl⟩ := R
        clear hR2
        go_wp2_with fail
        refine (unhide HT).mono ?_
        rintro e7 w7 ⟨s7, rfl, hr7, hb7⟩
        have hR7 := hR6.below hb7 hR6.lt
        have r0 := hR7.cell 0
        have r1 := hR7.cell 1
        have z0 := hR7.frozen 0
        have z1 := hR7.frozen 1
        simp only [List.getElem?_cons_zero, List.getElem?_cons_succ] at r0 r1
        have HE := hide (Ans.storeC hr7 hlt5 (B6.trans (hb7.mono B6.size)))
        obtain ⟨ac, mc, cc, rfl⟩ := hr7.shape
        clear hr7 hb7 HT
        go_wp2_with fail
        refine bodyPost_ret (v := .agg #[.int .i64 rc, .slice ac mc cc]) (by simp [results, Tryz.results75, go_sem, r0, r1]) rfl (ans_of (unhide fin2) ((unhide HE) _ _).1 ((unhide HE) _ _).2)
      · have fin2 := hide ((unhide fin).trans (set_kind k0 k6))
        generalize v.getD 0 M.zero = c at *
        have e0 : (c.kind == 0) = false := by simp [k0]
        have e6 : (c.kind == 6) = false := by simp [k6]
        clear k0 k6 fin hq ht hv hu
        go_wp2_with fail
        refine (l3Bad_any _ _).mono ?_
        rintro ec wc ⟨sc, rfl, hrc, hbc⟩
        have hRc := hR.below hbc hR.lt
        have r0 := hRc.cell 0
        have r1 := hRc.cell 1
        have z0 := hRc.frozen 0
        have z1 := hRc.frozen 1
        simp only [List.getElem?_cons_zero, List.getElem?_cons_succ] at r0 r1
        have HE := hide (Ans.store hrc B1 hR.lt hbc)
        obtain ⟨ac, mc, cc, rfl⟩ := hrc.shape
        clear hrc hbc
        go_wp2_with fail
        refine bodyPost_ret (v := .agg #[.int .i64 6, .slice ac mc cc]) (by simp [results, Tryz.results75, go_sem, r0, r1]) rfl (ans_of (unhide fin2) ((unhide HE) _ _).1 ((unhide HE) _ _).2)
  · have fin := hide ((set_bad (key := key) (by rw [hq]; exact hz)).trans (by rw [hq]))
    have hz' : (q == 0) = false := by simp [hz]
    clear hq
    go_wp2_with fail
    refine (l3Bad_any _ _).mono ?_
    rintro ec wc ⟨sc, rfl, hrc, hbc⟩
    have hRc := hR.below hbc hR.lt
    have r0 := hRc.cell 0
    have r1 := hRc.cell 1
    have z0 := hRc.frozen 0
    have z1 := hRc.frozen 1
    simp only [List.getElem?_cons_zero, List.getElem?_cons_succ] at r0 r1
    have HE := hide (Ans.store hrc B1 hR.lt hbc)
    obtain ⟨ac, mc, cc, rfl⟩ := hrc.shape
    clear hrc hbc
    go_wp2_with fail
    refine bodyPost_ret (v := .agg #[.int .i64 q, .slice ac mc cc]) (by simp [results, Tryz.results75, go_sem, r0, r1]) rfl (ans_of (unhide fin) ((unhide HE) _ _).1 ((unhide HE) _ _).2)

end Go.Proofs.YtcglddahphkcpaaGreatDoor
