/-
  Lists of lists of cells and lists of texts, wherever their slices lie: what those are told that read them.
  impl.layObject of texts and lists that lie anywhere.
  The parts of a value once more, with a bound on the capacities of the slices that are answered.
-/
import Derived.Test.YtcglddahphkcpaaGreatDoorU06
import Derived.Test.YtcglddahphkcpaaGreatDoorU08
import Derived.Test.YtcglddahphkcpaaGreatDoorU09
import Derived.Test.YtcglddahphkcpaaGreatDoorU10
import Derived.Test.YtcglddahphkcpaaGreatDoorU15
namespace Go.Proofs.YtcglddahphkcpaaGreatDoor
open Go.RowKit
set_option linter.unusedVariables false

/-- The slice from a on holds slices, the i-th of which holds the cells of the i-th list. -/
def LV (w : World) (a : Option Addr) (ps : List (List M.Cl)) : Prop :=
  ∀ i, i < ps.length → ∃ g b off c, a = some ⟨g, 0, none⟩ ∧ g < w.heap.size ∧ w.cell? ⟨g, i, none⟩ = some (.slice (some ⟨b, off, none⟩) (ps.getD i []).length c) ∧ (ps.getD i []).length ≤ c ∧ b < w.heap.size ∧ Row w b off (ps.getD i [])
theorem LV.below {w w' : World} {a : Option Addr} {ps : List (List M.Cl)} (h : LV w a ps) (hb : Below w.heap.size w w') : LV w' a ps := by
  intro i hi
  obtain ⟨g, b, off, c, rfl, h1, h2, h3, h4, h5⟩ := h i hi
  exact ⟨g, b, off, c, rfl, Nat.lt_of_lt_of_le h1 hb.size, (hb.cell h1).trans h2, h3, Nat.lt_of_lt_of_le h4 hb.size, h5.below hb h4⟩
/-- The slice from a on holds the texts. -/
def TV (w : World) (a : Option Addr) (ks : List ByteArray) : Prop := ∀ i, i < ks.length → ∃ g, a = some ⟨g, 0, none⟩ ∧ g < w.heap.size ∧ w.cell? ⟨g, i, none⟩ = some (.string (ks.getD i ByteArray.empty))
theorem row_at {w : World} {base g cap n : Nat} {e : TypeId} {cur : Array Value} {xs : List Value} {i : Nat} (hh : w.heap[g]? = some (.cells cur e (0, 0))) (ht : cur.toList.take (n * 1) = xs) (hi : i < n) : w.cell? ⟨g, i, none⟩ = xs[i]? := by
  rw [cell_of_row w g i cur e (0, 0) hh]
  have h3 : cur.toList[i]? = xs[i]? := by rw [← ht, List.getElem?_take, if_pos (by omega)]
  have h4 : cur[i]? = cur.toList[i]? := by simp
  rw [h4, h3]

theorem SS.lv {w : World} {B : Nat} {v : Value} {ps : List (List M.Cl)} (h : SS w B v ps) (hne : ∀ i, i < ps.length → ps.getD i [] ≠ []) : ∃ a c, v = .slice a ps.length c ∧ ps.length ≤ c ∧ LV w a ps := by
  obtain ⟨ss, hl, ho, hr⟩ := h
  obtain ⟨_, ⟨rfl, h0⟩ | ⟨g, cap, cur, rfl, hg, hh, hnc, hcm, hcs, ht⟩⟩ := ho
  · exact ⟨none, 0, by rw [h0], by omega, fun i hi => by omega⟩
  · refine ⟨_, cap, rfl, hnc, fun i hi => ?_⟩
    obtain ⟨b, c, e, hc, hO⟩ := res_any (hr i hi) (hne i hi)
    refine ⟨g, b, 0, c, rfl, (Array.getElem?_eq_some_iff.1 hh).1, ?_, hc, hO.lt, hO.row⟩
    rw [row_at (base := 0) (cap := 0) hh ht hi, List.getElem?_eq_getElem (by omega)]
    rw [List.getD_eq_getElem?_getD, List.getElem?_eq_getElem (by omega)] at e
    simp only [Option.getD_some] at e
    rw [e]
theorem KS.tv {w : World} {B : Nat} {v : Value} {ks : List ByteArray} (h : KS w B v ks) : ∃ a c, v = .slice a ks.length c ∧ ks.length ≤ c ∧ TV w a ks := by
  obtain ⟨_, ⟨rfl, h0⟩ | ⟨g, cap, cur, rfl, hg, hh, hnc, hcm, hcs, ht⟩⟩ := h
  · exact ⟨none, 0, by rw [h0], by omega, fun i hi => by omega⟩
  · refine ⟨_, cap, rfl, hnc, fun i hi => ⟨g, rfl, (Array.getElem?_eq_some_iff.1 hh).1, ?_⟩⟩
    rw [row_at (base := 0) (cap := 0) hh ht hi, List.getElem?_map, List.getElem?_eq_getElem hi, List.getD_eq_getElem?_getD, List.getElem?_eq_getElem hi]
    rfl

/-- What a part of a value without a fault is. -/
theorem subs_all {v : List M.Cl} (hv : M.valueFault v = 0) (hok : ∀ c ∈ v, c.ok) : (subs v 0).length ≤ 200 ∧ (∀ j, j < (subs v 0).length → M.valueFault ((subs v 0).getD j []) = 0) ∧ OkS (subs v 0) ∧ ∀ j, j < (subs v 0).length → (subs v 0).getD j [] ≠ [] := by
  have hl := (M.fault_zero hv).1
  have hmem : ∀ j, j < (subs v 0).length → (subs v 0).getD j [] ∈ subs v 0 := fun j hj => by
    rw [List.getD_eq_getElem?_getD, List.getElem?_eq_getElem hj]; exact List.getElem_mem hj
  have h1 : ∀ j, j < (subs v 0).length → M.valueFault ((subs v 0).getD j []) = 0 := fun j hj => (subs_ok hv hok (by omega) _ (hmem j hj)).1
  refine ⟨by rw [subs_length]; exact (M.places_in hv 0 (by omega)).2.2.2, h1, fun j hj => (subs_ok hv hok (by omega) _ (hmem j hj)).2.2, fun j hj e => ?_⟩
  have := (fault_len (h1 j hj)).1
  rw [e] at this
  simp at this

set_option maxHeartbeats 1000000 in
theorem firstFaultV_any (a : Option Addr) (cap : Nat) (ps : List (List M.Cl)) (w : World) (hL : LV w a ps) (hcap : ps.length ≤ cap) (hn : ps.length ≤ 1048576) (hln : ∀ j, j < ps.length → (ps.getD j []).length ≤ 1048576) (hok : OkS ps) :
    Calls Tryz.prog 200 #[.slice a ps.length cap] w fun e w' => e = .returned (.int .i64 (firstBad ps)) ∧ Below w.heap.size w w' := by
  have HL := hide hL
  have OK := hide hok
  have HN := hide hln
  clear hL hok hln
  go_enter Tryz.func200, Tryz.ntmps200
  go_wp2_with fail
  go_loopg [8] ps.length (fun gh s8 wr => ∃ k : Nat, Hid (gh = ps.length - k) ∧ s8 = .int .i64 k ∧ k ≤ ps.length ∧ Hid (∀ j, j < k → M.valueFault (ps.getD j []) = 0) ∧ Below w.heap.size w wr)
  case atStart => exact ⟨0, rfl, rfl, by omega, fun j hj => absurd hj (by omega), Below.refl _ _⟩
  case round =>
    obtain ⟨k, hg, rfl, hk, hall, hbel⟩ := hrel
    by_cases hlt : k < ps.length
    · obtain ⟨g, b, off, c, rfl, hgl, f0, hc, hb, hr⟩ := ((unhide HL).below hbel) k hlt
      have hq := (unhide HN) k hlt
      have hok := hide ((unhide OK) k hlt)
      have hhit := hide (fun hz => firstBad_hit ps k hall.out hlt hz)
      have hnext := hide (fun (h0 : M.valueFault (ps.getD k []) = 0) j (hj : j < k + 1) => show M.valueFault (ps.getD j []) = 0 by
        by_cases e : j = k
        · subst e; exact h0
        · exact hall.out j (by omega))
      generalize ps.getD k [] = p at *
      go_wp2_with fail
      refine (implFault_any p b off c _ hr hb hq hc (unhide hok)).mono ?_
      rintro e1 w1 ⟨rfl, hb1⟩
      have B1 : Below w.heap.size w w1 := hbel.trans (hb1.mono hbel.size)
      clear hr f0 hok hb1 hbel
      generalize hqq : M.valueFault p = q at *
      by_cases hz : q = 0
      · subst hz
        have hn2 := hide ((unhide hnext) rfl)
        clear hhit hnext
        go_wp2_with fail
        go_roundg (ps.length - (k + 1))
        case rel => exact ⟨k + 1, rfl, by go_num, by omega, unhide hn2, B1⟩
        case measure => have := hg.out; omega
      · have fin := hide ((unhide hhit) hz)
        have hz' : (q == 0) = false := by simp [hz]
        clear hhit hnext hqq
        go_wp2_with fail
        go_ret
        exact ⟨ret_int (unhide fin).symm, B1⟩
    · have hke : k = ps.length := by omega
      have fin := hide (firstBad_none ps (by rw [← hke]; exact hall.out))
      clear hke
      go_wp2_with fail
      go_ret
      exact ⟨ret_int (unhide fin).symm, hbel⟩

end Go.Proofs.YtcglddahphkcpaaGreatDoor

namespace Go.Proofs.YtcglddahphkcpaaGreatDoor
open Go.RowKit
set_option linter.unusedVariables false

set_option maxRecDepth 100000 in
set_option maxHeartbeats 2000000 in
theorem layObjectW_any (kq kc : Nat) (a' : Option Addr) (lc : Nat) (ks : List ByteArray) (ps : List (List M.Cl)) (w : World) (hklt : kq < w.heap.size) (hK : ∀ i, i < ks.length → w.cell? ⟨kq, i, none⟩ = some (.string (ks.getD i ByteArray.empty))) (hL : LV w a' ps) (hkc : ks.length ≤ kc) (hlc : ps.length ≤ lc) (hlen : ks.length = ps.length) (hn : ks.length ≤ 4096) (hv : ∀ j, j < ps.length → M.valueFault (ps.getD j []) = 0) :
    Calls Tryz.prog 203 #[.slice (some ⟨kq, 0, none⟩) ks.length kc, .slice a' ps.length lc] w fun e w' => ∃ s, e = .returned s ∧ Res w' w.heap.size s (objV ks ps) ∧ Below w.heap.size w w' := by
  have HK := hide hK
  have HL := hide hL
  have HV := hide hv
  have hle1 : ks.length ≤ ps.length := by omega
  have hle2 : ps.length ≤ ks.length := by omega
  clear hK hL hv hlen
  go_enter Tryz.func203, Tryz.ntmps203
  go_wp2_with fail
  refine (standing_any kq kc ks _ hklt (unhide HK) (by omega) hkc).mono ?_
  rintro e1 w1 ⟨s1, rfl, ho1, hb1⟩
  have hst := hide (St.stand_lt ks ks.length)
  have hsl := St.stand_length ks ks.length
  have hL200 := hide (show ∀ p ∈ St.stand ks ks.length, (ps.getD p []).length ≤ 200 from fun p hp => (fault_len ((unhide HV) p (by have := (unhide hst) p hp; omega))).2)
  have hfin := hide (show objV ks ps = objK ks ps (St.stand ks ks.length) (St.stand ks ks.length).length from rfl)
  generalize St.stand ks ks.length = L at *
  have hel : ∃ a c, s1 = .slice a L.length c ∧ ∀ i, i < L.length → ∃ b, a = some ⟨b, 0, none⟩ ∧ b < w1.heap.size ∧ w1.cell? ⟨b, i, none⟩ = some (.int .i64 (L.getD i 0 : Nat)) := by
    obtain ⟨_, ⟨rfl, h0⟩ | ⟨g, cap, cur, rfl, hg, hh, hnc, hcm, hcs, ht⟩⟩ := ho1
    · exact ⟨_, _, by rw [h0], fun i hi => by omega⟩
    · refine ⟨_, _, rfl, fun i hi => ⟨g, rfl, (Array.getElem?_eq_some_iff.1 hh).1, ?_⟩⟩
      rw [cell_of_row w1 g i cur 3 (0, 0) hh]
      have h3 : cur.toList[i]? = (natV L)[i]? := by rw [← ht, List.getElem?_take, if_pos (by omega)]
      have h4 : cur[i]? = cur.toList[i]? := by simp
      rw [h4, h3, natV_get L i hi]
  obtain ⟨sa, sc, rfl, hel⟩ := hel
  have HEL := hide hel
  clear hel ho1
  go_wp2_with fail
  go_loopg [6, 17] L.length (fun gh s6 s17 wr => ∃ k : Nat, Hid (gh = L.length - k) ∧ s17 = .int .i64 k ∧ k ≤ L.length ∧ wr.ownsRow w1.heap.size 111 5 s6 (objK ks ps L k).length (flat (objK ks ps L k)) ∧ Below w1.heap.size w1 wr)
  case atStart => exact ⟨0, rfl, rfl, by omega, one_own w1 w1.heap.size _ (headCl 6 L.length) rfl (Nat.le_refl _), (Below.refl _ _).alloc (Nat.le_refl _) _⟩
  case round =>
    obtain ⟨k, hg, rfl, hk, hown, hbel⟩ := hrel
    have BR : Below w.heap.size w wr := hb1.trans (hbel.mono hb1.size)
    by_cases hlt : k < L.length
    · obtain ⟨pb, rfl, hpb, hpc⟩ := (unhide HEL) k hlt
      have hpc2 := (hbel.cell (p := ⟨pb, k, none⟩) hpb).trans hpc
      have hmem : L.getD k 0 ∈ L := by rw [List.getD_eq_getElem?_getD, List.getElem?_eq_getElem hlt]; exact List.getElem_mem _
      have hx := (unhide hst) _ hmem
      have hsucc := hide (objK_succ ks ps L k hlt)
      have hol := objK_length ks ps L (unhide hL200) k hk
      obtain ⟨x, hxe⟩ : ∃ x, x = L.getD k 0 := ⟨_, rfl⟩
      rw [← hxe] at hpc2 hx hsucc
      clear hxe hmem hpc
      obtain ⟨gl, b, off, c, rfl, hgl, f0, hcc, hb, hr⟩ := ((unhide HL).below BR) x (by omega)
      have hp := fault_len ((unhide HV) x (by omega))
      have hpn : ps.getD x [] ≠ [] := by intro e; rw [e] at hp; simp at hp
      have hkey := (BR.cell (p := ⟨kq, x, none⟩) hklt).trans ((unhide HK) x hx)
      have hxz : (x : Int) < (ks.length : Int) := by omega
      have hxz2 : (x : Int) < (ps.length : Int) := by omega
      generalize ks.getD x ByteArray.empty = key at *
      have HAP := hide (appendPart_any w1.heap.size u6 (objK ks ps L k) (ps.getD x []) b off c key wr.drew hown hr hpn (by omega) hbel.size)
      rw [← unhide hsucc] at HAP
      clear hown hr hpn hsucc
      generalize ps.getD x [] = p at *
      go_wp2_with fail
      go_region_with (go_at_call 157; refine (unhide HAP).mono ?_; rintro e2 w2 ⟨v', rfl, ho2, hb2⟩)
      all_goals
        have B2 : Below w1.heap.size w1 w2 := hbel.drew.trans hb2
        have HO2 := hide ho2
        clear ho2 hb2 f0 HAP hkey
        go_wp2_with fail
        go_roundg (L.length - (k + 1))
        case rel => exact ⟨k + 1, rfl, by go_num, by omega, unhide HO2, B2⟩
        case measure => have := hg.out; omega
    · have hke : k = L.length := by omega
      subst hke
      have hol := objK_length ks ps L (unhide hL200) L.length (Nat.le_refl _)
      have fin := hide (show Res wr w.heap.size u6 (objV ks ps) by rw [unhide hfin]; exact (res_of_owns hown (by omega)).mono hb1.size)
      clear hown
      go_wp2_with fail
      go_ret
      exact ⟨_, rfl, unhide fin, BR⟩

set_option maxHeartbeats 1000000 in
theorem standing_none (a : Option Addr) (kc : Nat) (w : World) :
    Calls Tryz.prog 218 #[.slice a 0 kc] w fun e w' => e = .returned (.slice none 0 0) ∧ Below w.heap.size w w' := by
  go_enter Tryz.func218, Tryz.ntmps218
  go_wp2_with fail
  refine wp_loop_rounds 1 ?_
  rw [rounds_succ]
  go_wp2_with fail
  refine (sortStable_none _ _).mono ?_
  rintro r w2 ⟨rfl, rfl⟩
  go_wp2_with fail
  refine wp_loop_rounds 1 ?_
  rw [rounds_succ]
  go_wp2_with fail
  go_ret
  exact ⟨rfl, (Below.refl _ _).alloc (Nat.le_refl _) _⟩
theorem objV_nil' : objV [] [] = [headCl 6 0] := rfl
set_option maxHeartbeats 1000000 in
theorem layObject_none (a a' : Option Addr) (kc lc : Nat) (w : World) :
    Calls Tryz.prog 203 #[.slice a 0 kc, .slice a' 0 lc] w fun e w' => ∃ s, e = .returned s ∧ Res w' w.heap.size s (objV [] []) ∧ Below w.heap.size w w' := by
  go_enter Tryz.func203, Tryz.ntmps203
  go_wp2_with fail
  refine (standing_none _ _ _).mono ?_
  rintro e1 w1 ⟨rfl, hb1⟩
  go_wp2_with fail
  refine wp_loop_rounds 1 ?_
  rw [rounds_succ]
  go_wp2_with fail
  go_ret
  refine ⟨_, rfl, ?_, ?_⟩
  · rw [objV_nil']; exact res_of_owns (one_own w1 w.heap.size _ (headCl 6 0) rfl hb1.size) (by simp)
  · exact hb1.alloc hb1.size _

theorem layObjectV_any (a a' : Option Addr) (kc lc : Nat) (ks : List ByteArray) (ps : List (List M.Cl)) (w : World) (hK : TV w a ks) (hL : LV w a' ps) (hkc : ks.length ≤ kc) (hlc : ps.length ≤ lc) (hlen : ks.length = ps.length) (hn : ks.length ≤ 4096) (hv : ∀ j, j < ps.length → M.valueFault (ps.getD j []) = 0) :
    Calls Tryz.prog 203 #[.slice a ks.length kc, .slice a' ps.length lc] w fun e w' => ∃ s, e = .returned s ∧ Res w' w.heap.size s (objV ks ps) ∧ Below w.heap.size w w' := by
  by_cases h0 : ks.length = 0
  · have h1 : ks = [] := List.length_eq_zero_iff.1 h0
    have h2 : ps = [] := List.length_eq_zero_iff.1 (by omega)
    subst h1 h2
    exact layObject_none a a' kc lc w
  · obtain ⟨g, rfl, hg, _⟩ := hK 0 (by omega)
    refine layObjectW_any g kc a' lc ks ps w hg (fun i hi => ?_) hL hkc hlc hlen hn hv
    obtain ⟨k, e, _, hk⟩ := hK i hi
    cases e
    exact hk
end Go.Proofs.YtcglddahphkcpaaGreatDoor

namespace Go.Proofs.YtcglddahphkcpaaGreatDoor
open Go.RowKit
set_option linter.unusedVariables false

/-- A list of cells in a block of its own, as Res says, of a capacity that a slice can have. -/
def RC (w : World) (B : Nat) (s : Value) (l : List M.Cl) : Prop := Res w B s l ∧ ∀ a n c, s = .slice a n c → c ≤ 9223372036854775807
theorem RC.below {w w' : World} {B : Nat} {s : Value} {l : List M.Cl} (h : RC w B s l) (hb : Below w.heap.size w w') : RC w' B s l := ⟨h.1.below hb, h.2⟩
theorem RC.alloc {w : World} {B : Nat} {s : Value} {l : List M.Cl} (h : RC w B s l) (o : Obj) : RC (w.alloc o) B s l := ⟨h.1.alloc o, h.2⟩
theorem RC.mono {w : World} {B B' : Nat} {s : Value} {l : List M.Cl} (h : RC w B s l) (hB : B' ≤ B) : RC w B' s l := ⟨h.1.mono hB, h.2⟩
theorem RC.base {w : World} {B : Nat} {s : Value} {l : List M.Cl} (h : RC w B s l) : ∀ b, s.ownBlock = some b → B ≤ b := h.1.base
theorem RC.lt {w : World} {B : Nat} {s : Value} {l : List M.Cl} (h : RC w B s l) : ∀ b, s.ownBlock = some b → b < w.heap.size := h.1.lt
theorem RC.shape {w : World} {B : Nat} {s : Value} {l : List M.Cl} (h : RC w B s l) : ∃ a n cap, s = .slice a n cap := h.1.shape
theorem rc_of_owns {w : World} {B : Nat} {v : Value} {l : List M.Cl} (h : w.ownsRow B 111 5 v l.length (flat l)) (hn : l.length ≤ 1048576) : RC w B v l := by
  refine ⟨res_of_owns h hn, fun a n c e => ?_⟩
  obtain ⟨h1, ⟨rfl, h2⟩ | ⟨g, cap, cur, rfl, hg, hh, hnc, hcm, hcs, ht⟩⟩ := h
  · injection e with _ _ e; omega
  · injection e with _ _ e; unfold maxLen at hcm; omega
theorem grown_rc {w w' : World} {base : Nat} {e : TypeId} {size : Nat} {v : Value} {n : Nat} {xs : List Value} (h : w.ownsRow base e size v n xs) (hg : w.grownBy w' v.ownBlock) {B : Nat} {s : Value} {l : List M.Cl} (hr : RC w B s l) (hne : e ≠ 111) : RC w' B s l := ⟨grown_res h hg hr.1 hne, hr.2⟩
theorem RC.any {w : World} {B : Nat} {s : Value} {l : List M.Cl} (h : RC w B s l) (hl : l ≠ []) : ∃ b cap, s = .slice (some ⟨b, 0, none⟩) l.length cap ∧ l.length ≤ cap ∧ cap ≤ 9223372036854775807 ∧ OwnG w b 111 l := by
  obtain ⟨b, cap, e, h1, h2⟩ := res_any h.1 hl
  exact ⟨b, cap, e, h1, h.2 _ _ _ e, h2⟩

/-- A row of slices as SD says, their capacities bounded. -/
def SC (w : World) (B : Nat) (v : Value) (ps : List (List M.Cl)) : Prop :=
  ∃ ss : List Value, ss.length = ps.length ∧ w.ownsRow B 24 1 v ps.length ss ∧ (∀ i, i < ps.length → RC w B (ss.getD i (.slice none 0 0)) (ps.getD i [])) ∧ ∀ i j, i < j → j < ps.length → ∀ b, (ss.getD i (.slice none 0 0)).ownBlock = some b → (ss.getD j (.slice none 0 0)).ownBlock ≠ some b
/-- What a reader of the row is told. -/
theorem SC.at {w : World} {B : Nat} {v : Value} {ps : List (List M.Cl)} (h : SC w B v ps) (hps : ps ≠ []) : ∃ g cap, v = .slice (some ⟨g, 0, none⟩) ps.length cap ∧ ps.length ≤ cap ∧ cap ≤ 9223372036854775807 ∧ g < w.heap.size ∧ ∀ i, i < ps.length → ∃ s, w.cell? ⟨g, i, none⟩ = some s ∧ RC w B s (ps.getD i []) := by
  obtain ⟨ss, hl, ho, hr, _⟩ := h
  obtain ⟨_, ⟨rfl, h0⟩ | ⟨g, cap, cur, rfl, hg, hh, hnc, hcm, hcs, ht⟩⟩ := ho
  · exact absurd (List.length_eq_zero_iff.1 h0) hps
  · refine ⟨g, cap, rfl, hnc, by unfold maxLen at hcm; omega, (Array.getElem?_eq_some_iff.1 hh).1, fun i hi => ⟨ss.getD i (.slice none 0 0), ?_, hr i hi⟩⟩
    rw [row_at (base := 0) (cap := 0) hh ht hi, List.getElem?_eq_getElem (by omega), List.getD_eq_getElem?_getD, List.getElem?_eq_getElem (by omega)]
    rfl

set_option maxHeartbeats 1000000 in
theorem partOf_rc (v : List M.Cl) (b off cap a : Nat) (w : World) (hv : M.valueFault v = 0) (ha : a < v.length) (hrow : Row w b off v) (hb : b < w.heap.size) (hcap : v.length ≤ cap) :
    Calls Tryz.prog 102 #[.slice (some ⟨b, off, none⟩) v.length cap, .int .i64 a] w fun e w' => ∃ s, e = .returned s ∧ RC w' w.heap.size s (part v a) ∧ Below w.heap.size w w' := by
  have hl := (M.fault_zero hv).2.1
  obtain ⟨d, _, h2, h3, h4⟩ := M.endOf_spec hv a (by omega)
  have HV := hide hv
  clear hv
  go_enter Tryz.func102, Tryz.ntmps102
  go_wp2_with fail
  refine (endOf_any v b off cap a _ (unhide HV) (by omega) hrow hb hcap).mono ?_
  rintro e2 w2 ⟨rfl, hw2⟩
  subst hw2
  have HP := hide (show part v a = setKey (cut v a (M.endOf v a)) ByteArray.empty from rfl)
  generalize hz : M.endOf v a = z at *
  have hcl := cut_length v a z h3
  have hne : cut v a z ≠ [] := by intro h; rw [h] at hcl; simp at hcl; omega
  have HCL := hide hcl
  clear hcl
  have HAP := hide (appendPart_any w2.heap.size (.slice none 0 0) [] (cut v a z) b (off + a * 5) (cap - a) ByteArray.empty w2 (World.ownsRow_nil _ _ _ _) (hrow.cut a z h3) hne (by rw [unhide HCL]; simp; omega) (Nat.le_refl _))
  rw [unhide HCL] at HAP
  clear hz
  go_wp2_with fail
  refine (unhide HAP).mono ?_
  rintro e3 w3 ⟨s, rfl, ho3, hb2⟩
  simp only [List.nil_append] at ho3
  have hr2 := rc_of_owns ho3 (by rw [setKey_length, unhide HCL]; omega)
  rw [← unhide HP] at hr2
  clear ho3 HAP
  have HR2 := hide hr2
  clear hr2
  go_wp2_with fail
  go_ret
  exact ⟨_, rfl, unhide HR2, hb2⟩

set_option maxRecDepth 100000 in
set_option maxHeartbeats 2000000 in
theorem partsOf_rc (v : List M.Cl) (b off cap : Nat) (w : World) (hv : M.valueFault v = 0) (hrow : Row w b off v) (hb : b < w.heap.size) (hcap : v.length ≤ cap) :
    Calls Tryz.prog 78 #[.slice (some ⟨b, off, none⟩) v.length cap] w fun e w' => ∃ s, e = .returned s ∧ SC w' w.heap.size s (subs v 0) ∧ Below w.heap.size w w' := by
  have hl1 := (M.fault_zero hv).1
  have hl2 := (M.fault_zero hv).2.1
  have hin := M.places_in hv 0 (by omega)
  have HIN := hide hin.1
  have hend := hide hin.2.2.1
  have hA := hin.2.2.2
  have HC := hide (fun w' (r : Row w' b off v) hb' => childPlaces_any v b off cap 0 w' hv (by omega) r hb' hcap)
  have HPT := hide (fun a (ha : a < v.length) w' (r : Row w' b off v) hb' => partOf_rc v b off cap a w' hv ha r hb' hcap)
  have hall := hide (firstS_all v)
  clear hin
  generalize hm : M.arity v 0 = m at *
  clear hm
  have HV := hide hv
  clear hv
  obtain ⟨i0, hi, hz0, hz1, hz2⟩ := info_parts Tryz.info24
  go_enter Tryz.func78, Tryz.ntmps78
  go_wp2_with fail
  refine ((unhide HC) _ hrow hb).mono ?_
  rintro e w1 ⟨sa, rfl, hra, hb1⟩
  have hO : w1.ownsRow w.heap.size 24 1 (.slice none 0 0) 0 [] := World.ownsRow_nil _ _ _ _
  have B1 : Below w.heap.size w w1 := hb1
  clear hb1
  obtain ⟨_, ⟨rfl, hnil⟩ | ⟨ba, ca, rfl, _, hca, hoa⟩⟩ := hra
  · have hm0 : m = 0 := by have := congrArg List.length hnil; rwa [firstPl_length] at this
    subst hm0
    have fin := hide (unhide hall)
    go_wp2_with fail
    refine wp_loop_rounds 1 ?_
    rw [rounds_succ]
    go_wp2_with fail
    go_ret
    exact ⟨_, rfl, by rw [← unhide fin]; exact ⟨[], rfl, hO, fun i hi => by simp [firstS] at hi, fun i j h1 h2 => by simp [firstS] at h2⟩, B1⟩
  · rw [firstPl_length] at hca ⊢
    go_wp2_with fail
    go_loopg [3, 9] m (fun g s3 s9 wr => ∃ (k : Nat) (ss : List Value), Hid (g = m - k) ∧ s9 = .int .i64 k ∧ k ≤ m ∧ wr.ownsRow w.heap.size 24 1 s3 k ss ∧ Hid (ss.length = k) ∧ Hid (∀ j, j < k → RC wr w.heap.size (ss.getD j (.slice none 0 0)) (part v (M.iter v j 1))) ∧ Hid (∀ i j, i < j → j < k → ∀ b, (ss.getD i (.slice none 0 0)).ownBlock = some b → (ss.getD j (.slice none 0 0)).ownBlock ≠ some b) ∧ OwnI wr ba (firstPl v 0 m) ∧ Below w.heap.size w wr)
    case atStart => exact ⟨0, [], rfl, rfl, by omega, hO, rfl, fun j hj => absurd hj (by omega), fun i j h1 h2 => absurd h2 (by omega), hoa, B1⟩
    case round =>
      clear hO hoa B1
      obtain ⟨k, ss, hg, rfl, hk, hown, hsl, hres, hdis, hoi, hbel⟩ := hrel
      by_cases hlt : k < m
      · have h1 := (unhide HIN) k hlt
        have h2 := unhide hend
        have fa := hoi.cell (i := k) (by rw [firstPl_length]; exact hlt)
        rw [firstPl_getD v 0 m k hlt] at fa
        simp only [Nat.zero_add] at fa h1
        have hp : M.iter v k 1 < v.length := by omega
        clear h1 h2
        obtain ⟨p, hpp⟩ : ∃ p, p = M.iter v k 1 := ⟨_, rfl⟩
        rw [← hpp] at fa hp
        have HPP := hide hpp
        clear hpp
        have hbr : b < wr.heap.size := Nat.lt_of_lt_of_le hb hbel.size
        go_wp2_with fail
        refine ((unhide HPT) p hp _ (hrow.below hbel hb) hbr).mono ?_
        rintro e w2 ⟨sp, rfl, hrp, hb2⟩
        have B2 : Below w.heap.size w w2 := hbel.trans (hb2.mono hbel.size)
        have hown2 := ownsRow_below (B := 0) hown hb2
        have hoi2 := hoi.below hb2 hoi.lt
        have hres2 := hide (fun j (hj : j < k) => (hres.out j hj).below hb2)
        have hrp2 : RC w2 w.heap.size sp (part v p) := hrp.mono hbel.size
        have hnew := hide (show ∀ j, j < k → ∀ b, (ss.getD j (.slice none 0 0)).ownBlock = some b → sp.ownBlock ≠ some b from fun j hj b h1 h2 => by have := (hres.out j hj).lt b h1; have := hrp.base b h2; omega)
        clear hown hoi hres hb2 hbel hrp fa
        obtain ⟨pa, pn, pc, hsp⟩ := hrp2.shape
        have HRP := hide hrp2
        clear hrp2
        have hnb := hide (other_block hown2 hoi2.choose_spec.1 (by decide))
        have hkeep := hide (fun (w' : World) o (hg' : (w2.alloc o).grownBy w' _) (s : Value) (l : List M.Cl) (h : RC w2 w.heap.size s l) => grown_rc (hown2.alloc o) hg' (h.alloc o) (by decide))
        have hown3 := hide (fun o => hown2.alloc o)
        have hbse := hide (ownsRow_base hown2)
        have hone := hide (one_val w2 sp 24)
        have honep := hide (show ∀ u ∈ ([sp] : List Value), u.oneCell' = true by intro u hu; simp only [List.mem_cons, List.not_mem_nil, or_false] at hu; subst hu; rw [hsp]; rfl)
        have hb63 : k + 1 ≤ maxLen := by unfold maxLen; omega
        have hby : (k + 1) * 24 ≤ 140737488355328 := by omega
        have hbase : w.heap.size ≤ w2.heap.size + 1 := by have := B2.size; omega
        have HOI := hide hoi2
        clear hown2 hoi2
        subst hsp
        go_wp2_with (at_builtin; refine wpList_append_own _ rfl (.tmp 13) (.tmp 17) 28 rfl w.heap.size 24 i0 (.slice none 0 0) 1 24 Tryz.underlying28 hi hz0 hz1 hz2 rfl (by decide) _ k ss rfl ((unhide hown3) _) ⟨w2.heap.size, 0, none⟩ 1 1 [.slice pa pn pc] rfl rfl (unhide hone) (unhide honep) hb63 hby (by simpa using hbase) ?_)
        intro v' w3 ho3 hg3 _
        have B3 : Below w.heap.size w w3 := (B2.alloc B2.size _).grown hg3 (by simpa using hbase) (unhide hbse)
        have hoi3 : OwnI w3 ba (firstPl v 0 m) := by
          obtain ⟨ys, y1, y2⟩ := unhide HOI
          exact ⟨ys, grown_own hg3 (y1.alloc _) (unhide hnb), y2⟩
        have hres3 := hide (show ∀ j, j < k + 1 → RC w3 w.heap.size ((ss ++ [Value.slice pa pn pc]).getD j (.slice none 0 0)) (part v (M.iter v j 1)) by
          intro j hj
          have hl := hsl.out
          by_cases e : j = k
          · subst e
            rw [← unhide HPP, List.getD_eq_getElem?_getD, List.getElem?_append_right (by omega), hl, Nat.sub_self]
            exact (unhide hkeep) _ _ hg3 _ _ (unhide HRP)
          · rw [List.getD_eq_getElem?_getD, List.getElem?_append_left (by omega), ← List.getD_eq_getElem?_getD]
            exact (unhide hkeep) _ _ hg3 _ _ ((unhide hres2) j (by omega)))
        have hdis3 := hide (show ∀ i j, i < j → j < k + 1 → ∀ b, ((ss ++ [Value.slice pa pn pc]).getD i (.slice none 0 0)).ownBlock = some b → ((ss ++ [Value.slice pa pn pc]).getD j (.slice none 0 0)).ownBlock ≠ some b by
          intro i j h1 h2 b
          have hl := hsl.out
          rw [List.getD_eq_getElem?_getD, List.getElem?_append_left (by omega), ← List.getD_eq_getElem?_getD]
          by_cases e : j = k
          · rw [List.getD_eq_getElem?_getD (l := ss ++ _), List.getElem?_append_right (by omega), show j - ss.length = 0 from by omega]
            exact (unhide hnew) i (by omega) b
          · rw [List.getD_eq_getElem?_getD (l := ss ++ _), List.getElem?_append_left (by omega), ← List.getD_eq_getElem?_getD]
            exact hdis.out i j h1 (by omega) b)
        have HO3 := hide ho3
        clear ho3 hg3 B2
        go_wp2_with fail
        go_roundg (m - (k + 1))
        case rel => exact ⟨k + 1, _, rfl, by go_num, by omega, unhide HO3, (by show _ = _; rw [List.length_append, hsl.out]; rfl), unhide hres3, unhide hdis3, hoi3, B3⟩
        case measure => have := hg.out; omega
      · have hke : k = m := by omega
        subst hke
        have fin := hide (unhide hall)
        have hks : SC wr w.heap.size u3 (subs v 0) := by
          rw [← unhide fin]
          exact ⟨ss, by rw [firstS_length]; exact hsl.out, by rw [firstS_length]; exact hown, fun i hi => (by rw [firstS_length] at hi; rw [firstS_getD v k i hi]; exact hres.out i hi), fun i j h1 h2 => (by rw [firstS_length] at h2; exact hdis.out i j h1 h2)⟩
        have HKS := hide hks
        have hsh : ∃ aa nn cc, u3 = Value.slice aa nn cc := by
          rcases hown.2 with ⟨h, _⟩ | ⟨_, _, _, h, _⟩
          · exact ⟨_, _, _, h⟩
          · exact ⟨_, _, _, h⟩
        obtain ⟨aa, nn, cc, hsh⟩ := hsh
        subst hsh
        clear hown hks hoi hres hdis
        go_wp2_with fail
        go_ret
        exact ⟨_, rfl, unhide HKS, hbel⟩

end Go.Proofs.YtcglddahphkcpaaGreatDoor
