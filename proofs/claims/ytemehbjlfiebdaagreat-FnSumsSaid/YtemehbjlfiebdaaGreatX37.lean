/-
  impl.compareAt by induction.
  Both CompareValues and both SameValues.
-/
import Derived.Test.YtemehbjlfiebdaaGreatX07
import Derived.Test.YtemehbjlfiebdaaGreatX32
import Derived.Test.YtemehbjlfiebdaaGreatX36
namespace Go.Proofs.YtemehbjlfiebdaaGreat
open Go.RowKit
set_option linter.unusedVariables false

theorem cl_ext {x y : M.Cl} (h0 : x.kind = y.kind) (h1 : x.num = y.num) (h2 : x.text.toList = y.text.toList) (h3 : x.key.toList = y.key.toList) (h4 : x.n = y.n) : x = y := by
  have e2 := bytes_ext h2
  have e3 := bytes_ext h3
  clear h2 h3
  cases x; cases y
  simp only at h0 h1 e2 e3 h4
  rw [h0, h1, e2, e3, h4]
theorem sgn_eq {a b : Int} (h : sgn a b = 0) : a = b := by
  unfold sgn at h
  split at h
  · cases h
  · split at h
    · cases h
    · omega
theorem cmpK_eq {a b : ByteArray} (h : cmpK a b = 0) : a.toList = b.toList := by
  unfold cmpK at h
  split at h
  · cases h
  · split at h
    · rename_i h2; exact eq_of_beq h2
    · cases h

theorem compareAt_step (v u : List M.Cl) (b off cap b' off' cap' f : Nat) (IH : CatSays v u b off cap b' off' cap' f) (hv : M.valueFault v = 0) (hu : M.valueFault u = 0) (hcap : v.length ≤ cap) (hcap' : u.length ≤ cap') : CatSays v u b off cap b' off' cap' (f + 1) := by
  intro i j w hi hj hpl hr hb hr' hb'
  have IH := hide IH
  have HV := hide hv
  have HU := hide hu
  obtain ⟨x, hx⟩ : ∃ x, x = v.getD i M.zero := ⟨_, rfl⟩
  obtain ⟨y, hy⟩ : ∃ y, y = u.getD j M.zero := ⟨_, rfl⟩
  by_cases hor : orCells x y = 0
  · have hk : x.kind = y.kind := by
      by_cases e : x.kind = y.kind
      · exact e
      · exact absurd hor (orCells_kind e).1
    have ho := orCells_same hk
    rw [hor] at ho
    have hs : sgn x.num y.num = 0 := by
      by_cases e : sgn x.num y.num = 0
      · exact e
      · rw [if_pos e] at ho; exact ho.symm
    rw [if_neg (fun g => g hs)] at ho
    have hn := sgn_eq hs
    have ht := cmpK_eq ho.symm
    have g1 : (x.kind == y.kind) = true := by simp [hk]
    have g2 : (x.num == y.num) = true := by simp [hn]
    have g3 : (x.text.toList == y.text.toList) = true := by simp [ht]
    by_cases hq : x.key.toList = y.key.toList
    · have g4 : (x.key.toList == y.key.toList) = true := by simp [hq]
      by_cases hm : x.n = y.n
      · exact cat_same v u b off cap b' off' cap' f i j IH w HV HU hi hj hpl hr hb hr' hb' hcap hcap' x y hx hy hor (cl_ext hk hn ht hq hm)
      · exact cat_n v u b off cap b' off' cap' f i j IH w HV HU hi hj hpl hr hb hr' hb' hcap hcap' x y hx hy hor g1 g2 g3 g4 (by simp [hm])
    · exact cat_key v u b off cap b' off' cap' f i j IH w HV HU hi hj hpl hr hb hr' hb' hcap hcap' x y hx hy hor g1 g2 g3 (by simp [hq])
  · by_cases hk : x.kind = y.kind
    · have g1 : (x.kind == y.kind) = true := by simp [hk]
      by_cases hn : x.num = y.num
      · have g2 : (x.num == y.num) = true := by simp [hn]
        by_cases ht : x.text.toList = y.text.toList
        · refine absurd ?_ hor
          rw [orCells_same hk, hn, sgn_self, if_neg (fun g => g rfl), bytes_ext ht, cmpK_self]
        · exact cat_text v u b off cap b' off' cap' f i j IH w HV HU hi hj hpl hr hb hr' hb' hcap hcap' x y hx hy hor g1 g2 (by simp [ht])
      · exact cat_num v u b off cap b' off' cap' f i j IH w HV HU hi hj hpl hr hb hr' hb' hcap hcap' x y hx hy hor g1 (by simp [hn])
    · exact cat_kind v u b off cap b' off' cap' f i j IH w HV HU hi hj hpl hr hb hr' hb' hcap hcap' x y hx hy hor (by simp [hk])

theorem compareAt_any (v u : List M.Cl) (b off cap b' off' cap' f : Nat) (hv : M.valueFault v = 0) (hu : M.valueFault u = 0) (hcap : v.length ≤ cap) (hcap' : u.length ≤ cap') : CatSays v u b off cap b' off' cap' f := by
  induction f with
  | zero =>
    intro i j w hi hj hpl
    have h1 := part_len hv hi
    have h2 := end_gt hv hi
    omega
  | succ f ih => exact compareAt_step v u b off cap b' off' cap' f ih hv hu hcap hcap'

/-- The order of two values, as a number. -/
def cmpOut (A C : List M.Cl) : Int := if M.valueFault A = 0 ∧ M.valueFault C = 0 then cmpL A.length A C else 0
def sameOut (A C : List M.Cl) : Bool := decide (M.valueFault A = 0 ∧ M.valueFault C = 0 ∧ cmpL A.length A C = 0)

theorem cmpL_whole {A C : List M.Cl} (hv : M.valueFault A = 0) (hu : M.valueFault C = 0) : cmpL A.length (part A 0) (part C 0) = cmpL A.length A C := by
  have h1 := (M.fault_zero hv).1
  have h2 := (M.fault_zero hu).1
  obtain ⟨n, hn⟩ : ∃ n, A.length = n + 1 := ⟨A.length - 1, by omega⟩
  rw [hn, cmpL_part n hv hu (by omega) (by omega)]
  rfl

end Go.Proofs.YtemehbjlfiebdaaGreat

namespace Go.Proofs.YtemehbjlfiebdaaGreat
open Go.RowKit
set_option linter.unusedVariables false

section
variable (A C : List M.Cl) (b off cap b' off' cap' : Nat) (w : World) (hr : Row w b off A) (hb : b < w.heap.size) (hn : A.length ≤ 1048576) (hcap : A.length ≤ cap) (hok : ∀ c ∈ A, c.ok) (hr' : Row w b' off' C) (hb' : b' < w.heap.size) (hn' : C.length ≤ 1048576) (hcap' : C.length ≤ cap') (hok' : ∀ c ∈ C, c.ok)
include hr hb hn hcap hok hr' hb' hn' hcap' hok'

set_option maxHeartbeats 1000000 in
theorem implSame_any : Calls Tryz.prog 11 #[.slice (some ⟨b, off, none⟩) A.length cap, .slice (some ⟨b', off', none⟩) C.length cap'] w fun e w' => e = .returned (.bool (sameOut A C)) ∧ Below w.heap.size w w' := by
  have OK := hide hok
  have OK' := hide hok'
  have HR := hide hr
  have HR' := hide hr'
  clear hok hok' hr hr'
  go_enter Tryz.func11, Tryz.ntmps11
  go_wp2_with fail
  refine (implFault_any A b off cap _ (unhide HR) hb hn hcap (unhide OK)).mono ?_
  rintro e1 w1 ⟨rfl, hb1⟩
  by_cases hz : M.valueFault A = 0
  · rw [hz]
    have HV := hide hz
    clear hz
    go_wp2_with fail
    refine (implFault_any C b' off' cap' _ ((unhide HR').below hb1 hb') (Nat.lt_of_lt_of_le hb' hb1.size) hn' hcap' (unhide OK')).mono ?_
    rintro e2 w2 ⟨rfl, hb2⟩
    have B2 : Below w.heap.size w w2 := hb1.trans (hb2.mono hb1.size)
    clear hb1 hb2
    by_cases hz : M.valueFault C = 0
    · rw [hz]
      have HU := hide hz
      clear hz
      have fin := hide (show sameOut A C = (cmpL A.length (part A 0) (part C 0) == 0) by
        unfold sameOut
        rw [cmpL_whole (unhide HV) (unhide HU), unhide HV, unhide HU]
        by_cases e : cmpL A.length A C = 0
        · rw [e]; rfl
        · simp [e])
      have h1 := (M.fault_zero (unhide HV)).1
      have h2 := (M.fault_zero (unhide HU)).1
      have h3 := part_len (unhide HV) (show 0 < A.length by omega)
      have h4 := (end_gt (unhide HV) (show 0 < A.length by omega)).2
      go_wp2_with fail
      refine (compareAt_any A C b off cap b' off' cap' A.length (unhide HV) (unhide HU) hcap hcap' 0 0 _ (by omega) (by omega) (by omega) ((unhide HR).below B2 hb) (Nat.lt_of_lt_of_le hb B2.size) ((unhide HR').below B2 hb') (Nat.lt_of_lt_of_le hb' B2.size)).mono ?_
      rintro e3 w3 ⟨rfl, hb3⟩
      have B3 : Below w.heap.size w w3 := B2.trans (hb3.mono B2.size)
      clear hb3 B2 h3 h4
      generalize cmpL A.length (part A 0) (part C 0) = q at *
      go_wp2_with fail
      go_ret
      exact ⟨ret_bool (unhide fin).symm, B3⟩
    · have fin := hide (show sameOut A C = false by unfold sameOut; exact decide_eq_false (fun g => hz g.2.1))
      have hz' : (M.valueFault C == 0) = false := by simp [hz]
      generalize M.valueFault C = q at *
      go_wp2_with fail
      go_ret
      exact ⟨ret_bool (unhide fin).symm, B2⟩
  · have fin := hide (show sameOut A C = false by unfold sameOut; exact decide_eq_false (fun g => hz g.1))
    have hz' : (M.valueFault A == 0) = false := by simp [hz]
    generalize M.valueFault A = q at *
    go_wp2_with fail
    go_ret
    exact ⟨ret_bool (unhide fin).symm, hb1⟩
end
end Go.Proofs.YtemehbjlfiebdaaGreat
