/-
  impl.compareAt by induction.
-/
import Derived.Test.YthaabakpcokomaaQ11
import Derived.Test.YthaabakpcokomaaQ44
import Derived.Test.YthaabakpcokomaaQ48
namespace Go.Proofs.Ythaabakpcokomaa
open Go.RowKit
set_option linter.unusedVariables false

theorem cl_ext {x y : M.Cl} (h0 : x.kind = y.kind) (h1 : x.num = y.num) (h2 : x.text.toList = y.text.toList) (h3 : x.key.toList = y.key.toList) (h4 : x.n = y.n) : x = y := by
  have e2 := bytes_ext h2
  have e3 := bytes_ext h3
  clear h2 h3
  cases x; cases y
  simp only at h0 h1 e2 e3 h4
  rw [h0, h1, e2, e3, h4]
theorem sgn_eq {a b : Int} (h : sgn a b = 0) : a = b := by
  unfold sgn at h
  split at h
  · cases h
  · split at h
    · cases h
    · omega
theorem cmpK_eq {a b : ByteArray} (h : cmpK a b = 0) : a.toList = b.toList := by
  unfold cmpK at h
  split at h
  · cases h
  · split at h
    · rename_i h2; exact eq_of_beq h2
    · cases h

theorem compareAt_step (v u : List M.Cl) (b off cap b' off' cap' f : Nat) (IH : CatSays v u b off cap b' off' cap' f) (hv : M.valueFault v = 0) (hu : M.valueFault u = 0) (hcap : v.length ≤ cap) (hcap' : u.length ≤ cap') : CatSays v u b off cap b' off' cap' (f + 1) := by
  intro i j w hi hj hpl hr hb hr' hb'
  have IH := hide IH
  have HV := hide hv
  have HU := hide hu
  obtain ⟨x, hx⟩ : ∃ x, x = v.getD i M.zero := ⟨_, rfl⟩
  obtain ⟨y, hy⟩ : ∃ y, y = u.getD j M.zero := ⟨_, rfl⟩
  by_cases hor : orCells x y = 0
  · have hk : x.kind = y.kind := by
      by_cases e : x.kind = y.kind
      · exact e
      · exact absurd hor (orCells_kind e).1
    have ho := orCells_same hk
    rw [hor] at ho
    have hs : sgn x.num y.num = 0 := by
      by_cases e : sgn x.num y.num = 0
      · exact e
      · rw [if_pos e] at ho; exact ho.symm
    rw [if_neg (fun g => g hs)] at ho
    have hn := sgn_eq hs
    have ht := cmpK_eq ho.symm
    have g1 : (x.kind == y.kind) = true := by simp [hk]
    have g2 : (x.num == y.num) = true := by simp [hn]
    have g3 : (x.text.toList == y.text.toList) = true := by simp [ht]
    by_cases hq : x.key.toList = y.key.toList
    · have g4 : (x.key.toList == y.key.toList) = true := by simp [hq]
      by_cases hm : x.n = y.n
      · exact cat_same v u b off cap b' off' cap' f i j IH w HV HU hi hj hpl hr hb hr' hb' hcap hcap' x y hx hy hor (cl_ext hk hn ht hq hm)
      · exact cat_n v u b off cap b' off' cap' f i j IH w HV HU hi hj hpl hr hb hr' hb' hcap hcap' x y hx hy hor g1 g2 g3 g4 (by simp [hm])
    · exact cat_key v u b off cap b' off' cap' f i j IH w HV HU hi hj hpl hr hb hr' hb' hcap hcap' x y hx hy hor g1 g2 g3 (by simp [hq])
  · by_cases hk : x.kind = y.kind
    · have g1 : (x.kind == y.kind) = true := by simp [hk]
      by_cases hn : x.num = y.num
      · have g2 : (x.num == y.num) = true := by simp [hn]
        by_cases ht : x.text.toList = y.text.toList
        · refine absurd ?_ hor
          rw [orCells_same hk, hn, sgn_self, if_neg (fun g => g rfl), bytes_ext ht, cmpK_self]
        · exact cat_text v u b off cap b' off' cap' f i j IH w HV HU hi hj hpl hr hb hr' hb' hcap hcap' x y hx hy hor g1 g2 (by simp [ht])
      · exact cat_num v u b off cap b' off' cap' f i j IH w HV HU hi hj hpl hr hb hr' hb' hcap hcap' x y hx hy hor g1 (by simp [hn])
    · exact cat_kind v u b off cap b' off' cap' f i j IH w HV HU hi hj hpl hr hb hr' hb' hcap hcap' x y hx hy hor (by simp [hk])

theorem compareAt_any (v u : List M.Cl) (b off cap b' off' cap' f : Nat) (hv : M.valueFault v = 0) (hu : M.valueFault u = 0) (hcap : v.length ≤ cap) (hcap' : u.length ≤ cap') : CatSays v u b off cap b' off' cap' f := by
  induction f with
  | zero =>
    intro i j w hi hj hpl
    have h1 := part_len hv hi
    have h2 := end_gt hv hi
    omega
  | succ f ih => exact compareAt_step v u b off cap b' off' cap' f ih hv hu hcap hcap'

theorem cmpL_whole {A C : List M.Cl} (hv : M.valueFault A = 0) (hu : M.valueFault C = 0) : cmpL A.length (part A 0) (part C 0) = cmpL A.length A C := by
  have h1 := (M.fault_zero hv).1
  have h2 := (M.fault_zero hu).1
  obtain ⟨n, hn⟩ : ∃ n, A.length = n + 1 := ⟨A.length - 1, by omega⟩
  rw [hn, cmpL_part n hv hu (by omega) (by omega)]
  rfl

end Go.Proofs.Ythaabakpcokomaa
