/-
  A slice of bytes that came in as an argument.
  Values that are drawn for a law.
  impl.compareAt by induction.
  Both CompareValues and both SameValues.
  The order of values is an order: plainly. Values put in one by one. No word of the program is used here.
  Bytes that are appended to; what the laws over drawn values call; values have one order.
-/
import Derived.Test.YtikeffckhklhbaaGreatDoorX00
import Derived.Test.YtikeffckhklhbaaGreatDoorX01
import Derived.Test.YtikeffckhklhbaaGreatDoorX05
import Derived.Test.YtikeffckhklhbaaGreatDoorX12
import Derived.Test.YtikeffckhklhbaaGreatDoorX20
import Derived.Test.YtikeffckhklhbaaGreatDoorX21
import Derived.Test.YtikeffckhklhbaaGreatDoorX22
import Derived.Test.YtikeffckhklhbaaGreatDoorX44
import Derived.Test.YtikeffckhklhbaaGreatDoorX47
import Derived.BigQuiet
import Derived.Deep.QuietTactic
import Derived.Deep.Slices
import Derived.Laws.AppendOwnNone
import Derived.OpenShut
import Derived.ProofKit
namespace Go.Proofs.YtikeffckhklhbaaGreatDoor
open Go.RowKit Go.ChangeShapes Go.WideShapes
set_option linter.unusedVariables false
set_option linter.unusedSimpArgs false

/-- What the walks are told of a slice of bytes. -/
def Byts (w : World) (a : Option Addr) (len cap : Nat) : Prop := len ≤ cap ∧ ∀ i, i < len → ∃ b off c : Nat, a = some ⟨b, off, none⟩ ∧ b < w.heap.size ∧ c ≤ 255 ∧ w.cell? ⟨b, off + i, none⟩ = some (.int .u8 (c : Int))
theorem cellsU8 : Tryz.prog.cellsOf 5 = 1 := by kernel_rfl
theorem bounds_u8 {n : Int} (h : (Lit.int .u8 n).wf = true) : 0 ≤ n ∧ n ≤ 255 := by
  simp [Lit.wf, IntKind.min, IntKind.max, IntKind.signed, IntKind.bits] at h
  omega
section
variable {H : Type} {enc : TypeId × Value → H} {w : World} {base : Nat} {spare : Nat → Bool} {held : Bool}
theorem open_byts {a : Option Addr} {len cap fuel : Nat} {x : DataW H × List MemPlace} (h : DataW.trod enc Tryz.prog w base spare held fuel 22 [.slice a len cap] = some x) : Byts w a len cap := by
  rcases Go.Deep.open_slice Tryz.underlying22 h with ⟨hcs, _⟩ | ⟨ad, len', cap', m, n, D, Pl, hcs, _, hl, hm, hmm, hx, hel⟩
  · simp only [List.cons.injEq, Value.slice.injEq, and_true] at hcs
    obtain ⟨rfl, rfl, rfl⟩ := hcs
    exact ⟨by omega, fun i hi => absurd hi (by omega)⟩
  · simp only [List.cons.injEq, Value.slice.injEq, and_true] at hcs
    obtain ⟨rfl, rfl, rfl⟩ := hcs
    rw [cellsU8] at hel
    have hlm : len ≤ m := by rw [hmm]; split <;> omega
    refine ⟨by simpa using hl, fun i hi => ?_⟩
    obtain ⟨cs', h1, h2⟩ := hel i (by omega)
    obtain ⟨c, e, _, hw⟩ := DataW.trod_int Tryz.underlying5 h2
    subst e
    have hb := bounds_u8 hw
    obtain ⟨b, off, spot⟩ := ad
    have c0 := (World.cells?_some h1).2.2 0 (by omega)
    have hs : spot = none := by
      obtain ⟨cs0, g1, g2⟩ := hel 0 (by omega)
      obtain ⟨c', e', _, _⟩ := DataW.trod_int Tryz.underlying5 g2
      subst e'
      have := World.cell?_spot (((World.cells?_some g1).2.2 0 (by omega)).trans rfl)
      simpa [Addr.add] using this
    subst hs
    have hblk : b < w.heap.size := by
      have := block_lt_of_cell (c0.trans rfl)
      rw [add_plain, add_plain] at this
      exact this
    simp only [add_plain] at c0
    refine ⟨b, off, c.toNat, rfl, hblk, by omega, ?_⟩
    rw [show ((c.toNat : Nat) : Int) = c from Int.toNat_of_nonneg hb.1]
    simpa using c0
end
theorem lwBig_any (a : Option Addr) (len cap : Nat) (w : World) : Calls Tryz.prog 5 #[.slice a len cap] w fun e w' => e = .returned (.bool (decide (1048576 < len))) ∧ w' = w := by
  have hd := hide (show decide ((1048576 : Int) < (len : Int)) = decide (1048576 < len) by rw [decide_eq_decide]; omega)
  go_enter Tryz.func5, Tryz.ntmps5
  go_wp2_with fail
  all_goals (go_ret; exact ⟨ret_bool (by first | exact unhide hd | (simp [*] <;> omega)), rfl⟩)

end Go.Proofs.YtikeffckhklhbaaGreatDoor

namespace Go.Proofs.YtikeffckhklhbaaGreatDoor
open Go.RowKit
set_option linter.unusedVariables false
set_option linter.unusedSimpArgs false

namespace Dv
/-- A value that was drawn, as the law holds it. -/
def Got (V : World) (B : Nat) (s : Value) (l : List M.Cl) : Prop := (∃ g gc, s = .slice (some ⟨g, 0, none⟩) l.length gc) ∧ Rs V B s l ∧ l.length ≤ 300 ∧ ∀ c ∈ l, c.ok
theorem Got.at {w : World} {B : Nat} {s : Value} {l : List M.Cl} (h : Got w B s l) : ∃ g gc, s = .slice (some ⟨g, 0, none⟩) l.length gc ∧ g < w.heap.size ∧ l.length ≤ gc ∧ Row w g 0 l := by
  obtain ⟨⟨g, gc, rfl⟩, hr, _, _⟩ := h
  obtain ⟨_, ⟨h1, _⟩ | ⟨b, cap, h1, h2, h3, h4⟩⟩ := hr.res
  · cases h1
  · cases h1
    exact ⟨g, gc, rfl, h4.lt, h3, h4.row⟩
end Dv
end Go.Proofs.YtikeffckhklhbaaGreatDoor

namespace Go.Proofs.YtikeffckhklhbaaGreatDoor
open Go.RowKit
set_option linter.unusedVariables false

theorem cl_ext {x y : M.Cl} (h0 : x.kind = y.kind) (h1 : x.num = y.num) (h2 : x.text.toList = y.text.toList) (h3 : x.key.toList = y.key.toList) (h4 : x.n = y.n) : x = y := by
  have e2 := bytes_ext h2
  have e3 := bytes_ext h3
  clear h2 h3
  cases x; cases y
  simp only at h0 h1 e2 e3 h4
  rw [h0, h1, e2, e3, h4]
theorem sgn_eq {a b : Int} (h : sgn a b = 0) : a = b := by
  unfold sgn at h
  split at h
  · cases h
  · split at h
    · cases h
    · omega
theorem cmpK_eq {a b : ByteArray} (h : cmpK a b = 0) : a.toList = b.toList := by
  unfold cmpK at h
  split at h
  · cases h
  · split at h
    · rename_i h2; exact eq_of_beq h2
    · cases h

theorem compareAt_step (v u : List M.Cl) (b off cap b' off' cap' f : Nat) (IH : CatSays v u b off cap b' off' cap' f) (hv : M.valueFault v = 0) (hu : M.valueFault u = 0) (hcap : v.length ≤ cap) (hcap' : u.length ≤ cap') : CatSays v u b off cap b' off' cap' (f + 1) := by
  intro i j w hi hj hpl hr hb hr' hb'
  have IH := hide IH
  have HV := hide hv
  have HU := hide hu
  obtain ⟨x, hx⟩ : ∃ x, x = v.getD i M.zero := ⟨_, rfl⟩
  obtain ⟨y, hy⟩ : ∃ y, y = u.getD j M.zero := ⟨_, rfl⟩
  by_cases hor : orCells x y = 0
  · have hk : x.kind = y.kind := by
      by_cases e : x.kind = y.kind
      · exact e
      · exact absurd hor (orCells_kind e).1
    have ho := orCells_same hk
    rw [hor] at ho
    have hs : sgn x.num y.num = 0 := by
      by_cases e : sgn x.num y.num = 0
      · exact e
      · rw [if_pos e] at ho; exact ho.symm
    rw [if_neg (fun g => g hs)] at ho
    have hn := sgn_eq hs
    have ht := cmpK_eq ho.symm
    have g1 : (x.kind == y.kind) = true := by simp [hk]
    have g2 : (x.num == y.num) = true := by simp [hn]
    have g3 : (x.text.toList == y.text.toList) = true := by simp [ht]
    by_cases hq : x.key.toList = y.key.toList
    · have g4 : (x.key.toList == y.key.toList) = true := by simp [hq]
      by_cases hm : x.n = y.n
      · exact cat_same v u b off cap b' off' cap' f i j IH w HV HU hi hj hpl hr hb hr' hb' hcap hcap' x y hx hy hor (cl_ext hk hn ht hq hm)
      · exact cat_n v u b off cap b' off' cap' f i j IH w HV HU hi hj hpl hr hb hr' hb' hcap hcap' x y hx hy hor g1 g2 g3 g4 (by simp [hm])
    · exact cat_key v u b off cap b' off' cap' f i j IH w HV HU hi hj hpl hr hb hr' hb' hcap hcap' x y hx hy hor g1 g2 g3 (by simp [hq])
  · by_cases hk : x.kind = y.kind
    · have g1 : (x.kind == y.kind) = true := by simp [hk]
      by_cases hn : x.num = y.num
      · have g2 : (x.num == y.num) = true := by simp [hn]
        by_cases ht : x.text.toList = y.text.toList
        · refine absurd ?_ hor
          rw [orCells_same hk, hn, sgn_self, if_neg (fun g => g rfl), bytes_ext ht, cmpK_self]
        · exact cat_text v u b off cap b' off' cap' f i j IH w HV HU hi hj hpl hr hb hr' hb' hcap hcap' x y hx hy hor g1 g2 (by simp [ht])
      · exact cat_num v u b off cap b' off' cap' f i j IH w HV HU hi hj hpl hr hb hr' hb' hcap hcap' x y hx hy hor g1 (by simp [hn])
    · exact cat_kind v u b off cap b' off' cap' f i j IH w HV HU hi hj hpl hr hb hr' hb' hcap hcap' x y hx hy hor (by simp [hk])

theorem compareAt_any (v u : List M.Cl) (b off cap b' off' cap' f : Nat) (hv : M.valueFault v = 0) (hu : M.valueFault u = 0) (hcap : v.length ≤ cap) (hcap' : u.length ≤ cap') : CatSays v u b off cap b' off' cap' f := by
  induction f with
  | zero =>
    intro i j w hi hj hpl
    have h1 := part_len hv hi
    have h2 := end_gt hv hi
    omega
  | succ f ih => exact compareAt_step v u b off cap b' off' cap' f ih hv hu hcap hcap'

/-- The order of two values, as a number. -/
def cmpOut (A C : List M.Cl) : Int := if M.valueFault A = 0 ∧ M.valueFault C = 0 then cmpL A.length A C else 0
def sameOut (A C : List M.Cl) : Bool := decide (M.valueFault A = 0 ∧ M.valueFault C = 0 ∧ cmpL A.length A C = 0)

theorem cmpL_whole {A C : List M.Cl} (hv : M.valueFault A = 0) (hu : M.valueFault C = 0) : cmpL A.length (part A 0) (part C 0) = cmpL A.length A C := by
  have h1 := (M.fault_zero hv).1
  have h2 := (M.fault_zero hu).1
  obtain ⟨n, hn⟩ : ∃ n, A.length = n + 1 := ⟨A.length - 1, by omega⟩
  rw [hn, cmpL_part n hv hu (by omega) (by omega)]
  rfl

end Go.Proofs.YtikeffckhklhbaaGreatDoor

namespace Go.Proofs.YtikeffckhklhbaaGreatDoor
open Go.RowKit
set_option linter.unusedVariables false

section
variable (A C : List M.Cl) (b off cap b' off' cap' : Nat) (w : World) (hr : Row w b off A) (hb : b < w.heap.size) (hn : A.length ≤ 1048576) (hcap : A.length ≤ cap) (hok : ∀ c ∈ A, c.ok) (hr' : Row w b' off' C) (hb' : b' < w.heap.size) (hn' : C.length ≤ 1048576) (hcap' : C.length ≤ cap') (hok' : ∀ c ∈ C, c.ok)
include hr hb hn hcap hok hr' hb' hn' hcap' hok'

set_option maxHeartbeats 1000000 in
theorem implSame_any : Calls Tryz.prog 10 #[.slice (some ⟨b, off, none⟩) A.length cap, .slice (some ⟨b', off', none⟩) C.length cap'] w fun e w' => e = .returned (.bool (sameOut A C)) ∧ Below w.heap.size w w' := by
  have OK := hide hok
  have OK' := hide hok'
  have HR := hide hr
  have HR' := hide hr'
  clear hok hok' hr hr'
  go_enter Tryz.func10, Tryz.ntmps10
  go_wp2_with fail
  refine (implFault_any A b off cap _ (unhide HR) hb hn hcap (unhide OK)).mono ?_
  rintro e1 w1 ⟨rfl, hb1⟩
  by_cases hz : M.valueFault A = 0
  · rw [hz]
    have HV := hide hz
    clear hz
    go_wp2_with fail
    refine (implFault_any C b' off' cap' _ ((unhide HR').below hb1 hb') (Nat.lt_of_lt_of_le hb' hb1.size) hn' hcap' (unhide OK')).mono ?_
    rintro e2 w2 ⟨rfl, hb2⟩
    have B2 : Below w.heap.size w w2 := hb1.trans (hb2.mono hb1.size)
    clear hb1 hb2
    by_cases hz : M.valueFault C = 0
    · rw [hz]
      have HU := hide hz
      clear hz
      have fin := hide (show sameOut A C = (cmpL A.length (part A 0) (part C 0) == 0) by
        unfold sameOut
        rw [cmpL_whole (unhide HV) (unhide HU), unhide HV, unhide HU]
        by_cases e : cmpL A.length A C = 0
        · rw [e]; rfl
        · simp [e])
      have h1 := (M.fault_zero (unhide HV)).1
      have h2 := (M.fault_zero (unhide HU)).1
      have h3 := part_len (unhide HV) (show 0 < A.length by omega)
      have h4 := (end_gt (unhide HV) (show 0 < A.length by omega)).2
      go_wp2_with fail
      refine (compareAt_any A C b off cap b' off' cap' A.length (unhide HV) (unhide HU) hcap hcap' 0 0 _ (by omega) (by omega) (by omega) ((unhide HR).below B2 hb) (Nat.lt_of_lt_of_le hb B2.size) ((unhide HR').below B2 hb') (Nat.lt_of_lt_of_le hb' B2.size)).mono ?_
      rintro e3 w3 ⟨rfl, hb3⟩
      have B3 : Below w.heap.size w w3 := B2.trans (hb3.mono B2.size)
      clear hb3 B2 h3 h4
      generalize cmpL A.length (part A 0) (part C 0) = q at *
      go_wp2_with fail
      go_ret
      exact ⟨ret_bool (unhide fin).symm, B3⟩
    · have fin := hide (show sameOut A C = false by unfold sameOut; exact decide_eq_false (fun g => hz g.2.1))
      have hz' : (M.valueFault C == 0) = false := by simp [hz]
      generalize M.valueFault C = q at *
      go_wp2_with fail
      go_ret
      exact ⟨ret_bool (unhide fin).symm, B2⟩
  · have fin := hide (show sameOut A C = false by unfold sameOut; exact decide_eq_false (fun g => hz g.1))
    have hz' : (M.valueFault A == 0) = false := by simp [hz]
    generalize M.valueFault A = q at *
    go_wp2_with fail
    go_ret
    exact ⟨ret_bool (unhide fin).symm, hb1⟩
end
end Go.Proofs.YtikeffckhklhbaaGreatDoor

namespace Go.Proofs.YtikeffckhklhbaaGreatDoor
open Go.RowKit
set_option linter.unusedVariables false

theorem subs_val {v : List M.Cl} (hv : M.valueFault v = 0) : ∀ p ∈ subs v 0, M.valueFault p = 0 ∧ p.length < v.length := by
  intro p hp
  have h0 := (M.fault_zero hv).1
  simp only [subs, List.mem_map, M.places, List.mem_range] at hp
  obtain ⟨q, ⟨j, hj, rfl⟩, rfl⟩ := hp
  have hin := (M.places_in hv 0 (by omega)).1 j hj
  have hg := (end_gt hv (a := 0) (by omega)).2
  have hlt : M.iter v j (0 + 1) < v.length := by omega
  have hg2 := end_gt hv hlt
  have hl := part_len hv hlt
  exact ⟨part_valid hv hlt, by omega⟩

theorem lex_congr {α : Type} {c d : α → α → Int} : ∀ (A B : List α), (∀ a ∈ A, ∀ b ∈ B, c a b = d a b) → lex c A B = lex d A B
  | [], [], _ => rfl
  | [], _ :: _, _ => rfl
  | _ :: _, [], _ => rfl
  | a :: xs, b :: ys, h => by
    rw [lex, lex, h a (by simp) b (by simp), lex_congr xs ys (fun x hx y hy => h x (by simp [hx]) y (by simp [hy]))]
theorem lex_neg {α : Type} {c d : α → α → Int} : ∀ (A B : List α), (∀ a ∈ A, ∀ b ∈ B, c a b = - d b a) → lex c A B = - lex d B A
  | [], [], _ => rfl
  | [], _ :: _, _ => rfl
  | _ :: _, [], _ => rfl
  | a :: xs, b :: ys, h => by
    have h1 := h a (by simp) b (by simp)
    rw [lex, lex, lex_neg xs ys (fun x hx y hy => h x (by simp [hx]) y (by simp [hy]))]
    by_cases e : d b a = 0
    · rw [if_neg (by omega), if_neg (by omega)]
    · rw [if_pos (by omega), if_pos (by omega), h1]
/-- Of three in a row: what the first two tell of the third. -/
def TT (x y z : Int) : Prop := x ≤ 0 → y ≤ 0 → (z ≤ 0 ∧ ((x < 0 ∨ y < 0) → z < 0) ∧ (x = 0 → y = 0 → z = 0))
theorem sgn_neg (a b : Int) : sgn a b = - sgn b a := by unfold sgn; split <;> split <;> omega
theorem cmpK_cases (a b : ByteArray) : (cmpK a b = -1 ∧ Op.bytesLess a.toList b.toList = true) ∨ (cmpK a b = 0 ∧ a.toList = b.toList) ∨ (cmpK a b = 1 ∧ Op.bytesLess b.toList a.toList = true) := by
  unfold cmpK
  rcases St.bl_tri a.toList b.toList with h | h | h
  · left; rw [if_pos h]; exact ⟨rfl, h⟩
  · right; left; rw [h, St.bl_irr]; simp
  · right; right
    have h1 : Op.bytesLess a.toList b.toList ≠ true := fun e => by have := St.bl_trans _ _ _ e h; rw [St.bl_irr] at this; cases this
    have h2 : (a.toList == b.toList) ≠ true := fun e => by rw [eq_of_beq e, St.bl_irr] at h; cases h
    rw [if_neg h1, if_neg h2]; exact ⟨rfl, h⟩
theorem cmpK_less {a b : ByteArray} (h : Op.bytesLess a.toList b.toList = true) : cmpK a b = -1 := by unfold cmpK; rw [if_pos h]
theorem cmpK_more {a b : ByteArray} (h : Op.bytesLess b.toList a.toList = true) : cmpK a b = 1 := by
  rcases cmpK_cases a b with ⟨_, e⟩ | ⟨_, e⟩ | ⟨e, _⟩
  · have := St.bl_trans _ _ _ e h; rw [St.bl_irr] at this; cases this
  · rw [e, St.bl_irr] at h; cases h
  · exact e
theorem cmpK_none {a b : ByteArray} (h : a.toList = b.toList) : cmpK a b = 0 := by unfold cmpK; rw [h, St.bl_irr]; simp
theorem cmpK_neg (a b : ByteArray) : cmpK a b = - cmpK b a := by
  rcases cmpK_cases a b with ⟨e, h⟩ | ⟨e, h⟩ | ⟨e, h⟩
  · rw [e, cmpK_more h]
  · rw [e, cmpK_none h.symm]; rfl
  · rw [e, cmpK_less h]; rfl
/-- The order of kinds, and behind it that of what a kind holds. -/
theorem cmpL_step (f : Nat) (P Q : List M.Cl) : cmpL (f + 1) P Q = if sgn (P.getD 0 M.zero).kind (Q.getD 0 M.zero).kind ≠ 0 then sgn (P.getD 0 M.zero).kind (Q.getD 0 M.zero).kind else
    if (P.getD 0 M.zero).kind = 3 then sgn (P.getD 0 M.zero).num (Q.getD 0 M.zero).num
    else if (P.getD 0 M.zero).kind = 4 then cmpK (P.getD 0 M.zero).text (Q.getD 0 M.zero).text
    else if (P.getD 0 M.zero).kind = 5 then lex (cmpL f) (subs P 0) (subs Q 0)
    else if (P.getD 0 M.zero).kind = 6 then (if lex cmpK (keysAt P 0) (keysAt Q 0) ≠ 0 then lex cmpK (keysAt P 0) (keysAt Q 0) else lex (cmpL f) (subs P 0) (subs Q 0))
    else 0 := by
  rw [cmpL]
  by_cases h : (P.getD 0 M.zero).kind = (Q.getD 0 M.zero).kind
  · have hs : sgn (P.getD 0 M.zero).kind (Q.getD 0 M.zero).kind = 0 := by rw [h, sgn_self]
    rw [if_neg (show ¬ ((P.getD 0 M.zero).kind ≠ (Q.getD 0 M.zero).kind) from fun e => e h), hs, if_neg (show ¬ ((0 : Int) ≠ 0) from fun e => e rfl)]
  · rw [if_pos (show (P.getD 0 M.zero).kind ≠ (Q.getD 0 M.zero).kind from h)]
    by_cases h1 : (P.getD 0 M.zero).kind < (Q.getD 0 M.zero).kind
    · have hs : sgn (P.getD 0 M.zero).kind (Q.getD 0 M.zero).kind = -1 := by unfold sgn; rw [if_pos h1]
      rw [if_pos h1, hs, if_pos (show (-1 : Int) ≠ 0 by decide)]
    · have hs : sgn (P.getD 0 M.zero).kind (Q.getD 0 M.zero).kind = 1 := by unfold sgn; rw [if_neg h1, if_pos (by omega)]
      rw [if_neg h1, hs, if_pos (show (1 : Int) ≠ 0 by decide)]
theorem cmpL_fuel : ∀ (f g : Nat) (P Q : List M.Cl), M.valueFault P = 0 → P.length ≤ f → P.length ≤ g → cmpL f P Q = cmpL g P Q := by
  intro f
  induction f with
  | zero => intro g P Q hP h1 _; have := (M.fault_zero hP).1; omega
  | succ f ih =>
    intro g P Q hP h1 h2
    have h0 := (M.fault_zero hP).1
    obtain ⟨g, rfl⟩ : ∃ q, g = q + 1 := ⟨g - 1, by omega⟩
    have hs : lex (cmpL f) (subs P 0) (subs Q 0) = lex (cmpL g) (subs P 0) (subs Q 0) := lex_congr _ _ fun a ha b _ => by
      obtain ⟨a1, a2⟩ := subs_val hP a ha
      exact ih g a b a1 (by omega) (by omega)
    rw [cmpL_step f P Q, cmpL_step g P Q, hs]
theorem cmpL_neg : ∀ (f : Nat) (P Q : List M.Cl), M.valueFault P = 0 → M.valueFault Q = 0 → P.length ≤ f → Q.length ≤ f → cmpL f P Q = - cmpL f Q P := by
  intro f
  induction f with
  | zero => intro P Q hP _ h1 _; have := (M.fault_zero hP).1; omega
  | succ f ih =>
    intro P Q hP hQ h1 h2
    have hs : lex (cmpL f) (subs P 0) (subs Q 0) = - lex (cmpL f) (subs Q 0) (subs P 0) := lex_neg _ _ fun a ha b hb => by
      obtain ⟨a1, a2⟩ := subs_val hP a ha
      obtain ⟨b1, b2⟩ := subs_val hQ b hb
      exact ih a b a1 b1 (by omega) (by omega)
    have hk : lex cmpK (keysAt P 0) (keysAt Q 0) = - lex cmpK (keysAt Q 0) (keysAt P 0) := lex_neg _ _ fun a _ b _ => cmpK_neg a b
    have hsg := sgn_neg (P.getD 0 M.zero).kind (Q.getD 0 M.zero).kind
    rw [cmpL_step f P Q, cmpL_step f Q P]
    by_cases h : sgn (Q.getD 0 M.zero).kind (P.getD 0 M.zero).kind = 0
    · have h' : sgn (P.getD 0 M.zero).kind (Q.getD 0 M.zero).kind = 0 := by omega
      rw [if_neg (show ¬ (sgn (P.getD 0 M.zero).kind (Q.getD 0 M.zero).kind ≠ 0) from fun e => e h'), if_neg (show ¬ (sgn (Q.getD 0 M.zero).kind (P.getD 0 M.zero).kind ≠ 0) from fun e => e h), sgn_eq h]
      by_cases k3 : (P.getD 0 M.zero).kind = 3
      · rw [if_pos k3, if_pos k3]; exact sgn_neg _ _
      rw [if_neg k3, if_neg k3]
      by_cases k4 : (P.getD 0 M.zero).kind = 4
      · rw [if_pos k4, if_pos k4]; exact cmpK_neg _ _
      rw [if_neg k4, if_neg k4]
      by_cases k5 : (P.getD 0 M.zero).kind = 5
      · rw [if_pos k5, if_pos k5]; exact hs
      rw [if_neg k5, if_neg k5]
      by_cases k6 : (P.getD 0 M.zero).kind = 6
      · rw [if_pos k6, if_pos k6]
        by_cases e : lex cmpK (keysAt Q 0) (keysAt P 0) = 0
        · have e' : lex cmpK (keysAt P 0) (keysAt Q 0) = 0 := by omega
          rw [if_neg (show ¬ (lex cmpK (keysAt P 0) (keysAt Q 0) ≠ 0) from fun q => q e'), if_neg (show ¬ (lex cmpK (keysAt Q 0) (keysAt P 0) ≠ 0) from fun q => q e)]
          exact hs
        · rw [if_pos (show lex cmpK (keysAt P 0) (keysAt Q 0) ≠ 0 by omega), if_pos (show lex cmpK (keysAt Q 0) (keysAt P 0) ≠ 0 from e)]
          exact hk
      rw [if_neg k6, if_neg k6]; rfl
    · rw [if_pos (show sgn (P.getD 0 M.zero).kind (Q.getD 0 M.zero).kind ≠ 0 by omega), if_pos (show sgn (Q.getD 0 M.zero).kind (P.getD 0 M.zero).kind ≠ 0 from h)]
      exact hsg

end Go.Proofs.YtikeffckhklhbaaGreatDoor

namespace Go.Proofs.YtikeffckhklhbaaGreatDoor
open Go.RowKit Go.ChangeShapes Go.WideShapes
set_option linter.unusedVariables false
set_option linter.unusedSimpArgs false

section
variable {H : Type} {enc : TypeId × Value → H} {w : World} {base : Nat} {spare : Nat → Bool} {held : Bool}
end
namespace Dv
section
variable {W V : World} {B B' : Nat} {s s' : Value} {l l' : List M.Cl}
end
end Dv
namespace Od
variable {A C D : List M.Cl}
theorem out_eq (hA : M.valueFault A = 0) (hC : M.valueFault C = 0) {f : Nat} (hf : A.length ≤ f) : cmpOut A C = cmpL f A C := by
  unfold cmpOut
  rw [if_pos ⟨hA, hC⟩]
  exact cmpL_fuel _ _ _ _ hA (Nat.le_refl _) hf
theorem out_neg (hA : M.valueFault A = 0) (hC : M.valueFault C = 0) : cmpOut C A = - cmpOut A C := by
  rw [out_eq hA hC (f := A.length + C.length) (by omega), out_eq hC hA (f := A.length + C.length) (by omega)]
  exact cmpL_neg _ _ _ hC hA (by omega) (by omega)
theorem out_self (hA : M.valueFault A = 0) : cmpOut A A = 0 := by
  have := out_neg hA hA
  omega
theorem same_eq (hA : M.valueFault A = 0) (hC : M.valueFault C = 0) : sameOut A C = (cmpOut A C == 0) := by
  unfold sameOut cmpOut
  rw [if_pos ⟨hA, hC⟩]
  by_cases h : cmpL A.length A C = 0
  · simp [hA, hC, h]
  · simp [hA, hC, h]
end Od

end Go.Proofs.YtikeffckhklhbaaGreatDoor
