/-
  A slice of bytes that came in as an argument.
  laws.lwAt; an operation and two values that are drawn for a law.
  Bytes that are appended to; what the laws over drawn values call; values have one order.
-/
import Derived.Test.YtemehbjlfiebdaaGreatX00
import Derived.Test.YtemehbjlfiebdaaGreatX08
import Derived.Test.YtemehbjlfiebdaaGreatX16
import Derived.Test.YtemehbjlfiebdaaGreatX23
import Derived.Test.YtemehbjlfiebdaaGreatX31
import Derived.Test.YtemehbjlfiebdaaGreatX37
import Derived.Test.YtemehbjlfiebdaaGreatX38
import Derived.Deep.Slices
import Derived.Laws.AppendOwnNone
import Derived.OpenShut
import Derived.ProofKit
namespace Go.Proofs.YtemehbjlfiebdaaGreat
open Go.RowKit Go.ChangeShapes Go.WideShapes
set_option linter.unusedVariables false
set_option linter.unusedSimpArgs false

/-- What the walks are told of a slice of bytes. -/
def Byts (w : World) (a : Option Addr) (len cap : Nat) : Prop := len ≤ cap ∧ ∀ i, i < len → ∃ b off c : Nat, a = some ⟨b, off, none⟩ ∧ b < w.heap.size ∧ c ≤ 255 ∧ w.cell? ⟨b, off + i, none⟩ = some (.int .u8 (c : Int))
theorem cellsU8 : Tryz.prog.cellsOf 5 = 1 := by kernel_rfl
theorem bounds_u8 {n : Int} (h : (Lit.int .u8 n).wf = true) : 0 ≤ n ∧ n ≤ 255 := by
  simp [Lit.wf, IntKind.min, IntKind.max, IntKind.signed, IntKind.bits] at h
  omega
section
variable {H : Type} {enc : TypeId × Value → H} {w : World} {base : Nat} {spare : Nat → Bool} {held : Bool}
theorem open_byts {a : Option Addr} {len cap fuel : Nat} {x : DataW H × List MemPlace} (h : DataW.trod enc Tryz.prog w base spare held fuel 22 [.slice a len cap] = some x) : Byts w a len cap := by
  rcases Go.Deep.open_slice Tryz.underlying22 h with ⟨hcs, _⟩ | ⟨ad, len', cap', m, n, D, Pl, hcs, _, hl, hm, hmm, hx, hel⟩
  · simp only [List.cons.injEq, Value.slice.injEq, and_true] at hcs
    obtain ⟨rfl, rfl, rfl⟩ := hcs
    exact ⟨by omega, fun i hi => absurd hi (by omega)⟩
  · simp only [List.cons.injEq, Value.slice.injEq, and_true] at hcs
    obtain ⟨rfl, rfl, rfl⟩ := hcs
    rw [cellsU8] at hel
    have hlm : len ≤ m := by rw [hmm]; split <;> omega
    refine ⟨by simpa using hl, fun i hi => ?_⟩
    obtain ⟨cs', h1, h2⟩ := hel i (by omega)
    obtain ⟨c, e, _, hw⟩ := DataW.trod_int Tryz.underlying5 h2
    subst e
    have hb := bounds_u8 hw
    obtain ⟨b, off, spot⟩ := ad
    have c0 := (World.cells?_some h1).2.2 0 (by omega)
    have hs : spot = none := by
      obtain ⟨cs0, g1, g2⟩ := hel 0 (by omega)
      obtain ⟨c', e', _, _⟩ := DataW.trod_int Tryz.underlying5 g2
      subst e'
      have := World.cell?_spot (((World.cells?_some g1).2.2 0 (by omega)).trans rfl)
      simpa [Addr.add] using this
    subst hs
    have hblk : b < w.heap.size := by
      have := block_lt_of_cell (c0.trans rfl)
      rw [add_plain, add_plain] at this
      exact this
    simp only [add_plain] at c0
    refine ⟨b, off, c.toNat, rfl, hblk, by omega, ?_⟩
    rw [show ((c.toNat : Nat) : Int) = c from Int.toNat_of_nonneg hb.1]
    simpa using c0
end
theorem lwBig_any (a : Option Addr) (len cap : Nat) (w : World) : Calls Tryz.prog 4 #[.slice a len cap] w fun e w' => e = .returned (.bool (decide (1048576 < len))) ∧ w' = w := by
  have hd := hide (show decide ((1048576 : Int) < (len : Int)) = decide (1048576 < len) by rw [decide_eq_decide]; omega)
  go_enter Tryz.func4, Tryz.ntmps4
  go_wp2_with fail
  all_goals (go_ret; exact ⟨ret_bool (by first | exact unhide hd | (simp [*] <;> omega)), rfl⟩)

end Go.Proofs.YtemehbjlfiebdaaGreat

namespace Go.Proofs.YtemehbjlfiebdaaGreat
open Go.RowKit
set_option linter.unusedVariables false
set_option linter.unusedSimpArgs false

set_option maxRecDepth 100000 in
set_option maxHeartbeats 2000000 in
theorem lwAt_any (i n : Nat) (a : Option Addr) (len cap : Nat) (w : World) (hB : Byts w a len cap) (hl : len ≤ 1048600) (hi : i ≤ 1000) (hn : 2 ≤ n) (hn2 : n ≤ 100000) :
    Calls Tryz.prog 8 #[.slice a len cap, .int .i64 (i : Int), .int .i64 (n : Int)] w fun e w' => (∃ r : Nat, e = .returned (.int .i64 (r : Int)) ∧ r < n) ∧ Below w.heap.size w w' := by
  have HT := hide (fun q => (show Below w.heap.size w (w.drewN q) from ⟨rfl, rfl, rfl, Nat.le_refl _, fun _ _ => rfl⟩))
  have hn1 : ¬ (n : Int) ≤ 1 := by omega
  have hn0 : ¬ (n : Int) = 0 := by omega
  have hnb0 : ((n : Int) == 0) = false := by rw [beq_eq_false_iff_ne]; omega
  by_cases hl0 : len = 0
  · have hlb : ((len : Int) == 0) = true := by rw [hl0]; rfl
    have h7 : IntKind.i64.wrap ((i : Int) * 7) = (i : Int) * 7 := IntWalk.i64_in _ ⟨by omega, by omega⟩
    clear hl0 hB
    go_enter Tryz.func8, Tryz.ntmps8
    go_wp2_with fail
    go_ret
    have hr0 : 0 ≤ (i : Int) * 7 % (n : Int) := Int.emod_nonneg _ (by omega)
    have hr1 : (i : Int) * 7 % (n : Int) < (n : Int) := Int.emod_lt_of_pos _ (by omega)
    exact ⟨⟨((i : Int) * 7 % (n : Int)).toNat, by rw [Int.toNat_of_nonneg hr0]; rfl, by omega⟩, (unhide HT) 0⟩
  · have hlb : ((len : Int) == 0) = false := by rw [beq_eq_false_iff_ne]; omega
    have hlz : ¬ (len : Int) = 0 := by omega
    have hl0 : 0 < len := by omega
    obtain ⟨k1, hk1⟩ : ∃ k, k = i % len := ⟨_, rfl⟩
    obtain ⟨k2, hk2⟩ : ∃ k, k = i / len := ⟨_, rfl⟩
    have hk1l : k1 < len := by rw [hk1]; exact Nat.mod_lt _ hl0
    have hk2l : k2 ≤ i := by rw [hk2]; exact Nat.div_le_self _ _
    have hrem : (i : Int).tmod (len : Int) = (k1 : Int) := by rw [hk1]; rfl
    have hquo : (i : Int).tdiv (len : Int) = (k2 : Int) := by rw [hk2]; rfl
    obtain ⟨b, off, c, rfl, hb, hc, hcell⟩ := hB.2 k1 hk1l
    have hcell' : ∀ q, (w.drewN q).cell? ⟨b, off + k1, none⟩ = some (.int .u8 (c : Int)) := fun q => hcell
    have hi0 : (0 : Int) ≤ (k1 : Int) := by omega
    have hi1 : (k1 : Int) < (len : Int) := by omega
    have wq : IntKind.i64.wrap (k2 : Int) = (k2 : Int) := IntWalk.i64_in _ ⟨by omega, by omega⟩
    have w37 : IntKind.i64.wrap ((k2 : Int) * 3) = (k2 : Int) * 3 := IntWalk.i64_in _ ⟨by omega, by omega⟩
    have wc : IntKind.i64.wrap (c : Int) = (c : Int) := IntWalk.i64_in _ ⟨by omega, by omega⟩
    obtain ⟨V, hV⟩ : ∃ V : Nat, V = c + k2 * 3 := ⟨_, rfl⟩
    have wv : IntKind.i64.wrap ((c : Int) + (k2 : Int) * 3) = (V : Int) := by rw [IntWalk.i64_in _ ⟨by omega, by omega⟩, hV]; simp
    have hVl : V ≤ 255 + 3000 := by omega
    have HBY := hide hB
    clear hk1 hk2 hV hB
    by_cases h200 : 200 < n
    · have h2 : (200 : Int) < (n : Int) := by omega
      obtain ⟨k3, hk3⟩ : ∃ k, k = (i + 1) % len := ⟨_, rfl⟩
      have hk3l : k3 < len := by rw [hk3]; exact Nat.mod_lt _ hl0
      have hrem3 : ((i : Int) + 1).tmod (len : Int) = (k3 : Int) := by rw [hk3]; rfl
      obtain ⟨b3, off3, c3, he3, hb3, hc3, hcell3⟩ := (unhide HBY).2 k3 hk3l
      cases he3
      have hcell3' : ∀ q, (w.drewN q).cell? ⟨b, off + k3, none⟩ = some (.int .u8 (c3 : Int)) := fun q => hcell3
      have hj0 : (0 : Int) ≤ (k3 : Int) := by omega
      have hj1 : (k3 : Int) < (len : Int) := by omega
      have w1 : IntKind.i64.wrap ((i : Int) + 1) = (i : Int) + 1 := IntWalk.i64_in _ ⟨by omega, by omega⟩
      have w251 : IntKind.i64.wrap ((V : Int) * 251) = (V : Int) * 251 := IntWalk.i64_in _ ⟨by omega, by omega⟩
      have wc3 : IntKind.i64.wrap (c3 : Int) = (c3 : Int) := IntWalk.i64_in _ ⟨by omega, by omega⟩
      obtain ⟨U, hU⟩ : ∃ U : Nat, U = V * 251 + c3 := ⟨_, rfl⟩
      have ws1 : IntKind.i64.wrap ((V : Int) * 251 + (c3 : Int)) = (U : Int) := by rw [IntWalk.i64_in _ ⟨by omega, by omega⟩, hU]; simp
      clear hU hk3
      go_enter Tryz.func8, Tryz.ntmps8
      go_wp2_with fail
      go_quiet (fail)
      go_wp2_with fail
      try go_quiet (fail)
      try go_wp2_with fail
      go_ret
      have hr0 : 0 ≤ (U : Int) % (n : Int) := Int.emod_nonneg _ (by omega)
      have hr1 : (U : Int) % (n : Int) < (n : Int) := Int.emod_lt_of_pos _ (by omega)
      exact ⟨⟨((U : Int) % (n : Int)).toNat, by rw [Int.toNat_of_nonneg hr0]; rfl, by omega⟩, (unhide HT) _⟩
    · have h2 : ¬ (200 : Int) < (n : Int) := by omega
      go_enter Tryz.func8, Tryz.ntmps8
      go_wp2_with fail
      go_quiet (fail)
      go_wp2_with fail
      go_ret
      have hr0 : 0 ≤ (V : Int) % (n : Int) := Int.emod_nonneg _ (by omega)
      have hr1 : (V : Int) % (n : Int) < (n : Int) := Int.emod_lt_of_pos _ (by omega)
      exact ⟨⟨((V : Int) % (n : Int)).toNat, by rw [Int.toNat_of_nonneg hr0]; rfl, by omega⟩, (unhide HT) _⟩
end Go.Proofs.YtemehbjlfiebdaaGreat

namespace Go.Proofs.YtemehbjlfiebdaaGreat
open Go.RowKit Go.ChangeShapes Go.WideShapes
set_option linter.unusedVariables false
set_option linter.unusedSimpArgs false

/-- What the walks are told of a slice of bytes that is appended. -/
def BytR (w : World) (a : Option Addr) (len cap : Nat) : Prop := Byts w a len cap ∧ (a = none → cap = 0)
theorem BytR.below {w w' : World} {a : Option Addr} {len cap : Nat} (h : BytR w a len cap) (hb : Below w.heap.size w w') : BytR w' a len cap :=
  ⟨⟨h.1.1, fun i hi => by
    obtain ⟨b, off, c, h1, h2, h3, h4⟩ := h.1.2 i hi
    refine ⟨b, off, c, h1, Nat.lt_of_lt_of_le h2 hb.size, h3, ?_⟩
    rw [← h4]
    exact World.cell?_of_block (hb.block b h2)⟩, h.2⟩
section
variable {H : Type} {enc : TypeId × Value → H} {w : World} {base : Nat} {spare : Nat → Bool} {held : Bool}
theorem open_bytR {a : Option Addr} {len cap fuel : Nat} {x : DataW H × List MemPlace} (h : DataW.trod enc Tryz.prog w base spare held fuel 22 [.slice a len cap] = some x) : BytR w a len cap := by
  refine ⟨open_byts h, fun ha => ?_⟩
  rcases Go.Deep.open_slice Tryz.underlying22 h with ⟨hcs, _⟩ | ⟨ad, len', cap', m, n, D, Pl, hcs, _⟩
  · simp only [List.cons.injEq, Value.slice.injEq, and_true] at hcs
    exact hcs.2.2
  · simp only [List.cons.injEq, Value.slice.injEq, and_true] at hcs
    rw [hcs.1] at ha
    cases ha
end
namespace Dv
section
variable {W V : World} {B B' : Nat} {s s' : Value} {l l' : List M.Cl}
end
end Dv
namespace Od
variable {A C D : List M.Cl}
theorem out_eq (hA : M.valueFault A = 0) (hC : M.valueFault C = 0) {f : Nat} (hf : A.length ≤ f) : cmpOut A C = cmpL f A C := by
  unfold cmpOut
  rw [if_pos ⟨hA, hC⟩]
  exact cmpL_fuel _ _ _ _ hA (Nat.le_refl _) hf
theorem out_neg (hA : M.valueFault A = 0) (hC : M.valueFault C = 0) : cmpOut C A = - cmpOut A C := by
  rw [out_eq hA hC (f := A.length + C.length) (by omega), out_eq hC hA (f := A.length + C.length) (by omega)]
  exact cmpL_neg _ _ _ hC hA (by omega) (by omega)
theorem out_self (hA : M.valueFault A = 0) : cmpOut A A = 0 := by
  have := out_neg hA hA
  omega
theorem same_eq (hA : M.valueFault A = 0) (hC : M.valueFault C = 0) : sameOut A C = (cmpOut A C == 0) := by
  unfold sameOut cmpOut
  rw [if_pos ⟨hA, hC⟩]
  by_cases h : cmpL A.length A C = 0
  · simp [hA, hC, h]
  · simp [hA, hC, h]
end Od

end Go.Proofs.YtemehbjlfiebdaaGreat
