/-
  spec.l2Digits: the digits of a number.
-/
import Derived.Test.YtlbmpldknfcfhaaDoorV00
import Derived.Test.YtlbmpldknfcfhaaDoorV01
import Derived.BigQuiet
import Derived.BigRegion
import Derived.Deep.LoopGhost
import Derived.Deep.QuietTactic
import Derived.Deep.RegionHeld3
import Derived.Deep.RegionWith
import Derived.Laws.BytesArg
import Derived.Laws.RangeAny
import Derived.Lib.ItoaLen
import Derived.Lib.ItoaNum
import Derived.RegionTactic
namespace Go.Proofs.YtlbmpldknfcfhaaDoor
open Go.RowKit
set_option linter.unusedVariables false
set_option linter.unusedSimpArgs false

/-- A byte as a text. -/
theorem conv1 (d : Nat) (hd : d < 10) (b : Nat) (w : World) (h : w.cell? ⟨b, 0, none⟩ = some (.int .u8 (48 + (d : Int)))) :
    (convert 46 9 (.slice (some ⟨b, 0, none⟩) 1 1)).run Tryd.prog w = .ok (.string ⟨#[UInt8.ofNat (48 + d)]⟩) w := by
  have e := run_convert_bytes_arg (P := Tryd.prog) w 46 5 Tryd.underlying46 Tryd.underlying5 b 0 1 1 [48 + (d : Int)] rfl (fun i hi => by
    obtain rfl : i = 0 := by omega
    simpa using h) 9 Tryd.underlying9
  rw [e]
  have e2 : (48 + (d : Int)).toNat = 48 + d := by omega
  simp [strOfNums, e2]
theorem cell1 (w : World) (d : Nat) : (w.alloc (.cells #[.int .u8 (48 + (d : Int))] 5)).cell? ⟨w.heap.size, 0, none⟩ = some (.int .u8 (48 + (d : Int))) := by
  have O : Own (w.alloc (.cells #[.int .u8 (48 + (d : Int))] 5)) w.heap.size 5 [.int .u8 (48 + (d : Int))] := ⟨_, heap_alloc_new _ _, rfl⟩
  exact O.cell 0

set_option maxRecDepth 100000 in
set_option maxHeartbeats 2000000 in
theorem l2Digits_small (u : Nat) (hu : u < 10) (w : World) :
    Calls Tryd.prog 67 #[.int .i64 u] w fun e w' => e = .returned (.string ⟨(Lib.decDigits u).toArray⟩) ∧ Below w.heap.size w w' := by
  have hz : (u : Int) < 10 := by omega
  have hcv := conv1 u hu w.heap.size _ (cell1 w u)
  rw [Lib.decDigits_one hu]
  generalize UInt8.ofNat (48 + u) = c8 at *
  go_enter Tryd.func67, Tryd.ntmps67
  go_wp2_with fail
  go_ret
  exact ⟨rfl, (Below.refl _ _).alloc (Nat.le_refl _) _⟩

theorem kept1 {w w7 : World} {d : Nat} (hb : Below (w.alloc (.cells #[.int .u8 (48 + (d : Int))] 5)).drew.heap.size (w.alloc (.cells #[.int .u8 (48 + (d : Int))] 5)).drew w7) : w7.cell? ⟨w.heap.size, 0, none⟩ = some (.int .u8 (48 + (d : Int))) :=
  (hb.cell (p := ⟨w.heap.size, 0, none⟩) (by show w.heap.size < (w.alloc _).heap.size; simp)).trans (cell1 w d)
theorem ret_dig {a b : ByteArray} (h : a = b) : Ending.returned (.string a) = .returned (.string b) := by rw [h]
theorem bytes_snoc (V : List UInt8) (c : UInt8) : (⟨V.toArray⟩ : ByteArray) ++ ⟨#[c]⟩ = ⟨(V ++ [c]).toArray⟩ := by
  have e : ((⟨V.toArray⟩ : ByteArray) ++ ⟨#[c]⟩).data = (V ++ [c]).toArray := by rw [ByteArray.data_append]; simp
  cases h : ((⟨V.toArray⟩ : ByteArray) ++ ⟨#[c]⟩)
  rw [h] at e
  simp only at e
  rw [e]

set_option maxRecDepth 100000 in
set_option maxHeartbeats 1000000 in
theorem l2Digits_any (u : Nat) (hu : u ≤ 1000000000000000) : ∀ w : World,
    Calls Tryd.prog 67 #[.int .i64 u] w fun e w' => e = .returned (.string ⟨(Lib.decDigits u).toArray⟩) ∧ Below w.heap.size w w' := by
  induction u using Nat.strongRecOn with
  | _ u ih =>
    intro w
    by_cases h : u < 10
    · exact l2Digits_small u h w
    · have IH := hide (ih (u / 10) (by omega) (by omega))
      have hz : ¬ (u : Int) < 10 := by omega
      have hq : (u : Int).tdiv 10 = ((u / 10 : Nat) : Int) := by rw [Int.tdiv_eq_ediv_of_nonneg (by omega)]; omega
      have hr : (u : Int).tmod 10 = ((u % 10 : Nat) : Int) := by rw [Int.tmod_eq_emod_of_nonneg (by omega)]; omega
      have e : Lib.decDigits u = Lib.decDigits (u / 10) ++ [UInt8.ofNat (48 + u % 10)] := by rw [Lib.decDigits, dif_neg h]
      rw [e]
      have hd : u % 10 < 10 := by omega
      have hlen : (Lib.decDigits (u / 10)).length ≤ 21 := by
        have h := Lib.itoa_length_le ((u / 10 : Nat) : Int) (by omega) (by omega)
        unfold Lib.itoa at h
        rw [if_neg (by omega), Int.toNat_natCast] at h
        exact h
      have hw1 : IntKind.i64.wrap ((u / 10 : Nat) : Int) = ((u / 10 : Nat) : Int) := IntWalk.i64_in _ ⟨by omega, by omega⟩
      have hw2 : IntKind.i64.wrap (48 + ((u % 10 : Nat) : Int)) = 48 + ((u % 10 : Nat) : Int) := IntWalk.i64_in _ ⟨by omega, by omega⟩
      have hw3 : IntKind.u8.wrap (48 + ((u % 10 : Nat) : Int)) = 48 + ((u % 10 : Nat) : Int) := by unfold IntKind.wrap; simp [IntKind.signed, IntKind.bits]; omega
      clear ih e h
      have hU : (u : Int) ≤ 1000000000000000 := by omega
      have hv : u / 10 ≤ 100000000000000 := by omega
      clear hu
      generalize u / 10 = v at *
      generalize u % 10 = d at *
      generalize (u : Int) = U at *
      generalize Lib.decDigits v = V at *
      have hcv := fun (b : Nat) (wr : World) (h : wr.cell? ⟨b, 0, none⟩ = some (.int .u8 (48 + (d : Int)))) => conv1 d hd b wr h
      generalize UInt8.ofNat (48 + d) = c8 at *
      have HF := hide (bytes_snoc V c8)
      have hsz : (⟨V.toArray⟩ : ByteArray).size ≤ 21 := by simpa [ByteArray.size] using hlen
      have B0 : Below w.heap.size w w := Below.refl _ _
      clear hlen
      generalize (⟨V.toArray⟩ : ByteArray) = VV at *
      go_enter Tryd.func67, Tryd.ntmps67
      go_wp2_with fail
      go_region_with (go_at_call 67; refine ((unhide IH) _).mono ?_; rintro ec w7 ⟨rfl, hb7⟩; first | (have hc7 := kept1 hb7) | skip)
      all_goals
        go_wp2_with fail
        go_ret
        refine ⟨ret_dig (unhide HF), ?_⟩
        first
          | exact (Below.trans B0.drew hb7).alloc (by have := hb7.size; exact this) _
          | exact ((B0.alloc (Nat.le_refl _) _).drew).trans (hb7.mono (by show w.heap.size ≤ (w.alloc _).heap.size; simp))

end Go.Proofs.YtlbmpldknfcfhaaDoor
