/-
  The text of a value, as a plain function of its cells. No word of the program is used here.
  spec.l2Digits: the digits of a number.
  spec.l2Decimal and spec.l2Encode: the text of a value.
  spec.l2Encode: the text of a value, by induction on how many cells it has.
  impl.appendText, impl.appendParts: the text of the value at a place is laid behind a row of bytes of the call's own.
  impl.appendText.
  impl.EncodeString and spec.EncodeString answer encS.
  spec.EncodeValue and impl.EncodeValue answer encV.
-/
import Derived.Test.YtcolohilnmikiaaDoorCmpM
import Derived.Test.YtcolohilnmikiaaDoorQuoT
import Derived.Test.YtcolohilnmikiaaDoorNamM
import Derived.Test.YtcolohilnmikiaaDoorMem
import Derived.Test.YtcolohilnmikiaaDoorCmpU
import Derived.Test.YtcolohilnmikiaaDoorSS
import Derived.Test.YtcolohilnmikiaaDoorChildT
import Derived.Test.YtcolohilnmikiaaDoorShelfA
import Derived.Test.YtcolohilnmikiaaDoorFaultI
import Derived.Lib.ItoaNum
import Derived.Lib.ItoaLen
import Derived.Laws.BytesArg
import Derived.RegionTactic
import Derived.BigRegion
import Derived.Deep.RegionWith
import Derived.Deep.RegionHeld3
import Derived.Lib.AppendStr
import Derived.Lib.AppendIntMem
namespace Go.Proofs.YtcolohilnmikiaaDoor
open Go.RowKit
set_option linter.unusedVariables false
namespace J
/-- What stands ahead of the k-th part: a comma, and a member's key. -/
def ahead (obj : Bool) (ks : List ByteArray) (k : Nat) : List UInt8 := (if k = 0 then [] else [44]) ++ (if obj = true then quote (ks.getD k ByteArray.empty) ++ [58] else [])
/-- The texts of the first k parts. -/
def partsK (g : List M.Cl → List UInt8) (obj : Bool) (ks : List ByteArray) (ps : List (List M.Cl)) : Nat → List UInt8
  | 0 => []
  | k + 1 => partsK g obj ks ps k ++ (ahead obj ks k ++ g (ps.getD k []))
/-- The text of a value, by fuel. -/
def encL : Nat → List M.Cl → List UInt8
  | 0, _ => []
  | f + 1, v =>
    if (v.getD 0 M.zero).kind = 0 then [110, 117, 108, 108]
    else if (v.getD 0 M.zero).kind = 1 then [102, 97, 108, 115, 101]
    else if (v.getD 0 M.zero).kind = 2 then [116, 114, 117, 101]
    else if (v.getD 0 M.zero).kind = 3 then Lib.itoa (v.getD 0 M.zero).num
    else if (v.getD 0 M.zero).kind = 4 then quote (v.getD 0 M.zero).text
    else if (v.getD 0 M.zero).kind = 5 then [91] ++ partsK (encL f) false (keysAt v 0) (subs v 0) (M.arity v 0) ++ [93]
    else [123] ++ partsK (encL f) true (keysAt v 0) (subs v 0) (M.arity v 0) ++ [125]
theorem encL_part (f : Nat) {v : List M.Cl} (hv : M.valueFault v = 0) {a : Nat} (ha : a < v.length) : encL (f + 1) (part v a) =
    if (v.getD a M.zero).kind = 0 then [110, 117, 108, 108]
    else if (v.getD a M.zero).kind = 1 then [102, 97, 108, 115, 101]
    else if (v.getD a M.zero).kind = 2 then [116, 114, 117, 101]
    else if (v.getD a M.zero).kind = 3 then Lib.itoa (v.getD a M.zero).num
    else if (v.getD a M.zero).kind = 4 then quote (v.getD a M.zero).text
    else if (v.getD a M.zero).kind = 5 then [91] ++ partsK (encL f) false (keysAt v a) (subs v a) (M.arity v a) ++ [93]
    else [123] ++ partsK (encL f) true (keysAt v a) (subs v a) (M.arity v a) ++ [125] := by
  rw [encL, part_zero hv ha, (subs_part hv ha).1, (subs_part hv ha).2, part_arity hv ha]
theorem places_getD (v : List M.Cl) (a k : Nat) (hk : k < M.arity v a) : (M.places v a)[k]? = some (M.iter v k (a + 1)) := by
  simp [M.places, hk]
theorem subs_getD (v : List M.Cl) (a k : Nat) (hk : k < M.arity v a) : (subs v a).getD k [] = part v (M.iter v k (a + 1)) := by
  rw [List.getD_eq_getElem?_getD, subs, List.getElem?_map, places_getD v a k hk]; rfl
theorem keysAt_getD (v : List M.Cl) (a k : Nat) (hk : k < M.arity v a) : (keysAt v a).getD k ByteArray.empty = (v.getD (M.iter v k (a + 1)) M.zero).key := by
  rw [List.getD_eq_getElem?_getD, keysAt, List.getElem?_map, places_getD v a k hk]; rfl
theorem encL_whole (f : Nat) {v : List M.Cl} (hv : M.valueFault v = 0) (hl : 0 < v.length) : encL (f + 1) (part v 0) = encL (f + 1) v := by
  rw [encL_part f hv hl, encL]
theorem code_text {c : M.Cl} (h : M.cellCode c = 0) : c.text.size ≤ 60 ∧ c.key.size ≤ 60 ∧ -1000000000000000 ≤ c.num ∧ c.num ≤ 1000000000000000 ∧ 0 ≤ c.kind ∧ c.kind ≤ 6 := by
  unfold M.cellCode at h
  split at h
  · cases h
  split at h
  · cases h
  split at h
  · cases h
  split at h
  · rename_i h1 h2 h3 h4
    obtain ⟨t1, t2⟩ := h4
    unfold M.textOk at t1 t2
    simp only [Bool.and_eq_true, decide_eq_true_eq] at t1 t2
    exact ⟨t1.1, t2.1, by omega, by omega, by omega, by omega⟩
  · cases h
theorem ahead_length (obj : Bool) (ks : List ByteArray) (k : Nat) (hk : (ks.getD k ByteArray.empty).size ≤ 60) : (ahead obj ks k).length ≤ 130 := by
  have h := quote_length (ks.getD k ByteArray.empty)
  unfold ahead
  generalize ks.getD k ByteArray.empty = q at *
  rw [List.length_append]
  split <;> split <;> simp only [List.length_append, List.length_cons, List.length_nil] <;> omega
/-- The texts of the first parts, if each part has at most 400 bytes a cell. -/
theorem parts_length (f : Nat) (ih : ∀ (v : List M.Cl), M.valueFault v = 0 → ∀ a, a < v.length → (part v a).length ≤ f → (encL f (part v a)).length + 140 ≤ 400 * (M.endOf v a - a)) {v : List M.Cl} (hv : M.valueFault v = 0) {a : Nat} (ha : a < v.length) (hl : (part v a).length ≤ f + 1) (obj : Bool) (k : Nat) :
    k ≤ M.arity v a → (partsK (encL f) obj (keysAt v a) (subs v a) k).length ≤ 400 * (M.iter v k (a + 1) - (a + 1)) ∧ a + 1 + k ≤ M.iter v k (a + 1) := by
  have hg := end_gt hv ha
  have hpl := part_len hv ha
  obtain ⟨hin, hend, hle, har⟩ := M.places_in hv a ha
  induction k with
  | zero => intro _; exact ⟨by simp [partsK], by simp [M.iter]⟩
  | succ k ihk =>
    intro hk
    obtain ⟨h1, h2⟩ := ihk (by omega)
    have hp := hin k (by omega)
    have hpv : M.iter v k (a + 1) < v.length := by omega
    have hgp := end_gt hv hpv
    have hnx := M.iter_next v k (a + 1)
    have hlp := part_len hv hpv
    have hi : M.endOf v (M.iter v k (a + 1)) ≤ M.endOf v a := by
      rw [← hnx]
      by_cases e : k + 1 = M.arity v a
      · rw [e, hend]; exact Nat.le_refl _
      · exact Nat.le_of_lt (hin (k + 1) (by omega)).2
    have hr := ih v hv (M.iter v k (a + 1)) hpv (by omega)
    have hky : ((keysAt v a).getD k ByteArray.empty).size ≤ 60 := by rw [keysAt_getD v a k (by omega)]; exact (code_text (code_at hv _ hpv)).2.1
    have ha' := ahead_length obj (keysAt v a) k hky
    rw [partsK, List.length_append, List.length_append, subs_getD v a k (by omega), hnx]
    exact ⟨by omega, by omega⟩
/-- At most 400 bytes a cell. -/
theorem encL_length (f : Nat) : ∀ (v : List M.Cl), M.valueFault v = 0 → ∀ a, a < v.length → (part v a).length ≤ f → (encL f (part v a)).length + 140 ≤ 400 * (M.endOf v a - a) := by
  induction f with
  | zero => intro v hv a ha h0; have := part_len hv ha; have := (end_gt hv ha).1; omega
  | succ f ih =>
    intro v hv a ha hl
    have hg := end_gt hv ha
    obtain ⟨hin, hend, hle, har⟩ := M.places_in hv a ha
    have hcode := code_text (code_at hv a ha)
    have hq := quote_length (v.getD a M.zero).text
    have hi := Lib.itoa_length_le (v.getD a M.zero).num (by omega) (by omega)
    have h5 := parts_length f ih hv ha hl false _ (Nat.le_refl _)
    have h6 := parts_length f ih hv ha hl true _ (Nat.le_refl _)
    rw [encL_part f hv ha]
    rw [hend] at h5 h6
    repeat' split
    all_goals (try simp only [List.length_append, List.length_cons, List.length_nil])
    all_goals omega
theorem parts_bd (f : Nat) {v : List M.Cl} (hv : M.valueFault v = 0) {a : Nat} (ha : a < v.length) (hl : (part v a).length ≤ f + 1) (obj : Bool) (k : Nat) (hk : k ≤ M.arity v a) : (partsK (encL f) obj (keysAt v a) (subs v a) k).length ≤ 80000 := by
  have h := parts_length f (encL_length f) hv ha hl obj k hk
  obtain ⟨hin, hend, hle, har⟩ := M.places_in hv a ha
  have h200 := (M.fault_zero hv).2.1
  have : M.iter v k (a + 1) ≤ M.endOf v a := by
    by_cases e : k = M.arity v a
    · rw [e, hend]; exact Nat.le_refl _
    · exact Nat.le_of_lt (hin k (by omega)).2
  omega
theorem enc_bd (f : Nat) {v : List M.Cl} (hv : M.valueFault v = 0) {a : Nat} (ha : a < v.length) (hl : (part v a).length ≤ f) : (encL f (part v a)).length ≤ 80000 := by
  have h := encL_length f v hv a ha hl
  have := (end_gt hv ha).2
  have h200 := (M.fault_zero hv).2.1
  omega
end J

end Go.Proofs.YtcolohilnmikiaaDoor

namespace Go.Proofs.YtcolohilnmikiaaDoor
open Go.RowKit
set_option linter.unusedVariables false
set_option linter.unusedSimpArgs false

/-- A byte as a text. -/
theorem conv1 (d : Nat) (hd : d < 10) (b : Nat) (w : World) (h : w.cell? ⟨b, 0, none⟩ = some (.int .u8 (48 + (d : Int)))) :
    (convert 62 9 (.slice (some ⟨b, 0, none⟩) 1 1)).run Tryd.prog w = .ok (.string ⟨#[UInt8.ofNat (48 + d)]⟩) w := by
  have e := run_convert_bytes_arg (P := Tryd.prog) w 62 5 Tryd.underlying62 Tryd.underlying5 b 0 1 1 [48 + (d : Int)] rfl (fun i hi => by
    obtain rfl : i = 0 := by omega
    simpa using h) 9 Tryd.underlying9
  rw [e]
  have e2 : (48 + (d : Int)).toNat = 48 + d := by omega
  simp [strOfNums, e2]
theorem cell1 (w : World) (d : Nat) : (w.alloc (.cells #[.int .u8 (48 + (d : Int))] 5)).cell? ⟨w.heap.size, 0, none⟩ = some (.int .u8 (48 + (d : Int))) := by
  have O : Own (w.alloc (.cells #[.int .u8 (48 + (d : Int))] 5)) w.heap.size 5 [.int .u8 (48 + (d : Int))] := ⟨_, heap_alloc_new _ _, rfl⟩
  exact O.cell 0

set_option maxRecDepth 100000 in
set_option maxHeartbeats 2000000 in
theorem l2Digits_small (u : Nat) (hu : u < 10) (w : World) :
    Calls Tryd.prog 25 #[.int .i64 u] w fun e w' => e = .returned (.string ⟨(Lib.decDigits u).toArray⟩) ∧ Below w.heap.size w w' := by
  have hz : (u : Int) < 10 := by omega
  have hcv := conv1 u hu w.heap.size _ (cell1 w u)
  rw [Lib.decDigits_one hu]
  generalize UInt8.ofNat (48 + u) = c8 at *
  go_enter Tryd.func25, Tryd.ntmps25
  go_wp2_with fail
  go_ret
  exact ⟨rfl, (Below.refl _ _).alloc (Nat.le_refl _) _⟩

theorem kept1 {w w7 : World} {d : Nat} (hb : Below (w.alloc (.cells #[.int .u8 (48 + (d : Int))] 5)).drew.heap.size (w.alloc (.cells #[.int .u8 (48 + (d : Int))] 5)).drew w7) : w7.cell? ⟨w.heap.size, 0, none⟩ = some (.int .u8 (48 + (d : Int))) :=
  (hb.cell (p := ⟨w.heap.size, 0, none⟩) (by show w.heap.size < (w.alloc _).heap.size; simp)).trans (cell1 w d)
theorem ret_dig {a b : ByteArray} (h : a = b) : Ending.returned (.string a) = .returned (.string b) := by rw [h]
theorem bytes_snoc (V : List UInt8) (c : UInt8) : (⟨V.toArray⟩ : ByteArray) ++ ⟨#[c]⟩ = ⟨(V ++ [c]).toArray⟩ := by
  have e : ((⟨V.toArray⟩ : ByteArray) ++ ⟨#[c]⟩).data = (V ++ [c]).toArray := by rw [ByteArray.data_append]; simp
  cases h : ((⟨V.toArray⟩ : ByteArray) ++ ⟨#[c]⟩)
  rw [h] at e
  simp only at e
  rw [e]

set_option maxRecDepth 100000 in
set_option maxHeartbeats 1000000 in
theorem l2Digits_any (u : Nat) (hu : u ≤ 1000000000000000) : ∀ w : World,
    Calls Tryd.prog 25 #[.int .i64 u] w fun e w' => e = .returned (.string ⟨(Lib.decDigits u).toArray⟩) ∧ Below w.heap.size w w' := by
  induction u using Nat.strongRecOn with
  | _ u ih =>
    intro w
    by_cases h : u < 10
    · exact l2Digits_small u h w
    · have IH := hide (ih (u / 10) (by omega) (by omega))
      have hz : ¬ (u : Int) < 10 := by omega
      have hq : (u : Int).tdiv 10 = ((u / 10 : Nat) : Int) := by rw [Int.tdiv_eq_ediv_of_nonneg (by omega)]; omega
      have hr : (u : Int).tmod 10 = ((u % 10 : Nat) : Int) := by rw [Int.tmod_eq_emod_of_nonneg (by omega)]; omega
      have e : Lib.decDigits u = Lib.decDigits (u / 10) ++ [UInt8.ofNat (48 + u % 10)] := by rw [Lib.decDigits, dif_neg h]
      rw [e]
      have hd : u % 10 < 10 := by omega
      have hlen : (Lib.decDigits (u / 10)).length ≤ 21 := by
        have h := Lib.itoa_length_le ((u / 10 : Nat) : Int) (by omega) (by omega)
        unfold Lib.itoa at h
        rw [if_neg (by omega), Int.toNat_natCast] at h
        exact h
      have hw1 : IntKind.i64.wrap ((u / 10 : Nat) : Int) = ((u / 10 : Nat) : Int) := IntWalk.i64_in _ ⟨by omega, by omega⟩
      have hw2 : IntKind.i64.wrap (48 + ((u % 10 : Nat) : Int)) = 48 + ((u % 10 : Nat) : Int) := IntWalk.i64_in _ ⟨by omega, by omega⟩
      have hw3 : IntKind.u8.wrap (48 + ((u % 10 : Nat) : Int)) = 48 + ((u % 10 : Nat) : Int) := by unfold IntKind.wrap; simp [IntKind.signed, IntKind.bits]; omega
      clear ih e h
      have hU : (u : Int) ≤ 1000000000000000 := by omega
      have hv : u / 10 ≤ 100000000000000 := by omega
      clear hu
      generalize u / 10 = v at *
      generalize u % 10 = d at *
      generalize (u : Int) = U at *
      generalize Lib.decDigits v = V at *
      have hcv := fun (b : Nat) (wr : World) (h : wr.cell? ⟨b, 0, none⟩ = some (.int .u8 (48 + (d : Int)))) => conv1 d hd b wr h
      generalize UInt8.ofNat (48 + d) = c8 at *
      have HF := hide (bytes_snoc V c8)
      have hsz : (⟨V.toArray⟩ : ByteArray).size ≤ 21 := by simpa [ByteArray.size] using hlen
      have B0 : Below w.heap.size w w := Below.refl _ _
      clear hlen
      generalize (⟨V.toArray⟩ : ByteArray) = VV at *
      go_enter Tryd.func25, Tryd.ntmps25
      go_wp2_with fail
      go_region_with (go_at_call 25; refine ((unhide IH) _).mono ?_; rintro ec w7 ⟨rfl, hb7⟩; first | (have hc7 := kept1 hb7) | skip)
      all_goals
        go_wp2_with fail
        go_ret
        refine ⟨ret_dig (unhide HF), ?_⟩
        first
          | exact (Below.trans B0.drew hb7).alloc (by have := hb7.size; exact this) _
          | exact ((B0.alloc (Nat.le_refl _) _).drew).trans (hb7.mono (by show w.heap.size ≤ (w.alloc _).heap.size; simp))

end Go.Proofs.YtcolohilnmikiaaDoor

namespace Go.Proofs.YtcolohilnmikiaaDoor
open Go.RowKit
set_option linter.unusedVariables false
set_option linter.unusedSimpArgs false

theorem decDigits_le (u : Nat) (hu : u ≤ 1000000000000000) : (Lib.decDigits u).length ≤ 21 := by
  have h := Lib.itoa_length_le (u : Int) (by omega) (by omega)
  unfold Lib.itoa at h
  rw [if_neg (by omega)] at h
  simpa using h

set_option maxRecDepth 100000 in
set_option maxHeartbeats 2000000 in
theorem l2Decimal_any (n : Int) (h0 : -1000000000000000 ≤ n) (h1 : n ≤ 1000000000000000) (w : World) :
    Calls Tryd.prog 53 #[.int .i64 n] w fun e w' => e = .returned (.string (J.bytes (Lib.itoa n))) ∧ Below w.heap.size w w' := by
  by_cases hz : n < 0
  · obtain ⟨u, hu, hu2⟩ : ∃ u : Nat, n = -(u : Int) ∧ 1 ≤ u := ⟨n.natAbs, by omega, by omega⟩
    have HD := hide (l2Digits_any u (by omega))
    have hl := decDigits_le u (by omega)
    have e : Lib.itoa n = 45 :: Lib.decDigits u := by unfold Lib.itoa; rw [if_pos hz]; congr 2; omega
    have fin : Hid (({ data := #[45] } : ByteArray) ++ ⟨(Lib.decDigits u).toArray⟩ = J.bytes (Lib.itoa n)) := by
      show _ = _
      rw [e]
      exact J.bytes_append [45] (Lib.decDigits u)
    have hsz : (⟨(Lib.decDigits u).toArray⟩ : ByteArray).size ≤ 21 := by simpa [ByteArray.size] using hl
    clear e hl
    have hneg : -n = (u : Int) := by omega
    generalize (⟨(Lib.decDigits u).toArray⟩ : ByteArray) = D at *
    generalize J.bytes (Lib.itoa n) = R at *
    clear hu
    go_enter Tryd.func53, Tryd.ntmps53
    go_wp2_with fail
    refine ((unhide HD) _).mono ?_
    rintro e w1 ⟨rfl, hb1⟩
    go_wp2_with fail
    go_ret
    exact ⟨ret_string fin.out, hb1⟩
  · obtain ⟨u, rfl⟩ : ∃ u : Nat, n = (u : Int) := ⟨n.toNat, by omega⟩
    have HD := hide (l2Digits_any u (by omega))
    have fin : Hid ((⟨(Lib.decDigits u).toArray⟩ : ByteArray) = J.bytes (Lib.itoa u)) := by
      show _ = _
      unfold Lib.itoa; rw [if_neg hz, Int.toNat_natCast]; rfl
    go_enter Tryd.func53, Tryd.ntmps53
    go_wp2_with fail
    refine ((unhide HD) _).mono ?_
    rintro e w1 ⟨rfl, hb1⟩
    go_wp2_with fail
    go_ret
    exact ⟨ret_string fin.out, hb1⟩

end Go.Proofs.YtcolohilnmikiaaDoor

namespace Go.Proofs.YtcolohilnmikiaaDoor
open Go.RowKit
set_option linter.unusedVariables false
set_option linter.unusedSimpArgs false

/-- What is promised of spec.l2Encode for values of at most f cells. -/
def EncSays (f : Nat) : Prop := ∀ (A : List M.Cl) (b off cap : Nat) (w : World), M.valueFault A = 0 → A.length ≤ f → Row w b off A → b < w.heap.size → A.length ≤ cap → (∀ c ∈ A, c.ok) →
  Calls Tryd.prog 27 #[.slice (some ⟨b, off, none⟩) A.length cap] w fun e w' => e = .returned (.string (J.bytes (J.encL f A))) ∧ Below w.heap.size w w'
theorem encS_0 (f : Nat) (A : List M.Cl) (h : (A.getD 0 M.zero).kind = 0) : J.encL (f + 1) A = [110, 117, 108, 108] := by rw [J.encL, if_pos h]
theorem encS_1 (f : Nat) (A : List M.Cl) (h : (A.getD 0 M.zero).kind = 1) : J.encL (f + 1) A = [102, 97, 108, 115, 101] := by rw [J.encL, if_neg (by omega), if_pos h]
theorem encS_2 (f : Nat) (A : List M.Cl) (h : (A.getD 0 M.zero).kind = 2) : J.encL (f + 1) A = [116, 114, 117, 101] := by rw [J.encL, if_neg (by omega), if_neg (by omega), if_pos h]
theorem encS_3 (f : Nat) (A : List M.Cl) (h : (A.getD 0 M.zero).kind = 3) : J.encL (f + 1) A = Lib.itoa (A.getD 0 M.zero).num := by rw [J.encL, if_neg (by omega), if_neg (by omega), if_neg (by omega), if_pos h]
theorem encS_4 (f : Nat) (A : List M.Cl) (h : (A.getD 0 M.zero).kind = 4) : J.encL (f + 1) A = J.quote (A.getD 0 M.zero).text := by rw [J.encL, if_neg (by omega), if_neg (by omega), if_neg (by omega), if_neg (by omega), if_pos h]
theorem encS_5 (f : Nat) (A : List M.Cl) (h : (A.getD 0 M.zero).kind = 5) : J.encL (f + 1) A = [91] ++ J.partsK (J.encL f) false (keysAt A 0) (subs A 0) (M.arity A 0) ++ [93] := by
  rw [J.encL, if_neg (by omega), if_neg (by omega), if_neg (by omega), if_neg (by omega), if_neg (by omega), if_pos h]
theorem encS_6 (f : Nat) (A : List M.Cl) (h : (A.getD 0 M.zero).kind = 6) : J.encL (f + 1) A = [123] ++ J.partsK (J.encL f) true (keysAt A 0) (subs A 0) (M.arity A 0) ++ [125] := by
  rw [J.encL, if_neg (by omega), if_neg (by omega), if_neg (by omega), if_neg (by omega), if_neg (by omega), if_neg (by omega)]
theorem bytes_two (a b : List UInt8) : J.bytes (a ++ b) = J.bytes a ++ J.bytes b := (J.bytes_append a b).symm
/-- Each part of a value: what is said of it. -/
theorem sub_ok {A : List M.Cl} (hA : M.valueFault A = 0) (hok : ∀ c ∈ A, c.ok) {f : Nat} (hAf : A.length ≤ f + 1) (i : Nat) (hi : i < M.arity A 0) :
    M.valueFault ((subs A 0).getD i []) = 0 ∧ ((subs A 0).getD i []).length ≤ f ∧ (∀ c ∈ (subs A 0).getD i [], c.ok) := by
  have h1 := (M.fault_zero hA).1
  have hl : i < (subs A 0).length := by rw [subs_length]; exact hi
  have hm : (subs A 0).getD i [] ∈ subs A 0 := by
    rw [List.getD_eq_getElem?_getD, List.getElem?_eq_getElem hl]; exact List.getElem_mem hl
  obtain ⟨a, b, c⟩ := subs_ok hA hok (show 0 < A.length by omega) _ hm
  exact ⟨a, by omega, c⟩
theorem key_ok {A : List M.Cl} (hA : M.valueFault A = 0) (i : Nat) (hi : i < M.arity A 0) : ((keysAt A 0).getD i ByteArray.empty).size ≤ 60 := by
  have h1 := (M.fault_zero hA).1
  have hin := (M.places_in hA 0 (by omega)).1 i hi
  have hle := (M.places_in hA 0 (by omega)).2.2.1
  rw [J.keysAt_getD A 0 i hi]
  exact (J.code_text (code_at hA _ (by omega))).2.1

set_option maxHeartbeats 1000000 in
theorem l2Encode_0 (f : Nat) (A : List M.Cl) (b off cap : Nat) (w : World) (hl : 1 ≤ A.length) (h200 : A.length ≤ 200) (hr : Row w b off A) (hcap : A.length ≤ cap) (hk : (A.getD 0 M.zero).kind = 0) :
    Calls Tryd.prog 27 #[.slice (some ⟨b, off, none⟩) A.length cap] w fun e w' => e = .returned (.string (J.bytes (J.encL (f + 1) A))) ∧ Below w.heap.size w w' := by
  rw [encS_0 f A hk]
  obtain ⟨x0, -, -, -, -⟩ := hr 0 (by omega)
  simp only [Nat.zero_mul, Nat.add_zero] at x0
  rw [hk] at x0
  clear hr hk
  go_enter Tryd.func27, Tryd.ntmps27
  go_wp2_with fail
  go_ret
  exact ⟨rfl, Below.refl _ _⟩

set_option maxHeartbeats 1000000 in
theorem l2Encode_1 (f : Nat) (A : List M.Cl) (b off cap : Nat) (w : World) (hl : 1 ≤ A.length) (h200 : A.length ≤ 200) (hr : Row w b off A) (hcap : A.length ≤ cap) (hk : (A.getD 0 M.zero).kind = 1) :
    Calls Tryd.prog 27 #[.slice (some ⟨b, off, none⟩) A.length cap] w fun e w' => e = .returned (.string (J.bytes (J.encL (f + 1) A))) ∧ Below w.heap.size w w' := by
  rw [encS_1 f A hk]
  obtain ⟨x0, -, -, -, -⟩ := hr 0 (by omega)
  simp only [Nat.zero_mul, Nat.add_zero] at x0
  rw [hk] at x0
  clear hr hk
  go_enter Tryd.func27, Tryd.ntmps27
  go_wp2_with fail
  go_ret
  exact ⟨rfl, Below.refl _ _⟩

set_option maxHeartbeats 1000000 in
theorem l2Encode_2 (f : Nat) (A : List M.Cl) (b off cap : Nat) (w : World) (hl : 1 ≤ A.length) (h200 : A.length ≤ 200) (hr : Row w b off A) (hcap : A.length ≤ cap) (hk : (A.getD 0 M.zero).kind = 2) :
    Calls Tryd.prog 27 #[.slice (some ⟨b, off, none⟩) A.length cap] w fun e w' => e = .returned (.string (J.bytes (J.encL (f + 1) A))) ∧ Below w.heap.size w w' := by
  rw [encS_2 f A hk]
  obtain ⟨x0, -, -, -, -⟩ := hr 0 (by omega)
  simp only [Nat.zero_mul, Nat.add_zero] at x0
  rw [hk] at x0
  clear hr hk
  go_enter Tryd.func27, Tryd.ntmps27
  go_wp2_with fail
  go_ret
  exact ⟨rfl, Below.refl _ _⟩

set_option maxHeartbeats 1000000 in
theorem l2Encode_3 (f : Nat) (A : List M.Cl) (b off cap : Nat) (w : World) (hA : M.valueFault A = 0) (hl : 1 ≤ A.length) (h200 : A.length ≤ 200) (hr : Row w b off A) (hcap : A.length ≤ cap) (hk : (A.getD 0 M.zero).kind = 3) :
    Calls Tryd.prog 27 #[.slice (some ⟨b, off, none⟩) A.length cap] w fun e w' => e = .returned (.string (J.bytes (J.encL (f + 1) A))) ∧ Below w.heap.size w w' := by
  have hc := J.code_text (code_at hA 0 (by omega))
  rw [encS_3 f A hk]
  obtain ⟨x0, x1, -, -, -⟩ := hr 0 (by omega)
  simp only [Nat.zero_mul, Nat.add_zero] at x0 x1
  rw [hk] at x0
  clear hr hk hA
  generalize (A.getD 0 M.zero).num = n at *
  have HD := hide (fun w => l2Decimal_any n hc.2.2.1 hc.2.2.2.1 w)
  clear hc
  go_enter Tryd.func27, Tryd.ntmps27
  go_wp2_with fail
  refine ((unhide HD) _).mono ?_
  rintro e w1 ⟨rfl, hb1⟩
  go_wp2_with fail
  go_ret
  exact ⟨rfl, hb1⟩

set_option maxHeartbeats 1000000 in
theorem l2Encode_4 (f : Nat) (A : List M.Cl) (b off cap : Nat) (w : World) (hA : M.valueFault A = 0) (hl : 1 ≤ A.length) (h200 : A.length ≤ 200) (hr : Row w b off A) (hcap : A.length ≤ cap) (hk : (A.getD 0 M.zero).kind = 4) :
    Calls Tryd.prog 27 #[.slice (some ⟨b, off, none⟩) A.length cap] w fun e w' => e = .returned (.string (J.bytes (J.encL (f + 1) A))) ∧ Below w.heap.size w w' := by
  have hc := J.code_text (code_at hA 0 (by omega))
  rw [encS_4 f A hk]
  obtain ⟨x0, -, x2, -, -⟩ := hr 0 (by omega)
  simp only [Nat.zero_mul, Nat.add_zero] at x0 x2
  rw [hk] at x0
  clear hr hk hA
  generalize (A.getD 0 M.zero).text = n at *
  have HD := hide (fun w => l2Quote_any n w hc.1)
  clear hc
  go_enter Tryd.func27, Tryd.ntmps27
  go_wp2_with fail
  refine ((unhide HD) _).mono ?_
  rintro e w1 ⟨rfl, hw1⟩
  subst hw1
  go_wp2_with fail
  go_ret
  exact ⟨rfl, Below.refl _ _⟩

set_option maxRecDepth 100000 in
set_option maxHeartbeats 4000000 in
theorem l2Encode_5 (f : Nat) (IH : Hid (EncSays f)) (A : List M.Cl) (b off cap : Nat) (w : World) (hA : M.valueFault A = 0) (hAf : A.length ≤ f + 1) (hr : Row w b off A) (hb : b < w.heap.size) (hcap : A.length ≤ cap) (hok : ∀ c ∈ A, c.ok) (hk : (A.getD 0 M.zero).kind = 5) :
    Calls Tryd.prog 27 #[.slice (some ⟨b, off, none⟩) A.length cap] w fun e w' => e = .returned (.string (J.bytes (J.encL (f + 1) A))) ∧ Below w.heap.size w w' := by
  have hl := (M.fault_zero hA).1
  have h200 := (M.fault_zero hA).2.1
  have hn200 := (M.places_in hA 0 (by omega)).2.2.2
  rw [encS_5 f A hk]
  obtain ⟨x0, -, -, -, -⟩ := hr 0 (by omega)
  simp only [Nat.zero_mul, Nat.add_zero] at x0
  rw [hk] at x0
  have HPA := hide (fun w' (hbl : Below w.heap.size w w') => l1Parts_any A b off cap w' hA (hr.below hbl hb) (Nat.lt_of_lt_of_le hb hbl.size) hcap hok)
  have HKA := hide (fun w' (hbl : Below w.heap.size w w') => l1Keys_any A b off cap w' hA (hr.below hbl hb) (Nat.lt_of_lt_of_le hb hbl.size) hcap hok)
  have HSO := hide (fun i hi => sub_ok hA hok hAf i hi)
  have HKO := hide (fun i hi => key_ok hA i hi)
  have HBD := hide (fun i hi => J.parts_bd f hA (show 0 < A.length by omega) (by have := part_len hA (show 0 < A.length by omega); have := (end_gt hA (show 0 < A.length by omega)).2; omega) false i hi)
  have HSL := hide (subs_length A 0)
  have HKL := hide (keysAt_length A 0)
  clear hA hAf hr hok hk
  have HX : Hid (∀ w', Below w.heap.size w w' → w'.cell? ⟨b, off, none⟩ = some (.int .i64 5)) := fun w' hbl => (hbl.cell (p := ⟨b, off, none⟩) hb).trans x0
  generalize subs A 0 = ps at *
  generalize keysAt A 0 = ks at *
  generalize M.arity A 0 = n at *
  generalize A.length = al at *
  go_enter Tryd.func27, Tryd.ntmps27
  go_wp2_with fail
  refine ((unhide HPA) _ (Below.refl _ _)).mono ?_
  rintro e w1 ⟨s1, rfl, hs1, hb1⟩
  obtain ⟨a1, c1, rfl⟩ : ∃ a c, s1 = Value.slice a n c := by obtain ⟨_, _, h, _⟩ := hs1; obtain ⟨a, c, h⟩ := shape_len h; rw [unhide HSL] at h; exact ⟨_, _, h⟩
  have hx1 := HX.out w1 hb1
  go_wp2_with fail
  refine ((unhide HKA) _ hb1).mono ?_
  rintro e w2 ⟨s2, rfl, hs2, hb2⟩
  have B2 : Below w.heap.size w w2 := hb1.trans (hb2.mono hb1.size)
  have hS := hide (hs1.below hb2)
  have hK := hide hs2
  obtain ⟨a2, c2, rfl⟩ : ∃ a c, s2 = Value.slice a n c := by obtain ⟨a, c, h⟩ := shape_len hs2; rw [unhide HKL] at h; exact ⟨_, _, h⟩
  clear hs1 hs2 hb1 hb2 hx1 x0 HPA HKA
  go_wp2_with fail
  go_loopg [5, 6] n (fun gn s5 s6 wr => ∃ (i : Nat) (o : ByteArray), Hid (gn = n - i) ∧ s5 = .string o ∧ s6 = .int .i64 i ∧ i ≤ n ∧ Hid (o = J.bytes (J.partsK (J.encL f) false ks ps i)) ∧ Below w2.heap.size w2 wr)
  case atStart => exact ⟨0, _, rfl, rfl, rfl, by omega, rfl, Below.refl _ _⟩
  case round =>
    obtain ⟨i, o, hg, rfl, rfl, hi, ho, hbel⟩ := hrel
    have hbd := (unhide HBD) i hi
    have hosz : o.size ≤ 80000 := by rw [ho.out, J.bytes_size]; exact hbd
    have BW : Below w.heap.size w wr := B2.trans (hbel.mono B2.size)
    have hx := HX.out wr BW
    by_cases hlt : i < n
    · have hltI : (i : Int) < (n : Int) := by omega
      have hS' := (unhide hS).below hbel
      have hK' := (unhide hK).below hbel
      obtain ⟨ss, hs1, hs2, hs3⟩ := hS'
      rw [unhide HSL] at hs1 hs2 hs3
      rcases ownsRow_form hs2 with ⟨h0, _⟩ | ⟨hp, g, c, hgv, hgc, hgb⟩
      · omega
      obtain ⟨rfl, rfl⟩ : a1 = some ⟨g, 0, none⟩ ∧ c1 = c := by injection hgv with e1 e2 e3; exact ⟨e1, e3⟩
      obtain ⟨k1, k2, k3⟩ := (unhide HSO) i hlt
      have f1 := hs2.cellAt i (by omega)
      have q1 := hs3 i hlt
      obtain ⟨b1, d1, e1, l1, o1⟩ := res_some q1 k1
      have g1 : ss[i]? = some (.slice (some ⟨b1, 0, none⟩) (ps.getD i []).length d1) := by
        rw [List.getElem?_eq_getElem (by omega)]
        rw [List.getD_eq_getElem?_getD, List.getElem?_eq_getElem (by omega)] at e1
        simpa using e1
      rw [g1] at f1
      have HC := hide (fun w' (hbb : Below wr.heap.size wr w') => (unhide IH) (ps.getD i []) b1 0 d1 w' k1 k2 (o1.row.below hbb o1.lt) (Nat.lt_of_lt_of_le o1.lt hbb.size) l1 k3)
      have hbd2 := (unhide HBD) (i + 1) hlt
      have hps : J.partsK (J.encL f) false ks ps (i + 1) = J.partsK (J.encL f) false ks ps i ++ (J.ahead false ks i ++ J.encL f (ps.getD i [])) := rfl
      have hal : (J.encL f (ps.getD i [])).length ≤ 80000 := by rw [hps, List.length_append, List.length_append] at hbd2; omega
      have hes : (J.bytes (J.encL f (ps.getD i []))).size ≤ 80000 := by rw [J.bytes_size]; exact hal
      by_cases h0 : i = 0
      · have hnext : Hid (J.bytes (J.partsK (J.encL f) false ks ps (i + 1)) = o ++ J.bytes (J.encL f (ps.getD i []))) := by
          show _ = _
          have ha : J.ahead false ks i = [] ++ [] := by unfold J.ahead; rw [if_pos h0]; rw [if_neg (by decide)]
          rw [ho.out, hps, ha]
          simp only [bytes_two, ByteArray.append_assoc, List.append_nil, List.nil_append]
          try rfl
        have hz : ¬ (0 : Int) < (i : Int) := by omega
        clear hps hbd hbd2 hal hs1 hs2 hs3 k1 k2 k3 e1 q1 g1 hp hgc hgb hgv l1 o1 h0 hK'
        generalize J.bytes (J.encL f (ps.getD i [])) = E at *
        generalize (ps.getD i []).length = pl at *
        go_wp2_with fail
        refine ((unhide HC) _ (Below.refl _ _)).mono ?_
        rintro e w4 ⟨rfl, hb4⟩
        all_goals
          have B4 : Below w2.heap.size w2 w4 := hbel.trans (hb4.mono hbel.size)
          clear hb4
          go_wp2_with fail
          go_roundg (n - (i + 1))
          case rel => exact ⟨i + 1, _, rfl, rfl, by go_num, by omega, by (show _ = _; rw [hnext.out]), B4⟩
          case measure => have := hg.out; omega
      · have hnext : Hid (J.bytes (J.partsK (J.encL f) false ks ps (i + 1)) = o ++ { data := #[44] } ++ J.bytes (J.encL f (ps.getD i []))) := by
          show _ = _
          have ha : J.ahead false ks i = [44] ++ [] := by unfold J.ahead; rw [if_neg h0]; rw [if_neg (by decide)]
          rw [ho.out, hps, ha]
          simp only [bytes_two, ByteArray.append_assoc, List.append_nil, List.nil_append]
          try rfl
        have hz : (0 : Int) < (i : Int) := by omega
        have hosz2 : (o ++ ({ data := #[44] } : ByteArray)).size ≤ 80001 := by rw [ByteArray.size_append]; show o.size + 1 ≤ 80001; omega
        clear hps hbd hbd2 hal hs1 hs2 hs3 k1 k2 k3 e1 q1 g1 hp hgc hgb hgv l1 o1 h0 hK'
        generalize J.bytes (J.encL f (ps.getD i [])) = E at *
        generalize (ps.getD i []).length = pl at *
        go_wp2_with fail
        refine ((unhide HC) _ (Below.refl _ _)).mono ?_
        rintro e w4 ⟨rfl, hb4⟩
        all_goals
          have B4 : Below w2.heap.size w2 w4 := hbel.trans (hb4.mono hbel.size)
          clear hb4
          go_wp2_with fail
          go_roundg (n - (i + 1))
          case rel => exact ⟨i + 1, _, rfl, rfl, by go_num, by omega, by (show _ = _; rw [hnext.out]), B4⟩
          case measure => have := hg.out; omega
    · have hge : ¬ (i : Int) < (n : Int) := by omega
      have hie : i = n := by omega
      have fin : Hid (({ data := #[91] } : ByteArray) ++ o ++ { data := #[93] } = J.bytes ([91] ++ J.partsK (J.encL f) false ks ps n ++ [93])) := by
        show _ = _
        rw [ho.out, hie, bytes_two, bytes_two]
        rfl
      have hs1 : (({ data := #[91] } : ByteArray) ++ o).size ≤ 80001 := by rw [ByteArray.size_append]; show 1 + o.size ≤ 80001; omega
      clear hie hbd
      go_wp2_with fail
      go_ret
      exact ⟨ret_string fin.out, BW⟩

set_option maxRecDepth 100000 in
set_option maxHeartbeats 4000000 in
theorem l2Encode_6 (f : Nat) (IH : Hid (EncSays f)) (A : List M.Cl) (b off cap : Nat) (w : World) (hA : M.valueFault A = 0) (hAf : A.length ≤ f + 1) (hr : Row w b off A) (hb : b < w.heap.size) (hcap : A.length ≤ cap) (hok : ∀ c ∈ A, c.ok) (hk : (A.getD 0 M.zero).kind = 6) :
    Calls Tryd.prog 27 #[.slice (some ⟨b, off, none⟩) A.length cap] w fun e w' => e = .returned (.string (J.bytes (J.encL (f + 1) A))) ∧ Below w.heap.size w w' := by
  have hl := (M.fault_zero hA).1
  have h200 := (M.fault_zero hA).2.1
  have hn200 := (M.places_in hA 0 (by omega)).2.2.2
  rw [encS_6 f A hk]
  obtain ⟨x0, -, -, -, -⟩ := hr 0 (by omega)
  simp only [Nat.zero_mul, Nat.add_zero] at x0
  rw [hk] at x0
  have HPA := hide (fun w' (hbl : Below w.heap.size w w') => l1Parts_any A b off cap w' hA (hr.below hbl hb) (Nat.lt_of_lt_of_le hb hbl.size) hcap hok)
  have HKA := hide (fun w' (hbl : Below w.heap.size w w') => l1Keys_any A b off cap w' hA (hr.below hbl hb) (Nat.lt_of_lt_of_le hb hbl.size) hcap hok)
  have HSO := hide (fun i hi => sub_ok hA hok hAf i hi)
  have HKO := hide (fun i hi => key_ok hA i hi)
  have HBD := hide (fun i hi => J.parts_bd f hA (show 0 < A.length by omega) (by have := part_len hA (show 0 < A.length by omega); have := (end_gt hA (show 0 < A.length by omega)).2; omega) true i hi)
  have HSL := hide (subs_length A 0)
  have HKL := hide (keysAt_length A 0)
  clear hA hAf hr hok hk
  have HX : Hid (∀ w', Below w.heap.size w w' → w'.cell? ⟨b, off, none⟩ = some (.int .i64 6)) := fun w' hbl => (hbl.cell (p := ⟨b, off, none⟩) hb).trans x0
  generalize subs A 0 = ps at *
  generalize keysAt A 0 = ks at *
  generalize M.arity A 0 = n at *
  generalize A.length = al at *
  go_enter Tryd.func27, Tryd.ntmps27
  go_wp2_with fail
  refine ((unhide HPA) _ (Below.refl _ _)).mono ?_
  rintro e w1 ⟨s1, rfl, hs1, hb1⟩
  obtain ⟨a1, c1, rfl⟩ : ∃ a c, s1 = Value.slice a n c := by obtain ⟨_, _, h, _⟩ := hs1; obtain ⟨a, c, h⟩ := shape_len h; rw [unhide HSL] at h; exact ⟨_, _, h⟩
  have hx1 := HX.out w1 hb1
  go_wp2_with fail
  refine ((unhide HKA) _ hb1).mono ?_
  rintro e w2 ⟨s2, rfl, hs2, hb2⟩
  have B2 : Below w.heap.size w w2 := hb1.trans (hb2.mono hb1.size)
  have hS := hide (hs1.below hb2)
  have hK := hide hs2
  obtain ⟨a2, c2, rfl⟩ : ∃ a c, s2 = Value.slice a n c := by obtain ⟨a, c, h⟩ := shape_len hs2; rw [unhide HKL] at h; exact ⟨_, _, h⟩
  clear hs1 hs2 hb1 hb2 hx1 x0 HPA HKA
  go_wp2_with fail
  go_loopg [5, 6] n (fun gn s5 s6 wr => ∃ (i : Nat) (o : ByteArray), Hid (gn = n - i) ∧ s5 = .string o ∧ s6 = .int .i64 i ∧ i ≤ n ∧ Hid (o = J.bytes (J.partsK (J.encL f) true ks ps i)) ∧ Below w2.heap.size w2 wr)
  case atStart => exact ⟨0, _, rfl, rfl, rfl, by omega, rfl, Below.refl _ _⟩
  case round =>
    obtain ⟨i, o, hg, rfl, rfl, hi, ho, hbel⟩ := hrel
    have hbd := (unhide HBD) i hi
    have hosz : o.size ≤ 80000 := by rw [ho.out, J.bytes_size]; exact hbd
    have BW : Below w.heap.size w wr := B2.trans (hbel.mono B2.size)
    have hx := HX.out wr BW
    by_cases hlt : i < n
    · have hltI : (i : Int) < (n : Int) := by omega
      have hS' := (unhide hS).below hbel
      have hK' := (unhide hK).below hbel
      obtain ⟨ss, hs1, hs2, hs3⟩ := hS'
      rw [unhide HSL] at hs1 hs2 hs3
      rcases ownsRow_form hs2 with ⟨h0, _⟩ | ⟨hp, g, c, hgv, hgc, hgb⟩
      · omega
      obtain ⟨rfl, rfl⟩ : a1 = some ⟨g, 0, none⟩ ∧ c1 = c := by injection hgv with e1 e2 e3; exact ⟨e1, e3⟩
      obtain ⟨k1, k2, k3⟩ := (unhide HSO) i hlt
      have f1 := hs2.cellAt i (by omega)
      have q1 := hs3 i hlt
      obtain ⟨b1, d1, e1, l1, o1⟩ := res_some q1 k1
      have g1 : ss[i]? = some (.slice (some ⟨b1, 0, none⟩) (ps.getD i []).length d1) := by
        rw [List.getElem?_eq_getElem (by omega)]
        rw [List.getD_eq_getElem?_getD, List.getElem?_eq_getElem (by omega)] at e1
        simpa using e1
      rw [g1] at f1
      have HC := hide (fun w' (hbb : Below wr.heap.size wr w') => (unhide IH) (ps.getD i []) b1 0 d1 w' k1 k2 (o1.row.below hbb o1.lt) (Nat.lt_of_lt_of_le o1.lt hbb.size) l1 k3)
      have hbd2 := (unhide HBD) (i + 1) hlt
      have hps : J.partsK (J.encL f) true ks ps (i + 1) = J.partsK (J.encL f) true ks ps i ++ (J.ahead true ks i ++ J.encL f (ps.getD i [])) := rfl
      have hal : (J.encL f (ps.getD i [])).length ≤ 80000 := by rw [hps, List.length_append, List.length_append] at hbd2; omega
      have hkey := (unhide HKO) i hlt
      rcases ownsRow_form hK' with ⟨h0, _⟩ | ⟨hp', g', c', hgv', hgc', hgb'⟩
      · rw [unhide HKL] at h0; omega
      rw [unhide HKL] at hgv'
      obtain ⟨rfl, rfl⟩ : a2 = some ⟨g', 0, none⟩ ∧ c2 = c' := by injection hgv' with e1 e2 e3; exact ⟨e1, e3⟩
      have hK2 : wr.ownsRow w1.heap.size 9 1 (.slice (some ⟨g', 0, none⟩) n c2) n (ks.map Value.string) := by have h := hK'; unfold KS at h; rw [unhide HKL] at h; exact h
      have f2 := hK2.cellAt i (by omega)
      have g2 : (ks.map Value.string)[i]? = some (.string (ks.getD i ByteArray.empty)) := by
        have : i < ks.length := by rw [unhide HKL]; exact hlt
        rw [List.getElem?_map, List.getElem?_eq_getElem this, List.getD_eq_getElem?_getD, List.getElem?_eq_getElem this]; rfl
      rw [g2] at f2
      have hql := J.quote_length (ks.getD i ByteArray.empty)
      have hqs : (J.bytes (J.quote (ks.getD i ByteArray.empty))).size ≤ 122 := by rw [J.bytes_size]; omega
      have HQ := hide (fun w' => l2Quote_any (ks.getD i ByteArray.empty) w' hkey)
      have hes : (J.bytes (J.encL f (ps.getD i []))).size ≤ 80000 := by rw [J.bytes_size]; exact hal
      by_cases h0 : i = 0
      · have hnext : Hid (J.bytes (J.partsK (J.encL f) true ks ps (i + 1)) = o ++ J.bytes (J.quote (ks.getD i ByteArray.empty)) ++ { data := #[58] } ++ J.bytes (J.encL f (ps.getD i []))) := by
          show _ = _
          have ha : J.ahead true ks i = [] ++ (J.quote (ks.getD i ByteArray.empty) ++ [58]) := by unfold J.ahead; rw [if_pos h0]; rw [if_pos rfl]
          rw [ho.out, hps, ha]
          simp only [bytes_two, ByteArray.append_assoc, List.append_nil, List.nil_append]
          try rfl
        have hz : ¬ (0 : Int) < (i : Int) := by omega
        clear hps hbd hbd2 hal hs1 hs2 hs3 k1 k2 k3 e1 q1 g1 hp hgc hgb hgv l1 o1 h0 hK' hK2 hgv' hgc' hgb' hp' g2 hql hkey
        generalize J.bytes (J.quote (ks.getD i ByteArray.empty)) = Q at *
        generalize ks.getD i ByteArray.empty = KY at *
        generalize J.bytes (J.encL f (ps.getD i [])) = E at *
        generalize (ps.getD i []).length = pl at *
        have hq1 : (o ++ Q).size ≤ 80200 := by rw [ByteArray.size_append]; omega
        have hq2 : (o ++ Q ++ ({ data := #[58] } : ByteArray)).size ≤ 80201 := by rw [ByteArray.size_append]; show (o ++ Q).size + 1 ≤ 80201; omega
        go_wp2_with fail
        refine ((unhide HQ) _).mono ?_
        rintro e w5 ⟨rfl, hw5⟩
        have hw6 := hw5.symm
        clear hw5
        subst hw6
        go_wp2_with fail
        refine ((unhide HC) _ (Below.refl _ _)).mono ?_
        rintro e w4 ⟨rfl, hb4⟩
        all_goals
          have B4 : Below w2.heap.size w2 w4 := hbel.trans (hb4.mono hbel.size)
          clear hb4
          go_wp2_with fail
          go_roundg (n - (i + 1))
          case rel => exact ⟨i + 1, _, rfl, rfl, by go_num, by omega, by (show _ = _; rw [hnext.out]), B4⟩
          case measure => have := hg.out; omega
      · have hnext : Hid (J.bytes (J.partsK (J.encL f) true ks ps (i + 1)) = o ++ { data := #[44] } ++ J.bytes (J.quote (ks.getD i ByteArray.empty)) ++ { data := #[58] } ++ J.bytes (J.encL f (ps.getD i []))) := by
          show _ = _
          have ha : J.ahead true ks i = [44] ++ (J.quote (ks.getD i ByteArray.empty) ++ [58]) := by unfold J.ahead; rw [if_neg h0]; rw [if_pos rfl]
          rw [ho.out, hps, ha]
          simp only [bytes_two, ByteArray.append_assoc, List.append_nil, List.nil_append]
          try rfl
        have hz : (0 : Int) < (i : Int) := by omega
        have hosz2 : (o ++ ({ data := #[44] } : ByteArray)).size ≤ 80001 := by rw [ByteArray.size_append]; show o.size + 1 ≤ 80001; omega
        clear hps hbd hbd2 hal hs1 hs2 hs3 k1 k2 k3 e1 q1 g1 hp hgc hgb hgv l1 o1 h0 hK' hK2 hgv' hgc' hgb' hp' g2 hql hkey
        generalize J.bytes (J.quote (ks.getD i ByteArray.empty)) = Q at *
        generalize ks.getD i ByteArray.empty = KY at *
        generalize J.bytes (J.encL f (ps.getD i [])) = E at *
        generalize (ps.getD i []).length = pl at *
        have hq1 : (o ++ { data := #[44] } ++ Q).size ≤ 80200 := by rw [ByteArray.size_append]; omega
        have hq2 : (o ++ { data := #[44] } ++ Q ++ ({ data := #[58] } : ByteArray)).size ≤ 80201 := by rw [ByteArray.size_append]; show (o ++ { data := #[44] } ++ Q).size + 1 ≤ 80201; omega
        go_wp2_with fail
        refine ((unhide HQ) _).mono ?_
        rintro e w5 ⟨rfl, hw5⟩
        have hw6 := hw5.symm
        clear hw5
        subst hw6
        go_wp2_with fail
        refine ((unhide HC) _ (Below.refl _ _)).mono ?_
        rintro e w4 ⟨rfl, hb4⟩
        all_goals
          have B4 : Below w2.heap.size w2 w4 := hbel.trans (hb4.mono hbel.size)
          clear hb4
          go_wp2_with fail
          go_roundg (n - (i + 1))
          case rel => exact ⟨i + 1, _, rfl, rfl, by go_num, by omega, by (show _ = _; rw [hnext.out]), B4⟩
          case measure => have := hg.out; omega
    · have hge : ¬ (i : Int) < (n : Int) := by omega
      have hie : i = n := by omega
      have fin : Hid (({ data := #[123] } : ByteArray) ++ o ++ { data := #[125] } = J.bytes ([123] ++ J.partsK (J.encL f) true ks ps n ++ [125])) := by
        show _ = _
        rw [ho.out, hie, bytes_two, bytes_two]
        rfl
      have hs1 : (({ data := #[123] } : ByteArray) ++ o).size ≤ 80001 := by rw [ByteArray.size_append]; show 1 + o.size ≤ 80001; omega
      clear hie hbd
      go_wp2_with fail
      go_ret
      exact ⟨ret_string fin.out, BW⟩

end Go.Proofs.YtcolohilnmikiaaDoor

namespace Go.Proofs.YtcolohilnmikiaaDoor
open Go.RowKit
set_option linter.unusedVariables false
set_option linter.unusedSimpArgs false

theorem Bk.resI {base : Nat} {w w' : World} (h : Bk base w w') {B : Nat} {s : Value} {l : List Int} (hr : ResI w B s l) : ResI w' B s l := by
  obtain ⟨hn, g | ⟨b, cap, h1, h2, h3, ⟨xs, h4, h5⟩⟩⟩ := hr
  · exact ⟨hn, .inl g⟩
  · exact ⟨hn, .inr ⟨b, cap, h1, h2, h3, ⟨xs, h.own h4 (by decide), h5⟩⟩⟩
theorem ResI.form2 {w : World} {B : Nat} {s : Value} {l : List Int} (h : ResI w B s l) : ∃ a c, s = .slice a l.length c := by
  obtain ⟨_, ⟨rfl, rfl⟩ | ⟨b, cap, rfl, _⟩⟩ := h
  · exact ⟨_, _, rfl⟩
  · exact ⟨_, _, rfl⟩
theorem ResI.some2 {w : World} {B : Nat} {s : Value} {l : List Int} (h : ResI w B s l) (hl : 0 < l.length) : ∃ g c, s = .slice (some ⟨g, 0, none⟩) l.length c ∧ l.length ≤ c ∧ OwnI w g l := by
  obtain ⟨_, ⟨_, rfl⟩ | ⟨b, cap, h1, _, h3, h4⟩⟩ := h
  · simp at hl
  · exact ⟨b, cap, h1, h3, h4⟩
theorem owns_shape {w : World} {base : Nat} {e : TypeId} {size : Nat} {v : Value} {n : Nat} {xs : List Value} (h : w.ownsRow base e size v n xs) : ∃ a k c, v = .slice a k c := by
  obtain ⟨_, ⟨rfl, _⟩ | ⟨g, cap, cur, rfl, _⟩⟩ := h
  · exact ⟨_, _, _, rfl⟩
  · exact ⟨_, _, _, rfl⟩
theorem bv_app (l m : List UInt8) : J.bv l ++ J.bv m = J.bv (l ++ m) := by simp [J.bv]
theorem strCells_bytes (l : List UInt8) : Lib.strCells (J.bytes l) = J.bv l := rfl
theorem byteCells_bv (l : List UInt8) : Lib.byteCells l = J.bv l := rfl

/-- What is promised of impl.appendText at places whose values have at most f cells. -/
def AppSays (f : Nat) : Prop := ∀ (v : List M.Cl) (a b off cap base : Nat) (tv : Value) (l : List UInt8) (w : World), M.valueFault v = 0 → a < v.length → (part v a).length ≤ f → Row w b off v → b < base → v.length ≤ cap → base ≤ w.heap.size → l.length + 100000 * f ≤ 100000000 → w.ownsRow base 5 1 tv l.length (J.bv l) → Lib.TabBelow Tryd.prog base w "internal/strconv.uint64pow10" .u64 Lib.pow10Tab →
  Calls Tryd.prog 31 #[tv, .slice (some ⟨b, off, none⟩) v.length cap, .int .i64 a] w fun e w' => ∃ v', e = .returned v' ∧ w'.ownsRow base 5 1 v' (l ++ J.encL f (part v a)).length (J.bv (l ++ J.encL f (part v a))) ∧ Bk base w w'

set_option maxRecDepth 100000 in
set_option maxHeartbeats 4000000 in
theorem appendParts_5 (f : Nat) (IH : Hid (AppSays f)) (v : List M.Cl) (a b off cap base : Nat) (tv : Value) (l : List UInt8) (w : World) (hv : M.valueFault v = 0) (ha : a < v.length) (hpl : (part v a).length ≤ f + 1) (hrow : Row w b off v) (hb : b < base) (hcap : v.length ≤ cap) (hbase0 : base ≤ w.heap.size) (hl : l.length + 100000 * f + 99990 ≤ 100000000) (hown0 : w.ownsRow base 5 1 tv l.length (J.bv l)) (htab : Lib.TabBelow Tryd.prog base w "internal/strconv.uint64pow10" .u64 Lib.pow10Tab) (hk : (v.getD a M.zero).kind = 5) :
    Calls Tryd.prog 63 #[tv, .slice (some ⟨b, off, none⟩) v.length cap, .int .i64 a] w fun e w' => ∃ v', e = .returned v' ∧ w'.ownsRow base 5 1 v' (l ++ J.partsK (J.encL f) false (keysAt v a) (subs v a) (M.arity v a)).length (J.bv (l ++ J.partsK (J.encL f) false (keysAt v a) (subs v a) (M.arity v a))) ∧ Bk base w w' := by
  obtain ⟨i0, hi, hz0, hz1, hz2⟩ := info_parts Tryd.info5
  obtain ⟨va, vn, vc, rfl⟩ := owns_shape hown0
  have h200 := (M.fault_zero hv).2.1
  obtain ⟨f0, -, -, -, -⟩ := hrow a ha
  rw [hk] at f0
  have HPI := hide (M.places_in hv a ha)
  have HCP := hide (fun w' (hbb : Bk base w w') => childPlaces_any v b off cap a w' hv ha (hrow.below hbb.1 hb) (Nat.lt_of_lt_of_le hb (Nat.le_trans hbase0 hbb.size)) hcap)
  have HBD := hide (fun i hi => J.parts_bd f hv ha hpl false i hi)
  have HPL := hide (fun p (hp : p < v.length) (hp2 : a < p) (hp3 : M.endOf v p ≤ M.endOf v a) => show (part v p).length ≤ f by
    have := part_len hv hp
    have := part_len hv ha
    omega)
  have HT := hide htab
  have HR := hide hrow
  have HV := hide hv
  have HEG := hide (end_gt hv ha)
  have hOWN := hide hown0
  have hn200 := (unhide HPI).2.2.2
  clear hk hv htab hown0
  go_enter Tryd.func63, Tryd.ntmps63
  go_wp2_with fail
  refine ((unhide HCP) _ (Bk.refl _ _)).mono ?_
  rintro e wp ⟨sp, rfl, hsp, hbp⟩
  have hfl := firstPl_length v a (M.arity v a)
  obtain ⟨ap, cp, rfl⟩ := hsp.form2
  rw [hfl] at *
  have hkp : Bk base w wp := (Bk.refl _ _).below hbp hbase0
  have hown2 := ownsRow_below (B := 0) (unhide hOWN) hbp
  have HSP := hide hsp
  clear hsp hbp hfl hOWN HCP
  go_wp2_with fail
  go_loopg [0, 13] (M.arity v a) (fun gn s0 s13 wr => ∃ i : Nat, Hid (gn = M.arity v a - i) ∧ s13 = .int .i64 i ∧ i ≤ M.arity v a ∧ wr.ownsRow base 5 1 s0 (l ++ J.partsK (J.encL f) false (keysAt v a) (subs v a) i).length (J.bv (l ++ J.partsK (J.encL f) false (keysAt v a) (subs v a) i)) ∧ Bk base w wr ∧ Bk base wp wr)
  case atStart => exact ⟨0, rfl, rfl, by omega, by simpa [J.partsK] using hown2, hkp, Bk.refl _ _⟩
  case round =>
    obtain ⟨i, hg, rfl, him, hown, hbel, hbelp⟩ := hrel
    have hbd := (unhide HBD) i him
    have hll : (l ++ J.partsK (J.encL f) false (keysAt v a) (subs v a) i).length ≤ l.length + 80000 := by rw [List.length_append]; omega
    obtain ⟨L, hL⟩ : ∃ L, L = l ++ J.partsK (J.encL f) false (keysAt v a) (subs v a) i := ⟨_, rfl⟩
    rw [← hL] at hown hll
    have HL := hide hL
    clear hL hbd
    obtain ⟨xa, xn, xc, rfl⟩ := owns_shape hown
    by_cases hlt : i < M.arity v a
    · have hltI : (i : Int) < (M.arity v a : Int) := by omega
      have hp1 := (unhide HPI).1 i hlt
      have hp2 := (unhide HPI).2.2.1
      have hpv : M.iter v i (a + 1) < v.length := by omega
      have hpe : M.endOf v (M.iter v i (a + 1)) ≤ M.endOf v a := by
        rw [← M.iter_next v i (a + 1)]
        by_cases e : i + 1 = M.arity v a
        · rw [e, (unhide HPI).2.1]; exact Nat.le_refl _
        · exact Nat.le_of_lt ((unhide HPI).1 (i + 1) (by omega)).2
      have hpl2 := (unhide HPL) _ hpv hp1.1 hpe
      have hR := hbelp.resI (unhide HSP)
      obtain ⟨g, c, hgv, hgc, hoI⟩ := hR.some2 (by rw [firstPl_length]; omega)
      rw [firstPl_length] at hgv hgc
      obtain ⟨rfl, rfl⟩ : ap = some ⟨g, 0, none⟩ ∧ cp = c := by injection hgv with e1 e2 e3; exact ⟨e1, e3⟩
      have fp := hoI.cell (i := i) (by rw [firstPl_length]; exact hlt)
      rw [firstPl_getD v a _ i hlt] at fp
      have hps := hide (show J.partsK (J.encL f) false (keysAt v a) (subs v a) (i + 1) = J.partsK (J.encL f) false (keysAt v a) (subs v a) i ++ (J.ahead false (keysAt v a) i ++ J.encL f (part v (M.iter v i (a + 1)))) by
        rw [← J.subs_getD v a i hlt]; rfl)
      have HC := hide (fun (wq : World) (Lq : List UInt8) (tq : Value) (hq : Bk base w wq) (hlq : Lq.length + 100000 * f ≤ 100000000) (hoq : wq.ownsRow base 5 1 tq Lq.length (J.bv Lq)) => (unhide IH) v (M.iter v i (a + 1)) b off cap base tq Lq wq (unhide HV) hpv hpl2 ((unhide HR).below hq.1 hb) hb hcap (Nat.le_trans hbase0 hq.size) hlq hoq ((unhide HT).on hq.1))
      clear hgv hR hoI hpe hpl2 hp1 hp2
      generalize M.iter v i (a + 1) = p at *
      have hpI : (p : Int) < (v.length : Int) := by omega
      by_cases h0 : i = 0
      · have hz : ¬ (0 : Int) < (i : Int) := by omega
        have hah : J.ahead false (keysAt v a) i = [] ++ [] := by unfold J.ahead; rw [if_pos h0]; rw [if_neg (by decide)]
        have HAH := hide hah
        clear hah h0
        have hb0 : Bk base wr wr := Bk.refl _ _
        have hbw : base ≤ wr.heap.size := by have := hbel.size; omega
        have c0 : wr.cell? ⟨b, off + a * 5, none⟩ = some (.int .i64 5) := ((hbel.trans hb0).1.cell (p := ⟨b, off + a * 5, none⟩) hb).trans f0
        go_wp2_with fail
        refine ((unhide HC) _ _ _ (hbel.trans hb0) (by omega) hown).mono ?_
        rintro e w4 ⟨v4, rfl, w4o0, w4k⟩
        have w4b : Bk base wr w4 := hb0.trans w4k
        have w4o : w4.ownsRow base 5 1 v4 (l ++ J.partsK (J.encL f) false (keysAt v a) (subs v a) (i + 1)).length (J.bv (l ++ J.partsK (J.encL f) false (keysAt v a) (subs v a) (i + 1))) := by
          have e : L ++ J.encL f (part v p) = l ++ J.partsK (J.encL f) false (keysAt v a) (subs v a) (i + 1) := by
            rw [unhide HL, unhide hps, unhide HAH]
            simp only [List.append_assoc, List.nil_append, List.append_nil, List.cons_append]
          rw [← e]
          exact w4o0
        clear w4o0 w4k
        obtain ⟨xa4, xn4, xc4, rfl⟩ := owns_shape w4o
        have W4O := hide w4o
        clear w4o
        go_wp2_with fail
        go_roundg (M.arity v a - (i + 1))
        case rel => exact ⟨i + 1, rfl, by go_num, by omega, unhide W4O, hbel.trans w4b, hbelp.trans w4b⟩
        case measure => have := hg.out; omega
      · have hz : (0 : Int) < (i : Int) := by omega
        have hah : J.ahead false (keysAt v a) i = [44] ++ [] := by unfold J.ahead; rw [if_neg h0]; rw [if_neg (by decide)]
        have HAH := hide hah
        clear hah h0
        have hb0 : Bk base wr wr := Bk.refl _ _
        have hbw : base ≤ wr.heap.size := by have := hbel.size; omega
        have hown1 := hide (fun o => (hown).alloc o)
        have hone := hide (J.one_word wr 44)
        have honep := hide (J.one_plain 44)
        have hb63 : (L).length + 1 ≤ maxLen := by unfold maxLen; omega
        have hby : ((L).length + 1) * 1 ≤ 140737488355328 := by omega
        have hbase : base ≤ wr.heap.size + 1 := by have := (hb0).size; omega
        have hbse := hide (J.owns_base hown)
        have hbsr := hide (fun o => J.owns_row ((hown).alloc o))
        clear hown
        go_wp2_with (at_builtin; refine wpList_append_own _ rfl (.tmp 20) (.tmp 21) 62 rfl base 5 i0 (.int .u8 0) 1 1 Tryd.underlying62 hi hz0 hz1 hz2 rfl (by decide) _ (L).length _ rfl ((unhide hown1) _) ⟨wr.heap.size, 0, none⟩ 1 1 [.int .u8 44] rfl rfl (unhide hone) (unhide honep) hb63 hby (by simpa using hbase) ?_)
        intro vw1 w1 w1h hgw1 _
        have w1b : Bk base wr w1 := ((hb0).alloc (by have := (hb0).size; omega) _).grown hgw1 (by simpa using hbase) (unhide hbse) ((unhide hbsr) _)
        obtain ⟨Lw1, ew1⟩ : ∃ L', L' = L ++ [44] := ⟨_, rfl⟩
        have w1o : w1.ownsRow base 5 1 vw1 Lw1.length (J.bv Lw1) := by rw [ew1, List.length_append, ← J.bv_snoc]; exact w1h
        have lw1 : Lw1.length ≤ (L).length + 1 := by rw [ew1, List.length_append]; exact Nat.le_refl _
        have Ew1 := hide ew1
        clear hgw1 w1h ew1 hown1 hone honep hb63 hby hbase hbse hbsr
        obtain ⟨xaw1, xnw1, xcw1, rfl⟩ := owns_shape w1o
        have c0 : w1.cell? ⟨b, off + a * 5, none⟩ = some (.int .i64 5) := ((hbel.trans w1b).1.cell (p := ⟨b, off + a * 5, none⟩) hb).trans f0
        go_wp2_with fail
        refine ((unhide HC) _ _ _ (hbel.trans w1b) (by omega) w1o).mono ?_
        rintro e w4 ⟨v4, rfl, w4o0, w4k⟩
        have w4b : Bk base wr w4 := w1b.trans w4k
        have w4o : w4.ownsRow base 5 1 v4 (l ++ J.partsK (J.encL f) false (keysAt v a) (subs v a) (i + 1)).length (J.bv (l ++ J.partsK (J.encL f) false (keysAt v a) (subs v a) (i + 1))) := by
          have e : Lw1 ++ J.encL f (part v p) = l ++ J.partsK (J.encL f) false (keysAt v a) (subs v a) (i + 1) := by
            rw [unhide Ew1, unhide HL, unhide hps, unhide HAH]
            simp only [List.append_assoc, List.nil_append, List.append_nil, List.cons_append]
          rw [← e]
          exact w4o0
        clear w4o0 w4k
        obtain ⟨xa4, xn4, xc4, rfl⟩ := owns_shape w4o
        have W4O := hide w4o
        clear w4o
        go_wp2_with fail
        go_roundg (M.arity v a - (i + 1))
        case rel => exact ⟨i + 1, rfl, by go_num, by omega, unhide W4O, hbel.trans w4b, hbelp.trans w4b⟩
        case measure => have := hg.out; omega
    · have hge : ¬ (i : Int) < (M.arity v a : Int) := by omega
      have hie : i = M.arity v a := by omega
      have fin := hide (show wr.ownsRow base 5 1 (.slice xa xn xc) (l ++ J.partsK (J.encL f) false (keysAt v a) (subs v a) (M.arity v a)).length (J.bv (l ++ J.partsK (J.encL f) false (keysAt v a) (subs v a) (M.arity v a))) by rw [← hie, ← unhide HL]; exact hown)
      clear hown hie
      go_wp2_with fail
      go_ret
      refine ⟨_, rfl, ?_, hbel⟩
      first | exact unhide fin | (have h := unhide fin; rw [List.length_append] at h; exact h)

set_option maxRecDepth 100000 in
set_option maxHeartbeats 4000000 in
theorem appendParts_6 (f : Nat) (IH : Hid (AppSays f)) (v : List M.Cl) (a b off cap base : Nat) (tv : Value) (l : List UInt8) (w : World) (hv : M.valueFault v = 0) (ha : a < v.length) (hpl : (part v a).length ≤ f + 1) (hrow : Row w b off v) (hb : b < base) (hcap : v.length ≤ cap) (hbase0 : base ≤ w.heap.size) (hl : l.length + 100000 * f + 99990 ≤ 100000000) (hown0 : w.ownsRow base 5 1 tv l.length (J.bv l)) (htab : Lib.TabBelow Tryd.prog base w "internal/strconv.uint64pow10" .u64 Lib.pow10Tab) (hk : (v.getD a M.zero).kind = 6) :
    Calls Tryd.prog 63 #[tv, .slice (some ⟨b, off, none⟩) v.length cap, .int .i64 a] w fun e w' => ∃ v', e = .returned v' ∧ w'.ownsRow base 5 1 v' (l ++ J.partsK (J.encL f) true (keysAt v a) (subs v a) (M.arity v a)).length (J.bv (l ++ J.partsK (J.encL f) true (keysAt v a) (subs v a) (M.arity v a))) ∧ Bk base w w' := by
  obtain ⟨i0, hi, hz0, hz1, hz2⟩ := info_parts Tryd.info5
  obtain ⟨va, vn, vc, rfl⟩ := owns_shape hown0
  have h200 := (M.fault_zero hv).2.1
  obtain ⟨f0, -, -, -, -⟩ := hrow a ha
  rw [hk] at f0
  have HPI := hide (M.places_in hv a ha)
  have HCP := hide (fun w' (hbb : Bk base w w') => childPlaces_any v b off cap a w' hv ha (hrow.below hbb.1 hb) (Nat.lt_of_lt_of_le hb (Nat.le_trans hbase0 hbb.size)) hcap)
  have HBD := hide (fun i hi => J.parts_bd f hv ha hpl true i hi)
  have HPL := hide (fun p (hp : p < v.length) (hp2 : a < p) (hp3 : M.endOf v p ≤ M.endOf v a) => show (part v p).length ≤ f by
    have := part_len hv hp
    have := part_len hv ha
    omega)
  have HT := hide htab
  have HR := hide hrow
  have HV := hide hv
  have HEG := hide (end_gt hv ha)
  have hOWN := hide hown0
  have hn200 := (unhide HPI).2.2.2
  clear hk hv htab hown0
  go_enter Tryd.func63, Tryd.ntmps63
  go_wp2_with fail
  refine ((unhide HCP) _ (Bk.refl _ _)).mono ?_
  rintro e wp ⟨sp, rfl, hsp, hbp⟩
  have hfl := firstPl_length v a (M.arity v a)
  obtain ⟨ap, cp, rfl⟩ := hsp.form2
  rw [hfl] at *
  have hkp : Bk base w wp := (Bk.refl _ _).below hbp hbase0
  have hown2 := ownsRow_below (B := 0) (unhide hOWN) hbp
  have HSP := hide hsp
  clear hsp hbp hfl hOWN HCP
  go_wp2_with fail
  go_loopg [0, 13] (M.arity v a) (fun gn s0 s13 wr => ∃ i : Nat, Hid (gn = M.arity v a - i) ∧ s13 = .int .i64 i ∧ i ≤ M.arity v a ∧ wr.ownsRow base 5 1 s0 (l ++ J.partsK (J.encL f) true (keysAt v a) (subs v a) i).length (J.bv (l ++ J.partsK (J.encL f) true (keysAt v a) (subs v a) i)) ∧ Bk base w wr ∧ Bk base wp wr)
  case atStart => exact ⟨0, rfl, rfl, by omega, by simpa [J.partsK] using hown2, hkp, Bk.refl _ _⟩
  case round =>
    obtain ⟨i, hg, rfl, him, hown, hbel, hbelp⟩ := hrel
    have hbd := (unhide HBD) i him
    have hll : (l ++ J.partsK (J.encL f) true (keysAt v a) (subs v a) i).length ≤ l.length + 80000 := by rw [List.length_append]; omega
    obtain ⟨L, hL⟩ : ∃ L, L = l ++ J.partsK (J.encL f) true (keysAt v a) (subs v a) i := ⟨_, rfl⟩
    rw [← hL] at hown hll
    have HL := hide hL
    clear hL hbd
    obtain ⟨xa, xn, xc, rfl⟩ := owns_shape hown
    by_cases hlt : i < M.arity v a
    · have hltI : (i : Int) < (M.arity v a : Int) := by omega
      have hp1 := (unhide HPI).1 i hlt
      have hp2 := (unhide HPI).2.2.1
      have hpv : M.iter v i (a + 1) < v.length := by omega
      have hpe : M.endOf v (M.iter v i (a + 1)) ≤ M.endOf v a := by
        rw [← M.iter_next v i (a + 1)]
        by_cases e : i + 1 = M.arity v a
        · rw [e, (unhide HPI).2.1]; exact Nat.le_refl _
        · exact Nat.le_of_lt ((unhide HPI).1 (i + 1) (by omega)).2
      have hpl2 := (unhide HPL) _ hpv hp1.1 hpe
      have hR := hbelp.resI (unhide HSP)
      obtain ⟨g, c, hgv, hgc, hoI⟩ := hR.some2 (by rw [firstPl_length]; omega)
      rw [firstPl_length] at hgv hgc
      obtain ⟨rfl, rfl⟩ : ap = some ⟨g, 0, none⟩ ∧ cp = c := by injection hgv with e1 e2 e3; exact ⟨e1, e3⟩
      have fp := hoI.cell (i := i) (by rw [firstPl_length]; exact hlt)
      rw [firstPl_getD v a _ i hlt] at fp
      have hps := hide (show J.partsK (J.encL f) true (keysAt v a) (subs v a) (i + 1) = J.partsK (J.encL f) true (keysAt v a) (subs v a) i ++ (J.ahead true (keysAt v a) i ++ J.encL f (part v (M.iter v i (a + 1)))) by
        rw [← J.subs_getD v a i hlt]; rfl)
      have HC := hide (fun (wq : World) (Lq : List UInt8) (tq : Value) (hq : Bk base w wq) (hlq : Lq.length + 100000 * f ≤ 100000000) (hoq : wq.ownsRow base 5 1 tq Lq.length (J.bv Lq)) => (unhide IH) v (M.iter v i (a + 1)) b off cap base tq Lq wq (unhide HV) hpv hpl2 ((unhide HR).below hq.1 hb) hb hcap (Nat.le_trans hbase0 hq.size) hlq hoq ((unhide HT).on hq.1))
      have fk := ((unhide HR) _ hpv).2.2.2.1
      have hkey := (J.code_text (code_at (unhide HV) _ hpv)).2.1
      have HKY := hide (J.keysAt_getD v a i hlt)
      generalize (v.getD (M.iter v i (a + 1)) M.zero).key = KY at *
      clear hgv hR hoI hpe hpl2 hp1 hp2
      generalize M.iter v i (a + 1) = p at *
      have hpI : (p : Int) < (v.length : Int) := by omega
      by_cases h0 : i = 0
      · have hz : ¬ (0 : Int) < (i : Int) := by omega
        have hah : J.ahead true (keysAt v a) i = [] ++ (J.quote ((keysAt v a).getD i ByteArray.empty) ++ [58]) := by unfold J.ahead; rw [if_pos h0]; rw [if_pos rfl]
        have HAH := hide hah
        clear hah h0
        have hb0 : Bk base wr wr := Bk.refl _ _
        have hbw : base ≤ wr.heap.size := by have := hbel.size; omega
        have c0 : wr.cell? ⟨b, off + a * 5, none⟩ = some (.int .i64 6) := ((hbel.trans hb0).1.cell (p := ⟨b, off + a * 5, none⟩) hb).trans f0
        have ck1 : wr.cell? ⟨b, off + p * 5 + 3, none⟩ = some (.string KY) := ((hbel.trans hb0).1.cell (p := ⟨b, off + p * 5 + 3, none⟩) hb).trans fk
        go_wp2_with fail
        refine (appendQuoted_any base _ _ _ _ hown hkey (by omega) (by have := hb0.size; omega)).mono ?_
        rintro e w2 ⟨v2, rfl, w2o0, w2k⟩
        have w2b : Bk base wr w2 := hb0.trans w2k
        obtain ⟨Lw2, ew2⟩ : ∃ L', L' = L ++ J.quote KY := ⟨_, rfl⟩
        have w2o : w2.ownsRow base 5 1 v2 Lw2.length (J.bv Lw2) := by rw [ew2]; exact w2o0
        have lw2 : Lw2.length ≤ (L).length + 122 := by rw [ew2, List.length_append]; have := J.quote_length KY; omega
        have Ew2 := hide ew2
        clear ew2 w2o0 w2k c0 ck1
        obtain ⟨xa2, xn2, xc2, rfl⟩ := owns_shape w2o
        have hown1 := hide (fun o => (w2o).alloc o)
        have hone := hide (J.one_word w2 58)
        have honep := hide (J.one_plain 58)
        have hb63 : (Lw2).length + 1 ≤ maxLen := by unfold maxLen; omega
        have hby : ((Lw2).length + 1) * 1 ≤ 140737488355328 := by omega
        have hbase : base ≤ w2.heap.size + 1 := by have := (w2b).size; omega
        have hbse := hide (J.owns_base w2o)
        have hbsr := hide (fun o => J.owns_row ((w2o).alloc o))
        clear w2o
        go_wp2_with (at_builtin; refine wpList_append_own _ rfl (.tmp 35) (.tmp 36) 62 rfl base 5 i0 (.int .u8 0) 1 1 Tryd.underlying62 hi hz0 hz1 hz2 rfl (by decide) _ (Lw2).length _ rfl ((unhide hown1) _) ⟨w2.heap.size, 0, none⟩ 1 1 [.int .u8 58] rfl rfl (unhide hone) (unhide honep) hb63 hby (by simpa using hbase) ?_)
        intro vw3 w3 w3h hgw3 _
        have w3b : Bk base wr w3 := ((w2b).alloc (by have := (w2b).size; omega) _).grown hgw3 (by simpa using hbase) (unhide hbse) ((unhide hbsr) _)
        obtain ⟨Lw3, ew3⟩ : ∃ L', L' = Lw2 ++ [58] := ⟨_, rfl⟩
        have w3o : w3.ownsRow base 5 1 vw3 Lw3.length (J.bv Lw3) := by rw [ew3, List.length_append, ← J.bv_snoc]; exact w3h
        have lw3 : Lw3.length ≤ (Lw2).length + 1 := by rw [ew3, List.length_append]; exact Nat.le_refl _
        have Ew3 := hide ew3
        clear hgw3 w3h ew3 hown1 hone honep hb63 hby hbase hbse hbsr
        obtain ⟨xaw3, xnw3, xcw3, rfl⟩ := owns_shape w3o
        go_wp2_with fail
        refine ((unhide HC) _ _ _ (hbel.trans w3b) (by omega) w3o).mono ?_
        rintro e w4 ⟨v4, rfl, w4o0, w4k⟩
        have w4b : Bk base wr w4 := w3b.trans w4k
        have w4o : w4.ownsRow base 5 1 v4 (l ++ J.partsK (J.encL f) true (keysAt v a) (subs v a) (i + 1)).length (J.bv (l ++ J.partsK (J.encL f) true (keysAt v a) (subs v a) (i + 1))) := by
          have e : Lw3 ++ J.encL f (part v p) = l ++ J.partsK (J.encL f) true (keysAt v a) (subs v a) (i + 1) := by
            rw [unhide Ew3, unhide Ew2, unhide HL, unhide hps, unhide HAH, unhide HKY]
            simp only [List.append_assoc, List.nil_append, List.append_nil, List.cons_append]
          rw [← e]
          exact w4o0
        clear w4o0 w4k
        obtain ⟨xa4, xn4, xc4, rfl⟩ := owns_shape w4o
        have W4O := hide w4o
        clear w4o
        go_wp2_with fail
        go_roundg (M.arity v a - (i + 1))
        case rel => exact ⟨i + 1, rfl, by go_num, by omega, unhide W4O, hbel.trans w4b, hbelp.trans w4b⟩
        case measure => have := hg.out; omega
      · have hz : (0 : Int) < (i : Int) := by omega
        have hah : J.ahead true (keysAt v a) i = [44] ++ (J.quote ((keysAt v a).getD i ByteArray.empty) ++ [58]) := by unfold J.ahead; rw [if_neg h0]; rw [if_pos rfl]
        have HAH := hide hah
        clear hah h0
        have hb0 : Bk base wr wr := Bk.refl _ _
        have hbw : base ≤ wr.heap.size := by have := hbel.size; omega
        have hown1 := hide (fun o => (hown).alloc o)
        have hone := hide (J.one_word wr 44)
        have honep := hide (J.one_plain 44)
        have hb63 : (L).length + 1 ≤ maxLen := by unfold maxLen; omega
        have hby : ((L).length + 1) * 1 ≤ 140737488355328 := by omega
        have hbase : base ≤ wr.heap.size + 1 := by have := (hb0).size; omega
        have hbse := hide (J.owns_base hown)
        have hbsr := hide (fun o => J.owns_row ((hown).alloc o))
        clear hown
        go_wp2_with (at_builtin; refine wpList_append_own _ rfl (.tmp 20) (.tmp 21) 62 rfl base 5 i0 (.int .u8 0) 1 1 Tryd.underlying62 hi hz0 hz1 hz2 rfl (by decide) _ (L).length _ rfl ((unhide hown1) _) ⟨wr.heap.size, 0, none⟩ 1 1 [.int .u8 44] rfl rfl (unhide hone) (unhide honep) hb63 hby (by simpa using hbase) ?_)
        intro vw1 w1 w1h hgw1 _
        have w1b : Bk base wr w1 := ((hb0).alloc (by have := (hb0).size; omega) _).grown hgw1 (by simpa using hbase) (unhide hbse) ((unhide hbsr) _)
        obtain ⟨Lw1, ew1⟩ : ∃ L', L' = L ++ [44] := ⟨_, rfl⟩
        have w1o : w1.ownsRow base 5 1 vw1 Lw1.length (J.bv Lw1) := by rw [ew1, List.length_append, ← J.bv_snoc]; exact w1h
        have lw1 : Lw1.length ≤ (L).length + 1 := by rw [ew1, List.length_append]; exact Nat.le_refl _
        have Ew1 := hide ew1
        clear hgw1 w1h ew1 hown1 hone honep hb63 hby hbase hbse hbsr
        obtain ⟨xaw1, xnw1, xcw1, rfl⟩ := owns_shape w1o
        have c0 : w1.cell? ⟨b, off + a * 5, none⟩ = some (.int .i64 6) := ((hbel.trans w1b).1.cell (p := ⟨b, off + a * 5, none⟩) hb).trans f0
        have ck1 : w1.cell? ⟨b, off + p * 5 + 3, none⟩ = some (.string KY) := ((hbel.trans w1b).1.cell (p := ⟨b, off + p * 5 + 3, none⟩) hb).trans fk
        go_wp2_with fail
        refine (appendQuoted_any base _ _ _ _ w1o hkey (by omega) (by have := w1b.size; omega)).mono ?_
        rintro e w2 ⟨v2, rfl, w2o0, w2k⟩
        have w2b : Bk base wr w2 := w1b.trans w2k
        obtain ⟨Lw2, ew2⟩ : ∃ L', L' = Lw1 ++ J.quote KY := ⟨_, rfl⟩
        have w2o : w2.ownsRow base 5 1 v2 Lw2.length (J.bv Lw2) := by rw [ew2]; exact w2o0
        have lw2 : Lw2.length ≤ (Lw1).length + 122 := by rw [ew2, List.length_append]; have := J.quote_length KY; omega
        have Ew2 := hide ew2
        clear ew2 w2o0 w2k c0 ck1
        obtain ⟨xa2, xn2, xc2, rfl⟩ := owns_shape w2o
        have hown1 := hide (fun o => (w2o).alloc o)
        have hone := hide (J.one_word w2 58)
        have honep := hide (J.one_plain 58)
        have hb63 : (Lw2).length + 1 ≤ maxLen := by unfold maxLen; omega
        have hby : ((Lw2).length + 1) * 1 ≤ 140737488355328 := by omega
        have hbase : base ≤ w2.heap.size + 1 := by have := (w2b).size; omega
        have hbse := hide (J.owns_base w2o)
        have hbsr := hide (fun o => J.owns_row ((w2o).alloc o))
        clear w2o
        go_wp2_with (at_builtin; refine wpList_append_own _ rfl (.tmp 35) (.tmp 36) 62 rfl base 5 i0 (.int .u8 0) 1 1 Tryd.underlying62 hi hz0 hz1 hz2 rfl (by decide) _ (Lw2).length _ rfl ((unhide hown1) _) ⟨w2.heap.size, 0, none⟩ 1 1 [.int .u8 58] rfl rfl (unhide hone) (unhide honep) hb63 hby (by simpa using hbase) ?_)
        intro vw3 w3 w3h hgw3 _
        have w3b : Bk base wr w3 := ((w2b).alloc (by have := (w2b).size; omega) _).grown hgw3 (by simpa using hbase) (unhide hbse) ((unhide hbsr) _)
        obtain ⟨Lw3, ew3⟩ : ∃ L', L' = Lw2 ++ [58] := ⟨_, rfl⟩
        have w3o : w3.ownsRow base 5 1 vw3 Lw3.length (J.bv Lw3) := by rw [ew3, List.length_append, ← J.bv_snoc]; exact w3h
        have lw3 : Lw3.length ≤ (Lw2).length + 1 := by rw [ew3, List.length_append]; exact Nat.le_refl _
        have Ew3 := hide ew3
        clear hgw3 w3h ew3 hown1 hone honep hb63 hby hbase hbse hbsr
        obtain ⟨xaw3, xnw3, xcw3, rfl⟩ := owns_shape w3o
        go_wp2_with fail
        refine ((unhide HC) _ _ _ (hbel.trans w3b) (by omega) w3o).mono ?_
        rintro e w4 ⟨v4, rfl, w4o0, w4k⟩
        have w4b : Bk base wr w4 := w3b.trans w4k
        have w4o : w4.ownsRow base 5 1 v4 (l ++ J.partsK (J.encL f) true (keysAt v a) (subs v a) (i + 1)).length (J.bv (l ++ J.partsK (J.encL f) true (keysAt v a) (subs v a) (i + 1))) := by
          have e : Lw3 ++ J.encL f (part v p) = l ++ J.partsK (J.encL f) true (keysAt v a) (subs v a) (i + 1) := by
            rw [unhide Ew3, unhide Ew2, unhide Ew1, unhide HL, unhide hps, unhide HAH, unhide HKY]
            simp only [List.append_assoc, List.nil_append, List.append_nil, List.cons_append]
          rw [← e]
          exact w4o0
        clear w4o0 w4k
        obtain ⟨xa4, xn4, xc4, rfl⟩ := owns_shape w4o
        have W4O := hide w4o
        clear w4o
        go_wp2_with fail
        go_roundg (M.arity v a - (i + 1))
        case rel => exact ⟨i + 1, rfl, by go_num, by omega, unhide W4O, hbel.trans w4b, hbelp.trans w4b⟩
        case measure => have := hg.out; omega
    · have hge : ¬ (i : Int) < (M.arity v a : Int) := by omega
      have hie : i = M.arity v a := by omega
      have fin := hide (show wr.ownsRow base 5 1 (.slice xa xn xc) (l ++ J.partsK (J.encL f) true (keysAt v a) (subs v a) (M.arity v a)).length (J.bv (l ++ J.partsK (J.encL f) true (keysAt v a) (subs v a) (M.arity v a))) by rw [← hie, ← unhide HL]; exact hown)
      clear hown hie
      go_wp2_with fail
      go_ret
      refine ⟨_, rfl, ?_, hbel⟩
      first | exact unhide fin | (have h := unhide fin; rw [List.length_append] at h; exact h)

end Go.Proofs.YtcolohilnmikiaaDoor

namespace Go.Proofs.YtcolohilnmikiaaDoor
open Go.RowKit
set_option linter.unusedVariables false
set_option linter.unusedSimpArgs false

theorem room_gen {L l f K C b : Nat} (hl : l + K * (f + 1) ≤ C) (h : L ≤ l + 1) (hab : b + 1 ≤ K) : L + K * f + b ≤ C := by
  rw [Nat.mul_add, Nat.mul_one] at hl
  generalize K * f = x at *
  omega
theorem room_in {L l f : Nat} (hl : l + 100000 * (f + 1) ≤ 100000000) (h : L ≤ l + 1) : L + 100000 * f + 99990 ≤ 100000000 := room_gen hl h (by decide)

set_option maxRecDepth 100000 in
set_option maxHeartbeats 4000000 in
theorem appendText_0 (f : Nat) (v : List M.Cl) (a b off cap base : Nat) (tv : Value) (l : List UInt8) (w : World) (hv : M.valueFault v = 0) (ha : a < v.length) (hpl : (part v a).length ≤ f + 1) (hrow : Row w b off v) (hb : b < base) (hcap : v.length ≤ cap) (hbase0 : base ≤ w.heap.size) (hl : l.length + 100000 * (f + 1) ≤ 100000000) (hown0 : w.ownsRow base 5 1 tv l.length (J.bv l)) (htab : Lib.TabBelow Tryd.prog base w "internal/strconv.uint64pow10" .u64 Lib.pow10Tab) (hk : (v.getD a M.zero).kind = 0) :
    Calls Tryd.prog 31 #[tv, .slice (some ⟨b, off, none⟩) v.length cap, .int .i64 a] w fun e w' => ∃ v', e = .returned v' ∧ w'.ownsRow base 5 1 v' (l ++ J.encL (f + 1) (part v a)).length (J.bv (l ++ J.encL (f + 1) (part v a))) ∧ Bk base w w' := by
  obtain ⟨i0, hi, hz0, hz1, hz2⟩ := info_parts Tryd.info5
  obtain ⟨va, vn, vc, rfl⟩ := owns_shape hown0
  have h200 := (M.fault_zero hv).2.1
  have haI : (a : Int) < (v.length : Int) := by omega
  have hc := J.code_text (code_at hv a ha)
  obtain ⟨f0, f1, f2, f3, f4⟩ := hrow a ha
  rw [hk] at f0
  obtain ⟨R, hR⟩ : ∃ R, R = J.encL (f + 1) (part v a) := ⟨_, rfl⟩
  have HR := hide (hR.trans (J.encL_part f hv ha))
  rw [← hR]
  clear hR
  rw [hk] at HR
  clear hk
  generalize v.getD a M.zero = c at *
  obtain ⟨w0, hw0⟩ : ∃ w0, w0 = w.alloc (.cells #[.int .i64 0, .int .i64 c.num, .string c.text, .string c.key, .int .i64 c.n] 89) := ⟨_, rfl⟩
  have B0 : Bk base w w0 := by rw [hw0]; exact (Bk.refl _ _).alloc hbase0 _
  have hX0 : Own w0 w.heap.size 89 [.int .i64 0, .int .i64 c.num, .string c.text, .string c.key, .int .i64 c.n] := by rw [hw0]; exact ⟨_, heap_alloc_new _ _, rfl⟩
  have hown := hown0.alloc (.cells #[.int .i64 0, .int .i64 c.num, .string c.text, .string c.key, .int .i64 c.n] 89)
  rw [← hw0] at hown
  have HE := hide (show R = [110, 117, 108, 108] by rw [unhide HR]; rfl)
  have hb63 : l.length + (⟨#[110, 117, 108, 108]⟩ : ByteArray).size ≤ maxLen := by unfold maxLen; show l.length + 4 ≤ _; omega
  have hby : l.length + (⟨#[110, 117, 108, 108]⟩ : ByteArray).size ≤ 140737488355328 := by show l.length + 4 ≤ _; omega
  have hbw : base ≤ w0.heap.size := by have := B0.size; omega
  have hbse := hide (J.owns_base hown)
  have hbsr := hide (J.owns_row hown)
  have HO := hide hown
  clear hown hown0 HR hpl htab hv hc hrow
  rw [hw0] at HO hbsr hbw
  go_enter Tryd.func31, Tryd.ntmps31
  go_wp2_with (at_builtin; refine Lib.wpList_append_own_string _ rfl (.tmp 16) (.const (.string ⟨#[110, 117, 108, 108]⟩)) 62 9 rfl base 5 i0 Tryd.underlying62 Tryd.underlying9 hi hz0 hz1 hz2 _ l.length _ rfl (unhide HO) ⟨#[110, 117, 108, 108]⟩ rfl hb63 hby hbw ?_)
  intro v1 w1 ho1 hg1 _
  rw [← hw0] at hg1 hbsr hbw
  have B1 : Bk base w w1 := B0.grown hg1 hbw (unhide hbse) (unhide hbsr)
  have fin := hide (show w1.ownsRow base 5 1 v1 (l ++ R).length (J.bv (l ++ R)) by
    rw [unhide HE, List.length_append, ← bv_app]; exact ho1)
  clear ho1 hg1 HO hbse hbsr
  obtain ⟨xa1, xn1, xc1, rfl⟩ := owns_shape (unhide fin)
  go_wp2_with fail
  go_ret
  refine ⟨_, rfl, ?_, B1⟩
  first | exact unhide fin | (have h := unhide fin; rw [List.length_append] at h; exact h)

set_option maxRecDepth 100000 in
set_option maxHeartbeats 4000000 in
theorem appendText_1 (f : Nat) (v : List M.Cl) (a b off cap base : Nat) (tv : Value) (l : List UInt8) (w : World) (hv : M.valueFault v = 0) (ha : a < v.length) (hpl : (part v a).length ≤ f + 1) (hrow : Row w b off v) (hb : b < base) (hcap : v.length ≤ cap) (hbase0 : base ≤ w.heap.size) (hl : l.length + 100000 * (f + 1) ≤ 100000000) (hown0 : w.ownsRow base 5 1 tv l.length (J.bv l)) (htab : Lib.TabBelow Tryd.prog base w "internal/strconv.uint64pow10" .u64 Lib.pow10Tab) (hk : (v.getD a M.zero).kind = 1) :
    Calls Tryd.prog 31 #[tv, .slice (some ⟨b, off, none⟩) v.length cap, .int .i64 a] w fun e w' => ∃ v', e = .returned v' ∧ w'.ownsRow base 5 1 v' (l ++ J.encL (f + 1) (part v a)).length (J.bv (l ++ J.encL (f + 1) (part v a))) ∧ Bk base w w' := by
  obtain ⟨i0, hi, hz0, hz1, hz2⟩ := info_parts Tryd.info5
  obtain ⟨va, vn, vc, rfl⟩ := owns_shape hown0
  have h200 := (M.fault_zero hv).2.1
  have haI : (a : Int) < (v.length : Int) := by omega
  have hc := J.code_text (code_at hv a ha)
  obtain ⟨f0, f1, f2, f3, f4⟩ := hrow a ha
  rw [hk] at f0
  obtain ⟨R, hR⟩ : ∃ R, R = J.encL (f + 1) (part v a) := ⟨_, rfl⟩
  have HR := hide (hR.trans (J.encL_part f hv ha))
  rw [← hR]
  clear hR
  rw [hk] at HR
  clear hk
  generalize v.getD a M.zero = c at *
  obtain ⟨w0, hw0⟩ : ∃ w0, w0 = w.alloc (.cells #[.int .i64 1, .int .i64 c.num, .string c.text, .string c.key, .int .i64 c.n] 89) := ⟨_, rfl⟩
  have B0 : Bk base w w0 := by rw [hw0]; exact (Bk.refl _ _).alloc hbase0 _
  have hX0 : Own w0 w.heap.size 89 [.int .i64 1, .int .i64 c.num, .string c.text, .string c.key, .int .i64 c.n] := by rw [hw0]; exact ⟨_, heap_alloc_new _ _, rfl⟩
  have hown := hown0.alloc (.cells #[.int .i64 1, .int .i64 c.num, .string c.text, .string c.key, .int .i64 c.n] 89)
  rw [← hw0] at hown
  have HE := hide (show R = [102, 97, 108, 115, 101] by rw [unhide HR]; rfl)
  have hb63 : l.length + (⟨#[102, 97, 108, 115, 101]⟩ : ByteArray).size ≤ maxLen := by unfold maxLen; show l.length + 5 ≤ _; omega
  have hby : l.length + (⟨#[102, 97, 108, 115, 101]⟩ : ByteArray).size ≤ 140737488355328 := by show l.length + 5 ≤ _; omega
  have hbw : base ≤ w0.heap.size := by have := B0.size; omega
  have hbse := hide (J.owns_base hown)
  have hbsr := hide (J.owns_row hown)
  have HO := hide hown
  clear hown hown0 HR hpl htab hv hc hrow
  rw [hw0] at HO hbsr hbw
  go_enter Tryd.func31, Tryd.ntmps31
  go_wp2_with (at_builtin; refine Lib.wpList_append_own_string _ rfl (.tmp 20) (.const (.string ⟨#[102, 97, 108, 115, 101]⟩)) 62 9 rfl base 5 i0 Tryd.underlying62 Tryd.underlying9 hi hz0 hz1 hz2 _ l.length _ rfl (unhide HO) ⟨#[102, 97, 108, 115, 101]⟩ rfl hb63 hby hbw ?_)
  intro v1 w1 ho1 hg1 _
  rw [← hw0] at hg1 hbsr hbw
  have B1 : Bk base w w1 := B0.grown hg1 hbw (unhide hbse) (unhide hbsr)
  have fin := hide (show w1.ownsRow base 5 1 v1 (l ++ R).length (J.bv (l ++ R)) by
    rw [unhide HE, List.length_append, ← bv_app]; exact ho1)
  clear ho1 hg1 HO hbse hbsr
  obtain ⟨xa1, xn1, xc1, rfl⟩ := owns_shape (unhide fin)
  go_wp2_with fail
  go_ret
  refine ⟨_, rfl, ?_, B1⟩
  first | exact unhide fin | (have h := unhide fin; rw [List.length_append] at h; exact h)

set_option maxRecDepth 100000 in
set_option maxHeartbeats 4000000 in
theorem appendText_2 (f : Nat) (v : List M.Cl) (a b off cap base : Nat) (tv : Value) (l : List UInt8) (w : World) (hv : M.valueFault v = 0) (ha : a < v.length) (hpl : (part v a).length ≤ f + 1) (hrow : Row w b off v) (hb : b < base) (hcap : v.length ≤ cap) (hbase0 : base ≤ w.heap.size) (hl : l.length + 100000 * (f + 1) ≤ 100000000) (hown0 : w.ownsRow base 5 1 tv l.length (J.bv l)) (htab : Lib.TabBelow Tryd.prog base w "internal/strconv.uint64pow10" .u64 Lib.pow10Tab) (hk : (v.getD a M.zero).kind = 2) :
    Calls Tryd.prog 31 #[tv, .slice (some ⟨b, off, none⟩) v.length cap, .int .i64 a] w fun e w' => ∃ v', e = .returned v' ∧ w'.ownsRow base 5 1 v' (l ++ J.encL (f + 1) (part v a)).length (J.bv (l ++ J.encL (f + 1) (part v a))) ∧ Bk base w w' := by
  obtain ⟨i0, hi, hz0, hz1, hz2⟩ := info_parts Tryd.info5
  obtain ⟨va, vn, vc, rfl⟩ := owns_shape hown0
  have h200 := (M.fault_zero hv).2.1
  have haI : (a : Int) < (v.length : Int) := by omega
  have hc := J.code_text (code_at hv a ha)
  obtain ⟨f0, f1, f2, f3, f4⟩ := hrow a ha
  rw [hk] at f0
  obtain ⟨R, hR⟩ : ∃ R, R = J.encL (f + 1) (part v a) := ⟨_, rfl⟩
  have HR := hide (hR.trans (J.encL_part f hv ha))
  rw [← hR]
  clear hR
  rw [hk] at HR
  clear hk
  generalize v.getD a M.zero = c at *
  obtain ⟨w0, hw0⟩ : ∃ w0, w0 = w.alloc (.cells #[.int .i64 2, .int .i64 c.num, .string c.text, .string c.key, .int .i64 c.n] 89) := ⟨_, rfl⟩
  have B0 : Bk base w w0 := by rw [hw0]; exact (Bk.refl _ _).alloc hbase0 _
  have hX0 : Own w0 w.heap.size 89 [.int .i64 2, .int .i64 c.num, .string c.text, .string c.key, .int .i64 c.n] := by rw [hw0]; exact ⟨_, heap_alloc_new _ _, rfl⟩
  have hown := hown0.alloc (.cells #[.int .i64 2, .int .i64 c.num, .string c.text, .string c.key, .int .i64 c.n] 89)
  rw [← hw0] at hown
  have HE := hide (show R = [116, 114, 117, 101] by rw [unhide HR]; rfl)
  have hb63 : l.length + (⟨#[116, 114, 117, 101]⟩ : ByteArray).size ≤ maxLen := by unfold maxLen; show l.length + 4 ≤ _; omega
  have hby : l.length + (⟨#[116, 114, 117, 101]⟩ : ByteArray).size ≤ 140737488355328 := by show l.length + 4 ≤ _; omega
  have hbw : base ≤ w0.heap.size := by have := B0.size; omega
  have hbse := hide (J.owns_base hown)
  have hbsr := hide (J.owns_row hown)
  have HO := hide hown
  clear hown hown0 HR hpl htab hv hc hrow
  rw [hw0] at HO hbsr hbw
  go_enter Tryd.func31, Tryd.ntmps31
  go_wp2_with (at_builtin; refine Lib.wpList_append_own_string _ rfl (.tmp 24) (.const (.string ⟨#[116, 114, 117, 101]⟩)) 62 9 rfl base 5 i0 Tryd.underlying62 Tryd.underlying9 hi hz0 hz1 hz2 _ l.length _ rfl (unhide HO) ⟨#[116, 114, 117, 101]⟩ rfl hb63 hby hbw ?_)
  intro v1 w1 ho1 hg1 _
  rw [← hw0] at hg1 hbsr hbw
  have B1 : Bk base w w1 := B0.grown hg1 hbw (unhide hbse) (unhide hbsr)
  have fin := hide (show w1.ownsRow base 5 1 v1 (l ++ R).length (J.bv (l ++ R)) by
    rw [unhide HE, List.length_append, ← bv_app]; exact ho1)
  clear ho1 hg1 HO hbse hbsr
  obtain ⟨xa1, xn1, xc1, rfl⟩ := owns_shape (unhide fin)
  go_wp2_with fail
  go_ret
  refine ⟨_, rfl, ?_, B1⟩
  first | exact unhide fin | (have h := unhide fin; rw [List.length_append] at h; exact h)

set_option maxRecDepth 100000 in
set_option maxHeartbeats 4000000 in
theorem appendText_3 (f : Nat) (v : List M.Cl) (a b off cap base : Nat) (tv : Value) (l : List UInt8) (w : World) (hv : M.valueFault v = 0) (ha : a < v.length) (hpl : (part v a).length ≤ f + 1) (hrow : Row w b off v) (hb : b < base) (hcap : v.length ≤ cap) (hbase0 : base ≤ w.heap.size) (hl : l.length + 100000 * (f + 1) ≤ 100000000) (hown0 : w.ownsRow base 5 1 tv l.length (J.bv l)) (htab : Lib.TabBelow Tryd.prog base w "internal/strconv.uint64pow10" .u64 Lib.pow10Tab) (hk : (v.getD a M.zero).kind = 3) :
    Calls Tryd.prog 31 #[tv, .slice (some ⟨b, off, none⟩) v.length cap, .int .i64 a] w fun e w' => ∃ v', e = .returned v' ∧ w'.ownsRow base 5 1 v' (l ++ J.encL (f + 1) (part v a)).length (J.bv (l ++ J.encL (f + 1) (part v a))) ∧ Bk base w w' := by
  obtain ⟨i0, hi, hz0, hz1, hz2⟩ := info_parts Tryd.info5
  obtain ⟨va, vn, vc, rfl⟩ := owns_shape hown0
  have h200 := (M.fault_zero hv).2.1
  have haI : (a : Int) < (v.length : Int) := by omega
  have hc := J.code_text (code_at hv a ha)
  obtain ⟨f0, f1, f2, f3, f4⟩ := hrow a ha
  rw [hk] at f0
  obtain ⟨R, hR⟩ : ∃ R, R = J.encL (f + 1) (part v a) := ⟨_, rfl⟩
  have HR := hide (hR.trans (J.encL_part f hv ha))
  rw [← hR]
  clear hR
  rw [hk] at HR
  clear hk
  generalize v.getD a M.zero = c at *
  obtain ⟨w0, hw0⟩ : ∃ w0, w0 = w.alloc (.cells #[.int .i64 3, .int .i64 c.num, .string c.text, .string c.key, .int .i64 c.n] 89) := ⟨_, rfl⟩
  have B0 : Bk base w w0 := by rw [hw0]; exact (Bk.refl _ _).alloc hbase0 _
  have hX0 : Own w0 w.heap.size 89 [.int .i64 3, .int .i64 c.num, .string c.text, .string c.key, .int .i64 c.n] := by rw [hw0]; exact ⟨_, heap_alloc_new _ _, rfl⟩
  have hown := hown0.alloc (.cells #[.int .i64 3, .int .i64 c.num, .string c.text, .string c.key, .int .i64 c.n] 89)
  rw [← hw0] at hown
  have HE := hide (show R = Lib.itoa c.num by rw [unhide HR]; rfl)
  have HI := hide (Tryd.strconv_AppendInt_10 base l.length c.num (by omega) (by omega) (.slice va vn vc) (J.bv l) w0 hown (by have := B0.size; omega) (by omega) (htab.on B0.1))
  rw [hw0] at HI
  clear hown hown0 HR hpl htab hv hc hrow
  go_enter Tryd.func31, Tryd.ntmps31
  go_wp2_with fail
  refine (unhide HI).mono ?_
  rintro e w1 ⟨v1, rfl, ho1, hb1, hk1⟩
  rw [← hw0] at hb1 hk1
  have B1 : Bk base w w1 := B0.trans ⟨hb1, hk1⟩
  have fin := hide (show w1.ownsRow base 5 1 v1 (l ++ R).length (J.bv (l ++ R)) by
    rw [unhide HE, List.length_append, ← bv_app]; exact ho1)
  clear ho1 HI hb1 hk1
  obtain ⟨xa1, xn1, xc1, rfl⟩ := owns_shape (unhide fin)
  go_wp2_with fail
  go_ret
  refine ⟨_, rfl, ?_, B1⟩
  first | exact unhide fin | (have h := unhide fin; rw [List.length_append] at h; exact h)

set_option maxRecDepth 100000 in
set_option maxHeartbeats 4000000 in
theorem appendText_4 (f : Nat) (v : List M.Cl) (a b off cap base : Nat) (tv : Value) (l : List UInt8) (w : World) (hv : M.valueFault v = 0) (ha : a < v.length) (hpl : (part v a).length ≤ f + 1) (hrow : Row w b off v) (hb : b < base) (hcap : v.length ≤ cap) (hbase0 : base ≤ w.heap.size) (hl : l.length + 100000 * (f + 1) ≤ 100000000) (hown0 : w.ownsRow base 5 1 tv l.length (J.bv l)) (htab : Lib.TabBelow Tryd.prog base w "internal/strconv.uint64pow10" .u64 Lib.pow10Tab) (hk : (v.getD a M.zero).kind = 4) :
    Calls Tryd.prog 31 #[tv, .slice (some ⟨b, off, none⟩) v.length cap, .int .i64 a] w fun e w' => ∃ v', e = .returned v' ∧ w'.ownsRow base 5 1 v' (l ++ J.encL (f + 1) (part v a)).length (J.bv (l ++ J.encL (f + 1) (part v a))) ∧ Bk base w w' := by
  obtain ⟨i0, hi, hz0, hz1, hz2⟩ := info_parts Tryd.info5
  obtain ⟨va, vn, vc, rfl⟩ := owns_shape hown0
  have h200 := (M.fault_zero hv).2.1
  have haI : (a : Int) < (v.length : Int) := by omega
  have hc := J.code_text (code_at hv a ha)
  obtain ⟨f0, f1, f2, f3, f4⟩ := hrow a ha
  rw [hk] at f0
  obtain ⟨R, hR⟩ : ∃ R, R = J.encL (f + 1) (part v a) := ⟨_, rfl⟩
  have HR := hide (hR.trans (J.encL_part f hv ha))
  rw [← hR]
  clear hR
  rw [hk] at HR
  clear hk
  generalize v.getD a M.zero = c at *
  obtain ⟨w0, hw0⟩ : ∃ w0, w0 = w.alloc (.cells #[.int .i64 4, .int .i64 c.num, .string c.text, .string c.key, .int .i64 c.n] 89) := ⟨_, rfl⟩
  have B0 : Bk base w w0 := by rw [hw0]; exact (Bk.refl _ _).alloc hbase0 _
  have hX0 : Own w0 w.heap.size 89 [.int .i64 4, .int .i64 c.num, .string c.text, .string c.key, .int .i64 c.n] := by rw [hw0]; exact ⟨_, heap_alloc_new _ _, rfl⟩
  have hown := hown0.alloc (.cells #[.int .i64 4, .int .i64 c.num, .string c.text, .string c.key, .int .i64 c.n] 89)
  rw [← hw0] at hown
  have HE := hide (show R = J.quote c.text by rw [unhide HR]; rfl)
  have HI := hide (appendQuoted_any base (.slice va vn vc) l c.text w0 hown hc.1 (by omega) (by have := B0.size; omega))
  rw [hw0] at HI
  clear hown hown0 HR hpl htab hv hc hrow
  go_enter Tryd.func31, Tryd.ntmps31
  go_wp2_with fail
  refine (unhide HI).mono ?_
  rintro e w1 ⟨v1, rfl, ho1, hk1⟩
  rw [← hw0] at hk1
  have B1 : Bk base w w1 := B0.trans hk1
  have fin := hide (show w1.ownsRow base 5 1 v1 (l ++ R).length (J.bv (l ++ R)) by
    rw [unhide HE]; exact ho1)
  clear ho1 HI hk1
  obtain ⟨xa1, xn1, xc1, rfl⟩ := owns_shape (unhide fin)
  go_wp2_with fail
  go_ret
  refine ⟨_, rfl, ?_, B1⟩
  first | exact unhide fin | (have h := unhide fin; rw [List.length_append] at h; exact h)

set_option maxRecDepth 100000 in
set_option maxHeartbeats 4000000 in
theorem appendText_5 (f : Nat) (IH : Hid (AppSays f)) (v : List M.Cl) (a b off cap base : Nat) (tv : Value) (l : List UInt8) (w : World) (hv : M.valueFault v = 0) (ha : a < v.length) (hpl : (part v a).length ≤ f + 1) (hrow : Row w b off v) (hb : b < base) (hcap : v.length ≤ cap) (hbase0 : base ≤ w.heap.size) (hl : l.length + 100000 * (f + 1) ≤ 100000000) (hown0 : w.ownsRow base 5 1 tv l.length (J.bv l)) (htab : Lib.TabBelow Tryd.prog base w "internal/strconv.uint64pow10" .u64 Lib.pow10Tab) (hk : (v.getD a M.zero).kind = 5) :
    Calls Tryd.prog 31 #[tv, .slice (some ⟨b, off, none⟩) v.length cap, .int .i64 a] w fun e w' => ∃ v', e = .returned v' ∧ w'.ownsRow base 5 1 v' (l ++ J.encL (f + 1) (part v a)).length (J.bv (l ++ J.encL (f + 1) (part v a))) ∧ Bk base w w' := by
  obtain ⟨i0, hi, hz0, hz1, hz2⟩ := info_parts Tryd.info5
  obtain ⟨va, vn, vc, rfl⟩ := owns_shape hown0
  have h200 := (M.fault_zero hv).2.1
  have haI : (a : Int) < (v.length : Int) := by omega
  have hc := J.code_text (code_at hv a ha)
  obtain ⟨f0, f1, f2, f3, f4⟩ := hrow a ha
  rw [hk] at f0
  obtain ⟨R, hR⟩ : ∃ R, R = J.encL (f + 1) (part v a) := ⟨_, rfl⟩
  have HR := hide (hR.trans (J.encL_part f hv ha))
  rw [← hR]
  clear hR
  rw [hk] at HR
  have hbd := J.parts_bd f hv ha hpl false _ (Nat.le_refl _)
  have HP := hide (fun (wq : World) (Lq : List UInt8) (tq : Value) (hq : Bk base w wq) (hlq : Lq.length + 100000 * f + 99990 ≤ 100000000) (hoq : wq.ownsRow base 5 1 tq Lq.length (J.bv Lq)) => appendParts_5 f IH v a b off cap base tq Lq wq hv ha hpl (hrow.below hq.1 hb) hb hcap (Nat.le_trans hbase0 hq.size) hlq hoq (htab.on hq.1) hk)
  clear hk
  generalize v.getD a M.zero = c at *
  obtain ⟨w0, hw0⟩ : ∃ w0, w0 = w.alloc (.cells #[.int .i64 5, .int .i64 c.num, .string c.text, .string c.key, .int .i64 c.n] 89) := ⟨_, rfl⟩
  have B0 : Bk base w w0 := by rw [hw0]; exact (Bk.refl _ _).alloc hbase0 _
  have hX0 : Own w0 w.heap.size 89 [.int .i64 5, .int .i64 c.num, .string c.text, .string c.key, .int .i64 c.n] := by rw [hw0]; exact ⟨_, heap_alloc_new _ _, rfl⟩
  have hown := hown0.alloc (.cells #[.int .i64 5, .int .i64 c.num, .string c.text, .string c.key, .int .i64 c.n] 89)
  rw [← hw0] at hown
  have HE := hide (show R = [91] ++ J.partsK (J.encL f) false (keysAt v a) (subs v a) (M.arity v a) ++ [93] by rw [unhide HR]; rfl)
  have hbw : base ≤ w0.heap.size := by have := B0.size; omega
  have hsz0 : w0.heap.size = w.heap.size + 1 := by rw [hw0]; simp
  have hown1 := hide (fun o => hown.alloc o)
  have hone := hide (J.one_word w0 91)
  rw [hsz0] at hone
  have honep := hide (J.one_plain 91)
  have hb63 : l.length + 1 ≤ maxLen := by unfold maxLen; omega
  have hby : (l.length + 1) * 1 ≤ 140737488355328 := by omega
  have hbse := hide (J.owns_base hown)
  have hbsr := hide (fun o => J.owns_row (hown.alloc o))
  have HB0 := hide B0
  have HW0 := hide hw0
  have hbase : base ≤ w.heap.size + 1 + 1 := by omega
  rw [hw0] at hown1 hone hbsr
  clear hown0 HR hpl htab hv hc hrow hX0 hown B0 hw0 hbw hsz0
  go_enter Tryd.func31, Tryd.ntmps31
  go_wp2_with (at_builtin; refine wpList_append_own _ rfl (.tmp 40) (.tmp 41) 62 rfl base 5 i0 (.int .u8 0) 1 1 Tryd.underlying62 hi hz0 hz1 hz2 rfl (by decide) _ l.length _ rfl ((unhide hown1) _) ⟨w.heap.size + 1, 0, none⟩ 1 1 [.int .u8 91] rfl rfl (unhide hone) (unhide honep) hb63 hby (by simpa using hbase) ?_)
  intro vw1 w1 w1h hgw1 _
  have w1b : Bk base w w1 := by
    have hB := unhide HB0
    rw [unhide HW0] at hB
    exact (hB.alloc (by simp; omega) _).grown hgw1 (by simpa using hbase) (unhide hbse) ((unhide hbsr) _)
  obtain ⟨Lw1, ew1⟩ : ∃ L', L' = l ++ [91] := ⟨_, rfl⟩
  have w1o : w1.ownsRow base 5 1 vw1 Lw1.length (J.bv Lw1) := by rw [ew1, List.length_append, ← J.bv_snoc]; exact w1h
  have lw1 : Lw1.length ≤ l.length + 1 := by rw [ew1, List.length_append]; exact Nat.le_refl _
  have hlq := room_in hl lw1
  have Ew1 := hide ew1
  have HLQ := hide hlq
  clear hgw1 w1h ew1 hown1 hone honep hb63 hby hbase hbse hbsr HB0 HW0 hlq
  obtain ⟨xa1, xn1, xc1, rfl⟩ := owns_shape w1o
  go_wp2_with fail
  refine ((unhide HP) _ _ _ w1b (unhide HLQ) w1o).mono ?_
  rintro e w2 ⟨v2, rfl, w2o0, w2k⟩
  have w2b : Bk base w w2 := w1b.trans w2k
  obtain ⟨Lw2, ew2⟩ : ∃ L', L' = Lw1 ++ J.partsK (J.encL f) false (keysAt v a) (subs v a) (M.arity v a) := ⟨_, rfl⟩
  have w2o : w2.ownsRow base 5 1 v2 Lw2.length (J.bv Lw2) := by rw [ew2]; exact w2o0
  have lw2 : Lw2.length ≤ Lw1.length + 80000 := by rw [ew2, List.length_append]; omega
  have Ew2 := hide ew2
  clear ew2 w2o0 w2k w1o w1b
  obtain ⟨xa2, xn2, xc2, rfl⟩ := owns_shape w2o
  have hown1 := hide (fun o => (w2o).alloc o)
  have hone := hide (J.one_word w2 93)
  have honep := hide (J.one_plain 93)
  have hb63 : (Lw2).length + 1 ≤ maxLen := by unfold maxLen; omega
  have hby : ((Lw2).length + 1) * 1 ≤ 140737488355328 := by omega
  have hbase : base ≤ w2.heap.size + 1 := by have := (w2b).size; omega
  have hbse := hide (J.owns_base w2o)
  have hbsr := hide (fun o => J.owns_row ((w2o).alloc o))
  clear w2o
  go_wp2_with (at_builtin; refine wpList_append_own _ rfl (.tmp 45) (.tmp 46) 62 rfl base 5 i0 (.int .u8 0) 1 1 Tryd.underlying62 hi hz0 hz1 hz2 rfl (by decide) _ (Lw2).length _ rfl ((unhide hown1) _) ⟨w2.heap.size, 0, none⟩ 1 1 [.int .u8 93] rfl rfl (unhide hone) (unhide honep) hb63 hby (by simpa using hbase) ?_)
  intro vw3 w3 w3h hgw3 _
  have w3b : Bk base w w3 := ((w2b).alloc (by have := (w2b).size; omega) _).grown hgw3 (by simpa using hbase) (unhide hbse) ((unhide hbsr) _)
  obtain ⟨Lw3, ew3⟩ : ∃ L', L' = Lw2 ++ [93] := ⟨_, rfl⟩
  have w3o : w3.ownsRow base 5 1 vw3 Lw3.length (J.bv Lw3) := by rw [ew3, List.length_append, ← J.bv_snoc]; exact w3h
  have lw3 : Lw3.length ≤ (Lw2).length + 1 := by rw [ew3, List.length_append]; exact Nat.le_refl _
  have Ew3 := hide ew3
  clear hgw3 w3h ew3 hown1 hone honep hb63 hby hbase hbse hbsr
  obtain ⟨xaw3, xnw3, xcw3, rfl⟩ := owns_shape w3o
  have fin := hide (show w3.ownsRow base 5 1 (.slice xaw3 xnw3 xcw3) (l ++ R).length (J.bv (l ++ R)) by
    have e : Lw3 = l ++ R := by
      rw [unhide Ew3, unhide Ew2, unhide Ew1, unhide HE]
      simp only [List.append_assoc]
    rw [← e]; exact w3o)
  clear w3o
  go_wp2_with fail
  go_ret
  refine ⟨_, rfl, ?_, w3b⟩
  first | exact unhide fin | (have h := unhide fin; rw [List.length_append] at h; exact h)

set_option maxRecDepth 100000 in
set_option maxHeartbeats 4000000 in
theorem appendText_6 (f : Nat) (IH : Hid (AppSays f)) (v : List M.Cl) (a b off cap base : Nat) (tv : Value) (l : List UInt8) (w : World) (hv : M.valueFault v = 0) (ha : a < v.length) (hpl : (part v a).length ≤ f + 1) (hrow : Row w b off v) (hb : b < base) (hcap : v.length ≤ cap) (hbase0 : base ≤ w.heap.size) (hl : l.length + 100000 * (f + 1) ≤ 100000000) (hown0 : w.ownsRow base 5 1 tv l.length (J.bv l)) (htab : Lib.TabBelow Tryd.prog base w "internal/strconv.uint64pow10" .u64 Lib.pow10Tab) (hk : (v.getD a M.zero).kind = 6) :
    Calls Tryd.prog 31 #[tv, .slice (some ⟨b, off, none⟩) v.length cap, .int .i64 a] w fun e w' => ∃ v', e = .returned v' ∧ w'.ownsRow base 5 1 v' (l ++ J.encL (f + 1) (part v a)).length (J.bv (l ++ J.encL (f + 1) (part v a))) ∧ Bk base w w' := by
  obtain ⟨i0, hi, hz0, hz1, hz2⟩ := info_parts Tryd.info5
  obtain ⟨va, vn, vc, rfl⟩ := owns_shape hown0
  have h200 := (M.fault_zero hv).2.1
  have haI : (a : Int) < (v.length : Int) := by omega
  have hc := J.code_text (code_at hv a ha)
  obtain ⟨f0, f1, f2, f3, f4⟩ := hrow a ha
  rw [hk] at f0
  obtain ⟨R, hR⟩ : ∃ R, R = J.encL (f + 1) (part v a) := ⟨_, rfl⟩
  have HR := hide (hR.trans (J.encL_part f hv ha))
  rw [← hR]
  clear hR
  rw [hk] at HR
  have hbd := J.parts_bd f hv ha hpl true _ (Nat.le_refl _)
  have HP := hide (fun (wq : World) (Lq : List UInt8) (tq : Value) (hq : Bk base w wq) (hlq : Lq.length + 100000 * f + 99990 ≤ 100000000) (hoq : wq.ownsRow base 5 1 tq Lq.length (J.bv Lq)) => appendParts_6 f IH v a b off cap base tq Lq wq hv ha hpl (hrow.below hq.1 hb) hb hcap (Nat.le_trans hbase0 hq.size) hlq hoq (htab.on hq.1) hk)
  clear hk
  generalize v.getD a M.zero = c at *
  obtain ⟨w0, hw0⟩ : ∃ w0, w0 = w.alloc (.cells #[.int .i64 6, .int .i64 c.num, .string c.text, .string c.key, .int .i64 c.n] 89) := ⟨_, rfl⟩
  have B0 : Bk base w w0 := by rw [hw0]; exact (Bk.refl _ _).alloc hbase0 _
  have hX0 : Own w0 w.heap.size 89 [.int .i64 6, .int .i64 c.num, .string c.text, .string c.key, .int .i64 c.n] := by rw [hw0]; exact ⟨_, heap_alloc_new _ _, rfl⟩
  have hown := hown0.alloc (.cells #[.int .i64 6, .int .i64 c.num, .string c.text, .string c.key, .int .i64 c.n] 89)
  rw [← hw0] at hown
  have HE := hide (show R = [123] ++ J.partsK (J.encL f) true (keysAt v a) (subs v a) (M.arity v a) ++ [125] by rw [unhide HR]; rfl)
  have hbw : base ≤ w0.heap.size := by have := B0.size; omega
  have hsz0 : w0.heap.size = w.heap.size + 1 := by rw [hw0]; simp
  have hown1 := hide (fun o => hown.alloc o)
  have hone := hide (J.one_word w0 123)
  rw [hsz0] at hone
  have honep := hide (J.one_plain 123)
  have hb63 : l.length + 1 ≤ maxLen := by unfold maxLen; omega
  have hby : (l.length + 1) * 1 ≤ 140737488355328 := by omega
  have hbse := hide (J.owns_base hown)
  have hbsr := hide (fun o => J.owns_row (hown.alloc o))
  have HB0 := hide B0
  have HW0 := hide hw0
  have hbase : base ≤ w.heap.size + 1 + 1 := by omega
  rw [hw0] at hown1 hone hbsr
  clear hown0 HR hpl htab hv hc hrow hX0 hown B0 hw0 hbw hsz0
  go_enter Tryd.func31, Tryd.ntmps31
  go_wp2_with (at_builtin; refine wpList_append_own _ rfl (.tmp 48) (.tmp 49) 62 rfl base 5 i0 (.int .u8 0) 1 1 Tryd.underlying62 hi hz0 hz1 hz2 rfl (by decide) _ l.length _ rfl ((unhide hown1) _) ⟨w.heap.size + 1, 0, none⟩ 1 1 [.int .u8 123] rfl rfl (unhide hone) (unhide honep) hb63 hby (by simpa using hbase) ?_)
  intro vw1 w1 w1h hgw1 _
  have w1b : Bk base w w1 := by
    have hB := unhide HB0
    rw [unhide HW0] at hB
    exact (hB.alloc (by simp; omega) _).grown hgw1 (by simpa using hbase) (unhide hbse) ((unhide hbsr) _)
  obtain ⟨Lw1, ew1⟩ : ∃ L', L' = l ++ [123] := ⟨_, rfl⟩
  have w1o : w1.ownsRow base 5 1 vw1 Lw1.length (J.bv Lw1) := by rw [ew1, List.length_append, ← J.bv_snoc]; exact w1h
  have lw1 : Lw1.length ≤ l.length + 1 := by rw [ew1, List.length_append]; exact Nat.le_refl _
  have hlq := room_in hl lw1
  have Ew1 := hide ew1
  have HLQ := hide hlq
  clear hgw1 w1h ew1 hown1 hone honep hb63 hby hbase hbse hbsr HB0 HW0 hlq
  obtain ⟨xa1, xn1, xc1, rfl⟩ := owns_shape w1o
  go_wp2_with fail
  refine ((unhide HP) _ _ _ w1b (unhide HLQ) w1o).mono ?_
  rintro e w2 ⟨v2, rfl, w2o0, w2k⟩
  have w2b : Bk base w w2 := w1b.trans w2k
  obtain ⟨Lw2, ew2⟩ : ∃ L', L' = Lw1 ++ J.partsK (J.encL f) true (keysAt v a) (subs v a) (M.arity v a) := ⟨_, rfl⟩
  have w2o : w2.ownsRow base 5 1 v2 Lw2.length (J.bv Lw2) := by rw [ew2]; exact w2o0
  have lw2 : Lw2.length ≤ Lw1.length + 80000 := by rw [ew2, List.length_append]; omega
  have Ew2 := hide ew2
  clear ew2 w2o0 w2k w1o w1b
  obtain ⟨xa2, xn2, xc2, rfl⟩ := owns_shape w2o
  have hown1 := hide (fun o => (w2o).alloc o)
  have hone := hide (J.one_word w2 125)
  have honep := hide (J.one_plain 125)
  have hb63 : (Lw2).length + 1 ≤ maxLen := by unfold maxLen; omega
  have hby : ((Lw2).length + 1) * 1 ≤ 140737488355328 := by omega
  have hbase : base ≤ w2.heap.size + 1 := by have := (w2b).size; omega
  have hbse := hide (J.owns_base w2o)
  have hbsr := hide (fun o => J.owns_row ((w2o).alloc o))
  clear w2o
  go_wp2_with (at_builtin; refine wpList_append_own _ rfl (.tmp 53) (.tmp 54) 62 rfl base 5 i0 (.int .u8 0) 1 1 Tryd.underlying62 hi hz0 hz1 hz2 rfl (by decide) _ (Lw2).length _ rfl ((unhide hown1) _) ⟨w2.heap.size, 0, none⟩ 1 1 [.int .u8 125] rfl rfl (unhide hone) (unhide honep) hb63 hby (by simpa using hbase) ?_)
  intro vw3 w3 w3h hgw3 _
  have w3b : Bk base w w3 := ((w2b).alloc (by have := (w2b).size; omega) _).grown hgw3 (by simpa using hbase) (unhide hbse) ((unhide hbsr) _)
  obtain ⟨Lw3, ew3⟩ : ∃ L', L' = Lw2 ++ [125] := ⟨_, rfl⟩
  have w3o : w3.ownsRow base 5 1 vw3 Lw3.length (J.bv Lw3) := by rw [ew3, List.length_append, ← J.bv_snoc]; exact w3h
  have lw3 : Lw3.length ≤ (Lw2).length + 1 := by rw [ew3, List.length_append]; exact Nat.le_refl _
  have Ew3 := hide ew3
  clear hgw3 w3h ew3 hown1 hone honep hb63 hby hbase hbse hbsr
  obtain ⟨xaw3, xnw3, xcw3, rfl⟩ := owns_shape w3o
  have fin := hide (show w3.ownsRow base 5 1 (.slice xaw3 xnw3 xcw3) (l ++ R).length (J.bv (l ++ R)) by
    have e : Lw3 = l ++ R := by
      rw [unhide Ew3, unhide Ew2, unhide Ew1, unhide HE]
      simp only [List.append_assoc]
    rw [← e]; exact w3o)
  clear w3o
  go_wp2_with fail
  go_ret
  refine ⟨_, rfl, ?_, w3b⟩
  first | exact unhide fin | (have h := unhide fin; rw [List.length_append] at h; exact h)

theorem appendText_any (f : Nat) : AppSays f := by
  induction f with
  | zero =>
    intro v a b off cap base tv l w hv ha hpl
    have := part_len hv ha
    have := (end_gt hv ha).1
    omega
  | succ f ih =>
    intro v a b off cap base tv l w hv ha hpl hrow hb hcap hbase hl hown htab
    have hc := J.code_text (code_at hv a ha)
    by_cases k0 : (v.getD a M.zero).kind = 0
    · exact appendText_0 f v a b off cap base tv l w hv ha hpl hrow hb hcap hbase hl hown htab k0
    by_cases k1 : (v.getD a M.zero).kind = 1
    · exact appendText_1 f v a b off cap base tv l w hv ha hpl hrow hb hcap hbase hl hown htab k1
    by_cases k2 : (v.getD a M.zero).kind = 2
    · exact appendText_2 f v a b off cap base tv l w hv ha hpl hrow hb hcap hbase hl hown htab k2
    by_cases k3 : (v.getD a M.zero).kind = 3
    · exact appendText_3 f v a b off cap base tv l w hv ha hpl hrow hb hcap hbase hl hown htab k3
    by_cases k4 : (v.getD a M.zero).kind = 4
    · exact appendText_4 f v a b off cap base tv l w hv ha hpl hrow hb hcap hbase hl hown htab k4
    by_cases k5 : (v.getD a M.zero).kind = 5
    · exact appendText_5 f (hide ih) v a b off cap base tv l w hv ha hpl hrow hb hcap hbase hl hown htab k5
    by_cases k6 : (v.getD a M.zero).kind = 6
    · exact appendText_6 f (hide ih) v a b off cap base tv l w hv ha hpl hrow hb hcap hbase hl hown htab k6
    omega

end Go.Proofs.YtcolohilnmikiaaDoor

namespace Go.Proofs.YtcolohilnmikiaaDoor
open Go.RowKit
set_option linter.unusedVariables false

def encS (s : ByteArray) : Int × ByteArray := if M.textOk s = true then (0, J.bytes (J.quote s)) else (5, ByteArray.empty)
theorem encS_bad {s : ByteArray} (h : M.textOk s = false) : encS s = (5, ByteArray.empty) := by unfold encS; rw [if_neg (by simp [h])]
theorem encS_ok {s : ByteArray} (h : M.textOk s = true) : encS s = (0, J.bytes (J.quote s)) := by unfold encS; rw [if_pos h]
theorem textOk_size {s : ByteArray} (h : M.textOk s = true) : s.size ≤ 60 := by
  unfold M.textOk at h
  simp only [Bool.and_eq_true, decide_eq_true_eq] at h
  exact h.1

set_option maxHeartbeats 1000000 in
theorem eqTextResult_same (x : Int) (y : ByteArray) (w : World) :
    Calls Tryd.prog 9 #[.agg #[.int .i64 x, .string y], .agg #[.int .i64 x, .string y]] w fun e w' => e = .returned (.bool true) ∧ Below w.heap.size w w' := by
  go_enter Tryd.func9, Tryd.ntmps9
  go_wp2
  go_ret
  exact ⟨rfl, by repeat (first | exact Below.refl _ _ | refine Below.setCell ?_ (Nat.le_refl _) _ | refine Below.alloc ?_ (by simp <;> omega) _)⟩

end Go.Proofs.YtcolohilnmikiaaDoor

namespace Go.Proofs.YtcolohilnmikiaaDoor
open Go.RowKit
set_option linter.unusedVariables false
set_option linter.unusedSimpArgs false

theorem l2Encode_all (f : Nat) : EncSays f := by
  induction f with
  | zero =>
    intro A b off cap w hA hAf
    have := (M.fault_zero hA).1
    omega
  | succ f ih =>
    intro A b off cap w hA hAf hr hb hcap hok
    have hl := (M.fault_zero hA).1
    have h200 := (M.fault_zero hA).2.1
    have hc := J.code_text (code_at hA 0 (by omega))
    by_cases k0 : (A.getD 0 M.zero).kind = 0
    · exact l2Encode_0 f A b off cap w hl h200 hr hcap k0
    by_cases k1 : (A.getD 0 M.zero).kind = 1
    · exact l2Encode_1 f A b off cap w hl h200 hr hcap k1
    by_cases k2 : (A.getD 0 M.zero).kind = 2
    · exact l2Encode_2 f A b off cap w hl h200 hr hcap k2
    by_cases k3 : (A.getD 0 M.zero).kind = 3
    · exact l2Encode_3 f A b off cap w hA hl h200 hr hcap k3
    by_cases k4 : (A.getD 0 M.zero).kind = 4
    · exact l2Encode_4 f A b off cap w hA hl h200 hr hcap k4
    by_cases k5 : (A.getD 0 M.zero).kind = 5
    · exact l2Encode_5 f (hide ih) A b off cap w hA hAf hr hb hcap hok k5
    by_cases k6 : (A.getD 0 M.zero).kind = 6
    · exact l2Encode_6 f (hide ih) A b off cap w hA hAf hr hb hcap hok k6
    omega
theorem itoa_ne (n : Int) : Lib.itoa n ≠ [] := by
  unfold Lib.itoa
  split
  · simp
  · intro h
    have h2 := Lib.decDigits_length n.toNat
    rw [h] at h2
    unfold Lib.nDigits at h2
    split at h2 <;> simp at h2
theorem encL_ne (f : Nat) (v : List M.Cl) : J.encL (f + 1) v ≠ [] := by
  rw [J.encL]
  repeat' split
  all_goals (first | exact itoa_ne _ | (unfold J.quote; simp; done) | (intro h; simp at h; done) | simp)
def encV (v : List M.Cl) : Int × ByteArray := if M.valueFault v = 0 then (0, J.bytes (J.encL 200 v)) else (M.valueFault v, ByteArray.empty)
theorem encV_ok {v : List M.Cl} (h : M.valueFault v = 0) : encV v = (0, J.bytes (J.encL 200 v)) := by unfold encV; rw [if_pos h]
theorem encV_no {v : List M.Cl} (h : M.valueFault v ≠ 0) : encV v = (M.valueFault v, ByteArray.empty) := by unfold encV; rw [if_neg h]

end Go.Proofs.YtcolohilnmikiaaDoor
