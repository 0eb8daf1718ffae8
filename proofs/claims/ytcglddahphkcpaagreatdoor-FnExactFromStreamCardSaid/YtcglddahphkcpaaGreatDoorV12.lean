/-
  The text of a value, as a plain function of its cells. No word of the program is used here.
  spec.l2Digits: the digits of a number.
  spec.l1KeyLists and spec.l1Lists: lists held against one another.
  spec.l1Lists and spec.l1Compare, by induction on the length of the first value.
  spec.l1Compare returns the plain order of values.
  spec.l2Decimal and spec.l2Encode: the text of a value.
-/
import Derived.Test.YtcglddahphkcpaaGreatDoorV00
import Derived.Test.YtcglddahphkcpaaGreatDoorV09
import Derived.Test.YtcglddahphkcpaaGreatDoorV10
import Derived.Test.YtcglddahphkcpaaGreatDoorV11
import Derived.BigQuiet
import Derived.BigRegion
import Derived.Deep.LoopGhost
import Derived.Deep.QuietTactic
import Derived.Deep.RegionHeld3
import Derived.Deep.RegionWith
import Derived.Laws.BytesArg
import Derived.Laws.RangeAny
import Derived.Lib.ItoaLen
import Derived.Lib.ItoaNum
import Derived.RegionTactic
namespace Go.Proofs.YtcglddahphkcpaaGreatDoor
open Go.RowKit
set_option linter.unusedVariables false
namespace J
/-- What stands ahead of the k-th part: a comma, and a member's key. -/
def ahead (obj : Bool) (ks : List ByteArray) (k : Nat) : List UInt8 := (if k = 0 then [] else [44]) ++ (if obj = true then quote (ks.getD k ByteArray.empty) ++ [58] else [])
/-- The texts of the first k parts. -/
def partsK (g : List M.Cl → List UInt8) (obj : Bool) (ks : List ByteArray) (ps : List (List M.Cl)) : Nat → List UInt8
  | 0 => []
  | k + 1 => partsK g obj ks ps k ++ (ahead obj ks k ++ g (ps.getD k []))
/-- The text of a value, by fuel. -/
def encL : Nat → List M.Cl → List UInt8
  | 0, _ => []
  | f + 1, v =>
    if (v.getD 0 M.zero).kind = 0 then [110, 117, 108, 108]
    else if (v.getD 0 M.zero).kind = 1 then [102, 97, 108, 115, 101]
    else if (v.getD 0 M.zero).kind = 2 then [116, 114, 117, 101]
    else if (v.getD 0 M.zero).kind = 3 then Lib.itoa (v.getD 0 M.zero).num
    else if (v.getD 0 M.zero).kind = 4 then quote (v.getD 0 M.zero).text
    else if (v.getD 0 M.zero).kind = 5 then [91] ++ partsK (encL f) false (keysAt v 0) (subs v 0) (M.arity v 0) ++ [93]
    else [123] ++ partsK (encL f) true (keysAt v 0) (subs v 0) (M.arity v 0) ++ [125]
theorem encL_part (f : Nat) {v : List M.Cl} (hv : M.valueFault v = 0) {a : Nat} (ha : a < v.length) : encL (f + 1) (part v a) =
    if (v.getD a M.zero).kind = 0 then [110, 117, 108, 108]
    else if (v.getD a M.zero).kind = 1 then [102, 97, 108, 115, 101]
    else if (v.getD a M.zero).kind = 2 then [116, 114, 117, 101]
    else if (v.getD a M.zero).kind = 3 then Lib.itoa (v.getD a M.zero).num
    else if (v.getD a M.zero).kind = 4 then quote (v.getD a M.zero).text
    else if (v.getD a M.zero).kind = 5 then [91] ++ partsK (encL f) false (keysAt v a) (subs v a) (M.arity v a) ++ [93]
    else [123] ++ partsK (encL f) true (keysAt v a) (subs v a) (M.arity v a) ++ [125] := by
  rw [encL, part_zero hv ha, (subs_part hv ha).1, (subs_part hv ha).2, part_arity hv ha]
theorem places_getD (v : List M.Cl) (a k : Nat) (hk : k < M.arity v a) : (M.places v a)[k]? = some (M.iter v k (a + 1)) := by
  simp [M.places, hk]
theorem subs_getD (v : List M.Cl) (a k : Nat) (hk : k < M.arity v a) : (subs v a).getD k [] = part v (M.iter v k (a + 1)) := by
  rw [List.getD_eq_getElem?_getD, subs, List.getElem?_map, places_getD v a k hk]; rfl
theorem keysAt_getD (v : List M.Cl) (a k : Nat) (hk : k < M.arity v a) : (keysAt v a).getD k ByteArray.empty = (v.getD (M.iter v k (a + 1)) M.zero).key := by
  rw [List.getD_eq_getElem?_getD, keysAt, List.getElem?_map, places_getD v a k hk]; rfl
theorem encL_whole (f : Nat) {v : List M.Cl} (hv : M.valueFault v = 0) (hl : 0 < v.length) : encL (f + 1) (part v 0) = encL (f + 1) v := by
  rw [encL_part f hv hl, encL]
theorem code_text {c : M.Cl} (h : M.cellCode c = 0) : c.text.size ≤ 60 ∧ c.key.size ≤ 60 ∧ -1000000000000000 ≤ c.num ∧ c.num ≤ 1000000000000000 ∧ 0 ≤ c.kind ∧ c.kind ≤ 6 := by
  unfold M.cellCode at h
  split at h
  · cases h
  split at h
  · cases h
  split at h
  · cases h
  split at h
  · rename_i h1 h2 h3 h4
    obtain ⟨t1, t2⟩ := h4
    unfold M.textOk at t1 t2
    simp only [Bool.and_eq_true, decide_eq_true_eq] at t1 t2
    exact ⟨t1.1, t2.1, by omega, by omega, by omega, by omega⟩
  · cases h
theorem ahead_length (obj : Bool) (ks : List ByteArray) (k : Nat) (hk : (ks.getD k ByteArray.empty).size ≤ 60) : (ahead obj ks k).length ≤ 130 := by
  have h := quote_length (ks.getD k ByteArray.empty)
  unfold ahead
  generalize ks.getD k ByteArray.empty = q at *
  rw [List.length_append]
  split <;> split <;> simp only [List.length_append, List.length_cons, List.length_nil] <;> omega
/-- The texts of the first parts, if each part has at most 400 bytes a cell. -/
theorem parts_length (f : Nat) (ih : ∀ (v : List M.Cl), M.valueFault v = 0 → ∀ a, a < v.length → (part v a).length ≤ f → (encL f (part v a)).length + 140 ≤ 400 * (M.endOf v a - a)) {v : List M.Cl} (hv : M.valueFault v = 0) {a : Nat} (ha : a < v.length) (hl : (part v a).length ≤ f + 1) (obj : Bool) (k : Nat) :
    k ≤ M.arity v a → (partsK (encL f) obj (keysAt v a) (subs v a) k).length ≤ 400 * (M.iter v k (a + 1) - (a + 1)) ∧ a + 1 + k ≤ M.iter v k (a + 1) := by
  have hg := end_gt hv ha
  have hpl := part_len hv ha
  obtain ⟨hin, hend, hle, har⟩ := M.places_in hv a ha
  induction k with
  | zero => intro _; exact ⟨by simp [partsK], by simp [M.iter]⟩
  | succ k ihk =>
    intro hk
    obtain ⟨h1, h2⟩ := ihk (by omega)
    have hp := hin k (by omega)
    have hpv : M.iter v k (a + 1) < v.length := by omega
    have hgp := end_gt hv hpv
    have hnx := M.iter_next v k (a + 1)
    have hlp := part_len hv hpv
    have hi : M.endOf v (M.iter v k (a + 1)) ≤ M.endOf v a := by
      rw [← hnx]
      by_cases e : k + 1 = M.arity v a
      · rw [e, hend]; exact Nat.le_refl _
      · exact Nat.le_of_lt (hin (k + 1) (by omega)).2
    have hr := ih v hv (M.iter v k (a + 1)) hpv (by omega)
    have hky : ((keysAt v a).getD k ByteArray.empty).size ≤ 60 := by rw [keysAt_getD v a k (by omega)]; exact (code_text (code_at hv _ hpv)).2.1
    have ha' := ahead_length obj (keysAt v a) k hky
    rw [partsK, List.length_append, List.length_append, subs_getD v a k (by omega), hnx]
    exact ⟨by omega, by omega⟩
/-- At most 400 bytes a cell. -/
theorem encL_length (f : Nat) : ∀ (v : List M.Cl), M.valueFault v = 0 → ∀ a, a < v.length → (part v a).length ≤ f → (encL f (part v a)).length + 140 ≤ 400 * (M.endOf v a - a) := by
  induction f with
  | zero => intro v hv a ha h0; have := part_len hv ha; have := (end_gt hv ha).1; omega
  | succ f ih =>
    intro v hv a ha hl
    have hg := end_gt hv ha
    obtain ⟨hin, hend, hle, har⟩ := M.places_in hv a ha
    have hcode := code_text (code_at hv a ha)
    have hq := quote_length (v.getD a M.zero).text
    have hi := Lib.itoa_length_le (v.getD a M.zero).num (by omega) (by omega)
    have h5 := parts_length f ih hv ha hl false _ (Nat.le_refl _)
    have h6 := parts_length f ih hv ha hl true _ (Nat.le_refl _)
    rw [encL_part f hv ha]
    rw [hend] at h5 h6
    repeat' split
    all_goals (try simp only [List.length_append, List.length_cons, List.length_nil])
    all_goals omega
theorem parts_bd (f : Nat) {v : List M.Cl} (hv : M.valueFault v = 0) {a : Nat} (ha : a < v.length) (hl : (part v a).length ≤ f + 1) (obj : Bool) (k : Nat) (hk : k ≤ M.arity v a) : (partsK (encL f) obj (keysAt v a) (subs v a) k).length ≤ 80000 := by
  have h := parts_length f (encL_length f) hv ha hl obj k hk
  obtain ⟨hin, hend, hle, har⟩ := M.places_in hv a ha
  have h200 := (M.fault_zero hv).2.1
  have : M.iter v k (a + 1) ≤ M.endOf v a := by
    by_cases e : k = M.arity v a
    · rw [e, hend]; exact Nat.le_refl _
    · exact Nat.le_of_lt (hin k (by omega)).2
  omega
theorem enc_bd (f : Nat) {v : List M.Cl} (hv : M.valueFault v = 0) {a : Nat} (ha : a < v.length) (hl : (part v a).length ≤ f) : (encL f (part v a)).length ≤ 80000 := by
  have h := encL_length f v hv a ha hl
  have := (end_gt hv ha).2
  have h200 := (M.fault_zero hv).2.1
  omega
end J

end Go.Proofs.YtcglddahphkcpaaGreatDoor

namespace Go.Proofs.YtcglddahphkcpaaGreatDoor
open Go.RowKit
set_option linter.unusedVariables false
set_option linter.unusedSimpArgs false

/-- A byte as a text. -/
theorem conv1 (d : Nat) (hd : d < 10) (b : Nat) (w : World) (h : w.cell? ⟨b, 0, none⟩ = some (.int .u8 (48 + (d : Int)))) :
    (convert 37 9 (.slice (some ⟨b, 0, none⟩) 1 1)).run Tryz.prog w = .ok (.string ⟨#[UInt8.ofNat (48 + d)]⟩) w := by
  have e := run_convert_bytes_arg (P := Tryz.prog) w 37 5 Tryz.underlying37 Tryz.underlying5 b 0 1 1 [48 + (d : Int)] rfl (fun i hi => by
    obtain rfl : i = 0 := by omega
    simpa using h) 9 Tryz.underlying9
  rw [e]
  have e2 : (48 + (d : Int)).toNat = 48 + d := by omega
  simp [strOfNums, e2]
theorem cell1 (w : World) (d : Nat) : (w.alloc (.cells #[.int .u8 (48 + (d : Int))] 5)).cell? ⟨w.heap.size, 0, none⟩ = some (.int .u8 (48 + (d : Int))) := by
  have O : Own (w.alloc (.cells #[.int .u8 (48 + (d : Int))] 5)) w.heap.size 5 [.int .u8 (48 + (d : Int))] := ⟨_, heap_alloc_new _ _, rfl⟩
  exact O.cell 0

set_option maxRecDepth 100000 in
set_option maxHeartbeats 2000000 in
theorem l2Digits_small (u : Nat) (hu : u < 10) (w : World) :
    Calls Tryz.prog 177 #[.int .i64 u] w fun e w' => e = .returned (.string ⟨(Lib.decDigits u).toArray⟩) ∧ Below w.heap.size w w' := by
  have hz : (u : Int) < 10 := by omega
  have hcv := conv1 u hu w.heap.size _ (cell1 w u)
  rw [Lib.decDigits_one hu]
  generalize UInt8.ofNat (48 + u) = c8 at *
  go_enter Tryz.func177, Tryz.ntmps177
  go_wp2_with fail
  go_ret
  exact ⟨rfl, (Below.refl _ _).alloc (Nat.le_refl _) _⟩

theorem kept1 {w w7 : World} {d : Nat} (hb : Below (w.alloc (.cells #[.int .u8 (48 + (d : Int))] 5)).drew.heap.size (w.alloc (.cells #[.int .u8 (48 + (d : Int))] 5)).drew w7) : w7.cell? ⟨w.heap.size, 0, none⟩ = some (.int .u8 (48 + (d : Int))) :=
  (hb.cell (p := ⟨w.heap.size, 0, none⟩) (by show w.heap.size < (w.alloc _).heap.size; simp)).trans (cell1 w d)
theorem ret_dig {a b : ByteArray} (h : a = b) : Ending.returned (.string a) = .returned (.string b) := by rw [h]
theorem bytes_snoc (V : List UInt8) (c : UInt8) : (⟨V.toArray⟩ : ByteArray) ++ ⟨#[c]⟩ = ⟨(V ++ [c]).toArray⟩ := by
  have e : ((⟨V.toArray⟩ : ByteArray) ++ ⟨#[c]⟩).data = (V ++ [c]).toArray := by rw [ByteArray.data_append]; simp
  cases h : ((⟨V.toArray⟩ : ByteArray) ++ ⟨#[c]⟩)
  rw [h] at e
  simp only at e
  rw [e]

set_option maxRecDepth 100000 in
set_option maxHeartbeats 1000000 in
theorem l2Digits_any (u : Nat) (hu : u ≤ 1000000000000000) : ∀ w : World,
    Calls Tryz.prog 177 #[.int .i64 u] w fun e w' => e = .returned (.string ⟨(Lib.decDigits u).toArray⟩) ∧ Below w.heap.size w w' := by
  induction u using Nat.strongRecOn with
  | _ u ih =>
    intro w
    by_cases h : u < 10
    · exact l2Digits_small u h w
    · have IH := hide (ih (u / 10) (by omega) (by omega))
      have hz : ¬ (u : Int) < 10 := by omega
      have hq : (u : Int).tdiv 10 = ((u / 10 : Nat) : Int) := by rw [Int.tdiv_eq_ediv_of_nonneg (by omega)]; omega
      have hr : (u : Int).tmod 10 = ((u % 10 : Nat) : Int) := by rw [Int.tmod_eq_emod_of_nonneg (by omega)]; omega
      have e : Lib.decDigits u = Lib.decDigits (u / 10) ++ [UInt8.ofNat (48 + u % 10)] := by rw [Lib.decDigits, dif_neg h]
      rw [e]
      have hd : u % 10 < 10 := by omega
      have hlen : (Lib.decDigits (u / 10)).length ≤ 21 := by
        have h := Lib.itoa_length_le ((u / 10 : Nat) : Int) (by omega) (by omega)
        unfold Lib.itoa at h
        rw [if_neg (by omega), Int.toNat_natCast] at h
        exact h
      have hw1 : IntKind.i64.wrap ((u / 10 : Nat) : Int) = ((u / 10 : Nat) : Int) := IntWalk.i64_in _ ⟨by omega, by omega⟩
      have hw2 : IntKind.i64.wrap (48 + ((u % 10 : Nat) : Int)) = 48 + ((u % 10 : Nat) : Int) := IntWalk.i64_in _ ⟨by omega, by omega⟩
      have hw3 : IntKind.u8.wrap (48 + ((u % 10 : Nat) : Int)) = 48 + ((u % 10 : Nat) : Int) := by unfold IntKind.wrap; simp [IntKind.signed, IntKind.bits]; omega
      clear ih e h
      have hU : (u : Int) ≤ 1000000000000000 := by omega
      have hv : u / 10 ≤ 100000000000000 := by omega
      clear hu
      generalize u / 10 = v at *
      generalize u % 10 = d at *
      generalize (u : Int) = U at *
      generalize Lib.decDigits v = V at *
      have hcv := fun (b : Nat) (wr : World) (h : wr.cell? ⟨b, 0, none⟩ = some (.int .u8 (48 + (d : Int)))) => conv1 d hd b wr h
      generalize UInt8.ofNat (48 + d) = c8 at *
      have HF := hide (bytes_snoc V c8)
      have hsz : (⟨V.toArray⟩ : ByteArray).size ≤ 21 := by simpa [ByteArray.size] using hlen
      have B0 : Below w.heap.size w w := Below.refl _ _
      clear hlen
      generalize (⟨V.toArray⟩ : ByteArray) = VV at *
      go_enter Tryz.func177, Tryz.ntmps177
      go_wp2_with fail
      go_region_with (go_at_call 177; refine ((unhide IH) _).mono ?_; rintro ec w7 ⟨rfl, hb7⟩; first | (have hc7 := kept1 hb7) | skip)
      all_goals
        go_wp2_with fail
        go_ret
        refine ⟨ret_dig (unhide HF), ?_⟩
        first
          | exact (Below.trans B0.drew hb7).alloc (by have := hb7.size; exact this) _
          | exact ((B0.alloc (Nat.le_refl _) _).drew).trans (hb7.mono (by show w.heap.size ≤ (w.alloc _).heap.size; simp))

end Go.Proofs.YtcglddahphkcpaaGreatDoor

namespace Go.Proofs.YtcglddahphkcpaaGreatDoor
open Go.RowKit
set_option linter.unusedVariables false

theorem ownsRow_form {w : World} {base : Nat} {e : TypeId} {v : Value} {n : Nat} {xs : List Value} (h : w.ownsRow base e 1 v n xs) : (n = 0 ∧ ∃ a c, v = .slice a 0 c) ∨ (0 < n ∧ ∃ g c, v = .slice (some ⟨g, 0, none⟩) n c ∧ n ≤ c ∧ base ≤ g) := by
  rcases h.2 with ⟨rfl, rfl⟩ | ⟨g, c, cur, rfl, hg, _, hn, _⟩
  · exact .inl ⟨rfl, _, _, rfl⟩
  · by_cases h0 : n = 0
    · subst h0; exact .inl ⟨rfl, _, _, rfl⟩
    · exact .inr ⟨by omega, g, c, rfl, hn, hg⟩

/-- Which of two slices is the shorter one, told by spec.l1Sign at the end. -/
theorem shape_len {w : World} {base : Nat} {e : TypeId} {v : Value} {n : Nat} {xs : List Value} (h : w.ownsRow base e 1 v n xs) : ∃ a c, v = .slice a n c := by
  rcases ownsRow_form h with ⟨h0, a, c, h⟩ | ⟨_, g, c, h, _⟩
  · exact ⟨a, c, by rw [h, h0]⟩
  · exact ⟨_, c, h⟩

end Go.Proofs.YtcglddahphkcpaaGreatDoor

namespace Go.Proofs.YtcglddahphkcpaaGreatDoor
open Go.RowKit
set_option linter.unusedVariables false

theorem res_some {w : World} {B : Nat} {s : Value} {l : List M.Cl} (h : Res w B s l) (hv : M.valueFault l = 0) : ∃ b cap, s = .slice (some ⟨b, 0, none⟩) l.length cap ∧ l.length ≤ cap ∧ OwnG w b 111 l := by
  obtain ⟨_, ⟨_, rfl⟩ | ⟨b, cap, h1, _, h3, h4⟩⟩ := h
  · have := (M.fault_zero hv).1; simp at this
  · exact ⟨b, cap, h1, h3, h4⟩

end Go.Proofs.YtcglddahphkcpaaGreatDoor

namespace Go.Proofs.YtcglddahphkcpaaGreatDoor
open Go.RowKit
set_option linter.unusedVariables false

section
variable (f : Nat) (A C : List M.Cl)
end

end Go.Proofs.YtcglddahphkcpaaGreatDoor

namespace Go.Proofs.YtcglddahphkcpaaGreatDoor
open Go.RowKit
set_option linter.unusedVariables false
set_option linter.unusedSimpArgs false

theorem decDigits_le (u : Nat) (hu : u ≤ 1000000000000000) : (Lib.decDigits u).length ≤ 21 := by
  have h := Lib.itoa_length_le (u : Int) (by omega) (by omega)
  unfold Lib.itoa at h
  rw [if_neg (by omega)] at h
  simpa using h

set_option maxRecDepth 100000 in
set_option maxHeartbeats 2000000 in
theorem l2Decimal_any (n : Int) (h0 : -1000000000000000 ≤ n) (h1 : n ≤ 1000000000000000) (w : World) :
    Calls Tryz.prog 137 #[.int .i64 n] w fun e w' => e = .returned (.string (J.bytes (Lib.itoa n))) ∧ Below w.heap.size w w' := by
  by_cases hz : n < 0
  · obtain ⟨u, hu, hu2⟩ : ∃ u : Nat, n = -(u : Int) ∧ 1 ≤ u := ⟨n.natAbs, by omega, by omega⟩
    have HD := hide (l2Digits_any u (by omega))
    have hl := decDigits_le u (by omega)
    have e : Lib.itoa n = 45 :: Lib.decDigits u := by unfold Lib.itoa; rw [if_pos hz]; congr 2; omega
    have fin : Hid (({ data := #[45] } : ByteArray) ++ ⟨(Lib.decDigits u).toArray⟩ = J.bytes (Lib.itoa n)) := by
      show _ = _
      rw [e]
      exact J.bytes_append [45] (Lib.decDigits u)
    have hsz : (⟨(Lib.decDigits u).toArray⟩ : ByteArray).size ≤ 21 := by simpa [ByteArray.size] using hl
    clear e hl
    have hneg : -n = (u : Int) := by omega
    generalize (⟨(Lib.decDigits u).toArray⟩ : ByteArray) = D at *
    generalize J.bytes (Lib.itoa n) = R at *
    clear hu
    go_enter Tryz.func137, Tryz.ntmps137
    go_wp2_with fail
    refine ((unhide HD) _).mono ?_
    rintro e w1 ⟨rfl, hb1⟩
    go_wp2_with fail
    go_ret
    exact ⟨ret_string fin.out, hb1⟩
  · obtain ⟨u, rfl⟩ : ∃ u : Nat, n = (u : Int) := ⟨n.toNat, by omega⟩
    have HD := hide (l2Digits_any u (by omega))
    have fin : Hid ((⟨(Lib.decDigits u).toArray⟩ : ByteArray) = J.bytes (Lib.itoa u)) := by
      show _ = _
      unfold Lib.itoa; rw [if_neg hz, Int.toNat_natCast]; rfl
    go_enter Tryz.func137, Tryz.ntmps137
    go_wp2_with fail
    refine ((unhide HD) _).mono ?_
    rintro e w1 ⟨rfl, hb1⟩
    go_wp2_with fail
    go_ret
    exact ⟨ret_string fin.out, hb1⟩

end Go.Proofs.YtcglddahphkcpaaGreatDoor
