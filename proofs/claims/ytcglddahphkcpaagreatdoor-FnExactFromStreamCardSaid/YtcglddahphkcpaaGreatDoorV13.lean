/-
  spec.l2Encode: the text of a value, by induction on how many cells it has.
-/
import Derived.Test.YtcglddahphkcpaaGreatDoorV11
import Derived.Test.YtcglddahphkcpaaGreatDoorV12
import Derived.Deep.RegionWith
namespace Go.Proofs.YtcglddahphkcpaaGreatDoor
open Go.RowKit
set_option linter.unusedVariables false
set_option linter.unusedSimpArgs false

/-- What is promised of spec.l2Encode for values of at most f cells. -/
def EncSays (f : Nat) : Prop := ∀ (A : List M.Cl) (b off cap : Nat) (w : World), M.valueFault A = 0 → A.length ≤ f → Row w b off A → b < w.heap.size → A.length ≤ cap → (∀ c ∈ A, c.ok) →
  Calls Tryz.prog 76 #[.slice (some ⟨b, off, none⟩) A.length cap] w fun e w' => e = .returned (.string (J.bytes (J.encL f A))) ∧ Below w.heap.size w w'
theorem encS_0 (f : Nat) (A : List M.Cl) (h : (A.getD 0 M.zero).kind = 0) : J.encL (f + 1) A = [110, 117, 108, 108] := by rw [J.encL, if_pos h]
theorem encS_1 (f : Nat) (A : List M.Cl) (h : (A.getD 0 M.zero).kind = 1) : J.encL (f + 1) A = [102, 97, 108, 115, 101] := by rw [J.encL, if_neg (by omega), if_pos h]
theorem encS_2 (f : Nat) (A : List M.Cl) (h : (A.getD 0 M.zero).kind = 2) : J.encL (f + 1) A = [116, 114, 117, 101] := by rw [J.encL, if_neg (by omega), if_neg (by omega), if_pos h]
theorem encS_3 (f : Nat) (A : List M.Cl) (h : (A.getD 0 M.zero).kind = 3) : J.encL (f + 1) A = Lib.itoa (A.getD 0 M.zero).num := by rw [J.encL, if_neg (by omega), if_neg (by omega), if_neg (by omega), if_pos h]
theorem encS_4 (f : Nat) (A : List M.Cl) (h : (A.getD 0 M.zero).kind = 4) : J.encL (f + 1) A = J.quote (A.getD 0 M.zero).text := by rw [J.encL, if_neg (by omega), if_neg (by omega), if_neg (by omega), if_neg (by omega), if_pos h]
theorem encS_5 (f : Nat) (A : List M.Cl) (h : (A.getD 0 M.zero).kind = 5) : J.encL (f + 1) A = [91] ++ J.partsK (J.encL f) false (keysAt A 0) (subs A 0) (M.arity A 0) ++ [93] := by
  rw [J.encL, if_neg (by omega), if_neg (by omega), if_neg (by omega), if_neg (by omega), if_neg (by omega), if_pos h]
theorem encS_6 (f : Nat) (A : List M.Cl) (h : (A.getD 0 M.zero).kind = 6) : J.encL (f + 1) A = [123] ++ J.partsK (J.encL f) true (keysAt A 0) (subs A 0) (M.arity A 0) ++ [125] := by
  rw [J.encL, if_neg (by omega), if_neg (by omega), if_neg (by omega), if_neg (by omega), if_neg (by omega), if_neg (by omega)]
theorem bytes_two (a b : List UInt8) : J.bytes (a ++ b) = J.bytes a ++ J.bytes b := (J.bytes_append a b).symm
/-- Each part of a value: what is said of it. -/
theorem sub_ok {A : List M.Cl} (hA : M.valueFault A = 0) (hok : ∀ c ∈ A, c.ok) {f : Nat} (hAf : A.length ≤ f + 1) (i : Nat) (hi : i < M.arity A 0) :
    M.valueFault ((subs A 0).getD i []) = 0 ∧ ((subs A 0).getD i []).length ≤ f ∧ (∀ c ∈ (subs A 0).getD i [], c.ok) := by
  have h1 := (M.fault_zero hA).1
  have hl : i < (subs A 0).length := by rw [subs_length]; exact hi
  have hm : (subs A 0).getD i [] ∈ subs A 0 := by
    rw [List.getD_eq_getElem?_getD, List.getElem?_eq_getElem hl]; exact List.getElem_mem hl
  obtain ⟨a, b, c⟩ := subs_ok hA hok (show 0 < A.length by omega) _ hm
  exact ⟨a, by omega, c⟩
theorem key_ok {A : List M.Cl} (hA : M.valueFault A = 0) (i : Nat) (hi : i < M.arity A 0) : ((keysAt A 0).getD i ByteArray.empty).size ≤ 60 := by
  have h1 := (M.fault_zero hA).1
  have hin := (M.places_in hA 0 (by omega)).1 i hi
  have hle := (M.places_in hA 0 (by omega)).2.2.1
  rw [J.keysAt_getD A 0 i hi]
  exact (J.code_text (code_at hA _ (by omega))).2.1

set_option maxHeartbeats 1000000 in
theorem l2Encode_0 (f : Nat) (A : List M.Cl) (b off cap : Nat) (w : World) (hl : 1 ≤ A.length) (h200 : A.length ≤ 200) (hr : Row w b off A) (hcap : A.length ≤ cap) (hk : (A.getD 0 M.zero).kind = 0) :
    Calls Tryz.prog 76 #[.slice (some ⟨b, off, none⟩) A.length cap] w fun e w' => e = .returned (.string (J.bytes (J.encL (f + 1) A))) ∧ Below w.heap.size w w' := by
  rw [encS_0 f A hk]
  obtain ⟨x0, -, -, -, -⟩ := hr 0 (by omega)
  simp only [Nat.zero_mul, Nat.add_zero] at x0
  rw [hk] at x0
  clear hr hk
  go_enter Tryz.func76, Tryz.ntmps76
  go_wp2_with fail
  go_ret
  exact ⟨rfl, Below.refl _ _⟩

set_option maxHeartbeats 1000000 in
theorem l2Encode_1 (f : Nat) (A : List M.Cl) (b off cap : Nat) (w : World) (hl : 1 ≤ A.length) (h200 : A.length ≤ 200) (hr : Row w b off A) (hcap : A.length ≤ cap) (hk : (A.getD 0 M.zero).kind = 1) :
    Calls Tryz.prog 76 #[.slice (some ⟨b, off, none⟩) A.length cap] w fun e w' => e = .returned (.string (J.bytes (J.encL (f + 1) A))) ∧ Below w.heap.size w w' := by
  rw [encS_1 f A hk]
  obtain ⟨x0, -, -, -, -⟩ := hr 0 (by omega)
  simp only [Nat.zero_mul, Nat.add_zero] at x0
  rw [hk] at x0
  clear hr hk
  go_enter Tryz.func76, Tryz.ntmps76
  go_wp2_with fail
  go_ret
  exact ⟨rfl, Below.refl _ _⟩

set_option maxHeartbeats 1000000 in
theorem l2Encode_2 (f : Nat) (A : List M.Cl) (b off cap : Nat) (w : World) (hl : 1 ≤ A.length) (h200 : A.length ≤ 200) (hr : Row w b off A) (hcap : A.length ≤ cap) (hk : (A.getD 0 M.zero).kind = 2) :
    Calls Tryz.prog 76 #[.slice (some ⟨b, off, none⟩) A.length cap] w fun e w' => e = .returned (.string (J.bytes (J.encL (f + 1) A))) ∧ Below w.heap.size w w' := by
  rw [encS_2 f A hk]
  obtain ⟨x0, -, -, -, -⟩ := hr 0 (by omega)
  simp only [Nat.zero_mul, Nat.add_zero] at x0
  rw [hk] at x0
  clear hr hk
  go_enter Tryz.func76, Tryz.ntmps76
  go_wp2_with fail
  go_ret
  exact ⟨rfl, Below.refl _ _⟩

set_option maxHeartbeats 1000000 in
theorem l2Encode_3 (f : Nat) (A : List M.Cl) (b off cap : Nat) (w : World) (hA : M.valueFault A = 0) (hl : 1 ≤ A.length) (h200 : A.length ≤ 200) (hr : Row w b off A) (hcap : A.length ≤ cap) (hk : (A.getD 0 M.zero).kind = 3) :
    Calls Tryz.prog 76 #[.slice (some ⟨b, off, none⟩) A.length cap] w fun e w' => e = .returned (.string (J.bytes (J.encL (f + 1) A))) ∧ Below w.heap.size w w' := by
  have hc := J.code_text (code_at hA 0 (by omega))
  rw [encS_3 f A hk]
  obtain ⟨x0, x1, -, -, -⟩ := hr 0 (by omega)
  simp only [Nat.zero_mul, Nat.add_zero] at x0 x1
  rw [hk] at x0
  clear hr hk hA
  generalize (A.getD 0 M.zero).num = n at *
  have HD := hide (fun w => l2Decimal_any n hc.2.2.1 hc.2.2.2.1 w)
  clear hc
  go_enter Tryz.func76, Tryz.ntmps76
  go_wp2_with fail
  refine ((unhide HD) _).mono ?_
  rintro e w1 ⟨rfl, hb1⟩
  go_wp2_with fail
  go_ret
  exact ⟨rfl, hb1⟩

set_option maxHeartbeats 1000000 in
theorem l2Encode_4 (f : Nat) (A : List M.Cl) (b off cap : Nat) (w : World) (hA : M.valueFault A = 0) (hl : 1 ≤ A.length) (h200 : A.length ≤ 200) (hr : Row w b off A) (hcap : A.length ≤ cap) (hk : (A.getD 0 M.zero).kind = 4) :
    Calls Tryz.prog 76 #[.slice (some ⟨b, off, none⟩) A.length cap] w fun e w' => e = .returned (.string (J.bytes (J.encL (f + 1) A))) ∧ Below w.heap.size w w' := by
  have hc := J.code_text (code_at hA 0 (by omega))
  rw [encS_4 f A hk]
  obtain ⟨x0, -, x2, -, -⟩ := hr 0 (by omega)
  simp only [Nat.zero_mul, Nat.add_zero] at x0 x2
  rw [hk] at x0
  clear hr hk hA
  generalize (A.getD 0 M.zero).text = n at *
  have HD := hide (fun w => l2Quote_any n w hc.1)
  clear hc
  go_enter Tryz.func76, Tryz.ntmps76
  go_wp2_with fail
  refine ((unhide HD) _).mono ?_
  rintro e w1 ⟨rfl, hw1⟩
  subst hw1
  go_wp2_with fail
  go_ret
  exact ⟨rfl, Below.refl _ _⟩

set_option maxRecDepth 100000 in
set_option maxHeartbeats 4000000 in
theorem l2Encode_5 (f : Nat) (IH : Hid (EncSays f)) (A : List M.Cl) (b off cap : Nat) (w : World) (hA : M.valueFault A = 0) (hAf : A.length ≤ f + 1) (hr : Row w b off A) (hb : b < w.heap.size) (hcap : A.length ≤ cap) (hok : ∀ c ∈ A, c.ok) (hk : (A.getD 0 M.zero).kind = 5) :
    Calls Tryz.prog 76 #[.slice (some ⟨b, off, none⟩) A.length cap] w fun e w' => e = .returned (.string (J.bytes (J.encL (f + 1) A))) ∧ Below w.heap.size w w' := by
  have hl := (M.fault_zero hA).1
  have h200 := (M.fault_zero hA).2.1
  have hn200 := (M.places_in hA 0 (by omega)).2.2.2
  rw [encS_5 f A hk]
  obtain ⟨x0, -, -, -, -⟩ := hr 0 (by omega)
  simp only [Nat.zero_mul, Nat.add_zero] at x0
  rw [hk] at x0
  have HPA := hide (fun w' (hbl : Below w.heap.size w w') => l1Parts_any A b off cap w' hA (hr.below hbl hb) (Nat.lt_of_lt_of_le hb hbl.size) hcap hok)
  have HKA := hide (fun w' (hbl : Below w.heap.size w w') => l1Keys_any A b off cap w' hA (hr.below hbl hb) (Nat.lt_of_lt_of_le hb hbl.size) hcap hok)
  have HSO := hide (fun i hi => sub_ok hA hok hAf i hi)
  have HKO := hide (fun i hi => key_ok hA i hi)
  have HBD := hide (fun i hi => J.parts_bd f hA (show 0 < A.length by omega) (by have := part_len hA (show 0 < A.length by omega); have := (end_gt hA (show 0 < A.length by omega)).2; omega) false i hi)
  have HSL := hide (subs_length A 0)
  have HKL := hide (keysAt_length A 0)
  clear hA hAf hr hok hk
  have HX : Hid (∀ w', Below w.heap.size w w' → w'.cell? ⟨b, off, none⟩ = some (.int .i64 5)) := fun w' hbl => (hbl.cell (p := ⟨b, off, none⟩) hb).trans x0
  generalize subs A 0 = ps at *
  generalize keysAt A 0 = ks at *
  generalize M.arity A 0 = n at *
  generalize A.length = al at *
  go_enter Tryz.func76, Tryz.ntmps76
  go_wp2_with fail
  refine ((unhide HPA) _ (Below.refl _ _)).mono ?_
  rintro e w1 ⟨s1, rfl, hs1, hb1⟩
  obtain ⟨a1, c1, rfl⟩ : ∃ a c, s1 = Value.slice a n c := by obtain ⟨_, _, h, _⟩ := hs1; obtain ⟨a, c, h⟩ := shape_len h; rw [unhide HSL] at h; exact ⟨_, _, h⟩
  have hx1 := HX.out w1 hb1
  go_wp2_with fail
  refine ((unhide HKA) _ hb1).mono ?_
  rintro e w2 ⟨s2, rfl, hs2, hb2⟩
  have B2 : Below w.heap.size w w2 := hb1.trans (hb2.mono hb1.size)
  have hS := hide (hs1.below hb2)
  have hK := hide hs2
  obtain ⟨a2, c2, rfl⟩ : ∃ a c, s2 = Value.slice a n c := by obtain ⟨a, c, h⟩ := shape_len hs2; rw [unhide HKL] at h; exact ⟨_, _, h⟩
  clear hs1 hs2 hb1 hb2 hx1 x0 HPA HKA
  go_wp2_with fail
  go_loopg [5, 6] n (fun gn s5 s6 wr => ∃ (i : Nat) (o : ByteArray), Hid (gn = n - i) ∧ s5 = .string o ∧ s6 = .int .i64 i ∧ i ≤ n ∧ Hid (o = J.bytes (J.partsK (J.encL f) false ks ps i)) ∧ Below w2.heap.size w2 wr)
  case atStart => exact ⟨0, _, rfl, rfl, rfl, by omega, rfl, Below.refl _ _⟩
  case round =>
    obtain ⟨i, o, hg, rfl, rfl, hi, ho, hbel⟩ := hrel
    have hbd := (unhide HBD) i hi
    have hosz : o.size ≤ 80000 := by rw [ho.out, J.bytes_size]; exact hbd
    have BW : Below w.heap.size w wr := B2.trans (hbel.mono B2.size)
    have hx := HX.out wr BW
    by_cases hlt : i < n
    · have hltI : (i : Int) < (n : Int) := by omega
      have hS' := (unhide hS).below hbel
      have hK' := (unhide hK).below hbel
      obtain ⟨ss, hs1, hs2, hs3⟩ := hS'
      rw [unhide HSL] at hs1 hs2 hs3
      rcases ownsRow_form hs2 with ⟨h0, _⟩ | ⟨hp, g, c, hgv, hgc, hgb⟩
      · omega
      obtain ⟨rfl, rfl⟩ : a1 = some ⟨g, 0, none⟩ ∧ c1 = c := by injection hgv with e1 e2 e3; exact ⟨e1, e3⟩
      obtain ⟨k1, k2, k3⟩ := (unhide HSO) i hlt
      have f1 := hs2.cellAt i (by omega)
      have q1 := hs3 i hlt
      obtain ⟨b1, d1, e1, l1, o1⟩ := res_some q1 k1
      have g1 : ss[i]? = some (.slice (some ⟨b1, 0, none⟩) (ps.getD i []).length d1) := by
        rw [List.getElem?_eq_getElem (by omega)]
        rw [List.getD_eq_getElem?_getD, List.getElem?_eq_getElem (by omega)] at e1
        simpa using e1
      rw [g1] at f1
      have HC := hide (fun w' (hbb : Below wr.heap.size wr w') => (unhide IH) (ps.getD i []) b1 0 d1 w' k1 k2 (o1.row.below hbb o1.lt) (Nat.lt_of_lt_of_le o1.lt hbb.size) l1 k3)
      have hbd2 := (unhide HBD) (i + 1) hlt
      have hps : J.partsK (J.encL f) false ks ps (i + 1) = J.partsK (J.encL f) false ks ps i ++ (J.ahead false ks i ++ J.encL f (ps.getD i [])) := rfl
      have hal : (J.encL f (ps.getD i [])).length ≤ 80000 := by rw [hps, List.length_append, List.length_append] at hbd2; omega
      have hes : (J.bytes (J.encL f (ps.getD i []))).size ≤ 80000 := by rw [J.bytes_size]; exact hal
      by_cases h0 : i = 0
      · have hnext : Hid (J.bytes (J.partsK (J.encL f) false ks ps (i + 1)) = o ++ J.bytes (J.encL f (ps.getD i []))) := by
          show _ = _
          have ha : J.ahead false ks i = [] ++ [] := by unfold J.ahead; rw [if_pos h0]; rw [if_neg (by decide)]
          rw [ho.out, hps, ha]
          simp only [bytes_two, ByteArray.append_assoc, List.append_nil, List.nil_append]
          try rfl
        have hz : ¬ (0 : Int) < (i : Int) := by omega
        clear hps hbd hbd2 hal hs1 hs2 hs3 k1 k2 k3 e1 q1 g1 hp hgc hgb hgv l1 o1 h0 hK'
        generalize J.bytes (J.encL f (ps.getD i [])) = E at *
        generalize (ps.getD i []).length = pl at *
        go_wp2_with fail
        refine ((unhide HC) _ (Below.refl _ _)).mono ?_
        rintro e w4 ⟨rfl, hb4⟩
        all_goals
          have B4 : Below w2.heap.size w2 w4 := hbel.trans (hb4.mono hbel.size)
          clear hb4
          go_wp2_with fail
          go_roundg (n - (i + 1))
          case rel => exact ⟨i + 1, _, rfl, rfl, by go_num, by omega, by (show _ = _; rw [hnext.out]), B4⟩
          case measure => have := hg.out; omega
      · have hnext : Hid (J.bytes (J.partsK (J.encL f) false ks ps (i + 1)) = o ++ { data := #[44] } ++ J.bytes (J.encL f (ps.getD i []))) := by
          show _ = _
          have ha : J.ahead false ks i = [44] ++ [] := by unfold J.ahead; rw [if_neg h0]; rw [if_neg (by decide)]
          rw [ho.out, hps, ha]
          simp only [bytes_two, ByteArray.append_assoc, List.append_nil, List.nil_append]
          try rfl
        have hz : (0 : Int) < (i : Int) := by omega
        have hosz2 : (o ++ ({ data := #[44] } : ByteArray)).size ≤ 80001 := by rw [ByteArray.size_append]; show o.size + 1 ≤ 80001; omega
        clear hps hbd hbd2 hal hs1 hs2 hs3 k1 k2 k3 e1 q1 g1 hp hgc hgb hgv l1 o1 h0 hK'
        generalize J.bytes (J.encL f (ps.getD i [])) = E at *
        generalize (ps.getD i []).length = pl at *
        go_wp2_with fail
        refine ((unhide HC) _ (Below.refl _ _)).mono ?_
        rintro e w4 ⟨rfl, hb4⟩
        all_goals
          have B4 : Below w2.heap.size w2 w4 := hbel.trans (hb4.mono hbel.size)
          clear hb4
          go_wp2_with fail
          go_roundg (n - (i + 1))
          case rel => exact ⟨i + 1, _, rfl, rfl, by go_num, by omega, by (show _ = _; rw [hnext.out]), B4⟩
          case measure => have := hg.out; omega
    · have hge : ¬ (i : Int) < (n : Int) := by omega
      have hie : i = n := by omega
      have fin : Hid (({ data := #[91] } : ByteArray) ++ o ++ { data := #[93] } = J.bytes ([91] ++ J.partsK (J.encL f) false ks ps n ++ [93])) := by
        show _ = _
        rw [ho.out, hie, bytes_two, bytes_two]
        rfl
      have hs1 : (({ data := #[91] } : ByteArray) ++ o).size ≤ 80001 := by rw [ByteArray.size_append]; show 1 + o.size ≤ 80001; omega
      clear hie hbd
      go_wp2_with fail
      go_ret
      exact ⟨ret_string fin.out, BW⟩

set_option maxRecDepth 100000 in
set_option maxHeartbeats 4000000 in
theorem l2Encode_6 (f : Nat) (IH : Hid (EncSays f)) (A : List M.Cl) (b off cap : Nat) (w : World) (hA : M.valueFault A = 0) (hAf : A.length ≤ f + 1) (hr : Row w b off A) (hb : b < w.heap.size) (hcap : A.length ≤ cap) (hok : ∀ c ∈ A, c.ok) (hk : (A.getD 0 M.zero).kind = 6) :
    Calls Tryz.prog 76 #[.slice (some ⟨b, off, none⟩) A.length cap] w fun e w' => e = .returned (.string (J.bytes (J.encL (f + 1) A))) ∧ Below w.heap.size w w' := by
  have hl := (M.fault_zero hA).1
  have h200 := (M.fault_zero hA).2.1
  have hn200 := (M.places_in hA 0 (by omega)).2.2.2
  rw [encS_6 f A hk]
  obtain ⟨x0, -, -, -, -⟩ := hr 0 (by omega)
  simp only [Nat.zero_mul, Nat.add_zero] at x0
  rw [hk] at x0
  have HPA := hide (fun w' (hbl : Below w.heap.size w w') => l1Parts_any A b off cap w' hA (hr.below hbl hb) (Nat.lt_of_lt_of_le hb hbl.size) hcap hok)
  have HKA := hide (fun w' (hbl : Below w.heap.size w w') => l1Keys_any A b off cap w' hA (hr.below hbl hb) (Nat.lt_of_lt_of_le hb hbl.size) hcap hok)
  have HSO := hide (fun i hi => sub_ok hA hok hAf i hi)
  have HKO := hide (fun i hi => key_ok hA i hi)
  have HBD := hide (fun i hi => J.parts_bd f hA (show 0 < A.length by omega) (by have := part_len hA (show 0 < A.length by omega); have := (end_gt hA (show 0 < A.length by omega)).2; omega) true i hi)
  have HSL := hide (subs_length A 0)
  have HKL := hide (keysAt_length A 0)
  clear hA hAf hr hok hk
  have HX : Hid (∀ w', Below w.heap.size w w' → w'.cell? ⟨b, off, none⟩ = some (.int .i64 6)) := fun w' hbl => (hbl.cell (p := ⟨b, off, none⟩) hb).trans x0
  generalize subs A 0 = ps at *
  generalize keysAt A 0 = ks at *
  generalize M.arity A 0 = n at *
  generalize A.length = al at *
  go_enter Tryz.func76, Tryz.ntmps76
  go_wp2_with fail
  refine ((unhide HPA) _ (Below.refl _ _)).mono ?_
  rintro e w1 ⟨s1, rfl, hs1, hb1⟩
  obtain ⟨a1, c1, rfl⟩ : ∃ a c, s1 = Value.slice a n c := by obtain ⟨_, _, h, _⟩ := hs1; obtain ⟨a, c, h⟩ := shape_len h; rw [unhide HSL] at h; exact ⟨_, _, h⟩
  have hx1 := HX.out w1 hb1
  go_wp2_with fail
  refine ((unhide HKA) _ hb1).mono ?_
  rintro e w2 ⟨s2, rfl, hs2, hb2⟩
  have B2 : Below w.heap.size w w2 := hb1.trans (hb2.mono hb1.size)
  have hS := hide (hs1.below hb2)
  have hK := hide hs2
  obtain ⟨a2, c2, rfl⟩ : ∃ a c, s2 = Value.slice a n c := by obtain ⟨a, c, h⟩ := shape_len hs2; rw [unhide HKL] at h; exact ⟨_, _, h⟩
  clear hs1 hs2 hb1 hb2 hx1 x0 HPA HKA
  go_wp2_with fail
  go_loopg [5, 6] n (fun gn s5 s6 wr => ∃ (i : Nat) (o : ByteArray), Hid (gn = n - i) ∧ s5 = .string o ∧ s6 = .int .i64 i ∧ i ≤ n ∧ Hid (o = J.bytes (J.partsK (J.encL f) true ks ps i)) ∧ Below w2.heap.size w2 wr)
  case atStart => exact ⟨0, _, rfl, rfl, rfl, by omega, rfl, Below.refl _ _⟩
  case round =>
    obtain ⟨i, o, hg, rfl, rfl, hi, ho, hbel⟩ := hrel
    have hbd := (unhide HBD) i hi
    have hosz : o.size ≤ 80000 := by rw [ho.out, J.bytes_size]; exact hbd
    have BW : Below w.heap.size w wr := B2.trans (hbel.mono B2.size)
    have hx := HX.out wr BW
    by_cases hlt : i < n
    · have hltI : (i : Int) < (n : Int) := by omega
      have hS' := (unhide hS).below hbel
      have hK' := (unhide hK).below hbel
      obtain ⟨ss, hs1, hs2, hs3⟩ := hS'
      rw [unhide HSL] at hs1 hs2 hs3
      rcases ownsRow_form hs2 with ⟨h0, _⟩ | ⟨hp, g, c, hgv, hgc, hgb⟩
      · omega
      obtain ⟨rfl, rfl⟩ : a1 = some ⟨g, 0, none⟩ ∧ c1 = c := by injection hgv with e1 e2 e3; exact ⟨e1, e3⟩
      obtain ⟨k1, k2, k3⟩ := (unhide HSO) i hlt
      have f1 := hs2.cellAt i (by omega)
      have q1 := hs3 i hlt
      obtain ⟨b1, d1, e1, l1, o1⟩ := res_some q1 k1
      have g1 : ss[i]? = some (.slice (some ⟨b1, 0, none⟩) (ps.getD i []).length d1) := by
        rw [List.getElem?_eq_getElem (by omega)]
        rw [List.getD_eq_getElem?_getD, List.getElem?_eq_getElem (by omega)] at e1
        simpa using e1
      rw [g1] at f1
      have HC := hide (fun w' (hbb : Below wr.heap.size wr w') => (unhide IH) (ps.getD i []) b1 0 d1 w' k1 k2 (o1.row.below hbb o1.lt) (Nat.lt_of_lt_of_le o1.lt hbb.size) l1 k3)
      have hbd2 := (unhide HBD) (i + 1) hlt
      have hps : J.partsK (J.encL f) true ks ps (i + 1) = J.partsK (J.encL f) true ks ps i ++ (J.ahead true ks i ++ J.encL f (ps.getD i [])) := rfl
      have hal : (J.encL f (ps.getD i [])).length ≤ 80000 := by rw [hps, List.length_append, List.length_append] at hbd2; omega
      have hkey := (unhide HKO) i hlt
      rcases ownsRow_form hK' with ⟨h0, _⟩ | ⟨hp', g', c', hgv', hgc', hgb'⟩
      · rw [unhide HKL] at h0; omega
      rw [unhide HKL] at hgv'
      obtain ⟨rfl, rfl⟩ : a2 = some ⟨g', 0, none⟩ ∧ c2 = c' := by injection hgv' with e1 e2 e3; exact ⟨e1, e3⟩
      have hK2 : wr.ownsRow w1.heap.size 9 1 (.slice (some ⟨g', 0, none⟩) n c2) n (ks.map Value.string) := by have h := hK'; unfold KS at h; rw [unhide HKL] at h; exact h
      have f2 := hK2.cellAt i (by omega)
      have g2 : (ks.map Value.string)[i]? = some (.string (ks.getD i ByteArray.empty)) := by
        have : i < ks.length := by rw [unhide HKL]; exact hlt
        rw [List.getElem?_map, List.getElem?_eq_getElem this, List.getD_eq_getElem?_getD, List.getElem?_eq_getElem this]; rfl
      rw [g2] at f2
      have hql := J.quote_length (ks.getD i ByteArray.empty)
      have hqs : (J.bytes (J.quote (ks.getD i ByteArray.empty))).size ≤ 122 := by rw [J.bytes_size]; omega
      have HQ := hide (fun w' => l2Quote_any (ks.getD i ByteArray.empty) w' hkey)
      have hes : (J.bytes (J.encL f (ps.getD i []))).size ≤ 80000 := by rw [J.bytes_size]; exact hal
      by_cases h0 : i = 0
      · have hnext : Hid (J.bytes (J.partsK (J.encL f) true ks ps (i + 1)) = o ++ J.bytes (J.quote (ks.getD i ByteArray.empty)) ++ { data := #[58] } ++ J.bytes (J.encL f (ps.getD i []))) := by
          show _ = _
          have ha : J.ahead true ks i = [] ++ (J.quote (ks.getD i ByteArray.empty) ++ [58]) := by unfold J.ahead; rw [if_pos h0]; rw [if_pos rfl]
          rw [ho.out, hps, ha]
          simp only [bytes_two, ByteArray.append_assoc, List.append_nil, List.nil_append]
          try rfl
        have hz : ¬ (0 : Int) < (i : Int) := by omega
        clear hps hbd hbd2 hal hs1 hs2 hs3 k1 k2 k3 e1 q1 g1 hp hgc hgb hgv l1 o1 h0 hK' hK2 hgv' hgc' hgb' hp' g2 hql hkey
        generalize J.bytes (J.quote (ks.getD i ByteArray.empty)) = Q at *
        generalize ks.getD i ByteArray.empty = KY at *
        generalize J.bytes (J.encL f (ps.getD i [])) = E at *
        generalize (ps.getD i []).length = pl at *
        have hq1 : (o ++ Q).size ≤ 80200 := by rw [ByteArray.size_append]; omega
        have hq2 : (o ++ Q ++ ({ data := #[58] } : ByteArray)).size ≤ 80201 := by rw [ByteArray.size_append]; show (o ++ Q).size + 1 ≤ 80201; omega
        go_wp2_with fail
        refine ((unhide HQ) _).mono ?_
        rintro e w5 ⟨rfl, hw5⟩
        have hw6 := hw5.symm
        clear hw5
        subst hw6
        go_wp2_with fail
        refine ((unhide HC) _ (Below.refl _ _)).mono ?_
        rintro e w4 ⟨rfl, hb4⟩
        all_goals
          have B4 : Below w2.heap.size w2 w4 := hbel.trans (hb4.mono hbel.size)
          clear hb4
          go_wp2_with fail
          go_roundg (n - (i + 1))
          case rel => exact ⟨i + 1, _, rfl, rfl, by go_num, by omega, by (show _ = _; rw [hnext.out]), B4⟩
          case measure => have := hg.out; omega
      · have hnext : Hid (J.bytes (J.partsK (J.encL f) true ks ps (i + 1)) = o ++ { data := #[44] } ++ J.bytes (J.quote (ks.getD i ByteArray.empty)) ++ { data := #[58] } ++ J.bytes (J.encL f (ps.getD i []))) := by
          show _ = _
          have ha : J.ahead true ks i = [44] ++ (J.quote (ks.getD i ByteArray.empty) ++ [58]) := by unfold J.ahead; rw [if_neg h0]; rw [if_pos rfl]
          rw [ho.out, hps, ha]
          simp only [bytes_two, ByteArray.append_assoc, List.append_nil, List.nil_append]
          try rfl
        have hz : (0 : Int) < (i : Int) := by omega
        have hosz2 : (o ++ ({ data := #[44] } : ByteArray)).size ≤ 80001 := by rw [ByteArray.size_append]; show o.size + 1 ≤ 80001; omega
        clear hps hbd hbd2 hal hs1 hs2 hs3 k1 k2 k3 e1 q1 g1 hp hgc hgb hgv l1 o1 h0 hK' hK2 hgv' hgc' hgb' hp' g2 hql hkey
        generalize J.bytes (J.quote (ks.getD i ByteArray.empty)) = Q at *
        generalize ks.getD i ByteArray.empty = KY at *
        generalize J.bytes (J.encL f (ps.getD i [])) = E at *
        generalize (ps.getD i []).length = pl at *
        have hq1 : (o ++ { data := #[44] } ++ Q).size ≤ 80200 := by rw [ByteArray.size_append]; omega
        have hq2 : (o ++ { data := #[44] } ++ Q ++ ({ data := #[58] } : ByteArray)).size ≤ 80201 := by rw [ByteArray.size_append]; show (o ++ { data := #[44] } ++ Q).size + 1 ≤ 80201; omega
        go_wp2_with fail
        refine ((unhide HQ) _).mono ?_
        rintro e w5 ⟨rfl, hw5⟩
        have hw6 := hw5.symm
        clear hw5
        subst hw6
        go_wp2_with fail
        refine ((unhide HC) _ (Below.refl _ _)).mono ?_
        rintro e w4 ⟨rfl, hb4⟩
        all_goals
          have B4 : Below w2.heap.size w2 w4 := hbel.trans (hb4.mono hbel.size)
          clear hb4
          go_wp2_with fail
          go_roundg (n - (i + 1))
          case rel => exact ⟨i + 1, _, rfl, rfl, by go_num, by omega, by (show _ = _; rw [hnext.out]), B4⟩
          case measure => have := hg.out; omega
    · have hge : ¬ (i : Int) < (n : Int) := by omega
      have hie : i = n := by omega
      have fin : Hid (({ data := #[123] } : ByteArray) ++ o ++ { data := #[125] } = J.bytes ([123] ++ J.partsK (J.encL f) true ks ps n ++ [125])) := by
        show _ = _
        rw [ho.out, hie, bytes_two, bytes_two]
        rfl
      have hs1 : (({ data := #[123] } : ByteArray) ++ o).size ≤ 80001 := by rw [ByteArray.size_append]; show 1 + o.size ≤ 80001; omega
      clear hie hbd
      go_wp2_with fail
      go_ret
      exact ⟨ret_string fin.out, BW⟩

end Go.Proofs.YtcglddahphkcpaaGreatDoor
