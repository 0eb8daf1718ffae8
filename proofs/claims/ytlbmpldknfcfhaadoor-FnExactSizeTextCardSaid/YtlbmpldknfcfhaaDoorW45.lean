/-
  The model's prints: spec.l15Line, l15Pretty, PrettyValue, SizeText.
-/
import Derived.Test.YtlbmpldknfcfhaaDoorW22
import Derived.Test.YtlbmpldknfcfhaaDoorW23
import Derived.Test.YtlbmpldknfcfhaaDoorW27
import Derived.Test.YtlbmpldknfcfhaaDoorW43
namespace Go.Proofs.YtlbmpldknfcfhaaDoor
open Go.RowKit
set_option linter.unusedVariables false
set_option linter.unusedSimpArgs false
namespace Pr
theorem l15Leaf_any (l : List M.Cl) (b off cap : Nat) (w : World) (hrow : Row w b off l) (h1 : 1 ≤ l.length) :
    Calls Tryd.prog 34 #[.slice (some ⟨b, off, none⟩) l.length cap] w fun e w' => e = .returned (.bool ((l.getD 0 M.zero).n == 0)) ∧ w' = w := by
  obtain ⟨_, _, _, _, f4⟩ := hrow 0 (by omega)
  simp only [Nat.zero_mul, Nat.add_zero] at f4
  have hI : (0 : Int) < (l.length : Int) := by omega
  generalize (l.getD 0 M.zero).n = n at *
  clear hrow
  go_enter Tryd.func34, Tryd.ntmps34
  go_wp2_with fail
  go_ret
  exact ⟨rfl, rfl⟩
set_option maxHeartbeats 1000000 in
theorem l15Line_any (n : Nat) (w : World) (hn : n ≤ 100000) : Calls Tryd.prog 37 #[.int .i64 (n : Int)] w fun e w' => e = .returned (.string (J.bytes (lineL n))) ∧ w' = w := by
  go_enter Tryd.func37, Tryd.ntmps37
  go_wp2_with fail
  go_loopg [0, 3] n (fun gh s0 s3 wr => ∃ (k : Nat) (o : ByteArray), Hid (gh = n - k) ∧ s0 = .int .i64 ((n - k : Nat) : Int) ∧ s3 = .string o ∧ k ≤ n ∧ Hid (o = J.bytes (lineL k)) ∧ wr = w)
  case atStart => exact ⟨0, _, rfl, rfl, rfl, by omega, rfl, rfl⟩
  case round =>
    obtain ⟨k, o, hg, rfl, rfl, hk, ho, hw⟩ := hrel
    subst hw
    have hos : o.size ≤ 100001 := by rw [ho.out, J.bytes_size, lineL_length]; omega
    by_cases hlt : k < n
    · obtain ⟨m, hm⟩ : ∃ m, n - k = m + 1 := ⟨n - k - 1, by omega⟩
      have hm2 : n - (k + 1) = m := by omega
      have hmI : (0 : Int) < ((m + 1 : Nat) : Int) := by omega
      have hnext : Hid (o ++ { data := #[32] } = J.bytes (lineL (k + 1))) := by
        show _ = _
        rw [lineL_succ, ← J.bytes_append, ← ho.out]; rfl
      rw [hm]
      have hsub : ((m + 1 : Nat) : Int) - 1 = (m : Int) := by omega
      clear ho
      go_wp2_with fail
      go_roundg (n - (k + 1))
      case rel => exact ⟨k + 1, _, rfl, by first | (rw [hm2]; done) | (rw [hm2]; go_num), rfl, by omega, hnext.out, rfl⟩
      case measure => have := hg.out; omega
    · have hke : k = n := by omega
      have e := hide (show J.bytes (lineL n) = o by rw [ho.out, hke])
      rw [show n - k = 0 by omega]
      clear ho hke
      go_wp2_with fail
      go_ret
      exact ⟨congrArg (fun x => Ending.returned (Value.string x)) (unhide e).symm, rfl⟩
/-- What l15Pretty says, for values of at most f cells. -/
def PrettySays (I f : Nat) : Prop := ∀ (A : List M.Cl) (b off cap dp : Nat) (w : World), M.valueFault A = 0 → A.length ≤ f → Row w b off A → b < w.heap.size → A.length ≤ cap → (∀ c ∈ A, c.ok) → dp + A.length ≤ 201 →
  Calls Tryd.prog 20 #[.slice (some ⟨b, off, none⟩) A.length cap, .int .i64 (I : Int), .int .i64 (dp : Int)] w fun e w' => e = .returned (.string (J.bytes (pret I f dp A))) ∧ Below w.heap.size w w'
set_option maxHeartbeats 1000000 in
theorem pretty_leaf (I : Nat) (f : Nat) (A : List M.Cl) (b off cap dp : Nat) (w : World) (hA : M.valueFault A = 0) (hr : Row w b off A) (hb : b < w.heap.size) (hcap : A.length ≤ cap) (hok : ∀ c ∈ A, c.ok) (hn0 : (A.getD 0 M.zero).n = 0) :
    Calls Tryd.prog 20 #[.slice (some ⟨b, off, none⟩) A.length cap, .int .i64 (I : Int), .int .i64 (dp : Int)] w fun e w' => e = .returned (.string (J.bytes (pret I (f + 1) dp A))) ∧ Below w.heap.size w w' := by
  have hl := (M.fault_zero hA).1
  have h200 := (M.fault_zero hA).2.1
  have HLF := hide (l15Leaf_any A b off cap w hr hl)
  rw [hn0] at HLF
  have HE := hide (l2Encode_all 200 A b off cap w hA h200 hr hb hcap hok)
  rw [pret_leaf I f dp hn0]
  clear hA hr hok hn0
  generalize J.bytes (J.encL 200 A) = E at *
  go_enter Tryd.func20, Tryd.ntmps20
  go_wp2_with fail
  refine (unhide HLF).mono ?_
  rintro e w0 ⟨rfl, hw0⟩
  subst w0
  clear HLF
  go_wp2_with fail
  refine (unhide HE).mono ?_
  rintro e w1 ⟨rfl, hb1⟩
  go_wp2_with fail
  go_ret
  exact ⟨rfl, hb1⟩

set_option maxRecDepth 100000 in
set_option maxHeartbeats 8000000 in
theorem pretty_arr (I : Nat) (hI : I ≤ 8) (f : Nat) (IH : Hid (PrettySays I f)) (A : List M.Cl) (b off cap dp : Nat) (w : World) (hA : M.valueFault A = 0) (hAf : A.length ≤ f + 1) (hr : Row w b off A) (hb : b < w.heap.size) (hcap : A.length ≤ cap) (hok : ∀ c ∈ A, c.ok) (hd : dp + A.length ≤ 201) (hk : (A.getD 0 M.zero).kind = 5) (hn0 : ¬ (A.getD 0 M.zero).n = 0) :
    Calls Tryd.prog 20 #[.slice (some ⟨b, off, none⟩) A.length cap, .int .i64 (I : Int), .int .i64 (dp : Int)] w fun e w' => e = .returned (.string (J.bytes (pret I (f + 1) dp A))) ∧ Below w.heap.size w w' := by
  have hl := (M.fault_zero hA).1
  have h200 := (M.fault_zero hA).2.1
  have hn200 := (M.places_in hA 0 (by omega)).2.2.2
  have HLF := hide (l15Leaf_any A b off cap w hr hl)
  rw [show ((A.getD 0 M.zero).n == 0) = false from beq_eq_false_iff_ne.2 hn0] at HLF
  have HPE := hide (pret_more I f dp hn0)
  rw [show decide ((A.getD 0 M.zero).kind = 6) = false by rw [hk]; rfl] at HPE
  obtain ⟨x0, -, -, -, -⟩ := hr 0 (by omega)
  simp only [Nat.zero_mul, Nat.add_zero] at x0
  rw [hk] at x0
  have hend0 : M.endOf A 0 = A.length := end_whole hA
  have hplen : (part A 0).length ≤ f + 1 := by have := part_len hA (show 0 < A.length by omega); omega
  have HPA := hide (fun w' (hbl : Below w.heap.size w w') => l1Parts_any A b off cap w' hA (hr.below hbl hb) (Nat.lt_of_lt_of_le hb hbl.size) hcap hok)
  have HKA := hide (fun w' (hbl : Below w.heap.size w w') => l1Keys_any A b off cap w' hA (hr.below hbl hb) (Nat.lt_of_lt_of_le hb hbl.size) hcap hok)
  have HSO := hide (fun i hi => sub_ok hA hok hAf i hi)
  have HSB := hide (fun i (hi : i < M.arity A 0) => (show (pret I f (dp + 1) ((subs A 0).getD i [])).length ≤ 1200000 ∧ dp + 1 + ((subs A 0).getD i []).length ≤ 201 from by
    have hin := (M.places_in hA 0 (by omega)).1 i hi
    simp only [Nat.zero_add] at hin
    have hlt : M.iter A i 1 < A.length := by omega
    have hg := end_gt hA hlt
    have hp := part_len hA hlt
    rw [J.subs_getD A 0 i hi, Nat.zero_add]
    exact ⟨pret_bd hI f hA hlt (by omega) (by omega), by omega⟩))
  have HKO := hide (fun i hi => key_ok hA i hi)
  have HBD := hide (fun i hi => parts_bd hI f hA (show 0 < A.length by omega) hplen (dp := dp) (by omega) false i hi)
  have HSL := hide (subs_length A 0)
  have HKL := hide (keysAt_length A 0)
  have hm1 := mul_bd hI (show dp + 1 ≤ 201 by omega)
  have hm0 := mul_bd hI (show dp ≤ 201 by omega)
  have hd' : dp ≤ 200 := by omega
  clear hA hAf hr hok hk hn0 hend0 hplen hd
  have HX : Hid (∀ w', Below w.heap.size w w' → w'.cell? ⟨b, off, none⟩ = some (.int .i64 5)) := fun w' hbl => (hbl.cell (p := ⟨b, off, none⟩) hb).trans x0
  generalize subs A 0 = ps at *
  generalize keysAt A 0 = ks at *
  generalize M.arity A 0 = n at *
  generalize pret I (f + 1) dp A = FIN at *
  generalize A.length = al at *
  have hj1 : (I : Int) * ((dp : Int) + 1) = ((I * (dp + 1) : Nat) : Int) := by simp
  have hj0 : (I : Int) * (dp : Int) = ((I * dp : Nat) : Int) := by simp
  have hw1 : IntKind.i64.wrap ((I : Int) * ((dp : Int) + 1)) = ((I * (dp + 1) : Nat) : Int) := by rw [hj1]; exact IntWalk.i64_in _ ⟨by omega, by omega⟩
  have hw0 : IntKind.i64.wrap ((I : Int) * (dp : Int)) = ((I * dp : Nat) : Int) := by rw [hj0]; exact IntWalk.i64_in _ ⟨by omega, by omega⟩
  have HL1 := hide (fun w' => l15Line_any (I * (dp + 1)) w' (by omega))
  have HL0 := hide (fun w' => l15Line_any (I * dp) w' (by omega))
  have hls : (J.bytes (lineL (I * (dp + 1)))).size ≤ 1700 := by rw [J.bytes_size, lineL_length]; omega
  have hls0 : (J.bytes (lineL (I * dp))).size ≤ 1700 := by rw [J.bytes_size, lineL_length]; omega
  have HW0 := hide hw0
  have HW1 := hide hw1
  clear hj1 hj0 hw1 hw0
  go_enter Tryd.func20, Tryd.ntmps20
  go_wp2_with fail
  refine (unhide HLF).mono ?_
  rintro e w0 ⟨rfl, hw0⟩
  subst w0
  clear HLF
  go_wp2_with fail
  refine ((unhide HPA) _ (Below.refl _ _)).mono ?_
  rintro e w1 ⟨s1, rfl, hs1, hb1⟩
  obtain ⟨a1, c1, rfl⟩ : ∃ a c, s1 = Value.slice a n c := by obtain ⟨_, _, h, _⟩ := hs1; obtain ⟨a, c, h⟩ := shape_len h; rw [unhide HSL] at h; exact ⟨_, _, h⟩
  have hx1 := HX.out w1 hb1
  go_wp2_with fail
  refine ((unhide HKA) _ hb1).mono ?_
  rintro e w2 ⟨s2, rfl, hs2, hb2⟩
  have B2 : Below w.heap.size w w2 := hb1.trans (hb2.mono hb1.size)
  have hS := hide (hs1.below hb2)
  have hK := hide hs2
  obtain ⟨a2, c2, rfl⟩ : ∃ a c, s2 = Value.slice a n c := by obtain ⟨a, c, h⟩ := shape_len hs2; rw [unhide HKL] at h; exact ⟨_, _, h⟩
  clear hs1 hs2 hb1 hb2 hx1 x0 HPA HKA
  go_wp2_with fail
  go_loopg [9, 10] n (fun gn s9 s10 wr => ∃ (i : Nat) (o : ByteArray), Hid (gn = n - i) ∧ s9 = .string o ∧ s10 = .int .i64 i ∧ i ≤ n ∧ Hid (o = J.bytes (partsK (pret I f (dp + 1)) I dp false ks ps i)) ∧ Below w2.heap.size w2 wr)
  case atStart => exact ⟨0, _, rfl, rfl, rfl, by omega, rfl, Below.refl _ _⟩
  case round =>
    obtain ⟨i, ob, hg, rfl, rfl, hi, ho, hbel⟩ := hrel
    have hbd := (unhide HBD) i hi
    have hosz : ob.size ≤ 1200000 := by rw [ho.out, J.bytes_size]; exact hbd
    have BW : Below w.heap.size w wr := B2.trans (hbel.mono B2.size)
    have hx := HX.out wr BW
    by_cases hlt : i < n
    · have hltI : (i : Int) < (n : Int) := by omega
      have hS' := (unhide hS).below hbel
      have hK' := (unhide hK).below hbel
      obtain ⟨ss, hs1, hs2, hs3⟩ := hS'
      rw [unhide HSL] at hs1 hs2 hs3
      rcases ownsRow_form hs2 with ⟨h0, _⟩ | ⟨hp, g, c, hgv, hgc, hgb⟩
      · omega
      obtain ⟨rfl, rfl⟩ : a1 = some ⟨g, 0, none⟩ ∧ c1 = c := by injection hgv with e1 e2 e3; exact ⟨e1, e3⟩
      obtain ⟨k1, k2, k3⟩ := (unhide HSO) i hlt
      obtain ⟨hal, hdi⟩ := (unhide HSB) i hlt
      have f1 := hs2.cellAt i (by omega)
      have q1 := hs3 i hlt
      obtain ⟨b1, d1, e1, l1, o1⟩ := res_some q1 k1
      have g1 : ss[i]? = some (.slice (some ⟨b1, 0, none⟩) (ps.getD i []).length d1) := by
        rw [List.getElem?_eq_getElem (by omega)]
        rw [List.getD_eq_getElem?_getD, List.getElem?_eq_getElem (by omega)] at e1
        simpa using e1
      rw [g1] at f1
      have HC := hide (fun w' (hbb : Below wr.heap.size wr w') => (unhide IH) (ps.getD i []) b1 0 d1 (dp + 1) w' k1 k2 (o1.row.below hbb o1.lt) (Nat.lt_of_lt_of_le o1.lt hbb.size) l1 k3 hdi)
      have hes : (J.bytes (pret I f (dp + 1) (ps.getD i []))).size ≤ 1200000 := by rw [J.bytes_size]; exact hal
      have HLN := hide (unhide HL1)
      have hw1 := unhide HW1
      have hdc : ((dp + 1 : Nat) : Int) = (dp : Int) + 1 := by simp
      rw [hdc] at HC

      by_cases h0 : i = 0
      · have hnext : Hid (J.bytes (partsK (pret I f (dp + 1)) I dp false ks ps (i + 1)) = ob ++ J.bytes (lineL (I * (dp + 1))) ++ J.bytes (pret I f (dp + 1) (ps.getD i []))) := by
          show _ = _
          rw [ho.out, partsK, ahead, if_pos h0, if_neg (by decide)]
          simp only [J.bytes_append, List.append_assoc, List.nil_append, List.append_nil]

        have hz : ¬ (0 : Int) < (i : Int) := by omega
        clear hbd hal hs1 hs2 hs3 k1 k2 k3 e1 q1 g1 hp hgc hgb hgv l1 o1 h0
        generalize J.bytes (lineL (I * (dp + 1))) = LN at *
        generalize J.bytes (pret I f (dp + 1) (ps.getD i [])) = E at *
        generalize (ps.getD i []).length = pl at *
        have hb58 : J.bytes [58, 32] = { data := #[58, 32] } := rfl
        have hs2 : (ob ++ LN : ByteArray).size ≤ 1201700 := by rw [ByteArray.size_append]; omega

        go_wp2_with fail
        refine ((unhide HLN) _).mono ?_
        rintro e w4 ⟨rfl, hw4⟩
        have hw5 := hw4.symm
        clear hw4
        subst hw5

        go_wp2_with fail
        refine ((unhide HC) _ (Below.refl _ _)).mono ?_
        rintro e w6 ⟨rfl, hb6⟩
        have B6 : Below w2.heap.size w2 w6 := hbel.trans (hb6.mono hbel.size)
        clear hb6
        go_wp2_with fail
        go_roundg (n - (i + 1))
        case rel => exact ⟨i + 1, _, rfl, rfl, by go_num, by omega, by (show _ = _; rw [hnext.out]), B6⟩
        case measure => have := hg.out; omega
      · have hnext : Hid (J.bytes (partsK (pret I f (dp + 1)) I dp false ks ps (i + 1)) = ob ++ J.bytes [44] ++ J.bytes (lineL (I * (dp + 1))) ++ J.bytes (pret I f (dp + 1) (ps.getD i []))) := by
          show _ = _
          rw [ho.out, partsK, ahead, if_neg h0, if_neg (by decide)]
          simp only [J.bytes_append, List.append_assoc, List.nil_append, List.append_nil]

        have hz : (0 : Int) < (i : Int) := by omega
        clear hbd hal hs1 hs2 hs3 k1 k2 k3 e1 q1 g1 hp hgc hgb hgv l1 o1 h0
        generalize J.bytes (lineL (I * (dp + 1))) = LN at *
        generalize J.bytes (pret I f (dp + 1) (ps.getD i [])) = E at *
        generalize (ps.getD i []).length = pl at *
        have hb44 : J.bytes [44] = { data := #[44] } := rfl
        have hb58 : J.bytes [58, 32] = { data := #[58, 32] } := rfl
        rw [hb44] at hnext
        have hs2 : (ob ++ { data := #[44] } : ByteArray).size ≤ 1200001 := by rw [ByteArray.size_append]; show _ + 1 ≤ _; omega
        have hs3 : (ob ++ { data := #[44] } ++ LN : ByteArray).size ≤ 1201701 := by rw [ByteArray.size_append]; omega

        go_wp2_with fail
        refine ((unhide HLN) _).mono ?_
        rintro e w4 ⟨rfl, hw4⟩
        have hw5 := hw4.symm
        clear hw4
        subst hw5

        go_wp2_with fail
        refine ((unhide HC) _ (Below.refl _ _)).mono ?_
        rintro e w6 ⟨rfl, hb6⟩
        have B6 : Below w2.heap.size w2 w6 := hbel.trans (hb6.mono hbel.size)
        clear hb6
        go_wp2_with fail
        go_roundg (n - (i + 1))
        case rel => exact ⟨i + 1, _, rfl, rfl, by go_num, by omega, by (show _ = _; rw [hnext.out]), B6⟩
        case measure => have := hg.out; omega
    · have hge : ¬ (i : Int) < (n : Int) := by omega
      have hin : i = n := by omega
      have fin : Hid (({ data := #[91] } : ByteArray) ++ (ob ++ J.bytes (lineL (I * dp))) ++ { data := #[93] } = J.bytes FIN) := by
        show _ = _
        rw [unhide HPE, ho.out, hin, show ({ data := #[91] } : ByteArray) = J.bytes (opens false) from rfl, show ({ data := #[93] } : ByteArray) = J.bytes (shuts false) from rfl]
        simp only [J.bytes_append, List.append_assoc]
      have hw0 := unhide HW0
      have HL := hide (unhide HL0)
      clear hbd hin ho
      generalize J.bytes (lineL (I * dp)) = LN at *
      have hs2 : (ob ++ LN : ByteArray).size ≤ 1201700 := by rw [ByteArray.size_append]; omega
      have hs3 : (({ data := #[91] } : ByteArray) ++ (ob ++ LN)).size ≤ 1201701 := by rw [ByteArray.size_append]; show 1 + _ ≤ _; omega
      go_wp2_with fail
      refine ((unhide HL) _).mono ?_
      rintro e w4 ⟨rfl, hw4⟩
      have hw5 := hw4.symm
      clear hw4
      subst hw5
      go_wp2_with fail
      go_ret
      exact ⟨congrArg (fun x => Ending.returned (Value.string x)) fin.out, BW⟩

set_option maxRecDepth 100000 in
set_option maxHeartbeats 8000000 in
theorem pretty_obj (I : Nat) (hI : I ≤ 8) (f : Nat) (IH : Hid (PrettySays I f)) (A : List M.Cl) (b off cap dp : Nat) (w : World) (hA : M.valueFault A = 0) (hAf : A.length ≤ f + 1) (hr : Row w b off A) (hb : b < w.heap.size) (hcap : A.length ≤ cap) (hok : ∀ c ∈ A, c.ok) (hd : dp + A.length ≤ 201) (hk : (A.getD 0 M.zero).kind = 6) (hn0 : ¬ (A.getD 0 M.zero).n = 0) :
    Calls Tryd.prog 20 #[.slice (some ⟨b, off, none⟩) A.length cap, .int .i64 (I : Int), .int .i64 (dp : Int)] w fun e w' => e = .returned (.string (J.bytes (pret I (f + 1) dp A))) ∧ Below w.heap.size w w' := by
  have hl := (M.fault_zero hA).1
  have h200 := (M.fault_zero hA).2.1
  have hn200 := (M.places_in hA 0 (by omega)).2.2.2
  have HLF := hide (l15Leaf_any A b off cap w hr hl)
  rw [show ((A.getD 0 M.zero).n == 0) = false from beq_eq_false_iff_ne.2 hn0] at HLF
  have HPE := hide (pret_more I f dp hn0)
  rw [show decide ((A.getD 0 M.zero).kind = 6) = true by rw [hk]; rfl] at HPE
  obtain ⟨x0, -, -, -, -⟩ := hr 0 (by omega)
  simp only [Nat.zero_mul, Nat.add_zero] at x0
  rw [hk] at x0
  have hend0 : M.endOf A 0 = A.length := end_whole hA
  have hplen : (part A 0).length ≤ f + 1 := by have := part_len hA (show 0 < A.length by omega); omega
  have HPA := hide (fun w' (hbl : Below w.heap.size w w') => l1Parts_any A b off cap w' hA (hr.below hbl hb) (Nat.lt_of_lt_of_le hb hbl.size) hcap hok)
  have HKA := hide (fun w' (hbl : Below w.heap.size w w') => l1Keys_any A b off cap w' hA (hr.below hbl hb) (Nat.lt_of_lt_of_le hb hbl.size) hcap hok)
  have HSO := hide (fun i hi => sub_ok hA hok hAf i hi)
  have HSB := hide (fun i (hi : i < M.arity A 0) => (show (pret I f (dp + 1) ((subs A 0).getD i [])).length ≤ 1200000 ∧ dp + 1 + ((subs A 0).getD i []).length ≤ 201 from by
    have hin := (M.places_in hA 0 (by omega)).1 i hi
    simp only [Nat.zero_add] at hin
    have hlt : M.iter A i 1 < A.length := by omega
    have hg := end_gt hA hlt
    have hp := part_len hA hlt
    rw [J.subs_getD A 0 i hi, Nat.zero_add]
    exact ⟨pret_bd hI f hA hlt (by omega) (by omega), by omega⟩))
  have HKO := hide (fun i hi => key_ok hA i hi)
  have HBD := hide (fun i hi => parts_bd hI f hA (show 0 < A.length by omega) hplen (dp := dp) (by omega) true i hi)
  have HSL := hide (subs_length A 0)
  have HKL := hide (keysAt_length A 0)
  have hm1 := mul_bd hI (show dp + 1 ≤ 201 by omega)
  have hm0 := mul_bd hI (show dp ≤ 201 by omega)
  have hd' : dp ≤ 200 := by omega
  clear hA hAf hr hok hk hn0 hend0 hplen hd
  have HX : Hid (∀ w', Below w.heap.size w w' → w'.cell? ⟨b, off, none⟩ = some (.int .i64 6)) := fun w' hbl => (hbl.cell (p := ⟨b, off, none⟩) hb).trans x0
  generalize subs A 0 = ps at *
  generalize keysAt A 0 = ks at *
  generalize M.arity A 0 = n at *
  generalize pret I (f + 1) dp A = FIN at *
  generalize A.length = al at *
  have hj1 : (I : Int) * ((dp : Int) + 1) = ((I * (dp + 1) : Nat) : Int) := by simp
  have hj0 : (I : Int) * (dp : Int) = ((I * dp : Nat) : Int) := by simp
  have hw1 : IntKind.i64.wrap ((I : Int) * ((dp : Int) + 1)) = ((I * (dp + 1) : Nat) : Int) := by rw [hj1]; exact IntWalk.i64_in _ ⟨by omega, by omega⟩
  have hw0 : IntKind.i64.wrap ((I : Int) * (dp : Int)) = ((I * dp : Nat) : Int) := by rw [hj0]; exact IntWalk.i64_in _ ⟨by omega, by omega⟩
  have HL1 := hide (fun w' => l15Line_any (I * (dp + 1)) w' (by omega))
  have HL0 := hide (fun w' => l15Line_any (I * dp) w' (by omega))
  have hls : (J.bytes (lineL (I * (dp + 1)))).size ≤ 1700 := by rw [J.bytes_size, lineL_length]; omega
  have hls0 : (J.bytes (lineL (I * dp))).size ≤ 1700 := by rw [J.bytes_size, lineL_length]; omega
  have HW0 := hide hw0
  have HW1 := hide hw1
  clear hj1 hj0 hw1 hw0
  go_enter Tryd.func20, Tryd.ntmps20
  go_wp2_with fail
  refine (unhide HLF).mono ?_
  rintro e w0 ⟨rfl, hw0⟩
  subst w0
  clear HLF
  go_wp2_with fail
  refine ((unhide HPA) _ (Below.refl _ _)).mono ?_
  rintro e w1 ⟨s1, rfl, hs1, hb1⟩
  obtain ⟨a1, c1, rfl⟩ : ∃ a c, s1 = Value.slice a n c := by obtain ⟨_, _, h, _⟩ := hs1; obtain ⟨a, c, h⟩ := shape_len h; rw [unhide HSL] at h; exact ⟨_, _, h⟩
  have hx1 := HX.out w1 hb1
  go_wp2_with fail
  refine ((unhide HKA) _ hb1).mono ?_
  rintro e w2 ⟨s2, rfl, hs2, hb2⟩
  have B2 : Below w.heap.size w w2 := hb1.trans (hb2.mono hb1.size)
  have hS := hide (hs1.below hb2)
  have hK := hide hs2
  obtain ⟨a2, c2, rfl⟩ : ∃ a c, s2 = Value.slice a n c := by obtain ⟨a, c, h⟩ := shape_len hs2; rw [unhide HKL] at h; exact ⟨_, _, h⟩
  clear hs1 hs2 hb1 hb2 hx1 x0 HPA HKA
  go_wp2_with fail
  go_loopg [9, 10] n (fun gn s9 s10 wr => ∃ (i : Nat) (o : ByteArray), Hid (gn = n - i) ∧ s9 = .string o ∧ s10 = .int .i64 i ∧ i ≤ n ∧ Hid (o = J.bytes (partsK (pret I f (dp + 1)) I dp true ks ps i)) ∧ Below w2.heap.size w2 wr)
  case atStart => exact ⟨0, _, rfl, rfl, rfl, by omega, rfl, Below.refl _ _⟩
  case round =>
    obtain ⟨i, ob, hg, rfl, rfl, hi, ho, hbel⟩ := hrel
    have hbd := (unhide HBD) i hi
    have hosz : ob.size ≤ 1200000 := by rw [ho.out, J.bytes_size]; exact hbd
    have BW : Below w.heap.size w wr := B2.trans (hbel.mono B2.size)
    have hx := HX.out wr BW
    by_cases hlt : i < n
    · have hltI : (i : Int) < (n : Int) := by omega
      have hS' := (unhide hS).below hbel
      have hK' := (unhide hK).below hbel
      obtain ⟨ss, hs1, hs2, hs3⟩ := hS'
      rw [unhide HSL] at hs1 hs2 hs3
      rcases ownsRow_form hs2 with ⟨h0, _⟩ | ⟨hp, g, c, hgv, hgc, hgb⟩
      · omega
      obtain ⟨rfl, rfl⟩ : a1 = some ⟨g, 0, none⟩ ∧ c1 = c := by injection hgv with e1 e2 e3; exact ⟨e1, e3⟩
      obtain ⟨k1, k2, k3⟩ := (unhide HSO) i hlt
      obtain ⟨hal, hdi⟩ := (unhide HSB) i hlt
      have f1 := hs2.cellAt i (by omega)
      have q1 := hs3 i hlt
      obtain ⟨b1, d1, e1, l1, o1⟩ := res_some q1 k1
      have g1 : ss[i]? = some (.slice (some ⟨b1, 0, none⟩) (ps.getD i []).length d1) := by
        rw [List.getElem?_eq_getElem (by omega)]
        rw [List.getD_eq_getElem?_getD, List.getElem?_eq_getElem (by omega)] at e1
        simpa using e1
      rw [g1] at f1
      have HC := hide (fun w' (hbb : Below wr.heap.size wr w') => (unhide IH) (ps.getD i []) b1 0 d1 (dp + 1) w' k1 k2 (o1.row.below hbb o1.lt) (Nat.lt_of_lt_of_le o1.lt hbb.size) l1 k3 hdi)
      have hes : (J.bytes (pret I f (dp + 1) (ps.getD i []))).size ≤ 1200000 := by rw [J.bytes_size]; exact hal
      have HLN := hide (unhide HL1)
      have hw1 := unhide HW1
      have hdc : ((dp + 1 : Nat) : Int) = (dp : Int) + 1 := by simp
      rw [hdc] at HC

      have hkey := (unhide HKO) i hlt
      rcases ownsRow_form hK' with ⟨h0, _⟩ | ⟨hp', g', c', hgv', hgc', hgb'⟩
      · rw [unhide HKL] at h0; omega
      rw [unhide HKL] at hgv'
      obtain ⟨rfl, rfl⟩ : a2 = some ⟨g', 0, none⟩ ∧ c2 = c' := by injection hgv' with e1 e2 e3; exact ⟨e1, e3⟩
      have hK2 : wr.ownsRow w1.heap.size 9 1 (.slice (some ⟨g', 0, none⟩) n c2) n (ks.map Value.string) := by have h := hK'; unfold KS at h; rw [unhide HKL] at h; exact h
      have f2 := hK2.cellAt i (by omega)
      have g2 : (ks.map Value.string)[i]? = some (.string (ks.getD i ByteArray.empty)) := by
        have : i < ks.length := by rw [unhide HKL]; exact hlt
        rw [List.getElem?_map, List.getElem?_eq_getElem this, List.getD_eq_getElem?_getD, List.getElem?_eq_getElem this]; rfl
      rw [g2] at f2
      have hql := J.quote_length (ks.getD i ByteArray.empty)
      have hqs : (J.bytes (J.quote (ks.getD i ByteArray.empty))).size ≤ 122 := by rw [J.bytes_size]; omega
      have HQ := hide (fun w' => l2Quote_any (ks.getD i ByteArray.empty) w' hkey)

      by_cases h0 : i = 0
      · have hnext : Hid (J.bytes (partsK (pret I f (dp + 1)) I dp true ks ps (i + 1)) = ob ++ J.bytes (lineL (I * (dp + 1))) ++ J.bytes (J.quote (ks.getD i ByteArray.empty)) ++ J.bytes [58, 32] ++ J.bytes (pret I f (dp + 1) (ps.getD i []))) := by
          show _ = _
          rw [ho.out, partsK, ahead, if_pos h0, if_pos rfl]
          simp only [J.bytes_append, List.append_assoc, List.nil_append, List.append_nil]

        have hz : ¬ (0 : Int) < (i : Int) := by omega
        clear hbd hal hs1 hs2 hs3 k1 k2 k3 e1 q1 g1 hp hgc hgb hgv l1 o1 h0 hK' hK2 hgv' hgc' hgb' hp' g2 hql hkey
        generalize J.bytes (lineL (I * (dp + 1))) = LN at *
        generalize J.bytes (J.quote (ks.getD i ByteArray.empty)) = Q at *
        generalize ks.getD i ByteArray.empty = KY at *
        generalize J.bytes (pret I f (dp + 1) (ps.getD i [])) = E at *
        generalize (ps.getD i []).length = pl at *
        have hb58 : J.bytes [58, 32] = { data := #[58, 32] } := rfl
        rw [hb58] at hnext
        have hs2 : (ob ++ LN : ByteArray).size ≤ 1201700 := by rw [ByteArray.size_append]; omega
        have hs3 : (ob ++ LN ++ Q : ByteArray).size ≤ 1201822 := by rw [ByteArray.size_append]; omega
        have hs4 : (ob ++ LN ++ Q ++ { data := #[58, 32] } : ByteArray).size ≤ 1201824 := by rw [ByteArray.size_append]; show _ + 2 ≤ _; omega

        go_wp2_with fail
        refine ((unhide HLN) _).mono ?_
        rintro e w4 ⟨rfl, hw4⟩
        have hw5 := hw4.symm
        clear hw4
        subst hw5

        go_wp2_with fail
        refine ((unhide HQ) _).mono ?_
        rintro e w5 ⟨rfl, hw5⟩
        have hw6 := hw5.symm
        clear hw5
        subst hw6

        go_wp2_with fail
        refine ((unhide HC) _ (Below.refl _ _)).mono ?_
        rintro e w6 ⟨rfl, hb6⟩
        have B6 : Below w2.heap.size w2 w6 := hbel.trans (hb6.mono hbel.size)
        clear hb6
        go_wp2_with fail
        go_roundg (n - (i + 1))
        case rel => exact ⟨i + 1, _, rfl, rfl, by go_num, by omega, by (show _ = _; rw [hnext.out]), B6⟩
        case measure => have := hg.out; omega
      · have hnext : Hid (J.bytes (partsK (pret I f (dp + 1)) I dp true ks ps (i + 1)) = ob ++ J.bytes [44] ++ J.bytes (lineL (I * (dp + 1))) ++ J.bytes (J.quote (ks.getD i ByteArray.empty)) ++ J.bytes [58, 32] ++ J.bytes (pret I f (dp + 1) (ps.getD i []))) := by
          show _ = _
          rw [ho.out, partsK, ahead, if_neg h0, if_pos rfl]
          simp only [J.bytes_append, List.append_assoc, List.nil_append, List.append_nil]

        have hz : (0 : Int) < (i : Int) := by omega
        clear hbd hal hs1 hs2 hs3 k1 k2 k3 e1 q1 g1 hp hgc hgb hgv l1 o1 h0 hK' hK2 hgv' hgc' hgb' hp' g2 hql hkey
        generalize J.bytes (lineL (I * (dp + 1))) = LN at *
        generalize J.bytes (J.quote (ks.getD i ByteArray.empty)) = Q at *
        generalize ks.getD i ByteArray.empty = KY at *
        generalize J.bytes (pret I f (dp + 1) (ps.getD i [])) = E at *
        generalize (ps.getD i []).length = pl at *
        have hb44 : J.bytes [44] = { data := #[44] } := rfl
        have hb58 : J.bytes [58, 32] = { data := #[58, 32] } := rfl
        rw [hb44] at hnext
        rw [hb58] at hnext
        have hs2 : (ob ++ { data := #[44] } : ByteArray).size ≤ 1200001 := by rw [ByteArray.size_append]; show _ + 1 ≤ _; omega
        have hs3 : (ob ++ { data := #[44] } ++ LN : ByteArray).size ≤ 1201701 := by rw [ByteArray.size_append]; omega
        have hs4 : (ob ++ { data := #[44] } ++ LN ++ Q : ByteArray).size ≤ 1201823 := by rw [ByteArray.size_append]; omega
        have hs5 : (ob ++ { data := #[44] } ++ LN ++ Q ++ { data := #[58, 32] } : ByteArray).size ≤ 1201825 := by rw [ByteArray.size_append]; show _ + 2 ≤ _; omega

        go_wp2_with fail
        refine ((unhide HLN) _).mono ?_
        rintro e w4 ⟨rfl, hw4⟩
        have hw5 := hw4.symm
        clear hw4
        subst hw5

        go_wp2_with fail
        refine ((unhide HQ) _).mono ?_
        rintro e w5 ⟨rfl, hw5⟩
        have hw6 := hw5.symm
        clear hw5
        subst hw6

        go_wp2_with fail
        refine ((unhide HC) _ (Below.refl _ _)).mono ?_
        rintro e w6 ⟨rfl, hb6⟩
        have B6 : Below w2.heap.size w2 w6 := hbel.trans (hb6.mono hbel.size)
        clear hb6
        go_wp2_with fail
        go_roundg (n - (i + 1))
        case rel => exact ⟨i + 1, _, rfl, rfl, by go_num, by omega, by (show _ = _; rw [hnext.out]), B6⟩
        case measure => have := hg.out; omega
    · have hge : ¬ (i : Int) < (n : Int) := by omega
      have hin : i = n := by omega
      have fin : Hid (({ data := #[123] } : ByteArray) ++ (ob ++ J.bytes (lineL (I * dp))) ++ { data := #[125] } = J.bytes FIN) := by
        show _ = _
        rw [unhide HPE, ho.out, hin, show ({ data := #[123] } : ByteArray) = J.bytes (opens true) from rfl, show ({ data := #[125] } : ByteArray) = J.bytes (shuts true) from rfl]
        simp only [J.bytes_append, List.append_assoc]
      have hw0 := unhide HW0
      have HL := hide (unhide HL0)
      clear hbd hin ho
      generalize J.bytes (lineL (I * dp)) = LN at *
      have hs2 : (ob ++ LN : ByteArray).size ≤ 1201700 := by rw [ByteArray.size_append]; omega
      have hs3 : (({ data := #[123] } : ByteArray) ++ (ob ++ LN)).size ≤ 1201701 := by rw [ByteArray.size_append]; show 1 + _ ≤ _; omega
      go_wp2_with fail
      refine ((unhide HL) _).mono ?_
      rintro e w4 ⟨rfl, hw4⟩
      have hw5 := hw4.symm
      clear hw4
      subst hw5
      go_wp2_with fail
      go_ret
      exact ⟨congrArg (fun x => Ending.returned (Value.string x)) fin.out, BW⟩

theorem pretty_says (I : Nat) (hI : I ≤ 8) : ∀ f, PrettySays I f := by
  intro f
  induction f with
  | zero => intro A b off cap dp w hA hf; have := (M.fault_zero hA).1; omega
  | succ f ih =>
    intro A b off cap dp w hA hf hr hb hcap hok hd
    by_cases h0 : (A.getD 0 M.zero).n = 0
    · exact pretty_leaf I f A b off cap dp w hA hr hb hcap hok h0
    by_cases h5 : (A.getD 0 M.zero).kind = 5
    · exact pretty_arr I hI f (hide ih) A b off cap dp w hA hf hr hb hcap hok hd h5 h0
    by_cases h6 : (A.getD 0 M.zero).kind = 6
    · exact pretty_obj I hI f (hide ih) A b off cap dp w hA hf hr hb hcap hok hd h6 h0
    · have h1 := arity_null hA h5 h6
      have h2 := n_ge hA (show 0 < A.length by have := (M.fault_zero hA).1; omega)
      unfold M.arity at h1
      omega
end Pr
end Go.Proofs.YtlbmpldknfcfhaaDoor
