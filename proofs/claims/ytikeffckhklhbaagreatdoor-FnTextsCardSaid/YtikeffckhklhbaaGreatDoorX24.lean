/-
  The text of a value is read as the value. No word of the program is used here.
-/
import Derived.Test.YtikeffckhklhbaaGreatDoorX20
import Derived.Test.YtikeffckhklhbaaGreatDoorX21
import Derived.Test.YtikeffckhklhbaaGreatDoorX22
import Derived.Test.YtikeffckhklhbaaGreatDoorX23
import Derived.Lib.ItoaNum
namespace Go.Proofs.YtikeffckhklhbaaGreatDoor
open Go.RowKit
set_option linter.unusedVariables false
set_option linter.unusedSimpArgs false
namespace J
/-- The bytes l lie in the text from k on. -/
def Here (s : ByteArray) (k : Nat) (l : List UInt8) : Prop := ∃ r, s.data.toList.drop k = l ++ r
theorem take_all {p : UInt8 → Bool} : ∀ l : List UInt8, (∀ x ∈ l, p x = true) → l.takeWhile p = l
  | [], _ => rfl
  | c :: l, h => by rw [List.takeWhile_cons, h c (by simp), take_all l (fun x hx => h x (by simp [hx]))]; rfl
theorem Here.app {s : ByteArray} {k : Nat} {a b : List UInt8} (h : Here s k (a ++ b)) : Here s k a ∧ Here s (k + a.length) b := by
  obtain ⟨r, e⟩ := h
  refine ⟨⟨b ++ r, by rw [e, List.append_assoc]⟩, ⟨r, ?_⟩⟩
  rw [← List.drop_drop, e, List.append_assoc, List.drop_left]
theorem Here.le {s : ByteArray} {k : Nat} {l : List UInt8} (h : Here s k l) (hl : 0 < l.length) : k + l.length ≤ s.size := by
  obtain ⟨r, e⟩ := h
  have h1 := congrArg List.length e
  rw [List.length_drop, List.length_append] at h1
  have : s.data.toList.length = s.size := by simp
  omega
theorem Here.cons {s : ByteArray} {k : Nat} {c : UInt8} {l : List UInt8} (h : Here s k (c :: l)) : k < s.size ∧ peek s k = (c.toNat : Int) ∧ Here s (k + 1) l := by
  have hk : k < s.size := by have := h.le (by simp); simp at this; omega
  obtain ⟨r, e⟩ := h
  rw [run_cons s k hk, List.cons_append, List.cons.injEq] at e
  exact ⟨hk, by rw [peek_in s k hk, e.1], ⟨r, e.2⟩⟩
theorem wordR_here {s : ByteArray} : ∀ (ws : List UInt8) (k : Nat), Here s k ws → wordR s k ws = .inr (k + ws.length)
  | [], k, _ => rfl
  | c :: r, k, h => by
    obtain ⟨_, h2, h3⟩ := h.cons
    rw [wordR_yes h2, wordR_here r (k + 1) h3, List.length_cons]
    exact congrArg _ (by omega)
theorem wordV_here {s : ByteArray} {k : Nat} {ws : List UInt8} {kind : Int} (h : Here s k ws) : wordV s k ws kind = .inr ([kindCl kind], k + ws.length) := by unfold wordV; rw [wordR_here ws k h]
theorem skip_not {s : ByteArray} {k : Nat} (h : 32 < peek s k ∨ s.size ≤ k) : skip s k = k := by
  rcases h with h | h
  · have hk := peek_lt s k (peek s k) (by omega) rfl
    refine skip_stop s k hk ?_
    rw [blank_iff s k hk]
    simp only [Bool.or_eq_false_iff, beq_eq_false_iff_ne]
    omega
  · exact skip_end s k h
theorem run_here {p : UInt8 → Bool} {s : ByteArray} : ∀ (D : List UInt8) (k : Nat), Here s k D → (∀ b ∈ D, p b = true) → (∀ h : k + D.length < s.size, p s[k + D.length] = false) → run p s k = k + D.length
  | [], k, _, _, hn => by
    by_cases hk : k < s.size
    · exact run_stop p s k hk (hn hk)
    · exact run_end p s k (by omega)
  | c :: r, k, h, hp, hn => by
    obtain ⟨h1, h2, h3⟩ := h.cons
    have hc : s[k] = c := by
      rw [peek_in s k h1] at h2
      exact UInt8.toNat_inj.1 (by omega)
    rw [run_go p s k h1 (by rw [hc]; exact hp c (by simp)), run_here r (k + 1) h3 (fun b hb => hp b (by simp [hb])) (fun h => ?_), List.length_cons]
    · omega
    · have e : k + 1 + r.length = k + (c :: r).length := by rw [List.length_cons]; omega
      have h' : k + (c :: r).length < s.size := by rw [← e]; exact h
      have := hn h'
      simp only [e]
      exact this
/-- Digits. -/
def val (l : List UInt8) : Int := l.foldl (fun n b => n * 10 + ((b.toNat : Int) - 48)) 0
theorem ofNat_dig {u : Nat} (h : u < 10) : (UInt8.ofNat (48 + u)).toNat = 48 + u := by
  rw [UInt8.toNat_ofNat']; omega
theorem dec_facts : ∀ (n u : Nat), u ≤ n → val (Lib.decDigits u) = (u : Int) ∧ (∀ b ∈ Lib.decDigits u, dig b = true) ∧ (∃ c r, Lib.decDigits u = c :: r ∧ (c.toNat = 48 → r = [])) := by
  intro n
  induction n with
  | zero =>
    intro u hu
    have : u = 0 := by omega
    subst this
    rw [Lib.decDigits_one (by omega)]
    exact ⟨rfl, fun b hb => by rw [List.mem_singleton.1 hb]; rfl, ⟨_, _, rfl, fun _ => rfl⟩⟩
  | succ n ih =>
    intro u hu
    by_cases h : u < 10
    · rw [Lib.decDigits_one h]
      refine ⟨?_, fun b hb => ?_, ⟨_, _, rfl, fun _ => rfl⟩⟩
      · show (0 : Int) * 10 + (((UInt8.ofNat (48 + u)).toNat : Int) - 48) = u
        rw [ofNat_dig h]; omega
      · rw [List.mem_singleton.1 hb]
        unfold dig
        rw [ofNat_dig h]
        simp; omega
    · obtain ⟨i1, i2, c, r, i3, i4⟩ := ih (u / 10) (by omega)
      rw [Lib.decDigits, dif_neg h]
      refine ⟨?_, fun b hb => ?_, ⟨c, r ++ [UInt8.ofNat (48 + u % 10)], by rw [i3]; rfl, fun hc => ?_⟩⟩
      · unfold val at i1 ⊢
        rw [List.foldl_append, i1]
        show ((u / 10 : Nat) : Int) * 10 + (((UInt8.ofNat (48 + u % 10)).toNat : Int) - 48) = u
        rw [ofNat_dig (by omega)]; omega
      · rcases List.mem_append.1 hb with hb | hb
        · exact i2 b hb
        · rw [List.mem_singleton.1 hb]
          unfold dig
          rw [ofNat_dig (by omega)]
          simp; omega
      · have hr := i4 hc
        rw [i3, hr] at i1
        unfold val at i1
        simp only [List.foldl_cons, List.foldl_nil] at i1
        rw [hc] at i1
        omega
theorem dec_len : ∀ (k u : Nat), u < 10 ^ (k + 1) → (Lib.decDigits u).length ≤ k + 1
  | 0, u, h => by rw [Lib.decDigits_one (by simpa using h)]; simp
  | k + 1, u, h => by
    by_cases h1 : u < 10
    · rw [Lib.decDigits_one h1]; simp
    · rw [Lib.decDigits, dif_neg h1, List.length_append]
      have := dec_len k (u / 10) (by rw [Nat.pow_succ] at h; omega)
      simp; omega
theorem extract_here {s : ByteArray} {k : Nat} {l : List UInt8} (h : Here s k l) : s.extract k (k + l.length) = bytes l := by
  obtain ⟨r, e⟩ := h
  apply ba_eq
  apply Array.ext'
  rw [ByteArray.data_extract, Array.toList_extract]
  show List.extract s.data.toList k (k + l.length) = l
  unfold List.extract
  rw [e, Nat.add_sub_cancel_left, List.take_left]
theorem dec_stop {b : UInt8} (h : ¬ (48 ≤ (b.toNat : Int) ∧ (b.toNat : Int) ≤ 57)) : dig b = false := by
  unfold dig
  rw [Bool.and_eq_false_iff, decide_eq_false_iff_not, decide_eq_false_iff_not]
  omega
/-- Behind a number. -/
def Stop (s : ByteArray) (e : Nat) : Prop := ¬ (48 ≤ peek s e ∧ peek s e ≤ 57) ∧ peek s e ≠ 46 ∧ peek s e ≠ 101 ∧ peek s e ≠ 69
theorem num_plain {s : ByteArray} {p : Nat} {u : Nat} (hs : sign s p = p) (h : Here s p (Lib.decDigits u)) (hn : Stop s (p + (Lib.decDigits u).length)) : num s p = (((p + (Lib.decDigits u).length : Nat) : Int), 0) := by
  obtain ⟨_, hd, c, r, hc, h48⟩ := dec_facts u u (Nat.le_refl _)
  have hr : run dig s p = p + (Lib.decDigits u).length := run_here _ p h hd (fun hlt => by have := hn.1; rw [peek_in _ _ hlt] at this; exact dec_stop this)
  have hcd : dig c = true := hd c (by rw [hc]; simp)
  rw [hc] at h hr ⊢
  obtain ⟨h1, h2, h3⟩ := h.cons
  have he : s[p] = c := by
    rw [peek_in s p h1] at h2
    exact UInt8.toNat_inj.1 (by omega)
  unfold num
  simp only [hs]
  rw [dif_pos h1, if_neg (by rw [he, hcd]; simp)]
  by_cases h0 : s[p].toNat = 48
  · rw [if_pos h0, h48 (by rw [← he]; exact h0)]
    rfl
  · rw [if_neg h0, hr]
theorem num_signed {s : ByteArray} {k : Nat} {u : Nat} (h : Here s k (45 :: Lib.decDigits u)) (hn : Stop s (k + (45 :: Lib.decDigits u).length)) : num s k = (((k + (45 :: Lib.decDigits u).length : Nat) : Int), 0) := by
  obtain ⟨h1, h2, h3⟩ := h.cons
  have hs : sign s k = k + 1 := by unfold sign; rw [if_pos (by rw [h2]; rfl)]
  have e : k + (45 :: Lib.decDigits u).length = k + 1 + (Lib.decDigits u).length := by rw [List.length_cons]; omega
  rw [e] at hn ⊢
  obtain ⟨_, hd, c, r, hc, h48⟩ := dec_facts u u (Nat.le_refl _)
  have hs2 : sign s (k + 1) = k + 1 := by
    unfold sign
    rw [if_neg]
    have h4 := h3
    rw [hc] at h4
    obtain ⟨_, h5, _⟩ := h4.cons
    have := dig_yes (hd c (by rw [hc]; simp))
    omega
  have := num_plain hs2 h3 hn
  unfold num at this ⊢
  simp only [hs, hs2] at this ⊢
  exact this
/-- A numeral's number. -/
theorem numOut_itoa {n : Int} (h1 : -1000000000000000 ≤ n) (h2 : n ≤ 1000000000000000) : numOut (bytes (Lib.itoa n)) = (0, n) := by
  have hlist : ∀ l : List UInt8, (bytes l).data.toList = l := fun l => by simp [bytes]
  have hH : Here (bytes (Lib.itoa n)) 0 (Lib.itoa n) := ⟨[], by rw [hlist]; simp⟩
  have hst : Stop (bytes (Lib.itoa n)) (0 + (Lib.itoa n).length) := by
    have : peek (bytes (Lib.itoa n)) (0 + (Lib.itoa n).length) = 0 := peek_out _ _ (by rw [bytes_size]; omega)
    unfold Stop
    rw [this]
    decide
  have hval : ∀ u, valK (bytes (Lib.decDigits u)) (bytes (Lib.decDigits u)).size = (u : Int) := fun u => by
    have := (dec_facts u u (Nat.le_refl _)).1
    unfold val at this
    unfold valK
    rw [hlist, bytes_size, List.take_length]
    exact this
  have hsz : ∀ u, u ≤ 1000000000000000 → (bytes (Lib.decDigits u)).size ≤ 16 := fun u hu => by rw [bytes_size]; exact dec_len 15 u (by omega)
  by_cases hneg : n < 0
  · have e : Lib.itoa n = 45 :: Lib.decDigits n.natAbs := by unfold Lib.itoa; rw [if_pos hneg]
    rw [e] at hH hst ⊢
    have hnum := num_signed hH hst
    obtain ⟨_, hp, hH2⟩ := hH.cons
    have hp : peek (bytes (45 :: Lib.decDigits n.natAbs)) 0 = 45 := by rw [hp]; rfl
    have hi : isNum (bytes (45 :: Lib.decDigits n.natAbs)) := ⟨by rw [hnum, bytes_size, Nat.zero_add], by rw [bytes_size]; simp⟩
    have hd : digitsOf (bytes (45 :: Lib.decDigits n.natAbs)) = bytes (Lib.decDigits n.natAbs) := by
      unfold digitsOf
      rw [if_pos hp, bytes_size, List.length_cons, Nat.add_comm, extract_here hH2]
    have hv : numVal (negOf (bytes (45 :: Lib.decDigits n.natAbs))) (digitsOf (bytes (45 :: Lib.decDigits n.natAbs))) = (n, true) := by
      have hn : negOf (bytes (45 :: Lib.decDigits n.natAbs)) = true := by unfold negOf; rw [hp]; rfl
      rw [hd, hn]
      unfold numVal
      have := hsz n.natAbs (by omega)
      rw [hval, if_neg (by omega), if_pos rfl]
      rw [show -(n.natAbs : Int) = n by omega]
    rw [numOut_ok hi (by rw [hv]), hv]
  · have e : Lib.itoa n = Lib.decDigits n.toNat := by unfold Lib.itoa; rw [if_neg hneg]
    rw [e] at hH hst ⊢
    obtain ⟨_, hdd, c, r, hc, _⟩ := dec_facts n.toNat n.toNat (Nat.le_refl _)
    have hp : peek (bytes (Lib.decDigits n.toNat)) 0 ≠ 45 := by
      have h4 := hH
      rw [hc] at h4
      obtain ⟨_, h5, _⟩ := h4.cons
      rw [← hc] at h5
      have := dig_yes (hdd c (by rw [hc]; simp))
      omega
    have hs : sign (bytes (Lib.decDigits n.toNat)) 0 = 0 := by unfold sign; rw [if_neg hp]
    have hnum := num_plain hs hH hst
    have hi : isNum (bytes (Lib.decDigits n.toNat)) := ⟨by rw [hnum, bytes_size, Nat.zero_add], by rw [bytes_size, hc]; simp⟩
    have hd : digitsOf (bytes (Lib.decDigits n.toNat)) = bytes (Lib.decDigits n.toNat) := by unfold digitsOf; rw [if_neg hp]
    have hv : numVal (negOf (bytes (Lib.decDigits n.toNat))) (digitsOf (bytes (Lib.decDigits n.toNat))) = (n, true) := by
      have hn : negOf (bytes (Lib.decDigits n.toNat)) = false := by unfold negOf; exact decide_eq_false hp
      rw [hd, hn]
      unfold numVal
      have := hsz n.toNat (by omega)
      rw [hval, if_neg (by omega), if_neg (by simp)]
      rw [show (n.toNat : Int) = n by omega]
    rw [numOut_ok hi (by rw [hv]), hv]
theorem numV_here {s : ByteArray} {k : Nat} {n : Int} (h1 : -1000000000000000 ≤ n) (h2 : n ≤ 1000000000000000) (h : Here s k (Lib.itoa n)) (hn : Stop s (k + (Lib.itoa n).length)) : numV s k = .inr ([⟨3, n, ByteArray.empty, ByteArray.empty, 0⟩], k + (Lib.itoa n).length) := by
  have hnum : num s k = (((k + (Lib.itoa n).length : Nat) : Int), 0) := by
    by_cases hneg : n < 0
    · have e : Lib.itoa n = 45 :: Lib.decDigits n.natAbs := by unfold Lib.itoa; rw [if_pos hneg]
      rw [e] at h hn ⊢
      exact num_signed h hn
    · have e : Lib.itoa n = Lib.decDigits n.toNat := by unfold Lib.itoa; rw [if_neg hneg]
      rw [e] at h hn ⊢
      refine num_plain ?_ h hn
      obtain ⟨_, hdd, c, r, hc, _⟩ := dec_facts n.toNat n.toNat (Nat.le_refl _)
      unfold sign
      rw [if_neg]
      rw [hc] at h
      obtain ⟨_, h5, _⟩ := h.cons
      have := dig_yes (hdd c (by rw [hc]; simp))
      omega
  have hw : wholeR s k = .inr (n, k + (Lib.itoa n).length) := by
    rw [wholeR_yes hnum, extract_here h, numOut_itoa h1 h2, if_neg (by simp)]
  unfold numV numR
  rw [hw]
  simp only
  rw [if_neg (by have := hn.2; omega)]
/-- Strings. -/
theorem qF_here {s : ByteArray} : ∀ (l : List UInt8) (acc : List UInt8) (i F : Nat), (∀ b ∈ l, 32 ≤ b.toNat ∧ b.toNat ≤ 126) → Here s i (l.flatMap esc ++ [34]) → l.length < F → qF s F i acc = .inr (acc ++ l, i + (l.flatMap esc).length + 1)
  | [], acc, i, F, _, h, hF => by
    obtain ⟨F', rfl⟩ : ∃ F', F = F' + 1 := ⟨F - 1, by simp at hF; omega⟩
    obtain ⟨_, h2, _⟩ := (show Here s i (34 :: []) from h).cons
    rw [qF, if_pos (by rw [h2]; rfl)]
    simp
  | b :: l, acc, i, F, hb, h, hF => by
    obtain ⟨F', rfl⟩ : ∃ F', F = F' + 1 := ⟨F - 1, by simp at hF; omega⟩
    have hb0 := hb b (by simp)
    have ih := fun j => qF_here (s := s) l (acc ++ [b]) j F' (fun x hx => hb x (by simp [hx])) 
    have hFl : l.length < F' := by simp at hF; omega
    have hba : UInt8.ofNat ((b.toNat : Int)).toNat = b := by rw [Int.toNat_natCast]; exact UInt8.ofNat_toNat
    rw [List.flatMap_cons, List.append_assoc] at h
    rw [List.flatMap_cons, List.length_append]
    by_cases he : b.toNat = 34 ∨ b.toNat = 92
    · have heb : esc b = [92, b] := by unfold esc; rw [if_pos he]
      rw [heb] at h ⊢
      obtain ⟨_, h2, h3⟩ := (show Here s i (92 :: b :: (l.flatMap esc ++ [34])) from h).cons
      obtain ⟨_, h5, h6⟩ := h3.cons
      have h2' : peek s i = 92 := by rw [h2]; rfl
      rw [qF, if_neg (by rw [h2']; decide)]
      have hs : sbR s i = .inr (peek s (i + 1), i + 1 + 1) := by unfold sbR; rw [if_pos h2', escR_plain (by omega)]
      rw [hs]
      simp only
      rw [h5, hba, ih (i + 1 + 1) h6 hFl]
      simp; omega
    · have heb : esc b = [b] := by unfold esc; rw [if_neg he]
      rw [heb] at h ⊢
      obtain ⟨_, h2, h3⟩ := (show Here s i (b :: (l.flatMap esc ++ [34])) from h).cons
      rw [qF, if_neg (by omega)]
      have hs : sbR s i = .inr (peek s i, i + 1) := by unfold sbR; rw [if_neg (by omega), if_neg (by omega)]
      rw [hs]
      simp only
      rw [h2, hba, ih (i + 1) h3 hFl]
      simp; omega
theorem esc_len : ∀ l : List UInt8, l.length ≤ (l.flatMap esc).length
  | [] => by simp
  | b :: l => by
    have := esc_len l
    have h1 : 1 ≤ (esc b).length := by unfold esc; split <;> simp
    rw [List.flatMap_cons, List.length_append, List.length_cons]
    omega
theorem quote_eq (t : ByteArray) : quote t = 34 :: (t.data.toList.flatMap esc ++ [34]) := by
  unfold quote quoteK
  rw [show t.data.toList.take t.size = t.data.toList from List.take_of_length_le (by simp)]
  rfl
theorem quotR_here {s t : ByteArray} {k : Nat} (ht : M.textOk t = true) (h : Here s k (quote t)) : quotR s k = .inr (t.data.toList, k + (quote t).length) := by
  unfold M.textOk at ht
  rw [Bool.and_eq_true, decide_eq_true_eq, List.all_eq_true] at ht
  have hb : ∀ b ∈ t.data.toList, 32 ≤ b.toNat ∧ b.toNat ≤ 126 := fun b hb => by
    have := ht.2 b hb
    unfold M.byteOk at this
    simp only [Bool.and_eq_true, decide_eq_true_eq] at this
    omega
  rw [quote_eq] at h ⊢
  obtain ⟨h1, h2, h3⟩ := h.cons
  have hl := h3.le (by simp)
  have he := esc_len t.data.toList
  rw [List.length_append] at hl
  have hq := qF_here t.data.toList [] (k + 1) (s.size + 1) hb h3 (by omega)
  rw [quotR_ok (by rw [h2]; rfl) hq (by have : t.data.toList.length = t.size := by simp
                                        simp; omega)]
  simp; omega
theorem strV_here {s t : ByteArray} {k : Nat} (ht : M.textOk t = true) (h : Here s k (quote t)) : strV s k = .inr ([⟨4, 0, t, ByteArray.empty, 0⟩], k + (quote t).length) := by
  unfold strV
  rw [quotR_here ht h]
theorem keyR_here {s t : ByteArray} {k : Nat} (ht : M.textOk t = true) (h : Here s k (quote t ++ [58])) : keyR s k = .inr (t, k + (quote t ++ [58]).length) := by
  obtain ⟨h1, h2⟩ := h.app
  obtain ⟨h3, h4, _⟩ := h2.cons
  have h4 : peek s (k + (quote t).length) = 58 := by rw [h4]; rfl
  unfold keyR
  rw [quotR_here ht h1]
  simp only
  rw [skip_not (.inl (by rw [h4]; decide)), if_pos h4, List.length_append]
  rfl
/-- Cells. -/
theorem leaf_cell {v : List M.Cl} (hv : M.valueFault v = 0) (h5 : (v.getD 0 M.zero).kind ≠ 5) (h6 : (v.getD 0 M.zero).kind ≠ 6) : v = [⟨(v.getD 0 M.zero).kind, (v.getD 0 M.zero).num, (v.getD 0 M.zero).text, ByteArray.empty, 0⟩] ∧ M.cellCode (v.getD 0 M.zero) = 0 := by
  have hl := (M.fault_zero hv).1
  have hcc := M.first_zero (M.fault_zero hv).2.2.1 _ (getD_mem v 0 (by omega))
  have hn := (code_fields' hcc).2.2 h5 h6
  obtain ⟨d, hw, _⟩ := (M.fault_zero hv).2.2.2.2
  have h1 := (Dq.leaf_one hv hw hn).1
  have hk := fault_key hv
  refine ⟨?_, hcc⟩
  cases v with
  | nil => simp at hl
  | cons c r =>
    have hr : r = [] := List.length_eq_zero_iff.1 (by simp at h1; simpa using h1)
    subst hr
    simp only [List.getD_cons_zero] at hn hk ⊢
    obtain ⟨a, b, t, y, n⟩ := c
    simp only at hn hk
    subst hn; subst hk
    rfl
theorem textOk_of {c : M.Cl} (h : M.cellCode c = 0) : M.textOk c.text = true ∧ M.textOk c.key = true := by
  unfold M.cellCode at h
  split at h
  · cases h
  split at h
  · cases h
  split at h
  · cases h
  split at h
  · assumption
  · cases h
theorem parts_pre (g : List M.Cl → List UInt8) (obj : Bool) (ks : List ByteArray) (ps : List (List M.Cl)) (j : Nat) : ∀ n, j ≤ n → ∃ r, partsK g obj ks ps n = partsK g obj ks ps j ++ r
  | 0, h => by
    have : j = 0 := by omega
    subst this; exact ⟨[], by simp⟩
  | n + 1, h => by
    by_cases e : j = n + 1
    · subst e; exact ⟨[], by simp⟩
    · obtain ⟨r, hr⟩ := parts_pre g obj ks ps j n (by omega)
      exact ⟨r ++ (ahead obj ks n ++ g (ps.getD n [])), by rw [partsK, hr, List.append_assoc]⟩
/-- A value's text begins with a byte that is no blank and no last bracket. -/
theorem enc_head {f : Nat} {v : List M.Cl} (hv : M.valueFault v = 0) (hf : v.length ≤ f) : ∃ c r, encL f v = c :: r ∧ 32 < (c.toNat : Int) ∧ (c.toNat : Int) ≠ 93 ∧ (c.toNat : Int) ≠ 125 ∧ (c.toNat : Int) ≠ 44 := by
  have hl := (M.fault_zero hv).1
  obtain ⟨f, rfl⟩ : ∃ g, f = g + 1 := ⟨f - 1, by omega⟩
  rw [encL]
  split
  · exact ⟨_, _, rfl, by decide⟩
  split
  · exact ⟨_, _, rfl, by decide⟩
  split
  · exact ⟨_, _, rfl, by decide⟩
  split
  · unfold Lib.itoa
    split
    · exact ⟨_, _, rfl, by decide⟩
    · obtain ⟨_, hdd, c, r, hc, _⟩ := dec_facts (v.getD 0 M.zero).num.toNat _ (Nat.le_refl _)
      have := dig_yes (hdd c (by rw [hc]; simp))
      exact ⟨c, r, hc, by omega, by omega, by omega, by omega⟩
  split
  · rw [quote_eq]; exact ⟨_, _, rfl, by decide⟩
  split
  · exact ⟨_, _, rfl, by decide⟩
  · exact ⟨_, _, rfl, by decide⟩
theorem ahead_arr (ks : List ByteArray) (k : Nat) : ahead false ks k = if k = 0 then [] else [44] := by unfold ahead; simp
theorem ahead_obj (ks : List ByteArray) (k : Nat) : ahead true ks k = (if k = 0 then [] else [44]) ++ (quote (ks.getD k ByteArray.empty) ++ [58]) := by unfold ahead; simp
/-- What stands ahead of a part behind the comma is read. -/
theorem headR_here {s : ByteArray} {obj : Bool} {ks : List ByteArray} {i j : Nat} {l : List UInt8} (ht : obj = true → M.textOk (ks.getD j ByteArray.empty) = true) (h : Here s i ((if obj = true then quote (ks.getD j ByteArray.empty) ++ [58] else []) ++ l)) (hl : ∃ c r, l = c :: r ∧ 32 < (c.toNat : Int)) :
    headR s obj i = .inr ((if obj = true then [ks.getD j ByteArray.empty] else []), i + (if obj = true then quote (ks.getD j ByteArray.empty) ++ [58] else []).length) := by
  cases obj with
  | false => rfl
  | true =>
    obtain ⟨c, r, rfl, hc⟩ := hl
    simp only [if_true] at h ⊢
    obtain ⟨h1, h2⟩ := h.app
    obtain ⟨_, h4, _⟩ := h2.cons
    rw [head_obj (keyR_here (ht rfl) h1), skip_not (.inl (by rw [h4]; exact hc))]
theorem stop_of {s : ByteArray} {e : Nat} {c : UInt8} (h : peek s e = (c.toNat : Int)) (hc : c = 44 ∨ c = 93 ∨ c = 125) : Stop s e := by
  unfold Stop
  rw [h]
  rcases hc with rfl | rfl | rfl <;> decide
def lastC (obj : Bool) : UInt8 := if obj then 125 else 93
theorem lastC_eq (obj : Bool) : ((lastC obj).toNat : Int) = lastB obj := by cases obj <;> rfl
/-- The elements from one on are read. -/
theorem elems_here {rec : Nat → Rv} {s : ByteArray} {obj : Bool} {g : List M.Cl → List UInt8} {ks : List ByteArray} {ps : List (List M.Cl)} {n p : Nat} (hn : ps.length = n) (hkn : obj = true → ks.length = n)
    (hpar : Here s p (partsK g obj ks ps n ++ [lastC obj])) (ht : ∀ j, j < n → obj = true → M.textOk (ks.getD j ByteArray.empty) = true)
    (hhd : ∀ j, j < n → ∃ c r, g (ps.getD j []) = c :: r ∧ 32 < (c.toNat : Int))
    (hrec : ∀ j q, j < n → Here s q (g (ps.getD j [])) → Stop s (q + (g (ps.getD j [])).length) → rec q = .inr (ps.getD j [], q + (g (ps.getD j [])).length)) :
    ∀ (m j F : Nat), j + m + 1 = n → m < F → elemsR rec s obj F (p + (partsK g obj ks ps j).length + (if j = 0 then 0 else 1)) (if obj = true then ks.take j else []) (ps.take j) = .inr (madeV obj (if obj = true then ks else []) ps, p + (partsK g obj ks ps n).length + 1) := by
  have hfull : partsK g obj ks ps n ++ [lastC obj] = partsK g obj ks ps n ++ ([lastC obj] ++ []) := by simp
  obtain ⟨hall, hend⟩ := hpar.app
  obtain ⟨_, hend, _⟩ := hend.cons
  intro m
  induction m with
  | zero =>
    intro j F hj hF
    obtain ⟨F, rfl⟩ : ∃ F', F = F' + 1 := ⟨F - 1, by omega⟩
    have hjn : j + 1 = n := by omega
    have hpn : partsK g obj ks ps n = partsK g obj ks ps j ++ (ahead obj ks j ++ g (ps.getD j [])) := by rw [← hjn, partsK]
    have hH := hall
    rw [hpn] at hH
    have hH := hH.app.2
    unfold ahead at hH
    rw [List.append_assoc] at hH
    have h0 : ((if j = 0 then [] else [44] : List UInt8)).length = if j = 0 then 0 else 1 := by split <;> rfl
    have hH := hH.app.2
    rw [h0] at hH
    have hh := headR_here (fun ho => ht j (by omega) ho) hH (hhd j (by omega))
    have hH2 := hH.app.2
    have hlen : p + (partsK g obj ks ps j).length + (if j = 0 then 0 else 1) + (if obj = true then quote (ks.getD j ByteArray.empty) ++ [58] else []).length + (g (ps.getD j [])).length = p + (partsK g obj ks ps n).length := by
      rw [hpn]; unfold ahead; rw [List.length_append, List.length_append, List.length_append, h0]; omega
    have hr := hrec j _ (by omega) hH2 (by rw [hlen]; exact stop_of hend (by cases obj <;> simp [lastC]))
    rw [hlen] at hr
    rw [elems_yes hh hr, skip_not (.inl (by rw [hend, lastC_eq]; cases obj <;> decide)), tail_last (by rw [hend, lastC_eq])]
    have e1 : ps.take j ++ [ps.getD j []] = ps := by
      have := List.take_succ_eq_append_getElem (l := ps) (i := j) (by omega)
      rw [List.getD_eq_getElem?_getD, List.getElem?_eq_getElem (by omega)]
      show ps.take j ++ [ps[j]] = ps
      rw [← this, hjn, ← hn, List.take_length]
    have e2 : (if obj = true then ks.take j else []) ++ (if obj = true then [ks.getD j ByteArray.empty] else []) = if obj = true then ks else [] := by
      cases obj with
      | false => rfl
      | true =>
        have hk := hkn rfl
        simp only [if_true]
        have := List.take_succ_eq_append_getElem (l := ks) (i := j) (by omega)
        rw [List.getD_eq_getElem?_getD, List.getElem?_eq_getElem (by omega)]
        show ks.take j ++ [ks[j]] = ks
        rw [← this, hjn, ← hk, List.take_length]
    rw [e1, e2]
  | succ m ih =>
    intro j F hj hF
    obtain ⟨F, rfl⟩ : ∃ F', F = F' + 1 := ⟨F - 1, by omega⟩
    obtain ⟨r2, hr2⟩ := parts_pre g obj ks ps (j + 1 + 1) n (by omega)
    have hpn : partsK g obj ks ps (j + 1) = partsK g obj ks ps j ++ (ahead obj ks j ++ g (ps.getD j [])) := by rw [partsK]
    have hH := hall
    rw [hr2, show partsK g obj ks ps (j + 1 + 1) = partsK g obj ks ps (j + 1) ++ (ahead obj ks (j + 1) ++ g (ps.getD (j + 1) [])) from by rw [partsK]] at hH
    have hH0 := hH.app.1.app
    have hnext := hH0.2
    have hcomma : peek s (p + (partsK g obj ks ps (j + 1)).length) = 44 := by
      have h1 := hnext.app.1
      unfold ahead at h1
      rw [if_neg (by omega)] at h1
      obtain ⟨_, h2, _⟩ := (show Here s _ (44 :: _) from h1).cons
      rw [h2]; rfl
    have hfst : 32 < peek s (p + (partsK g obj ks ps (j + 1)).length + 1) := by
      have h1 := hnext
      unfold ahead at h1
      rw [if_neg (by omega)] at h1
      obtain ⟨_, _, h3⟩ := (show Here s _ (44 :: ((if obj = true then quote (ks.getD (j + 1) ByteArray.empty) ++ [58] else []) ++ g (ps.getD (j + 1) []))) from h1).cons
      cases obj with
      | false =>
        obtain ⟨c, r, hc, hc2⟩ := hhd (j + 1) (by omega)
        rw [hc] at h3
        obtain ⟨_, h4, _⟩ := (show Here s _ (c :: r) from h3).cons
        rw [h4]; exact hc2
      | true =>
        simp only [if_true] at h3
        rw [quote_eq] at h3
        obtain ⟨_, h4, _⟩ := (show Here s _ (34 :: _) from h3).cons
        rw [h4]; decide
    have hH := hH0.1
    rw [hpn] at hH
    have hH := hH.app.2
    unfold ahead at hH
    rw [List.append_assoc] at hH
    have h0 : ((if j = 0 then [] else [44] : List UInt8)).length = if j = 0 then 0 else 1 := by split <;> rfl
    have hH := hH.app.2
    rw [h0] at hH
    have hh := headR_here (fun ho => ht j (by omega) ho) hH (hhd j (by omega))
    have hH2 := hH.app.2
    have hlen : p + (partsK g obj ks ps j).length + (if j = 0 then 0 else 1) + (if obj = true then quote (ks.getD j ByteArray.empty) ++ [58] else []).length + (g (ps.getD j [])).length = p + (partsK g obj ks ps (j + 1)).length := by
      rw [hpn]; unfold ahead; rw [List.length_append, List.length_append, List.length_append, h0]; omega
    have hr := hrec j _ (by omega) hH2 (by rw [hlen]; exact stop_of (c := 44) (by rw [hcomma]; rfl) (.inl rfl))
    rw [hlen] at hr
    rw [elems_yes hh hr, skip_not (.inl (by rw [hcomma]; decide)), tail_comma hcomma, skip_not (.inl hfst)]
    have e1 : ps.take j ++ [ps.getD j []] = ps.take (j + 1) := by
      rw [List.take_succ_eq_append_getElem (by omega), List.getD_eq_getElem?_getD, List.getElem?_eq_getElem (by omega)]; rfl
    have e2 : (if obj = true then ks.take j else []) ++ (if obj = true then [ks.getD j ByteArray.empty] else []) = if obj = true then ks.take (j + 1) else [] := by
      cases obj with
      | false => rfl
      | true =>
        have hk := hkn rfl
        simp only [if_true]
        rw [List.take_succ_eq_append_getElem (by omega), List.getD_eq_getElem?_getD, List.getElem?_eq_getElem (by omega)]; rfl
    rw [e1, e2]
    have := ih (j + 1) F (by omega) (by omega)
    rwa [if_neg (by omega)] at this
theorem parts_count (g : List M.Cl → List UInt8) (obj : Bool) (ks : List ByteArray) (ps : List (List M.Cl)) : ∀ n, (∀ j, j < n → 0 < (g (ps.getD j [])).length) → n ≤ (partsK g obj ks ps n).length
  | 0, _ => Nat.zero_le _
  | n + 1, h => by
    have := parts_count g obj ks ps n (fun j hj => h j (by omega))
    have := h n (by omega)
    rw [partsK, List.length_append, List.length_append]
    omega
/-- An array or object that lies in a text. -/
theorem many_here {rec : Nat → Rv} {s : ByteArray} {obj : Bool} {v : List M.Cl} {f k : Nat} (hv : M.valueFault v = 0) (hk : (v.getD 0 M.zero).kind = if obj = true then 6 else 5)
    (hH : Here s k (partsK (encL f) obj (keysAt v 0) (subs v 0) (M.arity v 0) ++ [lastC obj])) (hf : ∀ j, j < M.arity v 0 → M.valueFault ((subs v 0).getD j []) = 0 ∧ ((subs v 0).getD j []).length ≤ f)
    (hrec : ∀ j q, j < M.arity v 0 → Here s q (encL f ((subs v 0).getD j [])) → Stop s (q + (encL f ((subs v 0).getD j [])).length) → rec q = .inr ((subs v 0).getD j [], q + (encL f ((subs v 0).getD j [])).length)) :
    manyR rec s obj (skip s k) = .inr (v, k + (partsK (encL f) obj (keysAt v 0) (subs v 0) (M.arity v 0)).length + 1) := by
  have hsl : (subs v 0).length = M.arity v 0 := subs_length v 0
  have hkl : (keysAt v 0).length = M.arity v 0 := keysAt_length v 0
  have hmade : madeV obj (if obj = true then keysAt v 0 else []) (subs v 0) = v := by
    cases obj with
    | false => exact arr_again hv hk
    | true => exact obj_again hv hk
  have hhd := fun j (hj : j < M.arity v 0) => enc_head (hf j hj).1 (hf j hj).2
  by_cases hn : M.arity v 0 = 0
  · rw [hn] at hH hsl hkl ⊢
    obtain ⟨_, hp, _⟩ := (show Here s k (lastC obj :: []) from hH).cons
    rw [lastC_eq] at hp
    have e1 : subs v 0 = [] := List.length_eq_zero_iff.1 hsl
    have e2 : keysAt v 0 = [] := List.length_eq_zero_iff.1 hkl
    rw [skip_not (.inl (by rw [hp]; cases obj <;> decide)), many_last hp]
    rw [e1, e2] at hmade
    have e3 : (if obj = true then ([] : List ByteArray) else []) = [] := by cases obj <;> rfl
    rw [e3] at hmade
    rw [hmade]
    rfl
  have hfst : 32 < peek s k ∧ peek s k ≠ lastB obj := by
    obtain ⟨r2, hr2⟩ := parts_pre (encL f) obj (keysAt v 0) (subs v 0) 1 (M.arity v 0) (by omega)
    have h1 := hH.app.1
    rw [hr2] at h1
    have h1 := h1.app.1
    rw [partsK, partsK, List.nil_append] at h1
    cases obj with
    | false =>
      rw [ahead_arr, if_pos rfl, List.nil_append] at h1
      obtain ⟨c, r, hc, h2, h3, h4, h5⟩ := hhd 0 (by omega)
      rw [hc] at h1
      obtain ⟨_, hp, _⟩ := h1.cons
      rw [hp]
      exact ⟨h2, h3⟩
    | true =>
      rw [ahead_obj, if_pos rfl, List.nil_append, quote_eq] at h1
      obtain ⟨_, hp, _⟩ := (show Here s k (34 :: _) from h1).cons
      rw [hp]
      exact ⟨by decide, by decide⟩
  have hpos : ∀ j, j < M.arity v 0 → 0 < (encL f ((subs v 0).getD j [])).length := fun j hj => by
    obtain ⟨c, r, hc, _⟩ := hhd j hj
    rw [hc]; simp
  have hcnt := parts_count (encL f) obj (keysAt v 0) (subs v 0) (M.arity v 0) hpos
  have hle := hH.le (by simp)
  rw [List.length_append] at hle
  rw [skip_not (.inl hfst.1), many_go hfst.2]
  have := elems_here (rec := rec) (g := encL f) (ks := keysAt v 0) (ps := subs v 0) hsl (fun _ => hkl) hH (fun j hj _ => keys_text hv _ (by omega)) (fun j hj => by obtain ⟨c, r, hc, h2, _⟩ := hhd j hj; exact ⟨c, r, hc, h2⟩) hrec (M.arity v 0 - 1) 0 (s.size + 1) (by omega) (by simp at hle; omega)
  have e3 : (if obj = true then (keysAt v 0).take 0 else []) = [] := by cases obj <;> rfl
  rw [e3, if_pos rfl, hmade] at this
  exact this
/-- A value that lies in a text is read as the value. -/
theorem one_here : ∀ (f : Nat) (v : List M.Cl) (dv F d : Nat) (s : ByteArray) (k : Nat), M.valueFault v = 0 → v.length ≤ f → M.walk v v.length 0 = some (v.length, dv) → dv ≤ F → d + dv ≤ 20 → Here s k (encL f v) → Stop s (k + (encL f v).length) → oneR F d s k = .inr (v, k + (encL f v).length)
  | 0, v, dv, F, d, s, k, hv, hf, _, _, _, _, _ => by have := (M.fault_zero hv).1; omega
  | f + 1, v, dv, F, d, s, k, hv, hf, hw, hF, hd, hH, hS => by
    have hl := (M.fault_zero hv).1
    have hdv : 1 ≤ dv := by
      obtain ⟨q, hq⟩ : ∃ q, v.length = q + 1 := ⟨v.length - 1, by omega⟩
      rw [hq] at hw
      simp only [M.walk, Option.map_eq_some_iff, Prod.mk.injEq] at hw
      obtain ⟨_, _, _, h⟩ := hw
      omega
    obtain ⟨F, rfl⟩ : ∃ G, F = G + 1 := ⟨F - 1, by omega⟩
    obtain ⟨c0, r0, hc0, _⟩ := enc_head (f := f + 1) hv hf
    have hks := (show Here s k (c0 :: r0) from by rw [← hc0]; exact hH).cons.1
    have hpart : ∀ j, j < M.arity v 0 → M.valueFault ((subs v 0).getD j []) = 0 ∧ ((subs v 0).getD j []).length ≤ f := fun j hj => by
      obtain ⟨p1, p2, p3⟩ := Dq.part_lt hv hj
      have hile := (Dq.iter_le hv (show j + 1 ≤ M.arity v 0 from hj)).2
      have hi1 := (Dq.iter_le hv (Nat.le_of_lt hj)).1
      rw [Dq.subs_getD v 0 j hj, Nat.zero_add]
      exact ⟨p3, by omega⟩
    have hrec : ∀ j q, j < M.arity v 0 → Here s q (encL f ((subs v 0).getD j [])) → Stop s (q + (encL f ((subs v 0).getD j [])).length) → oneR F (d + 1) s q = .inr ((subs v 0).getD j [], q + (encL f ((subs v 0).getD j [])).length) := fun j q hj hh hst => by
      obtain ⟨dp, w1, w2⟩ := Dq.subs_deep hv hw hj
      obtain ⟨p3, p4⟩ := hpart j hj
      have e := Dq.subs_getD v 0 j hj
      rw [Nat.zero_add] at e
      rw [← e] at w1
      exact one_here f ((subs v 0).getD j []) dp F (d + 1) s q p3 p4 w1 (by omega) (by omega) hh hst
    rw [oneR, if_neg (by omega), if_neg (by omega)]
    by_cases h5 : (v.getD 0 M.zero).kind = 5
    · have e : encL (f + 1) v = 91 :: (partsK (encL f) false (keysAt v 0) (subs v 0) (M.arity v 0) ++ [lastC false]) := by
        rw [encL, if_neg (by omega), if_neg (by omega), if_neg (by omega), if_neg (by omega), if_neg (by omega), if_pos h5, List.append_assoc]; rfl
      rw [e] at hH ⊢
      obtain ⟨_, hp, hH2⟩ := hH.cons
      have hp : peek s k = 91 := by rw [hp]; rfl
      rw [if_neg (by omega), if_neg (by omega), if_neg (by omega), if_pos hp, many_here hv (by rw [h5]; rfl) hH2 hpart hrec]
      rw [List.length_cons, List.length_append]
      exact congrArg (fun x => Sum.inr (v, x)) (by simp; omega)
    by_cases h6 : (v.getD 0 M.zero).kind = 6
    · have e : encL (f + 1) v = 123 :: (partsK (encL f) true (keysAt v 0) (subs v 0) (M.arity v 0) ++ [lastC true]) := by
        rw [encL, if_neg (by omega), if_neg (by omega), if_neg (by omega), if_neg (by omega), if_neg (by omega), if_neg h5, List.append_assoc]; rfl
      rw [e] at hH ⊢
      obtain ⟨_, hp, hH2⟩ := hH.cons
      have hp : peek s k = 123 := by rw [hp]; rfl
      rw [if_neg (by omega), if_neg (by omega), if_neg (by omega), if_neg (by omega), if_pos hp, many_here hv (by rw [h6]; rfl) hH2 hpart hrec]
      rw [List.length_cons, List.length_append]
      exact congrArg (fun x => Sum.inr (v, x)) (by simp; omega)
    obtain ⟨hcell, hcc⟩ := leaf_cell hv h5 h6
    have hct := code_text hcc
    have htx := (textOk_of hcc).1
    have hcf := code_fields' hcc
    have hemp : (v.getD 0 M.zero).kind ≠ 4 → (v.getD 0 M.zero).text = ByteArray.empty := fun h => bytes_nil (hcf.2.1 h)
    generalize v.getD 0 M.zero = c at *
    have hfin : ∀ (n : Nat) (l : List M.Cl), l = v → (Sum.inr (l, k + n) : Rv) = .inr (v, k + n) := fun n l h => by rw [h]
    by_cases h0 : c.kind = 0
    · have e : encL (f + 1) v = [110, 117, 108, 108] := by rw [encL, if_pos (by rw [hcell]; exact h0)]
      rw [e] at hH ⊢
      have hp : peek s k = 110 := by rw [(show Here s k (110 :: _) from hH).cons.2.1]; rfl
      rw [if_pos hp, wordV_here hH]
      refine hfin _ _ ?_
      rw [hcell, h0, hcf.1 (by omega), hemp (by omega)]; rfl
    by_cases h1 : c.kind = 1
    · have e : encL (f + 1) v = [102, 97, 108, 115, 101] := by rw [encL, if_neg (by rw [hcell]; exact h0), if_pos (by rw [hcell]; exact h1)]
      rw [e] at hH ⊢
      have hp : peek s k = 102 := by rw [(show Here s k (102 :: _) from hH).cons.2.1]; rfl
      rw [if_neg (by omega), if_pos hp, wordV_here hH]
      refine hfin _ _ ?_
      rw [hcell, h1, hcf.1 (by omega), hemp (by omega)]; rfl
    by_cases h2 : c.kind = 2
    · have e : encL (f + 1) v = [116, 114, 117, 101] := by rw [encL, if_neg (by rw [hcell]; exact h0), if_neg (by rw [hcell]; exact h1), if_pos (by rw [hcell]; exact h2)]
      rw [e] at hH ⊢
      have hp : peek s k = 116 := by rw [(show Here s k (116 :: _) from hH).cons.2.1]; rfl
      rw [if_neg (by omega), if_neg (by omega), if_pos hp, wordV_here hH]
      refine hfin _ _ ?_
      rw [hcell, h2, hcf.1 (by omega), hemp (by omega)]; rfl
    by_cases h3 : c.kind = 3
    · have e : encL (f + 1) v = Lib.itoa c.num := by
        rw [encL, if_neg (by rw [hcell]; exact h0), if_neg (by rw [hcell]; exact h1), if_neg (by rw [hcell]; exact h2), if_pos (by rw [hcell]; exact h3), hcell]; rfl
      rw [e] at hH hS ⊢
      have hp : peek s k = 45 ∨ (48 ≤ peek s k ∧ peek s k ≤ 57) := by
        unfold Lib.itoa at hH
        split at hH
        · exact .inl (by rw [hH.cons.2.1]; rfl)
        · obtain ⟨_, hdd, c1, r1, hc1, _⟩ := dec_facts c.num.toNat _ (Nat.le_refl _)
          have := dig_yes (hdd c1 (by rw [hc1]; simp))
          rw [hc1] at hH
          rw [hH.cons.2.1]
          exact .inr this
      rw [if_neg (by omega), if_neg (by omega), if_neg (by omega), if_neg (by omega), if_neg (by omega), if_neg (by omega), numV_here hct.2.2.1 hct.2.2.2.1 hH hS]
      refine hfin _ _ ?_
      rw [hcell, h3, hemp (by omega)]
    · have h4 : c.kind = 4 := by have := hct.2.2.2.2; omega
      have e : encL (f + 1) v = quote c.text := by
        rw [encL, if_neg (by rw [hcell]; exact h0), if_neg (by rw [hcell]; exact h1), if_neg (by rw [hcell]; exact h2), if_neg (by rw [hcell]; exact h3), if_pos (by rw [hcell]; exact h4), hcell]; rfl
      rw [e] at hH ⊢
      have hp : peek s k = 34 := by
        have h := hH
        rw [quote_eq] at h
        rw [h.cons.2.1]; rfl
      rw [if_neg (by omega), if_neg (by omega), if_neg (by omega), if_neg (by omega), if_neg (by omega), if_pos hp, strV_here htx hH]
      refine hfin _ _ ?_
      rw [hcell, h4, hcf.1 (by omega)]
/-- The text of a value, with blanks around it, is read as the value. -/
theorem dec_enc {v : List M.Cl} (hv : M.valueFault v = 0) (a b : List UInt8) (ha : ∀ x ∈ a, blank x = true) (hb : ∀ x ∈ b, blank x = true) (hsz : (bytes (a ++ encL 200 v ++ b)).size ≤ 4000) : decOut (bytes (a ++ encL 200 v ++ b)) = (0, 0, v) := by
  obtain ⟨dv, hw, hd⟩ := (M.fault_zero hv).2.2.2.2
  have hl2 := (M.fault_zero hv).2.1
  have hlist : ∀ l : List UInt8, (bytes l).data.toList = l := fun l => by simp [bytes]
  obtain ⟨c, r, hc, h32, _⟩ := enc_head (f := 200) hv hl2
  have hcb : blank c = false := by
    rw [J.blank_int]
    simp only [Bool.or_eq_false_iff, beq_eq_false_iff_ne]
    omega
  have hsk : skip (bytes (a ++ encL 200 v ++ b)) 0 = a.length := by
    unfold skip
    rw [hlist, List.drop_zero, hc, List.append_assoc, Nat.zero_add, List.takeWhile_append_of_pos ha]
    rw [List.cons_append, List.takeWhile_cons, hcb]
    simp
  have hH : Here (bytes (a ++ encL 200 v ++ b)) a.length (encL 200 v) := ⟨b, by rw [hlist, List.append_assoc, List.drop_left]⟩
  have hend : (bytes (a ++ encL 200 v ++ b)).data.toList.drop (a.length + (encL 200 v).length) = b := by
    rw [hlist, show a.length + (encL 200 v).length = (a ++ encL 200 v).length by simp, List.drop_left]
  have hst : Stop (bytes (a ++ encL 200 v ++ b)) (a.length + (encL 200 v).length) := by
    cases b with
    | nil =>
      have : peek (bytes (a ++ encL 200 v ++ [])) (a.length + (encL 200 v).length) = 0 := peek_out _ _ (by rw [bytes_size]; simp)
      unfold Stop
      rw [this]
      decide
    | cons x b =>
      have hx := hb x (by simp)
      rw [J.blank_int] at hx
      simp only [Bool.or_eq_true, beq_iff_eq] at hx
      have hp := (show Here (bytes (a ++ encL 200 v ++ x :: b)) (a.length + (encL 200 v).length) (x :: b) from ⟨[], by rw [hend]; simp⟩).cons.2.1
      unfold Stop
      rw [hp]
      omega
  have hone := one_here 200 v dv 21 0 _ a.length hv hl2 hw (by omega) (by omega) hH hst
  have hsk2 : skip (bytes (a ++ encL 200 v ++ b)) (a.length + (encL 200 v).length) = (bytes (a ++ encL 200 v ++ b)).size := by
    unfold skip
    rw [hend, take_all b hb, bytes_size]
    simp; omega
  unfold decOut
  rw [if_neg (by omega), hsk, hone]
  simp only
  rw [hsk2, if_neg (by omega), if_neg (by omega)]
end J
end Go.Proofs.YtikeffckhklhbaaGreatDoor
