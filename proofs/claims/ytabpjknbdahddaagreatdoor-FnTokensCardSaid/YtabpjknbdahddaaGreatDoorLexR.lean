/-
  The text of joined tokens is read as the same tokens: plain. No word of the program is used here.
-/
import Derived.Test.YtabpjknbdahddaaGreatDoorLexO
import Derived.Test.YtabpjknbdahddaaGreatDoorStrM
import Derived.Test.YtabpjknbdahddaaGreatDoorNumW
import Derived.Test.YtabpjknbdahddaaGreatDoorNumP
import Derived.Test.YtabpjknbdahddaaGreatDoorJoiM
import Derived.Test.YtabpjknbdahddaaGreatDoorSkipT
namespace Go.Proofs.YtabpjknbdahddaaGreatDoor
open Go.RowKit
set_option linter.unusedVariables false
set_option linter.unusedSimpArgs false

/-- At place k of s stands this token, up to place m. -/
inductive TokAt (s : ByteArray) (k : Nat) : Tk → Nat → Prop where
  | num (c : Int) (m : Nat) : (decide (48 ≤ J.peek s k) && decide (J.peek s k ≤ 57)) = true → J.wholeR s k = .inr (c, m) → TokAt s k ⟨1, k, c, ⟨#[]⟩⟩ m
  | str (l : List UInt8) (m : Nat) : J.peek s k = 34 → J.quotR s k = .inr (l, m) → TokAt s k ⟨2, k, 0, J.bytes l⟩ m
  | name : (decide (48 ≤ J.peek s k) && decide (J.peek s k ≤ 57)) = false → J.peek s k ≠ 34 → (J.leadP (s.extract k s.size)).size ≠ 0 → TokAt s k ⟨3, k, 0, J.leadP (s.extract k s.size)⟩ (k + (J.leadP (s.extract k s.size)).size)
  | field : (decide (48 ≤ J.peek s k) && decide (J.peek s k ≤ 57)) = false → J.peek s k ≠ 34 → J.leadP (s.extract k s.size) = ByteArray.empty → Lib.hasPrefix (s.extract k s.size).data.toList [46] = true → (J.leadP (J.behind (s.extract k s.size))).size ≠ 0 → TokAt s k ⟨4, k, 0, J.leadP (J.behind (s.extract k s.size))⟩ (k + (1 + (J.leadP (J.behind (s.extract k s.size))).size))
  | var : (decide (48 ≤ J.peek s k) && decide (J.peek s k ≤ 57)) = false → J.peek s k ≠ 34 → J.leadP (s.extract k s.size) = ByteArray.empty → Lib.hasPrefix (s.extract k s.size).data.toList [46] = false → Lib.hasPrefix (s.extract k s.size).data.toList [36] = true → (J.leadP (J.behind (s.extract k s.size))).size ≠ 0 → TokAt s k ⟨5, k, 0, J.leadP (J.behind (s.extract k s.size))⟩ (k + (1 + (J.leadP (J.behind (s.extract k s.size))).size))
  | two : (decide (48 ≤ J.peek s k) && decide (J.peek s k ≤ 57)) = false → J.peek s k ≠ 34 → J.leadP (s.extract k s.size) = ByteArray.empty → (Lib.hasPrefix (s.extract k s.size).data.toList [46] = false ∨ J.leadP (J.behind (s.extract k s.size)) = ByteArray.empty) → Lib.hasPrefix (s.extract k s.size).data.toList [36] = false → 2 ≤ (s.extract k s.size).size → oneOf theMarks ((s.extract k s.size).extract 0 2) = true → TokAt s k ⟨6, k, 0, (s.extract k s.size).extract 0 2⟩ (k + 2)
  | one : (decide (48 ≤ J.peek s k) && decide (J.peek s k ≤ 57)) = false → J.peek s k ≠ 34 → J.leadP (s.extract k s.size) = ByteArray.empty → (Lib.hasPrefix (s.extract k s.size).data.toList [46] = false ∨ J.leadP (J.behind (s.extract k s.size)) = ByteArray.empty) → Lib.hasPrefix (s.extract k s.size).data.toList [36] = false → ((s.extract k s.size).size = 1 ∨ (2 ≤ (s.extract k s.size).size ∧ oneOf theMarks ((s.extract k s.size).extract 0 2) = false)) → oneOf theMarks ((s.extract k s.size).extract 0 1) = true → TokAt s k ⟨6, k, 0, (s.extract k s.size).extract 0 1⟩ (k + 1)
/-- From place k on, behind blanks, s holds these tokens and no more. -/
inductive Reads (s : ByteArray) : Nat → List Tk → Prop where
  | nil (k : Nat) : s.size ≤ k → Reads s k []
  | cons (k m : Nat) (t : Tk) (ts : List Tk) : k < s.size → TokAt s k t m → m ≤ s.size → Reads s (J.skip s m) ts → Reads s k (t :: ts)
namespace J
/-- From place k on a text holds these bytes, and behind them nothing or a blank. -/
def Sits (s : ByteArray) (k : Nat) (l : List UInt8) : Prop := ∃ q, s.data.toList.drop k = l ++ q ∧ k ≤ s.size ∧ (q = [] ∨ ∃ r, q = 32 :: r)
theorem drop_peek {s : ByteArray} {k : Nat} {c : UInt8} {r : List UInt8} (h : s.data.toList.drop k = c :: r) : peek s k = (c.toNat : Int) ∧ k < s.size ∧ s.data.toList.drop (k + 1) = r := by
  have hk : k < s.size := by
    have := congrArg List.length h
    rw [List.length_drop] at this
    have e : s.data.toList.length = s.size := by simp
    simp only [List.length_cons] at this
    omega
  rw [drop_cons s k hk] at h
  injection h with h1 h2
  exact ⟨by rw [peek_in s k hk, h1], hk, h2⟩
theorem drop_nil {s : ByteArray} {k : Nat} (h : s.data.toList.drop k = []) : s.size ≤ k := by
  rw [List.drop_eq_nil_iff] at h
  simpa using h
theorem drop_more {s : ByteArray} {k : Nat} {l q : List UInt8} (h : s.data.toList.drop k = l ++ q) : s.data.toList.drop (k + l.length) = q := by
  rw [← List.drop_drop, h, List.drop_left]
theorem drop_size {s : ByteArray} {k : Nat} {l : List UInt8} (hk : k ≤ s.size) (h : s.data.toList.drop k = l) : s.size = k + l.length := by
  have := congrArg List.length h
  rw [List.length_drop] at this
  have e : s.data.toList.length = s.size := by simp
  omega
theorem ext_rest {s : ByteArray} {k : Nat} {l : List UInt8} (h : s.data.toList.drop k = l) : s.extract k s.size = bytes l := by
  refine ba_eq ?_
  rw [ByteArray.data_extract]
  have : (s.data.extract k s.size).toList = l := by
    rw [Array.toList_extract]
    simp only [List.extract_eq_take_drop]
    rw [h, List.take_of_length_le (by
      have := congrArg List.length h
      rw [List.length_drop] at this
      have e : s.data.toList.length = s.size := by simp
      omega)]
  exact Array.toList_inj.1 (by rw [this]; simp [bytes])
theorem ext_some {s : ByteArray} {k : Nat} {l q : List UInt8} (h : s.data.toList.drop k = l ++ q) : s.extract k (k + l.length) = bytes l := by
  refine ba_eq ?_
  rw [ByteArray.data_extract]
  have : (s.data.extract k (k + l.length)).toList = l := by
    rw [Array.toList_extract]
    simp only [List.extract_eq_take_drop]
    rw [h, show k + l.length - k = l.length by omega, List.take_left]
  exact Array.toList_inj.1 (by rw [this]; simp [bytes])
theorem bytes_toList (t : ByteArray) : bytes t.data.toList = t := ba_eq (by simp [bytes])
theorem bytes_getElem (l : List UInt8) (j : Nat) (h : j < (bytes l).size) (h2 : j < l.length) : (bytes l)[j]'h = l[j]'h2 := by
  show (l.toArray)[j] = l[j]
  simp
/-! numbers -/
theorem dec_ne (n : Nat) : Lib.decDigits n ≠ [] := by
  rw [Lib.decDigits]
  split <;> simp
theorem dig_of (d : Nat) (h : d < 10) : (UInt8.ofNat (48 + d)).toNat = 48 + d := by
  rw [UInt8.toNat_ofNat']
  omega
theorem dec_dig (n : Nat) : ∀ c ∈ Lib.decDigits n, 48 ≤ c.toNat ∧ c.toNat ≤ 57 := by
  induction n using Nat.strongRecOn with
  | ind n ih =>
    rw [Lib.decDigits]
    split
    · rename_i h
      intro c hc
      simp only [List.mem_cons, List.not_mem_nil, or_false] at hc
      subst hc
      rw [dig_of n h]; omega
    · rename_i h
      intro c hc
      rw [List.mem_append] at hc
      rcases hc with hc | hc
      · exact ih (n / 10) (by omega) c hc
      · simp only [List.mem_cons, List.not_mem_nil, or_false] at hc
        subst hc
        rw [dig_of (n % 10) (by omega)]; omega
theorem valN_snoc (acc : Nat) (l : List UInt8) (b : UInt8) : valN acc (l ++ [b]) = valN acc l * 10 + (b.toNat - 48) := by
  unfold valN; rw [List.foldl_append]; rfl
theorem dec_val (n : Nat) : valN 0 (Lib.decDigits n) = n := by
  induction n using Nat.strongRecOn with
  | ind n ih =>
    rw [Lib.decDigits]
    split
    · rename_i h
      show 0 * 10 + ((UInt8.ofNat (48 + n)).toNat - 48) = n
      rw [dig_of n h]; omega
    · rename_i h
      rw [valN_snoc, ih (n / 10) (by omega), dig_of (n % 10) (by omega)]
      omega
theorem dec_head (n : Nat) (h : n ≠ 0) : ∀ c r, Lib.decDigits n = c :: r → c.toNat ≠ 48 := by
  induction n using Nat.strongRecOn with
  | ind n ih =>
    intro c r
    rw [Lib.decDigits]
    split
    · rename_i h1
      intro e
      injection e with e1 e2
      rw [← e1, dig_of n h1]; omega
    · rename_i h1
      cases hd : Lib.decDigits (n / 10) with
      | nil => exact absurd hd (dec_ne _)
      | cons a b =>
        intro e
        rw [List.cons_append] at e
        injection e with e1 e2
        rw [← e1]
        exact ih (n / 10) (by omega) (by omega) a b hd
theorem takeWhile_all {p : UInt8 → Bool} (l q : List UInt8) (h : ∀ c ∈ l, p c = true) (hq : q = [] ∨ ∃ c r, q = c :: r ∧ p c = false) : (l ++ q).takeWhile p = l := by
  induction l with
  | nil =>
    rcases hq with rfl | ⟨c, r, rfl, hc⟩
    · rfl
    · rw [List.nil_append, List.takeWhile_cons, hc]; rfl
  | cons a r ih =>
    rw [List.cons_append, List.takeWhile_cons, h a (by simp), if_pos rfl, ih (fun c hc => h c (by simp [hc]))]
theorem dig_of_bd {c : UInt8} (h : 48 ≤ c.toNat ∧ c.toNat ≤ 57) : dig c = true := by
  unfold dig
  simp only [Bool.and_eq_true, decide_eq_true_eq]
  omega
theorem stop_dig {q : List UInt8} (h : q = [] ∨ ∃ r, q = 32 :: r) : q = [] ∨ ∃ c r, q = c :: r ∧ dig c = false := by
  rcases h with h | ⟨r, h⟩
  · exact .inl h
  · exact .inr ⟨32, r, h, by decide⟩
theorem num_dec {s : ByteArray} {k n : Nat} (h : Sits s k (Lib.decDigits n)) : num s k = (((k + (Lib.decDigits n).length : Nat) : Int), 0) ∧ (decide (48 ≤ peek s k) && decide (peek s k ≤ 57)) = true := by
  obtain ⟨q, h1, hk, hq⟩ := h
  cases hd : Lib.decDigits n with
  | nil => exact absurd hd (dec_ne _)
  | cons c r =>
    have hall := dec_dig n
    rw [hd] at hall h1
    have hc := hall c (by simp)
    obtain ⟨p1, p2, p3⟩ := drop_peek (r := r ++ q) (by rw [h1]; rfl)
    have es : sign s k = k := by unfold sign; rw [if_neg (by rw [p1]; omega)]
    have ek : s[k] = c := by
      rw [peek_in s k p2] at p1
      exact UInt8.toNat_inj.1 (by omega)
    refine ⟨?_, ?_⟩
    · unfold num
      simp only [es]
      rw [dif_pos p2, ek, if_neg (by rw [dig_of_bd hc]; simp)]
      by_cases h0 : c.toNat = 48
      · rw [if_pos h0]
        have hn : n = 0 := by
          by_cases hn : n = 0
          · exact hn
          · exact absurd h0 (dec_head n hn c r hd)
        subst hn
        have : Lib.decDigits 0 = [48] := by rw [Lib.decDigits, dif_pos (by omega)]; rfl
        rw [this] at hd
        injection hd with _ e2
        rw [← e2]
        simp
      · rw [if_neg h0]
        unfold run
        rw [h1, takeWhile_all (c :: r) q (fun x hx => dig_of_bd (hall x hx)) (stop_dig hq)]
    · rw [p1]
      simp only [Bool.and_eq_true, decide_eq_true_eq]
      omega
theorem whole_dec {s : ByteArray} {k n : Nat} (h : Sits s k (Lib.decDigits n)) (hn : n ≤ 1000000000000000) : wholeR s k = .inr ((n : Int), k + (Lib.decDigits n).length) := by
  obtain ⟨h2, h3⟩ := num_dec h
  obtain ⟨q, h1, hk, hq⟩ := h
  have hm : k + (Lib.decDigits n).length ≤ s.size := by
    have := drop_size hk h1
    rw [List.length_append] at this
    omega
  have he := ext_some h1
  have hN := (isNum_ext h2 hm).1
  rw [wholeR_yes h2, he] at *
  have hp : ¬ peek (bytes (Lib.decDigits n)) 0 = 45 := by
    intro e
    have hz := hN.2
    rw [peek_in _ 0 hz] at e
    have hz2 : 0 < (Lib.decDigits n).length := by rw [bytes_size] at hz; exact hz
    have e2 : (bytes (Lib.decDigits n))[0]'hz = (Lib.decDigits n)[0]'hz2 := bytes_getElem _ 0 hz hz2
    simp only [e2] at e
    have := dec_dig n _ (List.getElem_mem hz2)
    omega
  have ed : digitsOf (bytes (Lib.decDigits n)) = bytes (Lib.decDigits n) := by unfold digitsOf; rw [if_neg hp]
  have en : negOf (bytes (Lib.decDigits n)) = false := by unfold negOf; simp [hp]
  have hv : valK (digitsOf (bytes (Lib.decDigits n))) (digitsOf (bytes (Lib.decDigits n))).size = (n : Int) := by
    rw [← valN_whole _ (digits_all hN), ed]
    show ((valN 0 (Lib.decDigits n).toArray.toList : Nat) : Int) = n
    rw [List.toList_toArray, dec_val]
  have h2v := numVal_two hN
  have h1v := numVal_one hN (by rw [hv]; omega)
  rw [hv] at h2v h1v
  rw [en, if_neg (by simp)] at h1v
  rw [decide_eq_true (by omega)] at h2v
  rw [numOut_ok hN h2v, ← en] at *
  rw [if_neg (by simp)]
  rw [en] at *
  simp only
  rw [h1v]
/-! strings -/
theorem qF_quote {s : ByteArray} (q : List UInt8) : ∀ (txt : List UInt8) (i : Nat) (acc : List UInt8), (∀ c ∈ txt, M.byteOk c = true) → i ≤ s.size → s.data.toList.drop i = txt.flatMap esc ++ 34 :: q →
    qF s (s.size + 1 - i) i acc = .inr (acc ++ txt, i + (txt.flatMap esc).length + 1) := by
  intro txt
  induction txt with
  | nil =>
    intro i acc _ hi hd
    obtain ⟨p1, p2, p3⟩ := drop_peek (by simpa using hd)
    rw [qF_end hi acc (by rw [p1]; rfl)]
    simp
  | cons c r ih =>
    intro i acc hb hi hd
    have hc := hb c (by simp)
    unfold M.byteOk at hc
    simp only [Bool.and_eq_true, decide_eq_true_eq] at hc
    have hof : UInt8.ofNat ((c.toNat : Int)).toNat = c := by simp
    by_cases he : c.toNat = 34 ∨ c.toNat = 92
    · have e1 : esc c = [92, c] := by unfold esc; rw [if_pos he]
      rw [List.flatMap_cons, e1] at hd
      obtain ⟨p1, p2, p3⟩ := drop_peek (by simpa using hd)
      obtain ⟨q1, q2, q3⟩ := drop_peek p3
      have hs : sbR s i = .inr ((c.toNat : Int), i + 2) := by
        unfold sbR
        rw [if_pos (by rw [p1]; rfl), escR_plain (by rw [q1]; omega), q1]
      rw [qF_next hi acc (by rw [p1]; decide) hs, hof, ih (i + 2) _ (fun x hx => hb x (by simp [hx])) (by omega) q3, List.flatMap_cons, e1]
      simp
      omega
    · have e1 : esc c = [c] := by unfold esc; rw [if_neg he]
      rw [List.flatMap_cons, e1] at hd
      obtain ⟨p1, p2, p3⟩ := drop_peek (by simpa using hd)
      have hs : sbR s i = .inr ((c.toNat : Int), i + 1) := by
        unfold sbR
        rw [if_neg (by rw [p1]; omega), if_neg (by rw [p1]; omega), p1]
      rw [qF_next hi acc (by rw [p1]; omega) hs, hof, ih (i + 1) _ (fun x hx => hb x (by simp [hx])) (by omega) p3, List.flatMap_cons, e1]
      simp
      omega
theorem quot_quote {s t : ByteArray} {k : Nat} (h : Sits s k (quote t)) (ht : M.textOk t = true) : peek s k = 34 ∧ quotR s k = .inr (t.data.toList, k + (quote t).length) := by
  obtain ⟨q, h1, hk, hq⟩ := h
  unfold M.textOk at ht
  simp only [Bool.and_eq_true, decide_eq_true_eq] at ht
  have hq0 : quote t = 34 :: (t.data.toList.flatMap esc ++ [34]) := by
    unfold quote quoteK
    rw [List.take_of_length_le (by simp)]
    simp
  rw [hq0] at h1 ⊢
  obtain ⟨p1, p2, p3⟩ := drop_peek (c := 34) (r := t.data.toList.flatMap esc ++ 34 :: q) (by rw [h1]; simp)
  have e := qF_quote q t.data.toList (k + 1) [] (fun c hc => List.all_eq_true.1 ht.2 c hc) (by omega) p3
  refine ⟨by rw [p1]; rfl, ?_⟩
  rw [quotR_ok (l := t.data.toList) (e := k + 1 + (t.data.toList.flatMap esc).length + 1) (by rw [p1]; rfl) ?_ (by simpa using ht.1)]
  · simp
    omega
  · rw [qF_fuel s (s.size + 1) (s.size + 1 - (k + 1)) (k + 1) [] (by omega) (by omega) (by omega), e]
    simp
/-! names -/
theorem nrun_full {s : ByteArray} : ∀ k, nrun s k = s.size → ∀ j (hj : j < s.size), k ≤ j → okC j (s[j].toNat : Int) = true := by
  intro k h j hj hkj
  induction hm : j - k generalizing k with
  | zero =>
    have e : k = j := by omega
    subst e
    cases ho : okC k (s[k].toNat : Int) with
    | true => rfl
    | false => rw [nrun_stop s k hj ho] at h; omega
  | succ m ih =>
    have hk : k < s.size := by omega
    cases ho : okC k (s[k].toNat : Int) with
    | false => rw [nrun_stop s k hk ho] at h; omega
    | true => exact ih (k + 1) (by rw [← nrun_go s k hk ho]; exact h) (by omega) (by omega)
theorem stop_at (j : Nat) : okC j 32 = false := by unfold okC letC digC; simp
theorem nrun_name {t : ByteArray} (q : List UInt8) (h : nrun t 0 = t.size) (hq : q = [] ∨ ∃ r, q = 32 :: r) : ∀ j, j ≤ t.size → nrun (bytes (t.data.toList ++ q)) j = t.size := by
  have hsz : (bytes (t.data.toList ++ q)).size = t.size + q.length := by rw [bytes_size]; simp
  intro j hj
  induction hm : t.size - j generalizing j with
  | zero =>
    have e : j = t.size := by omega
    subst e
    rcases hq with rfl | ⟨r, rfl⟩
    · exact nrun_end _ _ (by rw [hsz]; simp)
    · have hlt : t.size < (bytes (t.data.toList ++ 32 :: r)).size := by rw [hsz]; simp
      refine nrun_stop _ _ hlt ?_
      rw [bytes_getElem _ _ hlt (by simp), List.getElem_append_right (by simp)]
      simp only [Array.length_toList]
      have : (32 :: r)[t.size - t.data.size]'(by show t.size - t.size < _; simp) = 32 := by
        have e0 : t.size - t.data.size = 0 := Nat.sub_self _
        simp only [e0, List.getElem_cons_zero]
      rw [this]
      exact stop_at _
  | succ m ih =>
    have hlt : j < (bytes (t.data.toList ++ q)).size := by rw [hsz]; omega
    have hj2 : j < t.size := by omega
    have e : (bytes (t.data.toList ++ q))[j] = t[j] := by
      rw [bytes_getElem _ _ hlt (by simp; omega), List.getElem_append_left (by simpa using hj2)]
      rfl
    rw [nrun_go _ j hlt (by rw [e]; exact nrun_full 0 h j hj2 (Nat.zero_le _))]
    exact ih (j + 1) (by omega) (by omega)
theorem isName_parts {t : ByteArray} (h : isName t = true) : 0 < t.size ∧ t.size ≤ 12 ∧ nrun t 0 = t.size := by
  unfold isName at h
  simp only [Bool.and_eq_true, decide_eq_true_eq, beq_iff_eq] at h
  omega
theorem lead_name {t : ByteArray} (q : List UInt8) (h : isName t = true) (hq : q = [] ∨ ∃ r, q = 32 :: r) : leadP (bytes (t.data.toList ++ q)) = t := by
  have hp := isName_parts h
  have hn := nrun_name q hp.2.2 hq 0 (Nat.zero_le _)
  have he : (bytes (t.data.toList ++ q)).extract 0 t.size = t := by
    refine ba_eq ?_
    rw [ByteArray.data_extract]
    have : ((bytes (t.data.toList ++ q)).data.extract 0 t.size).toList = t.data.toList := by
      rw [Array.toList_extract]
      simp only [List.extract_eq_take_drop, bytes, List.drop_zero, Nat.sub_zero]
      rw [show t.size = t.data.toList.length by simp, List.take_left]
    exact Array.toList_inj.1 this
  unfold leadP
  rw [hn, he, if_pos h]
theorem okC_zero {c : Int} (h : letC c = false) : okC 0 c = false := by unfold okC; simp [h]
theorem lead_none {l : List UInt8} (h : l = [] ∨ ∃ c r, l = c :: r ∧ letC (c.toNat : Int) = false) : leadP (bytes l) = ByteArray.empty := by
  have hn : nrun (bytes l) 0 = 0 := by
    rcases h with rfl | ⟨c, r, rfl, hc⟩
    · exact nrun_end _ _ (by rw [bytes_size]; simp)
    · have hlt : 0 < (bytes (c :: r)).size := by rw [bytes_size]; simp
      refine nrun_stop _ _ hlt ?_
      rw [bytes_getElem _ 0 hlt (by simp)]
      exact okC_zero hc
  have hx : (bytes l).extract 0 0 = ByteArray.empty := ba_eq (by rw [ByteArray.data_extract]; simp [ByteArray.empty, ByteArray.emptyWithCapacity] <;> rfl)
  unfold leadP
  rw [hn, hx, if_neg]
  have : isName ByteArray.empty = false := isName_long (.inl (by decide))
  rw [this]; simp
theorem name_head {t : ByteArray} (h : isName t = true) : ∃ c r, t.data.toList = c :: r ∧ letC (c.toNat : Int) = true := by
  have hp := isName_parts h
  cases hl : t.data.toList with
  | nil =>
    have := congrArg List.length hl
    have e : t.data.toList.length = t.size := by simp
    simp only [List.length_nil] at this
    omega
  | cons c r =>
    refine ⟨c, r, rfl, ?_⟩
    have h0 := nrun_full 0 hp.2.2 0 hp.1 (Nat.le_refl _)
    have e : t[0] = c := by
      have : t.data.toList[0]'(by simpa using hp.1) = c := by simp only [hl, List.getElem_cons_zero]
      exact this
    rw [e] at h0
    unfold okC at h0
    simpa using h0
theorem letC_bd {c : Int} (h : letC c = true) : (97 ≤ c ∧ c ≤ 122) ∨ c = 95 := by
  unfold letC at h
  simpa using h
theorem behind_bytes (c : UInt8) (r : List UInt8) : behind (bytes (c :: r)) = bytes r := by
  unfold behind bytes
  simp
theorem pre_cons (c d : UInt8) (r : List UInt8) : Lib.hasPrefix (bytes (d :: r)).data.toList [c] = (c == d) := by
  show Lib.hasPrefix (d :: r).toArray.toList [c] = _
  rw [List.toList_toArray]
  unfold Lib.hasPrefix
  simp [List.isPrefixOf]
theorem take_bytes (l : List UInt8) (n : Nat) : (bytes l).extract 0 n = bytes (l.take n) := by
  refine ba_eq ?_
  rw [ByteArray.data_extract]
  have : ((bytes l).data.extract 0 n).toList = l.take n := by
    rw [Array.toList_extract]
    simp [bytes]
  exact Array.toList_inj.1 (by rw [this]; simp [bytes])
/-- The marks, as lists. -/
theorem mark_cases {t : ByteArray} (h : oneOf theMarks t = true) : ∃ m ∈ theMarks, t = m := by
  unfold oneOf at h
  rw [List.any_eq_true] at h
  obtain ⟨m, hm, he⟩ := h
  refine ⟨m, hm, ?_⟩
  rw [beq_iff_eq, Lib.toList_data, Lib.toList_data] at he
  exact ba_eq (Array.toList_inj.1 he.symm)
theorem oneOf_bytes (l : List UInt8) : oneOf theMarks (bytes l) = (theMarks.map (·.data.toList)).contains l := by
  unfold oneOf
  rw [List.contains_eq_any_beq, List.any_map]
  congr 1
  funext m
  show (m.toList == (bytes l).toList) = (l == m.data.toList)
  rw [Lib.toList_data, Lib.toList_data, Bool.eq_iff_iff, beq_iff_eq, beq_iff_eq]
  show m.data.toList = l.toArray.toList ↔ _
  rw [List.toList_toArray]
  exact eq_comm
end J
/-- What is read where a token's text stands with a blank or nothing behind it. -/
def SitsTok (s : ByteArray) (k : Nat) (t : Tk) : Prop := (∃ h : k < s.size, J.blank s[k] = false) ∧ TokAt s k ⟨t.kind, k, t.num, t.text⟩ (k + (J.tokT t).2.size) ∧ k + (J.tokT t).2.size ≤ s.size
theorem head_ok {s : ByteArray} {k : Nat} {c : UInt8} {r : List UInt8} (h : s.data.toList.drop k = c :: r) (hb : J.blank c = false) : ∃ h : k < s.size, J.blank s[k] = false := by
  obtain ⟨p1, p2, p3⟩ := J.drop_peek h
  refine ⟨p2, ?_⟩
  rw [J.peek_in s k p2] at p1
  rw [show s[k] = c from UInt8.toNat_inj.1 (by omega)]
  exact hb
theorem not_dig {s : ByteArray} {k : Nat} (c : Int) (hc : J.peek s k = c) (h : c < 48 ∨ 57 < c) : (decide (48 ≤ J.peek s k) && decide (J.peek s k ≤ 57)) = false := by
  rw [hc, Bool.and_eq_false_iff, decide_eq_false_iff_not, decide_eq_false_iff_not]
  omega
theorem blank_no {c : UInt8} (h : c.toNat ≠ 32 ∧ c.toNat ≠ 9 ∧ c.toNat ≠ 10 ∧ c.toNat ≠ 13) : J.blank c = false := by
  unfold J.blank
  simp [h]
theorem sits_le {s : ByteArray} {k : Nat} {l : List UInt8} (h : J.Sits s k l) : k + l.length ≤ s.size := by
  obtain ⟨q, h1, hk, hq⟩ := h
  have := J.drop_size hk h1
  rw [List.length_append] at this
  omega
theorem tok_1 {s : ByteArray} {k : Nat} {t : Tk} (hk : t.kind = 1) (hf : J.tokFits t.kind t.text = true) (h0 : 0 ≤ t.num) (h1 : t.num ≤ 1000000000000000) (ht : (J.tokT t).2 = ⟨(Lib.decDigits t.num.toNat).toArray⟩) (h : J.Sits s k (J.tokT t).2.data.toList) : SitsTok s k t := by
  obtain ⟨kd, at0, n, tx⟩ := t
  simp only at hk hf h0 h1
  subst hk
  have hl : (J.tokT ⟨1, at0, n, tx⟩).2.data.toList = Lib.decDigits n.toNat := by rw [ht]
  have hz : (J.tokT ⟨1, at0, n, tx⟩).2.size = (Lib.decDigits n.toNat).length := by rw [ht]; rfl
  rw [hl] at h
  unfold SitsTok
  rw [hz]
  have hw := J.whole_dec h (by omega)
  have hd := (J.num_dec h).2
  have hle := sits_le h
  rw [show ((n.toNat : Nat) : Int) = n from Int.toNat_of_nonneg h0] at hw
  have hx : tx = ⟨#[]⟩ := by
    unfold J.tokFits at hf
    rw [if_pos rfl, Lib.toList_data] at hf
    refine J.ba_eq (Array.toList_inj.1 ?_)
    simpa using hf
  subst hx
  obtain ⟨q, hq1, hq2, hq3⟩ := h
  refine ⟨?_, TokAt.num n _ hd hw, hle⟩
  cases he : Lib.decDigits n.toNat with
  | nil => exact absurd he (J.dec_ne _)
  | cons c r =>
    have hc := J.dec_dig n.toNat c (by rw [he]; simp)
    rw [he] at hq1
    exact head_ok hq1 (blank_no (by omega))
theorem tok_2 {s : ByteArray} {k : Nat} {t : Tk} (hk : t.kind = 2) (hf : J.tokFits t.kind t.text = true) (h0 : t.num = 0) (ht : (J.tokT t).2 = J.bytes (J.quote t.text)) (h : J.Sits s k (J.tokT t).2.data.toList) : SitsTok s k t := by
  obtain ⟨kd, at0, n, tx⟩ := t
  simp only at hk hf h0
  subst hk h0
  have hl : (J.tokT ⟨2, at0, 0, tx⟩).2.data.toList = J.quote tx := by rw [ht]; simp [J.bytes]
  have hz : (J.tokT ⟨2, at0, 0, tx⟩).2.size = (J.quote tx).length := by rw [ht, J.bytes_size]
  rw [hl] at h
  unfold SitsTok
  rw [hz]
  have hf2 : M.textOk tx = true := by unfold J.tokFits at hf; simpa using hf
  obtain ⟨hp, hR⟩ := J.quot_quote h hf2
  have hle := sits_le h
  obtain ⟨q, hq1, hq2, hq3⟩ := h
  have := TokAt.str (s := s) (k := k) _ _ hp hR
  rw [J.bytes_toList] at this
  refine ⟨?_, this, hle⟩
  unfold J.quote J.quoteK at hq1
  exact head_ok (c := 34) hq1 (by decide)
theorem tok_3 {s : ByteArray} {k : Nat} {t : Tk} (hk : t.kind = 3) (hf : J.tokFits t.kind t.text = true) (h0 : t.num = 0) (ht : (J.tokT t).2 = t.text) (h : J.Sits s k (J.tokT t).2.data.toList) : SitsTok s k t := by
  obtain ⟨kd, at0, n, tx⟩ := t
  simp only at hk hf h0 ht
  subst hk h0
  have hn : J.isName tx = true := by unfold J.tokFits at hf; simpa using hf
  unfold SitsTok
  rw [ht] at h ⊢
  have hle := sits_le h
  obtain ⟨q, hq1, hq2, hq3⟩ := h
  obtain ⟨c, r, hc1, hc2⟩ := J.name_head hn
  have hbd := J.letC_bd hc2
  have hd := hq1
  rw [hc1] at hd
  obtain ⟨p1, p2, p3⟩ := J.drop_peek hd
  have hL : J.leadP (s.extract k s.size) = tx := by rw [J.ext_rest hq1]; exact J.lead_name q hn hq3
  have := TokAt.name (s := s) (k := k) (not_dig _ p1 (by omega)) (by rw [p1]; omega) (by rw [hL]; have := (J.isName_parts hn).1; omega)
  rw [hL] at this
  exact ⟨head_ok hd (blank_no (by omega)), this, by simpa using hle⟩
theorem tok_4 {s : ByteArray} {k : Nat} {t : Tk} (hk : t.kind = 4) (hf : J.tokFits t.kind t.text = true) (h0 : t.num = 0) (ht : (J.tokT t).2 = ⟨#[46]⟩ ++ t.text) (h : J.Sits s k (J.tokT t).2.data.toList) : SitsTok s k t := by
  obtain ⟨kd, at0, n, tx⟩ := t
  simp only at hk hf h0 ht
  subst hk h0
  have hn : J.isName tx = true := by unfold J.tokFits at hf; simpa using hf
  unfold SitsTok
  have hl : (J.tokT ⟨4, at0, 0, tx⟩).2.data.toList = 46 :: tx.data.toList := by rw [ht, ByteArray.data_append]; simp
  have hz : (J.tokT ⟨4, at0, 0, tx⟩).2.size = 1 + tx.size := by rw [ht, ByteArray.size_append]; rfl
  rw [hz]
  rw [hl] at h
  have hle := sits_le h
  obtain ⟨q, hq1, hq2, hq3⟩ := h
  obtain ⟨p1, p2, p3⟩ := J.drop_peek hq1
  have hR : s.extract k s.size = J.bytes (46 :: (tx.data.toList ++ q)) := J.ext_rest hq1
  have h1 : J.leadP (s.extract k s.size) = ByteArray.empty := by rw [hR]; exact J.lead_none (.inr ⟨46, _, rfl, by decide⟩)
  have hL : J.leadP (J.behind (s.extract k s.size)) = tx := by rw [hR, J.behind_bytes]; exact J.lead_name q hn hq3
  have := TokAt.field (s := s) (k := k) (not_dig _ p1 (by decide)) (by rw [p1]; decide) h1 (by rw [hR, J.pre_cons]; rfl) (by rw [hL]; have := (J.isName_parts hn).1; omega)
  rw [hL] at this
  exact ⟨head_ok hq1 (by decide), this, by simp at hle; omega⟩
theorem tok_5 {s : ByteArray} {k : Nat} {t : Tk} (hk : t.kind = 5) (hf : J.tokFits t.kind t.text = true) (h0 : t.num = 0) (ht : (J.tokT t).2 = ⟨#[36]⟩ ++ t.text) (h : J.Sits s k (J.tokT t).2.data.toList) : SitsTok s k t := by
  obtain ⟨kd, at0, n, tx⟩ := t
  simp only at hk hf h0 ht
  subst hk h0
  have hn : J.isName tx = true := by unfold J.tokFits at hf; simpa using hf
  unfold SitsTok
  have hl : (J.tokT ⟨5, at0, 0, tx⟩).2.data.toList = 36 :: tx.data.toList := by rw [ht, ByteArray.data_append]; simp
  have hz : (J.tokT ⟨5, at0, 0, tx⟩).2.size = 1 + tx.size := by rw [ht, ByteArray.size_append]; rfl
  rw [hz]
  rw [hl] at h
  have hle := sits_le h
  obtain ⟨q, hq1, hq2, hq3⟩ := h
  obtain ⟨p1, p2, p3⟩ := J.drop_peek hq1
  have hR : s.extract k s.size = J.bytes (36 :: (tx.data.toList ++ q)) := J.ext_rest hq1
  have h1 : J.leadP (s.extract k s.size) = ByteArray.empty := by rw [hR]; exact J.lead_none (.inr ⟨36, _, rfl, by decide⟩)
  have hL : J.leadP (J.behind (s.extract k s.size)) = tx := by rw [hR, J.behind_bytes]; exact J.lead_name q hn hq3
  have := TokAt.var (s := s) (k := k) (not_dig _ p1 (by decide)) (by rw [p1]; decide) h1 (by rw [hR, J.pre_cons]; rfl) (by rw [hR, J.pre_cons]; rfl) (by rw [hL]; have := (J.isName_parts hn).1; omega)
  rw [hL] at this
  exact ⟨head_ok hq1 (by decide), this, by simp at hle; omega⟩
/-- What the marks are: of two bytes or of one; none begins as another token. -/
theorem marks_kinds : ∀ m ∈ theMarks, (∃ a b : UInt8, m.data.toList = [a, b] ∧ J.letC (a.toNat : Int) = false ∧ (a.toNat < 48 ∨ 57 < a.toNat) ∧ a.toNat ≠ 34 ∧ a ≠ 36 ∧ J.blank a = false ∧ (a = 46 → J.letC (b.toNat : Int) = false)) ∨
    (∃ a : UInt8, m.data.toList = [a] ∧ J.letC (a.toNat : Int) = false ∧ (a.toNat < 48 ∨ 57 < a.toNat) ∧ a.toNat ≠ 34 ∧ a ≠ 36 ∧ J.blank a = false ∧ (theMarks.map (·.data.toList)).contains [a, 32] = false) := by
  intro m hm
  simp only [theMarks, List.mem_cons, List.not_mem_nil, or_false] at hm
  rcases hm with rfl | rfl | rfl | rfl | rfl | rfl | rfl | rfl | rfl | rfl | rfl | rfl | rfl | rfl | rfl | rfl | rfl | rfl | rfl | rfl | rfl | rfl | rfl | rfl | rfl
  iterate 6 (exact .inl ⟨_, _, rfl, by decide, by decide, by decide, by decide, by decide, by decide⟩)
  all_goals (exact .inr ⟨_, rfl, by decide, by decide, by decide, by decide, by decide, by decide⟩)
theorem tok_6 {s : ByteArray} {k : Nat} {t : Tk} (hk : t.kind = 6) (hf : J.tokFits t.kind t.text = true) (h0 : t.num = 0) (ht : (J.tokT t).2 = t.text) (h : J.Sits s k (J.tokT t).2.data.toList) : SitsTok s k t := by
  obtain ⟨kd, at0, n, tx⟩ := t
  simp only at hk hf h0 ht
  subst hk h0
  have hn : oneOf theMarks tx = true := by unfold J.tokFits at hf; simpa using hf
  unfold SitsTok
  rw [ht] at h ⊢
  have hle := sits_le h
  obtain ⟨q, hq1, hq2, hq3⟩ := h
  obtain ⟨m, hm, rfl⟩ := J.mark_cases hn
  rcases marks_kinds tx hm with ⟨a, b, hl, c1, c2, c3, c4, c5, c6⟩ | ⟨a, hl, c1, c2, c3, c4, c5, c6⟩
  · have hsz : tx.size = 2 := by have := congrArg List.length hl; simpa using this
    rw [hl] at hq1 hle
    obtain ⟨p1, p2, p3⟩ := J.drop_peek hq1
    have hR : s.extract k s.size = J.bytes (a :: b :: q) := J.ext_rest hq1
    have h1 : J.leadP (s.extract k s.size) = ByteArray.empty := by rw [hR]; exact J.lead_none (.inr ⟨a, _, rfl, c1⟩)
    have hx : (s.extract k s.size).extract 0 2 = tx := by
      rw [hR, J.take_bytes, show (a :: b :: q).take 2 = tx.data.toList from hl.symm, J.bytes_toList]
    have h46 : Lib.hasPrefix (s.extract k s.size).data.toList [46] = false ∨ J.leadP (J.behind (s.extract k s.size)) = ByteArray.empty := by
      by_cases ha : a = 46
      · right
        rw [hR, J.behind_bytes]
        exact J.lead_none (.inr ⟨b, q, rfl, c6 ha⟩)
      · left
        rw [hR, J.pre_cons, beq_eq_false_iff_ne]
        exact fun e => ha e.symm
    have := TokAt.two (s := s) (k := k) (not_dig _ p1 (by omega)) (by rw [p1]; omega) h1 h46 (by rw [hR, J.pre_cons, beq_eq_false_iff_ne]; exact fun e => c4 e.symm) (by rw [hR, J.bytes_size]; simp) (by rw [hx]; exact hn)
    rw [hx] at this
    rw [hsz]
    exact ⟨head_ok hq1 c5, this, by simpa using hle⟩
  · have hsz : tx.size = 1 := by have := congrArg List.length hl; simpa using this
    rw [hl] at hq1 hle
    obtain ⟨p1, p2, p3⟩ := J.drop_peek hq1
    have hR : s.extract k s.size = J.bytes (a :: q) := J.ext_rest hq1
    have h1 : J.leadP (s.extract k s.size) = ByteArray.empty := by rw [hR]; exact J.lead_none (.inr ⟨a, _, rfl, c1⟩)
    have hx : (s.extract k s.size).extract 0 1 = tx := by
      rw [hR, J.take_bytes, show (a :: q).take 1 = tx.data.toList from hl.symm, J.bytes_toList]
    have hbe : J.leadP (J.behind (s.extract k s.size)) = ByteArray.empty := by
      rw [hR, J.behind_bytes]
      refine J.lead_none ?_
      rcases hq3 with rfl | ⟨r, rfl⟩
      · exact .inl rfl
      · exact .inr ⟨32, r, rfl, by decide⟩
    have hone : (s.extract k s.size).size = 1 ∨ (2 ≤ (s.extract k s.size).size ∧ oneOf theMarks ((s.extract k s.size).extract 0 2) = false) := by
      rw [hR, J.bytes_size]
      rcases hq3 with rfl | ⟨r, rfl⟩
      · exact .inl rfl
      · refine .inr ⟨by simp, ?_⟩
        rw [J.take_bytes, J.oneOf_bytes]
        exact c6
    have := TokAt.one (s := s) (k := k) (not_dig _ p1 (by omega)) (by rw [p1]; omega) h1 (.inr hbe) (by rw [hR, J.pre_cons, beq_eq_false_iff_ne]; exact fun e => c4 e.symm) hone (by rw [hx]; exact hn)
    rw [hx] at this
    rw [hsz]
    exact ⟨head_ok hq1 c5, this, by simpa using hle⟩
theorem tok_any {s : ByteArray} {k : Nat} {t : Tk} (hz : (J.tokT t).1 = 0) (h : J.Sits s k (J.tokT t).2.data.toList) : SitsTok s k t := by
  have hz2 : (J.tokOut t.kind t.num t.text).1 = 0 := hz
  by_cases hA : t.kind < 1 ∨ 6 < t.kind
  · rw [J.tokOut_kind _ _ hA] at hz2; cases hz2
  by_cases hf : J.tokFits t.kind t.text = false
  · rw [J.tokOut_form (by omega) (by omega) hf] at hz2; cases hz2
  have hf : J.tokFits t.kind t.text = true := by cases e : J.tokFits t.kind t.text with
    | true => rfl
    | false => exact absurd e hf
  by_cases h1 : t.kind = 1
  · by_cases hn : t.num < 0 ∨ 1000000000000000 < t.num
    · rw [h1] at hf hz2
      rw [J.tokOut_range hf hn] at hz2; cases hz2
    · refine tok_1 h1 hf (by omega) (by omega) ?_ h
      show (J.tokOut t.kind t.num t.text).2 = _
      have hf1 := hf
      rw [h1] at hf1 ⊢
      rw [J.tokOut_one hf1 (by omega) (by omega)]
  by_cases hn : t.num = 0
  · have e : (J.tokT t).2 = J.tokText t.kind 0 t.text := by
      show (J.tokOut t.kind t.num t.text).2 = _
      rw [hn, J.tokOut_ok (by omega) (by omega) hf]
    have hc : t.kind = 2 ∨ t.kind = 3 ∨ t.kind = 4 ∨ t.kind = 5 ∨ t.kind = 6 := by omega
    rcases hc with hc | hc | hc | hc | hc
    · exact tok_2 hc hf hn (by rw [e, hc]; rfl) h
    · exact tok_3 hc hf hn (by rw [e, hc]; rfl) h
    · exact tok_4 hc hf hn (by rw [e, hc]; rfl) h
    · exact tok_5 hc hf hn (by rw [e, hc]; rfl) h
    · exact tok_6 hc hf hn (by rw [e, hc]; rfl) h
  · rw [J.tokOut_num _ (by omega) (by omega) hn] at hz2; cases hz2
/-- The same token, whatever its place. -/
def Tk.Same (a b : Tk) : Prop := a.kind = b.kind ∧ a.num = b.num ∧ a.text = b.text
def SameL (a b : List Tk) : Prop := a.length = b.length ∧ ∀ i, i < a.length → Tk.Same (a.getD i Tk.zero) (b.getD i Tk.zero)
theorem SameL.nil : SameL [] [] := ⟨rfl, fun i h => absurd h (by simp)⟩
theorem SameL.cons {t u : Tk} {a b : List Tk} (h : Tk.Same t u) (hs : SameL a b) : SameL (t :: a) (u :: b) := by
  refine ⟨by simp [hs.1], fun i hi => ?_⟩
  cases i with
  | zero => exact h
  | succ i => exact hs.2 i (by simpa using hi)
theorem joinTail_cons (x : List UInt8) (r : List (List UInt8)) : Lib.joinTail [32] (x :: r) = 32 :: (x ++ Lib.joinTail [32] r) := by simp [Lib.joinTail]
theorem tail_head (r : List (List UInt8)) : Lib.joinTail [32] r = [] ∨ ∃ q, Lib.joinTail [32] r = 32 :: q := by
  cases r with
  | nil => exact .inl rfl
  | cons x r => exact .inr ⟨_, joinTail_cons x r⟩
theorem reads_tail (s : ByteArray) : ∀ (l : List Tk) (k : Nat), (∀ t ∈ l, (J.tokT t).1 = 0) → k ≤ s.size → s.data.toList.drop k = Lib.joinTail [32] (l.map fun t => (J.tokT t).2.data.toList) → ∃ ts, Reads s (J.skip s k) ts ∧ SameL ts l := by
  intro l
  induction l with
  | nil =>
    intro k _ hk hd
    have hz := J.drop_nil (by simpa [Lib.joinTail] using hd)
    rw [J.skip_end s k hz]
    exact ⟨[], Reads.nil k hz, SameL.nil⟩
  | cons t r ih =>
    intro k hall hk hd
    rw [List.map_cons, joinTail_cons] at hd
    obtain ⟨p1, p2, p3⟩ := J.drop_peek hd
    have hb : J.blank s[k] = true := by
      rw [J.peek_in s k p2] at p1
      rw [show s[k] = 32 from UInt8.toNat_inj.1 (by omega)]
      rfl
    obtain ⟨⟨hlt, hnb⟩, hT, hle⟩ := tok_any (hall t (by simp)) ⟨_, p3, by omega, tail_head _⟩
    rw [J.skip_go s k p2 hb, J.skip_stop s (k + 1) hlt hnb]
    have hnext := J.drop_more p3
    obtain ⟨ts, h1, h2⟩ := ih (k + 1 + (J.tokT t).2.size) (fun u hu => hall u (by simp [hu])) hle (by simpa using hnext)
    exact ⟨_, Reads.cons _ _ _ ts hlt hT hle h1, SameL.cons ⟨rfl, rfl, rfl⟩ h2⟩
theorem reads_join (l : List Tk) (s : ByteArray) (hall : ∀ t ∈ l, (J.tokT t).1 = 0) (hs : s.data.toList = Lib.join (l.map fun t => (J.tokT t).2.data.toList) [32]) : ∃ ts, Reads s (J.skip s 0) ts ∧ SameL ts l := by
  cases l with
  | nil =>
    have hz : s.size ≤ 0 := J.drop_nil (k := 0) (by rw [List.drop_zero, hs]; rfl)
    rw [J.skip_end s 0 hz]
    exact ⟨[], Reads.nil 0 hz, SameL.nil⟩
  | cons t r =>
    rw [List.map_cons, Lib.join_cons] at hs
    have hd : s.data.toList.drop 0 = (J.tokT t).2.data.toList ++ Lib.joinTail [32] (r.map fun t => (J.tokT t).2.data.toList) := hs
    obtain ⟨⟨hlt, hnb⟩, hT, hle⟩ := tok_any (hall t (by simp)) ⟨_, hd, by omega, tail_head _⟩
    rw [J.skip_stop s 0 hlt hnb]
    have hnext := J.drop_more hd
    obtain ⟨ts, h1, h2⟩ := reads_tail s r (0 + (J.tokT t).2.size) (fun u hu => hall u (by simp [hu])) hle (by simpa using hnext)
    exact ⟨_, Reads.cons _ _ _ ts hlt hT hle h1, SameL.cons ⟨rfl, rfl, rfl⟩ h2⟩
theorem badAt_all {l : List Tk} (h : J.badAt l = 0) : ∀ t ∈ l, (J.tokT t).1 = 0 := by
  induction l with
  | nil => intro t ht; cases ht
  | cons a r ih =>
    rw [J.badAt] at h
    split at h
    · rename_i ha
      intro t ht
      rcases List.mem_cons.1 ht with rfl | ht
      · exact ha
      · exact ih h t ht
    · rename_i ha; exact absurd h ha
/-- Joined tokens are read as the same tokens. -/
theorem reads_joinK {l : List Tk} (h : J.badAt l = 0) : ∃ ts, Reads (J.joinK l l.length) (J.skip (J.joinK l l.length) 0) ts ∧ SameL ts l := by
  refine reads_join l _ (badAt_all h) ?_
  rw [J.joinK_join, List.toList_toArray]
  congr 1
  unfold J.textsK
  rw [List.map_map]
  refine List.ext_getElem (by simp) fun i h1 h2 => ?_
  have hi : i < l.length := by simpa using h2
  simp [List.getElem?_eq_getElem hi]

end Go.Proofs.YtabpjknbdahddaaGreatDoor
