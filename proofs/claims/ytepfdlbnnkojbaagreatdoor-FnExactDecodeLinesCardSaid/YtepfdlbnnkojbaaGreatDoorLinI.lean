/-
  The lines of a text, plainly: cut at each line feed; what is behind the last one is a line where it is not empty. No word of the program is used here.
  spec.l2Lines: the lines of a text.
  impl.linesOf: the lines of a text.
-/
import Derived.Test.YtepfdlbnnkojbaaGreatDoorDecM
import Derived.Test.YtepfdlbnnkojbaaGreatDoorDecL
import Derived.Test.YtepfdlbnnkojbaaGreatDoorShelfS
import Derived.Lib.Split
import Derived.Lib.SplitLaws
namespace Go.Proofs.YtepfdlbnnkojbaaGreatDoor
open Go.RowKit
set_option linter.unusedVariables false

namespace J
/-- Cut at each line feed. -/
def rawL : List UInt8 → List (List UInt8)
  | [] => [[]]
  | c :: r => if c = 10 then [] :: rawL r else (c :: (rawL r).headD []) :: (rawL r).tail
theorem rawL_ne (l : List UInt8) : rawL l ≠ [] := by
  cases l with
  | nil => simp [rawL]
  | cons c r => rw [rawL]; split <;> simp
theorem rawL_eta (l : List UInt8) : rawL l = (rawL l).headD [] :: (rawL l).tail := by
  cases h : rawL l with
  | nil => exact absurd h (rawL_ne l)
  | cons a b => rfl
theorem rawL_feed (r : List UInt8) : rawL (10 :: r) = [] :: rawL r := by rw [rawL, if_pos rfl]
theorem rawL_other {c : UInt8} (h : c ≠ 10) (r : List UInt8) : rawL (c :: r) = (c :: (rawL r).headD []) :: (rawL r).tail := by rw [rawL, if_neg h]
theorem rawL_len (l : List UInt8) : ∀ x ∈ rawL l, x.length ≤ l.length := by
  induction l with
  | nil => intro x hx; simp [rawL] at hx; subst hx; simp
  | cons c r ih =>
    intro x hx
    by_cases h : c = 10
    · subst h
      rw [rawL_feed] at hx
      rcases List.mem_cons.1 hx with rfl | hx
      · simp
      · have := ih x hx; simp; omega
    · rw [rawL_other h] at hx
      rcases List.mem_cons.1 hx with rfl | hx
      · have := ih ((rawL r).headD []) (by rw [rawL_eta r]; simp)
        rw [List.length_cons, List.length_cons]; omega
      · have := ih x (by rw [rawL_eta r]; exact List.mem_cons_of_mem _ hx); simp; omega
/-- A stretch without a line feed, then one. -/
theorem rawL_run : ∀ (n : Nat) (l : List UInt8) (hn : n < l.length), (∀ j (hj : j < n), l[j] ≠ 10) → l[n] = 10 → rawL l = l.take n :: rawL (l.drop (n + 1)) := by
  intro n
  induction n with
  | zero =>
    intro l hn _ h
    cases l with
    | nil => simp at hn
    | cons c r =>
      simp only [List.getElem_cons_zero] at h
      subst h
      rw [rawL_feed]; simp
  | succ n ih =>
    intro l hn ha h
    cases l with
    | nil => simp at hn
    | cons c r =>
      have h0 := ha 0 (by omega)
      simp only [List.getElem_cons_zero] at h0
      have h1 := ih r (by simpa using hn) (fun j hj => by have := ha (j + 1) (by omega); simpa using this) (by simpa using h)
      rw [rawL_other h0, h1]
      simp
theorem rawL_all : ∀ (l : List UInt8), (∀ j (hj : j < l.length), l[j] ≠ 10) → rawL l = [l] := by
  intro l
  induction l with
  | nil => intro _; rfl
  | cons c r ih =>
    intro ha
    have h0 := ha 0 (by simp)
    simp only [List.getElem_cons_zero] at h0
    rw [rawL_other h0, ih (fun j hj => by have := ha (j + 1) (by simpa using hj); simpa using this)]
    simp
/-- The library's cut is the same. -/
theorem index_ten (b : UInt8) (l : List UInt8) : Lib.index (b :: l) [10] = if b = 10 then 0 else if Lib.index l [10] = -1 then -1 else Lib.index l [10] + 1 := by
  rw [Lib.index]
  by_cases h : b = 10
  · subst h; simp
  · have e : ([10] : List UInt8).isPrefixOf (b :: l) = false := by simp [List.isPrefixOf]; exact fun e => h e.symm
    rw [e, if_neg h]
    simp
theorem split_raw : ∀ (l : List UInt8), Lib.splitK [10] 0 (Lib.count l [10]) l = rawL l := by
  intro l
  induction l with
  | nil => rfl
  | cons b r ih =>
    have hi := index_ten b r
    by_cases h : b = 10
    · subst h
      rw [if_pos rfl] at hi
      have hc := Lib.count_hit (s := 10 :: r) (sub := [10]) (i := 0) (by simp) hi
      rw [hc, Nat.add_comm 1, Lib.splitK, hi, rawL_feed]
      simpa using ih
    · rw [if_neg h] at hi
      by_cases h1 : Lib.index r [10] = -1
      · rw [if_pos h1] at hi
        rw [Lib.count_miss h1, Lib.splitK] at ih
        rw [Lib.count_miss hi, Lib.splitK, rawL_other h, ← ih]
        rfl
      · rw [if_neg h1] at hi
        have hge := Lib.index_ge r [10]
        obtain ⟨i, hn⟩ : ∃ i : Nat, Lib.index r [10] = i := ⟨(Lib.index r [10]).toNat, by omega⟩
        have hi2 : Lib.index (b :: r) [10] = ((i + 1 : Nat) : Int) := by rw [hi, hn]; simp
        have c1 := Lib.count_hit (s := r) (sub := [10]) (by simp) hn
        have c2 := Lib.count_hit (s := b :: r) (sub := [10]) (by simp) hi2
        rw [c1, Nat.add_comm 1, Lib.splitK, hn] at ih
        rw [c2, Nat.add_comm 1, Lib.splitK, hi2, rawL_other h, ← ih]
        have e1 : ¬ (((i : Nat) : Int) == -1) = true := by simp
        have e2 : ¬ ((((i + 1 : Nat)) : Int) == -1) = true := by rw [beq_iff_eq]; omega
        rw [if_neg e1, if_neg e2]
        simp
/-- The lines. -/
def mkB (l : List UInt8) : ByteArray := ⟨l.toArray⟩
theorem mkB_data (s : ByteArray) : mkB s.data.toList = s := rfl
theorem map_mkB (ls : List ByteArray) : (ls.map fun x => x.data.toList).map mkB = ls := by
  rw [List.map_map]
  have : (mkB ∘ fun x : ByteArray => x.data.toList) = id := rfl
  rw [this, List.map_id]
def linesB (s : ByteArray) : List ByteArray := if (rawL s.data.toList).getLast? = some [] then (rawL s.data.toList).dropLast.map mkB else (rawL s.data.toList).map mkB
theorem lines_end {s : ByteArray} {ls : List ByteArray} (h : rawL s.data.toList = (ls.map fun x => x.data.toList) ++ [[]]) : linesB s = ls := by
  unfold linesB
  have e : (rawL s.data.toList).getLast? = some [] := by rw [h]; simp
  rw [if_pos e, h, List.dropLast_concat, map_mkB]
theorem lines_more {s : ByteArray} {ls : List ByteArray} {t : ByteArray} (h : rawL s.data.toList = ((ls ++ [t]).map fun x => x.data.toList)) (ht : t.size ≠ 0) : linesB s = ls ++ [t] := by
  unfold linesB
  have e : ¬ (rawL s.data.toList).getLast? = some [] := by
    rw [h]
    simp only [List.map_append, List.map_cons, List.map_nil, List.getLast?_concat, Option.some.injEq]
    intro e
    apply ht
    have : t.data.toList.length = 0 := by rw [e]; rfl
    rw [Array.length_toList] at this
    exact this
  rw [if_neg e, h, map_mkB]
theorem lines_small (s : ByteArray) : ∀ t ∈ linesB s, t.size ≤ s.size := by
  intro t ht
  have h : ∃ x ∈ rawL s.data.toList, mkB x = t := by
    unfold linesB at ht
    split at ht
    · obtain ⟨x, hx, rfl⟩ := List.mem_map.1 ht
      exact ⟨x, (List.dropLast_sublist _).subset hx, rfl⟩
    · obtain ⟨x, hx, rfl⟩ := List.mem_map.1 ht
      exact ⟨x, hx, rfl⟩
  obtain ⟨x, hx, rfl⟩ := h
  have h1 := rawL_len _ x hx
  have h2 : (mkB x).size = x.length := by simp [mkB, ByteArray.size]
  have h3 : s.data.toList.length = s.size := by rw [Array.length_toList]; rfl
  omega
/-- What DecodeLines tells from a line on. -/
def linesR : List ByteArray → Nat → List (List M.Cl) → Int × Int × List (List M.Cl)
  | [], _, acc => (0, 0, acc)
  | t :: r, i, acc => if (decOut t).1 ≠ 0 then ((decOut t).1, i, []) else linesR r (i + 1) (acc ++ [(decOut t).2.2])
def linesOut (s : ByteArray) : Int × Int × List (List M.Cl) := if 4000 < s.size ∨ 200 < (linesB s).length then (2, 0, []) else linesR (linesB s) 0 []
theorem linesR_bad {ls : List ByteArray} {i : Nat} {acc : List (List M.Cl)} (hi : i < ls.length) (h : (decOut (ls.getD i ByteArray.empty)).1 ≠ 0) : linesR (ls.drop i) i acc = ((decOut (ls.getD i ByteArray.empty)).1, (i : Int), []) := by
  have e : ls.getD i ByteArray.empty = ls[i] := by rw [List.getD_eq_getElem?_getD, List.getElem?_eq_getElem hi]; rfl
  rw [List.drop_eq_getElem_cons hi, linesR, ← e, if_pos h]
theorem linesR_ok {ls : List ByteArray} {i : Nat} {acc : List (List M.Cl)} (hi : i < ls.length) (h : (decOut (ls.getD i ByteArray.empty)).1 = 0) : linesR (ls.drop i) i acc = linesR (ls.drop (i + 1)) (i + 1) (acc ++ [(decOut (ls.getD i ByteArray.empty)).2.2]) := by
  have e : ls.getD i ByteArray.empty = ls[i] := by rw [List.getD_eq_getElem?_getD, List.getElem?_eq_getElem hi]; rfl
  rw [List.drop_eq_getElem_cons hi, linesR, ← e, if_neg (fun h2 => h2 h)]
theorem linesR_end {ls : List ByteArray} {i : Nat} {acc : List (List M.Cl)} (hi : ls.length ≤ i) : linesR (ls.drop i) i acc = (0, 0, acc) := by
  rw [List.drop_of_length_le hi]; rfl
/-- A value that was told has cells, and not too many. -/
theorem decOut_ok {s : ByteArray} (h : (decOut s).1 = 0) : 1 ≤ (decOut s).2.2.length ∧ (decOut s).2.2.length ≤ 200 := by
  unfold decOut at h ⊢
  by_cases h1 : 4000 < s.size
  · rw [if_pos h1] at h; simp at h
  · rw [if_neg h1] at h ⊢
    have hf := oneR_fit s 21 0 (skip s 0) (skip_le s 0 (Nat.zero_le _))
    cases hr : oneR 21 0 s (skip s 0) with
    | inl p => rw [hr] at h hf; exact absurd h hf.1
    | inr p =>
      obtain ⟨v, e⟩ := p
      rw [hr] at h hf
      simp only at h ⊢
      by_cases h2 : skip s e < s.size
      · rw [if_pos h2] at h; simp at h
      · rw [if_neg h2] at h ⊢
        by_cases h3 : 200 < v.length
        · rw [if_pos h3] at h; simp at h
        · rw [if_neg h3]
          exact ⟨hf.2.2.1, by simp only; omega⟩
theorem linesR_len (ls : List ByteArray) : ∀ i acc, (linesR ls i acc).2.2.length ≤ acc.length + ls.length := by
  induction ls with
  | nil => intro i acc; simp [linesR]
  | cons t r ih =>
    intro i acc
    rw [linesR]
    split
    · simp
    · have := ih (i + 1) (acc ++ [(decOut t).2.2]); simp at this ⊢; omega
theorem linesR_parts (ls : List ByteArray) : ∀ i acc, (∀ p ∈ acc, 1 ≤ p.length ∧ p.length ≤ 200) → ∀ p ∈ (linesR ls i acc).2.2, 1 ≤ p.length ∧ p.length ≤ 200 := by
  induction ls with
  | nil => intro i acc h; exact h
  | cons t r ih =>
    intro i acc h
    rw [linesR]
    by_cases hc : (decOut t).1 ≠ 0
    · rw [if_pos hc]; intro p hp; simp at hp
    · rw [if_neg hc]
      refine ih _ _ (fun p hp => ?_)
      rcases List.mem_append.1 hp with hp | hp
      · exact h p hp
      · rw [List.mem_singleton] at hp; subst hp; exact decOut_ok (by simpa using hc)
theorem linesOut_small (s : ByteArray) : (linesOut s).2.2.length ≤ 200 ∧ ∀ p ∈ (linesOut s).2.2, 1 ≤ p.length ∧ p.length ≤ 200 := by
  unfold linesOut
  by_cases h : 4000 < s.size ∨ 200 < (linesB s).length
  · rw [if_pos h]; exact ⟨by simp, fun p hp => by simp at hp⟩
  · rw [if_neg h]
    have h1 := linesR_len (linesB s) 0 []
    refine ⟨?_, linesR_parts _ _ _ (fun p hp => by simp at hp)⟩
    simp at h1
    have : ¬ 200 < (linesB s).length := fun e => h (.inr e)
    omega
end J
end Go.Proofs.YtepfdlbnnkojbaaGreatDoor

namespace Go.Proofs.YtepfdlbnnkojbaaGreatDoor
open Go.RowKit
set_option linter.unusedVariables false
set_option linter.unusedSimpArgs false


/-- What the model's loop over a text holds: its lines so far, where the next one begins. -/
structure Ln (s : ByteArray) (w wr : World) (f i : Nat) (so : Value) (ls : List ByteArray) : Prop where
  raw : J.rawL s.data.toList = (ls.map fun x => x.data.toList) ++ J.rawL (s.data.toList.drop f)
  fi : f ≤ i
  le : i ≤ s.size
  len : ls.length ≤ f
  none : ∀ j (hj : j < s.size), f ≤ j → j < i → s[j] ≠ 10
  keys : KS wr w.heap.size so ls
  bel : Below w.heap.size w wr
theorem size_list (s : ByteArray) : s.data.toList.length = s.size := by rw [Array.length_toList]; rfl
theorem Ln.other {s : ByteArray} {w wr : World} {f i : Nat} {so : Value} {ls : List ByteArray} (h : Ln s w wr f i so ls) (hi : i < s.size) (hc : s[i] ≠ 10) : Ln s w wr f (i + 1) so ls :=
  ⟨h.raw, Nat.le_succ_of_le h.fi, hi, h.len, fun j hj h1 h2 => by
    by_cases e : j < i
    · exact h.none j hj h1 e
    · obtain rfl : j = i := by omega
      exact hc, h.keys, h.bel⟩
theorem Ln.feed {s : ByteArray} {w wr w3 : World} {f i : Nat} {so so' : Value} {ls : List ByteArray} (h : Ln s w wr f i so ls) (hi : i < s.size) (hc : s[i] = 10) (hk : KS w3 w.heap.size so' (ls ++ [s.extract f i])) (hb : Below w.heap.size w w3) : Ln s w w3 (i + 1) (i + 1) so' (ls ++ [s.extract f i]) := by
  have hfi := h.fi
  have hl := size_list s
  have hlen : (s.data.toList.drop f).length = s.size - f := by rw [List.length_drop, hl]
  have hr := J.rawL_run (i - f) (s.data.toList.drop f) (by rw [hlen]; omega) (fun j hj => by
      rw [List.getElem_drop]
      exact h.none (f + j) (by omega) (by omega) (by omega)) (by
      rw [List.getElem_drop]
      have e : f + (i - f) = i := by omega
      simp only [e]
      exact hc)
  refine ⟨?_, Nat.le_refl _, hi, ?_, fun j hj h1 h2 => by omega, hk, hb⟩
  · rw [h.raw, hr, List.map_append, List.append_assoc, List.drop_drop]
    have e : f + (i - f + 1) = i + 1 := by omega
    rw [e, List.map_cons, List.map_nil, Lib.extract_data]
    rfl
  · have := h.len; simp; omega
theorem Ln.none_left {s : ByteArray} {w wr : World} {f i : Nat} {so : Value} {ls : List ByteArray} (h : Ln s w wr f i so ls) (hi : s.size ≤ i) (hf : ¬ f < s.size) : J.linesB s = ls := by
  have hl := size_list s
  refine J.lines_end ?_
  rw [h.raw, List.drop_of_length_le (by omega)]
  rfl
theorem Ln.more {s : ByteArray} {w wr : World} {f i : Nat} {so : Value} {ls : List ByteArray} (h : Ln s w wr f i so ls) (hi : s.size ≤ i) (hf : f < s.size) : J.linesB s = ls ++ [s.extract f s.size] := by
  have hl := size_list s
  have hle := h.le
  refine J.lines_more ?_ ?_
  · rw [h.raw, J.rawL_all (s.data.toList.drop f) (fun j hj => by
      rw [List.length_drop, hl] at hj
      rw [List.getElem_drop]
      exact h.none (f + j) (by omega) (by omega) (by omega)), List.map_append, List.map_cons, List.map_nil, Lib.extract_to_end]
  · have e : (s.extract f s.size).size = s.size - f := by simp [ByteArray.size_extract]
    omega

set_option maxRecDepth 100000 in
set_option maxHeartbeats 4000000 in
theorem l2Lines_any (s : ByteArray) (w : World) (hs : s.size ≤ 1048576) :
    Calls Tryz.prog 22 #[.string s] w fun e w' => ∃ v, e = .returned v ∧ KS w' w.heap.size v (J.linesB s) ∧ Below w.heap.size w w' := by
  obtain ⟨t0, ht0, hy0, hy1, hy2⟩ := info_parts Tryz.info9
  have H0 := hide (show Ln s w (w.alloc (.cells #[] 9)) 0 0 (.slice (some ⟨w.heap.size, 0, none⟩) 0 0) [] from ⟨by simp, Nat.le_refl _, Nat.zero_le _, Nat.le_refl _, fun j _ _ h => by omega, Dc.ks_empty _ _ _ rfl (Nat.le_refl _), (Below.refl _ _).alloc (Nat.le_refl _) _⟩)
  go_enter Tryz.func22, Tryz.ntmps22
  go_wp2_with fail
  go_loopg [3, 4, 5] (s.size + 1) (fun gh s3 s4 s5 wr => ∃ (f i : Nat) (ls : List ByteArray), Hid (gh = s.size + 1 - i) ∧ s4 = .int .i64 f ∧ s5 = .int .i64 i ∧ Hid (Ln s w wr f i s3 ls))
  case atStart => exact ⟨0, 0, [], rfl, rfl, rfl, unhide H0⟩
  case round =>
    obtain ⟨f, i, ls, hg, rfl, rfl, HL⟩ := hrel
    have hfi := (unhide HL).fi
    have hle := (unhide HL).le
    have hll := (unhide HL).len
    have hsz := (unhide HL).bel.size
    clear H0
    by_cases hlt : i < s.size
    · have hltz : (i : Int) < (s.size : Int) := by omega
      by_cases hc : s[i] = 10
      · have hcb : ((s[i].toNat : Int) == 10) = true := by rw [hc]; rfl
        have hfz : (f : Int) ≤ (i : Int) := by omega
        have hiz : (i : Int) ≤ (s.size : Int) := by omega
        have hf0 : (0 : Int) ≤ (f : Int) := by omega
        have HN := hide (fun (W : World) v' o (hg : (wr.alloc o).grownBy W u3.ownBlock) ho hb => (unhide HL).feed (w3 := W) (so' := v') hlt hc (show KS W w.heap.size v' (ls ++ [s.extract f i]) by unfold KS; simpa using ho) hb)
        have hkown := hide (fun o => World.ownsRow.alloc (unhide HL).keys o)
        have hkbse := hide (ownsRow_base (unhide HL).keys)
        have hkone := hide (one_val wr (.string (s.extract f i)) 9)
        have hkonep := hide (Dc.one_str (s.extract f i))
        have hk63 : ls.length + 1 ≤ maxLen := by unfold maxLen; omega
        have hkby : (ls.length + 1) * 16 ≤ 140737488355328 := by omega
        have hbel := (unhide HL).bel
        clear hc HL
        go_wp2_with (at_builtin; refine wpList_append_own _ rfl (.tmp 17) (.tmp 22) 55 rfl w.heap.size 9 t0 (.string ByteArray.empty) 1 16 Tryz.underlying55 ht0 hy0 hy1 hy2 rfl (by decide) _ ls.length _ rfl ((unhide hkown) _) ⟨wr.heap.size, 0, none⟩ 1 1 [.string (s.extract f i)] rfl rfl (unhide hkone) (unhide hkonep) hk63 hkby (by simp; omega) ?_)
        intro v3 w3 ho3 hg3 _
        have B3 : Below w.heap.size w w3 := (hbel.alloc hbel.size _).grown hg3 (by simp; omega) (unhide hkbse)
        have H3 := hide ((unhide HN) w3 v3 _ hg3 ho3 B3)
        clear ho3 hg3 HN hkown hkone hkonep hkbse
        go_wp2_with fail
        go_roundg (s.size + 1 - (i + 1))
        case rel => exact ⟨i + 1, i + 1, _, rfl, by go_num, by go_num, unhide H3⟩
        case measure => have := hg.out; omega
      · have hcb : ((s[i].toNat : Int) == 10) = false := by
          rw [beq_eq_false_iff_ne]
          intro e
          exact hc (UInt8.toNat_inj.1 (by have e2 : s[i].toNat = 10 := by omega
                                          rw [e2]; rfl))
        have H3 := hide ((unhide HL).other hlt hc)
        clear hc HL
        go_wp2_with fail
        go_roundg (s.size + 1 - (i + 1))
        case rel => exact ⟨f, i + 1, ls, rfl, rfl, by go_num, unhide H3⟩
        case measure => have := hg.out; omega
    · have hltz : ¬ (i : Int) < (s.size : Int) := by omega
      have hbel := (unhide HL).bel
      by_cases hf : f < s.size
      · have hfz : (f : Int) < (s.size : Int) := by omega
        have hfz2 : (f : Int) ≤ (s.size : Int) := by omega
        have hf0 : (0 : Int) ≤ (f : Int) := by omega
        have fin := hide ((unhide HL).more (by omega) hf)
        have hkown := hide (fun o => World.ownsRow.alloc (unhide HL).keys o)
        have hkbse := hide (ownsRow_base (unhide HL).keys)
        have hkone := hide (one_val wr (.string (s.extract f s.size)) 9)
        have hkonep := hide (Dc.one_str (s.extract f s.size))
        have hk63 : ls.length + 1 ≤ maxLen := by unfold maxLen; omega
        have hkby : (ls.length + 1) * 16 ≤ 140737488355328 := by omega
        clear HL hlt hf
        go_wp2_with (at_builtin; refine wpList_append_own _ rfl (.tmp 30) (.tmp 34) 55 rfl w.heap.size 9 t0 (.string ByteArray.empty) 1 16 Tryz.underlying55 ht0 hy0 hy1 hy2 rfl (by decide) _ ls.length _ rfl ((unhide hkown) _) ⟨wr.heap.size, 0, none⟩ 1 1 [.string (s.extract f s.size)] rfl rfl (unhide hkone) (unhide hkonep) hk63 hkby (by simp; omega) ?_)
        intro v3 w3 ho3 hg3 _
        have B3 : Below w.heap.size w w3 := (hbel.alloc hbel.size _).grown hg3 (by simp; omega) (unhide hkbse)
        have H3 := hide (show KS w3 w.heap.size v3 (J.linesB s) by rw [unhide fin]; unfold KS; simpa using ho3)
        clear ho3 hg3 hkown hkone hkonep hkbse
        go_wp2_with fail
        go_ret
        exact ⟨_, rfl, unhide H3, B3⟩
      · have hfz : ¬ (f : Int) < (s.size : Int) := by omega
        have fin := hide ((unhide HL).none_left (by omega) hf)
        have H3 := hide (show KS wr w.heap.size u3 (J.linesB s) by rw [unhide fin]; exact (unhide HL).keys)
        clear HL hlt hf
        go_wp2_with fail
        go_ret
        exact ⟨_, rfl, unhide H3, hbel⟩

end Go.Proofs.YtepfdlbnnkojbaaGreatDoor

namespace Go.Proofs.YtepfdlbnnkojbaaGreatDoor
open Go.RowKit
set_option linter.unusedVariables false
set_option linter.unusedSimpArgs false


/-- The library's cut, plainly. -/
def J.cutB (s : ByteArray) : List ByteArray := Lib.splitB ⟨#[10]⟩ 0 (Lib.countB s ⟨#[10]⟩) s
theorem J.cutB_raw (s : ByteArray) : (J.cutB s).map (fun x => x.data.toList) = J.rawL s.data.toList := (Lib.splitB_data ⟨#[10]⟩ 0 _ s).trans (J.split_raw s.data.toList)
theorem J.cutB_len (s : ByteArray) : (J.cutB s).length = Lib.countB s ⟨#[10]⟩ + 1 := Lib.splitB_all ⟨#[10]⟩ (by decide) 0 _ s rfl
theorem J.cutB_parts (s : ByteArray) (n : Nat) (hn : (J.cutB s).length = n + 1) : ∃ (ls : List ByteArray) (t : ByteArray), J.cutB s = ls ++ [t] ∧ ls.length = n ∧ (t.size = 0 → J.linesB s = ls) ∧ (t.size ≠ 0 → J.linesB s = ls ++ [t]) := by
  have hne : J.cutB s ≠ [] := by intro e; rw [e] at hn; simp at hn
  refine ⟨(J.cutB s).dropLast, (J.cutB s).getLast hne, (List.dropLast_concat_getLast hne).symm, by rw [List.length_dropLast]; omega, fun h => ?_, fun h => ?_⟩
  · refine J.lines_end ?_
    rw [← J.cutB_raw s]
    conv => lhs; rw [← List.dropLast_concat_getLast hne]
    rw [List.map_append, List.map_cons, List.map_nil]
    have e : ((J.cutB s).getLast hne).data.toList = [] := List.length_eq_zero_iff.1 (by rw [size_list]; exact h)
    rw [e]
  · refine J.lines_more ?_ h
    rw [List.dropLast_concat_getLast hne]
    exact (J.cutB_raw s).symm
theorem cut_le (s : ByteArray) : Lib.countB s ⟨#[10]⟩ ≤ s.size := Lib.countB_le ⟨#[10]⟩ (by decide) s.size s (Nat.le_refl _)

set_option maxRecDepth 100000 in
set_option maxHeartbeats 4000000 in
theorem linesOf_any (s : ByteArray) (w : World) (hs : s.size ≤ 1048576) (m : Int) (hm : w.cell? ⟨1, 0, none⟩ = some (.int .i64 m)) :
    Calls Tryz.prog 23 #[.string s] w fun e w' => ∃ a c, e = .returned (.slice a (J.linesB s).length c) ∧ (J.linesB s).length ≤ c ∧ TV w' a (J.linesB s) ∧ Below w.heap.size w w' := by
  have HC := hide (Tryz.strings_Split s ⟨#[10]⟩ m w (by omega) hm (by decide))
  obtain ⟨n, hn⟩ : ∃ n, n = Lib.countB s ⟨#[10]⟩ := ⟨_, rfl⟩
  have hle := cut_le s
  have hcl := J.cutB_len s
  rw [← hn] at HC hle hcl
  obtain ⟨ls, t, hcut, hlsn, hl0, hl1⟩ := J.cutB_parts s n hcl
  have HCUT := hide (show Lib.splitB ⟨#[10]⟩ 0 n s = ls ++ [t] by rw [hn]; exact hcut)
  have HLN := hide hlsn
  clear hm hcut hcl hn hlsn
  go_enter Tryz.func23, Tryz.ntmps23
  go_wp2_with fail
  refine (unhide HC).mono ?_
  rintro e w1 ⟨rfl, hw1⟩
  rw [unhide HCUT] at hw1
  have B1 : Below w.heap.size w w1 := by rw [hw1]; exact (Below.refl _ _).alloc (Nat.le_refl _) _
  have O1 : Own w1 w.heap.size 9 ((ls ++ [t]).map Value.string) := by rw [hw1]; exact ⟨_, heap_alloc_new _ _, by simp⟩
  have hcell : ∀ i, i < (ls ++ [t]).length → w1.cell? ⟨w.heap.size, i, none⟩ = some (.string ((ls ++ [t]).getD i ByteArray.empty)) := fun i hi => by
    rw [O1.cell i, List.getElem?_map, List.getElem?_eq_getElem hi, List.getD_eq_getElem?_getD, List.getElem?_eq_getElem hi]; rfl
  have hlt1 := O1.lt
  have ct := hcell n (by simp; have := unhide HLN; omega)
  have et : (ls ++ [t]).getD n ByteArray.empty = t := by
    have := unhide HLN
    rw [List.getD_eq_getElem?_getD, List.getElem?_append_right (by omega), this]; simp
  rw [et] at ct
  have HT := hide (show TV w1 (some ⟨w.heap.size, 0, none⟩) (ls ++ [t]) from fun i hi => ⟨w.heap.size, rfl, hlt1, hcell i hi⟩)
  clear hw1 O1 hcell HC et
  have hnz : (0 : Int) ≤ (n : Int) := by omega
  have hn1 : (n : Int) < (n : Int) + 1 := by omega
  have hn2 : (n : Int) ≤ (n : Int) + 1 := by omega
  by_cases h0 : t.size = 0
  · have fin := hide (hl0 h0)
    have tl : t.toList = [] := by rw [Lib.toList_data]; exact List.length_eq_zero_iff.1 (by rw [size_list]; exact h0)
    have te : (t.toList == []) = true := by rw [tl]; rfl
    have HT2 := hide (show TV w1 (some ⟨w.heap.size, 0, none⟩) ls from fun i hi => by
      obtain ⟨g, q1, q2, q3⟩ := (unhide HT) i (by simp; omega)
      refine ⟨g, q1, q2, ?_⟩
      rw [q3, List.getD_eq_getElem?_getD, List.getElem?_append_left hi, ← List.getD_eq_getElem?_getD])
    clear HT h0 hl0 hl1
    go_wp2_with fail
    go_ret
    exact ⟨some ⟨w.heap.size, 0, none⟩, n + 1, by rw [unhide fin, unhide HLN]; rfl, by rw [unhide fin, unhide HLN]; omega, by rw [unhide fin]; exact unhide HT2, B1⟩
  · have fin := hide (hl1 h0)
    have tl : t.toList ≠ [] := by rw [Lib.toList_data]; intro e; apply h0; rw [← size_list, e]; rfl
    have te : (t.toList == []) = false := by rw [beq_eq_false_iff_ne]; exact tl
    clear h0 hl0 hl1
    go_wp2_with fail
    go_ret
    exact ⟨some ⟨w.heap.size, 0, none⟩, n + 1, by rw [unhide fin, List.length_append, unhide HLN]; rfl, by rw [unhide fin, List.length_append, unhide HLN]; simp, by rw [unhide fin]; exact unhide HT, B1⟩

end Go.Proofs.YtepfdlbnnkojbaaGreatDoor
