/-
  impl.sortedOnce: names sorted, each once (mk_mgo.py).
-/
import Derived.Test.YtlmibdddfjbbdaaM17
import Derived.Deep.CutRange
import Derived.Lib.OwnBridge
import Derived.Lib.SlicesCompact
import Derived.Sort.Grow
import Derived.Sort.OwnSorted
import Derived.Test.YtlmibdddfjbbdaaShelfV
namespace Go.Proofs.Ytlmibdddfjbbdaa
open Go.RowKit
set_option linter.unusedVariables false
set_option linter.unusedSimpArgs false
namespace Tr
theorem bl_irr : ∀ x : List UInt8, Op.bytesLess x x = false
  | [] => by simp [Op.bytesLess]
  | a :: x => by simp [Op.bytesLess, bl_irr x]
theorem bl_trans : ∀ x y z : List UInt8, Op.bytesLess x y = true → Op.bytesLess y z = true → Op.bytesLess x z = true
  | [], [], z, h, _ => by simp [Op.bytesLess] at h
  | [], b :: y, [], _, h => by simp [Op.bytesLess] at h
  | [], b :: y, c :: z, _, _ => by simp [Op.bytesLess]
  | a :: x, [], z, h, _ => by simp [Op.bytesLess] at h
  | a :: x, b :: y, [], _, h => by simp [Op.bytesLess] at h
  | a :: x, b :: y, c :: z, h1, h2 => by
    simp only [Op.bytesLess, Bool.or_eq_true, Bool.and_eq_true, decide_eq_true_eq, beq_iff_eq] at h1 h2 ⊢
    rcases h1 with h1 | ⟨rfl, h1⟩
    · rcases h2 with h2 | ⟨rfl, h2⟩
      · exact .inl (UInt8.lt_trans h1 h2)
      · exact .inl h1
    · rcases h2 with h2 | ⟨rfl, h2⟩
      · exact .inl h2
      · exact .inr ⟨rfl, bl_trans x y z h1 h2⟩
theorem bl_tri : ∀ x y : List UInt8, Op.bytesLess x y = true ∨ x = y ∨ Op.bytesLess y x = true
  | [], [] => .inr (.inl rfl)
  | [], b :: y => .inl (by simp [Op.bytesLess])
  | a :: x, [] => .inr (.inr (by simp [Op.bytesLess]))
  | a :: x, b :: y => by
    simp only [Op.bytesLess, Bool.or_eq_true, Bool.and_eq_true, decide_eq_true_eq, beq_iff_eq]
    have hl : a.toNat < b.toNat ∨ a.toNat = b.toNat ∨ b.toNat < a.toNat := by omega
    rcases hl with h | h | h
    · exact .inl (.inl h)
    · have : a = b := UInt8.toNat_inj.1 h
      subst this
      rcases bl_tri x y with h | h | h
      · exact .inl (.inr ⟨rfl, h⟩)
      · exact .inr (.inl (by rw [h]))
      · exact .inr (.inr (.inr ⟨rfl, h⟩))
    · exact .inr (.inr (.inl h))
def less (a b : ByteArray) : Bool := Op.bytesLess a.toList b.toList
theorem less_irr (a : ByteArray) : less a a = false := bl_irr _
theorem less_trans {a b c : ByteArray} (h1 : less a b = true) (h2 : less b c = true) : less a c = true := bl_trans _ _ _ h1 h2
theorem bytes_ext {a b : ByteArray} (h : a.toList = b.toList) : a = b := by
  rw [ByteArray.toList_eq, ByteArray.toList_eq] at h
  obtain ⟨⟨x⟩⟩ := a
  obtain ⟨⟨y⟩⟩ := b
  simp only at h
  subst h
  rfl
theorem less_tri (a b : ByteArray) : less a b = true ∨ a = b ∨ less b a = true := by
  rcases bl_tri a.toList b.toList with h | h | h
  · exact .inl h
  · exact .inr (.inl (bytes_ext h))
  · exact .inr (.inr h)
theorem less_asymm {a b : ByteArray} (h : less a b = true) : less b a = false := by
  cases hb : less b a with
  | false => rfl
  | true => have := less_trans h hb; rw [less_irr] at this; exact absurd this (by decide)
/-- Each stands ahead of all that follow. -/
def Rising (L : List ByteArray) : Prop := L.Pairwise fun a b => less a b = true
/-- Rising lists of the same names are the same. -/
theorem rising_one {L M : List ByteArray} (hL : Rising L) (hM : Rising M) (h : ∀ x, x ∈ L ↔ x ∈ M) : L = M := by
  induction L generalizing M with
  | nil =>
    cases M with
    | nil => rfl
    | cons y s => exact absurd ((h y).2 List.mem_cons_self) (by simp)
  | cons x r ih =>
    cases M with
    | nil => exact absurd ((h x).1 List.mem_cons_self) (by simp)
    | cons y s =>
      unfold Rising at hL hM
      rw [List.pairwise_cons] at hL hM
      have exy : x = y := by
        rcases List.mem_cons.1 ((h x).1 List.mem_cons_self) with e | e
        · exact e
        · rcases List.mem_cons.1 ((h y).2 List.mem_cons_self) with e2 | e2
          · exact e2.symm
          · have h1 := hM.1 x e
            have h2 := hL.1 y e2
            rw [less_asymm h1] at h2
            exact absurd h2 (by decide)
      subst exy
      congr 1
      refine ih hL.2 hM.2 fun z => ?_
      constructor
      · intro hz
        rcases List.mem_cons.1 ((h z).1 (List.mem_cons_of_mem _ hz)) with e | e
        · subst e; have := hL.1 z hz; rw [less_irr] at this; exact absurd this (by decide)
        · exact e
      · intro hz
        rcases List.mem_cons.1 ((h z).2 (List.mem_cons_of_mem _ hz)) with e | e
        · subst e; have := hM.1 z hz; rw [less_irr] at this; exact absurd this (by decide)
        · exact e
theorem bl_eq : ∀ (x y : List UInt8), Op.bytesLess x y = decide (x < y)
  | [], [] => by simp [Op.bytesLess]
  | _ :: _, [] => by simp [Op.bytesLess]
  | [], _ :: _ => by simp [Op.bytesLess]
  | a :: x, b :: y => by
    rw [Op.bytesLess, bl_eq x y]
    simp only [List.cons_lt_cons_iff]
    by_cases h1 : a < b <;> by_cases h2 : a = b <;> by_cases h3 : x < y <;> simp [h1, h2, h3]
theorem upTo_mem (d : Array (List UInt8)) (m : Nat) (x : List UInt8) : x ∈ Lib.compactUpTo d m ↔ ∃ j, j < m ∧ d[j]! = x := by
  induction m with
  | zero => simp [Lib.compactUpTo]
  | succ m ih =>
    rw [Lib.compactUpTo_succ, List.mem_append, ih]
    constructor
    · rintro (⟨j, hj, e⟩ | h)
      · exact ⟨j, by omega, e⟩
      · split at h
        · exact ⟨m, by omega, (List.mem_singleton.1 h).symm⟩
        · cases h
    · rintro ⟨j, hj, e⟩
      by_cases hjm : j = m
      · subst hjm
        cases hk : Lib.keeps d j with
        | true => right; simp [e]
        | false =>
          left
          unfold Lib.keeps at hk
          have hk' := of_decide_eq_false hk
          have h0 : 0 < j := by
            rcases Nat.eq_zero_or_pos j with h | h
            · exact absurd (Or.inl h) hk'
            · exact h
          have h1 : d[j]! = d[j - 1]! := Decidable.byContradiction fun h => hk' (Or.inr h)
          exact ⟨j - 1, by omega, by rw [← h1]; exact e⟩
      · exact .inl ⟨j, by omega, e⟩
theorem compact_mem (zs : List (List UInt8)) (x : List UInt8) : x ∈ Lib.compact zs ↔ x ∈ zs := by
  unfold Lib.compact
  rw [upTo_mem]
  constructor
  · rintro ⟨j, hj, e⟩
    subst e
    simp [getElem!_pos, hj]
  · intro h
    obtain ⟨j, hj, e⟩ := List.getElem_of_mem h
    exact ⟨j, hj, by simp [getElem!_pos, hj, e]⟩
theorem upTo_up (zs : List (List UInt8)) (h : zs.Pairwise (· ≤ ·)) (m : Nat) (hm : m ≤ zs.length) : (Lib.compactUpTo zs.toArray m).Pairwise (· < ·) ∧ ∀ y ∈ Lib.compactUpTo zs.toArray m, y ≤ zs.toArray[m - 1]! := by
  have hget : ∀ j, j < zs.length → zs.toArray[j]! = zs.getD j [] := fun j hj => by simp [getElem!_pos, hj, List.getD_eq_getElem?_getD]
  have hle : ∀ i j, i ≤ j → j < zs.length → zs.toArray[i]! ≤ zs.toArray[j]! := fun i j hij hj => by
    rcases Nat.lt_or_eq_of_le hij with h' | h'
    · have := List.pairwise_iff_getElem.1 h i j (by omega) hj h'
      simpa [getElem!_pos, hj, show i < zs.length by omega] using this
    · subst h'; exact List.le_refl _
  induction m with
  | zero => simp [Lib.compactUpTo]
  | succ m ih =>
    obtain ⟨ih1, ih2⟩ := ih (by omega)
    rw [Lib.compactUpTo_succ]
    have hup : ∀ y ∈ Lib.compactUpTo zs.toArray m, y ≤ zs.toArray[m + 1 - 1]! := fun y hy => List.le_trans (ih2 y hy) (hle _ _ (by omega) (by omega))
    cases hk : Lib.keeps zs.toArray m with
    | false =>
      rw [if_neg (by decide), List.append_nil]
      exact ⟨ih1, hup⟩
    | true =>
      simp only [if_true]
      refine ⟨List.pairwise_append.2 ⟨ih1, List.pairwise_singleton _ _, fun a ha b hb => ?_⟩, fun y hy => ?_⟩
      · rw [List.mem_singleton] at hb
        subst hb
        have h1 := ih2 a ha
        rcases Nat.eq_zero_or_pos m with h0 | h0
        · subst h0; simp [Lib.compactUpTo] at ha
        · unfold Lib.keeps at hk
          have hk' := of_decide_eq_true hk
          have hne : zs.toArray[m]! ≠ zs.toArray[m - 1]! := by
            rcases hk' with h | h
            · omega
            · exact h
          have h2 := hle (m - 1) m (by omega) (by omega)
          have h3 : zs.toArray[m - 1]! < zs.toArray[m]! := by
            rcases bl_tri zs.toArray[m - 1]! zs.toArray[m]! with h | h | h
            · rw [bl_eq] at h; exact of_decide_eq_true h
            · exact absurd h.symm hne
            · rw [bl_eq] at h; exact absurd (of_decide_eq_true h) (List.not_lt.2 h2)
          exact List.lt_of_le_of_lt h1 h3
      · rcases List.mem_append.1 hy with hy | hy
        · exact hup y hy
        · rw [List.mem_singleton] at hy; subst hy; exact List.le_refl _
def bytesOf (s : ByteArray) : List UInt8 := s.data.toList
def textOf (x : List UInt8) : ByteArray := ⟨x.toArray⟩
theorem textOf_bytes (s : ByteArray) : textOf (bytesOf s) = s := by
  obtain ⟨⟨x⟩⟩ := s
  rfl
/-- What a sort and a compaction of names leave. -/
def once (L : List ByteArray) : List (List UInt8) := Lib.compact ((L.map (·.data.toList)).mergeSort fun x y => decide (x ≤ y))
theorem once_mem (L : List ByteArray) (x : ByteArray) : x ∈ (once L).map textOf ↔ x ∈ L := by
  unfold once
  constructor
  · intro h
    obtain ⟨y, hy, rfl⟩ := List.mem_map.1 h
    rw [compact_mem] at hy
    have := (List.mergeSort_perm _ _).subset hy
    obtain ⟨z, hz, rfl⟩ := List.mem_map.1 this
    have e : textOf z.data.toList = z := textOf_bytes z
    rw [e]; exact hz
  · intro h
    refine List.mem_map.2 ⟨x.data.toList, ?_, textOf_bytes x⟩
    rw [compact_mem]
    exact (List.mergeSort_perm _ _).symm.subset (List.mem_map.2 ⟨x, h, rfl⟩)
theorem once_up (L : List ByteArray) : Rising ((once L).map textOf) := by
  unfold Rising once
  have tr : ∀ a b c : List UInt8, decide (a ≤ b) = true → decide (b ≤ c) = true → decide (a ≤ c) = true := fun a b c h1 h2 => by simp only [decide_eq_true_eq] at *; exact List.le_trans h1 h2
  have tt : ∀ a b : List UInt8, (decide (a ≤ b) || decide (b ≤ a)) = true := fun a b => by simp only [Bool.or_eq_true, decide_eq_true_eq]; exact List.le_total a b
  have hs := List.pairwise_mergeSort tr tt (L.map (·.data.toList))
  have hs2 : ((L.map (·.data.toList)).mergeSort fun x y => decide (x ≤ y)).Pairwise (· ≤ ·) := hs.imp fun h => of_decide_eq_true h
  have := (upTo_up _ hs2 _ (Nat.le_refl _)).1
  refine List.pairwise_map.2 (this.imp fun {a b} h => ?_)
  unfold less textOf
  rw [ByteArray.toList_eq, ByteArray.toList_eq, bl_eq]
  exact decide_eq_true h
theorem once_nil : once [] = [] := by simp [once, Lib.compact, Lib.compactUpTo]
end Tr
open Go.Sort (putRow grow Holds holds_grow holds_putRow holds_ahead mapBlock)
theorem sortAll_any (g cap : Nat) (ss : List (List UInt8)) (w : World) (hH : Holds encStr w g 0 ss.toArray) (hg : g < w.heap.size) (hs : ss.length < 4611686018427387904) :
    Calls Try.prog 59 #[.slice (some ⟨g, 0, none⟩) ss.length cap] w fun e w' => e = .returned (.tuple #[]) ∧ ∃ n os, w' = grow (putRow encStr (Sort.ahead w n) g 0 (ss.mergeSort fun x y => decide (x ≤ y)).toArray) os := Go.Proofs.Try.slices_Sort_string g 0 cap ss w hH hg hs
theorem sortNone_any (p : Option Addr) (cap : Nat) (w : World) : Calls Try.prog 59 #[.slice p 0 cap] w fun e w' => e = .returned (.tuple #[]) ∧ w' = w := Go.Proofs.Try.slices_Sort_string_none p cap w
theorem compactAll_any (g cap : Nat) (zs : List (List UInt8)) (w : World) (hH : Holds encStr w g 0 zs.toArray) (hs : zs.length ≤ 9223372036854775807) (hc : zs.length ≤ cap) :
    Calls Try.prog 60 #[.slice (some ⟨g, 0, none⟩) zs.length cap] w fun e w' => e = .returned (.slice (some ⟨g, 0, none⟩) (Lib.compact zs).length cap) ∧ ∃ q, w' = putRow encStr (Sort.ahead w q) g 0 (Lib.compact zs ++ List.replicate (zs.length - (Lib.compact zs).length) []).toArray := Go.Proofs.Try.slices_Compact_string g 0 cap zs w hH hs hc
theorem compactNone_any (p : Option Addr) (cap : Nat) (w : World) : Calls Try.prog 60 #[.slice p 0 cap] w fun e w' => e = .returned (.slice p 0 cap) ∧ w' = w := Go.Proofs.Try.slices_Compact_string_empty p cap w
/-- What a sort and a compaction leave. -/
theorem names_left2 {w1 : World} {base g cap n nn q : Nat} {os : Array Obj} {ss : List (List UInt8)} (hown : w1.ownsRow base 9 1 (.slice (some ⟨g, 0, none⟩) n cap) n (ss.map encStr)) (hB : base ≤ w1.heap.size) (hlen : ss.length = n) :
    (putRow encStr (Sort.ahead (grow (putRow encStr (Sort.ahead w1 nn) g 0 (ss.mergeSort fun x y => decide (x ≤ y)).toArray) os) q) g 0 (Lib.compact (ss.mergeSort fun x y => decide (x ≤ y)) ++ List.replicate (n - (Lib.compact (ss.mergeSort fun x y => decide (x ≤ y))).length) []).toArray).ownsRow base 9 1 (.slice (some ⟨g, 0, none⟩) (Lib.compact (ss.mergeSort fun x y => decide (x ≤ y))).length cap) (Lib.compact (ss.mergeSort fun x y => decide (x ≤ y))).length ((Lib.compact (ss.mergeSort fun x y => decide (x ≤ y))).map encStr) ∧ Below base w1 (putRow encStr (Sort.ahead (grow (putRow encStr (Sort.ahead w1 nn) g 0 (ss.mergeSort fun x y => decide (x ≤ y)).toArray) os) q) g 0 (Lib.compact (ss.mergeSort fun x y => decide (x ≤ y)) ++ List.replicate (n - (Lib.compact (ss.mergeSort fun x y => decide (x ≤ y))).length) []).toArray) := by
  have hl2 : (ss.mergeSort fun x y => decide (x ≤ y)).length = ss.length := List.length_mergeSort ss
  have hle := Lib.compact_length_le (ss.mergeSort fun x y => decide (x ≤ y))
  subst hlen
  rcases hown.2 with ⟨h0, _⟩ | ⟨g', cap', cur, hv, hbase, hb, h1, h2, h3, h4⟩
  · cases h0
  cases hv
  have hs := Go.ownsRow_sorted (n := nn) (os := os) (ts := ss.mergeSort fun x y => decide (x ≤ y)) hl2 hbase hb h1 h2 h3
  have hc := Lib.ownsRow_putRow (q := q) (k := (Lib.compact (ss.mergeSort fun x y => decide (x ≤ y))).length) (ys := Lib.compact (ss.mergeSort fun x y => decide (x ≤ y)) ++ List.replicate (ss.length - (Lib.compact (ss.mergeSort fun x y => decide (x ≤ y))).length) []) hs (by simp; omega) (by omega)
  rw [List.take_left] at hc
  exact ⟨hc, Lib.below_putRow ((Below.refl base w1).grown (Go.grownBy_sorted _) hB (fun j hj => by cases hj; exact hbase)) hbase⟩
/-- Names sorted, each once. -/
def Tr.onceB (L : List ByteArray) : List ByteArray := (Tr.once L).map Tr.textOf
set_option maxRecDepth 100000 in
set_option maxHeartbeats 4000000 in
theorem sortedOnce_any (v : Value) (L : List ByteArray) (base : Nat) (w : World) (hown : w.ownsRow base 9 1 v L.length (L.map Value.string)) (hB : base ≤ w.heap.size) (hL : L.length ≤ 1048576) :
    Calls Try.prog 45 #[v] w fun e w' => ∃ a n c, e = .returned (.slice a n c) ∧ w'.ownsRow base 9 1 (.slice a n c) (Tr.onceB L).length ((Tr.onceB L).map Value.string) ∧ Below base w w' := by
  by_cases hnil : v = .slice none 0 0
  · subst hnil
    have hL0 : L.length = 0 := by
      rcases hown.2 with ⟨_, h0⟩ | ⟨_, _, _, h0, _⟩
      · exact h0
      · cases h0
    have hLn : L = [] := List.length_eq_zero_iff.1 hL0
    have FIN := hide (show w.ownsRow base 9 1 (.slice none 0 0) (Tr.onceB L).length ((Tr.onceB L).map Value.string) by
      rw [hLn, show Tr.onceB [] = [] by unfold Tr.onceB; rw [Tr.once_nil]; rfl]
      exact World.ownsRow_nil _ _ _ _)
    clear hown hL0 hLn
    go_enter Try.func45, Try.ntmps45
    go_wp2_with fail
    refine (sortNone_any none 0 _).mono ?_
    rintro e w4 ⟨rfl, hw4⟩
    subst w4
    go_wp2_with fail
    refine (compactNone_any none 0 _).mono ?_
    rintro e w4 ⟨rfl, hw4⟩
    subst w4
    go_wp2_with fail
    go_ret
    exact ⟨_, _, _, rfl, unhide FIN, Below.refl _ _⟩
  · have hmap := Lib.map_encStr L
    have hown' : w.ownsRow base 9 1 v L.length ((L.map (·.data.toList)).map encStr) := by rw [hmap]; exact hown
    obtain ⟨g, cap, hu4, hbg, hgl, hncap, hcm, hlen, hH⟩ := Lib.holds_of_ownsRow hown' hnil
    subst hu4
    have HSO := hide (sortAll_any g cap (L.map (·.data.toList)) w hH hgl (by rw [hlen]; omega))
    rw [hlen] at HSO
    have hH2 : ∀ nn os, Holds encStr (grow (putRow encStr (Sort.ahead w nn) g 0 ((L.map (·.data.toList)).mergeSort fun x y => decide (x ≤ y)).toArray) os) g 0 ((L.map (·.data.toList)).mergeSort fun x y => decide (x ≤ y)).toArray := fun nn os =>
      holds_grow encStr _ os g 0 _ (by simpa [putRow, mapBlock, Sort.ahead] using hgl) (holds_putRow encStr _ g 0 _ _ (holds_ahead encStr w nn g 0 _ hH) (by simp))
    have hl2 : ((L.map (·.data.toList)).mergeSort fun x y => decide (x ≤ y)).length = L.length := by rw [List.length_mergeSort]; exact hlen
    have HCO := hide (fun nn os => compactAll_any g cap ((L.map (·.data.toList)).mergeSort fun x y => decide (x ≤ y)) _ (hH2 nn os) (by rw [hl2]; omega) (by rw [hl2]; exact hncap))
    rw [hl2] at HCO
    have HLF : Hid (∀ nn os q, _) := fun nn os q => names_left2 (nn := nn) (os := os) (q := q) hown' hB hlen
    have hcl : (Lib.compact ((L.map (·.data.toList)).mergeSort fun x y => decide (x ≤ y))) = Tr.once L := rfl
    have HON := hide (show Tr.onceB L = (Tr.once L).map Tr.textOf from rfl)
    rw [hcl] at HCO HLF
    clear hH2 hH hown hown' hl2 hcl hmap hnil
    generalize ((L.map (·.data.toList)).mergeSort fun x y => decide (x ≤ y)) = srt at *
    generalize Tr.once L = on at *
    go_enter Try.func45, Try.ntmps45
    go_wp2_with fail
    refine (unhide HSO).mono ?_
    rintro e w4 ⟨rfl, nn, os, hw4⟩
    have HC2 := hide ((unhide HCO) nn os)
    rw [← hw4] at HC2
    have HL2 := hide ((unhide HLF) nn os)
    rw [← hw4] at HL2
    clear HSO HCO HLF hw4
    go_wp2_with fail
    refine (unhide HC2).mono ?_
    rintro e w5 ⟨rfl, q, hw5⟩
    obtain ⟨hrw, hbw⟩ := (unhide HL2) q
    rw [← hw5] at hrw hbw
    have FIN := hide (show w5.ownsRow base 9 1 (.slice (some ⟨g, 0, none⟩) on.length cap) (Tr.onceB L).length ((Tr.onceB L).map Value.string) ∧ Below base w w5 by
      rw [unhide HON, List.length_map, List.map_map]
      exact ⟨hrw, hbw⟩)
    clear HC2 HL2 hw5 hrw hbw HON
    go_wp2_with fail
    go_ret
    exact ⟨_, _, _, rfl, (unhide FIN).1, (unhide FIN).2⟩
end Go.Proofs.Ytlmibdddfjbbdaa
