/-
  impl.sortedOnce: names sorted, each once.
-/
import Derived.Test.YtokcefcjkjhnbaaVarN
import Derived.Deep.CutRange
namespace Go.Proofs.Ytokcefcjkjhnbaa
open Go.RowKit
set_option linter.unusedVariables false
set_option linter.unusedSimpArgs false


open Go.Sort (putRow grow Holds holds_grow holds_putRow holds_ahead mapBlock)
/-- What a sort and a compaction leave. -/
theorem names_left2 {w1 : World} {base g cap n nn q : Nat} {os : Array Obj} {ss : List (List UInt8)} (hown : w1.ownsRow base 9 1 (.slice (some ⟨g, 0, none⟩) n cap) n (ss.map encStr)) (hB : base ≤ w1.heap.size) (hlen : ss.length = n) :
    (putRow encStr (Sort.ahead (grow (putRow encStr (Sort.ahead w1 nn) g 0 (ss.mergeSort fun x y => decide (x ≤ y)).toArray) os) q) g 0 (Lib.compact (ss.mergeSort fun x y => decide (x ≤ y)) ++ List.replicate (n - (Lib.compact (ss.mergeSort fun x y => decide (x ≤ y))).length) []).toArray).ownsRow base 9 1 (.slice (some ⟨g, 0, none⟩) (Lib.compact (ss.mergeSort fun x y => decide (x ≤ y))).length cap) (Lib.compact (ss.mergeSort fun x y => decide (x ≤ y))).length ((Lib.compact (ss.mergeSort fun x y => decide (x ≤ y))).map encStr) ∧ Below base w1 (putRow encStr (Sort.ahead (grow (putRow encStr (Sort.ahead w1 nn) g 0 (ss.mergeSort fun x y => decide (x ≤ y)).toArray) os) q) g 0 (Lib.compact (ss.mergeSort fun x y => decide (x ≤ y)) ++ List.replicate (n - (Lib.compact (ss.mergeSort fun x y => decide (x ≤ y))).length) []).toArray) := by
  have hl2 : (ss.mergeSort fun x y => decide (x ≤ y)).length = ss.length := List.length_mergeSort ss
  have hle := Lib.compact_length_le (ss.mergeSort fun x y => decide (x ≤ y))
  subst hlen
  rcases hown.2 with ⟨h0, _⟩ | ⟨g', cap', cur, hv, hbase, hb, h1, h2, h3, h4⟩
  · cases h0
  cases hv
  have hs := Go.ownsRow_sorted (n := nn) (os := os) (ts := ss.mergeSort fun x y => decide (x ≤ y)) hl2 hbase hb h1 h2 h3
  have hc := Lib.ownsRow_putRow (q := q) (k := (Lib.compact (ss.mergeSort fun x y => decide (x ≤ y))).length) (ys := Lib.compact (ss.mergeSort fun x y => decide (x ≤ y)) ++ List.replicate (ss.length - (Lib.compact (ss.mergeSort fun x y => decide (x ≤ y))).length) []) hs (by simp; omega) (by omega)
  rw [List.take_left] at hc
  exact ⟨hc, Lib.below_putRow ((Below.refl base w1).grown (Go.grownBy_sorted _) hB (fun j hj => by cases hj; exact hbase)) hbase⟩
/-- Names sorted, each once. -/
def Tr.onceB (L : List ByteArray) : List ByteArray := (Tr.once L).map Tr.textOf
set_option maxRecDepth 100000 in
set_option maxHeartbeats 4000000 in
theorem sortedOnce_any (v : Value) (L : List ByteArray) (base : Nat) (w : World) (hown : w.ownsRow base 9 1 v L.length (L.map Value.string)) (hB : base ≤ w.heap.size) (hL : L.length ≤ 1048576) :
    Calls Try.prog 45 #[v] w fun e w' => ∃ a n c, e = .returned (.slice a n c) ∧ w'.ownsRow base 9 1 (.slice a n c) (Tr.onceB L).length ((Tr.onceB L).map Value.string) ∧ Below base w w' := by
  by_cases hnil : v = .slice none 0 0
  · subst hnil
    have hL0 : L.length = 0 := by
      rcases hown.2 with ⟨_, h0⟩ | ⟨_, _, _, h0, _⟩
      · exact h0
      · cases h0
    have hLn : L = [] := List.length_eq_zero_iff.1 hL0
    have FIN := hide (show w.ownsRow base 9 1 (.slice none 0 0) (Tr.onceB L).length ((Tr.onceB L).map Value.string) by
      rw [hLn, show Tr.onceB [] = [] by unfold Tr.onceB; rw [Tr.once_nil]; rfl]
      exact World.ownsRow_nil _ _ _ _)
    clear hown hL0 hLn
    go_enter Try.func45, Try.ntmps45
    go_wp2_with fail
    refine (sortNone_any none 0 _).mono ?_
    rintro e w4 ⟨rfl, hw4⟩
    subst w4
    go_wp2_with fail
    refine (compactNone_any none 0 _).mono ?_
    rintro e w4 ⟨rfl, hw4⟩
    subst w4
    go_wp2_with fail
    go_ret
    exact ⟨_, _, _, rfl, unhide FIN, Below.refl _ _⟩
  · have hmap := Lib.map_encStr L
    have hown' : w.ownsRow base 9 1 v L.length ((L.map (·.data.toList)).map encStr) := by rw [hmap]; exact hown
    obtain ⟨g, cap, hu4, hbg, hgl, hncap, hcm, hlen, hH⟩ := Lib.holds_of_ownsRow hown' hnil
    subst hu4
    have HSO := hide (sortAll_any g cap (L.map (·.data.toList)) w hH hgl (by rw [hlen]; omega))
    rw [hlen] at HSO
    have hH2 : ∀ nn os, Holds encStr (grow (putRow encStr (Sort.ahead w nn) g 0 ((L.map (·.data.toList)).mergeSort fun x y => decide (x ≤ y)).toArray) os) g 0 ((L.map (·.data.toList)).mergeSort fun x y => decide (x ≤ y)).toArray := fun nn os =>
      holds_grow encStr _ os g 0 _ (by simpa [putRow, mapBlock, Sort.ahead] using hgl) (holds_putRow encStr _ g 0 _ _ (holds_ahead encStr w nn g 0 _ hH) (by simp))
    have hl2 : ((L.map (·.data.toList)).mergeSort fun x y => decide (x ≤ y)).length = L.length := by rw [List.length_mergeSort]; exact hlen
    have HCO := hide (fun nn os => compactAll_any g cap ((L.map (·.data.toList)).mergeSort fun x y => decide (x ≤ y)) _ (hH2 nn os) (by rw [hl2]; omega) (by rw [hl2]; exact hncap))
    rw [hl2] at HCO
    have HLF : Hid (∀ nn os q, _) := fun nn os q => names_left2 (nn := nn) (os := os) (q := q) hown' hB hlen
    have hcl : (Lib.compact ((L.map (·.data.toList)).mergeSort fun x y => decide (x ≤ y))) = Tr.once L := rfl
    have HON := hide (show Tr.onceB L = (Tr.once L).map Tr.textOf from rfl)
    rw [hcl] at HCO HLF
    clear hH2 hH hown hown' hl2 hcl hmap hnil
    generalize ((L.map (·.data.toList)).mergeSort fun x y => decide (x ≤ y)) = srt at *
    generalize Tr.once L = on at *
    go_enter Try.func45, Try.ntmps45
    go_wp2_with fail
    refine (unhide HSO).mono ?_
    rintro e w4 ⟨rfl, nn, os, hw4⟩
    have HC2 := hide ((unhide HCO) nn os)
    rw [← hw4] at HC2
    have HL2 := hide ((unhide HLF) nn os)
    rw [← hw4] at HL2
    clear HSO HCO HLF hw4
    go_wp2_with fail
    refine (unhide HC2).mono ?_
    rintro e w5 ⟨rfl, q, hw5⟩
    obtain ⟨hrw, hbw⟩ := (unhide HL2) q
    rw [← hw5] at hrw hbw
    have FIN := hide (show w5.ownsRow base 9 1 (.slice (some ⟨g, 0, none⟩) on.length cap) (Tr.onceB L).length ((Tr.onceB L).map Value.string) ∧ Below base w w5 by
      rw [unhide HON, List.length_map, List.map_map]
      exact ⟨hrw, hbw⟩)
    clear HC2 HL2 hw5 hrw hbw HON
    go_wp2_with fail
    go_ret
    exact ⟨_, _, _, rfl, (unhide FIN).1, (unhide FIN).2⟩
end Go.Proofs.Ytokcefcjkjhnbaa
