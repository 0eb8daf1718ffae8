/-
  What the walks of VarsOf share.
  impl.sortedOnce: names sorted, each once.
  impl.isTextConstant; impl.ReadsCore.
-/
import Derived.Test.YtokcefcjkjhnbaaRdM
import Derived.Test.YtokcefcjkjhnbaaTreI
import Derived.Test.YtokcefcjkjhnbaaShelfV
import Derived.Test.YtokcefcjkjhnbaaCorF
import Derived.Test.YtokcefcjkjhnbaaCorS
import Derived.Test.YtokcefcjkjhnbaaAppT
import Derived.Test.YtokcefcjkjhnbaaSS
import Derived.Test.YtokcefcjkjhnbaaTreG
import Derived.Lib.OwnBridge
import Derived.Sort.OwnSorted
import Derived.Sort.Grow
import Derived.Deep.CutRange
namespace Go.Proofs.Ytokcefcjkjhnbaa
open Go.RowKit
set_option linter.unusedVariables false
set_option linter.unusedSimpArgs false


open Go.Sort (putRow grow Holds holds_grow holds_putRow holds_ahead mapBlock)
theorem nres_of {w : World} {b : Nat} {x : Int} {v : Value} (h : Own w b 26 [.int .i64 x, v]) : w.cell? ⟨b, 0, none⟩ = some (.int .i64 x) ∧ w.cell? ⟨b, 1, none⟩ = some v := ⟨h.cell 0, h.cell 1⟩
theorem Tr.owns_lower {w : World} {base base' : Nat} {e : TypeId} {v : Value} {n : Nat} {xs : List Value} (h : w.ownsRow base e 1 v n xs) (hb : base' ≤ base) : w.ownsRow base' e 1 v n xs := by
  obtain ⟨h1, ⟨h2, h3⟩ | ⟨g, cap, cur, h2, hg, hr⟩⟩ := h
  · exact ⟨h1, .inl ⟨h2, h3⟩⟩
  · exact ⟨h1, .inr ⟨g, cap, cur, h2, by omega, hr⟩⟩
theorem Tr.owns_two {w : World} {base b : Nat} {e : TypeId} {v : Value} {n : Nat} {xs : List Value} (h : w.ownsRow base e 1 v n xs) (hb : b < base) (x y : Value) : ((w.setCell ⟨b, 0, none⟩ x).setCell ⟨b, 1, none⟩ y).ownsRow base e 1 v n xs := by
  obtain ⟨h1, ⟨h2, h3⟩ | ⟨g, cap, cur, h2, hg, hh, hr⟩⟩ := h
  · exact ⟨h1, .inl ⟨h2, h3⟩⟩
  · exact ⟨h1, .inr ⟨g, cap, cur, h2, hg, ((heap_setCell_other _ ⟨b, 1, none⟩ g y (by simp only; omega)).trans (heap_setCell_other _ ⟨b, 0, none⟩ g x (by simp only; omega))).trans hh, hr⟩⟩
theorem sortAll_any (g cap : Nat) (ss : List (List UInt8)) (w : World) (hH : Holds encStr w g 0 ss.toArray) (hg : g < w.heap.size) (hs : ss.length < 4611686018427387904) :
    Calls Try.prog 73 #[.slice (some ⟨g, 0, none⟩) ss.length cap] w fun e w' => e = .returned (.tuple #[]) ∧ ∃ n os, w' = grow (putRow encStr (Sort.ahead w n) g 0 (ss.mergeSort fun x y => decide (x ≤ y)).toArray) os := Go.Proofs.Try.slices_Sort_string g 0 cap ss w hH hg hs
theorem sortNone_any (p : Option Addr) (cap : Nat) (w : World) : Calls Try.prog 73 #[.slice p 0 cap] w fun e w' => e = .returned (.tuple #[]) ∧ w' = w := Go.Proofs.Try.slices_Sort_string_none p cap w
theorem compactAll_any (g cap : Nat) (zs : List (List UInt8)) (w : World) (hH : Holds encStr w g 0 zs.toArray) (hs : zs.length ≤ 9223372036854775807) (hc : zs.length ≤ cap) :
    Calls Try.prog 74 #[.slice (some ⟨g, 0, none⟩) zs.length cap] w fun e w' => e = .returned (.slice (some ⟨g, 0, none⟩) (Lib.compact zs).length cap) ∧ ∃ q, w' = putRow encStr (Sort.ahead w q) g 0 (Lib.compact zs ++ List.replicate (zs.length - (Lib.compact zs).length) []).toArray := Go.Proofs.Try.slices_Compact_string g 0 cap zs w hH hs hc
theorem compactNone_any (p : Option Addr) (cap : Nat) (w : World) : Calls Try.prog 74 #[.slice p 0 cap] w fun e w' => e = .returned (.slice p 0 cap) ∧ w' = w := Go.Proofs.Try.slices_Compact_string_empty p cap w
/-- What a sort and a compaction leave. -/
theorem names_left {w w1 : World} {g cap n nn q : Nat} {os : Array Obj} {ss : List (List UInt8)} (hown : w1.ownsRow w.heap.size 9 1 (.slice (some ⟨g, 0, none⟩) n cap) n (ss.map encStr)) (hbel : Below w.heap.size w w1) (hbg : w.heap.size ≤ g) (hlen : ss.length = n) :
    (putRow encStr (Sort.ahead (grow (putRow encStr (Sort.ahead w1 nn) g 0 (ss.mergeSort fun x y => decide (x ≤ y)).toArray) os) q) g 0 (Lib.compact (ss.mergeSort fun x y => decide (x ≤ y)) ++ List.replicate (n - (Lib.compact (ss.mergeSort fun x y => decide (x ≤ y))).length) []).toArray).ownsRow w.heap.size 9 1 (.slice (some ⟨g, 0, none⟩) (Lib.compact (ss.mergeSort fun x y => decide (x ≤ y))).length cap) (Lib.compact (ss.mergeSort fun x y => decide (x ≤ y))).length ((Lib.compact (ss.mergeSort fun x y => decide (x ≤ y))).map encStr) ∧ Below w.heap.size w (putRow encStr (Sort.ahead (grow (putRow encStr (Sort.ahead w1 nn) g 0 (ss.mergeSort fun x y => decide (x ≤ y)).toArray) os) q) g 0 (Lib.compact (ss.mergeSort fun x y => decide (x ≤ y)) ++ List.replicate (n - (Lib.compact (ss.mergeSort fun x y => decide (x ≤ y))).length) []).toArray) := by
  have hl2 : (ss.mergeSort fun x y => decide (x ≤ y)).length = ss.length := List.length_mergeSort ss
  have hle := Lib.compact_length_le (ss.mergeSort fun x y => decide (x ≤ y))
  subst hlen
  rcases hown.2 with ⟨h0, _⟩ | ⟨g', cap', cur, hv, hbase, hb, h1, h2, h3, h4⟩
  · cases h0
  cases hv
  have hs := Go.ownsRow_sorted (n := nn) (os := os) (ts := ss.mergeSort fun x y => decide (x ≤ y)) hl2 hbase hb h1 h2 h3
  have hc := Lib.ownsRow_putRow (q := q) (k := (Lib.compact (ss.mergeSort fun x y => decide (x ≤ y))).length) (ys := Lib.compact (ss.mergeSort fun x y => decide (x ≤ y)) ++ List.replicate (ss.length - (Lib.compact (ss.mergeSort fun x y => decide (x ≤ y))).length) []) hs (by simp; omega) (by omega)
  rw [List.take_left] at hc
  exact ⟨hc, Lib.below_putRow (hbel.grown (Go.grownBy_sorted _) hbel.size (fun j hj => by cases hj; exact hbase)) hbg⟩

end Go.Proofs.Ytokcefcjkjhnbaa

namespace Go.Proofs.Ytokcefcjkjhnbaa
open Go.RowKit
set_option linter.unusedVariables false
set_option linter.unusedSimpArgs false


open Go.Sort (putRow grow Holds holds_grow holds_putRow holds_ahead mapBlock)
/-- What a sort and a compaction leave. -/
theorem names_left2 {w1 : World} {base g cap n nn q : Nat} {os : Array Obj} {ss : List (List UInt8)} (hown : w1.ownsRow base 9 1 (.slice (some ⟨g, 0, none⟩) n cap) n (ss.map encStr)) (hB : base ≤ w1.heap.size) (hlen : ss.length = n) :
    (putRow encStr (Sort.ahead (grow (putRow encStr (Sort.ahead w1 nn) g 0 (ss.mergeSort fun x y => decide (x ≤ y)).toArray) os) q) g 0 (Lib.compact (ss.mergeSort fun x y => decide (x ≤ y)) ++ List.replicate (n - (Lib.compact (ss.mergeSort fun x y => decide (x ≤ y))).length) []).toArray).ownsRow base 9 1 (.slice (some ⟨g, 0, none⟩) (Lib.compact (ss.mergeSort fun x y => decide (x ≤ y))).length cap) (Lib.compact (ss.mergeSort fun x y => decide (x ≤ y))).length ((Lib.compact (ss.mergeSort fun x y => decide (x ≤ y))).map encStr) ∧ Below base w1 (putRow encStr (Sort.ahead (grow (putRow encStr (Sort.ahead w1 nn) g 0 (ss.mergeSort fun x y => decide (x ≤ y)).toArray) os) q) g 0 (Lib.compact (ss.mergeSort fun x y => decide (x ≤ y)) ++ List.replicate (n - (Lib.compact (ss.mergeSort fun x y => decide (x ≤ y))).length) []).toArray) := by
  have hl2 : (ss.mergeSort fun x y => decide (x ≤ y)).length = ss.length := List.length_mergeSort ss
  have hle := Lib.compact_length_le (ss.mergeSort fun x y => decide (x ≤ y))
  subst hlen
  rcases hown.2 with ⟨h0, _⟩ | ⟨g', cap', cur, hv, hbase, hb, h1, h2, h3, h4⟩
  · cases h0
  cases hv
  have hs := Go.ownsRow_sorted (n := nn) (os := os) (ts := ss.mergeSort fun x y => decide (x ≤ y)) hl2 hbase hb h1 h2 h3
  have hc := Lib.ownsRow_putRow (q := q) (k := (Lib.compact (ss.mergeSort fun x y => decide (x ≤ y))).length) (ys := Lib.compact (ss.mergeSort fun x y => decide (x ≤ y)) ++ List.replicate (ss.length - (Lib.compact (ss.mergeSort fun x y => decide (x ≤ y))).length) []) hs (by simp; omega) (by omega)
  rw [List.take_left] at hc
  exact ⟨hc, Lib.below_putRow ((Below.refl base w1).grown (Go.grownBy_sorted _) hB (fun j hj => by cases hj; exact hbase)) hbase⟩
/-- Names sorted, each once. -/
def Tr.onceB (L : List ByteArray) : List ByteArray := (Tr.once L).map Tr.textOf
set_option maxRecDepth 100000 in
set_option maxHeartbeats 4000000 in
theorem sortedOnce_any (v : Value) (L : List ByteArray) (base : Nat) (w : World) (hown : w.ownsRow base 9 1 v L.length (L.map Value.string)) (hB : base ≤ w.heap.size) (hL : L.length ≤ 1048576) :
    Calls Try.prog 45 #[v] w fun e w' => ∃ a n c, e = .returned (.slice a n c) ∧ w'.ownsRow base 9 1 (.slice a n c) (Tr.onceB L).length ((Tr.onceB L).map Value.string) ∧ Below base w w' := by
  by_cases hnil : v = .slice none 0 0
  · subst hnil
    have hL0 : L.length = 0 := by
      rcases hown.2 with ⟨_, h0⟩ | ⟨_, _, _, h0, _⟩
      · exact h0
      · cases h0
    have hLn : L = [] := List.length_eq_zero_iff.1 hL0
    have FIN := hide (show w.ownsRow base 9 1 (.slice none 0 0) (Tr.onceB L).length ((Tr.onceB L).map Value.string) by
      rw [hLn, show Tr.onceB [] = [] by unfold Tr.onceB; rw [Tr.once_nil]; rfl]
      exact World.ownsRow_nil _ _ _ _)
    clear hown hL0 hLn
    go_enter Try.func45, Try.ntmps45
    go_wp2_with fail
    refine (sortNone_any none 0 _).mono ?_
    rintro e w4 ⟨rfl, hw4⟩
    subst w4
    go_wp2_with fail
    refine (compactNone_any none 0 _).mono ?_
    rintro e w4 ⟨rfl, hw4⟩
    subst w4
    go_wp2_with fail
    go_ret
    exact ⟨_, _, _, rfl, unhide FIN, Below.refl _ _⟩
  · have hmap := Lib.map_encStr L
    have hown' : w.ownsRow base 9 1 v L.length ((L.map (·.data.toList)).map encStr) := by rw [hmap]; exact hown
    obtain ⟨g, cap, hu4, hbg, hgl, hncap, hcm, hlen, hH⟩ := Lib.holds_of_ownsRow hown' hnil
    subst hu4
    have HSO := hide (sortAll_any g cap (L.map (·.data.toList)) w hH hgl (by rw [hlen]; omega))
    rw [hlen] at HSO
    have hH2 : ∀ nn os, Holds encStr (grow (putRow encStr (Sort.ahead w nn) g 0 ((L.map (·.data.toList)).mergeSort fun x y => decide (x ≤ y)).toArray) os) g 0 ((L.map (·.data.toList)).mergeSort fun x y => decide (x ≤ y)).toArray := fun nn os =>
      holds_grow encStr _ os g 0 _ (by simpa [putRow, mapBlock, Sort.ahead] using hgl) (holds_putRow encStr _ g 0 _ _ (holds_ahead encStr w nn g 0 _ hH) (by simp))
    have hl2 : ((L.map (·.data.toList)).mergeSort fun x y => decide (x ≤ y)).length = L.length := by rw [List.length_mergeSort]; exact hlen
    have HCO := hide (fun nn os => compactAll_any g cap ((L.map (·.data.toList)).mergeSort fun x y => decide (x ≤ y)) _ (hH2 nn os) (by rw [hl2]; omega) (by rw [hl2]; exact hncap))
    rw [hl2] at HCO
    have HLF : Hid (∀ nn os q, _) := fun nn os q => names_left2 (nn := nn) (os := os) (q := q) hown' hB hlen
    have hcl : (Lib.compact ((L.map (·.data.toList)).mergeSort fun x y => decide (x ≤ y))) = Tr.once L := rfl
    have HON := hide (show Tr.onceB L = (Tr.once L).map Tr.textOf from rfl)
    rw [hcl] at HCO HLF
    clear hH2 hH hown hown' hl2 hcl hmap hnil
    generalize ((L.map (·.data.toList)).mergeSort fun x y => decide (x ≤ y)) = srt at *
    generalize Tr.once L = on at *
    go_enter Try.func45, Try.ntmps45
    go_wp2_with fail
    refine (unhide HSO).mono ?_
    rintro e w4 ⟨rfl, nn, os, hw4⟩
    have HC2 := hide ((unhide HCO) nn os)
    rw [← hw4] at HC2
    have HL2 := hide ((unhide HLF) nn os)
    rw [← hw4] at HL2
    clear HSO HCO HLF hw4
    go_wp2_with fail
    refine (unhide HC2).mono ?_
    rintro e w5 ⟨rfl, q, hw5⟩
    obtain ⟨hrw, hbw⟩ := (unhide HL2) q
    rw [← hw5] at hrw hbw
    have FIN := hide (show w5.ownsRow base 9 1 (.slice (some ⟨g, 0, none⟩) on.length cap) (Tr.onceB L).length ((Tr.onceB L).map Value.string) ∧ Below base w w5 by
      rw [unhide HON, List.length_map, List.map_map]
      exact ⟨hrw, hbw⟩)
    clear HC2 HL2 hw5 hrw hbw HON
    go_wp2_with fail
    go_ret
    exact ⟨_, _, _, rfl, (unhide FIN).1, (unhide FIN).2⟩
end Go.Proofs.Ytokcefcjkjhnbaa

namespace Go.Proofs.Ytokcefcjkjhnbaa
open Go.RowKit
set_option linter.unusedVariables false
set_option linter.unusedSimpArgs false


set_option maxRecDepth 100000 in
set_option maxHeartbeats 4000000 in
theorem isText_any (n : Co) (vg : Nat) (w : World) (hrow : Row w vg 0 n.val) (hg : vg < w.heap.size) (hlen : n.op = 2 → 0 < n.val.length) :
    Calls Try.prog 65 #[.agg #[.int .i64 n.op, .int .i64 n.a, .int .i64 n.b, .int .i64 n.c, .int .i64 n.num, .slice (some ⟨vg, 0, none⟩) n.val.length n.val.length]] w fun e w' => e = .returned (.bool (Co.isText n)) ∧ Below w.heap.size w w' := by
  obtain ⟨w0, hw0⟩ : ∃ w0, w0 = w.alloc (.cells #[.int .i64 n.op, .int .i64 n.a, .int .i64 n.b, .int .i64 n.c, .int .i64 n.num, .slice (some ⟨vg, 0, none⟩) n.val.length n.val.length] 87) := ⟨_, rfl⟩
  have B0 : Below w.heap.size w w0 := by rw [hw0]; exact (Below.refl _ _).alloc (Nat.le_refl _) _
  have O0 : Own w0 w.heap.size 87 [.int .i64 n.op, .int .i64 n.a, .int .i64 n.b, .int .i64 n.c, .int .i64 n.num, .slice (some ⟨vg, 0, none⟩) n.val.length n.val.length] := by rw [hw0]; exact ⟨_, heap_alloc_new _ _, rfl⟩
  have c0 : w0.cell? ⟨w.heap.size, 0, none⟩ = some (.int .i64 n.op) := O0.cell 0
  have c5 : w0.cell? ⟨w.heap.size, 5, none⟩ = some (.slice (some ⟨vg, 0, none⟩) n.val.length n.val.length) := O0.cell 5
  by_cases h2 : n.op = 2
  · have hl := hlen h2
    have hlI : (0 : Int) < (n.val.length : Int) := by omega
    have g := (hrow.below B0 hg) 0 (by omega)
    have g0 := g.1
    simp only [Nat.zero_mul, Nat.add_zero] at g0
    have FIN := hide (show Co.isText n = ((n.val.getD 0 M.zero).kind == 4) by unfold Co.isText; rw [h2]; rfl)
    rw [h2] at c0
    clear O0 g hrow hlen h2
    generalize (n.val.getD 0 M.zero) = q at *
    generalize n.val.length = nl at *
    go_enter Try.func65, Try.ntmps65
    go_upto_region 1 with fail
    rw [← hw0]
    clear hw0
    go_wp2_with fail
    go_ret
    exact ⟨ret_bool (unhide FIN).symm, B0⟩
  · have FIN := hide (show Co.isText n = false by unfold Co.isText; rw [beq_eq_false_iff_ne.2 h2]; rfl)
    have g1 : (n.op == 2) = false := beq_eq_false_iff_ne.2 h2
    clear O0 hrow hlen h2
    go_enter Try.func65, Try.ntmps65
    go_upto_region 1 with fail
    rw [← hw0]
    clear hw0
    go_wp2_with fail
    go_ret
    exact ⟨ret_bool (unhide FIN).symm, B0⟩
set_option maxRecDepth 100000 in
set_option maxHeartbeats 4000000 in
theorem implReadsCore_any (b : Nat) (l : List Co) (w : World) (hrow : Co.Row w b l) (hb : b < w.heap.size) (hn : l.length ≤ 1048576) (hsz : ∀ i, i < l.length → (l.getD i Co.zero).val.length ≤ 1048576) (hok : ∀ c ∈ l, c.ok) :
    Calls Try.prog 39 #[.slice (some ⟨b, 0, none⟩) l.length l.length] w fun e w' => ∃ v, e = .returned (.agg #[.int .i64 (Co.readsOut l).1, v]) ∧ w'.ownsRow (w.heap.size + 1) 9 1 v (Co.readsOut l).2.length ((Co.readsOut l).2.map Value.string) ∧ Below w.heap.size w w' := by
  have HR := hide hrow
  have HS := hide hsz
  have HK := hide hok
  clear hrow hsz hok
  obtain ⟨w0, hw0⟩ : ∃ w0, w0 = w.alloc (.cells #[.int .i64 0, .slice none 0 0] 26) := ⟨_, rfl⟩
  have hs0 : w0.heap.size = w.heap.size + 1 := by rw [hw0]; simp
  have B0 : Below w.heap.size w w0 := by rw [hw0]; exact (Below.refl _ _).alloc (Nat.le_refl _) _
  have O0 : Own w0 w.heap.size 26 [.int .i64 0, .slice none 0 0] := by rw [hw0]; exact ⟨_, heap_alloc_new _ _, rfl⟩
  have HC := hide (implCoreFault_any b l w0 ((unhide HR).below B0 hb) (Nat.lt_of_lt_of_le hb B0.size) hn (unhide HS) (unhide HK))
  obtain ⟨t0, ht0, hy0, hy1, hy2⟩ := info_parts Tr.infoT
  go_enter Try.func39, Try.ntmps39
  go_wp2_with fail
  rw [← hw0]
  clear hw0
  refine (unhide HC).mono ?_
  rintro e w1 ⟨rfl, hb1⟩
  have B1 : Below w.heap.size w w1 := B0.trans (hb1.mono B0.size)
  have O1 := O0.below hb1 O0.lt
  have hlt1 : w.heap.size + 1 ≤ w1.heap.size := by have := hb1.size; omega
  clear O0 B0 hb1 HC
  by_cases hf : Co.fault l = 0
  case neg =>
    have fin := hide (show Co.readsOut l = (Co.fault l, []) by unfold Co.readsOut; rw [if_pos hf])
    generalize Co.fault l = q at *
    have g1 : (q != 0) = true := by simpa using hf
    have OX := O1
    clear hf O1
    obtain ⟨c0, c1⟩ := nres_of OX
    have z0 := OX.frozen 0
    have z1 := OX.frozen 1
    have O2 := hide ((OX.set 0 (.int .i64 q)).set 1 (.slice none 0 0))
    clear OX
    go_wp2_with fail
    obtain ⟨q0, q1⟩ := nres_of (x := q) (v := .slice none 0 0) (unhide O2)
    clear c0 c1 z0 z1 O2
    have B2 : Below w.heap.size w ((w1.setCell ⟨w.heap.size, 0, none⟩ (.int .i64 q)).setCell ⟨w.heap.size, 1, none⟩ (.slice none 0 0)) := (B1.setCell (Nat.le_refl _) _).setCell (Nat.le_refl _) _
    have HROW := hide (World.ownsRow_nil ((w1.setCell ⟨w.heap.size, 0, none⟩ (.int .i64 q)).setCell ⟨w.heap.size, 1, none⟩ (.slice none 0 0)) (w.heap.size + 1) 9 1)
    generalize (w1.setCell ⟨w.heap.size, 0, none⟩ (.int .i64 q)).setCell ⟨w.heap.size, 1, none⟩ (.slice none 0 0) = WW at *
    refine bodyPost_ret (v := .agg #[.int .i64 q, .slice none 0 0]) (by simp [results, Try.results39, go_sem, q0, q1]; try rfl) rfl ⟨_, by rw [unhide fin], by rw [unhide fin]; exact unhide HROW, B2⟩
  case pos =>
  have h900 : l.length ≤ 900 := (Co.fault_parts hf).1
  have HNF := hide (Co.fault_parts hf).2
  have fin := hide (show Co.readsOut l = (0, Tr.varsK (Co.rt l) l.length) by unfold Co.readsOut; rw [if_neg (by simpa using hf)])
  rw [hf]
  clear hf
  go_wp2_with fail
  go_loopg [4, 15] l.length (fun gh s4 s15 wr => ∃ (k : Nat) (L : List ByteArray), Hid (gh = l.length - k) ∧ s15 = .int .i64 k ∧ k ≤ l.length ∧ Hid (L = Tr.bnd (Co.rt l) k) ∧ L.length ≤ k ∧ Hid (wr.ownsRow w1.heap.size 9 1 s4 L.length (L.map Value.string)) ∧ Below w1.heap.size w1 wr)
  case atStart => exact ⟨0, [], rfl, rfl, by omega, rfl, by simp, World.ownsRow_nil _ _ _ _, Below.refl _ _⟩
  case round =>
    obtain ⟨k, L, hg, rfl, hk, hL, hLk, HOW, hbel⟩ := hrel
    have BW : Below w.heap.size w wr := B1.trans (hbel.mono B1.size)
    by_cases hlt : k < l.length
    · have hltI : (k : Int) < (l.length : Int) := by omega
      have hk0I : (0 : Int) ≤ (k : Int) := by omega
      obtain ⟨f0, f1, f2, f3, f4, vg, f5, _, _⟩ := ((unhide HR).below BW hb) k hlt
      have HBD := hide (Co.rd_bnd l k hlt)
      rw [← hL.out] at HBD
      obtain ⟨ua, uc, hu⟩ := Tr.owns_slice (unhide HOW)
      subst hu
      have hszr := hbel.size
      by_cases h7 : (l.getD k Co.zero).op = 7
      · obtain ⟨j, hj, hjk⟩ := Co.snd_lt (unhide HNF) hlt h7
        have hjl : j < l.length := by omega
        have hjI : (j : Int) < (l.length : Int) := by omega
        have hj0 : (0 : Int) ≤ (j : Int) := by omega
        obtain ⟨e0, e1, e2, e3, e4, vq, e5, hvq, hrq⟩ := ((unhide HR).below BW hb) j hjl
        have hs2 : Co.snd2 l k = l.getD j Co.zero := by unfold Co.snd2; rw [hj]; rfl
        have HRD := hide (show Co.rdr l k = Co.isText (l.getD j Co.zero) by unfold Co.rdr; rw [h7, hs2]; rfl)
        have HRT := hide (show Co.rdT l k = ((l.getD j Co.zero).val.getD 0 M.zero).text by unfold Co.rdT; rw [hs2])
        have HTL := hide (fun h => Co.text_len (unhide HNF) hjl h)
        have h7b := h7
        rw [h7] at f0
        rw [hj] at f2
        obtain ⟨na, nc, nnum, nvl, hna, hnc, hnn, hnv⟩ : ∃ a c x v, a = (l.getD k Co.zero).a ∧ c = (l.getD k Co.zero).c ∧ x = (l.getD k Co.zero).num ∧ v = (l.getD k Co.zero).val.length := ⟨_, _, _, _, rfl, rfl, rfl, rfl⟩
        rw [← hna] at f1
        rw [← hnc] at f3
        rw [← hnn] at f4
        rw [← hnv] at f5
        clear h7 h7b hj hs2 hna hnc hnn hnv
        generalize l.getD j Co.zero = m at *
        obtain ⟨w2, hw2⟩ : ∃ w2, w2 = wr.alloc (.cells #[.int .i64 7, .int .i64 na, .int .i64 j, .int .i64 nc, .int .i64 nnum, .slice (some ⟨vg, 0, none⟩) nvl nvl] 87) := ⟨_, rfl⟩
        have B2 : Below wr.heap.size wr w2 := by rw [hw2]; exact (Below.refl _ _).alloc (Nat.le_refl _) _
        have O2 : Own w2 wr.heap.size 87 [.int .i64 7, .int .i64 na, .int .i64 j, .int .i64 nc, .int .i64 nnum, .slice (some ⟨vg, 0, none⟩) nvl nvl] := by rw [hw2]; exact ⟨_, heap_alloc_new _ _, rfl⟩
        have hbr : b < wr.heap.size := Nat.lt_of_lt_of_le hb BW.size
        have kb : ∀ i, w2.cell? ⟨b, i, none⟩ = wr.cell? ⟨b, i, none⟩ := fun i => by simp only [World.cell?, B2.block b hbr]
        have p0 := (kb _).trans e0
        have p1 := (kb _).trans e1
        have p2 := (kb _).trans e2
        have p3 := (kb _).trans e3
        have p4 := (kb _).trans e4
        have p5 := (kb _).trans e5
        have q0 : w2.cell? ⟨wr.heap.size, 0, none⟩ = some (.int .i64 7) := O2.cell 0
        have q2 : w2.cell? ⟨wr.heap.size, 2, none⟩ = some (.int .i64 j) := O2.cell 2
        have HIT := hide (isText_any m vq w2 (hrq.below B2 hvq) (Nat.lt_of_lt_of_le hvq B2.size) (unhide HTL))
        have HRQ := hide (hrq.below B2 hvq)
        have hvq2 : vq < w2.heap.size := Nat.lt_of_lt_of_le hvq B2.size
        have HKB := hide (fun (W : World) (hb3 : Below w2.heap.size w2 W) (i : Nat) => show W.cell? ⟨b, i, none⟩ = w2.cell? ⟨b, i, none⟩ by simp only [World.cell?, hb3.block b (Nat.lt_of_lt_of_le hbr B2.size)])
        have HP := hide (And.intro p2 p5)
        clear kb e0 e1 e2 e3 e4 e5 hrq hvq
        go_upto_region 8 with fail
        rw [← hw2]
        clear hw2 f0 f1 f2 f3 f4 f5
        go_wp2_with fail
        refine (unhide HIT).mono ?_
        rintro e w3 ⟨rfl, hb3⟩
        have B3 : Below wr.heap.size wr w3 := B2.trans (hb3.mono B2.size)
        have O3 := O2.below hb3 O2.lt
        have r2 : w3.cell? ⟨wr.heap.size, 2, none⟩ = some (.int .i64 j) := O3.cell 2
        have r5 := ((unhide HKB) w3 hb3 (j * 6 + 5)).trans (unhide HP).2
        have BR3 : Below w1.heap.size w1 w3 := hbel.trans (B3.mono hszr)
        have hsz3 : w1.heap.size ≤ w3.heap.size := BR3.size
        have HO3 := hide (Tr.owns_below (unhide HOW) B3)
        have HRQ3 := hide ((unhide HRQ).below hb3 hvq2)
        clear HIT HKB HP p0 p1 p2 p3 p4 p5 q0 q2 O2 O3 hb3 B2
        cases hit : Co.isText m with
        | false =>
          have hn2 := hide (show L = Tr.bnd (Co.rt l) (k + 1) by rw [unhide HBD, if_neg (by rw [unhide HRD, hit]; decide)])
          clear HBD HRD HRT HTL
          go_wp2_with fail
          go_roundg (l.length - (k + 1))
          case rel => exact ⟨k + 1, L, rfl, by go_num, by omega, unhide hn2, by omega, unhide HO3, BR3⟩
          case measure => have := hg.out; omega
        | true =>
          have hn2 := hide (show L ++ [(m.val.getD 0 M.zero).text] = Tr.bnd (Co.rt l) (k + 1) by rw [unhide HBD, if_pos (by rw [unhide HRD, hit]), unhide HRT])
          have hml : 0 < m.val.length := (unhide HTL) (by unfold Co.isText at hit; rw [Bool.and_eq_true] at hit; simpa using hit.1)
          have hmI : (0 : Int) < (m.val.length : Int) := by omega
          have gg := (unhide HRQ3) 0 hml
          have g2 := gg.2.2.1
          simp only [Nat.zero_mul, Nat.add_zero, Nat.zero_add] at g2
          clear HBD HRD HRT HTL gg hit
          generalize (m.val.getD 0 M.zero).text = t at *
          generalize m.val.length = ml at *
          have HO2 := hide (fun o => (unhide HO3).alloc o)
          have hone := hide (one_val w3 (.string t) 9)
          have honep := hide (show ∀ u ∈ ([Value.string t] : List Value), u.oneCell' = true by intro u hu; simp only [List.mem_cons, List.not_mem_nil, or_false] at hu; subst hu; rfl)
          have hk63 : L.length + 1 ≤ maxLen := by unfold maxLen; omega
          have hby : (L.length + 1) * 16 ≤ 140737488355328 := by omega
          have HBS := hide (Tr.owns_base (unhide HO3))
          go_wp2_with (at_builtin; refine wpList_append_own _ rfl (.tmp 30) (.tmp 40) 24 rfl w1.heap.size 9 t0 (.string ByteArray.empty) 1 16 Try.underlying24 ht0 hy0 hy1 hy2 rfl (by decide) _ L.length _ rfl ((unhide HO2) _) ⟨w3.heap.size, 0, none⟩ 1 1 [.string t] rfl rfl (unhide hone) (unhide honep) hk63 hby (by simp; omega) ?_)
          intro v' w4 ho3 hg3 _
          have B4 : Below w1.heap.size w1 w4 := (BR3.alloc hsz3 _).grown hg3 (by simp; omega) (unhide HBS)
          have HO4 := hide (show w4.ownsRow w1.heap.size 9 1 v' (L ++ [t]).length ((L ++ [t]).map Value.string) by simpa using ho3)
          obtain ⟨xa, xc, hx⟩ := Tr.owns_slice ho3
          subst hx
          clear ho3 hg3 HO2 r2 r5 g2 HRQ3
          go_wp2_with fail
          go_roundg (l.length - (k + 1))
          case rel => exact ⟨k + 1, L ++ [t], rfl, by go_num, by omega, unhide hn2, by simp; omega, unhide HO4, B4⟩
          case measure => have := hg.out; omega
      · have hn2 := hide (show L = Tr.bnd (Co.rt l) (k + 1) by rw [unhide HBD, if_neg (by unfold Co.rdr; rw [beq_eq_false_iff_ne.2 h7, Bool.false_and]; decide)])
        have g7 : ((l.getD k Co.zero).op == 7) = false := beq_eq_false_iff_ne.2 h7
        generalize l.getD k Co.zero = n at *
        obtain ⟨w2, hw2⟩ : ∃ w2, w2 = wr.alloc (.cells #[.int .i64 n.op, .int .i64 n.a, .int .i64 n.b, .int .i64 n.c, .int .i64 n.num, .slice (some ⟨vg, 0, none⟩) n.val.length n.val.length] 87) := ⟨_, rfl⟩
        have B2 : Below wr.heap.size wr w2 := by rw [hw2]; exact (Below.refl _ _).alloc (Nat.le_refl _) _
        have O2 : Own w2 wr.heap.size 87 [.int .i64 n.op, .int .i64 n.a, .int .i64 n.b, .int .i64 n.c, .int .i64 n.num, .slice (some ⟨vg, 0, none⟩) n.val.length n.val.length] := by rw [hw2]; exact ⟨_, heap_alloc_new _ _, rfl⟩
        have q0 : w2.cell? ⟨wr.heap.size, 0, none⟩ = some (.int .i64 n.op) := O2.cell 0
        have HO2 := hide (Tr.owns_below (unhide HOW) B2)
        have BR2 : Below w1.heap.size w1 w2 := hbel.trans (B2.mono hszr)
        clear HBD h7 O2 HOW
        go_upto_region 8 with fail
        rw [← hw2]
        clear hw2 f0 f1 f2 f3 f4 f5
        go_wp2_with fail
        go_roundg (l.length - (k + 1))
        case rel => exact ⟨k + 1, L, rfl, by go_num, by omega, unhide hn2, by omega, unhide HO2, BR2⟩
        case measure => have := hg.out; omega
    · have hke : k = l.length := by omega
      have hltI : ¬ (k : Int) < (l.length : Int) := by omega
      have hsr : w.heap.size + 1 ≤ wr.heap.size := Nat.le_trans hlt1 hbel.size
      have HLV := hide (show Tr.onceB L = Tr.varsK (Co.rt l) l.length by rw [hL.out, hke]; exact Co.rd_once l)
      clear hke
      have HC2 := hide (sortedOnce_any _ L w1.heap.size wr (unhide HOW) hbel.size (by omega))
      obtain ⟨ua, uc, hu⟩ := Tr.owns_slice (unhide HOW)
      subst hu
      clear HOW
      go_wp2_with fail
      refine (unhide HC2).mono ?_
      rintro e w5 ⟨ra, rn, rc, rfl, hrw, hbw⟩
      have hbw1 : Below w1.heap.size w1 w5 := hbel.trans hbw
      clear HC2
      have B5 : Below w.heap.size w w5 := B1.trans (hbw1.mono B1.size)
      have OX := O1.below hbw1 O1.lt
      have HRW := hide (show w5.ownsRow (w.heap.size + 1) 9 1 (.slice ra rn rc) (Tr.varsK (Co.rt l) l.length).length ((Tr.varsK (Co.rt l) l.length).map Value.string) by
        rw [← unhide HLV]
        exact Tr.owns_lower hrw hlt1)
      clear hrw
      obtain ⟨c0, c1⟩ := nres_of OX
      have z0 := OX.frozen 0
      have z1 := OX.frozen 1
      have O2 := hide ((OX.set 0 (.int .i64 0)).set 1 (.slice ra rn rc))
      clear OX
      go_wp2_with fail
      obtain ⟨q0, q1⟩ := nres_of (x := 0) (v := .slice ra rn rc) (unhide O2)
      clear c0 c1 z0 z1 O2
      have B2 : Below w.heap.size w ((w5.setCell ⟨w.heap.size, 0, none⟩ (.int .i64 0)).setCell ⟨w.heap.size, 1, none⟩ (.slice ra rn rc)) := (B5.setCell (Nat.le_refl _) _).setCell (Nat.le_refl _) _
      have HROW := hide (Tr.owns_two (b := w.heap.size) (unhide HRW) (by omega) (.int .i64 0) (.slice ra rn rc))
      generalize (w5.setCell ⟨w.heap.size, 0, none⟩ (.int .i64 0)).setCell ⟨w.heap.size, 1, none⟩ (.slice ra rn rc) = WW at *
      refine bodyPost_ret (v := .agg #[.int .i64 0, .slice ra rn rc]) (by simp [results, Try.results39, go_sem, q0, q1]; try rfl) rfl ⟨_, by rw [unhide fin], by rw [unhide fin]; exact unhide HROW, B2⟩

end Go.Proofs.Ytokcefcjkjhnbaa
