/-
  Values and a key that are drawn for a law.
-/
import Derived.Test.YtfcglmkbfdfaeaaS45
namespace Go.Proofs.Ytfcglmkbfdfaeaa
open Go.RowKit
set_option linter.unusedVariables false
set_option linter.unusedSimpArgs false

set_option maxRecDepth 100000 in
set_option maxHeartbeats 2000000 in
theorem l1BentText_any (bs len cap at_ : Nat) (a : Option Addr) (w : World) (h : Src w bs a len cap at_) (hat : at_ ≤ 900000000) :
    Calls Try.prog 15 #[.pointer (some ⟨bs, 0, none⟩)] w fun e w' => ∃ (t : ByteArray) (at2 : Nat), e = .returned (.string t) ∧ t.size ≤ 200 ∧ at2 ≤ at_ + 3 ∧ Src w' bs a len cap at2 ∧ Tch w.heap.size bs w w' := by
  go_enter Try.func15, Try.ntmps15
  go_wp2_with fail
  refine (l1Word_any bs len cap at_ a w h (by omega)).mono ?_
  rintro e w1 ⟨⟨t, rfl, ht⟩, S1, T1⟩
  clear h
  go_wp2_with fail
  refine (l1Next_any 10 bs len cap (at_ + 1) a w1 S1 (by decide) (by omega)).mono ?_
  rintro e w2 ⟨r, rfl, hr, S2, T2⟩
  have TT : Tch w.heap.size bs w w2 := T1.trans (T2.mono T1.size)
  have HS2 := hide S2
  have HTT := hide TT
  clear hr S1 T1 T2 TT S2
  have hcat : ∀ (t : ByteArray) (c : UInt8), (t ++ ⟨#[c]⟩ : ByteArray).size = t.size + 1 := fun t c => by rw [ByteArray.size_append]; rfl
  have HCAT := hide hcat
  clear hcat
  by_cases h0 : r = 0
  · subst h0
    go_wp2_with fail
    go_ret
    exact ⟨_, at_ + 1 + 1, rfl, by rw [(unhide HCAT)]; omega, by omega, unhide HS2, unhide HTT⟩
  by_cases h1 : r = 1
  · subst h1
    go_wp2_with fail
    go_loopg [3] (61 - t.size) (fun gh s3 wr => ∃ t : ByteArray, Hid (gh = 61 - t.size) ∧ s3 = .string t ∧ t.size ≤ 200 ∧ Hid (wr = w2))
    case atStart => exact ⟨t, rfl, rfl, by omega, rfl⟩
    case round =>
      obtain ⟨t1, hg, rfl, ht1, hw⟩ := hrel
      by_cases hlt : t1.size < 61
      · have hI : (t1.size : Int) < 61 := by omega
        go_wp2_with fail
        go_roundg (61 - (t1.size + 1))
        case rel => exact ⟨t1 ++ ⟨#[122]⟩, by rw [(unhide HCAT)]; rfl, rfl, by rw [(unhide HCAT)]; omega, unhide hw⟩
        case measure => have := hg.out; omega
      · have hI : ¬ (t1.size : Int) < 61 := by omega
        have HN := hide (l1Next_any 2 bs len cap (at_ + 1 + 1) a wr (by rw [unhide hw]; exact unhide HS2) (by decide) (by omega))
        go_wp2_with fail
        refine (unhide HN).mono ?_
        rintro e w3 ⟨r3, rfl, hr3, S3, T3⟩
        have h3 := hr3 (by decide)
        have hr3' : r3 < 2 := by omega
        have T4 : Tch w.heap.size bs w w3 := (unhide HTT).trans (by rw [← unhide hw]; exact T3.mono (by rw [unhide hw]; exact (unhide HTT).size))
        have HS3 := hide S3
        have HT4 := hide T4
        have hex : (t1.extract 0 (60 + r3)).size ≤ 200 := by rw [ByteArray.size_extract]; omega
        have hle : 60 + r3 ≤ t1.size := by omega
        clear hr3 S3 T3 T4 hw h3 HN
        go_wp2_with fail
        go_ret
        exact ⟨_, at_ + 1 + 1 + 1, rfl, hex, by omega, unhide HS3, unhide HT4⟩
  have hn0 : ¬ (r : Int) = 0 := by omega
  have hn1 : ¬ (r : Int) = 1 := by omega
  go_wp2_with fail
  go_ret
  exact ⟨_, at_ + 1 + 1, rfl, by omega, by omega, unhide HS2, unhide HTT⟩
namespace Dv
theorem Got.kept {V V' : World} {B bs : Nat} {s : Value} {l : List M.Cl} (h : Got V B s l) (hT : Tch V.heap.size bs V V') (hB : bs < B) : Got V' B s l := ⟨h.1, rs_kept h.2.1 (Tch.kept hT hB), h.2.2⟩
end Dv
set_option maxRecDepth 100000 in
set_option maxHeartbeats 4000000 in
theorem drawSetKey_any (a : Option Addr) (len cap : Nat) (w : World) (hB : Byts w a len cap) (hl : len ≤ 1048600) : Calls Try.prog 5 #[.slice a len cap] w fun e w' => ∃ s1 l1 k s2 l2, e = .returned (.tuple #[s1, .string k, s2]) ∧ k.size ≤ 200 ∧ Dv.Got w' w.heap.size s1 l1 ∧ Dv.Got w' w.heap.size s2 l2 ∧ Below w.heap.size w w' := by
  have HS := hide (l1Source_any a len cap w hB.2 hB.1 hl)
  clear hB
  go_enter Try.func5, Try.ntmps5
  go_wp2_with fail
  refine (unhide HS).mono ?_
  rintro e w1 ⟨rfl, S1, B1⟩
  have hbs : w.heap.size < w1.heap.size := S1.lt
  go_wp2_with fail
  refine (l1Bent_any w.heap.size len cap 0 a w1 S1 (by omega)).mono ?_
  rintro e w2 ⟨s, l, at2, rfl, hr, hl3, hok, S2, hat2, T2, g, gc, rfl⟩
  have BF : Below w.heap.size w w2 := B1.trans (T2.below B1.size (Nat.le_refl _))
  have G2 := hide (show Dv.Got w2 w1.heap.size (.slice (some ⟨g, 0, none⟩) l.length gc) l from ⟨⟨g, gc, rfl⟩, hr, hl3, hok⟩)
  have hz1 := B1.size
  clear hr S1 T2 HS hok B1
  go_wp2_with fail
  refine (l1Key_any w.heap.size len cap at2 a w2 S2 (by omega)).mono ?_
  rintro e w3 ⟨⟨k1, rfl, hk1⟩, S3, T3⟩
  have G3 := hide ((unhide G2).kept T3 hbs)
  have B3 : Below w.heap.size w w3 := BF.trans (T3.below BF.size (Nat.le_refl _))
  clear G2 S2 T3 BF
  go_wp2_with fail
  refine (l1Key_any w.heap.size len cap (at2 + 1) a w3 S3 (by omega)).mono ?_
  rintro e w4 ⟨⟨k2, rfl, hk2⟩, S4, T4⟩
  have G4 := hide ((unhide G3).kept T4 hbs)
  have B4 : Below w.heap.size w w4 := B3.trans (T4.below B3.size (Nat.le_refl _))
  clear G3 S3 T4 B3
  go_wp2_with fail
  refine (l1Key_any w.heap.size len cap (at2 + 1 + 1) a w4 S4 (by omega)).mono ?_
  rintro e w5 ⟨⟨k3, rfl, hk3⟩, S5, T5⟩
  have G5 := hide ((unhide G4).kept T5 hbs)
  have B5 : Below w.heap.size w w5 := B4.trans (T5.below B4.size (Nat.le_refl _))
  clear G4 S4 T5 B4
  go_wp2_with fail
  refine (l1BentText_any w.heap.size len cap (at2 + 1 + 1 + 1) a w5 S5 (by omega)).mono ?_
  rintro e w6 ⟨k4, at6, rfl, hk4, hat6, S6, T6⟩
  have G6 := hide ((unhide G5).kept T6 hbs)
  have B6 : Below w.heap.size w w6 := B5.trans (T6.below B5.size (Nat.le_refl _))
  clear G5 S5 T6 B5
  obtain ⟨W7, hW7⟩ : ∃ W7, W7 = w6.alloc (.cells #[.string k1, .string k2, .string k3, .string k4] 9) := ⟨_, rfl⟩
  have b67 : Below w6.heap.size w6 W7 := by rw [hW7]; exact (Below.refl _ _).alloc (Nat.le_refl _) _
  have S7 : Src W7 w.heap.size a len cap at6 := S6.below b67
  have G7 := hide ((unhide G6).below b67)
  have B7 : Below w.heap.size w W7 := B6.trans (b67.mono B6.size)
  have O7 : Own W7 w6.heap.size 9 [.string k1, .string k2, .string k3, .string k4] := by rw [hW7]; exact ⟨_, heap_alloc_new _ _, rfl⟩
  have hz7 : w.heap.size < w6.heap.size := by have := B6.size; have := S6.lt; omega
  clear b67 G6 S6 B6
  go_wp2_with fail
  rw [← hW7]
  clear hW7
  refine (l1Next_any 4 w.heap.size len cap at6 a W7 S7 (by decide) (by omega)).mono ?_
  rintro e w8 ⟨r, rfl, hr8, S8, T8⟩
  have hr' : r < 4 := by have := hr8 (by decide); omega
  have G8 := hide ((unhide G7).kept T8 hbs)
  have B8 : Below w.heap.size w w8 := B7.trans (T8.below B7.size (Nat.le_refl _))
  have O8 : Own w8 w6.heap.size 9 [.string k1, .string k2, .string k3, .string k4] := by
    obtain ⟨c, q1, q2⟩ := O7
    exact ⟨c, (T8.block w6.heap.size (by exact (Array.getElem?_eq_some_iff.1 q1).1) (by omega)).trans q1, q2⟩
  obtain ⟨kk, hkk, hkc⟩ : ∃ kk : ByteArray, kk.size ≤ 200 ∧ w8.cell? ⟨w6.heap.size, r, none⟩ = some (.string kk) := by
    have hc := O8.cell r
    obtain rfl | rfl | rfl | rfl : r = 0 ∨ r = 1 ∨ r = 2 ∨ r = 3 := by omega
    · exact ⟨k1, by omega, hc⟩
    · exact ⟨k2, by omega, hc⟩
    · exact ⟨k3, by omega, hc⟩
    · exact ⟨k4, by omega, hc⟩
  have hrI : (r : Int) < 4 := by omega
  have hr0 : (0 : Int) ≤ (r : Int) := by omega
  have HB := hide (l1Bent_any w.heap.size len cap _ a w8 S8 (by omega))
  clear G7 S7 T8 B7 O7 O8 hr8 S8
  go_wp2_with fail
  refine (unhide HB).mono ?_
  rintro e w9 ⟨s4, l4, at4, rfl, hr4, hl4, hok4, S4, _, T4, g4, gc4, rfl⟩
  have B9 : Below w.heap.size w w9 := B8.trans (T4.below B8.size (Nat.le_refl _))
  have HG1 := hide (((unhide G8).kept T4 hbs).mono hz1)
  have HG2 := hide (show Dv.Got w9 w.heap.size (.slice (some ⟨g4, 0, none⟩) l4.length gc4) l4 from ⟨⟨g4, gc4, rfl⟩, hr4.mono B8.size, hl4, hok4⟩)
  clear G8 S4 T4 hr4 HB hkc
  go_wp2_with fail
  refine bodyPost_ret (v := .tuple #[.slice (some ⟨g, 0, none⟩) l.length gc, .string kk, .slice (some ⟨g4, 0, none⟩) l4.length gc4]) (by simp [results, Try.results5, go_sem]; try rfl) rfl ?_
  exact ⟨_, l, kk, _, l4, rfl, hkk, unhide HG1, unhide HG2, B9⟩
end Go.Proofs.Ytfcglmkbfdfaeaa
