/-
  The library's merge of two sorted runs of places: one place on the left, and one on the right.
-/
import Derived.Test.YtmeofjefhkdbgaaQ45
namespace Go.Proofs.Ytmeofjefhkdbgaa
open Go.RowKit
set_option linter.unusedVariables false

set_option maxRecDepth 100000 in
set_option maxHeartbeats 4000000 in
theorem mergeLeftS_any (b n cap : Nat) (β ν γ : Nat → Nat) (ps : List (List M.Cl)) (f : Nat → Nat) (a e : Nat) (w : World) (h : OwnS β ν γ w b n f) (hK : PartsAt w b β ν γ ps) (hks : ps.length = n) (hin : ∀ k, k < n → f k < n) (hs : St.Srt (St.pltV ps) (a + 1) e f) (hlo : St.Lo a (a + 1) e f) (hae : a + 1 < e) (hen : e ≤ n) (hn : n ≤ 1048576) (hcap : n ≤ cap) :
    Calls Try.prog 71 #[.slice (some ⟨b, 0, none⟩) n cap, .int .i64 a, .int .i64 ((a : Int) + 1), .int .i64 e, .func (.func 22) #[] #[]] w fun r w' => r = .returned (.tuple #[]) ∧ ∃ f', OwnS β ν γ w' b n f' ∧ St.Per a e f f' ∧ St.Srt (St.pltV ps) a e f' ∧ But w.heap.size b w w' := by
  have HK := hide hK
  have HIN := hide hin
  have HS := hide hs
  have HLO := hide hlo
  clear hK hin hs hlo
  go_enter Try.func71, Try.ntmps71
  go_wp2_with fail
  rw [show ((a : Int) + 1 - (a : Int) == 1) = true by rw [show (a : Int) + 1 - (a : Int) = 1 by omega]; rfl]
  go_loopg [10, 11] (e - a - 1) (fun gh s10 s11 wr => ∃ i j : Nat, Hid (gh = j - i) ∧ s10 = .int .i64 i ∧ s11 = .int .i64 j ∧ a + 1 ≤ i ∧ i ≤ j ∧ j ≤ e ∧ Hid (∀ h, a + 1 ≤ h → h < i → St.ptestV ps (f h) (f a) = true) ∧ Hid (∀ h, j ≤ h → h < e → St.ptestV ps (f h) (f a) = false) ∧ OwnS β ν γ wr b n f ∧ But w.heap.size b w wr)
  case atStart => exact ⟨a + 1, e, by show _ = _; omega, by go_num, rfl, by omega, by omega, by omega, fun h h1 h2 => by omega, fun h h1 h2 => by omega, h, But.refl _ _ _⟩
  case round =>
    obtain ⟨i, j, hg, rfl, rfl, hi1, hij, hje, hl, hr, ho, hbut⟩ := hrel
    by_cases hlt : i < j
    · have hltz : (i : Int) < (j : Int) := by omega
      obtain ⟨q, hq⟩ : ∃ q : Nat, q = (i + j) / 2 := ⟨_, rfl⟩
      have hqi : i ≤ q := by omega
      have hqj : q < j := by omega
      have eq : ((i : Int) + (j : Int)) / 2 = (q : Int) := by omega
      have hqz : (q : Int) < (n : Int) := by omega
      have haz : (a : Int) < (n : Int) := by omega
      clear hq
      have l1 := show wr.cell? ⟨b, q, none⟩ = some (.slice (some ⟨β (f q), 0, none⟩) (ν (f q)) (γ (f q))) from ho.cell (by omega)
      have l2 := show wr.cell? ⟨b, a, none⟩ = some (.slice (some ⟨β (f a), 0, none⟩) (ν (f a)) (γ (f a))) from ho.cell (by omega)
      have HC := cmpS_any (f q) (f a) b β ν γ ps wr.drew ((unhide HK).but hbut.drew) (by rw [hks]; exact (unhide HIN) q (by omega)) (by rw [hks]; exact (unhide HIN) a (by omega)) (by omega)
      have hneg := St.cmpV_neg ps (f q) (f a)
      generalize St.cmpV ps (f q) (f a) = c at *
      cases hv : St.ptestV ps (f q) (f a) with
      | true =>
        rw [hv] at hneg
        have hl2 := hide (show ∀ h, a + 1 ≤ h → h < q + 1 → St.ptestV ps (f h) (f a) = true from fun h h1 h2 => St.find_up (St.pordV ps) (unhide HS) h1 (by omega) (by omega) hv)
        clear hv
        go_wp2_with fail
        go_region_held3 (fun w' => w'.cell? ⟨b, q, none⟩ = some (.slice (some ⟨β (f q), 0, none⟩) (ν (f q)) (γ (f q))) ∧ w'.cell? ⟨b, a, none⟩ = some (.slice (some ⟨β (f a), 0, none⟩) (ν (f a)) (γ (f a)))) (first | (simp [go_sem, l1, l2]; done) | exact ⟨(hb7.cell (by exact ho.lt)).trans l1, (hb7.cell (by exact ho.lt)).trans l2⟩)
          (first | (go_at_call 22; refine HC.mono ?_; rintro ec w7 ⟨rfl, hb7⟩))
        have ho7 := ho.drew.below hb7 ho.drew.lt
        have hbut7 := hbut.drew.then hb7
        clear l1 l2
        go_wp2_with fail
        go_roundg (j - (q + 1))
        case rel => exact ⟨q + 1, j, rfl, by go_num, rfl, by omega, by omega, hje, unhide hl2, hr, ho7, hbut7⟩
        case measure => have := hg.out; omega
      | false =>
        rw [hv] at hneg
        have hr2 := hide (show ∀ h, q ≤ h → h < e → St.ptestV ps (f h) (f a) = false from fun h h1 h2 => by
          cases hx : St.ptestV ps (f h) (f a) with
          | false => rfl
          | true =>
            have := St.find_up (St.pordV ps) (unhide HS) (h' := q) (h := h) (by omega) h1 h2 hx
            rw [hv] at this; cases this)
        clear hv
        go_wp2_with fail
        go_region_held3 (fun w' => w'.cell? ⟨b, q, none⟩ = some (.slice (some ⟨β (f q), 0, none⟩) (ν (f q)) (γ (f q))) ∧ w'.cell? ⟨b, a, none⟩ = some (.slice (some ⟨β (f a), 0, none⟩) (ν (f a)) (γ (f a)))) (first | (simp [go_sem, l1, l2]; done) | exact ⟨(hb7.cell (by exact ho.lt)).trans l1, (hb7.cell (by exact ho.lt)).trans l2⟩)
          (first | (go_at_call 22; refine HC.mono ?_; rintro ec w7 ⟨rfl, hb7⟩))
        have ho7 := ho.drew.below hb7 ho.drew.lt
        have hbut7 := hbut.drew.then hb7
        clear l1 l2
        go_wp2_with fail
        go_roundg (q - i)
        case rel => exact ⟨i, q, rfl, rfl, rfl, by omega, by omega, by omega, hl, unhide hr2, ho7, hbut7⟩
        case measure => have := hg.out; omega
    · have hij' : i = j := by omega
      subst hij'
      have fin := hide (St.up_sorted (St.pordV ps) (unhide HS) (unhide HLO) hi1 hje hl.out hr.out)
      have per := hide ((St.Per.up f (a := a) (i := i) (by omega)).mono (Nat.le_refl _) hje)
      clear hl hr
      go_wp2_with fail
      go_loopg [13] (i - a) (fun gh s13 wr2 => ∃ k : Nat, Hid (gh = i - k) ∧ s13 = .int .i64 k ∧ a ≤ k ∧ k + 1 ≤ i ∧ OwnS β ν γ wr2 b n (St.up f a (k + 1)) ∧ But w.heap.size b w wr2)
      case atStart => exact ⟨a, rfl, rfl, by omega, by omega, ho.all (St.up_one f a).symm, hbut⟩
      case round =>
        obtain ⟨k, hg2, rfl, hak, hki, ho2, hbut2⟩ := hrel
        by_cases hk2 : k + 1 < i
        · have hk2z : (k : Int) < (i : Int) - 1 := by omega
          have hk3z : (k : Int) + 1 < (n : Int) := by omega
          have hk4z : (k : Int) < (n : Int) := by omega
          have l1 := ho2.cell (show k < n by omega)
          have l2 := ho2.cell (show k + 1 < n by omega)
          have l3 := ho2.second (i := k) (j := k + 1) (by omega) (by omega)
          have z1 := ho2.frozen (k + 1)
          have z2 := ho2.frozen k
          have hs := hide (ho2.swap (show k < n by omega) (show k + 1 < n by omega))
          rw [St.up_succ f a k hak] at hs
          generalize St.up f a (k + 1) k = x at *
          generalize St.up f a (k + 1) (k + 1) = y at *
          clear ho2 ho
          go_wp2_with fail
          go_big_region
          clear l1 l2 l3 z1 z2
          go_wp2_with fail
          go_roundg (i - (k + 1))
          case rel => exact ⟨k + 1, rfl, by go_num, by omega, by omega, (unhide hs).drew, ((hbut2.trans (But.set _ b k _ _)).trans (But.set _ b (k + 1) _ _)).drew⟩
          case measure => have := hg2.out; omega
        · have hk2z : ¬ (k : Int) < (i : Int) - 1 := by omega
          have hke : k + 1 = i := by omega
          have ho3 := ho2.all (show St.up f a (k + 1) = St.up f a i by rw [hke])
          clear ho2 ho hke
          go_wp2_with fail
          refine bodyPost_ret (v := .tuple #[]) (by simp [results, Try.results71, go_sem]) rfl ⟨rfl, _, ho3, unhide per, unhide fin, hbut2⟩
end Go.Proofs.Ytmeofjefhkdbgaa
