/-
  The library's merge of two sorted runs of places: one place on the right.
-/
import Derived.Test.YtmeofjefhkdbgaaQ46
namespace Go.Proofs.Ytmeofjefhkdbgaa
open Go.RowKit
set_option linter.unusedVariables false

set_option maxRecDepth 100000 in
set_option maxHeartbeats 4000000 in
theorem mergeRightS_any (b n cap : Nat) (β ν γ : Nat → Nat) (ps : List (List M.Cl)) (f : Nat → Nat) (a m : Nat) (w : World) (h : OwnS β ν γ w b n f) (hK : PartsAt w b β ν γ ps) (hks : ps.length = n) (hin : ∀ k, k < n → f k < n) (hs : St.Srt (St.pltV ps) a m f) (hlo : St.Lo a m (m + 1) f) (ham : a + 1 < m) (hen : m + 1 ≤ n) (hn : n ≤ 1048576) (hcap : n ≤ cap) :
    Calls Try.prog 71 #[.slice (some ⟨b, 0, none⟩) n cap, .int .i64 a, .int .i64 m, .int .i64 ((m : Int) + 1), .func (.func 22) #[] #[]] w fun r w' => r = .returned (.tuple #[]) ∧ ∃ f', OwnS β ν γ w' b n f' ∧ St.Per a (m + 1) f f' ∧ St.Srt (St.pltV ps) a (m + 1) f' ∧ But w.heap.size b w w' := by
  have HK := hide hK
  have HIN := hide hin
  have HS := hide hs
  have HLO := hide hlo
  have t1 : ((m : Int) - (a : Int) == 1) = false := by simp; omega
  have t2 : ((m : Int) + 1 - (m : Int) == 1) = true := by simp; omega
  clear hK hin hs hlo
  go_enter Try.func71, Try.ntmps71
  go_wp2_with fail
  go_loopg [14, 15] (m - a) (fun gh s14 s15 wr => ∃ i j : Nat, Hid (gh = j - i) ∧ s14 = .int .i64 i ∧ s15 = .int .i64 j ∧ a ≤ i ∧ i ≤ j ∧ j ≤ m ∧ Hid (∀ h, a ≤ h → h < i → St.ptestV ps (f m) (f h) = false) ∧ Hid (∀ h, j ≤ h → h < m → St.ptestV ps (f m) (f h) = true) ∧ OwnS β ν γ wr b n f ∧ But w.heap.size b w wr)
  case atStart => exact ⟨a, m, rfl, rfl, rfl, by omega, by omega, by omega, fun h h1 h2 => by omega, fun h h1 h2 => by omega, h, But.refl _ _ _⟩
  case round =>
    obtain ⟨i, j, hg, rfl, rfl, hi1, hij, hje, hl, hr, ho, hbut⟩ := hrel
    by_cases hlt : i < j
    · have hltz : (i : Int) < (j : Int) := by omega
      obtain ⟨q, hq⟩ : ∃ q : Nat, q = (i + j) / 2 := ⟨_, rfl⟩
      have hqi : i ≤ q := by omega
      have hqj : q < j := by omega
      have eq : ((i : Int) + (j : Int)) / 2 = (q : Int) := by omega
      have hqz : (q : Int) < (n : Int) := by omega
      have haz : (m : Int) < (n : Int) := by omega
      clear hq
      have l1 := show wr.cell? ⟨b, m, none⟩ = some (.slice (some ⟨β (f m), 0, none⟩) (ν (f m)) (γ (f m))) from ho.cell (by omega)
      have l2 := show wr.cell? ⟨b, q, none⟩ = some (.slice (some ⟨β (f q), 0, none⟩) (ν (f q)) (γ (f q))) from ho.cell (by omega)
      have HC := cmpS_any (f m) (f q) b β ν γ ps wr.drew ((unhide HK).but hbut.drew) (by rw [hks]; exact (unhide HIN) m (by omega)) (by rw [hks]; exact (unhide HIN) q (by omega)) (by omega)
      have hneg := St.cmpV_neg ps (f m) (f q)
      generalize St.cmpV ps (f m) (f q) = c at *
      cases hv : St.ptestV ps (f m) (f q) with
      | false =>
        rw [hv] at hneg
        have hl2 := hide (show ∀ h, a ≤ h → h < q + 1 → St.ptestV ps (f m) (f h) = false from fun h h1 h2 => by
          cases hx : St.ptestV ps (f m) (f h) with
          | false => rfl
          | true =>
            have := St.find_dn (St.pordV ps) (unhide HS) (h := h) (h' := q) h1 (by omega) (by omega) hx
            rw [hv] at this; cases this)
        clear hv
        go_wp2_with fail
        go_region_held3 (fun w' => w'.cell? ⟨b, m, none⟩ = some (.slice (some ⟨β (f m), 0, none⟩) (ν (f m)) (γ (f m))) ∧ w'.cell? ⟨b, q, none⟩ = some (.slice (some ⟨β (f q), 0, none⟩) (ν (f q)) (γ (f q)))) (first | (simp [go_sem, l1, l2]; done) | exact ⟨(hb7.cell (by exact ho.lt)).trans l1, (hb7.cell (by exact ho.lt)).trans l2⟩)
          (first | (go_at_call 22; refine HC.mono ?_; rintro ec w7 ⟨rfl, hb7⟩))
        have ho7 := ho.drew.below hb7 ho.drew.lt
        have hbut7 := hbut.drew.then hb7
        clear l1 l2
        go_wp2_with fail
        go_roundg (j - (q + 1))
        case rel => exact ⟨q + 1, j, rfl, by go_num, rfl, by omega, by omega, hje, unhide hl2, hr, ho7, hbut7⟩
        case measure => have := hg.out; omega
      | true =>
        rw [hv] at hneg
        have hr2 := hide (show ∀ h, q ≤ h → h < m → St.ptestV ps (f m) (f h) = true from fun h h1 h2 => St.find_dn (St.pordV ps) (unhide HS) (h := q) (h' := h) (by omega) h1 h2 hv)
        clear hv
        go_wp2_with fail
        go_region_held3 (fun w' => w'.cell? ⟨b, m, none⟩ = some (.slice (some ⟨β (f m), 0, none⟩) (ν (f m)) (γ (f m))) ∧ w'.cell? ⟨b, q, none⟩ = some (.slice (some ⟨β (f q), 0, none⟩) (ν (f q)) (γ (f q)))) (first | (simp [go_sem, l1, l2]; done) | exact ⟨(hb7.cell (by exact ho.lt)).trans l1, (hb7.cell (by exact ho.lt)).trans l2⟩)
          (first | (go_at_call 22; refine HC.mono ?_; rintro ec w7 ⟨rfl, hb7⟩))
        have ho7 := ho.drew.below hb7 ho.drew.lt
        have hbut7 := hbut.drew.then hb7
        clear l1 l2
        go_wp2_with fail
        go_roundg (q - i)
        case rel => exact ⟨i, q, rfl, rfl, rfl, by omega, by omega, by omega, hl, unhide hr2, ho7, hbut7⟩
        case measure => have := hg.out; omega
    · have hij' : i = j := by omega
      subst hij'
      have fin := hide (St.dn_sorted (St.pordV ps) (unhide HS) (unhide HLO) hi1 hje hl.out hr.out)
      have per := hide ((St.Per.dn f hje).mono hi1 (Nat.le_refl _))
      clear hl hr
      go_wp2_with fail
      go_loopg [17] (m - i) (fun gh s17 wr2 => ∃ k : Nat, Hid (gh = k - i) ∧ s17 = .int .i64 k ∧ i ≤ k ∧ k ≤ m ∧ OwnS β ν γ wr2 b n (St.dn f k m) ∧ But w.heap.size b w wr2)
      case atStart => exact ⟨m, rfl, rfl, by omega, by omega, ho.all (St.dn_zero f m).symm, hbut⟩
      case round =>
        obtain ⟨k, hg2, rfl, hak, hki, ho2, hbut2⟩ := hrel
        by_cases hk2 : i < k
        · obtain ⟨kp, rfl⟩ : ∃ q, k = q + 1 := ⟨k - 1, by omega⟩
          have hk2z : (i : Int) < (kp : Int) + 1 := by omega
          have hk3z : (kp : Int) + 1 < (n : Int) := by omega
          have hk4z : (kp : Int) < (n : Int) := by omega
          have l1 := ho2.cell (show kp < n by omega)
          have l2 := ho2.cell (show kp + 1 < n by omega)
          have l3 := ho2.second (i := kp + 1) (j := kp) (by omega) (by omega)
          have z1 := ho2.frozen (kp + 1)
          have z2 := ho2.frozen kp
          have hs := hide (ho2.swap (show kp + 1 < n by omega) (show kp < n by omega))
          rw [St.dn_succ f kp m (by omega)] at hs
          generalize St.dn f (kp + 1) m kp = x at *
          generalize St.dn f (kp + 1) m (kp + 1) = y at *
          clear ho2 ho
          go_wp2_with fail
          go_big_region
          clear l1 l2 l3 z1 z2
          go_wp2_with fail
          go_roundg (kp - i)
          case rel => exact ⟨kp, rfl, by go_num, by omega, by omega, (unhide hs).drew, ((hbut2.trans (But.set _ b (kp + 1) _ _)).trans (But.set _ b kp _ _)).drew⟩
          case measure => have := hg2.out; omega
        · have hk2z : ¬ (i : Int) < (k : Int) := by omega
          have hke : k = i := by omega
          have ho3 := ho2.all (show St.dn f k m = St.dn f i m by rw [hke])
          clear ho2 ho hke
          go_wp2_with fail
          refine bodyPost_ret (v := .tuple #[]) (by simp [results, Try.results71, go_sem]) rfl ⟨rfl, _, ho3, unhide per, unhide fin, hbut2⟩
end Go.Proofs.Ytmeofjefhkdbgaa
