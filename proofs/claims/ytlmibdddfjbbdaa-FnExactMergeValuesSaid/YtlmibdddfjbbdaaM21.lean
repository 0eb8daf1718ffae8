/-
  The library's merge of two sorted runs of places, in general.
-/
import Derived.Test.YtlmibdddfjbbdaaM20
namespace Go.Proofs.Ytlmibdddfjbbdaa
open Go.RowKit
set_option linter.unusedVariables false
set_option linter.unusedSimpArgs false

/-- What a merge of fewer than d places does. -/
def MergeUpto (b n cap kb g kc : Nat) (ks : List ByteArray) (d : Nat) : Prop :=
  ∀ (a m e : Nat) (f : Nat → Nat) (w : World), e - a ≤ d → a < m → m < e → e ≤ n → OwnF w b n f → KeysAt w kb g kc ks → (∀ k, k < n → f k < n) → St.Srt (St.plt ks) a m f → St.Srt (St.plt ks) m e f → St.Lo a m e f → Calls Try.prog 69 #[.slice (some ⟨b, 0, none⟩) n cap, .int .i64 a, .int .i64 m, .int .i64 e, .func (.func 57) #[] #[.pointer (some ⟨kb, 0, none⟩)]] w fun r w' => r = .returned (.tuple #[]) ∧ ∃ f', OwnF w' b n f' ∧ St.Per a e f f' ∧ St.Srt (St.plt ks) a e f' ∧ But w.heap.size b w w'

set_option maxRecDepth 100000 in
set_option maxHeartbeats 8000000 in
theorem mergeHigh_any (b n cap kb g kc : Nat) (ks : List ByteArray) (hkb : kb ≠ b) (hgb : g ≠ b) (hks : ks.length = n) (hn : n ≤ 1048576) (hcap : n ≤ cap) (d : Nat) (IH : MergeUpto b n cap kb g kc ks d) (a m e mid : Nat) (f : Nat → Nat) (w : World) (hd : e - a ≤ d + 1) (ham : a + 1 < m) (hme : m + 1 < e) (hen : e ≤ n) (h : OwnF w b n f) (hK : KeysAt w kb g kc ks) (hin : ∀ k, k < n → f k < n) (hl : St.Srt (St.plt ks) a m f) (hr : St.Srt (St.plt ks) m e f) (hlo : St.Lo a m e f) (hmid : mid = (a + e) / 2) (hc : mid < m) :
    Calls Try.prog 69 #[.slice (some ⟨b, 0, none⟩) n cap, .int .i64 a, .int .i64 m, .int .i64 e, .func (.func 57) #[] #[.pointer (some ⟨kb, 0, none⟩)]] w fun r w' => r = .returned (.tuple #[]) ∧ ∃ f', OwnF w' b n f' ∧ St.Per a e f f' ∧ St.Srt (St.plt ks) a e f' ∧ But w.heap.size b w w' := by
  have HK := hide hK
  have HIN := hide hin
  have HL := hide hl
  have HR := hide hr
  have HLO := hide hlo
  have hlk := hK.1
  have hlg := hK.2.1
  have t1 : ((m : Int) - (a : Int) == 1) = false := by simp; omega
  have t2 : ((e : Int) - (m : Int) == 1) = false := by simp; omega
  have emid : ((a : Int) + (e : Int)) / 2 = (mid : Int) := by omega
  obtain ⟨P, hP⟩ : ∃ P : Nat, P = mid + m - 1 := ⟨_, rfl⟩
  have eP : (mid : Int) + (m : Int) - 1 = (P : Int) := by omega
  obtain ⟨lo, hi, hlohi⟩ : ∃ lo hi : Nat, (mid < m ∧ lo + e = mid + m ∧ hi = mid) ∨ (m ≤ mid ∧ lo = a ∧ hi = m) := ⟨mid + m - e, mid, .inl (by omega)⟩
  have hcz : (mid : Int) < (m : Int) := by omega
  have elo : (mid : Int) + (m : Int) - (e : Int) = (lo : Int) := by omega
  have ehi : hi = mid := by omega
  have ham : a < m := by omega
  have hme : m < e := by omega
  have hx_0 : lo ≤ hi := by omega
  have hx_1 : a ≤ lo := by omega
  have hx_2 : hi ≤ m := by omega
  have hx_3 : hi ≤ mid := by omega
  have hx_4 : mid + m ≤ e + lo := by omega
  have hx_5 : mid < e := by omega
  have hx_6 : a < mid := by omega
  have HLH := hide hlohi
  have HP := hide hP
  have HMID := hide hmid
  clear hK hin hl hr hlo hlohi hmid hc hP
  have IH := hide IH
  go_enter Try.func69, Try.ntmps69
  go_wp2_with fail
  go_loopg [20, 21] (hi - lo) (fun gh s20 s21 wr => ∃ s r : Nat, Hid (gh = r - s) ∧ s20 = .int .i64 s ∧ s21 = .int .i64 r ∧ lo ≤ s ∧ s ≤ r ∧ r ≤ hi ∧ Hid (∀ c, lo ≤ c → c < s → St.ptest ks (f (mid + m - 1 - c)) (f c) = false) ∧ Hid (∀ c, r ≤ c → c < hi → St.ptest ks (f (mid + m - 1 - c)) (f c) = true) ∧ OwnF wr b n f ∧ But w.heap.size b w wr)
  case atStart => exact ⟨lo, hi, rfl, by first | rfl | (congr 1; omega), by first | rfl | (congr 1; omega), by omega, by omega, by omega, fun c h1 h2 => by omega, fun c h1 h2 => by omega, h, But.refl _ _ _⟩
  case round =>
    obtain ⟨s, r, hg, rfl, rfl, hls, hsr0, hrh, hno, hyes, ho, hbut⟩ := hrel
    by_cases hlt : s < r
    · have hltz : (s : Int) < (r : Int) := by omega
      obtain ⟨q, hq⟩ : ∃ q : Nat, q = (s + r) / 2 := ⟨_, rfl⟩
      have hqi : s ≤ q := by omega
      have hqj : q < r := by omega
      have eq : ((s : Int) + (r : Int)) / 2 = (q : Int) := by omega
      obtain ⟨x, hx⟩ : ∃ x : Nat, x = mid + m - 1 - q := ⟨_, rfl⟩
      have hPx : P = x + q := by have := unhide HP; omega
      subst hPx
      have hxn : x < n := by omega
      have hqz : (q : Int) < (n : Int) := by omega
      have hxz : (x : Int) < (n : Int) := by omega
      clear hq
      have l1 := fun y => show (wr.drewN y).cell? ⟨b, x, none⟩ = some (.int .i64 (f x)) from ho.cell (by omega)
      have l2 := fun y => show (wr.drewN y).cell? ⟨b, q, none⟩ = some (.int .i64 (f q)) from ho.cell (by omega)
      have HC := fun y => comparison_any (f x) (f q) kb g kc ks (wr.drewN y) ((unhide HK).but (hbut.drewN y) hlk hlg hkb hgb) (by rw [hks]; exact (unhide HIN) x (by omega)) (by rw [hks]; exact (unhide HIN) q (by omega)) (by omega)
      have hneg := St.cmpP_neg ks (f x) (f q)
      have HX := hide hx
      clear hx
      generalize St.cmpP ks (f x) (f q) = c at *
      cases hv : St.ptest ks (f x) (f q) with
      | false =>
        rw [hv] at hneg
        rw [unhide HX] at hv
        have hno2 := hide (show ∀ c, lo ≤ c → c < q + 1 → St.ptest ks (f (mid + m - 1 - c)) (f c) = false from fun c h1 h2 => by
          cases hy : St.ptest ks (f (mid + m - 1 - c)) (f c) with
          | false => rfl
          | true =>
            have := St.find_mid (St.pord ks) (unhide HL) (unhide HR) (p := mid + m - 1) (c := c) (c' := q) (by omega) (by omega) (by omega) (by omega) (by omega) (by omega) hy
            rw [hv] at this; cases this)
        clear hv HX
        go_wp2_with fail
        go_quiet (first | (go_at_call 57; refine Calls.quiet_of (HC _)))
        clear l1 l2 HC
        go_wp2_with fail
        go_roundg (r - (q + 1))
        case rel => exact ⟨q + 1, r, rfl, by go_num, rfl, by omega, by omega, hrh, unhide hno2, hyes, ho.drewN _, hbut.drewN _⟩
        case measure => have := hg.out; omega
      | true =>
        rw [hv] at hneg
        rw [unhide HX] at hv
        have hyes2 := hide (show ∀ c, q ≤ c → c < hi → St.ptest ks (f (mid + m - 1 - c)) (f c) = true from fun c h1 h2 => St.find_mid (St.pord ks) (unhide HL) (unhide HR) (p := mid + m - 1) (c := q) (c' := c) (by omega) h1 (by omega) (by omega) (by omega) (by omega) hv)
        clear hv HX
        go_wp2_with fail
        go_quiet (first | (go_at_call 57; refine Calls.quiet_of (HC _)))
        clear l1 l2 HC
        go_wp2_with fail
        go_roundg (q - s)
        case rel => exact ⟨s, q, rfl, rfl, rfl, by omega, by omega, by omega, hno, unhide hyes2, ho.drewN _, hbut.drewN _⟩
        case measure => have := hg.out; omega
    · have hltz : ¬ (s : Int) < (r : Int) := by omega
      have hrs : r = s := by omega
      subst hrs
      have hsr : r ≤ hi := hrh
      obtain ⟨s, hs⟩ : ∃ s, s = r := ⟨_, rfl⟩
      subst hs
      clear hg hsr0 hrh hlt
      obtain ⟨E, hE⟩ : ∃ E : Nat, E + s = mid + m := ⟨mid + m - s, by omega⟩
      have eE : (mid : Int) + (m : Int) - (s : Int) = (E : Int) := by omega
      have HT := hide (St.turn (St.pord ks) (unhide HL) (unhide HR) (unhide HLO) ham hme (unhide HMID) (unhide HLH) hls hsr hE hno.out hyes.out)
      have HIN1 := hide ((unhide HT).per.less hen (unhide HIN))
      have hEm : m ≤ E := by omega
      have hEe : E ≤ e := by omega
      have hmE : mid ≤ E := by omega
      have hsm : s ≤ m := by omega
      have hsmid : s ≤ mid := by omega
      have has : a ≤ s := by omega
      have hemid : mid ≤ e := by omega
      clear hno hyes hls hsr HLH HMID
      by_cases hR1 : s < m
      · by_cases hR2 : m < E
        · have hR1z : (s : Int) < (m : Int) := by omega
          have hR2z : (m : Int) < (E : Int) := by omega
          go_wp2_with fail
          refine (rotate_any b n cap f s m E _ _ ho hR1 hR2 (by omega) hn hcap).mono ?_
          rintro r w7 ⟨rfl, HO1, hb1⟩
          have HB1 := hbut.trans (hb1.mono hbut.size)
          clear hb1 ho hbut
          by_cases hA1 : a < s
          · by_cases hA2 : s < mid
            · have hk1 := (unhide HK).but HB1 hlk hlg hkb hgb
              have hA1z : (a : Int) < (s : Int) := by omega
              have hA2z : (s : Int) < (mid : Int) := by omega
              go_wp2_with fail
              refine ((unhide IH) a s mid (St.rot f s m E) _ (by omega) hA1 hA2 (by omega) HO1 hk1 (unhide HIN1) (unhide HT).s1 (unhide HT).s2 (unhide HT).l1).mono ?_
              rintro r w8 ⟨rfl, g2, HO2, p2, s2, hb2⟩
              have P2 := hide (And.intro p2 s2)
              have HB2 := HB1.trans (hb2.mono HB1.size)
              clear p2 s2 hb2 hk1 HO1 HB1
              by_cases hB1 : mid < E
              · by_cases hB2 : E < e
                · have HA := hide ((unhide HT).asks (unhide P2).1 (by omega))
                  have HIN2 := hide ((unhide P2).1.less (by omega) (unhide HIN1))
                  have hk2 := (unhide HK).but HB2 hlk hlg hkb hgb
                  have hB1z : (mid : Int) < (E : Int) := by omega
                  have hB2z : (E : Int) < (e : Int) := by omega
                  go_wp2_with fail
                  refine ((unhide IH) mid E e g2 _ (by omega) hB1 hB2 hen HO2 hk2 (unhide HIN2) (unhide HA).1 (unhide HA).2.1 (unhide HA).2.2).mono ?_
                  rintro r w9 ⟨rfl, g3, ho3, p3, s3, hb3⟩
                  have fin := hide (St.merge_end (unhide HT) (by omega) (by omega) (unhide P2).1 (unhide P2).2 p3 s3)
                  have HB3 := HB2.trans (hb3.mono HB2.size)
                  clear p3 s3 hb3 HA hk2
                  go_wp2_with fail
                  go_end0
                  exact ⟨rfl, g3, ho3, (unhide fin).1, (unhide fin).2, HB3⟩
                · have hB1z : (mid : Int) < (E : Int) := by omega
                  have hB2z : ¬ (E : Int) < (e : Int) := by omega
                  have fin := hide (St.merge_end (unhide HT) (by omega) (by omega) (unhide P2).1 (unhide P2).2 (St.Per.refl _ _ _) ((unhide HT).second (unhide P2).1 (by omega) (by omega) (by omega)))
                  go_wp2_with fail
                  go_end0
                  exact ⟨rfl, _, HO2, (unhide fin).1, (unhide fin).2, HB2⟩
              · have hB1z : ¬ (mid : Int) < (E : Int) := by omega
                have fin := hide (St.merge_end (unhide HT) (by omega) (by omega) (unhide P2).1 (unhide P2).2 (St.Per.refl _ _ _) ((unhide HT).second (unhide P2).1 (by omega) (by omega) (by omega)))
                go_wp2_with fail
                go_end0
                exact ⟨rfl, _, HO2, (unhide fin).1, (unhide fin).2, HB2⟩
            · have hA1z : (a : Int) < (s : Int) := by omega
              have hA2z : ¬ (s : Int) < (mid : Int) := by omega
              have P2 := hide (And.intro (St.Per.refl a mid (St.rot f s m E)) ((unhide HT).first (by omega) (by omega) (by omega)))
              have HO2 := HO1
              have HB2 := HB1
              clear HO1 HB1
              by_cases hB1 : mid < E
              · by_cases hB2 : E < e
                · have HA := hide ((unhide HT).asks (unhide P2).1 (by omega))
                  have HIN2 := hide ((unhide P2).1.less (by omega) (unhide HIN1))
                  have hk2 := (unhide HK).but HB2 hlk hlg hkb hgb
                  have hB1z : (mid : Int) < (E : Int) := by omega
                  have hB2z : (E : Int) < (e : Int) := by omega
                  go_wp2_with fail
                  refine ((unhide IH) mid E e (St.rot f s m E) _ (by omega) hB1 hB2 hen HO2 hk2 (unhide HIN2) (unhide HA).1 (unhide HA).2.1 (unhide HA).2.2).mono ?_
                  rintro r w9 ⟨rfl, g3, ho3, p3, s3, hb3⟩
                  have fin := hide (St.merge_end (unhide HT) (by omega) (by omega) (unhide P2).1 (unhide P2).2 p3 s3)
                  have HB3 := HB2.trans (hb3.mono HB2.size)
                  clear p3 s3 hb3 HA hk2
                  go_wp2_with fail
                  go_end0
                  exact ⟨rfl, g3, ho3, (unhide fin).1, (unhide fin).2, HB3⟩
                · have hB1z : (mid : Int) < (E : Int) := by omega
                  have hB2z : ¬ (E : Int) < (e : Int) := by omega
                  have fin := hide (St.merge_end (unhide HT) (by omega) (by omega) (unhide P2).1 (unhide P2).2 (St.Per.refl _ _ _) ((unhide HT).second (unhide P2).1 (by omega) (by omega) (by omega)))
                  go_wp2_with fail
                  go_end0
                  exact ⟨rfl, _, HO2, (unhide fin).1, (unhide fin).2, HB2⟩
              · have hB1z : ¬ (mid : Int) < (E : Int) := by omega
                have fin := hide (St.merge_end (unhide HT) (by omega) (by omega) (unhide P2).1 (unhide P2).2 (St.Per.refl _ _ _) ((unhide HT).second (unhide P2).1 (by omega) (by omega) (by omega)))
                go_wp2_with fail
                go_end0
                exact ⟨rfl, _, HO2, (unhide fin).1, (unhide fin).2, HB2⟩
          · have hA1z : ¬ (a : Int) < (s : Int) := by omega
            have P2 := hide (And.intro (St.Per.refl a mid (St.rot f s m E)) ((unhide HT).first (by omega) (by omega) (by omega)))
            have HO2 := HO1
            have HB2 := HB1
            clear HO1 HB1
            by_cases hB1 : mid < E
            · by_cases hB2 : E < e
              · have HA := hide ((unhide HT).asks (unhide P2).1 (by omega))
                have HIN2 := hide ((unhide P2).1.less (by omega) (unhide HIN1))
                have hk2 := (unhide HK).but HB2 hlk hlg hkb hgb
                have hB1z : (mid : Int) < (E : Int) := by omega
                have hB2z : (E : Int) < (e : Int) := by omega
                go_wp2_with fail
                refine ((unhide IH) mid E e (St.rot f s m E) _ (by omega) hB1 hB2 hen HO2 hk2 (unhide HIN2) (unhide HA).1 (unhide HA).2.1 (unhide HA).2.2).mono ?_
                rintro r w9 ⟨rfl, g3, ho3, p3, s3, hb3⟩
                have fin := hide (St.merge_end (unhide HT) (by omega) (by omega) (unhide P2).1 (unhide P2).2 p3 s3)
                have HB3 := HB2.trans (hb3.mono HB2.size)
                clear p3 s3 hb3 HA hk2
                go_wp2_with fail
                go_end0
                exact ⟨rfl, g3, ho3, (unhide fin).1, (unhide fin).2, HB3⟩
              · have hB1z : (mid : Int) < (E : Int) := by omega
                have hB2z : ¬ (E : Int) < (e : Int) := by omega
                have fin := hide (St.merge_end (unhide HT) (by omega) (by omega) (unhide P2).1 (unhide P2).2 (St.Per.refl _ _ _) ((unhide HT).second (unhide P2).1 (by omega) (by omega) (by omega)))
                go_wp2_with fail
                go_end0
                exact ⟨rfl, _, HO2, (unhide fin).1, (unhide fin).2, HB2⟩
            · have hB1z : ¬ (mid : Int) < (E : Int) := by omega
              have fin := hide (St.merge_end (unhide HT) (by omega) (by omega) (unhide P2).1 (unhide P2).2 (St.Per.refl _ _ _) ((unhide HT).second (unhide P2).1 (by omega) (by omega) (by omega)))
              go_wp2_with fail
              go_end0
              exact ⟨rfl, _, HO2, (unhide fin).1, (unhide fin).2, HB2⟩
        · have hR1z : (s : Int) < (m : Int) := by omega
          have hR2z : ¬ (m : Int) < (E : Int) := by omega
          have HO1 := ho.all (show f = St.rot f s m E by rw [show E = m by omega, St.rot_none_right])
          have HB1 := hbut
          clear ho hbut
          by_cases hA1 : a < s
          · by_cases hA2 : s < mid
            · have hk1 := (unhide HK).but HB1 hlk hlg hkb hgb
              have hA1z : (a : Int) < (s : Int) := by omega
              have hA2z : (s : Int) < (mid : Int) := by omega
              go_wp2_with fail
              refine ((unhide IH) a s mid (St.rot f s m E) _ (by omega) hA1 hA2 (by omega) HO1 hk1 (unhide HIN1) (unhide HT).s1 (unhide HT).s2 (unhide HT).l1).mono ?_
              rintro r w8 ⟨rfl, g2, HO2, p2, s2, hb2⟩
              have P2 := hide (And.intro p2 s2)
              have HB2 := HB1.trans (hb2.mono HB1.size)
              clear p2 s2 hb2 hk1 HO1 HB1
              by_cases hB1 : mid < E
              · by_cases hB2 : E < e
                · have HA := hide ((unhide HT).asks (unhide P2).1 (by omega))
                  have HIN2 := hide ((unhide P2).1.less (by omega) (unhide HIN1))
                  have hk2 := (unhide HK).but HB2 hlk hlg hkb hgb
                  have hB1z : (mid : Int) < (E : Int) := by omega
                  have hB2z : (E : Int) < (e : Int) := by omega
                  go_wp2_with fail
                  refine ((unhide IH) mid E e g2 _ (by omega) hB1 hB2 hen HO2 hk2 (unhide HIN2) (unhide HA).1 (unhide HA).2.1 (unhide HA).2.2).mono ?_
                  rintro r w9 ⟨rfl, g3, ho3, p3, s3, hb3⟩
                  have fin := hide (St.merge_end (unhide HT) (by omega) (by omega) (unhide P2).1 (unhide P2).2 p3 s3)
                  have HB3 := HB2.trans (hb3.mono HB2.size)
                  clear p3 s3 hb3 HA hk2
                  go_wp2_with fail
                  go_end0
                  exact ⟨rfl, g3, ho3, (unhide fin).1, (unhide fin).2, HB3⟩
                · have hB1z : (mid : Int) < (E : Int) := by omega
                  have hB2z : ¬ (E : Int) < (e : Int) := by omega
                  have fin := hide (St.merge_end (unhide HT) (by omega) (by omega) (unhide P2).1 (unhide P2).2 (St.Per.refl _ _ _) ((unhide HT).second (unhide P2).1 (by omega) (by omega) (by omega)))
                  go_wp2_with fail
                  go_end0
                  exact ⟨rfl, _, HO2, (unhide fin).1, (unhide fin).2, HB2⟩
              · have hB1z : ¬ (mid : Int) < (E : Int) := by omega
                have fin := hide (St.merge_end (unhide HT) (by omega) (by omega) (unhide P2).1 (unhide P2).2 (St.Per.refl _ _ _) ((unhide HT).second (unhide P2).1 (by omega) (by omega) (by omega)))
                go_wp2_with fail
                go_end0
                exact ⟨rfl, _, HO2, (unhide fin).1, (unhide fin).2, HB2⟩
            · have hA1z : (a : Int) < (s : Int) := by omega
              have hA2z : ¬ (s : Int) < (mid : Int) := by omega
              have P2 := hide (And.intro (St.Per.refl a mid (St.rot f s m E)) ((unhide HT).first (by omega) (by omega) (by omega)))
              have HO2 := HO1
              have HB2 := HB1
              clear HO1 HB1
              by_cases hB1 : mid < E
              · by_cases hB2 : E < e
                · have HA := hide ((unhide HT).asks (unhide P2).1 (by omega))
                  have HIN2 := hide ((unhide P2).1.less (by omega) (unhide HIN1))
                  have hk2 := (unhide HK).but HB2 hlk hlg hkb hgb
                  have hB1z : (mid : Int) < (E : Int) := by omega
                  have hB2z : (E : Int) < (e : Int) := by omega
                  go_wp2_with fail
                  refine ((unhide IH) mid E e (St.rot f s m E) _ (by omega) hB1 hB2 hen HO2 hk2 (unhide HIN2) (unhide HA).1 (unhide HA).2.1 (unhide HA).2.2).mono ?_
                  rintro r w9 ⟨rfl, g3, ho3, p3, s3, hb3⟩
                  have fin := hide (St.merge_end (unhide HT) (by omega) (by omega) (unhide P2).1 (unhide P2).2 p3 s3)
                  have HB3 := HB2.trans (hb3.mono HB2.size)
                  clear p3 s3 hb3 HA hk2
                  go_wp2_with fail
                  go_end0
                  exact ⟨rfl, g3, ho3, (unhide fin).1, (unhide fin).2, HB3⟩
                · have hB1z : (mid : Int) < (E : Int) := by omega
                  have hB2z : ¬ (E : Int) < (e : Int) := by omega
                  have fin := hide (St.merge_end (unhide HT) (by omega) (by omega) (unhide P2).1 (unhide P2).2 (St.Per.refl _ _ _) ((unhide HT).second (unhide P2).1 (by omega) (by omega) (by omega)))
                  go_wp2_with fail
                  go_end0
                  exact ⟨rfl, _, HO2, (unhide fin).1, (unhide fin).2, HB2⟩
              · have hB1z : ¬ (mid : Int) < (E : Int) := by omega
                have fin := hide (St.merge_end (unhide HT) (by omega) (by omega) (unhide P2).1 (unhide P2).2 (St.Per.refl _ _ _) ((unhide HT).second (unhide P2).1 (by omega) (by omega) (by omega)))
                go_wp2_with fail
                go_end0
                exact ⟨rfl, _, HO2, (unhide fin).1, (unhide fin).2, HB2⟩
          · have hA1z : ¬ (a : Int) < (s : Int) := by omega
            have P2 := hide (And.intro (St.Per.refl a mid (St.rot f s m E)) ((unhide HT).first (by omega) (by omega) (by omega)))
            have HO2 := HO1
            have HB2 := HB1
            clear HO1 HB1
            by_cases hB1 : mid < E
            · by_cases hB2 : E < e
              · have HA := hide ((unhide HT).asks (unhide P2).1 (by omega))
                have HIN2 := hide ((unhide P2).1.less (by omega) (unhide HIN1))
                have hk2 := (unhide HK).but HB2 hlk hlg hkb hgb
                have hB1z : (mid : Int) < (E : Int) := by omega
                have hB2z : (E : Int) < (e : Int) := by omega
                go_wp2_with fail
                refine ((unhide IH) mid E e (St.rot f s m E) _ (by omega) hB1 hB2 hen HO2 hk2 (unhide HIN2) (unhide HA).1 (unhide HA).2.1 (unhide HA).2.2).mono ?_
                rintro r w9 ⟨rfl, g3, ho3, p3, s3, hb3⟩
                have fin := hide (St.merge_end (unhide HT) (by omega) (by omega) (unhide P2).1 (unhide P2).2 p3 s3)
                have HB3 := HB2.trans (hb3.mono HB2.size)
                clear p3 s3 hb3 HA hk2
                go_wp2_with fail
                go_end0
                exact ⟨rfl, g3, ho3, (unhide fin).1, (unhide fin).2, HB3⟩
              · have hB1z : (mid : Int) < (E : Int) := by omega
                have hB2z : ¬ (E : Int) < (e : Int) := by omega
                have fin := hide (St.merge_end (unhide HT) (by omega) (by omega) (unhide P2).1 (unhide P2).2 (St.Per.refl _ _ _) ((unhide HT).second (unhide P2).1 (by omega) (by omega) (by omega)))
                go_wp2_with fail
                go_end0
                exact ⟨rfl, _, HO2, (unhide fin).1, (unhide fin).2, HB2⟩
            · have hB1z : ¬ (mid : Int) < (E : Int) := by omega
              have fin := hide (St.merge_end (unhide HT) (by omega) (by omega) (unhide P2).1 (unhide P2).2 (St.Per.refl _ _ _) ((unhide HT).second (unhide P2).1 (by omega) (by omega) (by omega)))
              go_wp2_with fail
              go_end0
              exact ⟨rfl, _, HO2, (unhide fin).1, (unhide fin).2, HB2⟩
      · have hR1z : ¬ (s : Int) < (m : Int) := by omega
        have HO1 := ho.all (show f = St.rot f s m E by rw [show s = m by omega, St.rot_none_left f m E hEm])
        have HB1 := hbut
        clear ho hbut
        by_cases hA1 : a < s
        · by_cases hA2 : s < mid
          · have hk1 := (unhide HK).but HB1 hlk hlg hkb hgb
            have hA1z : (a : Int) < (s : Int) := by omega
            have hA2z : (s : Int) < (mid : Int) := by omega
            go_wp2_with fail
            refine ((unhide IH) a s mid (St.rot f s m E) _ (by omega) hA1 hA2 (by omega) HO1 hk1 (unhide HIN1) (unhide HT).s1 (unhide HT).s2 (unhide HT).l1).mono ?_
            rintro r w8 ⟨rfl, g2, HO2, p2, s2, hb2⟩
            have P2 := hide (And.intro p2 s2)
            have HB2 := HB1.trans (hb2.mono HB1.size)
            clear p2 s2 hb2 hk1 HO1 HB1
            by_cases hB1 : mid < E
            · by_cases hB2 : E < e
              · have HA := hide ((unhide HT).asks (unhide P2).1 (by omega))
                have HIN2 := hide ((unhide P2).1.less (by omega) (unhide HIN1))
                have hk2 := (unhide HK).but HB2 hlk hlg hkb hgb
                have hB1z : (mid : Int) < (E : Int) := by omega
                have hB2z : (E : Int) < (e : Int) := by omega
                go_wp2_with fail
                refine ((unhide IH) mid E e g2 _ (by omega) hB1 hB2 hen HO2 hk2 (unhide HIN2) (unhide HA).1 (unhide HA).2.1 (unhide HA).2.2).mono ?_
                rintro r w9 ⟨rfl, g3, ho3, p3, s3, hb3⟩
                have fin := hide (St.merge_end (unhide HT) (by omega) (by omega) (unhide P2).1 (unhide P2).2 p3 s3)
                have HB3 := HB2.trans (hb3.mono HB2.size)
                clear p3 s3 hb3 HA hk2
                go_wp2_with fail
                go_end0
                exact ⟨rfl, g3, ho3, (unhide fin).1, (unhide fin).2, HB3⟩
              · have hB1z : (mid : Int) < (E : Int) := by omega
                have hB2z : ¬ (E : Int) < (e : Int) := by omega
                have fin := hide (St.merge_end (unhide HT) (by omega) (by omega) (unhide P2).1 (unhide P2).2 (St.Per.refl _ _ _) ((unhide HT).second (unhide P2).1 (by omega) (by omega) (by omega)))
                go_wp2_with fail
                go_end0
                exact ⟨rfl, _, HO2, (unhide fin).1, (unhide fin).2, HB2⟩
            · have hB1z : ¬ (mid : Int) < (E : Int) := by omega
              have fin := hide (St.merge_end (unhide HT) (by omega) (by omega) (unhide P2).1 (unhide P2).2 (St.Per.refl _ _ _) ((unhide HT).second (unhide P2).1 (by omega) (by omega) (by omega)))
              go_wp2_with fail
              go_end0
              exact ⟨rfl, _, HO2, (unhide fin).1, (unhide fin).2, HB2⟩
          · have hA1z : (a : Int) < (s : Int) := by omega
            have hA2z : ¬ (s : Int) < (mid : Int) := by omega
            have P2 := hide (And.intro (St.Per.refl a mid (St.rot f s m E)) ((unhide HT).first (by omega) (by omega) (by omega)))
            have HO2 := HO1
            have HB2 := HB1
            clear HO1 HB1
            by_cases hB1 : mid < E
            · by_cases hB2 : E < e
              · have HA := hide ((unhide HT).asks (unhide P2).1 (by omega))
                have HIN2 := hide ((unhide P2).1.less (by omega) (unhide HIN1))
                have hk2 := (unhide HK).but HB2 hlk hlg hkb hgb
                have hB1z : (mid : Int) < (E : Int) := by omega
                have hB2z : (E : Int) < (e : Int) := by omega
                go_wp2_with fail
                refine ((unhide IH) mid E e (St.rot f s m E) _ (by omega) hB1 hB2 hen HO2 hk2 (unhide HIN2) (unhide HA).1 (unhide HA).2.1 (unhide HA).2.2).mono ?_
                rintro r w9 ⟨rfl, g3, ho3, p3, s3, hb3⟩
                have fin := hide (St.merge_end (unhide HT) (by omega) (by omega) (unhide P2).1 (unhide P2).2 p3 s3)
                have HB3 := HB2.trans (hb3.mono HB2.size)
                clear p3 s3 hb3 HA hk2
                go_wp2_with fail
                go_end0
                exact ⟨rfl, g3, ho3, (unhide fin).1, (unhide fin).2, HB3⟩
              · have hB1z : (mid : Int) < (E : Int) := by omega
                have hB2z : ¬ (E : Int) < (e : Int) := by omega
                have fin := hide (St.merge_end (unhide HT) (by omega) (by omega) (unhide P2).1 (unhide P2).2 (St.Per.refl _ _ _) ((unhide HT).second (unhide P2).1 (by omega) (by omega) (by omega)))
                go_wp2_with fail
                go_end0
                exact ⟨rfl, _, HO2, (unhide fin).1, (unhide fin).2, HB2⟩
            · have hB1z : ¬ (mid : Int) < (E : Int) := by omega
              have fin := hide (St.merge_end (unhide HT) (by omega) (by omega) (unhide P2).1 (unhide P2).2 (St.Per.refl _ _ _) ((unhide HT).second (unhide P2).1 (by omega) (by omega) (by omega)))
              go_wp2_with fail
              go_end0
              exact ⟨rfl, _, HO2, (unhide fin).1, (unhide fin).2, HB2⟩
        · have hA1z : ¬ (a : Int) < (s : Int) := by omega
          have P2 := hide (And.intro (St.Per.refl a mid (St.rot f s m E)) ((unhide HT).first (by omega) (by omega) (by omega)))
          have HO2 := HO1
          have HB2 := HB1
          clear HO1 HB1
          by_cases hB1 : mid < E
          · by_cases hB2 : E < e
            · have HA := hide ((unhide HT).asks (unhide P2).1 (by omega))
              have HIN2 := hide ((unhide P2).1.less (by omega) (unhide HIN1))
              have hk2 := (unhide HK).but HB2 hlk hlg hkb hgb
              have hB1z : (mid : Int) < (E : Int) := by omega
              have hB2z : (E : Int) < (e : Int) := by omega
              go_wp2_with fail
              refine ((unhide IH) mid E e (St.rot f s m E) _ (by omega) hB1 hB2 hen HO2 hk2 (unhide HIN2) (unhide HA).1 (unhide HA).2.1 (unhide HA).2.2).mono ?_
              rintro r w9 ⟨rfl, g3, ho3, p3, s3, hb3⟩
              have fin := hide (St.merge_end (unhide HT) (by omega) (by omega) (unhide P2).1 (unhide P2).2 p3 s3)
              have HB3 := HB2.trans (hb3.mono HB2.size)
              clear p3 s3 hb3 HA hk2
              go_wp2_with fail
              go_end0
              exact ⟨rfl, g3, ho3, (unhide fin).1, (unhide fin).2, HB3⟩
            · have hB1z : (mid : Int) < (E : Int) := by omega
              have hB2z : ¬ (E : Int) < (e : Int) := by omega
              have fin := hide (St.merge_end (unhide HT) (by omega) (by omega) (unhide P2).1 (unhide P2).2 (St.Per.refl _ _ _) ((unhide HT).second (unhide P2).1 (by omega) (by omega) (by omega)))
              go_wp2_with fail
              go_end0
              exact ⟨rfl, _, HO2, (unhide fin).1, (unhide fin).2, HB2⟩
          · have hB1z : ¬ (mid : Int) < (E : Int) := by omega
            have fin := hide (St.merge_end (unhide HT) (by omega) (by omega) (unhide P2).1 (unhide P2).2 (St.Per.refl _ _ _) ((unhide HT).second (unhide P2).1 (by omega) (by omega) (by omega)))
            go_wp2_with fail
            go_end0
            exact ⟨rfl, _, HO2, (unhide fin).1, (unhide fin).2, HB2⟩

set_option maxRecDepth 100000 in
set_option maxHeartbeats 8000000 in
theorem mergeLow_any (b n cap kb g kc : Nat) (ks : List ByteArray) (hkb : kb ≠ b) (hgb : g ≠ b) (hks : ks.length = n) (hn : n ≤ 1048576) (hcap : n ≤ cap) (d : Nat) (IH : MergeUpto b n cap kb g kc ks d) (a m e mid : Nat) (f : Nat → Nat) (w : World) (hd : e - a ≤ d + 1) (ham : a + 1 < m) (hme : m + 1 < e) (hen : e ≤ n) (h : OwnF w b n f) (hK : KeysAt w kb g kc ks) (hin : ∀ k, k < n → f k < n) (hl : St.Srt (St.plt ks) a m f) (hr : St.Srt (St.plt ks) m e f) (hlo : St.Lo a m e f) (hmid : mid = (a + e) / 2) (hc : m ≤ mid) :
    Calls Try.prog 69 #[.slice (some ⟨b, 0, none⟩) n cap, .int .i64 a, .int .i64 m, .int .i64 e, .func (.func 57) #[] #[.pointer (some ⟨kb, 0, none⟩)]] w fun r w' => r = .returned (.tuple #[]) ∧ ∃ f', OwnF w' b n f' ∧ St.Per a e f f' ∧ St.Srt (St.plt ks) a e f' ∧ But w.heap.size b w w' := by
  have HK := hide hK
  have HIN := hide hin
  have HL := hide hl
  have HR := hide hr
  have HLO := hide hlo
  have hlk := hK.1
  have hlg := hK.2.1
  have t1 : ((m : Int) - (a : Int) == 1) = false := by simp; omega
  have t2 : ((e : Int) - (m : Int) == 1) = false := by simp; omega
  have emid : ((a : Int) + (e : Int)) / 2 = (mid : Int) := by omega
  obtain ⟨P, hP⟩ : ∃ P : Nat, P = mid + m - 1 := ⟨_, rfl⟩
  have eP : (mid : Int) + (m : Int) - 1 = (P : Int) := by omega
  obtain ⟨lo, hi, hlohi⟩ : ∃ lo hi : Nat, (mid < m ∧ lo + e = mid + m ∧ hi = mid) ∨ (m ≤ mid ∧ lo = a ∧ hi = m) := ⟨a, m, .inr (by omega)⟩
  have hcz : ¬ (mid : Int) < (m : Int) := by omega
  have elo : lo = a := by omega
  have ehi : hi = m := by omega
  have ham : a < m := by omega
  have hme : m < e := by omega
  have hx_0 : lo ≤ hi := by omega
  have hx_1 : a ≤ lo := by omega
  have hx_2 : hi ≤ m := by omega
  have hx_3 : hi ≤ mid := by omega
  have hx_4 : mid + m ≤ e + lo := by omega
  have hx_5 : mid < e := by omega
  have hx_6 : a < mid := by omega
  have HLH := hide hlohi
  have HP := hide hP
  have HMID := hide hmid
  clear hK hin hl hr hlo hlohi hmid hc hP
  have IH := hide IH
  go_enter Try.func69, Try.ntmps69
  go_wp2_with fail
  go_loopg [20, 21] (hi - lo) (fun gh s20 s21 wr => ∃ s r : Nat, Hid (gh = r - s) ∧ s20 = .int .i64 s ∧ s21 = .int .i64 r ∧ lo ≤ s ∧ s ≤ r ∧ r ≤ hi ∧ Hid (∀ c, lo ≤ c → c < s → St.ptest ks (f (mid + m - 1 - c)) (f c) = false) ∧ Hid (∀ c, r ≤ c → c < hi → St.ptest ks (f (mid + m - 1 - c)) (f c) = true) ∧ OwnF wr b n f ∧ But w.heap.size b w wr)
  case atStart => exact ⟨lo, hi, rfl, by first | rfl | (congr 1; omega), by first | rfl | (congr 1; omega), by omega, by omega, by omega, fun c h1 h2 => by omega, fun c h1 h2 => by omega, h, But.refl _ _ _⟩
  case round =>
    obtain ⟨s, r, hg, rfl, rfl, hls, hsr0, hrh, hno, hyes, ho, hbut⟩ := hrel
    by_cases hlt : s < r
    · have hltz : (s : Int) < (r : Int) := by omega
      obtain ⟨q, hq⟩ : ∃ q : Nat, q = (s + r) / 2 := ⟨_, rfl⟩
      have hqi : s ≤ q := by omega
      have hqj : q < r := by omega
      have eq : ((s : Int) + (r : Int)) / 2 = (q : Int) := by omega
      obtain ⟨x, hx⟩ : ∃ x : Nat, x = mid + m - 1 - q := ⟨_, rfl⟩
      have hPx : P = x + q := by have := unhide HP; omega
      subst hPx
      have hxn : x < n := by omega
      have hqz : (q : Int) < (n : Int) := by omega
      have hxz : (x : Int) < (n : Int) := by omega
      clear hq
      have l1 := fun y => show (wr.drewN y).cell? ⟨b, x, none⟩ = some (.int .i64 (f x)) from ho.cell (by omega)
      have l2 := fun y => show (wr.drewN y).cell? ⟨b, q, none⟩ = some (.int .i64 (f q)) from ho.cell (by omega)
      have HC := fun y => comparison_any (f x) (f q) kb g kc ks (wr.drewN y) ((unhide HK).but (hbut.drewN y) hlk hlg hkb hgb) (by rw [hks]; exact (unhide HIN) x (by omega)) (by rw [hks]; exact (unhide HIN) q (by omega)) (by omega)
      have hneg := St.cmpP_neg ks (f x) (f q)
      have HX := hide hx
      clear hx
      generalize St.cmpP ks (f x) (f q) = c at *
      cases hv : St.ptest ks (f x) (f q) with
      | false =>
        rw [hv] at hneg
        rw [unhide HX] at hv
        have hno2 := hide (show ∀ c, lo ≤ c → c < q + 1 → St.ptest ks (f (mid + m - 1 - c)) (f c) = false from fun c h1 h2 => by
          cases hy : St.ptest ks (f (mid + m - 1 - c)) (f c) with
          | false => rfl
          | true =>
            have := St.find_mid (St.pord ks) (unhide HL) (unhide HR) (p := mid + m - 1) (c := c) (c' := q) (by omega) (by omega) (by omega) (by omega) (by omega) (by omega) hy
            rw [hv] at this; cases this)
        clear hv HX
        go_wp2_with fail
        go_quiet (first | (go_at_call 57; refine Calls.quiet_of (HC _)))
        clear l1 l2 HC
        go_wp2_with fail
        go_roundg (r - (q + 1))
        case rel => exact ⟨q + 1, r, rfl, by go_num, rfl, by omega, by omega, hrh, unhide hno2, hyes, ho.drewN _, hbut.drewN _⟩
        case measure => have := hg.out; omega
      | true =>
        rw [hv] at hneg
        rw [unhide HX] at hv
        have hyes2 := hide (show ∀ c, q ≤ c → c < hi → St.ptest ks (f (mid + m - 1 - c)) (f c) = true from fun c h1 h2 => St.find_mid (St.pord ks) (unhide HL) (unhide HR) (p := mid + m - 1) (c := q) (c' := c) (by omega) h1 (by omega) (by omega) (by omega) (by omega) hv)
        clear hv HX
        go_wp2_with fail
        go_quiet (first | (go_at_call 57; refine Calls.quiet_of (HC _)))
        clear l1 l2 HC
        go_wp2_with fail
        go_roundg (q - s)
        case rel => exact ⟨s, q, rfl, rfl, rfl, by omega, by omega, by omega, hno, unhide hyes2, ho.drewN _, hbut.drewN _⟩
        case measure => have := hg.out; omega
    · have hltz : ¬ (s : Int) < (r : Int) := by omega
      have hrs : r = s := by omega
      subst hrs
      have hsr : r ≤ hi := hrh
      obtain ⟨s, hs⟩ : ∃ s, s = r := ⟨_, rfl⟩
      subst hs
      clear hg hsr0 hrh hlt
      obtain ⟨E, hE⟩ : ∃ E : Nat, E + s = mid + m := ⟨mid + m - s, by omega⟩
      have eE : (mid : Int) + (m : Int) - (s : Int) = (E : Int) := by omega
      have HT := hide (St.turn (St.pord ks) (unhide HL) (unhide HR) (unhide HLO) ham hme (unhide HMID) (unhide HLH) hls hsr hE hno.out hyes.out)
      have HIN1 := hide ((unhide HT).per.less hen (unhide HIN))
      have hEm : m ≤ E := by omega
      have hEe : E ≤ e := by omega
      have hmE : mid ≤ E := by omega
      have hsm : s ≤ m := by omega
      have hsmid : s ≤ mid := by omega
      have has : a ≤ s := by omega
      have hemid : mid ≤ e := by omega
      clear hno hyes hls hsr HLH HMID
      by_cases hR1 : s < m
      · by_cases hR2 : m < E
        · have hR1z : (s : Int) < (m : Int) := by omega
          have hR2z : (m : Int) < (E : Int) := by omega
          go_wp2_with fail
          refine (rotate_any b n cap f s m E _ _ ho hR1 hR2 (by omega) hn hcap).mono ?_
          rintro r w7 ⟨rfl, HO1, hb1⟩
          have HB1 := hbut.trans (hb1.mono hbut.size)
          clear hb1 ho hbut
          by_cases hA1 : a < s
          · by_cases hA2 : s < mid
            · have hk1 := (unhide HK).but HB1 hlk hlg hkb hgb
              have hA1z : (a : Int) < (s : Int) := by omega
              have hA2z : (s : Int) < (mid : Int) := by omega
              go_wp2_with fail
              refine ((unhide IH) a s mid (St.rot f s m E) _ (by omega) hA1 hA2 (by omega) HO1 hk1 (unhide HIN1) (unhide HT).s1 (unhide HT).s2 (unhide HT).l1).mono ?_
              rintro r w8 ⟨rfl, g2, HO2, p2, s2, hb2⟩
              have P2 := hide (And.intro p2 s2)
              have HB2 := HB1.trans (hb2.mono HB1.size)
              clear p2 s2 hb2 hk1 HO1 HB1
              by_cases hB1 : mid < E
              · by_cases hB2 : E < e
                · have HA := hide ((unhide HT).asks (unhide P2).1 (by omega))
                  have HIN2 := hide ((unhide P2).1.less (by omega) (unhide HIN1))
                  have hk2 := (unhide HK).but HB2 hlk hlg hkb hgb
                  have hB1z : (mid : Int) < (E : Int) := by omega
                  have hB2z : (E : Int) < (e : Int) := by omega
                  go_wp2_with fail
                  refine ((unhide IH) mid E e g2 _ (by omega) hB1 hB2 hen HO2 hk2 (unhide HIN2) (unhide HA).1 (unhide HA).2.1 (unhide HA).2.2).mono ?_
                  rintro r w9 ⟨rfl, g3, ho3, p3, s3, hb3⟩
                  have fin := hide (St.merge_end (unhide HT) (by omega) (by omega) (unhide P2).1 (unhide P2).2 p3 s3)
                  have HB3 := HB2.trans (hb3.mono HB2.size)
                  clear p3 s3 hb3 HA hk2
                  go_wp2_with fail
                  go_end0
                  exact ⟨rfl, g3, ho3, (unhide fin).1, (unhide fin).2, HB3⟩
                · have hB1z : (mid : Int) < (E : Int) := by omega
                  have hB2z : ¬ (E : Int) < (e : Int) := by omega
                  have fin := hide (St.merge_end (unhide HT) (by omega) (by omega) (unhide P2).1 (unhide P2).2 (St.Per.refl _ _ _) ((unhide HT).second (unhide P2).1 (by omega) (by omega) (by omega)))
                  go_wp2_with fail
                  go_end0
                  exact ⟨rfl, _, HO2, (unhide fin).1, (unhide fin).2, HB2⟩
              · have hB1z : ¬ (mid : Int) < (E : Int) := by omega
                have fin := hide (St.merge_end (unhide HT) (by omega) (by omega) (unhide P2).1 (unhide P2).2 (St.Per.refl _ _ _) ((unhide HT).second (unhide P2).1 (by omega) (by omega) (by omega)))
                go_wp2_with fail
                go_end0
                exact ⟨rfl, _, HO2, (unhide fin).1, (unhide fin).2, HB2⟩
            · have hA1z : (a : Int) < (s : Int) := by omega
              have hA2z : ¬ (s : Int) < (mid : Int) := by omega
              have P2 := hide (And.intro (St.Per.refl a mid (St.rot f s m E)) ((unhide HT).first (by omega) (by omega) (by omega)))
              have HO2 := HO1
              have HB2 := HB1
              clear HO1 HB1
              by_cases hB1 : mid < E
              · by_cases hB2 : E < e
                · have HA := hide ((unhide HT).asks (unhide P2).1 (by omega))
                  have HIN2 := hide ((unhide P2).1.less (by omega) (unhide HIN1))
                  have hk2 := (unhide HK).but HB2 hlk hlg hkb hgb
                  have hB1z : (mid : Int) < (E : Int) := by omega
                  have hB2z : (E : Int) < (e : Int) := by omega
                  go_wp2_with fail
                  refine ((unhide IH) mid E e (St.rot f s m E) _ (by omega) hB1 hB2 hen HO2 hk2 (unhide HIN2) (unhide HA).1 (unhide HA).2.1 (unhide HA).2.2).mono ?_
                  rintro r w9 ⟨rfl, g3, ho3, p3, s3, hb3⟩
                  have fin := hide (St.merge_end (unhide HT) (by omega) (by omega) (unhide P2).1 (unhide P2).2 p3 s3)
                  have HB3 := HB2.trans (hb3.mono HB2.size)
                  clear p3 s3 hb3 HA hk2
                  go_wp2_with fail
                  go_end0
                  exact ⟨rfl, g3, ho3, (unhide fin).1, (unhide fin).2, HB3⟩
                · have hB1z : (mid : Int) < (E : Int) := by omega
                  have hB2z : ¬ (E : Int) < (e : Int) := by omega
                  have fin := hide (St.merge_end (unhide HT) (by omega) (by omega) (unhide P2).1 (unhide P2).2 (St.Per.refl _ _ _) ((unhide HT).second (unhide P2).1 (by omega) (by omega) (by omega)))
                  go_wp2_with fail
                  go_end0
                  exact ⟨rfl, _, HO2, (unhide fin).1, (unhide fin).2, HB2⟩
              · have hB1z : ¬ (mid : Int) < (E : Int) := by omega
                have fin := hide (St.merge_end (unhide HT) (by omega) (by omega) (unhide P2).1 (unhide P2).2 (St.Per.refl _ _ _) ((unhide HT).second (unhide P2).1 (by omega) (by omega) (by omega)))
                go_wp2_with fail
                go_end0
                exact ⟨rfl, _, HO2, (unhide fin).1, (unhide fin).2, HB2⟩
          · have hA1z : ¬ (a : Int) < (s : Int) := by omega
            have P2 := hide (And.intro (St.Per.refl a mid (St.rot f s m E)) ((unhide HT).first (by omega) (by omega) (by omega)))
            have HO2 := HO1
            have HB2 := HB1
            clear HO1 HB1
            by_cases hB1 : mid < E
            · by_cases hB2 : E < e
              · have HA := hide ((unhide HT).asks (unhide P2).1 (by omega))
                have HIN2 := hide ((unhide P2).1.less (by omega) (unhide HIN1))
                have hk2 := (unhide HK).but HB2 hlk hlg hkb hgb
                have hB1z : (mid : Int) < (E : Int) := by omega
                have hB2z : (E : Int) < (e : Int) := by omega
                go_wp2_with fail
                refine ((unhide IH) mid E e (St.rot f s m E) _ (by omega) hB1 hB2 hen HO2 hk2 (unhide HIN2) (unhide HA).1 (unhide HA).2.1 (unhide HA).2.2).mono ?_
                rintro r w9 ⟨rfl, g3, ho3, p3, s3, hb3⟩
                have fin := hide (St.merge_end (unhide HT) (by omega) (by omega) (unhide P2).1 (unhide P2).2 p3 s3)
                have HB3 := HB2.trans (hb3.mono HB2.size)
                clear p3 s3 hb3 HA hk2
                go_wp2_with fail
                go_end0
                exact ⟨rfl, g3, ho3, (unhide fin).1, (unhide fin).2, HB3⟩
              · have hB1z : (mid : Int) < (E : Int) := by omega
                have hB2z : ¬ (E : Int) < (e : Int) := by omega
                have fin := hide (St.merge_end (unhide HT) (by omega) (by omega) (unhide P2).1 (unhide P2).2 (St.Per.refl _ _ _) ((unhide HT).second (unhide P2).1 (by omega) (by omega) (by omega)))
                go_wp2_with fail
                go_end0
                exact ⟨rfl, _, HO2, (unhide fin).1, (unhide fin).2, HB2⟩
            · have hB1z : ¬ (mid : Int) < (E : Int) := by omega
              have fin := hide (St.merge_end (unhide HT) (by omega) (by omega) (unhide P2).1 (unhide P2).2 (St.Per.refl _ _ _) ((unhide HT).second (unhide P2).1 (by omega) (by omega) (by omega)))
              go_wp2_with fail
              go_end0
              exact ⟨rfl, _, HO2, (unhide fin).1, (unhide fin).2, HB2⟩
        · have hR1z : (s : Int) < (m : Int) := by omega
          have hR2z : ¬ (m : Int) < (E : Int) := by omega
          have HO1 := ho.all (show f = St.rot f s m E by rw [show E = m by omega, St.rot_none_right])
          have HB1 := hbut
          clear ho hbut
          by_cases hA1 : a < s
          · by_cases hA2 : s < mid
            · have hk1 := (unhide HK).but HB1 hlk hlg hkb hgb
              have hA1z : (a : Int) < (s : Int) := by omega
              have hA2z : (s : Int) < (mid : Int) := by omega
              go_wp2_with fail
              refine ((unhide IH) a s mid (St.rot f s m E) _ (by omega) hA1 hA2 (by omega) HO1 hk1 (unhide HIN1) (unhide HT).s1 (unhide HT).s2 (unhide HT).l1).mono ?_
              rintro r w8 ⟨rfl, g2, HO2, p2, s2, hb2⟩
              have P2 := hide (And.intro p2 s2)
              have HB2 := HB1.trans (hb2.mono HB1.size)
              clear p2 s2 hb2 hk1 HO1 HB1
              by_cases hB1 : mid < E
              · by_cases hB2 : E < e
                · have HA := hide ((unhide HT).asks (unhide P2).1 (by omega))
                  have HIN2 := hide ((unhide P2).1.less (by omega) (unhide HIN1))
                  have hk2 := (unhide HK).but HB2 hlk hlg hkb hgb
                  have hB1z : (mid : Int) < (E : Int) := by omega
                  have hB2z : (E : Int) < (e : Int) := by omega
                  go_wp2_with fail
                  refine ((unhide IH) mid E e g2 _ (by omega) hB1 hB2 hen HO2 hk2 (unhide HIN2) (unhide HA).1 (unhide HA).2.1 (unhide HA).2.2).mono ?_
                  rintro r w9 ⟨rfl, g3, ho3, p3, s3, hb3⟩
                  have fin := hide (St.merge_end (unhide HT) (by omega) (by omega) (unhide P2).1 (unhide P2).2 p3 s3)
                  have HB3 := HB2.trans (hb3.mono HB2.size)
                  clear p3 s3 hb3 HA hk2
                  go_wp2_with fail
                  go_end0
                  exact ⟨rfl, g3, ho3, (unhide fin).1, (unhide fin).2, HB3⟩
                · have hB1z : (mid : Int) < (E : Int) := by omega
                  have hB2z : ¬ (E : Int) < (e : Int) := by omega
                  have fin := hide (St.merge_end (unhide HT) (by omega) (by omega) (unhide P2).1 (unhide P2).2 (St.Per.refl _ _ _) ((unhide HT).second (unhide P2).1 (by omega) (by omega) (by omega)))
                  go_wp2_with fail
                  go_end0
                  exact ⟨rfl, _, HO2, (unhide fin).1, (unhide fin).2, HB2⟩
              · have hB1z : ¬ (mid : Int) < (E : Int) := by omega
                have fin := hide (St.merge_end (unhide HT) (by omega) (by omega) (unhide P2).1 (unhide P2).2 (St.Per.refl _ _ _) ((unhide HT).second (unhide P2).1 (by omega) (by omega) (by omega)))
                go_wp2_with fail
                go_end0
                exact ⟨rfl, _, HO2, (unhide fin).1, (unhide fin).2, HB2⟩
            · have hA1z : (a : Int) < (s : Int) := by omega
              have hA2z : ¬ (s : Int) < (mid : Int) := by omega
              have P2 := hide (And.intro (St.Per.refl a mid (St.rot f s m E)) ((unhide HT).first (by omega) (by omega) (by omega)))
              have HO2 := HO1
              have HB2 := HB1
              clear HO1 HB1
              by_cases hB1 : mid < E
              · by_cases hB2 : E < e
                · have HA := hide ((unhide HT).asks (unhide P2).1 (by omega))
                  have HIN2 := hide ((unhide P2).1.less (by omega) (unhide HIN1))
                  have hk2 := (unhide HK).but HB2 hlk hlg hkb hgb
                  have hB1z : (mid : Int) < (E : Int) := by omega
                  have hB2z : (E : Int) < (e : Int) := by omega
                  go_wp2_with fail
                  refine ((unhide IH) mid E e (St.rot f s m E) _ (by omega) hB1 hB2 hen HO2 hk2 (unhide HIN2) (unhide HA).1 (unhide HA).2.1 (unhide HA).2.2).mono ?_
                  rintro r w9 ⟨rfl, g3, ho3, p3, s3, hb3⟩
                  have fin := hide (St.merge_end (unhide HT) (by omega) (by omega) (unhide P2).1 (unhide P2).2 p3 s3)
                  have HB3 := HB2.trans (hb3.mono HB2.size)
                  clear p3 s3 hb3 HA hk2
                  go_wp2_with fail
                  go_end0
                  exact ⟨rfl, g3, ho3, (unhide fin).1, (unhide fin).2, HB3⟩
                · have hB1z : (mid : Int) < (E : Int) := by omega
                  have hB2z : ¬ (E : Int) < (e : Int) := by omega
                  have fin := hide (St.merge_end (unhide HT) (by omega) (by omega) (unhide P2).1 (unhide P2).2 (St.Per.refl _ _ _) ((unhide HT).second (unhide P2).1 (by omega) (by omega) (by omega)))
                  go_wp2_with fail
                  go_end0
                  exact ⟨rfl, _, HO2, (unhide fin).1, (unhide fin).2, HB2⟩
              · have hB1z : ¬ (mid : Int) < (E : Int) := by omega
                have fin := hide (St.merge_end (unhide HT) (by omega) (by omega) (unhide P2).1 (unhide P2).2 (St.Per.refl _ _ _) ((unhide HT).second (unhide P2).1 (by omega) (by omega) (by omega)))
                go_wp2_with fail
                go_end0
                exact ⟨rfl, _, HO2, (unhide fin).1, (unhide fin).2, HB2⟩
          · have hA1z : ¬ (a : Int) < (s : Int) := by omega
            have P2 := hide (And.intro (St.Per.refl a mid (St.rot f s m E)) ((unhide HT).first (by omega) (by omega) (by omega)))
            have HO2 := HO1
            have HB2 := HB1
            clear HO1 HB1
            by_cases hB1 : mid < E
            · by_cases hB2 : E < e
              · have HA := hide ((unhide HT).asks (unhide P2).1 (by omega))
                have HIN2 := hide ((unhide P2).1.less (by omega) (unhide HIN1))
                have hk2 := (unhide HK).but HB2 hlk hlg hkb hgb
                have hB1z : (mid : Int) < (E : Int) := by omega
                have hB2z : (E : Int) < (e : Int) := by omega
                go_wp2_with fail
                refine ((unhide IH) mid E e (St.rot f s m E) _ (by omega) hB1 hB2 hen HO2 hk2 (unhide HIN2) (unhide HA).1 (unhide HA).2.1 (unhide HA).2.2).mono ?_
                rintro r w9 ⟨rfl, g3, ho3, p3, s3, hb3⟩
                have fin := hide (St.merge_end (unhide HT) (by omega) (by omega) (unhide P2).1 (unhide P2).2 p3 s3)
                have HB3 := HB2.trans (hb3.mono HB2.size)
                clear p3 s3 hb3 HA hk2
                go_wp2_with fail
                go_end0
                exact ⟨rfl, g3, ho3, (unhide fin).1, (unhide fin).2, HB3⟩
              · have hB1z : (mid : Int) < (E : Int) := by omega
                have hB2z : ¬ (E : Int) < (e : Int) := by omega
                have fin := hide (St.merge_end (unhide HT) (by omega) (by omega) (unhide P2).1 (unhide P2).2 (St.Per.refl _ _ _) ((unhide HT).second (unhide P2).1 (by omega) (by omega) (by omega)))
                go_wp2_with fail
                go_end0
                exact ⟨rfl, _, HO2, (unhide fin).1, (unhide fin).2, HB2⟩
            · have hB1z : ¬ (mid : Int) < (E : Int) := by omega
              have fin := hide (St.merge_end (unhide HT) (by omega) (by omega) (unhide P2).1 (unhide P2).2 (St.Per.refl _ _ _) ((unhide HT).second (unhide P2).1 (by omega) (by omega) (by omega)))
              go_wp2_with fail
              go_end0
              exact ⟨rfl, _, HO2, (unhide fin).1, (unhide fin).2, HB2⟩
      · have hR1z : ¬ (s : Int) < (m : Int) := by omega
        have HO1 := ho.all (show f = St.rot f s m E by rw [show s = m by omega, St.rot_none_left f m E hEm])
        have HB1 := hbut
        clear ho hbut
        by_cases hA1 : a < s
        · by_cases hA2 : s < mid
          · have hk1 := (unhide HK).but HB1 hlk hlg hkb hgb
            have hA1z : (a : Int) < (s : Int) := by omega
            have hA2z : (s : Int) < (mid : Int) := by omega
            go_wp2_with fail
            refine ((unhide IH) a s mid (St.rot f s m E) _ (by omega) hA1 hA2 (by omega) HO1 hk1 (unhide HIN1) (unhide HT).s1 (unhide HT).s2 (unhide HT).l1).mono ?_
            rintro r w8 ⟨rfl, g2, HO2, p2, s2, hb2⟩
            have P2 := hide (And.intro p2 s2)
            have HB2 := HB1.trans (hb2.mono HB1.size)
            clear p2 s2 hb2 hk1 HO1 HB1
            by_cases hB1 : mid < E
            · by_cases hB2 : E < e
              · have HA := hide ((unhide HT).asks (unhide P2).1 (by omega))
                have HIN2 := hide ((unhide P2).1.less (by omega) (unhide HIN1))
                have hk2 := (unhide HK).but HB2 hlk hlg hkb hgb
                have hB1z : (mid : Int) < (E : Int) := by omega
                have hB2z : (E : Int) < (e : Int) := by omega
                go_wp2_with fail
                refine ((unhide IH) mid E e g2 _ (by omega) hB1 hB2 hen HO2 hk2 (unhide HIN2) (unhide HA).1 (unhide HA).2.1 (unhide HA).2.2).mono ?_
                rintro r w9 ⟨rfl, g3, ho3, p3, s3, hb3⟩
                have fin := hide (St.merge_end (unhide HT) (by omega) (by omega) (unhide P2).1 (unhide P2).2 p3 s3)
                have HB3 := HB2.trans (hb3.mono HB2.size)
                clear p3 s3 hb3 HA hk2
                go_wp2_with fail
                go_end0
                exact ⟨rfl, g3, ho3, (unhide fin).1, (unhide fin).2, HB3⟩
              · have hB1z : (mid : Int) < (E : Int) := by omega
                have hB2z : ¬ (E : Int) < (e : Int) := by omega
                have fin := hide (St.merge_end (unhide HT) (by omega) (by omega) (unhide P2).1 (unhide P2).2 (St.Per.refl _ _ _) ((unhide HT).second (unhide P2).1 (by omega) (by omega) (by omega)))
                go_wp2_with fail
                go_end0
                exact ⟨rfl, _, HO2, (unhide fin).1, (unhide fin).2, HB2⟩
            · have hB1z : ¬ (mid : Int) < (E : Int) := by omega
              have fin := hide (St.merge_end (unhide HT) (by omega) (by omega) (unhide P2).1 (unhide P2).2 (St.Per.refl _ _ _) ((unhide HT).second (unhide P2).1 (by omega) (by omega) (by omega)))
              go_wp2_with fail
              go_end0
              exact ⟨rfl, _, HO2, (unhide fin).1, (unhide fin).2, HB2⟩
          · have hA1z : (a : Int) < (s : Int) := by omega
            have hA2z : ¬ (s : Int) < (mid : Int) := by omega
            have P2 := hide (And.intro (St.Per.refl a mid (St.rot f s m E)) ((unhide HT).first (by omega) (by omega) (by omega)))
            have HO2 := HO1
            have HB2 := HB1
            clear HO1 HB1
            by_cases hB1 : mid < E
            · by_cases hB2 : E < e
              · have HA := hide ((unhide HT).asks (unhide P2).1 (by omega))
                have HIN2 := hide ((unhide P2).1.less (by omega) (unhide HIN1))
                have hk2 := (unhide HK).but HB2 hlk hlg hkb hgb
                have hB1z : (mid : Int) < (E : Int) := by omega
                have hB2z : (E : Int) < (e : Int) := by omega
                go_wp2_with fail
                refine ((unhide IH) mid E e (St.rot f s m E) _ (by omega) hB1 hB2 hen HO2 hk2 (unhide HIN2) (unhide HA).1 (unhide HA).2.1 (unhide HA).2.2).mono ?_
                rintro r w9 ⟨rfl, g3, ho3, p3, s3, hb3⟩
                have fin := hide (St.merge_end (unhide HT) (by omega) (by omega) (unhide P2).1 (unhide P2).2 p3 s3)
                have HB3 := HB2.trans (hb3.mono HB2.size)
                clear p3 s3 hb3 HA hk2
                go_wp2_with fail
                go_end0
                exact ⟨rfl, g3, ho3, (unhide fin).1, (unhide fin).2, HB3⟩
              · have hB1z : (mid : Int) < (E : Int) := by omega
                have hB2z : ¬ (E : Int) < (e : Int) := by omega
                have fin := hide (St.merge_end (unhide HT) (by omega) (by omega) (unhide P2).1 (unhide P2).2 (St.Per.refl _ _ _) ((unhide HT).second (unhide P2).1 (by omega) (by omega) (by omega)))
                go_wp2_with fail
                go_end0
                exact ⟨rfl, _, HO2, (unhide fin).1, (unhide fin).2, HB2⟩
            · have hB1z : ¬ (mid : Int) < (E : Int) := by omega
              have fin := hide (St.merge_end (unhide HT) (by omega) (by omega) (unhide P2).1 (unhide P2).2 (St.Per.refl _ _ _) ((unhide HT).second (unhide P2).1 (by omega) (by omega) (by omega)))
              go_wp2_with fail
              go_end0
              exact ⟨rfl, _, HO2, (unhide fin).1, (unhide fin).2, HB2⟩
        · have hA1z : ¬ (a : Int) < (s : Int) := by omega
          have P2 := hide (And.intro (St.Per.refl a mid (St.rot f s m E)) ((unhide HT).first (by omega) (by omega) (by omega)))
          have HO2 := HO1
          have HB2 := HB1
          clear HO1 HB1
          by_cases hB1 : mid < E
          · by_cases hB2 : E < e
            · have HA := hide ((unhide HT).asks (unhide P2).1 (by omega))
              have HIN2 := hide ((unhide P2).1.less (by omega) (unhide HIN1))
              have hk2 := (unhide HK).but HB2 hlk hlg hkb hgb
              have hB1z : (mid : Int) < (E : Int) := by omega
              have hB2z : (E : Int) < (e : Int) := by omega
              go_wp2_with fail
              refine ((unhide IH) mid E e (St.rot f s m E) _ (by omega) hB1 hB2 hen HO2 hk2 (unhide HIN2) (unhide HA).1 (unhide HA).2.1 (unhide HA).2.2).mono ?_
              rintro r w9 ⟨rfl, g3, ho3, p3, s3, hb3⟩
              have fin := hide (St.merge_end (unhide HT) (by omega) (by omega) (unhide P2).1 (unhide P2).2 p3 s3)
              have HB3 := HB2.trans (hb3.mono HB2.size)
              clear p3 s3 hb3 HA hk2
              go_wp2_with fail
              go_end0
              exact ⟨rfl, g3, ho3, (unhide fin).1, (unhide fin).2, HB3⟩
            · have hB1z : (mid : Int) < (E : Int) := by omega
              have hB2z : ¬ (E : Int) < (e : Int) := by omega
              have fin := hide (St.merge_end (unhide HT) (by omega) (by omega) (unhide P2).1 (unhide P2).2 (St.Per.refl _ _ _) ((unhide HT).second (unhide P2).1 (by omega) (by omega) (by omega)))
              go_wp2_with fail
              go_end0
              exact ⟨rfl, _, HO2, (unhide fin).1, (unhide fin).2, HB2⟩
          · have hB1z : ¬ (mid : Int) < (E : Int) := by omega
            have fin := hide (St.merge_end (unhide HT) (by omega) (by omega) (unhide P2).1 (unhide P2).2 (St.Per.refl _ _ _) ((unhide HT).second (unhide P2).1 (by omega) (by omega) (by omega)))
            go_wp2_with fail
            go_end0
            exact ⟨rfl, _, HO2, (unhide fin).1, (unhide fin).2, HB2⟩

end Go.Proofs.Ytlmibdddfjbbdaa
