/-
  The library's merge of two sorted runs of places, in general.
  The library's stable sort of a row of places, whole.
  impl.SortOf.
-/
import Derived.Test.YtcolohilnmikiaaGreatSvZb
import Derived.Test.YtcolohilnmikiaaGreatSrtX
namespace Go.Proofs.YtcolohilnmikiaaGreat
open Go.RowKit
set_option linter.unusedVariables false
set_option linter.unusedSimpArgs false

/-- What a merge of fewer than d places does. -/
def MergeUptoS (b n cap : Nat) (β ν γ : Nat → Nat) (ps : List (List M.Cl)) (d : Nat) : Prop :=
  ∀ (a m e : Nat) (f : Nat → Nat) (w : World), e - a ≤ d → a < m → m < e → e ≤ n → OwnS β ν γ w b n f → PartsAt w b β ν γ ps → (∀ k, k < n → f k < n) → St.Srt (St.pltV ps) a m f → St.Srt (St.pltV ps) m e f → St.Lo a m e f → Calls Tryz.prog 85 #[.slice (some ⟨b, 0, none⟩) n cap, .int .i64 a, .int .i64 m, .int .i64 e, .func (.func 49) #[] #[]] w fun r w' => r = .returned (.tuple #[]) ∧ ∃ f', OwnS β ν γ w' b n f' ∧ St.Per a e f f' ∧ St.Srt (St.pltV ps) a e f' ∧ But w.heap.size b w w'

set_option maxRecDepth 100000 in
set_option maxHeartbeats 8000000 in
theorem mergeHighS_any (b n cap : Nat) (β ν γ : Nat → Nat) (ps : List (List M.Cl)) (hks : ps.length = n) (hn : n ≤ 1048576) (hcap : n ≤ cap) (d : Nat) (IH : MergeUptoS b n cap β ν γ ps d) (a m e mid : Nat) (f : Nat → Nat) (w : World) (hd : e - a ≤ d + 1) (ham : a + 1 < m) (hme : m + 1 < e) (hen : e ≤ n) (h : OwnS β ν γ w b n f) (hK : PartsAt w b β ν γ ps) (hin : ∀ k, k < n → f k < n) (hl : St.Srt (St.pltV ps) a m f) (hr : St.Srt (St.pltV ps) m e f) (hlo : St.Lo a m e f) (hmid : mid = (a + e) / 2) (hc : mid < m) :
    Calls Tryz.prog 85 #[.slice (some ⟨b, 0, none⟩) n cap, .int .i64 a, .int .i64 m, .int .i64 e, .func (.func 49) #[] #[]] w fun r w' => r = .returned (.tuple #[]) ∧ ∃ f', OwnS β ν γ w' b n f' ∧ St.Per a e f f' ∧ St.Srt (St.pltV ps) a e f' ∧ But w.heap.size b w w' := by
  have HK := hide hK
  have HIN := hide hin
  have HL := hide hl
  have HR := hide hr
  have HLO := hide hlo
  have t1 : ((m : Int) - (a : Int) == 1) = false := by simp; omega
  have t2 : ((e : Int) - (m : Int) == 1) = false := by simp; omega
  have emid : ((a : Int) + (e : Int)) / 2 = (mid : Int) := by omega
  obtain ⟨P, hP⟩ : ∃ P : Nat, P = mid + m - 1 := ⟨_, rfl⟩
  have eP : (mid : Int) + (m : Int) - 1 = (P : Int) := by omega
  obtain ⟨lo, hi, hlohi⟩ : ∃ lo hi : Nat, (mid < m ∧ lo + e = mid + m ∧ hi = mid) ∨ (m ≤ mid ∧ lo = a ∧ hi = m) := ⟨mid + m - e, mid, .inl (by omega)⟩
  have hcz : (mid : Int) < (m : Int) := by omega
  have elo : (mid : Int) + (m : Int) - (e : Int) = (lo : Int) := by omega
  have ehi : hi = mid := by omega
  have ham : a < m := by omega
  have hme : m < e := by omega
  have hx_0 : lo ≤ hi := by omega
  have hx_1 : a ≤ lo := by omega
  have hx_2 : hi ≤ m := by omega
  have hx_3 : hi ≤ mid := by omega
  have hx_4 : mid + m ≤ e + lo := by omega
  have hx_5 : mid < e := by omega
  have hx_6 : a < mid := by omega
  have HLH := hide hlohi
  have HP := hide hP
  have HMID := hide hmid
  clear hK hin hl hr hlo hlohi hmid hc hP
  have IH := hide IH
  go_enter Tryz.func85, Tryz.ntmps85
  go_wp2_with fail
  go_loopg [20, 21] (hi - lo) (fun gh s20 s21 wr => ∃ s r : Nat, Hid (gh = r - s) ∧ s20 = .int .i64 s ∧ s21 = .int .i64 r ∧ lo ≤ s ∧ s ≤ r ∧ r ≤ hi ∧ Hid (∀ c, lo ≤ c → c < s → St.ptestV ps (f (mid + m - 1 - c)) (f c) = false) ∧ Hid (∀ c, r ≤ c → c < hi → St.ptestV ps (f (mid + m - 1 - c)) (f c) = true) ∧ OwnS β ν γ wr b n f ∧ But w.heap.size b w wr)
  case atStart => exact ⟨lo, hi, rfl, by first | rfl | (congr 1; omega), by first | rfl | (congr 1; omega), by omega, by omega, by omega, fun c h1 h2 => by omega, fun c h1 h2 => by omega, h, But.refl _ _ _⟩
  case round =>
    obtain ⟨s, r, hg, rfl, rfl, hls, hsr0, hrh, hno, hyes, ho, hbut⟩ := hrel
    by_cases hlt : s < r
    · have hltz : (s : Int) < (r : Int) := by omega
      obtain ⟨q, hq⟩ : ∃ q : Nat, q = (s + r) / 2 := ⟨_, rfl⟩
      have hqi : s ≤ q := by omega
      have hqj : q < r := by omega
      have eq : ((s : Int) + (r : Int)) / 2 = (q : Int) := by omega
      obtain ⟨x, hx⟩ : ∃ x : Nat, x = mid + m - 1 - q := ⟨_, rfl⟩
      have hPx : P = x + q := by have := unhide HP; omega
      subst hPx
      have hxn : x < n := by omega
      have hqz : (q : Int) < (n : Int) := by omega
      have hxz : (x : Int) < (n : Int) := by omega
      have hp1 : (0 : Int) ≤ (x : Int) := by omega
      have hw1 : IntKind.i64.wrap (x : Int) = (x : Int) := IntWalk.i64_in _ ⟨by omega, by omega⟩
      have hw2 : IntKind.i64.wrap ((x : Int) + (q : Int) - (q : Int)) = (x : Int) := by rw [show ((x : Int) + (q : Int) - (q : Int)) = (x : Int) by omega]; exact hw1
      clear hq
      have l1 := show wr.cell? ⟨b, x, none⟩ = some (.slice (some ⟨β (f x), 0, none⟩) (ν (f x)) (γ (f x))) from ho.cell (by omega)
      have l2 := show wr.cell? ⟨b, q, none⟩ = some (.slice (some ⟨β (f q), 0, none⟩) (ν (f q)) (γ (f q))) from ho.cell (by omega)
      have HC := cmpS_any (f x) (f q) b β ν γ ps wr.drew ((unhide HK).but hbut.drew) (by rw [hks]; exact (unhide HIN) x (by omega)) (by rw [hks]; exact (unhide HIN) q (by omega)) (by omega)
      have hneg := St.cmpV_neg ps (f x) (f q)
      have HX := hide hx
      clear hx
      generalize St.cmpV ps (f x) (f q) = c at *
      cases hv : St.ptestV ps (f x) (f q) with
      | false =>
        rw [hv] at hneg
        rw [unhide HX] at hv
        have hno2 := hide (show ∀ c, lo ≤ c → c < q + 1 → St.ptestV ps (f (mid + m - 1 - c)) (f c) = false from fun c h1 h2 => by
          cases hy : St.ptestV ps (f (mid + m - 1 - c)) (f c) with
          | false => rfl
          | true =>
            have := St.find_mid (St.pordV ps) (unhide HL) (unhide HR) (p := mid + m - 1) (c := c) (c' := q) (by omega) (by omega) (by omega) (by omega) (by omega) (by omega) hy
            rw [hv] at this; cases this)
        clear hv HX
        go_wp2_with fail
        go_region_held3 (fun w' => w'.cell? ⟨b, x, none⟩ = some (.slice (some ⟨β (f x), 0, none⟩) (ν (f x)) (γ (f x))) ∧ w'.cell? ⟨b, q, none⟩ = some (.slice (some ⟨β (f q), 0, none⟩) (ν (f q)) (γ (f q)))) (first | (simp [go_sem, l1, l2]; done) | exact ⟨(hb7.cell (by exact ho.lt)).trans l1, (hb7.cell (by exact ho.lt)).trans l2⟩)
          (first | (go_at_call 49; refine HC.mono ?_; rintro ec w7 ⟨rfl, hb7⟩))
        have ho7 := ho.drew.below hb7 ho.drew.lt
        have hbut7 := hbut.drew.then hb7
        clear l1 l2
        go_wp2_with fail
        go_roundg (r - (q + 1))
        case rel => exact ⟨q + 1, r, rfl, by go_num, rfl, by omega, by omega, hrh, unhide hno2, hyes, ho7, hbut7⟩
        case measure => have := hg.out; omega
      | true =>
        rw [hv] at hneg
        rw [unhide HX] at hv
        have hyes2 := hide (show ∀ c, q ≤ c → c < hi → St.ptestV ps (f (mid + m - 1 - c)) (f c) = true from fun c h1 h2 => St.find_mid (St.pordV ps) (unhide HL) (unhide HR) (p := mid + m - 1) (c := q) (c' := c) (by omega) h1 (by omega) (by omega) (by omega) (by omega) hv)
        clear hv HX
        go_wp2_with fail
        go_region_held3 (fun w' => w'.cell? ⟨b, x, none⟩ = some (.slice (some ⟨β (f x), 0, none⟩) (ν (f x)) (γ (f x))) ∧ w'.cell? ⟨b, q, none⟩ = some (.slice (some ⟨β (f q), 0, none⟩) (ν (f q)) (γ (f q)))) (first | (simp [go_sem, l1, l2]; done) | exact ⟨(hb7.cell (by exact ho.lt)).trans l1, (hb7.cell (by exact ho.lt)).trans l2⟩)
          (first | (go_at_call 49; refine HC.mono ?_; rintro ec w7 ⟨rfl, hb7⟩))
        have ho7 := ho.drew.below hb7 ho.drew.lt
        have hbut7 := hbut.drew.then hb7
        clear l1 l2
        go_wp2_with fail
        go_roundg (q - s)
        case rel => exact ⟨s, q, rfl, rfl, rfl, by omega, by omega, by omega, hno, unhide hyes2, ho7, hbut7⟩
        case measure => have := hg.out; omega
    · have hltz : ¬ (s : Int) < (r : Int) := by omega
      have hrs : r = s := by omega
      subst hrs
      have hsr : r ≤ hi := hrh
      obtain ⟨s, hs⟩ : ∃ s, s = r := ⟨_, rfl⟩
      subst hs
      clear hg hsr0 hrh hlt
      obtain ⟨E, hE⟩ : ∃ E : Nat, E + s = mid + m := ⟨mid + m - s, by omega⟩
      have eE : (mid : Int) + (m : Int) - (s : Int) = (E : Int) := by omega
      have HT := hide (St.turn (St.pordV ps) (unhide HL) (unhide HR) (unhide HLO) ham hme (unhide HMID) (unhide HLH) hls hsr hE hno.out hyes.out)
      have HIN1 := hide ((unhide HT).per.less hen (unhide HIN))
      have hEm : m ≤ E := by omega
      have hEe : E ≤ e := by omega
      have hmE : mid ≤ E := by omega
      have hsm : s ≤ m := by omega
      have hsmid : s ≤ mid := by omega
      have has : a ≤ s := by omega
      have hemid : mid ≤ e := by omega
      clear hno hyes hls hsr HLH HMID
      by_cases hR1 : s < m
      · by_cases hR2 : m < E
        · have hR1z : (s : Int) < (m : Int) := by omega
          have hR2z : (m : Int) < (E : Int) := by omega
          go_wp2_with fail
          refine (rotateS_any b n cap β ν γ f s m E _ _ ho hR1 hR2 (by omega) hn hcap).mono ?_
          rintro r w7 ⟨rfl, HO1, hb1⟩
          have HB1 := hbut.trans (hb1.mono hbut.size)
          clear hb1 ho hbut
          by_cases hA1 : a < s
          · by_cases hA2 : s < mid
            · have hk1 := (unhide HK).but HB1
              have hA1z : (a : Int) < (s : Int) := by omega
              have hA2z : (s : Int) < (mid : Int) := by omega
              go_wp2_with fail
              refine ((unhide IH) a s mid (St.rot f s m E) _ (by omega) hA1 hA2 (by omega) HO1 hk1 (unhide HIN1) (unhide HT).s1 (unhide HT).s2 (unhide HT).l1).mono ?_
              rintro r w8 ⟨rfl, g2, HO2, p2, s2, hb2⟩
              have P2 := hide (And.intro p2 s2)
              have HB2 := HB1.trans (hb2.mono HB1.size)
              clear p2 s2 hb2 hk1 HO1 HB1
              by_cases hB1 : mid < E
              · by_cases hB2 : E < e
                · have HA := hide ((unhide HT).asks (unhide P2).1 (by omega))
                  have HIN2 := hide ((unhide P2).1.less (by omega) (unhide HIN1))
                  have hk2 := (unhide HK).but HB2
                  have hB1z : (mid : Int) < (E : Int) := by omega
                  have hB2z : (E : Int) < (e : Int) := by omega
                  go_wp2_with fail
                  refine ((unhide IH) mid E e g2 _ (by omega) hB1 hB2 hen HO2 hk2 (unhide HIN2) (unhide HA).1 (unhide HA).2.1 (unhide HA).2.2).mono ?_
                  rintro r w9 ⟨rfl, g3, ho3, p3, s3, hb3⟩
                  have fin := hide (St.merge_end (unhide HT) (by omega) (by omega) (unhide P2).1 (unhide P2).2 p3 s3)
                  have HB3 := HB2.trans (hb3.mono HB2.size)
                  clear p3 s3 hb3 HA hk2
                  go_wp2_with fail
                  go_end0
                  exact ⟨rfl, g3, ho3, (unhide fin).1, (unhide fin).2, HB3⟩
                · have hB1z : (mid : Int) < (E : Int) := by omega
                  have hB2z : ¬ (E : Int) < (e : Int) := by omega
                  have fin := hide (St.merge_end (unhide HT) (by omega) (by omega) (unhide P2).1 (unhide P2).2 (St.Per.refl _ _ _) ((unhide HT).second (unhide P2).1 (by omega) (by omega) (by omega)))
                  go_wp2_with fail
                  go_end0
                  exact ⟨rfl, _, HO2, (unhide fin).1, (unhide fin).2, HB2⟩
              · have hB1z : ¬ (mid : Int) < (E : Int) := by omega
                have fin := hide (St.merge_end (unhide HT) (by omega) (by omega) (unhide P2).1 (unhide P2).2 (St.Per.refl _ _ _) ((unhide HT).second (unhide P2).1 (by omega) (by omega) (by omega)))
                go_wp2_with fail
                go_end0
                exact ⟨rfl, _, HO2, (unhide fin).1, (unhide fin).2, HB2⟩
            · have hA1z : (a : Int) < (s : Int) := by omega
              have hA2z : ¬ (s : Int) < (mid : Int) := by omega
              have P2 := hide (And.intro (St.Per.refl a mid (St.rot f s m E)) ((unhide HT).first (by omega) (by omega) (by omega)))
              have HO2 := HO1
              have HB2 := HB1
              clear HO1 HB1
              by_cases hB1 : mid < E
              · by_cases hB2 : E < e
                · have HA := hide ((unhide HT).asks (unhide P2).1 (by omega))
                  have HIN2 := hide ((unhide P2).1.less (by omega) (unhide HIN1))
                  have hk2 := (unhide HK).but HB2
                  have hB1z : (mid : Int) < (E : Int) := by omega
                  have hB2z : (E : Int) < (e : Int) := by omega
                  go_wp2_with fail
                  refine ((unhide IH) mid E e (St.rot f s m E) _ (by omega) hB1 hB2 hen HO2 hk2 (unhide HIN2) (unhide HA).1 (unhide HA).2.1 (unhide HA).2.2).mono ?_
                  rintro r w9 ⟨rfl, g3, ho3, p3, s3, hb3⟩
                  have fin := hide (St.merge_end (unhide HT) (by omega) (by omega) (unhide P2).1 (unhide P2).2 p3 s3)
                  have HB3 := HB2.trans (hb3.mono HB2.size)
                  clear p3 s3 hb3 HA hk2
                  go_wp2_with fail
                  go_end0
                  exact ⟨rfl, g3, ho3, (unhide fin).1, (unhide fin).2, HB3⟩
                · have hB1z : (mid : Int) < (E : Int) := by omega
                  have hB2z : ¬ (E : Int) < (e : Int) := by omega
                  have fin := hide (St.merge_end (unhide HT) (by omega) (by omega) (unhide P2).1 (unhide P2).2 (St.Per.refl _ _ _) ((unhide HT).second (unhide P2).1 (by omega) (by omega) (by omega)))
                  go_wp2_with fail
                  go_end0
                  exact ⟨rfl, _, HO2, (unhide fin).1, (unhide fin).2, HB2⟩
              · have hB1z : ¬ (mid : Int) < (E : Int) := by omega
                have fin := hide (St.merge_end (unhide HT) (by omega) (by omega) (unhide P2).1 (unhide P2).2 (St.Per.refl _ _ _) ((unhide HT).second (unhide P2).1 (by omega) (by omega) (by omega)))
                go_wp2_with fail
                go_end0
                exact ⟨rfl, _, HO2, (unhide fin).1, (unhide fin).2, HB2⟩
          · have hA1z : ¬ (a : Int) < (s : Int) := by omega
            have P2 := hide (And.intro (St.Per.refl a mid (St.rot f s m E)) ((unhide HT).first (by omega) (by omega) (by omega)))
            have HO2 := HO1
            have HB2 := HB1
            clear HO1 HB1
            by_cases hB1 : mid < E
            · by_cases hB2 : E < e
              · have HA := hide ((unhide HT).asks (unhide P2).1 (by omega))
                have HIN2 := hide ((unhide P2).1.less (by omega) (unhide HIN1))
                have hk2 := (unhide HK).but HB2
                have hB1z : (mid : Int) < (E : Int) := by omega
                have hB2z : (E : Int) < (e : Int) := by omega
                go_wp2_with fail
                refine ((unhide IH) mid E e (St.rot f s m E) _ (by omega) hB1 hB2 hen HO2 hk2 (unhide HIN2) (unhide HA).1 (unhide HA).2.1 (unhide HA).2.2).mono ?_
                rintro r w9 ⟨rfl, g3, ho3, p3, s3, hb3⟩
                have fin := hide (St.merge_end (unhide HT) (by omega) (by omega) (unhide P2).1 (unhide P2).2 p3 s3)
                have HB3 := HB2.trans (hb3.mono HB2.size)
                clear p3 s3 hb3 HA hk2
                go_wp2_with fail
                go_end0
                exact ⟨rfl, g3, ho3, (unhide fin).1, (unhide fin).2, HB3⟩
              · have hB1z : (mid : Int) < (E : Int) := by omega
                have hB2z : ¬ (E : Int) < (e : Int) := by omega
                have fin := hide (St.merge_end (unhide HT) (by omega) (by omega) (unhide P2).1 (unhide P2).2 (St.Per.refl _ _ _) ((unhide HT).second (unhide P2).1 (by omega) (by omega) (by omega)))
                go_wp2_with fail
                go_end0
                exact ⟨rfl, _, HO2, (unhide fin).1, (unhide fin).2, HB2⟩
            · have hB1z : ¬ (mid : Int) < (E : Int) := by omega
              have fin := hide (St.merge_end (unhide HT) (by omega) (by omega) (unhide P2).1 (unhide P2).2 (St.Per.refl _ _ _) ((unhide HT).second (unhide P2).1 (by omega) (by omega) (by omega)))
              go_wp2_with fail
              go_end0
              exact ⟨rfl, _, HO2, (unhide fin).1, (unhide fin).2, HB2⟩
        · have hR1z : (s : Int) < (m : Int) := by omega
          have hR2z : ¬ (m : Int) < (E : Int) := by omega
          have HO1 := ho.all (show f = St.rot f s m E by rw [show E = m by omega, St.rot_none_right])
          have HB1 := hbut
          clear ho hbut
          by_cases hA1 : a < s
          · by_cases hA2 : s < mid
            · have hk1 := (unhide HK).but HB1
              have hA1z : (a : Int) < (s : Int) := by omega
              have hA2z : (s : Int) < (mid : Int) := by omega
              go_wp2_with fail
              refine ((unhide IH) a s mid (St.rot f s m E) _ (by omega) hA1 hA2 (by omega) HO1 hk1 (unhide HIN1) (unhide HT).s1 (unhide HT).s2 (unhide HT).l1).mono ?_
              rintro r w8 ⟨rfl, g2, HO2, p2, s2, hb2⟩
              have P2 := hide (And.intro p2 s2)
              have HB2 := HB1.trans (hb2.mono HB1.size)
              clear p2 s2 hb2 hk1 HO1 HB1
              by_cases hB1 : mid < E
              · by_cases hB2 : E < e
                · have HA := hide ((unhide HT).asks (unhide P2).1 (by omega))
                  have HIN2 := hide ((unhide P2).1.less (by omega) (unhide HIN1))
                  have hk2 := (unhide HK).but HB2
                  have hB1z : (mid : Int) < (E : Int) := by omega
                  have hB2z : (E : Int) < (e : Int) := by omega
                  go_wp2_with fail
                  refine ((unhide IH) mid E e g2 _ (by omega) hB1 hB2 hen HO2 hk2 (unhide HIN2) (unhide HA).1 (unhide HA).2.1 (unhide HA).2.2).mono ?_
                  rintro r w9 ⟨rfl, g3, ho3, p3, s3, hb3⟩
                  have fin := hide (St.merge_end (unhide HT) (by omega) (by omega) (unhide P2).1 (unhide P2).2 p3 s3)
                  have HB3 := HB2.trans (hb3.mono HB2.size)
                  clear p3 s3 hb3 HA hk2
                  go_wp2_with fail
                  go_end0
                  exact ⟨rfl, g3, ho3, (unhide fin).1, (unhide fin).2, HB3⟩
                · have hB1z : (mid : Int) < (E : Int) := by omega
                  have hB2z : ¬ (E : Int) < (e : Int) := by omega
                  have fin := hide (St.merge_end (unhide HT) (by omega) (by omega) (unhide P2).1 (unhide P2).2 (St.Per.refl _ _ _) ((unhide HT).second (unhide P2).1 (by omega) (by omega) (by omega)))
                  go_wp2_with fail
                  go_end0
                  exact ⟨rfl, _, HO2, (unhide fin).1, (unhide fin).2, HB2⟩
              · have hB1z : ¬ (mid : Int) < (E : Int) := by omega
                have fin := hide (St.merge_end (unhide HT) (by omega) (by omega) (unhide P2).1 (unhide P2).2 (St.Per.refl _ _ _) ((unhide HT).second (unhide P2).1 (by omega) (by omega) (by omega)))
                go_wp2_with fail
                go_end0
                exact ⟨rfl, _, HO2, (unhide fin).1, (unhide fin).2, HB2⟩
            · have hA1z : (a : Int) < (s : Int) := by omega
              have hA2z : ¬ (s : Int) < (mid : Int) := by omega
              have P2 := hide (And.intro (St.Per.refl a mid (St.rot f s m E)) ((unhide HT).first (by omega) (by omega) (by omega)))
              have HO2 := HO1
              have HB2 := HB1
              clear HO1 HB1
              by_cases hB1 : mid < E
              · by_cases hB2 : E < e
                · have HA := hide ((unhide HT).asks (unhide P2).1 (by omega))
                  have HIN2 := hide ((unhide P2).1.less (by omega) (unhide HIN1))
                  have hk2 := (unhide HK).but HB2
                  have hB1z : (mid : Int) < (E : Int) := by omega
                  have hB2z : (E : Int) < (e : Int) := by omega
                  go_wp2_with fail
                  refine ((unhide IH) mid E e (St.rot f s m E) _ (by omega) hB1 hB2 hen HO2 hk2 (unhide HIN2) (unhide HA).1 (unhide HA).2.1 (unhide HA).2.2).mono ?_
                  rintro r w9 ⟨rfl, g3, ho3, p3, s3, hb3⟩
                  have fin := hide (St.merge_end (unhide HT) (by omega) (by omega) (unhide P2).1 (unhide P2).2 p3 s3)
                  have HB3 := HB2.trans (hb3.mono HB2.size)
                  clear p3 s3 hb3 HA hk2
                  go_wp2_with fail
                  go_end0
                  exact ⟨rfl, g3, ho3, (unhide fin).1, (unhide fin).2, HB3⟩
                · have hB1z : (mid : Int) < (E : Int) := by omega
                  have hB2z : ¬ (E : Int) < (e : Int) := by omega
                  have fin := hide (St.merge_end (unhide HT) (by omega) (by omega) (unhide P2).1 (unhide P2).2 (St.Per.refl _ _ _) ((unhide HT).second (unhide P2).1 (by omega) (by omega) (by omega)))
                  go_wp2_with fail
                  go_end0
                  exact ⟨rfl, _, HO2, (unhide fin).1, (unhide fin).2, HB2⟩
              · have hB1z : ¬ (mid : Int) < (E : Int) := by omega
                have fin := hide (St.merge_end (unhide HT) (by omega) (by omega) (unhide P2).1 (unhide P2).2 (St.Per.refl _ _ _) ((unhide HT).second (unhide P2).1 (by omega) (by omega) (by omega)))
                go_wp2_with fail
                go_end0
                exact ⟨rfl, _, HO2, (unhide fin).1, (unhide fin).2, HB2⟩
          · have hA1z : ¬ (a : Int) < (s : Int) := by omega
            have P2 := hide (And.intro (St.Per.refl a mid (St.rot f s m E)) ((unhide HT).first (by omega) (by omega) (by omega)))
            have HO2 := HO1
            have HB2 := HB1
            clear HO1 HB1
            by_cases hB1 : mid < E
            · by_cases hB2 : E < e
              · have HA := hide ((unhide HT).asks (unhide P2).1 (by omega))
                have HIN2 := hide ((unhide P2).1.less (by omega) (unhide HIN1))
                have hk2 := (unhide HK).but HB2
                have hB1z : (mid : Int) < (E : Int) := by omega
                have hB2z : (E : Int) < (e : Int) := by omega
                go_wp2_with fail
                refine ((unhide IH) mid E e (St.rot f s m E) _ (by omega) hB1 hB2 hen HO2 hk2 (unhide HIN2) (unhide HA).1 (unhide HA).2.1 (unhide HA).2.2).mono ?_
                rintro r w9 ⟨rfl, g3, ho3, p3, s3, hb3⟩
                have fin := hide (St.merge_end (unhide HT) (by omega) (by omega) (unhide P2).1 (unhide P2).2 p3 s3)
                have HB3 := HB2.trans (hb3.mono HB2.size)
                clear p3 s3 hb3 HA hk2
                go_wp2_with fail
                go_end0
                exact ⟨rfl, g3, ho3, (unhide fin).1, (unhide fin).2, HB3⟩
              · have hB1z : (mid : Int) < (E : Int) := by omega
                have hB2z : ¬ (E : Int) < (e : Int) := by omega
                have fin := hide (St.merge_end (unhide HT) (by omega) (by omega) (unhide P2).1 (unhide P2).2 (St.Per.refl _ _ _) ((unhide HT).second (unhide P2).1 (by omega) (by omega) (by omega)))
                go_wp2_with fail
                go_end0
                exact ⟨rfl, _, HO2, (unhide fin).1, (unhide fin).2, HB2⟩
            · have hB1z : ¬ (mid : Int) < (E : Int) := by omega
              have fin := hide (St.merge_end (unhide HT) (by omega) (by omega) (unhide P2).1 (unhide P2).2 (St.Per.refl _ _ _) ((unhide HT).second (unhide P2).1 (by omega) (by omega) (by omega)))
              go_wp2_with fail
              go_end0
              exact ⟨rfl, _, HO2, (unhide fin).1, (unhide fin).2, HB2⟩
      · have hR1z : ¬ (s : Int) < (m : Int) := by omega
        have HO1 := ho.all (show f = St.rot f s m E by rw [show s = m by omega, St.rot_none_left f m E hEm])
        have HB1 := hbut
        clear ho hbut
        by_cases hA1 : a < s
        · by_cases hA2 : s < mid
          · have hk1 := (unhide HK).but HB1
            have hA1z : (a : Int) < (s : Int) := by omega
            have hA2z : (s : Int) < (mid : Int) := by omega
            go_wp2_with fail
            refine ((unhide IH) a s mid (St.rot f s m E) _ (by omega) hA1 hA2 (by omega) HO1 hk1 (unhide HIN1) (unhide HT).s1 (unhide HT).s2 (unhide HT).l1).mono ?_
            rintro r w8 ⟨rfl, g2, HO2, p2, s2, hb2⟩
            have P2 := hide (And.intro p2 s2)
            have HB2 := HB1.trans (hb2.mono HB1.size)
            clear p2 s2 hb2 hk1 HO1 HB1
            by_cases hB1 : mid < E
            · by_cases hB2 : E < e
              · have HA := hide ((unhide HT).asks (unhide P2).1 (by omega))
                have HIN2 := hide ((unhide P2).1.less (by omega) (unhide HIN1))
                have hk2 := (unhide HK).but HB2
                have hB1z : (mid : Int) < (E : Int) := by omega
                have hB2z : (E : Int) < (e : Int) := by omega
                go_wp2_with fail
                refine ((unhide IH) mid E e g2 _ (by omega) hB1 hB2 hen HO2 hk2 (unhide HIN2) (unhide HA).1 (unhide HA).2.1 (unhide HA).2.2).mono ?_
                rintro r w9 ⟨rfl, g3, ho3, p3, s3, hb3⟩
                have fin := hide (St.merge_end (unhide HT) (by omega) (by omega) (unhide P2).1 (unhide P2).2 p3 s3)
                have HB3 := HB2.trans (hb3.mono HB2.size)
                clear p3 s3 hb3 HA hk2
                go_wp2_with fail
                go_end0
                exact ⟨rfl, g3, ho3, (unhide fin).1, (unhide fin).2, HB3⟩
              · have hB1z : (mid : Int) < (E : Int) := by omega
                have hB2z : ¬ (E : Int) < (e : Int) := by omega
                have fin := hide (St.merge_end (unhide HT) (by omega) (by omega) (unhide P2).1 (unhide P2).2 (St.Per.refl _ _ _) ((unhide HT).second (unhide P2).1 (by omega) (by omega) (by omega)))
                go_wp2_with fail
                go_end0
                exact ⟨rfl, _, HO2, (unhide fin).1, (unhide fin).2, HB2⟩
            · have hB1z : ¬ (mid : Int) < (E : Int) := by omega
              have fin := hide (St.merge_end (unhide HT) (by omega) (by omega) (unhide P2).1 (unhide P2).2 (St.Per.refl _ _ _) ((unhide HT).second (unhide P2).1 (by omega) (by omega) (by omega)))
              go_wp2_with fail
              go_end0
              exact ⟨rfl, _, HO2, (unhide fin).1, (unhide fin).2, HB2⟩
          · have hA1z : (a : Int) < (s : Int) := by omega
            have hA2z : ¬ (s : Int) < (mid : Int) := by omega
            have P2 := hide (And.intro (St.Per.refl a mid (St.rot f s m E)) ((unhide HT).first (by omega) (by omega) (by omega)))
            have HO2 := HO1
            have HB2 := HB1
            clear HO1 HB1
            by_cases hB1 : mid < E
            · by_cases hB2 : E < e
              · have HA := hide ((unhide HT).asks (unhide P2).1 (by omega))
                have HIN2 := hide ((unhide P2).1.less (by omega) (unhide HIN1))
                have hk2 := (unhide HK).but HB2
                have hB1z : (mid : Int) < (E : Int) := by omega
                have hB2z : (E : Int) < (e : Int) := by omega
                go_wp2_with fail
                refine ((unhide IH) mid E e (St.rot f s m E) _ (by omega) hB1 hB2 hen HO2 hk2 (unhide HIN2) (unhide HA).1 (unhide HA).2.1 (unhide HA).2.2).mono ?_
                rintro r w9 ⟨rfl, g3, ho3, p3, s3, hb3⟩
                have fin := hide (St.merge_end (unhide HT) (by omega) (by omega) (unhide P2).1 (unhide P2).2 p3 s3)
                have HB3 := HB2.trans (hb3.mono HB2.size)
                clear p3 s3 hb3 HA hk2
                go_wp2_with fail
                go_end0
                exact ⟨rfl, g3, ho3, (unhide fin).1, (unhide fin).2, HB3⟩
              · have hB1z : (mid : Int) < (E : Int) := by omega
                have hB2z : ¬ (E : Int) < (e : Int) := by omega
                have fin := hide (St.merge_end (unhide HT) (by omega) (by omega) (unhide P2).1 (unhide P2).2 (St.Per.refl _ _ _) ((unhide HT).second (unhide P2).1 (by omega) (by omega) (by omega)))
                go_wp2_with fail
                go_end0
                exact ⟨rfl, _, HO2, (unhide fin).1, (unhide fin).2, HB2⟩
            · have hB1z : ¬ (mid : Int) < (E : Int) := by omega
              have fin := hide (St.merge_end (unhide HT) (by omega) (by omega) (unhide P2).1 (unhide P2).2 (St.Per.refl _ _ _) ((unhide HT).second (unhide P2).1 (by omega) (by omega) (by omega)))
              go_wp2_with fail
              go_end0
              exact ⟨rfl, _, HO2, (unhide fin).1, (unhide fin).2, HB2⟩
        · have hA1z : ¬ (a : Int) < (s : Int) := by omega
          have P2 := hide (And.intro (St.Per.refl a mid (St.rot f s m E)) ((unhide HT).first (by omega) (by omega) (by omega)))
          have HO2 := HO1
          have HB2 := HB1
          clear HO1 HB1
          by_cases hB1 : mid < E
          · by_cases hB2 : E < e
            · have HA := hide ((unhide HT).asks (unhide P2).1 (by omega))
              have HIN2 := hide ((unhide P2).1.less (by omega) (unhide HIN1))
              have hk2 := (unhide HK).but HB2
              have hB1z : (mid : Int) < (E : Int) := by omega
              have hB2z : (E : Int) < (e : Int) := by omega
              go_wp2_with fail
              refine ((unhide IH) mid E e (St.rot f s m E) _ (by omega) hB1 hB2 hen HO2 hk2 (unhide HIN2) (unhide HA).1 (unhide HA).2.1 (unhide HA).2.2).mono ?_
              rintro r w9 ⟨rfl, g3, ho3, p3, s3, hb3⟩
              have fin := hide (St.merge_end (unhide HT) (by omega) (by omega) (unhide P2).1 (unhide P2).2 p3 s3)
              have HB3 := HB2.trans (hb3.mono HB2.size)
              clear p3 s3 hb3 HA hk2
              go_wp2_with fail
              go_end0
              exact ⟨rfl, g3, ho3, (unhide fin).1, (unhide fin).2, HB3⟩
            · have hB1z : (mid : Int) < (E : Int) := by omega
              have hB2z : ¬ (E : Int) < (e : Int) := by omega
              have fin := hide (St.merge_end (unhide HT) (by omega) (by omega) (unhide P2).1 (unhide P2).2 (St.Per.refl _ _ _) ((unhide HT).second (unhide P2).1 (by omega) (by omega) (by omega)))
              go_wp2_with fail
              go_end0
              exact ⟨rfl, _, HO2, (unhide fin).1, (unhide fin).2, HB2⟩
          · have hB1z : ¬ (mid : Int) < (E : Int) := by omega
            have fin := hide (St.merge_end (unhide HT) (by omega) (by omega) (unhide P2).1 (unhide P2).2 (St.Per.refl _ _ _) ((unhide HT).second (unhide P2).1 (by omega) (by omega) (by omega)))
            go_wp2_with fail
            go_end0
            exact ⟨rfl, _, HO2, (unhide fin).1, (unhide fin).2, HB2⟩

set_option maxRecDepth 100000 in
set_option maxHeartbeats 8000000 in
theorem mergeLowS_any (b n cap : Nat) (β ν γ : Nat → Nat) (ps : List (List M.Cl)) (hks : ps.length = n) (hn : n ≤ 1048576) (hcap : n ≤ cap) (d : Nat) (IH : MergeUptoS b n cap β ν γ ps d) (a m e mid : Nat) (f : Nat → Nat) (w : World) (hd : e - a ≤ d + 1) (ham : a + 1 < m) (hme : m + 1 < e) (hen : e ≤ n) (h : OwnS β ν γ w b n f) (hK : PartsAt w b β ν γ ps) (hin : ∀ k, k < n → f k < n) (hl : St.Srt (St.pltV ps) a m f) (hr : St.Srt (St.pltV ps) m e f) (hlo : St.Lo a m e f) (hmid : mid = (a + e) / 2) (hc : m ≤ mid) :
    Calls Tryz.prog 85 #[.slice (some ⟨b, 0, none⟩) n cap, .int .i64 a, .int .i64 m, .int .i64 e, .func (.func 49) #[] #[]] w fun r w' => r = .returned (.tuple #[]) ∧ ∃ f', OwnS β ν γ w' b n f' ∧ St.Per a e f f' ∧ St.Srt (St.pltV ps) a e f' ∧ But w.heap.size b w w' := by
  have HK := hide hK
  have HIN := hide hin
  have HL := hide hl
  have HR := hide hr
  have HLO := hide hlo
  have t1 : ((m : Int) - (a : Int) == 1) = false := by simp; omega
  have t2 : ((e : Int) - (m : Int) == 1) = false := by simp; omega
  have emid : ((a : Int) + (e : Int)) / 2 = (mid : Int) := by omega
  obtain ⟨P, hP⟩ : ∃ P : Nat, P = mid + m - 1 := ⟨_, rfl⟩
  have eP : (mid : Int) + (m : Int) - 1 = (P : Int) := by omega
  obtain ⟨lo, hi, hlohi⟩ : ∃ lo hi : Nat, (mid < m ∧ lo + e = mid + m ∧ hi = mid) ∨ (m ≤ mid ∧ lo = a ∧ hi = m) := ⟨a, m, .inr (by omega)⟩
  have hcz : ¬ (mid : Int) < (m : Int) := by omega
  have elo : lo = a := by omega
  have ehi : hi = m := by omega
  have ham : a < m := by omega
  have hme : m < e := by omega
  have hx_0 : lo ≤ hi := by omega
  have hx_1 : a ≤ lo := by omega
  have hx_2 : hi ≤ m := by omega
  have hx_3 : hi ≤ mid := by omega
  have hx_4 : mid + m ≤ e + lo := by omega
  have hx_5 : mid < e := by omega
  have hx_6 : a < mid := by omega
  have HLH := hide hlohi
  have HP := hide hP
  have HMID := hide hmid
  clear hK hin hl hr hlo hlohi hmid hc hP
  have IH := hide IH
  go_enter Tryz.func85, Tryz.ntmps85
  go_wp2_with fail
  go_loopg [20, 21] (hi - lo) (fun gh s20 s21 wr => ∃ s r : Nat, Hid (gh = r - s) ∧ s20 = .int .i64 s ∧ s21 = .int .i64 r ∧ lo ≤ s ∧ s ≤ r ∧ r ≤ hi ∧ Hid (∀ c, lo ≤ c → c < s → St.ptestV ps (f (mid + m - 1 - c)) (f c) = false) ∧ Hid (∀ c, r ≤ c → c < hi → St.ptestV ps (f (mid + m - 1 - c)) (f c) = true) ∧ OwnS β ν γ wr b n f ∧ But w.heap.size b w wr)
  case atStart => exact ⟨lo, hi, rfl, by first | rfl | (congr 1; omega), by first | rfl | (congr 1; omega), by omega, by omega, by omega, fun c h1 h2 => by omega, fun c h1 h2 => by omega, h, But.refl _ _ _⟩
  case round =>
    obtain ⟨s, r, hg, rfl, rfl, hls, hsr0, hrh, hno, hyes, ho, hbut⟩ := hrel
    by_cases hlt : s < r
    · have hltz : (s : Int) < (r : Int) := by omega
      obtain ⟨q, hq⟩ : ∃ q : Nat, q = (s + r) / 2 := ⟨_, rfl⟩
      have hqi : s ≤ q := by omega
      have hqj : q < r := by omega
      have eq : ((s : Int) + (r : Int)) / 2 = (q : Int) := by omega
      obtain ⟨x, hx⟩ : ∃ x : Nat, x = mid + m - 1 - q := ⟨_, rfl⟩
      have hPx : P = x + q := by have := unhide HP; omega
      subst hPx
      have hxn : x < n := by omega
      have hqz : (q : Int) < (n : Int) := by omega
      have hxz : (x : Int) < (n : Int) := by omega
      have hp1 : (0 : Int) ≤ (x : Int) := by omega
      have hw1 : IntKind.i64.wrap (x : Int) = (x : Int) := IntWalk.i64_in _ ⟨by omega, by omega⟩
      have hw2 : IntKind.i64.wrap ((x : Int) + (q : Int) - (q : Int)) = (x : Int) := by rw [show ((x : Int) + (q : Int) - (q : Int)) = (x : Int) by omega]; exact hw1
      clear hq
      have l1 := show wr.cell? ⟨b, x, none⟩ = some (.slice (some ⟨β (f x), 0, none⟩) (ν (f x)) (γ (f x))) from ho.cell (by omega)
      have l2 := show wr.cell? ⟨b, q, none⟩ = some (.slice (some ⟨β (f q), 0, none⟩) (ν (f q)) (γ (f q))) from ho.cell (by omega)
      have HC := cmpS_any (f x) (f q) b β ν γ ps wr.drew ((unhide HK).but hbut.drew) (by rw [hks]; exact (unhide HIN) x (by omega)) (by rw [hks]; exact (unhide HIN) q (by omega)) (by omega)
      have hneg := St.cmpV_neg ps (f x) (f q)
      have HX := hide hx
      clear hx
      generalize St.cmpV ps (f x) (f q) = c at *
      cases hv : St.ptestV ps (f x) (f q) with
      | false =>
        rw [hv] at hneg
        rw [unhide HX] at hv
        have hno2 := hide (show ∀ c, lo ≤ c → c < q + 1 → St.ptestV ps (f (mid + m - 1 - c)) (f c) = false from fun c h1 h2 => by
          cases hy : St.ptestV ps (f (mid + m - 1 - c)) (f c) with
          | false => rfl
          | true =>
            have := St.find_mid (St.pordV ps) (unhide HL) (unhide HR) (p := mid + m - 1) (c := c) (c' := q) (by omega) (by omega) (by omega) (by omega) (by omega) (by omega) hy
            rw [hv] at this; cases this)
        clear hv HX
        go_wp2_with fail
        go_region_held3 (fun w' => w'.cell? ⟨b, x, none⟩ = some (.slice (some ⟨β (f x), 0, none⟩) (ν (f x)) (γ (f x))) ∧ w'.cell? ⟨b, q, none⟩ = some (.slice (some ⟨β (f q), 0, none⟩) (ν (f q)) (γ (f q)))) (first | (simp [go_sem, l1, l2]; done) | exact ⟨(hb7.cell (by exact ho.lt)).trans l1, (hb7.cell (by exact ho.lt)).trans l2⟩)
          (first | (go_at_call 49; refine HC.mono ?_; rintro ec w7 ⟨rfl, hb7⟩))
        have ho7 := ho.drew.below hb7 ho.drew.lt
        have hbut7 := hbut.drew.then hb7
        clear l1 l2
        go_wp2_with fail
        go_roundg (r - (q + 1))
        case rel => exact ⟨q + 1, r, rfl, by go_num, rfl, by omega, by omega, hrh, unhide hno2, hyes, ho7, hbut7⟩
        case measure => have := hg.out; omega
      | true =>
        rw [hv] at hneg
        rw [unhide HX] at hv
        have hyes2 := hide (show ∀ c, q ≤ c → c < hi → St.ptestV ps (f (mid + m - 1 - c)) (f c) = true from fun c h1 h2 => St.find_mid (St.pordV ps) (unhide HL) (unhide HR) (p := mid + m - 1) (c := q) (c' := c) (by omega) h1 (by omega) (by omega) (by omega) (by omega) hv)
        clear hv HX
        go_wp2_with fail
        go_region_held3 (fun w' => w'.cell? ⟨b, x, none⟩ = some (.slice (some ⟨β (f x), 0, none⟩) (ν (f x)) (γ (f x))) ∧ w'.cell? ⟨b, q, none⟩ = some (.slice (some ⟨β (f q), 0, none⟩) (ν (f q)) (γ (f q)))) (first | (simp [go_sem, l1, l2]; done) | exact ⟨(hb7.cell (by exact ho.lt)).trans l1, (hb7.cell (by exact ho.lt)).trans l2⟩)
          (first | (go_at_call 49; refine HC.mono ?_; rintro ec w7 ⟨rfl, hb7⟩))
        have ho7 := ho.drew.below hb7 ho.drew.lt
        have hbut7 := hbut.drew.then hb7
        clear l1 l2
        go_wp2_with fail
        go_roundg (q - s)
        case rel => exact ⟨s, q, rfl, rfl, rfl, by omega, by omega, by omega, hno, unhide hyes2, ho7, hbut7⟩
        case measure => have := hg.out; omega
    · have hltz : ¬ (s : Int) < (r : Int) := by omega
      have hrs : r = s := by omega
      subst hrs
      have hsr : r ≤ hi := hrh
      obtain ⟨s, hs⟩ : ∃ s, s = r := ⟨_, rfl⟩
      subst hs
      clear hg hsr0 hrh hlt
      obtain ⟨E, hE⟩ : ∃ E : Nat, E + s = mid + m := ⟨mid + m - s, by omega⟩
      have eE : (mid : Int) + (m : Int) - (s : Int) = (E : Int) := by omega
      have HT := hide (St.turn (St.pordV ps) (unhide HL) (unhide HR) (unhide HLO) ham hme (unhide HMID) (unhide HLH) hls hsr hE hno.out hyes.out)
      have HIN1 := hide ((unhide HT).per.less hen (unhide HIN))
      have hEm : m ≤ E := by omega
      have hEe : E ≤ e := by omega
      have hmE : mid ≤ E := by omega
      have hsm : s ≤ m := by omega
      have hsmid : s ≤ mid := by omega
      have has : a ≤ s := by omega
      have hemid : mid ≤ e := by omega
      clear hno hyes hls hsr HLH HMID
      by_cases hR1 : s < m
      · by_cases hR2 : m < E
        · have hR1z : (s : Int) < (m : Int) := by omega
          have hR2z : (m : Int) < (E : Int) := by omega
          go_wp2_with fail
          refine (rotateS_any b n cap β ν γ f s m E _ _ ho hR1 hR2 (by omega) hn hcap).mono ?_
          rintro r w7 ⟨rfl, HO1, hb1⟩
          have HB1 := hbut.trans (hb1.mono hbut.size)
          clear hb1 ho hbut
          by_cases hA1 : a < s
          · by_cases hA2 : s < mid
            · have hk1 := (unhide HK).but HB1
              have hA1z : (a : Int) < (s : Int) := by omega
              have hA2z : (s : Int) < (mid : Int) := by omega
              go_wp2_with fail
              refine ((unhide IH) a s mid (St.rot f s m E) _ (by omega) hA1 hA2 (by omega) HO1 hk1 (unhide HIN1) (unhide HT).s1 (unhide HT).s2 (unhide HT).l1).mono ?_
              rintro r w8 ⟨rfl, g2, HO2, p2, s2, hb2⟩
              have P2 := hide (And.intro p2 s2)
              have HB2 := HB1.trans (hb2.mono HB1.size)
              clear p2 s2 hb2 hk1 HO1 HB1
              by_cases hB1 : mid < E
              · by_cases hB2 : E < e
                · have HA := hide ((unhide HT).asks (unhide P2).1 (by omega))
                  have HIN2 := hide ((unhide P2).1.less (by omega) (unhide HIN1))
                  have hk2 := (unhide HK).but HB2
                  have hB1z : (mid : Int) < (E : Int) := by omega
                  have hB2z : (E : Int) < (e : Int) := by omega
                  go_wp2_with fail
                  refine ((unhide IH) mid E e g2 _ (by omega) hB1 hB2 hen HO2 hk2 (unhide HIN2) (unhide HA).1 (unhide HA).2.1 (unhide HA).2.2).mono ?_
                  rintro r w9 ⟨rfl, g3, ho3, p3, s3, hb3⟩
                  have fin := hide (St.merge_end (unhide HT) (by omega) (by omega) (unhide P2).1 (unhide P2).2 p3 s3)
                  have HB3 := HB2.trans (hb3.mono HB2.size)
                  clear p3 s3 hb3 HA hk2
                  go_wp2_with fail
                  go_end0
                  exact ⟨rfl, g3, ho3, (unhide fin).1, (unhide fin).2, HB3⟩
                · have hB1z : (mid : Int) < (E : Int) := by omega
                  have hB2z : ¬ (E : Int) < (e : Int) := by omega
                  have fin := hide (St.merge_end (unhide HT) (by omega) (by omega) (unhide P2).1 (unhide P2).2 (St.Per.refl _ _ _) ((unhide HT).second (unhide P2).1 (by omega) (by omega) (by omega)))
                  go_wp2_with fail
                  go_end0
                  exact ⟨rfl, _, HO2, (unhide fin).1, (unhide fin).2, HB2⟩
              · have hB1z : ¬ (mid : Int) < (E : Int) := by omega
                have fin := hide (St.merge_end (unhide HT) (by omega) (by omega) (unhide P2).1 (unhide P2).2 (St.Per.refl _ _ _) ((unhide HT).second (unhide P2).1 (by omega) (by omega) (by omega)))
                go_wp2_with fail
                go_end0
                exact ⟨rfl, _, HO2, (unhide fin).1, (unhide fin).2, HB2⟩
            · have hA1z : (a : Int) < (s : Int) := by omega
              have hA2z : ¬ (s : Int) < (mid : Int) := by omega
              have P2 := hide (And.intro (St.Per.refl a mid (St.rot f s m E)) ((unhide HT).first (by omega) (by omega) (by omega)))
              have HO2 := HO1
              have HB2 := HB1
              clear HO1 HB1
              by_cases hB1 : mid < E
              · by_cases hB2 : E < e
                · have HA := hide ((unhide HT).asks (unhide P2).1 (by omega))
                  have HIN2 := hide ((unhide P2).1.less (by omega) (unhide HIN1))
                  have hk2 := (unhide HK).but HB2
                  have hB1z : (mid : Int) < (E : Int) := by omega
                  have hB2z : (E : Int) < (e : Int) := by omega
                  go_wp2_with fail
                  refine ((unhide IH) mid E e (St.rot f s m E) _ (by omega) hB1 hB2 hen HO2 hk2 (unhide HIN2) (unhide HA).1 (unhide HA).2.1 (unhide HA).2.2).mono ?_
                  rintro r w9 ⟨rfl, g3, ho3, p3, s3, hb3⟩
                  have fin := hide (St.merge_end (unhide HT) (by omega) (by omega) (unhide P2).1 (unhide P2).2 p3 s3)
                  have HB3 := HB2.trans (hb3.mono HB2.size)
                  clear p3 s3 hb3 HA hk2
                  go_wp2_with fail
                  go_end0
                  exact ⟨rfl, g3, ho3, (unhide fin).1, (unhide fin).2, HB3⟩
                · have hB1z : (mid : Int) < (E : Int) := by omega
                  have hB2z : ¬ (E : Int) < (e : Int) := by omega
                  have fin := hide (St.merge_end (unhide HT) (by omega) (by omega) (unhide P2).1 (unhide P2).2 (St.Per.refl _ _ _) ((unhide HT).second (unhide P2).1 (by omega) (by omega) (by omega)))
                  go_wp2_with fail
                  go_end0
                  exact ⟨rfl, _, HO2, (unhide fin).1, (unhide fin).2, HB2⟩
              · have hB1z : ¬ (mid : Int) < (E : Int) := by omega
                have fin := hide (St.merge_end (unhide HT) (by omega) (by omega) (unhide P2).1 (unhide P2).2 (St.Per.refl _ _ _) ((unhide HT).second (unhide P2).1 (by omega) (by omega) (by omega)))
                go_wp2_with fail
                go_end0
                exact ⟨rfl, _, HO2, (unhide fin).1, (unhide fin).2, HB2⟩
          · have hA1z : ¬ (a : Int) < (s : Int) := by omega
            have P2 := hide (And.intro (St.Per.refl a mid (St.rot f s m E)) ((unhide HT).first (by omega) (by omega) (by omega)))
            have HO2 := HO1
            have HB2 := HB1
            clear HO1 HB1
            by_cases hB1 : mid < E
            · by_cases hB2 : E < e
              · have HA := hide ((unhide HT).asks (unhide P2).1 (by omega))
                have HIN2 := hide ((unhide P2).1.less (by omega) (unhide HIN1))
                have hk2 := (unhide HK).but HB2
                have hB1z : (mid : Int) < (E : Int) := by omega
                have hB2z : (E : Int) < (e : Int) := by omega
                go_wp2_with fail
                refine ((unhide IH) mid E e (St.rot f s m E) _ (by omega) hB1 hB2 hen HO2 hk2 (unhide HIN2) (unhide HA).1 (unhide HA).2.1 (unhide HA).2.2).mono ?_
                rintro r w9 ⟨rfl, g3, ho3, p3, s3, hb3⟩
                have fin := hide (St.merge_end (unhide HT) (by omega) (by omega) (unhide P2).1 (unhide P2).2 p3 s3)
                have HB3 := HB2.trans (hb3.mono HB2.size)
                clear p3 s3 hb3 HA hk2
                go_wp2_with fail
                go_end0
                exact ⟨rfl, g3, ho3, (unhide fin).1, (unhide fin).2, HB3⟩
              · have hB1z : (mid : Int) < (E : Int) := by omega
                have hB2z : ¬ (E : Int) < (e : Int) := by omega
                have fin := hide (St.merge_end (unhide HT) (by omega) (by omega) (unhide P2).1 (unhide P2).2 (St.Per.refl _ _ _) ((unhide HT).second (unhide P2).1 (by omega) (by omega) (by omega)))
                go_wp2_with fail
                go_end0
                exact ⟨rfl, _, HO2, (unhide fin).1, (unhide fin).2, HB2⟩
            · have hB1z : ¬ (mid : Int) < (E : Int) := by omega
              have fin := hide (St.merge_end (unhide HT) (by omega) (by omega) (unhide P2).1 (unhide P2).2 (St.Per.refl _ _ _) ((unhide HT).second (unhide P2).1 (by omega) (by omega) (by omega)))
              go_wp2_with fail
              go_end0
              exact ⟨rfl, _, HO2, (unhide fin).1, (unhide fin).2, HB2⟩
        · have hR1z : (s : Int) < (m : Int) := by omega
          have hR2z : ¬ (m : Int) < (E : Int) := by omega
          have HO1 := ho.all (show f = St.rot f s m E by rw [show E = m by omega, St.rot_none_right])
          have HB1 := hbut
          clear ho hbut
          by_cases hA1 : a < s
          · by_cases hA2 : s < mid
            · have hk1 := (unhide HK).but HB1
              have hA1z : (a : Int) < (s : Int) := by omega
              have hA2z : (s : Int) < (mid : Int) := by omega
              go_wp2_with fail
              refine ((unhide IH) a s mid (St.rot f s m E) _ (by omega) hA1 hA2 (by omega) HO1 hk1 (unhide HIN1) (unhide HT).s1 (unhide HT).s2 (unhide HT).l1).mono ?_
              rintro r w8 ⟨rfl, g2, HO2, p2, s2, hb2⟩
              have P2 := hide (And.intro p2 s2)
              have HB2 := HB1.trans (hb2.mono HB1.size)
              clear p2 s2 hb2 hk1 HO1 HB1
              by_cases hB1 : mid < E
              · by_cases hB2 : E < e
                · have HA := hide ((unhide HT).asks (unhide P2).1 (by omega))
                  have HIN2 := hide ((unhide P2).1.less (by omega) (unhide HIN1))
                  have hk2 := (unhide HK).but HB2
                  have hB1z : (mid : Int) < (E : Int) := by omega
                  have hB2z : (E : Int) < (e : Int) := by omega
                  go_wp2_with fail
                  refine ((unhide IH) mid E e g2 _ (by omega) hB1 hB2 hen HO2 hk2 (unhide HIN2) (unhide HA).1 (unhide HA).2.1 (unhide HA).2.2).mono ?_
                  rintro r w9 ⟨rfl, g3, ho3, p3, s3, hb3⟩
                  have fin := hide (St.merge_end (unhide HT) (by omega) (by omega) (unhide P2).1 (unhide P2).2 p3 s3)
                  have HB3 := HB2.trans (hb3.mono HB2.size)
                  clear p3 s3 hb3 HA hk2
                  go_wp2_with fail
                  go_end0
                  exact ⟨rfl, g3, ho3, (unhide fin).1, (unhide fin).2, HB3⟩
                · have hB1z : (mid : Int) < (E : Int) := by omega
                  have hB2z : ¬ (E : Int) < (e : Int) := by omega
                  have fin := hide (St.merge_end (unhide HT) (by omega) (by omega) (unhide P2).1 (unhide P2).2 (St.Per.refl _ _ _) ((unhide HT).second (unhide P2).1 (by omega) (by omega) (by omega)))
                  go_wp2_with fail
                  go_end0
                  exact ⟨rfl, _, HO2, (unhide fin).1, (unhide fin).2, HB2⟩
              · have hB1z : ¬ (mid : Int) < (E : Int) := by omega
                have fin := hide (St.merge_end (unhide HT) (by omega) (by omega) (unhide P2).1 (unhide P2).2 (St.Per.refl _ _ _) ((unhide HT).second (unhide P2).1 (by omega) (by omega) (by omega)))
                go_wp2_with fail
                go_end0
                exact ⟨rfl, _, HO2, (unhide fin).1, (unhide fin).2, HB2⟩
            · have hA1z : (a : Int) < (s : Int) := by omega
              have hA2z : ¬ (s : Int) < (mid : Int) := by omega
              have P2 := hide (And.intro (St.Per.refl a mid (St.rot f s m E)) ((unhide HT).first (by omega) (by omega) (by omega)))
              have HO2 := HO1
              have HB2 := HB1
              clear HO1 HB1
              by_cases hB1 : mid < E
              · by_cases hB2 : E < e
                · have HA := hide ((unhide HT).asks (unhide P2).1 (by omega))
                  have HIN2 := hide ((unhide P2).1.less (by omega) (unhide HIN1))
                  have hk2 := (unhide HK).but HB2
                  have hB1z : (mid : Int) < (E : Int) := by omega
                  have hB2z : (E : Int) < (e : Int) := by omega
                  go_wp2_with fail
                  refine ((unhide IH) mid E e (St.rot f s m E) _ (by omega) hB1 hB2 hen HO2 hk2 (unhide HIN2) (unhide HA).1 (unhide HA).2.1 (unhide HA).2.2).mono ?_
                  rintro r w9 ⟨rfl, g3, ho3, p3, s3, hb3⟩
                  have fin := hide (St.merge_end (unhide HT) (by omega) (by omega) (unhide P2).1 (unhide P2).2 p3 s3)
                  have HB3 := HB2.trans (hb3.mono HB2.size)
                  clear p3 s3 hb3 HA hk2
                  go_wp2_with fail
                  go_end0
                  exact ⟨rfl, g3, ho3, (unhide fin).1, (unhide fin).2, HB3⟩
                · have hB1z : (mid : Int) < (E : Int) := by omega
                  have hB2z : ¬ (E : Int) < (e : Int) := by omega
                  have fin := hide (St.merge_end (unhide HT) (by omega) (by omega) (unhide P2).1 (unhide P2).2 (St.Per.refl _ _ _) ((unhide HT).second (unhide P2).1 (by omega) (by omega) (by omega)))
                  go_wp2_with fail
                  go_end0
                  exact ⟨rfl, _, HO2, (unhide fin).1, (unhide fin).2, HB2⟩
              · have hB1z : ¬ (mid : Int) < (E : Int) := by omega
                have fin := hide (St.merge_end (unhide HT) (by omega) (by omega) (unhide P2).1 (unhide P2).2 (St.Per.refl _ _ _) ((unhide HT).second (unhide P2).1 (by omega) (by omega) (by omega)))
                go_wp2_with fail
                go_end0
                exact ⟨rfl, _, HO2, (unhide fin).1, (unhide fin).2, HB2⟩
          · have hA1z : ¬ (a : Int) < (s : Int) := by omega
            have P2 := hide (And.intro (St.Per.refl a mid (St.rot f s m E)) ((unhide HT).first (by omega) (by omega) (by omega)))
            have HO2 := HO1
            have HB2 := HB1
            clear HO1 HB1
            by_cases hB1 : mid < E
            · by_cases hB2 : E < e
              · have HA := hide ((unhide HT).asks (unhide P2).1 (by omega))
                have HIN2 := hide ((unhide P2).1.less (by omega) (unhide HIN1))
                have hk2 := (unhide HK).but HB2
                have hB1z : (mid : Int) < (E : Int) := by omega
                have hB2z : (E : Int) < (e : Int) := by omega
                go_wp2_with fail
                refine ((unhide IH) mid E e (St.rot f s m E) _ (by omega) hB1 hB2 hen HO2 hk2 (unhide HIN2) (unhide HA).1 (unhide HA).2.1 (unhide HA).2.2).mono ?_
                rintro r w9 ⟨rfl, g3, ho3, p3, s3, hb3⟩
                have fin := hide (St.merge_end (unhide HT) (by omega) (by omega) (unhide P2).1 (unhide P2).2 p3 s3)
                have HB3 := HB2.trans (hb3.mono HB2.size)
                clear p3 s3 hb3 HA hk2
                go_wp2_with fail
                go_end0
                exact ⟨rfl, g3, ho3, (unhide fin).1, (unhide fin).2, HB3⟩
              · have hB1z : (mid : Int) < (E : Int) := by omega
                have hB2z : ¬ (E : Int) < (e : Int) := by omega
                have fin := hide (St.merge_end (unhide HT) (by omega) (by omega) (unhide P2).1 (unhide P2).2 (St.Per.refl _ _ _) ((unhide HT).second (unhide P2).1 (by omega) (by omega) (by omega)))
                go_wp2_with fail
                go_end0
                exact ⟨rfl, _, HO2, (unhide fin).1, (unhide fin).2, HB2⟩
            · have hB1z : ¬ (mid : Int) < (E : Int) := by omega
              have fin := hide (St.merge_end (unhide HT) (by omega) (by omega) (unhide P2).1 (unhide P2).2 (St.Per.refl _ _ _) ((unhide HT).second (unhide P2).1 (by omega) (by omega) (by omega)))
              go_wp2_with fail
              go_end0
              exact ⟨rfl, _, HO2, (unhide fin).1, (unhide fin).2, HB2⟩
      · have hR1z : ¬ (s : Int) < (m : Int) := by omega
        have HO1 := ho.all (show f = St.rot f s m E by rw [show s = m by omega, St.rot_none_left f m E hEm])
        have HB1 := hbut
        clear ho hbut
        by_cases hA1 : a < s
        · by_cases hA2 : s < mid
          · have hk1 := (unhide HK).but HB1
            have hA1z : (a : Int) < (s : Int) := by omega
            have hA2z : (s : Int) < (mid : Int) := by omega
            go_wp2_with fail
            refine ((unhide IH) a s mid (St.rot f s m E) _ (by omega) hA1 hA2 (by omega) HO1 hk1 (unhide HIN1) (unhide HT).s1 (unhide HT).s2 (unhide HT).l1).mono ?_
            rintro r w8 ⟨rfl, g2, HO2, p2, s2, hb2⟩
            have P2 := hide (And.intro p2 s2)
            have HB2 := HB1.trans (hb2.mono HB1.size)
            clear p2 s2 hb2 hk1 HO1 HB1
            by_cases hB1 : mid < E
            · by_cases hB2 : E < e
              · have HA := hide ((unhide HT).asks (unhide P2).1 (by omega))
                have HIN2 := hide ((unhide P2).1.less (by omega) (unhide HIN1))
                have hk2 := (unhide HK).but HB2
                have hB1z : (mid : Int) < (E : Int) := by omega
                have hB2z : (E : Int) < (e : Int) := by omega
                go_wp2_with fail
                refine ((unhide IH) mid E e g2 _ (by omega) hB1 hB2 hen HO2 hk2 (unhide HIN2) (unhide HA).1 (unhide HA).2.1 (unhide HA).2.2).mono ?_
                rintro r w9 ⟨rfl, g3, ho3, p3, s3, hb3⟩
                have fin := hide (St.merge_end (unhide HT) (by omega) (by omega) (unhide P2).1 (unhide P2).2 p3 s3)
                have HB3 := HB2.trans (hb3.mono HB2.size)
                clear p3 s3 hb3 HA hk2
                go_wp2_with fail
                go_end0
                exact ⟨rfl, g3, ho3, (unhide fin).1, (unhide fin).2, HB3⟩
              · have hB1z : (mid : Int) < (E : Int) := by omega
                have hB2z : ¬ (E : Int) < (e : Int) := by omega
                have fin := hide (St.merge_end (unhide HT) (by omega) (by omega) (unhide P2).1 (unhide P2).2 (St.Per.refl _ _ _) ((unhide HT).second (unhide P2).1 (by omega) (by omega) (by omega)))
                go_wp2_with fail
                go_end0
                exact ⟨rfl, _, HO2, (unhide fin).1, (unhide fin).2, HB2⟩
            · have hB1z : ¬ (mid : Int) < (E : Int) := by omega
              have fin := hide (St.merge_end (unhide HT) (by omega) (by omega) (unhide P2).1 (unhide P2).2 (St.Per.refl _ _ _) ((unhide HT).second (unhide P2).1 (by omega) (by omega) (by omega)))
              go_wp2_with fail
              go_end0
              exact ⟨rfl, _, HO2, (unhide fin).1, (unhide fin).2, HB2⟩
          · have hA1z : (a : Int) < (s : Int) := by omega
            have hA2z : ¬ (s : Int) < (mid : Int) := by omega
            have P2 := hide (And.intro (St.Per.refl a mid (St.rot f s m E)) ((unhide HT).first (by omega) (by omega) (by omega)))
            have HO2 := HO1
            have HB2 := HB1
            clear HO1 HB1
            by_cases hB1 : mid < E
            · by_cases hB2 : E < e
              · have HA := hide ((unhide HT).asks (unhide P2).1 (by omega))
                have HIN2 := hide ((unhide P2).1.less (by omega) (unhide HIN1))
                have hk2 := (unhide HK).but HB2
                have hB1z : (mid : Int) < (E : Int) := by omega
                have hB2z : (E : Int) < (e : Int) := by omega
                go_wp2_with fail
                refine ((unhide IH) mid E e (St.rot f s m E) _ (by omega) hB1 hB2 hen HO2 hk2 (unhide HIN2) (unhide HA).1 (unhide HA).2.1 (unhide HA).2.2).mono ?_
                rintro r w9 ⟨rfl, g3, ho3, p3, s3, hb3⟩
                have fin := hide (St.merge_end (unhide HT) (by omega) (by omega) (unhide P2).1 (unhide P2).2 p3 s3)
                have HB3 := HB2.trans (hb3.mono HB2.size)
                clear p3 s3 hb3 HA hk2
                go_wp2_with fail
                go_end0
                exact ⟨rfl, g3, ho3, (unhide fin).1, (unhide fin).2, HB3⟩
              · have hB1z : (mid : Int) < (E : Int) := by omega
                have hB2z : ¬ (E : Int) < (e : Int) := by omega
                have fin := hide (St.merge_end (unhide HT) (by omega) (by omega) (unhide P2).1 (unhide P2).2 (St.Per.refl _ _ _) ((unhide HT).second (unhide P2).1 (by omega) (by omega) (by omega)))
                go_wp2_with fail
                go_end0
                exact ⟨rfl, _, HO2, (unhide fin).1, (unhide fin).2, HB2⟩
            · have hB1z : ¬ (mid : Int) < (E : Int) := by omega
              have fin := hide (St.merge_end (unhide HT) (by omega) (by omega) (unhide P2).1 (unhide P2).2 (St.Per.refl _ _ _) ((unhide HT).second (unhide P2).1 (by omega) (by omega) (by omega)))
              go_wp2_with fail
              go_end0
              exact ⟨rfl, _, HO2, (unhide fin).1, (unhide fin).2, HB2⟩
        · have hA1z : ¬ (a : Int) < (s : Int) := by omega
          have P2 := hide (And.intro (St.Per.refl a mid (St.rot f s m E)) ((unhide HT).first (by omega) (by omega) (by omega)))
          have HO2 := HO1
          have HB2 := HB1
          clear HO1 HB1
          by_cases hB1 : mid < E
          · by_cases hB2 : E < e
            · have HA := hide ((unhide HT).asks (unhide P2).1 (by omega))
              have HIN2 := hide ((unhide P2).1.less (by omega) (unhide HIN1))
              have hk2 := (unhide HK).but HB2
              have hB1z : (mid : Int) < (E : Int) := by omega
              have hB2z : (E : Int) < (e : Int) := by omega
              go_wp2_with fail
              refine ((unhide IH) mid E e (St.rot f s m E) _ (by omega) hB1 hB2 hen HO2 hk2 (unhide HIN2) (unhide HA).1 (unhide HA).2.1 (unhide HA).2.2).mono ?_
              rintro r w9 ⟨rfl, g3, ho3, p3, s3, hb3⟩
              have fin := hide (St.merge_end (unhide HT) (by omega) (by omega) (unhide P2).1 (unhide P2).2 p3 s3)
              have HB3 := HB2.trans (hb3.mono HB2.size)
              clear p3 s3 hb3 HA hk2
              go_wp2_with fail
              go_end0
              exact ⟨rfl, g3, ho3, (unhide fin).1, (unhide fin).2, HB3⟩
            · have hB1z : (mid : Int) < (E : Int) := by omega
              have hB2z : ¬ (E : Int) < (e : Int) := by omega
              have fin := hide (St.merge_end (unhide HT) (by omega) (by omega) (unhide P2).1 (unhide P2).2 (St.Per.refl _ _ _) ((unhide HT).second (unhide P2).1 (by omega) (by omega) (by omega)))
              go_wp2_with fail
              go_end0
              exact ⟨rfl, _, HO2, (unhide fin).1, (unhide fin).2, HB2⟩
          · have hB1z : ¬ (mid : Int) < (E : Int) := by omega
            have fin := hide (St.merge_end (unhide HT) (by omega) (by omega) (unhide P2).1 (unhide P2).2 (St.Per.refl _ _ _) ((unhide HT).second (unhide P2).1 (by omega) (by omega) (by omega)))
            go_wp2_with fail
            go_end0
            exact ⟨rfl, _, HO2, (unhide fin).1, (unhide fin).2, HB2⟩

end Go.Proofs.YtcolohilnmikiaaGreat

namespace Go.Proofs.YtcolohilnmikiaaGreat
open Go.RowKit
set_option linter.unusedVariables false

theorem mergeS_any (b n cap : Nat) (β ν γ : Nat → Nat) (ps : List (List M.Cl)) (hks : ps.length = n) (hn : n ≤ 1048576) (hcap : n ≤ cap) : ∀ d, MergeUptoS b n cap β ν γ ps d
  | 0 => fun a m e f w hd ham hme => by omega
  | d + 1 => fun a m e f w hd ham hme hen h hK hin hl hr hlo => by
    by_cases c1 : m = a + 1
    · subst c1
      rw [show ((a + 1 : Nat) : Int) = (a : Int) + 1 by omega]
      exact mergeLeftS_any b n cap β ν γ ps f a e w h hK hks hin hr hlo hme hen hn hcap
    by_cases c2 : e = m + 1
    · subst c2
      rw [show ((m + 1 : Nat) : Int) = (m : Int) + 1 by omega]
      exact mergeRightS_any b n cap β ν γ ps f a m w h hK hks hin hl hlo (by omega) hen hn hcap
    have IH := mergeS_any b n cap β ν γ ps hks hn hcap d
    by_cases c3 : (a + e) / 2 < m
    · exact mergeHighS_any b n cap β ν γ ps hks hn hcap d IH a m e _ f w hd (by omega) (by omega) hen h hK hin hl hr hlo rfl c3
    · exact mergeLowS_any b n cap β ν γ ps hks hn hcap d IH a m e _ f w hd (by omega) (by omega) hen h hK hin hl hr hlo rfl (by omega)

theorem mergeS_int (b n cap : Nat) (β ν γ : Nat → Nat) (ps : List (List M.Cl)) (hks : ps.length = n) (hn : n ≤ 1048576) (hcap : n ≤ cap) (a m e : Nat) (f : Nat → Nat) (w : World) (ham : a < m) (hme : m < e) (hen : e ≤ n) (h : OwnS β ν γ w b n f) (hK : PartsAt w b β ν γ ps) (hin : ∀ k, k < n → f k < n) (hl : St.Srt (St.pltV ps) a m f) (hr : St.Srt (St.pltV ps) m e f) (hlo : St.Lo a m e f) (ai mi ei : Int) (ha : ai = a) (hm : mi = m) (he : ei = e) :
    Calls Tryz.prog 85 #[.slice (some ⟨b, 0, none⟩) n cap, .int .i64 ai, .int .i64 mi, .int .i64 ei, .func (.func 49) #[] #[]] w fun r w' => r = .returned (.tuple #[]) ∧ ∃ f', OwnS β ν γ w' b n f' ∧ St.Per a e f f' ∧ St.Srt (St.pltV ps) a e f' ∧ But w.heap.size b w w' := by
  subst ha hm he
  exact mergeS_any b n cap β ν γ ps hks hn hcap (e - a) a m e f w (Nat.le_refl _) ham hme hen h hK hin hl hr hlo
theorem insertionS_int (b n cap : Nat) (β ν γ : Nat → Nat) (ps : List (List M.Cl)) (f : Nat → Nat) (a e : Nat) (w : World) (h : OwnS β ν γ w b n f) (hK : PartsAt w b β ν γ ps) (hks : ps.length = n) (hin : ∀ k, k < n → f k < n) (hf : ∀ k, a ≤ k → k < e → f k = k) (hae : a ≤ e) (hen : e ≤ n) (hn : n ≤ 1048576) (hcap : n ≤ cap) (ai ei : Int) (ha : ai = a) (he : ei = e) :
    Calls Tryz.prog 84 #[.slice (some ⟨b, 0, none⟩) n cap, .int .i64 ai, .int .i64 ei, .func (.func 49) #[] #[]] w fun r w' => r = .returned (.tuple #[]) ∧ ∃ f', OwnS β ν γ w' b n f' ∧ St.Per a e f f' ∧ St.Srt (St.pltV ps) a e f' ∧ But w.heap.size b w w' := by
  subst ha he
  exact insertionS_any b n cap β ν γ ps f a e w h hK hks hin hf hae hen hn hcap

set_option maxRecDepth 100000 in
set_option maxHeartbeats 4000000 in
theorem stableS_any (b n cap : Nat) (β ν γ : Nat → Nat) (ps : List (List M.Cl)) (w : World) (h : OwnS β ν γ w b n (fun k => k)) (hK : PartsAt w b β ν γ ps) (hks : ps.length = n) (hn0 : 0 < n) (hn : n ≤ 4096) (hcap : n ≤ cap) :
    Calls Tryz.prog 72 #[.slice (some ⟨b, 0, none⟩) n cap, .int .i64 n, .func (.func 49) #[] #[]] w fun r w' => r = .returned (.tuple #[]) ∧ ∃ f', OwnS β ν γ w' b n f' ∧ St.Per 0 n (fun k => k) f' ∧ St.Srt (St.pltV ps) 0 n f' ∧ But w.heap.size b w w' := by
  have HK := hide hK
  clear hK
  go_enter Tryz.func72, Tryz.ntmps72
  go_wp2_with fail
  go_loopg [7, 8] n (fun gh s7 s8 wr => ∃ (a : Nat) (cur : Nat → Nat), Hid (gh = n - a) ∧ s7 = .int .i64 a ∧ s8 = .int .i64 ((a : Int) + 20) ∧ a ≤ n ∧ OwnS β ν γ wr b n cur ∧ Hid (St.Ph1 (St.pltV ps) n a cur) ∧ Hid (St.Per 0 n (fun k => k) cur) ∧ But w.heap.size b w wr)
  case atStart => exact ⟨0, _, rfl, rfl, rfl, by omega, h, St.Ph1.start n, St.Per.refl _ _ _, But.refl _ _ _⟩
  case round =>
    obtain ⟨a, cur, hg, rfl, rfl, han, ho, hph, hper, hbut⟩ := hrel
    have hk := hide ((unhide HK).but hbut)
    have hin := hide (hper.out.less (Nat.le_refl _) (fun k hk => hk))
    have hid := hide (hph.out.2.2.2)
    by_cases hlt : a + 20 ≤ n
    · have hltz : (a : Int) + 20 ≤ (n : Int) := by omega
      go_wp2_with fail
      refine (insertionS_int b n cap β ν γ ps cur a (a + 20) _ ho (unhide hk) hks (unhide hin) (fun k h1 h2 => (unhide hid) k h1) (by omega) hlt (by omega) hcap _ _ rfl (by omega)).mono ?_
      rintro r w1 ⟨rfl, g1, ho1, p1, s1, hb1⟩
      have hph1 := hide (hph.out.step hlt p1 s1)
      have hper1 := hide (hper.out.trans (p1.mono (by omega) hlt))
      have hbut1 := hbut.trans (hb1.mono hbut.size)
      clear p1 s1 hb1
      go_wp2_with fail
      go_roundg (n - (a + 20))
      case rel => exact ⟨a + 20, g1, rfl, by go_num, by go_num, hlt, ho1, unhide hph1, unhide hper1, hbut1⟩
      case measure => have := hg.out; omega
    · have hltz : ¬ (a : Int) + 20 ≤ (n : Int) := by omega
      go_wp2_with fail
      refine (insertionS_int b n cap β ν γ ps cur a n _ ho (unhide hk) hks (unhide hin) (fun k h1 h2 => (unhide hid) k h1) han (Nat.le_refl _) (by omega) hcap _ _ rfl rfl).mono ?_
      rintro r w1 ⟨rfl, g1, ho1, p1, s1, hb1⟩
      have hph1 := hide (hph.out.last (by omega) p1 s1)
      have hper1 := hide (hper.out.trans (p1.mono (by omega) (Nat.le_refl _)))
      have hbut1 := hbut.trans (hb1.mono hbut.size)
      clear p1 s1 hb1 hg hph hper hbut ho hk hin hid hlt hltz han
      go_wp2_with fail
      go_loopg [6] 9000 (fun gh s6 wr => ∃ (s : Nat) (cur : Nat → Nat), Hid (gh = 9020 - s) ∧ s6 = .int .i64 s ∧ 20 ≤ s ∧ s ≤ 5120 * 2 ∧ Hid (s < n → St.Sz s) ∧ OwnS β ν γ wr b n cur ∧ Hid (St.Ph2 (St.pltV ps) n s cur) ∧ Hid (St.Per 0 n (fun k => k) cur) ∧ But w.heap.size b w wr)
      case atStart => exact ⟨20, g1, rfl, rfl, by omega, by omega, fun _ => .inl rfl, ho1, unhide hph1, unhide hper1, hbut1⟩
      case round =>
        obtain ⟨s, cur2, hg, rfl, hs20, hs5, hsz, ho, hph, hper, hbut⟩ := hrel
        clear hph1 hper1 hbut1 ho1
        by_cases hlt : s < n
        · have hltz : (s : Int) < (n : Int) := by omega
          have hz := hide (hsz.out hlt)
          clear hsz
          go_wp2_with fail
          go_loopg [7, 8] n (fun gh s7 s8 wr => ∃ (a : Nat) (cur : Nat → Nat), Hid (gh = n - a) ∧ s7 = .int .i64 a ∧ s8 = .int .i64 ((a : Int) + 2 * (s : Int)) ∧ a ≤ n ∧ OwnS β ν γ wr b n cur ∧ Hid (St.Ph3 (St.pltV ps) n s a cur) ∧ Hid (St.Per 0 n (fun k => k) cur) ∧ But w.heap.size b w wr)
          case atStart => exact ⟨0, cur2, rfl, rfl, by go_num, by omega, ho, hph.out.begin (by omega), hper, hbut⟩
          case round =>
            clear hph hper hbut ho
            obtain ⟨a, cur, hg2, rfl, rfl, han, ho, hph, hper, hbut⟩ := hrel
            have hk := hide ((unhide HK).but hbut)
            have hin := hide (hper.out.less (Nat.le_refl _) (fun k hk => hk))
            by_cases hle : a + 2 * s ≤ n
            · have hlez : (a : Int) + 2 * (s : Int) ≤ (n : Int) := by omega
              have A := hide (hph.out.asks (unhide hz) hle)
              go_wp2_with fail
              refine (mergeS_int b n cap β ν γ ps hks (by omega) hcap a (a + s) (a + 2 * s) cur _ (by omega) (by omega) hle ho (unhide hk) (unhide hin) (unhide A).1 (unhide A).2.1 (unhide A).2.2.1 _ _ _ rfl (by omega) (by omega)).mono ?_
              rintro r w1 ⟨rfl, g1, ho1, p1, s1, hb1⟩
              have hph1 := hide (hph.out.step (unhide hz) hle p1 s1)
              have hper1 := hide (hper.out.trans (p1.mono (by omega) hle))
              have hbut1 := hbut.trans (hb1.mono hbut.size)
              clear p1 s1 hb1 A hph hper hbut ho
              go_wp2_with fail
              go_roundg (n - (a + 2 * s))
              case rel => exact ⟨a + 2 * s, g1, rfl, by go_num, by go_num, hle, ho1, unhide hph1, unhide hper1, hbut1⟩
              case measure => have := hg2.out; omega
            · have hlez : ¬ (a : Int) + 2 * (s : Int) ≤ (n : Int) := by omega
              have htw := hide (fun h2 : 2 * s < n => (unhide hz).twice hlt (by omega))
              by_cases hmn : a + s < n
              · have hmz : (a : Int) + (s : Int) < (n : Int) := by omega
                have A := hide (hph.out.asks2 (unhide hz) (by omega) hmn)
                go_wp2_with fail
                refine (mergeS_int b n cap β ν γ ps hks (by omega) hcap a (a + s) n cur _ (by omega) hmn (Nat.le_refl _) ho (unhide hk) (unhide hin) (unhide A).1 (unhide A).2.1 (unhide A).2.2.1 _ _ _ rfl (by omega) rfl).mono ?_
                rintro r w1 ⟨rfl, g1, ho1, p1, s1, hb1⟩
                have hph1 := hide (hph.out.last (unhide hz) (by omega) hmn p1 s1)
                have hper1 := hide (hper.out.trans (p1.mono (by omega) (Nat.le_refl _)))
                have hbut1 := hbut.trans (hb1.mono hbut.size)
                clear p1 s1 hb1 A hph hper hbut ho
                go_wp2_with fail
                go_roundg (9020 - 2 * s)
                case rel => exact ⟨2 * s, g1, rfl, by first | go_num | (congr 1; omega), by omega, by omega, unhide htw, ho1, unhide hph1, unhide hper1, hbut1⟩
                case measure => have := hg.out; omega
              · have hmz : ¬ (a : Int) + (s : Int) < (n : Int) := by omega
                have hph1 := hide (hph.out.rest (unhide hz) (by omega) (by omega))
                clear hph
                go_wp2_with fail
                go_roundg (9020 - 2 * s)
                case rel => exact ⟨2 * s, cur, rfl, by first | go_num | (congr 1; omega), by omega, by omega, unhide htw, ho, unhide hph1, hper, hbut⟩
                case measure => have := hg.out; omega
        · have hltz : ¬ (s : Int) < (n : Int) := by omega
          have fin := hide (hph.out.whole (by omega) hn0)
          clear hph
          go_wp2_with fail
          go_end0
          exact ⟨rfl, cur2, ho, hper.out, unhide fin, hbut⟩

set_option maxHeartbeats 1000000 in
theorem sortStableS_any (b n cap : Nat) (β ν γ : Nat → Nat) (ps : List (List M.Cl)) (w : World) (h : OwnS β ν γ w b n (fun k => k)) (hK : PartsAt w b β ν γ ps) (hks : ps.length = n) (hn0 : 0 < n) (hn : n ≤ 4096) (hcap : n ≤ cap) :
    Calls Tryz.prog 48 #[.slice (some ⟨b, 0, none⟩) n cap, .func (.func 49) #[] #[]] w fun r w' => r = .returned (.tuple #[]) ∧ ∃ f', OwnS β ν γ w' b n f' ∧ St.Per 0 n (fun k => k) f' ∧ St.Srt (St.pltV ps) 0 n f' ∧ But w.heap.size b w w' := by
  have HS := stableS_any b n cap β ν γ ps w h hK hks hn0 hn hcap
  clear h hK
  go_enter Tryz.func48, Tryz.ntmps48
  go_wp2_with fail
  refine HS.mono ?_
  rintro r w1 ⟨rfl, g1, h1⟩
  go_wp2_with fail
  go_end0
  exact ⟨rfl, g1, h1⟩

set_option maxHeartbeats 1000000 in
theorem insertionS_none (cmp : Value) (w : World) :
    Calls Tryz.prog 84 #[.slice none 0 0, .int .i64 0, .int .i64 0, cmp] w fun r w' => r = .returned (.tuple #[]) ∧ w' = w := by
  go_enter Tryz.func84, Tryz.ntmps84
  go_wp2_with fail
  refine wp_loop_rounds 1 ?_
  rw [rounds_succ]
  go_wp2_with fail
  go_end0
  exact ⟨rfl, rfl⟩

set_option maxHeartbeats 1000000 in
theorem stableS_none (cmp : Value) (w : World) :
    Calls Tryz.prog 72 #[.slice none 0 0, .int .i64 0, cmp] w fun r w' => r = .returned (.tuple #[]) ∧ w' = w := by
  go_enter Tryz.func72, Tryz.ntmps72
  go_wp2_with fail
  refine wp_loop_rounds 1 ?_
  rw [rounds_succ]
  go_wp2_with fail
  refine (insertionS_none cmp _).mono ?_
  rintro r w1 ⟨rfl, rfl⟩
  go_wp2_with fail
  refine wp_loop_rounds 1 ?_
  rw [rounds_succ]
  go_wp2_with fail
  go_end0
  exact ⟨rfl, rfl⟩

set_option maxHeartbeats 1000000 in
theorem sortStableS_none (cmp : Value) (w : World) :
    Calls Tryz.prog 48 #[.slice none 0 0, cmp] w fun r w' => r = .returned (.tuple #[]) ∧ w' = w := by
  go_enter Tryz.func48, Tryz.ntmps48
  go_wp2_with fail
  refine (stableS_none cmp _).mono ?_
  rintro r w1 ⟨rfl, rfl⟩
  go_wp2_with fail
  go_end0
  exact ⟨rfl, rfl⟩

set_option maxHeartbeats 1000000 in
theorem insertionS_empty (g c : Nat) (cmp : Value) (w : World) :
    Calls Tryz.prog 84 #[.slice (some ⟨g, 0, none⟩) 0 c, .int .i64 0, .int .i64 0, cmp] w fun r w' => r = .returned (.tuple #[]) ∧ w' = w := by
  go_enter Tryz.func84, Tryz.ntmps84
  go_wp2_with fail
  refine wp_loop_rounds 1 ?_
  rw [rounds_succ]
  go_wp2_with fail
  go_end0
  exact ⟨rfl, rfl⟩

set_option maxHeartbeats 1000000 in
theorem stableS_empty (g c : Nat) (cmp : Value) (w : World) :
    Calls Tryz.prog 72 #[.slice (some ⟨g, 0, none⟩) 0 c, .int .i64 0, cmp] w fun r w' => r = .returned (.tuple #[]) ∧ w' = w := by
  go_enter Tryz.func72, Tryz.ntmps72
  go_wp2_with fail
  refine wp_loop_rounds 1 ?_
  rw [rounds_succ]
  go_wp2_with fail
  refine (insertionS_empty g c cmp _).mono ?_
  rintro r w1 ⟨rfl, rfl⟩
  go_wp2_with fail
  refine wp_loop_rounds 1 ?_
  rw [rounds_succ]
  go_wp2_with fail
  go_end0
  exact ⟨rfl, rfl⟩

set_option maxHeartbeats 1000000 in
theorem sortStableS_empty (g c : Nat) (cmp : Value) (w : World) :
    Calls Tryz.prog 48 #[.slice (some ⟨g, 0, none⟩) 0 c, cmp] w fun r w' => r = .returned (.tuple #[]) ∧ w' = w := by
  go_enter Tryz.func48, Tryz.ntmps48
  go_wp2_with fail
  refine (stableS_empty g c cmp _).mono ?_
  rintro r w1 ⟨rfl, rfl⟩
  go_wp2_with fail
  go_end0
  exact ⟨rfl, rfl⟩
end Go.Proofs.YtcolohilnmikiaaGreat

namespace Go.Proofs.YtcolohilnmikiaaGreat
open Go.RowKit Go.WideShapes
set_option linter.unusedVariables false
set_option linter.unusedSimpArgs false

/-- The sorted row is the row of what is sorted. -/
theorem sorted_good {ps : List (List M.Cl)} {n : Nat} {f : Nat → Nat} (hn : ps.length = n) (hp : St.Per 0 n (fun k => k) f) (hs : St.Srt (St.pltV ps) 0 n f) : (List.range n).map f = St.sortI ps n := by
  refine St.Good.unique (ps := ps) (k := n) ⟨?_, fun x => ?_, by simp⟩ (St.good_sortI ps n)
  · rw [List.pairwise_map]
    refine List.Pairwise.imp_of_mem (R := (· < ·)) (fun {a b} ha hb hab => ?_) (List.pairwise_lt_range (n := n))
    exact hs a b (by omega) hab (List.mem_range.1 hb)
  · rw [List.mem_map]
    constructor
    · rintro ⟨a, ha, rfl⟩
      obtain ⟨j, _, j2, e⟩ := hp.2.1 a (by omega) (List.mem_range.1 ha)
      rw [e]; exact j2
    · intro hx
      obtain ⟨k, _, k2, e⟩ := hp.2.2 x (by omega) hx
      exact ⟨k, List.mem_range.2 k2, e⟩
theorem sorted_at {ps : List (List M.Cl)} {f : Nat → Nat} (hp : St.Per 0 ps.length (fun k => k) f) (hs : St.Srt (St.pltV ps) 0 ps.length f) {j : Nat} (hj : j < ps.length) : (sortedP ps).getD j [] = ps.getD (f j) [] ∧ f j < ps.length := by
  have h := sorted_good rfl hp hs
  refine ⟨?_, ?_⟩
  · unfold sortedP
    rw [← h, List.map_map, List.getD_eq_getElem?_getD, List.getElem?_map, List.getElem?_eq_getElem (by simpa using hj)]
    simp
  · obtain ⟨q, _, q2, e⟩ := hp.2.1 j (by omega) hj
    rw [e]; exact q2

set_option maxRecDepth 100000 in
set_option maxHeartbeats 4000000 in
theorem implSort_arr (v : List M.Cl) (b off cap : Nat) (w w1 : World) (hv : M.valueFault v = 0) (hrow : Row w1 b off v) (hb : b < w1.heap.size) (hcap : v.length ≤ cap) (hok : ∀ c ∈ v, c.ok) (B1 : Below w.heap.size w w1) :
    Calls Tryz.prog 47 #[.slice (some ⟨b, off, none⟩) v.length cap] w1 fun e w2 => ∃ (a : Option Addr) (c : Nat), e = .returned (.slice a (subs v 0).length c) ∧ Below w1.heap.size w1 w2 ∧ Calls Tryz.prog 48 #[.slice a (subs v 0).length c, .func (.func 49) #[] #[]] w2 fun r w3 => r = .returned (.tuple #[]) ∧ LV w3 a (sortedP (subs v 0)) ∧ (subs v 0).length ≤ c ∧ Below w1.heap.size w1 w3 := by
  have hall := subs_all hv hok
  refine (partsOf_any v b off cap w1 hv hrow hb hcap).mono ?_
  rintro e w2 ⟨s, rfl, hs, hb2⟩
  generalize subs v 0 = ps at *
  obtain ⟨a, c, β, γ, rfl, hc, HP⟩ := hs.ss.opened hall.2.2.2
  refine ⟨a, c, rfl, hb2, ?_⟩
  by_cases h0 : ps.length = 0
  · have hnil : ps = [] := List.length_eq_zero_iff.1 h0
    subst hnil
    have hs0 := hs.ss
    obtain ⟨xs, _, ho, _⟩ := hs0
    obtain ⟨_, ⟨e1, _⟩ | ⟨g, cap', cur, e1, _, e3, _⟩⟩ := ho
    · cases e1
      refine (sortStableS_none _ _).mono ?_
      rintro r w3 ⟨rfl, rfl⟩
      exact ⟨rfl, fun i hi => by simp [sortedP, St.sortI] at hi, Nat.zero_le _, hb2⟩
    · cases e1
      refine (sortStableS_empty g c _ _).mono ?_
      rintro r w3 ⟨rfl, rfl⟩
      exact ⟨rfl, fun i hi => by simp [sortedP, St.sortI] at hi, Nat.zero_le _, hb2⟩
  · obtain ⟨g, rfl, hBg, hg, _⟩ := HP 0 (by omega)
    have HP' : ∀ i, i < ps.length → w2.cell? ⟨g, i, none⟩ = some (.slice (some ⟨β i, 0, none⟩) (ps.getD i []).length (γ i)) ∧ β i < w2.heap.size ∧ β i ≠ g ∧ (ps.getD i []).length ≤ γ i ∧ Row w2 (β i) 0 (ps.getD i []) := fun i hi => by
      obtain ⟨g', e, _, _, q⟩ := HP i hi
      cases e
      exact q
    have hPA : PartsAt w2 g β (fun i => (ps.getD i []).length) γ ps := fun i hi => by
      obtain ⟨_, q2, q3, q4, q5⟩ := HP' i hi
      exact ⟨hall.2.1 i hi, hall.2.2.1 i hi, rfl, q4, q2, q3, q5⟩
    have hOS : OwnS β (fun i => (ps.getD i []).length) γ w2 g ps.length (fun k => k) := by
      obtain ⟨xs, hxl, ho, _⟩ := hs.ss
      obtain ⟨_, ⟨e1, _⟩ | ⟨g', cap', cur, e1, _, e3, e4, e5, e6, e7⟩⟩ := ho
      · cases e1
      · cases e1
        refine ⟨cur.toList, ⟨cur, e3, rfl⟩, ?_, fun i hi => ?_⟩
        · simp at e6 ⊢; omega
        · have hcell := (HP' i hi).1
          have hown : Own w2 g 24 cur.toList := ⟨cur, e3, rfl⟩
          rw [hown.cell i] at hcell
          exact hcell
    refine (sortStableS_any g ps.length c β _ γ ps w2 hOS hPA rfl (by omega) (by omega) hc).mono ?_
    rintro r w3 ⟨rfl, f, ho3, hper, hsrt, hbut⟩
    have hPA3 := hPA.but hbut
    refine ⟨rfl, fun j hj => ?_, hc, hb2.trans (hbut.below hb2.size hBg)⟩
    rw [sortedP_length] at hj
    obtain ⟨e1, e2⟩ := sorted_at hper hsrt hj
    obtain ⟨_, _, _, q4, q5, _, q7⟩ := hPA3 (f j) e2
    rw [e1]
    exact ⟨g, β (f j), 0, γ (f j), rfl, ho3.lt, ho3.cell hj, q4, q5, q7⟩

set_option maxRecDepth 100000 in
set_option maxHeartbeats 4000000 in
theorem implSortOf_any (v : List M.Cl) (b off cap : Nat) (w : World) (hrow : Row w b off v) (hb : b < w.heap.size) (hn : v.length ≤ 1048576) (hcap : v.length ≤ cap) (hok : ∀ c ∈ v, c.ok) :
    Calls Tryz.prog 23 #[.slice (some ⟨b, off, none⟩) v.length cap] w (Ans w (sortOut v)) := by
  have OK := hide hok
  have B0 : ∀ o, Below w.heap.size w (w.alloc o) := fun o => (Below.refl _ _).alloc (Nat.le_refl _) o
  have HB0 := hide B0
  clear B0
  clear hok
  go_enter Tryz.func23, Tryz.ntmps23
  go_wp2_with fail
  refine (implFault_any v b off cap _ (hrow.below ((unhide HB0) _) hb) (by simp; omega) hn hcap (unhide OK)).mono ?_
  rintro e1 w1 ⟨rfl, hb1⟩
  have hR : Own w1 w.heap.size 26 [.int .i64 0, .slice none 0 0] := Own.below ⟨_, heap_alloc_new _ _, rfl⟩ hb1 (by simp)
  have B1 : Below w.heap.size w w1 := ((unhide HB0) _).trans (hb1.mono (by simp))
  have hrow1 := hrow.below B1 hb
  have hb1' : b < w1.heap.size := Nat.lt_of_lt_of_le hb B1.size
  clear hb1
  generalize hq : M.valueFault v = q
  by_cases hz : q = 0
  · subst hz
    have fin := hide (sort_ok hq)
    have hl1 := (M.fault_zero hq).1
    obtain ⟨f0, _, _, _, _⟩ := hrow1 0 (by omega)
    simp only [Nat.zero_mul, Nat.add_zero] at f0
    by_cases k5 : (v.getD 0 M.zero).kind = 5
    · have fin2 := hide ((unhide fin).trans (sort_5 k5))
      have HPS := hide (implSort_arr v b off cap w w1 hq hrow1 hb1' hcap (unhide OK) B1)
      have HF := hide (sorted_facts hq (unhide OK))
      have HTO := hide (told_ok (sorted_valid hq (unhide OK)))
      have HLEN := hide (sortedP_length (subs v 0))
      rw [k5] at f0
      clear k5 hq fin
      go_wp2_with fail
      refine (unhide HPS).mono ?_
      rintro e2 w2 ⟨a, c, rfl, hb2, hsort⟩
      have HS := hide hsort
      clear hsort f0 HPS
      go_wp2_with fail
      refine (unhide HS).mono ?_
      rintro e3 w3 ⟨rfl, hlv, hc, hb3⟩
      have hR3 := hR.below hb3 hR.lt
      have B3 : Below w.heap.size w w3 := B1.trans (hb3.mono B1.size)
      have hw3 : w.heap.size < w3.heap.size := hR3.lt
      have HF1 := hide (show (sortedP (subs v 0)).length ≤ 4096 by have := (unhide HF).1; omega)
      have HF2 := hide (unhide HF).2.1
      have HOM := hide (show arrV (sortedP (subs v 0)) ≠ [] ∧ (arrV (sortedP (subs v 0))).length ≤ 1048576 ∧ ∀ c ∈ arrV (sortedP (subs v 0)), c.ok from ⟨arrV_ne _, arrV_le (unhide HF1) (unhide HF2), arrK_ok _ (unhide HF1) (unhide HF).2.2 _ (Nat.le_refl _)⟩)
      rw [← unhide HLEN] at hc ⊢
      clear HS HF hb2 hb3 HLEN
      generalize sortedP (subs v 0) = SP at *
      go_wp2_with fail
      refine (layArrayV_any a c SP _ hlv hc (unhide HF1) (unhide HF2)).mono ?_
      rintro e6 w6 ⟨s6, rfl, hr6, hb6⟩
      have hR6 := hR3.below hb6 hR3.lt
      have B6 : Below w.heap.size w w6 := B3.trans (hb6.mono B3.size)
      have HT := hide (implTold_any s6 _ _ w6 hr6 hb6.size (unhide HOM).1 (unhide HOM).2.1 (unhide HOM).2.2)
      rw [unhide HTO] at HT
      obtain ⟨at6, mt6, ct6, rfl⟩ := hr6.shape
      clear hr6 hb6 hlv
      go_wp2_with fail
      refine (unhide HT).mono ?_
      rintro e7 w7 ⟨s7, rfl, hr7, hb7⟩
      have hR7 := hR6.below hb7 hR6.lt
      have r0 := hR7.cell 0
      have r1 := hR7.cell 1
      have z0 := hR7.frozen 0
      have z1 := hR7.frozen 1
      simp only [List.getElem?_cons_zero, List.getElem?_cons_succ] at r0 r1
      have HE := hide (Ans.storeC hr7 hw3 (B6.trans (hb7.mono B6.size)))
      obtain ⟨ac, mc, cc, rfl⟩ := hr7.shape
      clear hr7 hb7 HT
      go_wp2_with fail
      refine bodyPost_ret (v := .agg #[.int .i64 0, .slice ac mc cc]) (by simp [results, Tryz.results23, go_sem, r0, r1]) rfl (ans_of (unhide fin2) ((unhide HE) _ _).1 ((unhide HE) _ _).2)
    · have fin2 := hide ((unhide fin).trans (sort_no k5))
      generalize v.getD 0 M.zero = x at *
      have e5 : (x.kind != 5) = true := by simpa using k5
      have e5' : (x.kind == 5) = false := by simpa using k5
      have r0 := hR.cell 0
      have r1 := hR.cell 1
      have z0 := hR.frozen 0
      have z1 := hR.frozen 1
      simp only [List.getElem?_cons_zero, List.getElem?_cons_succ] at r0 r1
      clear k5 hq fin
      go_wp2_with fail
      refine bodyPost_ret (v := .agg #[.int .i64 6, .slice none 0 0]) (by simp [results, Tryz.results23, go_sem, r0, r1]) rfl (ans_of (unhide fin2) (resNil _ _) (store_below B1 _ _))
  · have fin := hide ((sort_bad (by rw [hq]; exact hz)).trans (by rw [hq]))
    have hz' : (q == 0) = false := by simp [hz]
    have r0 := hR.cell 0
    have r1 := hR.cell 1
    have z0 := hR.frozen 0
    have z1 := hR.frozen 1
    simp only [List.getElem?_cons_zero, List.getElem?_cons_succ] at r0 r1
    clear hq
    go_wp2_with fail
    refine bodyPost_ret (v := .agg #[.int .i64 q, .slice none 0 0]) (by simp [results, Tryz.results23, go_sem, r0, r1]) rfl (ans_of (unhide fin) (resNil _ _) (store_below B1 _ _))

end Go.Proofs.YtcolohilnmikiaaGreat
