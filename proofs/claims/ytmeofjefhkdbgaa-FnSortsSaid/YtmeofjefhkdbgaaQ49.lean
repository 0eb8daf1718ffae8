/-
  The library's stable sort of a row of places, whole.
-/
import Derived.Test.YtmeofjefhkdbgaaQ48
namespace Go.Proofs.Ytmeofjefhkdbgaa
open Go.RowKit
set_option linter.unusedVariables false

theorem mergeS_any (b n cap : Nat) (β ν γ : Nat → Nat) (ps : List (List M.Cl)) (hks : ps.length = n) (hn : n ≤ 1048576) (hcap : n ≤ cap) : ∀ d, MergeUptoS b n cap β ν γ ps d
  | 0 => fun a m e f w hd ham hme => by omega
  | d + 1 => fun a m e f w hd ham hme hen h hK hin hl hr hlo => by
    by_cases c1 : m = a + 1
    · subst c1
      rw [show ((a + 1 : Nat) : Int) = (a : Int) + 1 by omega]
      exact mergeLeftS_any b n cap β ν γ ps f a e w h hK hks hin hr hlo hme hen hn hcap
    by_cases c2 : e = m + 1
    · subst c2
      rw [show ((m + 1 : Nat) : Int) = (m : Int) + 1 by omega]
      exact mergeRightS_any b n cap β ν γ ps f a m w h hK hks hin hl hlo (by omega) hen hn hcap
    have IH := mergeS_any b n cap β ν γ ps hks hn hcap d
    by_cases c3 : (a + e) / 2 < m
    · exact mergeHighS_any b n cap β ν γ ps hks hn hcap d IH a m e _ f w hd (by omega) (by omega) hen h hK hin hl hr hlo rfl c3
    · exact mergeLowS_any b n cap β ν γ ps hks hn hcap d IH a m e _ f w hd (by omega) (by omega) hen h hK hin hl hr hlo rfl (by omega)

theorem mergeS_int (b n cap : Nat) (β ν γ : Nat → Nat) (ps : List (List M.Cl)) (hks : ps.length = n) (hn : n ≤ 1048576) (hcap : n ≤ cap) (a m e : Nat) (f : Nat → Nat) (w : World) (ham : a < m) (hme : m < e) (hen : e ≤ n) (h : OwnS β ν γ w b n f) (hK : PartsAt w b β ν γ ps) (hin : ∀ k, k < n → f k < n) (hl : St.Srt (St.pltV ps) a m f) (hr : St.Srt (St.pltV ps) m e f) (hlo : St.Lo a m e f) (ai mi ei : Int) (ha : ai = a) (hm : mi = m) (he : ei = e) :
    Calls Try.prog 71 #[.slice (some ⟨b, 0, none⟩) n cap, .int .i64 ai, .int .i64 mi, .int .i64 ei, .func (.func 22) #[] #[]] w fun r w' => r = .returned (.tuple #[]) ∧ ∃ f', OwnS β ν γ w' b n f' ∧ St.Per a e f f' ∧ St.Srt (St.pltV ps) a e f' ∧ But w.heap.size b w w' := by
  subst ha hm he
  exact mergeS_any b n cap β ν γ ps hks hn hcap (e - a) a m e f w (Nat.le_refl _) ham hme hen h hK hin hl hr hlo
theorem insertionS_int (b n cap : Nat) (β ν γ : Nat → Nat) (ps : List (List M.Cl)) (f : Nat → Nat) (a e : Nat) (w : World) (h : OwnS β ν γ w b n f) (hK : PartsAt w b β ν γ ps) (hks : ps.length = n) (hin : ∀ k, k < n → f k < n) (hf : ∀ k, a ≤ k → k < e → f k = k) (hae : a ≤ e) (hen : e ≤ n) (hn : n ≤ 1048576) (hcap : n ≤ cap) (ai ei : Int) (ha : ai = a) (he : ei = e) :
    Calls Try.prog 70 #[.slice (some ⟨b, 0, none⟩) n cap, .int .i64 ai, .int .i64 ei, .func (.func 22) #[] #[]] w fun r w' => r = .returned (.tuple #[]) ∧ ∃ f', OwnS β ν γ w' b n f' ∧ St.Per a e f f' ∧ St.Srt (St.pltV ps) a e f' ∧ But w.heap.size b w w' := by
  subst ha he
  exact insertionS_any b n cap β ν γ ps f a e w h hK hks hin hf hae hen hn hcap

set_option maxRecDepth 100000 in
set_option maxHeartbeats 4000000 in
theorem stableS_any (b n cap : Nat) (β ν γ : Nat → Nat) (ps : List (List M.Cl)) (w : World) (h : OwnS β ν γ w b n (fun k => k)) (hK : PartsAt w b β ν γ ps) (hks : ps.length = n) (hn0 : 0 < n) (hn : n ≤ 4096) (hcap : n ≤ cap) :
    Calls Try.prog 51 #[.slice (some ⟨b, 0, none⟩) n cap, .int .i64 n, .func (.func 22) #[] #[]] w fun r w' => r = .returned (.tuple #[]) ∧ ∃ f', OwnS β ν γ w' b n f' ∧ St.Per 0 n (fun k => k) f' ∧ St.Srt (St.pltV ps) 0 n f' ∧ But w.heap.size b w w' := by
  have HK := hide hK
  clear hK
  go_enter Try.func51, Try.ntmps51
  go_wp2_with fail
  go_loopg [7, 8] n (fun gh s7 s8 wr => ∃ (a : Nat) (cur : Nat → Nat), Hid (gh = n - a) ∧ s7 = .int .i64 a ∧ s8 = .int .i64 ((a : Int) + 20) ∧ a ≤ n ∧ OwnS β ν γ wr b n cur ∧ Hid (St.Ph1 (St.pltV ps) n a cur) ∧ Hid (St.Per 0 n (fun k => k) cur) ∧ But w.heap.size b w wr)
  case atStart => exact ⟨0, _, rfl, rfl, rfl, by omega, h, St.Ph1.start n, St.Per.refl _ _ _, But.refl _ _ _⟩
  case round =>
    obtain ⟨a, cur, hg, rfl, rfl, han, ho, hph, hper, hbut⟩ := hrel
    have hk := hide ((unhide HK).but hbut)
    have hin := hide (hper.out.less (Nat.le_refl _) (fun k hk => hk))
    have hid := hide (hph.out.2.2.2)
    by_cases hlt : a + 20 ≤ n
    · have hltz : (a : Int) + 20 ≤ (n : Int) := by omega
      go_wp2_with fail
      refine (insertionS_int b n cap β ν γ ps cur a (a + 20) _ ho (unhide hk) hks (unhide hin) (fun k h1 h2 => (unhide hid) k h1) (by omega) hlt (by omega) hcap _ _ rfl (by omega)).mono ?_
      rintro r w1 ⟨rfl, g1, ho1, p1, s1, hb1⟩
      have hph1 := hide (hph.out.step hlt p1 s1)
      have hper1 := hide (hper.out.trans (p1.mono (by omega) hlt))
      have hbut1 := hbut.trans (hb1.mono hbut.size)
      clear p1 s1 hb1
      go_wp2_with fail
      go_roundg (n - (a + 20))
      case rel => exact ⟨a + 20, g1, rfl, by go_num, by go_num, hlt, ho1, unhide hph1, unhide hper1, hbut1⟩
      case measure => have := hg.out; omega
    · have hltz : ¬ (a : Int) + 20 ≤ (n : Int) := by omega
      go_wp2_with fail
      refine (insertionS_int b n cap β ν γ ps cur a n _ ho (unhide hk) hks (unhide hin) (fun k h1 h2 => (unhide hid) k h1) han (Nat.le_refl _) (by omega) hcap _ _ rfl rfl).mono ?_
      rintro r w1 ⟨rfl, g1, ho1, p1, s1, hb1⟩
      have hph1 := hide (hph.out.last (by omega) p1 s1)
      have hper1 := hide (hper.out.trans (p1.mono (by omega) (Nat.le_refl _)))
      have hbut1 := hbut.trans (hb1.mono hbut.size)
      clear p1 s1 hb1 hg hph hper hbut ho hk hin hid hlt hltz han
      go_wp2_with fail
      go_loopg [6] 9000 (fun gh s6 wr => ∃ (s : Nat) (cur : Nat → Nat), Hid (gh = 9020 - s) ∧ s6 = .int .i64 s ∧ 20 ≤ s ∧ s ≤ 5120 * 2 ∧ Hid (s < n → St.Sz s) ∧ OwnS β ν γ wr b n cur ∧ Hid (St.Ph2 (St.pltV ps) n s cur) ∧ Hid (St.Per 0 n (fun k => k) cur) ∧ But w.heap.size b w wr)
      case atStart => exact ⟨20, g1, rfl, rfl, by omega, by omega, fun _ => .inl rfl, ho1, unhide hph1, unhide hper1, hbut1⟩
      case round =>
        obtain ⟨s, cur2, hg, rfl, hs20, hs5, hsz, ho, hph, hper, hbut⟩ := hrel
        clear hph1 hper1 hbut1 ho1
        by_cases hlt : s < n
        · have hltz : (s : Int) < (n : Int) := by omega
          have hz := hide (hsz.out hlt)
          clear hsz
          go_wp2_with fail
          go_loopg [7, 8] n (fun gh s7 s8 wr => ∃ (a : Nat) (cur : Nat → Nat), Hid (gh = n - a) ∧ s7 = .int .i64 a ∧ s8 = .int .i64 ((a : Int) + 2 * (s : Int)) ∧ a ≤ n ∧ OwnS β ν γ wr b n cur ∧ Hid (St.Ph3 (St.pltV ps) n s a cur) ∧ Hid (St.Per 0 n (fun k => k) cur) ∧ But w.heap.size b w wr)
          case atStart => exact ⟨0, cur2, rfl, rfl, by go_num, by omega, ho, hph.out.begin (by omega), hper, hbut⟩
          case round =>
            clear hph hper hbut ho
            obtain ⟨a, cur, hg2, rfl, rfl, han, ho, hph, hper, hbut⟩ := hrel
            have hk := hide ((unhide HK).but hbut)
            have hin := hide (hper.out.less (Nat.le_refl _) (fun k hk => hk))
            by_cases hle : a + 2 * s ≤ n
            · have hlez : (a : Int) + 2 * (s : Int) ≤ (n : Int) := by omega
              have A := hide (hph.out.asks (unhide hz) hle)
              go_wp2_with fail
              refine (mergeS_int b n cap β ν γ ps hks (by omega) hcap a (a + s) (a + 2 * s) cur _ (by omega) (by omega) hle ho (unhide hk) (unhide hin) (unhide A).1 (unhide A).2.1 (unhide A).2.2.1 _ _ _ rfl (by omega) (by omega)).mono ?_
              rintro r w1 ⟨rfl, g1, ho1, p1, s1, hb1⟩
              have hph1 := hide (hph.out.step (unhide hz) hle p1 s1)
              have hper1 := hide (hper.out.trans (p1.mono (by omega) hle))
              have hbut1 := hbut.trans (hb1.mono hbut.size)
              clear p1 s1 hb1 A hph hper hbut ho
              go_wp2_with fail
              go_roundg (n - (a + 2 * s))
              case rel => exact ⟨a + 2 * s, g1, rfl, by go_num, by go_num, hle, ho1, unhide hph1, unhide hper1, hbut1⟩
              case measure => have := hg2.out; omega
            · have hlez : ¬ (a : Int) + 2 * (s : Int) ≤ (n : Int) := by omega
              have htw := hide (fun h2 : 2 * s < n => (unhide hz).twice hlt (by omega))
              by_cases hmn : a + s < n
              · have hmz : (a : Int) + (s : Int) < (n : Int) := by omega
                have A := hide (hph.out.asks2 (unhide hz) (by omega) hmn)
                go_wp2_with fail
                refine (mergeS_int b n cap β ν γ ps hks (by omega) hcap a (a + s) n cur _ (by omega) hmn (Nat.le_refl _) ho (unhide hk) (unhide hin) (unhide A).1 (unhide A).2.1 (unhide A).2.2.1 _ _ _ rfl (by omega) rfl).mono ?_
                rintro r w1 ⟨rfl, g1, ho1, p1, s1, hb1⟩
                have hph1 := hide (hph.out.last (unhide hz) (by omega) hmn p1 s1)
                have hper1 := hide (hper.out.trans (p1.mono (by omega) (Nat.le_refl _)))
                have hbut1 := hbut.trans (hb1.mono hbut.size)
                clear p1 s1 hb1 A hph hper hbut ho
                go_wp2_with fail
                go_roundg (9020 - 2 * s)
                case rel => exact ⟨2 * s, g1, rfl, by first | go_num | (congr 1; omega), by omega, by omega, unhide htw, ho1, unhide hph1, unhide hper1, hbut1⟩
                case measure => have := hg.out; omega
              · have hmz : ¬ (a : Int) + (s : Int) < (n : Int) := by omega
                have hph1 := hide (hph.out.rest (unhide hz) (by omega) (by omega))
                clear hph
                go_wp2_with fail
                go_roundg (9020 - 2 * s)
                case rel => exact ⟨2 * s, cur, rfl, by first | go_num | (congr 1; omega), by omega, by omega, unhide htw, ho, unhide hph1, hper, hbut⟩
                case measure => have := hg.out; omega
        · have hltz : ¬ (s : Int) < (n : Int) := by omega
          have fin := hide (hph.out.whole (by omega) hn0)
          clear hph
          go_wp2_with fail
          go_end0
          exact ⟨rfl, cur2, ho, hper.out, unhide fin, hbut⟩

set_option maxHeartbeats 1000000 in
theorem sortStableS_any (b n cap : Nat) (β ν γ : Nat → Nat) (ps : List (List M.Cl)) (w : World) (h : OwnS β ν γ w b n (fun k => k)) (hK : PartsAt w b β ν γ ps) (hks : ps.length = n) (hn0 : 0 < n) (hn : n ≤ 4096) (hcap : n ≤ cap) :
    Calls Try.prog 21 #[.slice (some ⟨b, 0, none⟩) n cap, .func (.func 22) #[] #[]] w fun r w' => r = .returned (.tuple #[]) ∧ ∃ f', OwnS β ν γ w' b n f' ∧ St.Per 0 n (fun k => k) f' ∧ St.Srt (St.pltV ps) 0 n f' ∧ But w.heap.size b w w' := by
  have HS := stableS_any b n cap β ν γ ps w h hK hks hn0 hn hcap
  clear h hK
  go_enter Try.func21, Try.ntmps21
  go_wp2_with fail
  refine HS.mono ?_
  rintro r w1 ⟨rfl, g1, h1⟩
  go_wp2_with fail
  go_end0
  exact ⟨rfl, g1, h1⟩

set_option maxHeartbeats 1000000 in
theorem insertionS_none (cmp : Value) (w : World) :
    Calls Try.prog 70 #[.slice none 0 0, .int .i64 0, .int .i64 0, cmp] w fun r w' => r = .returned (.tuple #[]) ∧ w' = w := by
  go_enter Try.func70, Try.ntmps70
  go_wp2_with fail
  refine wp_loop_rounds 1 ?_
  rw [rounds_succ]
  go_wp2_with fail
  go_end0
  exact ⟨rfl, rfl⟩

set_option maxHeartbeats 1000000 in
theorem stableS_none (cmp : Value) (w : World) :
    Calls Try.prog 51 #[.slice none 0 0, .int .i64 0, cmp] w fun r w' => r = .returned (.tuple #[]) ∧ w' = w := by
  go_enter Try.func51, Try.ntmps51
  go_wp2_with fail
  refine wp_loop_rounds 1 ?_
  rw [rounds_succ]
  go_wp2_with fail
  refine (insertionS_none cmp _).mono ?_
  rintro r w1 ⟨rfl, rfl⟩
  go_wp2_with fail
  refine wp_loop_rounds 1 ?_
  rw [rounds_succ]
  go_wp2_with fail
  go_end0
  exact ⟨rfl, rfl⟩

set_option maxHeartbeats 1000000 in
theorem sortStableS_none (cmp : Value) (w : World) :
    Calls Try.prog 21 #[.slice none 0 0, cmp] w fun r w' => r = .returned (.tuple #[]) ∧ w' = w := by
  go_enter Try.func21, Try.ntmps21
  go_wp2_with fail
  refine (stableS_none cmp _).mono ?_
  rintro r w1 ⟨rfl, rfl⟩
  go_wp2_with fail
  go_end0
  exact ⟨rfl, rfl⟩

set_option maxHeartbeats 1000000 in
theorem insertionS_empty (g c : Nat) (cmp : Value) (w : World) :
    Calls Try.prog 70 #[.slice (some ⟨g, 0, none⟩) 0 c, .int .i64 0, .int .i64 0, cmp] w fun r w' => r = .returned (.tuple #[]) ∧ w' = w := by
  go_enter Try.func70, Try.ntmps70
  go_wp2_with fail
  refine wp_loop_rounds 1 ?_
  rw [rounds_succ]
  go_wp2_with fail
  go_end0
  exact ⟨rfl, rfl⟩

set_option maxHeartbeats 1000000 in
theorem stableS_empty (g c : Nat) (cmp : Value) (w : World) :
    Calls Try.prog 51 #[.slice (some ⟨g, 0, none⟩) 0 c, .int .i64 0, cmp] w fun r w' => r = .returned (.tuple #[]) ∧ w' = w := by
  go_enter Try.func51, Try.ntmps51
  go_wp2_with fail
  refine wp_loop_rounds 1 ?_
  rw [rounds_succ]
  go_wp2_with fail
  refine (insertionS_empty g c cmp _).mono ?_
  rintro r w1 ⟨rfl, rfl⟩
  go_wp2_with fail
  refine wp_loop_rounds 1 ?_
  rw [rounds_succ]
  go_wp2_with fail
  go_end0
  exact ⟨rfl, rfl⟩

set_option maxHeartbeats 1000000 in
theorem sortStableS_empty (g c : Nat) (cmp : Value) (w : World) :
    Calls Try.prog 21 #[.slice (some ⟨g, 0, none⟩) 0 c, cmp] w fun r w' => r = .returned (.tuple #[]) ∧ w' = w := by
  go_enter Try.func21, Try.ntmps21
  go_wp2_with fail
  refine (stableS_empty g c cmp _).mono ?_
  rintro r w1 ⟨rfl, rfl⟩
  go_wp2_with fail
  go_end0
  exact ⟨rfl, rfl⟩
end Go.Proofs.Ytmeofjefhkdbgaa
