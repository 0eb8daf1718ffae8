/-
  The library's stable sort of a row of places, whole.
  impl.standingMembers tells the places that stand.
-/
import Derived.Test.YtlmibdddfjbbdaaM21
import Derived.Test.YtlmibdddfjbbdaaM22
namespace Go.Proofs.Ytlmibdddfjbbdaa
open Go.RowKit
set_option linter.unusedVariables false

theorem merge_any (b n cap kb g kc : Nat) (ks : List ByteArray) (hkb : kb ≠ b) (hgb : g ≠ b) (hks : ks.length = n) (hn : n ≤ 1048576) (hcap : n ≤ cap) : ∀ d, MergeUpto b n cap kb g kc ks d
  | 0 => fun a m e f w hd ham hme => by omega
  | d + 1 => fun a m e f w hd ham hme hen h hK hin hl hr hlo => by
    by_cases c1 : m = a + 1
    · subst c1
      rw [show ((a + 1 : Nat) : Int) = (a : Int) + 1 by omega]
      exact mergeLeft_any b n cap kb g kc ks f a e w h hK hkb hgb hks hin hr hlo hme hen hn hcap
    by_cases c2 : e = m + 1
    · subst c2
      rw [show ((m + 1 : Nat) : Int) = (m : Int) + 1 by omega]
      exact mergeRight_any b n cap kb g kc ks f a m w h hK hkb hgb hks hin hl hlo (by omega) hen hn hcap
    have IH := merge_any b n cap kb g kc ks hkb hgb hks hn hcap d
    by_cases c3 : (a + e) / 2 < m
    · exact mergeHigh_any b n cap kb g kc ks hkb hgb hks hn hcap d IH a m e _ f w hd (by omega) (by omega) hen h hK hin hl hr hlo rfl c3
    · exact mergeLow_any b n cap kb g kc ks hkb hgb hks hn hcap d IH a m e _ f w hd (by omega) (by omega) hen h hK hin hl hr hlo rfl (by omega)

theorem merge_int (b n cap kb g kc : Nat) (ks : List ByteArray) (hkb : kb ≠ b) (hgb : g ≠ b) (hks : ks.length = n) (hn : n ≤ 1048576) (hcap : n ≤ cap) (a m e : Nat) (f : Nat → Nat) (w : World) (ham : a < m) (hme : m < e) (hen : e ≤ n) (h : OwnF w b n f) (hK : KeysAt w kb g kc ks) (hin : ∀ k, k < n → f k < n) (hl : St.Srt (St.plt ks) a m f) (hr : St.Srt (St.plt ks) m e f) (hlo : St.Lo a m e f) (ai mi ei : Int) (ha : ai = a) (hm : mi = m) (he : ei = e) :
    Calls Try.prog 69 #[.slice (some ⟨b, 0, none⟩) n cap, .int .i64 ai, .int .i64 mi, .int .i64 ei, .func (.func 57) #[] #[.pointer (some ⟨kb, 0, none⟩)]] w fun r w' => r = .returned (.tuple #[]) ∧ ∃ f', OwnF w' b n f' ∧ St.Per a e f f' ∧ St.Srt (St.plt ks) a e f' ∧ But w.heap.size b w w' := by
  subst ha hm he
  exact merge_any b n cap kb g kc ks hkb hgb hks hn hcap (e - a) a m e f w (Nat.le_refl _) ham hme hen h hK hin hl hr hlo
theorem insertion_int (b n cap kb g kc : Nat) (ks : List ByteArray) (f : Nat → Nat) (a e : Nat) (w : World) (h : OwnF w b n f) (hK : KeysAt w kb g kc ks) (hkb : kb ≠ b) (hgb : g ≠ b) (hks : ks.length = n) (hin : ∀ k, k < n → f k < n) (hf : ∀ k, a ≤ k → k < e → f k = k) (hae : a ≤ e) (hen : e ≤ n) (hn : n ≤ 1048576) (hcap : n ≤ cap) (ai ei : Int) (ha : ai = a) (he : ei = e) :
    Calls Try.prog 68 #[.slice (some ⟨b, 0, none⟩) n cap, .int .i64 ai, .int .i64 ei, .func (.func 57) #[] #[.pointer (some ⟨kb, 0, none⟩)]] w fun r w' => r = .returned (.tuple #[]) ∧ ∃ f', OwnF w' b n f' ∧ St.Per a e f f' ∧ St.Srt (St.plt ks) a e f' ∧ But w.heap.size b w w' := by
  subst ha he
  exact insertion_any b n cap kb g kc ks f a e w h hK hkb hgb hks hin hf hae hen hn hcap

set_option maxRecDepth 100000 in
set_option maxHeartbeats 4000000 in
theorem stable_any (b n cap kb g kc : Nat) (ks : List ByteArray) (w : World) (h : OwnF w b n (fun k => k)) (hK : KeysAt w kb g kc ks) (hkb : kb ≠ b) (hgb : g ≠ b) (hks : ks.length = n) (hn0 : 0 < n) (hn : n ≤ 4096) (hcap : n ≤ cap) :
    Calls Try.prog 63 #[.slice (some ⟨b, 0, none⟩) n cap, .int .i64 n, .func (.func 57) #[] #[.pointer (some ⟨kb, 0, none⟩)]] w fun r w' => r = .returned (.tuple #[]) ∧ ∃ f', OwnF w' b n f' ∧ St.Per 0 n (fun k => k) f' ∧ St.Srt (St.plt ks) 0 n f' ∧ But w.heap.size b w w' := by
  have HK := hide hK
  have hlk := hK.1
  have hlg := hK.2.1
  clear hK
  go_enter Try.func63, Try.ntmps63
  go_wp2_with fail
  go_loopg [7, 8] n (fun gh s7 s8 wr => ∃ (a : Nat) (cur : Nat → Nat), Hid (gh = n - a) ∧ s7 = .int .i64 a ∧ s8 = .int .i64 ((a : Int) + 20) ∧ a ≤ n ∧ OwnF wr b n cur ∧ Hid (St.Ph1 (St.plt ks) n a cur) ∧ Hid (St.Per 0 n (fun k => k) cur) ∧ But w.heap.size b w wr)
  case atStart => exact ⟨0, _, rfl, rfl, rfl, by omega, h, St.Ph1.start n, St.Per.refl _ _ _, But.refl _ _ _⟩
  case round =>
    obtain ⟨a, cur, hg, rfl, rfl, han, ho, hph, hper, hbut⟩ := hrel
    have hk := hide ((unhide HK).but hbut hlk hlg hkb hgb)
    have hin := hide (hper.out.less (Nat.le_refl _) (fun k hk => hk))
    have hid := hide (hph.out.2.2.2)
    by_cases hlt : a + 20 ≤ n
    · have hltz : (a : Int) + 20 ≤ (n : Int) := by omega
      go_wp2_with fail
      refine (insertion_int b n cap kb g kc ks cur a (a + 20) _ ho (unhide hk) hkb hgb hks (unhide hin) (fun k h1 h2 => (unhide hid) k h1) (by omega) hlt (by omega) hcap _ _ rfl (by omega)).mono ?_
      rintro r w1 ⟨rfl, g1, ho1, p1, s1, hb1⟩
      have hph1 := hide (hph.out.step hlt p1 s1)
      have hper1 := hide (hper.out.trans (p1.mono (by omega) hlt))
      have hbut1 := hbut.trans (hb1.mono hbut.size)
      clear p1 s1 hb1
      go_wp2_with fail
      go_roundg (n - (a + 20))
      case rel => exact ⟨a + 20, g1, rfl, by go_num, by go_num, hlt, ho1, unhide hph1, unhide hper1, hbut1⟩
      case measure => have := hg.out; omega
    · have hltz : ¬ (a : Int) + 20 ≤ (n : Int) := by omega
      go_wp2_with fail
      refine (insertion_int b n cap kb g kc ks cur a n _ ho (unhide hk) hkb hgb hks (unhide hin) (fun k h1 h2 => (unhide hid) k h1) han (Nat.le_refl _) (by omega) hcap _ _ rfl rfl).mono ?_
      rintro r w1 ⟨rfl, g1, ho1, p1, s1, hb1⟩
      have hph1 := hide (hph.out.last (by omega) p1 s1)
      have hper1 := hide (hper.out.trans (p1.mono (by omega) (Nat.le_refl _)))
      have hbut1 := hbut.trans (hb1.mono hbut.size)
      clear p1 s1 hb1 hg hph hper hbut ho hk hin hid hlt hltz han
      go_wp2_with fail
      go_loopg [6] 9000 (fun gh s6 wr => ∃ (s : Nat) (cur : Nat → Nat), Hid (gh = 9020 - s) ∧ s6 = .int .i64 s ∧ 20 ≤ s ∧ s ≤ 5120 * 2 ∧ Hid (s < n → St.Sz s) ∧ OwnF wr b n cur ∧ Hid (St.Ph2 (St.plt ks) n s cur) ∧ Hid (St.Per 0 n (fun k => k) cur) ∧ But w.heap.size b w wr)
      case atStart => exact ⟨20, g1, rfl, rfl, by omega, by omega, fun _ => .inl rfl, ho1, unhide hph1, unhide hper1, hbut1⟩
      case round =>
        obtain ⟨s, cur2, hg, rfl, hs20, hs5, hsz, ho, hph, hper, hbut⟩ := hrel
        clear hph1 hper1 hbut1 ho1
        by_cases hlt : s < n
        · have hltz : (s : Int) < (n : Int) := by omega
          have hz := hide (hsz.out hlt)
          clear hsz
          go_wp2_with fail
          go_loopg [7, 8] n (fun gh s7 s8 wr => ∃ (a : Nat) (cur : Nat → Nat), Hid (gh = n - a) ∧ s7 = .int .i64 a ∧ s8 = .int .i64 ((a : Int) + 2 * (s : Int)) ∧ a ≤ n ∧ OwnF wr b n cur ∧ Hid (St.Ph3 (St.plt ks) n s a cur) ∧ Hid (St.Per 0 n (fun k => k) cur) ∧ But w.heap.size b w wr)
          case atStart => exact ⟨0, cur2, rfl, rfl, by go_num, by omega, ho, hph.out.begin (by omega), hper, hbut⟩
          case round =>
            clear hph hper hbut ho
            obtain ⟨a, cur, hg2, rfl, rfl, han, ho, hph, hper, hbut⟩ := hrel
            have hk := hide ((unhide HK).but hbut hlk hlg hkb hgb)
            have hin := hide (hper.out.less (Nat.le_refl _) (fun k hk => hk))
            by_cases hle : a + 2 * s ≤ n
            · have hlez : (a : Int) + 2 * (s : Int) ≤ (n : Int) := by omega
              have A := hide (hph.out.asks (unhide hz) hle)
              go_wp2_with fail
              refine (merge_int b n cap kb g kc ks hkb hgb hks (by omega) hcap a (a + s) (a + 2 * s) cur _ (by omega) (by omega) hle ho (unhide hk) (unhide hin) (unhide A).1 (unhide A).2.1 (unhide A).2.2.1 _ _ _ rfl (by omega) (by omega)).mono ?_
              rintro r w1 ⟨rfl, g1, ho1, p1, s1, hb1⟩
              have hph1 := hide (hph.out.step (unhide hz) hle p1 s1)
              have hper1 := hide (hper.out.trans (p1.mono (by omega) hle))
              have hbut1 := hbut.trans (hb1.mono hbut.size)
              clear p1 s1 hb1 A hph hper hbut ho
              go_wp2_with fail
              go_roundg (n - (a + 2 * s))
              case rel => exact ⟨a + 2 * s, g1, rfl, by go_num, by go_num, hle, ho1, unhide hph1, unhide hper1, hbut1⟩
              case measure => have := hg2.out; omega
            · have hlez : ¬ (a : Int) + 2 * (s : Int) ≤ (n : Int) := by omega
              have htw := hide (fun h2 : 2 * s < n => (unhide hz).twice hlt (by omega))
              by_cases hmn : a + s < n
              · have hmz : (a : Int) + (s : Int) < (n : Int) := by omega
                have A := hide (hph.out.asks2 (unhide hz) (by omega) hmn)
                go_wp2_with fail
                refine (merge_int b n cap kb g kc ks hkb hgb hks (by omega) hcap a (a + s) n cur _ (by omega) hmn (Nat.le_refl _) ho (unhide hk) (unhide hin) (unhide A).1 (unhide A).2.1 (unhide A).2.2.1 _ _ _ rfl (by omega) rfl).mono ?_
                rintro r w1 ⟨rfl, g1, ho1, p1, s1, hb1⟩
                have hph1 := hide (hph.out.last (unhide hz) (by omega) hmn p1 s1)
                have hper1 := hide (hper.out.trans (p1.mono (by omega) (Nat.le_refl _)))
                have hbut1 := hbut.trans (hb1.mono hbut.size)
                clear p1 s1 hb1 A hph hper hbut ho
                go_wp2_with fail
                go_roundg (9020 - 2 * s)
                case rel => exact ⟨2 * s, g1, rfl, by first | go_num | (congr 1; omega), by omega, by omega, unhide htw, ho1, unhide hph1, unhide hper1, hbut1⟩
                case measure => have := hg.out; omega
              · have hmz : ¬ (a : Int) + (s : Int) < (n : Int) := by omega
                have hph1 := hide (hph.out.rest (unhide hz) (by omega) (by omega))
                clear hph
                go_wp2_with fail
                go_roundg (9020 - 2 * s)
                case rel => exact ⟨2 * s, cur, rfl, by first | go_num | (congr 1; omega), by omega, by omega, unhide htw, ho, unhide hph1, hper, hbut⟩
                case measure => have := hg.out; omega
        · have hltz : ¬ (s : Int) < (n : Int) := by omega
          have fin := hide (hph.out.whole (by omega) hn0)
          clear hph
          go_wp2_with fail
          go_end0
          exact ⟨rfl, cur2, ho, hper.out, unhide fin, hbut⟩

set_option maxHeartbeats 1000000 in
theorem sortStable_any (b n cap kb g kc : Nat) (ks : List ByteArray) (w : World) (h : OwnF w b n (fun k => k)) (hK : KeysAt w kb g kc ks) (hkb : kb ≠ b) (hgb : g ≠ b) (hks : ks.length = n) (hn0 : 0 < n) (hn : n ≤ 4096) (hcap : n ≤ cap) :
    Calls Try.prog 56 #[.slice (some ⟨b, 0, none⟩) n cap, .func (.func 57) #[] #[.pointer (some ⟨kb, 0, none⟩)]] w fun r w' => r = .returned (.tuple #[]) ∧ ∃ f', OwnF w' b n f' ∧ St.Per 0 n (fun k => k) f' ∧ St.Srt (St.plt ks) 0 n f' ∧ But w.heap.size b w w' := by
  have HS := stable_any b n cap kb g kc ks w h hK hkb hgb hks hn0 hn hcap
  clear h hK
  go_enter Try.func56, Try.ntmps56
  go_wp2_with fail
  refine HS.mono ?_
  rintro r w1 ⟨rfl, g1, h1⟩
  go_wp2_with fail
  go_end0
  exact ⟨rfl, g1, h1⟩

set_option maxHeartbeats 1000000 in
theorem insertion_none (cmp : Value) (w : World) :
    Calls Try.prog 68 #[.slice none 0 0, .int .i64 0, .int .i64 0, cmp] w fun r w' => r = .returned (.tuple #[]) ∧ w' = w := by
  go_enter Try.func68, Try.ntmps68
  go_wp2_with fail
  refine wp_loop_rounds 1 ?_
  rw [rounds_succ]
  go_wp2_with fail
  go_end0
  exact ⟨rfl, rfl⟩

set_option maxHeartbeats 1000000 in
theorem stable_none (cmp : Value) (w : World) :
    Calls Try.prog 63 #[.slice none 0 0, .int .i64 0, cmp] w fun r w' => r = .returned (.tuple #[]) ∧ w' = w := by
  go_enter Try.func63, Try.ntmps63
  go_wp2_with fail
  refine wp_loop_rounds 1 ?_
  rw [rounds_succ]
  go_wp2_with fail
  refine (insertion_none cmp _).mono ?_
  rintro r w1 ⟨rfl, rfl⟩
  go_wp2_with fail
  refine wp_loop_rounds 1 ?_
  rw [rounds_succ]
  go_wp2_with fail
  go_end0
  exact ⟨rfl, rfl⟩

set_option maxHeartbeats 1000000 in
theorem sortStable_none (cmp : Value) (w : World) :
    Calls Try.prog 56 #[.slice none 0 0, cmp] w fun r w' => r = .returned (.tuple #[]) ∧ w' = w := by
  go_enter Try.func56, Try.ntmps56
  go_wp2_with fail
  refine (stable_none cmp _).mono ?_
  rintro r w1 ⟨rfl, rfl⟩
  go_wp2_with fail
  go_end0
  exact ⟨rfl, rfl⟩
end Go.Proofs.Ytlmibdddfjbbdaa

namespace Go.Proofs.Ytlmibdddfjbbdaa
open Go.RowKit
set_option linter.unusedVariables false

theorem Try.info3 : (Try.prog.info? 3).map (fun i => (i.zero, i.size, i.bytes)) = some (some (.int .i64 0), 1, 8) := by kernel_rfl

def natV (L : List Nat) : List Value := L.map fun p => Value.int .i64 (p : Nat)
theorem natV_snoc (L : List Nat) (p : Nat) : natV L ++ [Value.int .i64 (p : Nat)] = natV (L ++ [p]) := by simp [natV]
theorem natV_get (L : List Nat) (i : Nat) (hi : i < L.length) : (natV L)[i]? = some (.int .i64 (L.getD i 0 : Nat)) := by
  simp [natV, List.getElem?_map, List.getElem?_eq_getElem hi, List.getD_eq_getElem?_getD]
theorem one_int (w : World) (x : Nat) : ∀ j u, ([Value.int .i64 (x : Nat)] : List Value)[j]? = some u → (w.alloc (.cells #[.int .i64 (x : Nat)] 3)).cell? ((⟨w.heap.size, 0, none⟩ : Addr).add j) = some u := by
  intro j u hu
  match j, hu with
  | 0, hu =>
    simp only [List.getElem?_cons_zero, Option.some.injEq] at hu
    subst hu
    have a0 : (⟨w.heap.size, 0, none⟩ : Addr).add 0 = ⟨w.heap.size, 0, none⟩ := by simp [Addr.add]
    rw [a0]
    exact World.cell?_alloc_mark w #[.int .i64 (x : Nat)] 3 (0, 0) 0
theorem one_int_plain (x : Nat) : ∀ u ∈ ([Value.int .i64 (x : Nat)] : List Value), u.oneCell' = true := by
  intro u hu; simp only [List.mem_cons, List.not_mem_nil, or_false] at hu; subst hu; rfl
theorem ownF_of_owns {w : World} {B g cap n : Nat} (h : w.ownsRow B 3 1 (.slice (some ⟨g, 0, none⟩) n cap) n (natV (List.range n))) : OwnF w g n (fun k => k) ∧ B ≤ g ∧ n ≤ cap := by
  obtain ⟨h1, ⟨h2, _⟩ | ⟨g', cap', cur, h2, hg, hh, hnc, hcm, hcs, ht⟩⟩ := h
  · cases h2
  · cases h2
    refine ⟨⟨cur.toList, ⟨cur, hh, rfl⟩, by simp only [Array.length_toList]; omega, fun i hi => ?_⟩, hg, hnc⟩
    have : cur.toList[i]? = (natV (List.range n))[i]? := by rw [← ht, List.getElem?_take, if_pos (by omega)]
    rw [this, natV_get _ _ (by simpa using hi)]
    simp [List.getD_eq_getElem?_getD, hi]
theorem ownsRow_mono {w : World} {B B' : Nat} {e : TypeId} {size : Nat} {v : Value} {n : Nat} {xs : List Value} (h : w.ownsRow B e size v n xs) (hB : B' ≤ B) : w.ownsRow B' e size v n xs := by
  obtain ⟨h1, h2 | ⟨g, cap, cur, h3, h4, h5⟩⟩ := h
  · exact ⟨h1, .inl h2⟩
  · exact ⟨h1, .inr ⟨g, cap, cur, h3, by omega, h5⟩⟩
theorem ownsRow_drewN {w : World} {B : Nat} {e : TypeId} {size : Nat} {v : Value} {n : Nat} {xs : List Value} (h : w.ownsRow B e size v n xs) (k : Nat) : (w.drewN k).ownsRow B e size v n xs := h
theorem below_drewN {B : Nat} {a w : World} (h : Below B a w) (k : Nat) : Below B a (w.drewN k) := ⟨h.os, h.tape, h.output, h.size, h.block⟩
theorem kept_yes (ks : List ByteArray) (n : Nat) (f : Nat → Nat) (k : Nat) (h : St.keep ks n f k = true) : St.kept ks n f (k + 1) = St.kept ks n f k ++ [f k] := by
  show (if St.keep ks n f k = true then _ else _) = _
  rw [if_pos h]
theorem kept_no (ks : List ByteArray) (n : Nat) (f : Nat → Nat) (k : Nat) (h : ¬ St.keep ks n f k = true) : St.kept ks n f (k + 1) = St.kept ks n f k := by
  show (if St.keep ks n f k = true then _ else _) = _
  rw [if_neg h]
theorem kept_len (ks : List ByteArray) (n : Nat) (f : Nat → Nat) : ∀ k, (St.kept ks n f k).length ≤ k
  | 0 => by simp [St.kept]
  | k + 1 => by
    have := kept_len ks n f k
    by_cases h : St.keep ks n f k = true
    · rw [kept_yes ks n f k h, List.length_append]; simp; omega
    · rw [kept_no ks n f k h]; omega

set_option maxRecDepth 100000 in
set_option maxHeartbeats 4000000 in
theorem standing_any (g kc : Nat) (ks : List ByteArray) (w : World) (hg : g < w.heap.size) (hkeys : ∀ i, i < ks.length → w.cell? ⟨g, i, none⟩ = some (.string (ks.getD i ByteArray.empty))) (hn : ks.length ≤ 4096) (hkc : ks.length ≤ kc) :
    Calls Try.prog 43 #[.slice (some ⟨g, 0, none⟩) ks.length kc] w fun e w' => ∃ s, e = .returned s ∧ w'.ownsRow w.heap.size 3 1 s (St.stand ks ks.length).length (natV (St.stand ks ks.length)) ∧ Below w.heap.size w w' := by
  have HKE := hide hkeys
  clear hkeys
  obtain ⟨i0, hi, hz0, hz1, hz2⟩ := info_parts Try.info3
  obtain ⟨n, hnn⟩ : ∃ n, n = ks.length := ⟨_, rfl⟩
  have HNN := hide hnn
  rw [← hnn] at hn hkc ⊢
  clear hnn
  obtain ⟨w0, hw0⟩ : ∃ w0, w0 = w.alloc (.cells #[.slice (some ⟨g, 0, none⟩) n kc] 48) := ⟨_, rfl⟩
  have hk0 : KeysAt w0 w.heap.size g kc ks := by
    rw [hw0]
    refine ⟨by simp, by simp; omega, by rw [← unhide HNN]; exact World.cell?_alloc_mark w _ _ (0, 0) 0, fun i hi => ?_⟩
    exact (((Below.refl w.heap.size w).alloc (Nat.le_refl _) _).cell (by exact hg)).trans ((unhide HKE) i hi)
  have hs0 : w0.heap.size = w.heap.size + 1 := by rw [hw0]; simp
  have B00 : Below w.heap.size w w0 := by rw [hw0]; exact (Below.refl _ _).alloc (Nat.le_refl _) _
  have HW0 := hide hw0
  have HK0 := hide hk0
  go_enter Try.func43, Try.ntmps43
  go_wp2_with fail
  rw [← hw0]
  clear hw0 hk0
  go_loopg [3, 10] n (fun gh s3 s10 wr => ∃ k : Nat, Hid (gh = n - k) ∧ s10 = .int .i64 k ∧ k ≤ n ∧ Hid (k = 0 → s3 = .slice none 0 0) ∧ wr.ownsRow (w.heap.size + 1) 3 1 s3 k (natV (List.range k)) ∧ Below (w.heap.size + 1) w0 wr)
  case atStart => exact ⟨0, rfl, rfl, by omega, fun _ => rfl, World.ownsRow_nil _ _ _ _, Below.refl _ _⟩
  case round =>
    obtain ⟨k, hgh, rfl, hk, hz, hown, hbel⟩ := hrel
    by_cases hlt : k < n
    · have hsucc := hide (show natV (List.range k) ++ [Value.int .i64 (k : Nat)] = natV (List.range (k + 1)) by rw [natV_snoc, List.range_succ])
      have hown1 := hide (fun o => hown.alloc o)
      have hone := hide (one_int wr k)
      have honep := hide (one_int_plain k)
      have hb63 : k + 1 ≤ maxLen := by unfold maxLen; omega
      have hby : (k + 1) * 8 ≤ 140737488355328 := by omega
      have hbase : w.heap.size + 1 ≤ wr.heap.size + 1 := by have := hbel.size; omega
      have hbse := hide (ownsRow_base hown)
      clear hown hz
      go_wp2_with (at_builtin; refine wpList_append_own _ rfl (.tmp 13) (.tmp 15) 71 rfl (w.heap.size + 1) 3 i0 (.int .i64 0) 1 8 Try.underlying71 hi hz0 hz1 hz2 rfl (by decide) _ k _ rfl ((unhide hown1) _) ⟨wr.heap.size, 0, none⟩ 1 1 [.int .i64 (k : Nat)] rfl rfl (unhide hone) (unhide honep) hb63 hby (by simpa using hbase) ?_)
      intro v' w1 ho1 hg1 _
      rw [unhide hsucc] at ho1
      have B1 : Below (w.heap.size + 1) w0 w1 := (hbel.alloc (by have := hbel.size; omega) _).grown hg1 (by simpa using hbase) (unhide hbse)
      clear hg1
      have HO1 := hide ho1
      clear ho1
      go_wp2_with fail
      go_roundg (n - (k + 1))
      case rel => exact ⟨k + 1, rfl, by go_num, by omega, fun h => by omega, unhide HO1, B1⟩
      case measure => have := hgh.out; omega
    · have hke : k = n := by omega
      subst hke
      have B1 : Below w.heap.size w wr := B00.trans (hbel.mono (by omega))
      by_cases hn0 : k = 0
      · have h3 := hz.out hn0
        subst h3
        have hst : St.stand ks k = [] := by rw [hn0]; rfl
        have HST := hide hst
        clear hown hz hst hgh hlt
        subst hn0
        go_wp2_with fail
        refine (sortStable_none _ _).mono ?_
        rintro r w2 ⟨rfl, rfl⟩
        go_wp2_with fail
        refine wp_loop_rounds 1 ?_
        rw [rounds_succ]
        go_wp2_with fail
        go_ret
        exact ⟨_, rfl, by rw [unhide HST]; exact World.ownsRow_nil _ _ _ _, B1⟩
      · rcases hown.2 with ⟨_, h0⟩ | ⟨pb, cap, cur, rfl, hpb, _⟩
        · exact absurd h0 hn0
        obtain ⟨hF, hpb', hcap⟩ := ownF_of_owns hown
        have hkk := hide ((unhide HK0).but (But.ofBelow (b := pb) hbel) (by omega) (by omega) (by omega) (by omega))
        clear hown hz hgh hlt
        go_wp2_with fail
        refine (sortStable_any pb k cap w.heap.size g kc ks _ hF (unhide hkk) (by omega) (by omega) (unhide HNN).symm (by omega) hn hcap).mono ?_
        rintro r w2 ⟨rfl, f, ho2, per, srt, hb2⟩
        have hkk2 := hide ((unhide hkk).but hb2 (unhide hkk).1 (unhide hkk).2.1 (by omega) (by omega))
        have hkept := hide (St.kept_stand ks k f srt per)
        have hflt := hide (St.Per.less per (Nat.le_refl _) (fun k hk => hk))
        have B2 : Below w.heap.size w w2 := B1.trans (hb2.below B1.size (by omega))
        have hs2 := B2.size
        clear hF hb2 hkk per srt
        go_wp2_with fail
        go_loopg [5, 23] k (fun gh s5 s23 wr2 => ∃ i : Nat, Hid (gh = k - i) ∧ s23 = .int .i64 i ∧ i ≤ k ∧ wr2.ownsRow w2.heap.size 3 1 s5 (St.kept ks k f i).length (natV (St.kept ks k f i)) ∧ Below w2.heap.size w2 wr2)
        case atStart => exact ⟨0, rfl, rfl, by omega, World.ownsRow_nil _ _ _ _, Below.refl _ _⟩
        case round =>
          obtain ⟨i, hgh, rfl, hik, hown, hbel2⟩ := hrel
          by_cases hlt : i < k
          · have hlen := kept_len ks k f i
            have hfi := (unhide hflt) i hlt
            have c1 := (hbel2.cell (p := ⟨pb, i, none⟩) ho2.lt).trans (ho2.cell hlt)
            have hk2 := (unhide hkk2).but (But.ofBelow (b := wr.heap.size) hbel2) (unhide hkk2).1 (unhide hkk2).2.1 (by have := (unhide hkk2).1; have := hbel2.size; omega) (by have := (unhide hkk2).2.1; have := hbel2.size; omega)
            have c2 := fun q => show (wr.drewN q).cell? ⟨w.heap.size, 0, none⟩ = some (.slice (some ⟨g, 0, none⟩) k kc) from hk2.2.2.1.trans (by rw [← unhide HNN])
            have c3 := fun q => show (wr.drewN q).cell? ⟨g, f i, none⟩ = some (.string (ks.getD (f i) ByteArray.empty)) from hk2.2.2.2 (f i) (by rw [← unhide HNN]; exact hfi)
            have hfz : (f i : Int) < (k : Int) := by omega
            by_cases hlast : i + 1 = k
            · have hd : ((i : Int) + 1 == (k : Int)) = true := by simp; omega
              have hkeep := hide (show St.keep ks k f i = true by unfold St.keep; rw [decide_eq_true hlast]; rfl)
              clear c2 c3 hk2
              go_wp2_with fail
              go_quiet (fail)
              clear c1
              have hsucc := hide (show natV (St.kept ks k f i) ++ [Value.int .i64 (f i : Nat)] = natV (St.kept ks k f (i + 1)) by rw [kept_yes ks k f i (unhide hkeep), natV_snoc])
              have hsl := hide (show (St.kept ks k f i).length + 1 = (St.kept ks k f (i + 1)).length by rw [kept_yes ks k f i (unhide hkeep), List.length_append]; rfl)
              have hown1 := hide (fun o => ownsRow_drewN (hown.alloc o) nq)
              have hone := hide (one_int wr (f i))
              have honep := hide (one_int_plain (f i))
              have hb63 : (St.kept ks k f i).length + 1 ≤ maxLen := by unfold maxLen; omega
              have hby : ((St.kept ks k f i).length + 1) * 8 ≤ 140737488355328 := by omega
              have hbase : w2.heap.size ≤ wr.heap.size + 1 := by have := hbel2.size; omega
              have hbse := hide (ownsRow_base hown)
              clear hown hkeep
              generalize f i = x at *
              go_wp2_with (at_builtin; refine wpList_append_own _ rfl (.tmp 48) (.tmp 50) 71 rfl w2.heap.size 3 i0 (.int .i64 0) 1 8 Try.underlying71 hi hz0 hz1 hz2 rfl (by decide) _ (St.kept ks k f i).length _ rfl ((unhide hown1) _) ⟨wr.heap.size, 0, none⟩ 1 1 [.int .i64 (x : Nat)] rfl rfl (unhide hone) (unhide honep) hb63 hby (by simpa using hbase) ?_)
              intro v' w3 ho3 hg3 _
              rw [unhide hsucc, unhide hsl] at ho3
              have B3 : Below w2.heap.size w2 w3 := (below_drewN (hbel2.alloc hbel2.size _) nq).grown hg3 (by simpa using hbase) (unhide hbse)
              clear hg3
              have HO3 := hide ho3
              clear ho3
              go_wp2_with fail
              go_roundg (k - (i + 1))
              case rel => exact ⟨i + 1, rfl, by go_num, by omega, unhide HO3, B3⟩
              case measure => have := hgh.out; omega
            · have hd : ((i : Int) + 1 == (k : Int)) = false := by simp; omega
              have hi1 : i + 1 < k := by omega
              have hfi1 := (unhide hflt) (i + 1) hi1
              have hfz1 : (f (i + 1) : Int) < (k : Int) := by omega
              have hi1z : (i : Int) + 1 < (k : Int) := by omega
              have c4 := fun q => show (wr.drewN q).cell? ⟨pb, i + 1, none⟩ = some (.int .i64 (f (i + 1))) from (hbel2.cell (p := ⟨pb, i + 1, none⟩) ho2.lt).trans (ho2.cell hi1)
              have c5 := fun q => show (wr.drewN q).cell? ⟨g, f (i + 1), none⟩ = some (.string (ks.getD (f (i + 1)) ByteArray.empty)) from hk2.2.2.2 (f (i + 1)) (by rw [← unhide HNN]; exact hfi1)
              have hke : St.keep ks k f i = !((ks.getD (f i) ByteArray.empty).toList == (ks.getD (f (i + 1)) ByteArray.empty).toList) := by unfold St.keep; rw [decide_eq_false (by omega)]; rfl
              clear hk2
              generalize ks.getD (f (i + 1)) ByteArray.empty = ky at *
              generalize ks.getD (f i) ByteArray.empty = kx at *
              generalize f (i + 1) = y at *
              cases hv : (kx.toList == ky.toList) with
              | false =>
                rw [hv] at hke
                have hkeep := hide (show St.keep ks k f i = true from hke)
                clear hke
                go_wp2_with fail
                go_quiet (fail)
                clear c1 c2 c3 c4 c5
                have hsucc := hide (show natV (St.kept ks k f i) ++ [Value.int .i64 (f i : Nat)] = natV (St.kept ks k f (i + 1)) by rw [kept_yes ks k f i (unhide hkeep), natV_snoc])
                have hsl := hide (show (St.kept ks k f i).length + 1 = (St.kept ks k f (i + 1)).length by rw [kept_yes ks k f i (unhide hkeep), List.length_append]; rfl)
                have hown1 := hide (fun o => ownsRow_drewN (hown.alloc o) nq)
                have hone := hide (one_int wr (f i))
                have honep := hide (one_int_plain (f i))
                have hb63 : (St.kept ks k f i).length + 1 ≤ maxLen := by unfold maxLen; omega
                have hby : ((St.kept ks k f i).length + 1) * 8 ≤ 140737488355328 := by omega
                have hbase : w2.heap.size ≤ wr.heap.size + 1 := by have := hbel2.size; omega
                have hbse := hide (ownsRow_base hown)
                clear hown hkeep
                generalize f i = x at *
                go_wp2_with (at_builtin; refine wpList_append_own _ rfl (.tmp 48) (.tmp 50) 71 rfl w2.heap.size 3 i0 (.int .i64 0) 1 8 Try.underlying71 hi hz0 hz1 hz2 rfl (by decide) _ (St.kept ks k f i).length _ rfl ((unhide hown1) _) ⟨wr.heap.size, 0, none⟩ 1 1 [.int .i64 (x : Nat)] rfl rfl (unhide hone) (unhide honep) hb63 hby (by simpa using hbase) ?_)
                intro v' w3 ho3 hg3 _
                rw [unhide hsucc, unhide hsl] at ho3
                have B3 : Below w2.heap.size w2 w3 := (below_drewN (hbel2.alloc hbel2.size _) nq).grown hg3 (by simpa using hbase) (unhide hbse)
                clear hg3
                have HO3 := hide ho3
                clear ho3
                go_wp2_with fail
                go_roundg (k - (i + 1))
                case rel => exact ⟨i + 1, rfl, by go_num, by omega, unhide HO3, B3⟩
                case measure => have := hgh.out; omega
              | true =>
                rw [hv] at hke
                have hown2 := hide (show wr.ownsRow w2.heap.size 3 1 u5 (St.kept ks k f (i + 1)).length (natV (St.kept ks k f (i + 1))) by rw [kept_no ks k f i (by rw [hke]; simp)]; exact hown)
                clear hke hown
                go_wp2_with fail
                go_quiet (fail)
                clear c1 c2 c3 c4 c5
                go_wp2_with fail
                go_roundg (k - (i + 1))
                case rel => exact ⟨i + 1, rfl, by go_num, by omega, ownsRow_drewN (unhide hown2) _, below_drewN hbel2 _⟩
                case measure => have := hgh.out; omega
          · have hie : i = k := by omega
            subst hie
            have fin := hide (show wr.ownsRow w.heap.size 3 1 u5 (St.stand ks i).length (natV (St.stand ks i)) by rw [← unhide hkept]; exact ownsRow_mono hown hs2)
            have B3 : Below w.heap.size w wr := B2.trans (hbel2.mono hs2)
            clear hown
            go_wp2_with fail
            go_ret
            exact ⟨_, rfl, unhide fin, B3⟩
end Go.Proofs.Ytlmibdddfjbbdaa
