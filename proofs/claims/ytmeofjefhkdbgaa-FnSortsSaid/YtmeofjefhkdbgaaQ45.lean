/-
  The comparison of the sort of lists.
  The library's insertion sort of a row of places.
-/
import Derived.Test.YtmeofjefhkdbgaaQ26
namespace Go.Proofs.Ytmeofjefhkdbgaa
open Go.RowKit
set_option linter.unusedVariables false

/-- What the comparison reads: the lists, each in its block, none of them b. -/
def PartsAt (w : World) (b : Nat) (β ν γ : Nat → Nat) (ps : List (List M.Cl)) : Prop :=
  ∀ i, i < ps.length → M.valueFault (ps.getD i []) = 0 ∧ (∀ c ∈ ps.getD i [], c.ok) ∧ ν i = (ps.getD i []).length ∧ ν i ≤ γ i ∧ β i < w.heap.size ∧ β i ≠ b ∧ Row w (β i) 0 (ps.getD i [])
theorem PartsAt.but {w w' : World} {b : Nat} {β ν γ : Nat → Nat} {ps : List (List M.Cl)} (h : PartsAt w b β ν γ ps) (hb : But w.heap.size b w w') : PartsAt w' b β ν γ ps := by
  intro i hi
  obtain ⟨h1, h2, h3, h4, h5, h6, h7⟩ := h i hi
  refine ⟨h1, h2, h3, h4, Nat.lt_of_lt_of_le h5 hb.size, h6, fun j hj => ?_⟩
  obtain ⟨c0, c1, c2, c3, c4⟩ := h7 j hj
  have e : ∀ o, w'.cell? ⟨β i, o, none⟩ = w.cell? ⟨β i, o, none⟩ := fun o => World.cell?_of_block (w := w) (hb.block _ h5 h6)
  exact ⟨(e _).trans c0, (e _).trans c1, (e _).trans c2, (e _).trans c3, (e _).trans c4⟩

set_option maxHeartbeats 1000000 in
theorem orderOf_srt (v : List M.Cl) (b off cap : Nat) (u : List M.Cl) (b' off' cap' : Nat) (w : World) (hv : M.valueFault v = 0) (hu : M.valueFault u = 0) (hrow : Row w b off v) (hb : b < w.heap.size) (hcap : v.length ≤ cap) (hrow' : Row w b' off' u) (hb' : b' < w.heap.size) (hcap' : u.length ≤ cap') :
    Calls Try.prog 23 #[.slice (some ⟨b, off, none⟩) v.length cap, .slice (some ⟨b', off', none⟩) u.length cap'] w fun e w' => e = .returned (.int .i64 (cmpL v.length v u)) ∧ Below w.heap.size w w' := by
  have h1 := (M.fault_zero hv).1
  have h2 := (M.fault_zero hu).1
  have HC := hide (compareAt_any v u b off cap b' off' cap' v.length hv hu hcap hcap' 0 0 w (by omega) (by omega) (by have h3 := part_len hv (show 0 < v.length by omega); have h4 := (end_gt hv (show 0 < v.length by omega)).2; omega) hrow hb hrow' hb')
  rw [cmpL_whole hv hu] at HC
  clear hv hu hrow hrow'
  generalize cmpL v.length v u = c at *
  go_enter Try.func23, Try.ntmps23
  go_wp2_with fail
  refine (unhide HC).mono ?_
  rintro e1 w1 ⟨rfl, hb1⟩
  go_wp2_with fail
  go_ret
  exact ⟨rfl, hb1⟩

set_option maxHeartbeats 1000000 in
theorem cmpS_any (x y b : Nat) (β ν γ : Nat → Nat) (ps : List (List M.Cl)) (w : World) (h : PartsAt w b β ν γ ps) (hx : x < ps.length) (hy : y < ps.length) (hn : ps.length ≤ 1048576) :
    Calls Try.prog 22 #[.slice (some ⟨β x, 0, none⟩) (ν x) (γ x), .slice (some ⟨β y, 0, none⟩) (ν y) (γ y)] w fun e w' => e = .returned (.int .i64 (St.cmpV ps x y)) ∧ Below w.heap.size w w' := by
  obtain ⟨x1, _, x3, x4, x5, _, x7⟩ := h x hx
  obtain ⟨y1, _, y3, y4, y5, _, y7⟩ := h y hy
  have HO := hide (orderOf_srt _ (β x) 0 (γ x) _ (β y) 0 (γ y) w x1 y1 x7 x5 (by omega) y7 y5 (by omega))
  have e : cmpL (ps.getD x []).length (ps.getD x []) (ps.getD y []) = St.cmpV ps x y := by unfold St.cmpV; rw [St.vOf_eq x1, St.vOf_eq y1]
  rw [e, ← x3, ← y3] at HO
  clear e x1 x3 x4 x5 x7 y1 y3 y4 y5 y7 h
  generalize St.cmpV ps x y = c at *
  go_enter Try.func22, Try.ntmps22
  go_wp2_with fail
  refine (unhide HO).mono ?_
  rintro e1 w1 ⟨rfl, hb1⟩
  go_wp2_with fail
  go_ret
  exact ⟨rfl, hb1⟩
end Go.Proofs.Ytmeofjefhkdbgaa

namespace Go.Proofs.Ytmeofjefhkdbgaa
open Go.RowKit
set_option linter.unusedVariables false

theorem OwnS.all {β ν γ : Nat → Nat} {w : World} {b n : Nat} {f g : Nat → Nat} (h : OwnS β ν γ w b n f) (e : f = g) : OwnS β ν γ w b n g := e ▸ h

set_option maxHeartbeats 4000000 in
theorem insertionS_any (b n cap : Nat) (β ν γ : Nat → Nat) (ps : List (List M.Cl)) (f : Nat → Nat) (a e : Nat) (w : World) (h : OwnS β ν γ w b n f) (hK : PartsAt w b β ν γ ps) (hks : ps.length = n) (hin : ∀ k, k < n → f k < n) (hf : ∀ k, a ≤ k → k < e → f k = k) (hae : a ≤ e) (hen : e ≤ n) (hn : n ≤ 1048576) (hcap : n ≤ cap) :
    Calls Try.prog 70 #[.slice (some ⟨b, 0, none⟩) n cap, .int .i64 a, .int .i64 e, .func (.func 22) #[] #[]] w fun r w' => r = .returned (.tuple #[]) ∧ ∃ f', OwnS β ν γ w' b n f' ∧ St.Per a e f f' ∧ St.Srt (St.pltV ps) a e f' ∧ But w.heap.size b w w' := by
  have HK := hide hK
  have HIN := hide hin
  have HF := hide hf
  clear hK hin hf
  go_enter Try.func70, Try.ntmps70
  go_wp2_with fail
  go_loopg [8] (e - a) (fun gh s8 wr => ∃ (i : Nat) (cur : Nat → Nat), Hid (gh = e + 1 - i) ∧ s8 = .int .i64 i ∧ a < i ∧ i ≤ e + 1 ∧ OwnS β ν γ wr b n cur ∧ Hid (St.Per a e f cur) ∧ Hid (St.Srt (St.pltV ps) a i cur) ∧ Hid (∀ k, i ≤ k → k < e → cur k = k) ∧ Hid (∀ k, a ≤ k → k < i → k < e → cur k < i) ∧ But w.heap.size b w wr)
  case atStart =>
    refine ⟨a + 1, f, ?_, by go_num, by omega, by omega, h, St.Per.refl _ _ _, St.Srt.one f (by omega), fun k h1 h2 => (unhide HF) k (by omega) h2, fun k h1 h2 h3 => ?_, But.refl _ _ _⟩
    · show _ = _; omega
    · rw [(unhide HF) k h1 h3]; omega
  case round =>
    obtain ⟨i, cur, hg, rfl, hai, hie, ho, hper, hsrt, hrest, hlow, hbut⟩ := hrel
    by_cases hlt : i < e
    · have hltz : (i : Int) < (e : Int) := by omega
      have hci := hrest.out i (Nat.le_refl _) hlt
      have hlo : St.Lo a i (i + 1) cur := fun p q p1 p2 q1 q2 => by
        rw [show q = i by omega, hci]
        exact hlow.out p p1 p2 (by omega)
      have HLO := hide hlo
      have hcin := hide (show ∀ k, k < n → cur k < n from fun k hk => by
        by_cases c : a ≤ k ∧ k < e
        · obtain ⟨j, j1, j2, ej⟩ := hper.out.2.1 k c.1 c.2
          rw [ej]; exact (unhide HIN) j (by omega)
        · rw [hper.out.1 k c]; exact (unhide HIN) k hk)
      have HCI := hide hci
      clear hlo hci
      go_wp2_with fail
      go_loopg [9] i (fun gh s9 wr2 => ∃ j : Nat, Hid (gh = j) ∧ s9 = .int .i64 j ∧ a ≤ j ∧ j ≤ i ∧ OwnS β ν γ wr2 b n (St.dn cur j i) ∧ Hid (∀ h, j ≤ h → h < i → St.ptestV ps (cur i) (cur h) = true) ∧ But w.heap.size b w wr2)
      case atStart => exact ⟨i, rfl, rfl, by omega, by omega, ho.all (St.dn_zero cur i).symm, fun h h1 h2 => by omega, hbut⟩
      case round =>
        obtain ⟨j, hg2, rfl, haj, hji, ho2, htest, hbut2⟩ := hrel
        have hnext := hide (show (j = a ∨ St.ptestV ps (cur i) (cur (j - 1)) = false) → St.Per a e f (St.dn cur j i) ∧ St.Srt (St.pltV ps) a (i + 1) (St.dn cur j i) ∧ (∀ k, i + 1 ≤ k → k < e → St.dn cur j i k = k) ∧ (∀ k, a ≤ k → k < i + 1 → k < e → St.dn cur j i k < i + 1) from fun hstop => by
          have hp : St.Per a e cur (St.dn cur j i) := (St.Per.dn cur hji).mono haj (by omega)
          refine ⟨hper.out.trans hp, St.ins_step (St.pordV ps) hsrt.out (unhide HLO) haj hji htest.out hstop, fun k k1 k2 => ?_, fun k k1 k2 k3 => ?_⟩
          · rw [((St.Per.dn cur hji)).1 k (by omega)]; exact hrest.out k (by omega) k2
          · have hp2 : St.Per a (i + 1) cur (St.dn cur j i) := (St.Per.dn cur hji).mono haj (by omega)
            obtain ⟨q, q1, q2, eq⟩ := hp2.2.1 k k1 k2
            rw [eq]
            by_cases c : q = i
            · rw [c, unhide HCI]; omega
            · have := hlow.out q q1 (by omega) (by omega); omega)
        by_cases hja : a < j
        · obtain ⟨jp, rfl⟩ : ∃ q, j = q + 1 := ⟨j - 1, by omega⟩
          have hjd : decide ((jp : Int) + 1 > (a : Int)) = true := decide_eq_true (by omega)
          have hjz : (a : Int) < (jp : Int) + 1 := by omega
          have hj1 : (jp : Int) + 1 < (n : Int) := by omega
          have hj2 : (jp : Int) < (n : Int) := by omega
          have hp0 : (0 : Int) ≤ (jp : Int) + 1 := by omega
          have hp1 : (0 : Int) ≤ (jp : Int) := by omega
          have hw1 : IntKind.i64.wrap (jp : Int) = (jp : Int) := IntWalk.i64_in _ ⟨by omega, by omega⟩
          have hw2 : IntKind.i64.wrap ((jp : Int) + 1 - 1) = (jp : Int) := by rw [show ((jp : Int) + 1 - 1) = (jp : Int) by omega]; exact hw1
          have l1 := show wr.cell? ⟨b, jp + 1, none⟩ = some (.slice (some ⟨β (cur i), 0, none⟩) (ν (cur i)) (γ (cur i))) from (ho2.cell (by omega)).trans (by rw [St.dn_at])
          have l2 := show wr.cell? ⟨b, jp, none⟩ = some (.slice (some ⟨β (cur jp), 0, none⟩) (ν (cur jp)) (γ (cur jp))) from (ho2.cell (by omega)).trans (by rw [St.dn_ahead cur _ _ _ (by omega)])
          have hc := hide (cmpS_any (cur i) (cur jp) b β ν γ ps wr.drew ((unhide HK).but hbut2.drew) (by rw [hks]; exact (unhide hcin) i (by omega)) (by rw [hks]; exact (unhide hcin) jp (by omega)) (by omega))
          have hneg := St.cmpV_neg ps (cur i) (cur jp)
          generalize St.cmpV ps (cur i) (cur jp) = c at *
          cases hv : St.ptestV ps (cur i) (cur jp) with
          | false =>
            rw [hv] at hneg
            have N := (unhide hnext) (.inr hv)
            have HN := hide N
            have HC := unhide hc
            clear hv N hnext hc
            go_wp2_with fail
            go_region_held3 (fun w' => w'.cell? ⟨b, jp + 1, none⟩ = some (.slice (some ⟨β (cur i), 0, none⟩) (ν (cur i)) (γ (cur i))) ∧ w'.cell? ⟨b, jp, none⟩ = some (.slice (some ⟨β (cur jp), 0, none⟩) (ν (cur jp)) (γ (cur jp)))) (first | (simp [go_sem, l1, l2]; done) | exact ⟨(hb7.cell (by exact ho2.lt)).trans l1, (hb7.cell (by exact ho2.lt)).trans l2⟩)
              (first | (go_at_call 22; refine HC.mono ?_; rintro ec w7 ⟨rfl, hb7⟩))
            have ho7 := ho2.drew.below hb7 ho2.drew.lt
            have hbut7 := hbut2.drew.then hb7
            go_wp2_with fail
            go_roundg (e + 1 - (i + 1))
            case rel => exact ⟨i + 1, _, rfl, by go_num, by omega, by omega, ho7, (unhide HN).1, (unhide HN).2.1, (unhide HN).2.2.1, (unhide HN).2.2.2, hbut7⟩
            case measure => have := hg.out; omega
          | true =>
            rw [hv] at hneg
            have HC := unhide hc
            clear hnext hc
            go_wp2_with fail
            go_region_held3 (fun w' => w'.cell? ⟨b, jp + 1, none⟩ = some (.slice (some ⟨β (cur i), 0, none⟩) (ν (cur i)) (γ (cur i))) ∧ w'.cell? ⟨b, jp, none⟩ = some (.slice (some ⟨β (cur jp), 0, none⟩) (ν (cur jp)) (γ (cur jp)))) (first | (simp [go_sem, l1, l2]; done) | exact ⟨(hb7.cell (by exact ho2.lt)).trans l1, (hb7.cell (by exact ho2.lt)).trans l2⟩)
              (first | (go_at_call 22; refine HC.mono ?_; rintro ec w7 ⟨rfl, hb7⟩))
            have ho7 := ho2.drew.below hb7 ho2.drew.lt
            have hbut7 := hbut2.drew.then hb7
            have ho3 : OwnS β ν γ w7 b n (St.dn cur (jp + 1) i) := ho7
            have hbut3 : But w.heap.size b w w7 := hbut7
            have htest2 := hide (show ∀ h, jp ≤ h → h < i → St.ptestV ps (cur i) (cur h) = true from fun h h1 h2 => by
              by_cases c : h = jp
              · rw [c]; exact hv
              · exact htest.out h (by omega) h2)
            clear l1 l2 HC ho2 hbut2 htest hv hneg ho7 hbut7 hb7
            generalize w7 = w2 at *
            have l1 := ho3.cell (show jp + 1 < n by omega)
            have l2 := ho3.cell (show jp < n by omega)
            have l3 := ho3.second (i := jp + 1) (j := jp) (by omega) (by omega)
            have z1 := ho3.frozen (jp + 1)
            have z2 := ho3.frozen jp
            have hs := hide (ho3.swap (show jp + 1 < n by omega) (show jp < n by omega))
            rw [St.dn_succ cur jp i (by omega)] at hs
            have ex : St.dn cur (jp + 1) i (jp + 1) = cur i := by rw [St.dn_at]
            have ey : St.dn cur (jp + 1) i jp = cur jp := by rw [St.dn_ahead cur _ _ _ (by omega)]
            rw [ex] at l1 hs
            rw [ey] at l2 hs
            simp only [ey] at l3
            clear ex ey
            clear ho3
            go_wp2_with fail
            go_big_region
            clear l1 l2 l3 z1 z2
            go_wp2_with fail
            go_roundg jp
            case rel => exact ⟨jp, rfl, by go_num, by omega, by omega, (unhide hs).drew, unhide htest2, ((hbut3.trans (But.set _ b (jp + 1) _ _)).trans (But.set _ b jp _ _)).drew⟩
            case measure => have := hg2.out; omega
        · have hja' : j = a := by omega
          have hjd : decide ((j : Int) > (a : Int)) = false := decide_eq_false (by omega)
          have N := (unhide hnext) (.inl hja')
          have HN := hide N
          clear hja' N hnext
          go_wp2_with fail
          go_quiet (fail)
          go_wp2_with fail
          go_roundg (e + 1 - (i + 1))
          case rel => exact ⟨i + 1, _, rfl, by go_num, by omega, by omega, ho2.drewN _, (unhide HN).1, (unhide HN).2.1, (unhide HN).2.2.1, (unhide HN).2.2.2, hbut2.drewN _⟩
          case measure => have := hg.out; omega
    · have hltz : ¬ (i : Int) < (e : Int) := by omega
      have fin := hide (hsrt.out.part (a' := a) (b' := e) (Nat.le_refl _) (by omega))
      go_wp2_with fail
      go_end0
      exact ⟨rfl, cur, ho, hper.out, unhide fin, hbut⟩
end Go.Proofs.Ytmeofjefhkdbgaa
