/-
  The library's stable sort over a row of places: its parts, by their contracts.
  The comparison of the sort of lists.
  The library's insertion sort of a row of places.
  The library's merge of two sorted runs of places: one place on the left, and one on the right.
  The library's merge of two sorted runs of places: one place on the right.
-/
import Derived.Test.YtcolohilnmikiaaGreatMarkC
import Derived.Test.YtcolohilnmikiaaGreatSrtM
import Derived.Test.YtcolohilnmikiaaGreatStZb
import Derived.Deep.RegionHeld3
import Derived.Deep.LoopGhost
import Derived.Deep.QuietTactic
import Derived.BigQuiet
import Derived.RegionTactic
import Derived.BigRegion
namespace Go.Proofs.YtcolohilnmikiaaGreat
open Go.RowKit
set_option linter.unusedVariables false

/-- A row of the call's own that begins with the numbers f 0, f 1, .. f (n - 1). -/
def OwnS (β ν γ : Nat → Nat) (w : World) (b n : Nat) (f : Nat → Nat) : Prop := ∃ xs, Own w b 24 xs ∧ n ≤ xs.length ∧ ∀ i, i < n → xs[i]? = some (.slice (some ⟨β (f i), 0, none⟩) (ν (f i)) (γ (f i)))
theorem OwnS.lt {β ν γ : Nat → Nat} {w : World} {b n : Nat} {f : Nat → Nat} (h : OwnS β ν γ w b n f) : b < w.heap.size := by obtain ⟨xs, ho, _⟩ := h; exact ho.lt
theorem OwnS.below {B : Nat} {β ν γ : Nat → Nat} {w w' : World} {b n : Nat} {f : Nat → Nat} (h : OwnS β ν γ w b n f) (hb : Below B w w') (hB : b < B) : OwnS β ν γ w' b n f := by
  obtain ⟨xs, ho, hw⟩ := h; exact ⟨xs, ho.below hb hB, hw⟩
theorem OwnS.cell {β ν γ : Nat → Nat} {w : World} {b n : Nat} {f : Nat → Nat} (h : OwnS β ν γ w b n f) {i : Nat} (hi : i < n) : w.cell? ⟨b, i, none⟩ = some (.slice (some ⟨β (f i), 0, none⟩) (ν (f i)) (γ (f i))) := by
  obtain ⟨xs, ho, _, hw⟩ := h; exact (ho.cell i).trans (hw i hi)
theorem OwnS.frozen {β ν γ : Nat → Nat} {w : World} {b n : Nat} {f : Nat → Nat} (h : OwnS β ν γ w b n f) (i : Nat) : w.frozen? ⟨b, i, none⟩ = false := by
  obtain ⟨xs, ho, _⟩ := h; exact ho.frozen i
theorem OwnS.swap {β ν γ : Nat → Nat} {w : World} {b n : Nat} {f : Nat → Nat} (h : OwnS β ν γ w b n f) {i j : Nat} (hi : i < n) (hj : j < n) : OwnS β ν γ ((w.setCell ⟨b, i, none⟩ (.slice (some ⟨β (f j), 0, none⟩) (ν (f j)) (γ (f j)))).setCell ⟨b, j, none⟩ (.slice (some ⟨β (f i), 0, none⟩) (ν (f i)) (γ (f i)))) b n (St.sw f i j) := by
  obtain ⟨xs, ho, hl, hw⟩ := h
  refine ⟨_, (ho.set i _).set j _, by simpa using hl, fun k hk => ?_⟩
  simp only [List.getElem?_set, List.length_set]
  unfold St.sw
  by_cases e1 : j = k
  · rw [if_pos e1, if_pos (by omega)]
    subst e1
    by_cases e2 : j = i
    · rw [if_pos e2, e2]
    · rw [if_neg e2, if_pos rfl]
  · rw [if_neg e1]
    by_cases e2 : i = k
    · rw [if_pos e2, if_pos (by omega), if_pos e2.symm]
    · rw [if_neg e2, if_neg (fun h => e2 h.symm), if_neg (fun h => e1 h.symm)]; exact hw k hk

theorem OwnS.drew {β ν γ : Nat → Nat} {w : World} {b n : Nat} {f : Nat → Nat} (h : OwnS β ν γ w b n f) : OwnS β ν γ w.drew b n f := h
theorem OwnS.drewN {β ν γ : Nat → Nat} {w : World} {b n : Nat} {f : Nat → Nat} (h : OwnS β ν γ w b n f) (k : Nat) : OwnS β ν γ (w.drewN k) b n f := h
theorem OwnS.second {β ν γ : Nat → Nat} {w : World} {b n : Nat} {f : Nat → Nat} (h : OwnS β ν γ w b n f) {i j : Nat} (hj : j < n) (e : i ≠ j) (u : Value) : (w.setCell ⟨b, i, none⟩ u).cell? ⟨b, j, none⟩ = some (.slice (some ⟨β (f j), 0, none⟩) (ν (f j)) (γ (f j))) := by
  rw [World.cell?_setCell_other _ _ _ _ (by intro e'; simp only [Addr.mk.injEq] at e'; omega)]; exact h.cell hj

theorem But.then {b : Nat} {w w' w'' : World} (h : But w.heap.size b w w') (hb : Below w'.heap.size w' w'') : But w.heap.size b w w'' := h.trans ((But.ofBelow hb).mono h.size)

set_option maxHeartbeats 1000000 in
theorem swapRangeS_any (b n cap : Nat) (β ν γ : Nat → Nat) (f : Nat → Nat) (a c k : Nat) (cmp : Value) (w : World) (h : OwnS β ν γ w b n f) (hac : a + k ≤ c) (hck : c + k ≤ n) (hn : n ≤ 1048576) (hcap : n ≤ cap) :
    Calls Tryz.prog 99 #[.slice (some ⟨b, 0, none⟩) n cap, .int .i64 a, .int .i64 c, .int .i64 k, cmp] w fun e w' => e = .returned (.tuple #[]) ∧ OwnS β ν γ w' b n (St.swR f a c k) ∧ But w.heap.size b w w' := by
  go_enter Tryz.func99, Tryz.ntmps99
  go_wp2_with fail
  go_loopg [10] k (fun gh s7 wr => ∃ i : Nat, Hid (gh = k - i) ∧ s7 = .int .i64 i ∧ i ≤ k ∧ OwnS β ν γ wr b n (St.swR f a c i) ∧ But w.heap.size b w wr)
  case atStart => exact ⟨0, rfl, rfl, by omega, by rw [St.swR_zero]; exact h, But.refl _ _ _⟩
  case round =>
    obtain ⟨i, hg, rfl, hk, ho, hbut⟩ := hrel
    by_cases hlt : i < k
    · have l1 := ho.cell (show a + i < n by omega)
      have l2 := ho.cell (show c + i < n by omega)
      have z1 := ho.frozen (a + i)
      have z2 := ho.frozen (c + i)
      have l3 := ho.second (i := a + i) (show c + i < n by omega) (by omega)
      have hs := hide (ho.swap (show a + i < n by omega) (show c + i < n by omega))
      rw [St.swR_succ f a c i (by omega)] at hs
      generalize St.swR f a c i (a + i) = x at *
      generalize St.swR f a c i (c + i) = y at *
      go_wp2_with fail
      go_big_region
      clear l1 l2 l3 z1 z2
      go_wp2_with fail
      go_roundg (k - (i + 1))
      case rel => exact ⟨i + 1, rfl, by go_num, by omega, (unhide hs).drew, ((hbut.trans (But.set _ b (a + i) _ _)).trans (But.set _ b (c + i) _ _)).drew⟩
      case measure => have := hg.out; omega
    · have hke : i = k := by omega
      subst hke
      go_wp2_with fail
      go_end0
      exact ⟨rfl, ho, hbut⟩

theorem swapRangeS_int (b n cap : Nat) (β ν γ : Nat → Nat) (f : Nat → Nat) (a c k : Nat) (cmp : Value) (w : World) (h : OwnS β ν γ w b n f) (hac : a + k ≤ c) (hck : c + k ≤ n) (hn : n ≤ 1048576) (hcap : n ≤ cap) (ai ci ki : Int) (ha : ai = a) (hc : ci = c) (hk : ki = k) :
    Calls Tryz.prog 99 #[.slice (some ⟨b, 0, none⟩) n cap, .int .i64 ai, .int .i64 ci, .int .i64 ki, cmp] w fun e w' => e = .returned (.tuple #[]) ∧ OwnS β ν γ w' b n (St.swR f a c k) ∧ But w.heap.size b w w' := by
  subst ha hc hk
  exact swapRangeS_any b n cap β ν γ f a c k cmp w h hac hck hn hcap

set_option maxHeartbeats 1000000 in
theorem rotateS_any (b n cap : Nat) (β ν γ : Nat → Nat) (f : Nat → Nat) (a m e : Nat) (cmp : Value) (w : World) (h : OwnS β ν γ w b n f) (h1 : a < m) (h2 : m < e) (h3 : e ≤ n) (hn : n ≤ 1048576) (hcap : n ≤ cap) :
    Calls Tryz.prog 93 #[.slice (some ⟨b, 0, none⟩) n cap, .int .i64 a, .int .i64 m, .int .i64 e, cmp] w fun r w' => r = .returned (.tuple #[]) ∧ OwnS β ν γ w' b n (St.rot f a m e) ∧ But w.heap.size b w w' := by
  go_enter Tryz.func93, Tryz.ntmps93
  go_wp2_with fail
  go_loopg [10, 11] (e - a) (fun gh s5 s6 wr => ∃ (i j : Nat) (cur : Nat → Nat), Hid (gh = i + j) ∧ s5 = .int .i64 i ∧ s6 = .int .i64 j ∧ 0 < i ∧ 0 < j ∧ i ≤ m ∧ m + j ≤ n ∧ OwnS β ν γ wr b n cur ∧ Hid (St.rot cur (m - i) m (m + j) = St.rot f a m e) ∧ But w.heap.size b w wr)
  case atStart => exact ⟨m - a, e - m, f, by show _ = _; omega, by congr 1; omega, by congr 1; omega, by omega, by omega, by omega, by omega, h, by show _ = _; rw [show m - (m - a) = a by omega, show m + (e - m) = e by omega], But.refl _ _ _⟩
  case round =>
    obtain ⟨i, j, cur, hg, rfl, rfl, hi0, hj0, him, hjn, ho, hrot, hbut⟩ := hrel
    by_cases hij : i = j
    · subst hij
      have hfin := hide ((St.rot_same cur m i him).trans hrot.out)
      go_wp2_with fail
      refine (swapRangeS_int b n cap β ν γ cur (m - i) m i cmp _ ho (by omega) (by omega) hn hcap _ _ _ (by omega) rfl rfl).mono ?_
      rintro r w1 ⟨rfl, ho1, hb1⟩
      rw [unhide hfin] at ho1
      have hb2 := hbut.trans (hb1.mono hbut.size)
      go_wp2_with fail
      go_end0
      exact ⟨rfl, ho1, hb2⟩
    · have hne : ((i : Int) == (j : Int)) = false := by simp; omega
      by_cases hlt : j < i
      · have hnext := hide ((St.rot_big cur m i j him hlt hj0).trans hrot.out)
        have hltz : (j : Int) < (i : Int) := by omega
        go_wp2_with fail
        refine (swapRangeS_int b n cap β ν γ cur (m - i) m j cmp _ ho (by omega) (by omega) hn hcap _ _ _ (by omega) rfl rfl).mono ?_
        rintro r w1 ⟨rfl, ho1, hb1⟩
        have hb2 := hbut.trans (hb1.mono hbut.size)
        go_wp2_with fail
        go_roundg (i - j + j)
        case rel => exact ⟨i - j, j, _, rfl, by congr 1; omega, rfl, by omega, hj0, by omega, hjn, ho1, unhide hnext, hb2⟩
        case measure => have := hg.out; omega
      · have hnext := hide ((St.rot_small cur m i j him (by omega) hi0).trans hrot.out)
        have hltz : ¬ (j : Int) < (i : Int) := by omega
        go_wp2_with fail
        refine (swapRangeS_int b n cap β ν γ cur (m - i) (m + j - i) i cmp _ ho (by omega) (by omega) hn hcap _ _ _ (by omega) (by omega) rfl).mono ?_
        rintro r w1 ⟨rfl, ho1, hb1⟩
        have hb2 := hbut.trans (hb1.mono hbut.size)
        go_wp2_with fail
        go_roundg (i + (j - i))
        case rel => exact ⟨i, j - i, _, rfl, rfl, by congr 1; omega, hi0, by omega, him, by omega, ho1, unhide hnext, hb2⟩
        case measure => have := hg.out; omega
end Go.Proofs.YtcolohilnmikiaaGreat

namespace Go.Proofs.YtcolohilnmikiaaGreat
open Go.RowKit
set_option linter.unusedVariables false

/-- What the comparison reads: the lists, each in its block, none of them b. -/
def PartsAt (w : World) (b : Nat) (β ν γ : Nat → Nat) (ps : List (List M.Cl)) : Prop :=
  ∀ i, i < ps.length → M.valueFault (ps.getD i []) = 0 ∧ (∀ c ∈ ps.getD i [], c.ok) ∧ ν i = (ps.getD i []).length ∧ ν i ≤ γ i ∧ β i < w.heap.size ∧ β i ≠ b ∧ Row w (β i) 0 (ps.getD i [])
theorem PartsAt.but {w w' : World} {b : Nat} {β ν γ : Nat → Nat} {ps : List (List M.Cl)} (h : PartsAt w b β ν γ ps) (hb : But w.heap.size b w w') : PartsAt w' b β ν γ ps := by
  intro i hi
  obtain ⟨h1, h2, h3, h4, h5, h6, h7⟩ := h i hi
  refine ⟨h1, h2, h3, h4, Nat.lt_of_lt_of_le h5 hb.size, h6, fun j hj => ?_⟩
  obtain ⟨c0, c1, c2, c3, c4⟩ := h7 j hj
  have e : ∀ o, w'.cell? ⟨β i, o, none⟩ = w.cell? ⟨β i, o, none⟩ := fun o => World.cell?_of_block (w := w) (hb.block _ h5 h6)
  exact ⟨(e _).trans c0, (e _).trans c1, (e _).trans c2, (e _).trans c3, (e _).trans c4⟩

set_option maxHeartbeats 1000000 in
theorem orderOf_srt (v : List M.Cl) (b off cap : Nat) (u : List M.Cl) (b' off' cap' : Nat) (w : World) (hv : M.valueFault v = 0) (hu : M.valueFault u = 0) (hrow : Row w b off v) (hb : b < w.heap.size) (hcap : v.length ≤ cap) (hrow' : Row w b' off' u) (hb' : b' < w.heap.size) (hcap' : u.length ≤ cap') :
    Calls Tryz.prog 50 #[.slice (some ⟨b, off, none⟩) v.length cap, .slice (some ⟨b', off', none⟩) u.length cap'] w fun e w' => e = .returned (.int .i64 (cmpL v.length v u)) ∧ Below w.heap.size w w' := by
  have h1 := (M.fault_zero hv).1
  have h2 := (M.fault_zero hu).1
  have HC := hide (compareAt_any v u b off cap b' off' cap' v.length hv hu hcap hcap' 0 0 w (by omega) (by omega) (by have h3 := part_len hv (show 0 < v.length by omega); have h4 := (end_gt hv (show 0 < v.length by omega)).2; omega) hrow hb hrow' hb')
  rw [cmpL_whole hv hu] at HC
  clear hv hu hrow hrow'
  generalize cmpL v.length v u = c at *
  go_enter Tryz.func50, Tryz.ntmps50
  go_wp2_with fail
  refine (unhide HC).mono ?_
  rintro e1 w1 ⟨rfl, hb1⟩
  go_wp2_with fail
  go_ret
  exact ⟨rfl, hb1⟩

set_option maxHeartbeats 1000000 in
theorem cmpS_any (x y b : Nat) (β ν γ : Nat → Nat) (ps : List (List M.Cl)) (w : World) (h : PartsAt w b β ν γ ps) (hx : x < ps.length) (hy : y < ps.length) (hn : ps.length ≤ 1048576) :
    Calls Tryz.prog 49 #[.slice (some ⟨β x, 0, none⟩) (ν x) (γ x), .slice (some ⟨β y, 0, none⟩) (ν y) (γ y)] w fun e w' => e = .returned (.int .i64 (St.cmpV ps x y)) ∧ Below w.heap.size w w' := by
  obtain ⟨x1, _, x3, x4, x5, _, x7⟩ := h x hx
  obtain ⟨y1, _, y3, y4, y5, _, y7⟩ := h y hy
  have HO := hide (orderOf_srt _ (β x) 0 (γ x) _ (β y) 0 (γ y) w x1 y1 x7 x5 (by omega) y7 y5 (by omega))
  have e : cmpL (ps.getD x []).length (ps.getD x []) (ps.getD y []) = St.cmpV ps x y := by unfold St.cmpV; rw [St.vOf_eq x1, St.vOf_eq y1]
  rw [e, ← x3, ← y3] at HO
  clear e x1 x3 x4 x5 x7 y1 y3 y4 y5 y7 h
  generalize St.cmpV ps x y = c at *
  go_enter Tryz.func49, Tryz.ntmps49
  go_wp2_with fail
  refine (unhide HO).mono ?_
  rintro e1 w1 ⟨rfl, hb1⟩
  go_wp2_with fail
  go_ret
  exact ⟨rfl, hb1⟩
end Go.Proofs.YtcolohilnmikiaaGreat

namespace Go.Proofs.YtcolohilnmikiaaGreat
open Go.RowKit
set_option linter.unusedVariables false

theorem OwnS.all {β ν γ : Nat → Nat} {w : World} {b n : Nat} {f g : Nat → Nat} (h : OwnS β ν γ w b n f) (e : f = g) : OwnS β ν γ w b n g := e ▸ h

set_option maxHeartbeats 4000000 in
theorem insertionS_any (b n cap : Nat) (β ν γ : Nat → Nat) (ps : List (List M.Cl)) (f : Nat → Nat) (a e : Nat) (w : World) (h : OwnS β ν γ w b n f) (hK : PartsAt w b β ν γ ps) (hks : ps.length = n) (hin : ∀ k, k < n → f k < n) (hf : ∀ k, a ≤ k → k < e → f k = k) (hae : a ≤ e) (hen : e ≤ n) (hn : n ≤ 1048576) (hcap : n ≤ cap) :
    Calls Tryz.prog 84 #[.slice (some ⟨b, 0, none⟩) n cap, .int .i64 a, .int .i64 e, .func (.func 49) #[] #[]] w fun r w' => r = .returned (.tuple #[]) ∧ ∃ f', OwnS β ν γ w' b n f' ∧ St.Per a e f f' ∧ St.Srt (St.pltV ps) a e f' ∧ But w.heap.size b w w' := by
  have HK := hide hK
  have HIN := hide hin
  have HF := hide hf
  clear hK hin hf
  go_enter Tryz.func84, Tryz.ntmps84
  go_wp2_with fail
  go_loopg [8] (e - a) (fun gh s8 wr => ∃ (i : Nat) (cur : Nat → Nat), Hid (gh = e + 1 - i) ∧ s8 = .int .i64 i ∧ a < i ∧ i ≤ e + 1 ∧ OwnS β ν γ wr b n cur ∧ Hid (St.Per a e f cur) ∧ Hid (St.Srt (St.pltV ps) a i cur) ∧ Hid (∀ k, i ≤ k → k < e → cur k = k) ∧ Hid (∀ k, a ≤ k → k < i → k < e → cur k < i) ∧ But w.heap.size b w wr)
  case atStart =>
    refine ⟨a + 1, f, ?_, by go_num, by omega, by omega, h, St.Per.refl _ _ _, St.Srt.one f (by omega), fun k h1 h2 => (unhide HF) k (by omega) h2, fun k h1 h2 h3 => ?_, But.refl _ _ _⟩
    · show _ = _; omega
    · rw [(unhide HF) k h1 h3]; omega
  case round =>
    obtain ⟨i, cur, hg, rfl, hai, hie, ho, hper, hsrt, hrest, hlow, hbut⟩ := hrel
    by_cases hlt : i < e
    · have hltz : (i : Int) < (e : Int) := by omega
      have hci := hrest.out i (Nat.le_refl _) hlt
      have hlo : St.Lo a i (i + 1) cur := fun p q p1 p2 q1 q2 => by
        rw [show q = i by omega, hci]
        exact hlow.out p p1 p2 (by omega)
      have HLO := hide hlo
      have hcin := hide (show ∀ k, k < n → cur k < n from fun k hk => by
        by_cases c : a ≤ k ∧ k < e
        · obtain ⟨j, j1, j2, ej⟩ := hper.out.2.1 k c.1 c.2
          rw [ej]; exact (unhide HIN) j (by omega)
        · rw [hper.out.1 k c]; exact (unhide HIN) k hk)
      have HCI := hide hci
      clear hlo hci
      go_wp2_with fail
      go_loopg [9] i (fun gh s9 wr2 => ∃ j : Nat, Hid (gh = j) ∧ s9 = .int .i64 j ∧ a ≤ j ∧ j ≤ i ∧ OwnS β ν γ wr2 b n (St.dn cur j i) ∧ Hid (∀ h, j ≤ h → h < i → St.ptestV ps (cur i) (cur h) = true) ∧ But w.heap.size b w wr2)
      case atStart => exact ⟨i, rfl, rfl, by omega, by omega, ho.all (St.dn_zero cur i).symm, fun h h1 h2 => by omega, hbut⟩
      case round =>
        obtain ⟨j, hg2, rfl, haj, hji, ho2, htest, hbut2⟩ := hrel
        have hnext := hide (show (j = a ∨ St.ptestV ps (cur i) (cur (j - 1)) = false) → St.Per a e f (St.dn cur j i) ∧ St.Srt (St.pltV ps) a (i + 1) (St.dn cur j i) ∧ (∀ k, i + 1 ≤ k → k < e → St.dn cur j i k = k) ∧ (∀ k, a ≤ k → k < i + 1 → k < e → St.dn cur j i k < i + 1) from fun hstop => by
          have hp : St.Per a e cur (St.dn cur j i) := (St.Per.dn cur hji).mono haj (by omega)
          refine ⟨hper.out.trans hp, St.ins_step (St.pordV ps) hsrt.out (unhide HLO) haj hji htest.out hstop, fun k k1 k2 => ?_, fun k k1 k2 k3 => ?_⟩
          · rw [((St.Per.dn cur hji)).1 k (by omega)]; exact hrest.out k (by omega) k2
          · have hp2 : St.Per a (i + 1) cur (St.dn cur j i) := (St.Per.dn cur hji).mono haj (by omega)
            obtain ⟨q, q1, q2, eq⟩ := hp2.2.1 k k1 k2
            rw [eq]
            by_cases c : q = i
            · rw [c, unhide HCI]; omega
            · have := hlow.out q q1 (by omega) (by omega); omega)
        by_cases hja : a < j
        · obtain ⟨jp, rfl⟩ : ∃ q, j = q + 1 := ⟨j - 1, by omega⟩
          have hjd : decide ((jp : Int) + 1 > (a : Int)) = true := decide_eq_true (by omega)
          have hjz : (a : Int) < (jp : Int) + 1 := by omega
          have hj1 : (jp : Int) + 1 < (n : Int) := by omega
          have hj2 : (jp : Int) < (n : Int) := by omega
          have hp0 : (0 : Int) ≤ (jp : Int) + 1 := by omega
          have hp1 : (0 : Int) ≤ (jp : Int) := by omega
          have hw1 : IntKind.i64.wrap (jp : Int) = (jp : Int) := IntWalk.i64_in _ ⟨by omega, by omega⟩
          have hw2 : IntKind.i64.wrap ((jp : Int) + 1 - 1) = (jp : Int) := by rw [show ((jp : Int) + 1 - 1) = (jp : Int) by omega]; exact hw1
          have l1 := show wr.cell? ⟨b, jp + 1, none⟩ = some (.slice (some ⟨β (cur i), 0, none⟩) (ν (cur i)) (γ (cur i))) from (ho2.cell (by omega)).trans (by rw [St.dn_at])
          have l2 := show wr.cell? ⟨b, jp, none⟩ = some (.slice (some ⟨β (cur jp), 0, none⟩) (ν (cur jp)) (γ (cur jp))) from (ho2.cell (by omega)).trans (by rw [St.dn_ahead cur _ _ _ (by omega)])
          have hc := hide (cmpS_any (cur i) (cur jp) b β ν γ ps wr.drew ((unhide HK).but hbut2.drew) (by rw [hks]; exact (unhide hcin) i (by omega)) (by rw [hks]; exact (unhide hcin) jp (by omega)) (by omega))
          have hneg := St.cmpV_neg ps (cur i) (cur jp)
          generalize St.cmpV ps (cur i) (cur jp) = c at *
          cases hv : St.ptestV ps (cur i) (cur jp) with
          | false =>
            rw [hv] at hneg
            have N := (unhide hnext) (.inr hv)
            have HN := hide N
            have HC := unhide hc
            clear hv N hnext hc
            go_wp2_with fail
            go_region_held3 (fun w' => w'.cell? ⟨b, jp + 1, none⟩ = some (.slice (some ⟨β (cur i), 0, none⟩) (ν (cur i)) (γ (cur i))) ∧ w'.cell? ⟨b, jp, none⟩ = some (.slice (some ⟨β (cur jp), 0, none⟩) (ν (cur jp)) (γ (cur jp)))) (first | (simp [go_sem, l1, l2]; done) | exact ⟨(hb7.cell (by exact ho2.lt)).trans l1, (hb7.cell (by exact ho2.lt)).trans l2⟩)
              (first | (go_at_call 49; refine HC.mono ?_; rintro ec w7 ⟨rfl, hb7⟩))
            have ho7 := ho2.drew.below hb7 ho2.drew.lt
            have hbut7 := hbut2.drew.then hb7
            go_wp2_with fail
            go_roundg (e + 1 - (i + 1))
            case rel => exact ⟨i + 1, _, rfl, by go_num, by omega, by omega, ho7, (unhide HN).1, (unhide HN).2.1, (unhide HN).2.2.1, (unhide HN).2.2.2, hbut7⟩
            case measure => have := hg.out; omega
          | true =>
            rw [hv] at hneg
            have HC := unhide hc
            clear hnext hc
            go_wp2_with fail
            go_region_held3 (fun w' => w'.cell? ⟨b, jp + 1, none⟩ = some (.slice (some ⟨β (cur i), 0, none⟩) (ν (cur i)) (γ (cur i))) ∧ w'.cell? ⟨b, jp, none⟩ = some (.slice (some ⟨β (cur jp), 0, none⟩) (ν (cur jp)) (γ (cur jp)))) (first | (simp [go_sem, l1, l2]; done) | exact ⟨(hb7.cell (by exact ho2.lt)).trans l1, (hb7.cell (by exact ho2.lt)).trans l2⟩)
              (first | (go_at_call 49; refine HC.mono ?_; rintro ec w7 ⟨rfl, hb7⟩))
            have ho7 := ho2.drew.below hb7 ho2.drew.lt
            have hbut7 := hbut2.drew.then hb7
            have ho3 : OwnS β ν γ w7 b n (St.dn cur (jp + 1) i) := ho7
            have hbut3 : But w.heap.size b w w7 := hbut7
            have htest2 := hide (show ∀ h, jp ≤ h → h < i → St.ptestV ps (cur i) (cur h) = true from fun h h1 h2 => by
              by_cases c : h = jp
              · rw [c]; exact hv
              · exact htest.out h (by omega) h2)
            clear l1 l2 HC ho2 hbut2 htest hv hneg ho7 hbut7 hb7
            generalize w7 = w2 at *
            have l1 := ho3.cell (show jp + 1 < n by omega)
            have l2 := ho3.cell (show jp < n by omega)
            have l3 := ho3.second (i := jp + 1) (j := jp) (by omega) (by omega)
            have z1 := ho3.frozen (jp + 1)
            have z2 := ho3.frozen jp
            have hs := hide (ho3.swap (show jp + 1 < n by omega) (show jp < n by omega))
            rw [St.dn_succ cur jp i (by omega)] at hs
            have ex : St.dn cur (jp + 1) i (jp + 1) = cur i := by rw [St.dn_at]
            have ey : St.dn cur (jp + 1) i jp = cur jp := by rw [St.dn_ahead cur _ _ _ (by omega)]
            rw [ex] at l1 hs
            rw [ey] at l2 hs
            simp only [ey] at l3
            clear ex ey
            clear ho3
            go_wp2_with fail
            go_big_region
            clear l1 l2 l3 z1 z2
            go_wp2_with fail
            go_roundg jp
            case rel => exact ⟨jp, rfl, by go_num, by omega, by omega, (unhide hs).drew, unhide htest2, ((hbut3.trans (But.set _ b (jp + 1) _ _)).trans (But.set _ b jp _ _)).drew⟩
            case measure => have := hg2.out; omega
        · have hja' : j = a := by omega
          have hjd : decide ((j : Int) > (a : Int)) = false := decide_eq_false (by omega)
          have N := (unhide hnext) (.inl hja')
          have HN := hide N
          clear hja' N hnext
          go_wp2_with fail
          go_quiet (fail)
          go_wp2_with fail
          go_roundg (e + 1 - (i + 1))
          case rel => exact ⟨i + 1, _, rfl, by go_num, by omega, by omega, ho2.drewN _, (unhide HN).1, (unhide HN).2.1, (unhide HN).2.2.1, (unhide HN).2.2.2, hbut2.drewN _⟩
          case measure => have := hg.out; omega
    · have hltz : ¬ (i : Int) < (e : Int) := by omega
      have fin := hide (hsrt.out.part (a' := a) (b' := e) (Nat.le_refl _) (by omega))
      go_wp2_with fail
      go_end0
      exact ⟨rfl, cur, ho, hper.out, unhide fin, hbut⟩
end Go.Proofs.YtcolohilnmikiaaGreat

namespace Go.Proofs.YtcolohilnmikiaaGreat
open Go.RowKit
set_option linter.unusedVariables false

set_option maxRecDepth 100000 in
set_option maxHeartbeats 4000000 in
theorem mergeLeftS_any (b n cap : Nat) (β ν γ : Nat → Nat) (ps : List (List M.Cl)) (f : Nat → Nat) (a e : Nat) (w : World) (h : OwnS β ν γ w b n f) (hK : PartsAt w b β ν γ ps) (hks : ps.length = n) (hin : ∀ k, k < n → f k < n) (hs : St.Srt (St.pltV ps) (a + 1) e f) (hlo : St.Lo a (a + 1) e f) (hae : a + 1 < e) (hen : e ≤ n) (hn : n ≤ 1048576) (hcap : n ≤ cap) :
    Calls Tryz.prog 85 #[.slice (some ⟨b, 0, none⟩) n cap, .int .i64 a, .int .i64 ((a : Int) + 1), .int .i64 e, .func (.func 49) #[] #[]] w fun r w' => r = .returned (.tuple #[]) ∧ ∃ f', OwnS β ν γ w' b n f' ∧ St.Per a e f f' ∧ St.Srt (St.pltV ps) a e f' ∧ But w.heap.size b w w' := by
  have HK := hide hK
  have HIN := hide hin
  have HS := hide hs
  have HLO := hide hlo
  clear hK hin hs hlo
  go_enter Tryz.func85, Tryz.ntmps85
  go_wp2_with fail
  rw [show ((a : Int) + 1 - (a : Int) == 1) = true by rw [show (a : Int) + 1 - (a : Int) = 1 by omega]; rfl]
  go_loopg [10, 11] (e - a - 1) (fun gh s10 s11 wr => ∃ i j : Nat, Hid (gh = j - i) ∧ s10 = .int .i64 i ∧ s11 = .int .i64 j ∧ a + 1 ≤ i ∧ i ≤ j ∧ j ≤ e ∧ Hid (∀ h, a + 1 ≤ h → h < i → St.ptestV ps (f h) (f a) = true) ∧ Hid (∀ h, j ≤ h → h < e → St.ptestV ps (f h) (f a) = false) ∧ OwnS β ν γ wr b n f ∧ But w.heap.size b w wr)
  case atStart => exact ⟨a + 1, e, by show _ = _; omega, by go_num, rfl, by omega, by omega, by omega, fun h h1 h2 => by omega, fun h h1 h2 => by omega, h, But.refl _ _ _⟩
  case round =>
    obtain ⟨i, j, hg, rfl, rfl, hi1, hij, hje, hl, hr, ho, hbut⟩ := hrel
    by_cases hlt : i < j
    · have hltz : (i : Int) < (j : Int) := by omega
      obtain ⟨q, hq⟩ : ∃ q : Nat, q = (i + j) / 2 := ⟨_, rfl⟩
      have hqi : i ≤ q := by omega
      have hqj : q < j := by omega
      have eq : ((i : Int) + (j : Int)) / 2 = (q : Int) := by omega
      have hqz : (q : Int) < (n : Int) := by omega
      have haz : (a : Int) < (n : Int) := by omega
      clear hq
      have l1 := show wr.cell? ⟨b, q, none⟩ = some (.slice (some ⟨β (f q), 0, none⟩) (ν (f q)) (γ (f q))) from ho.cell (by omega)
      have l2 := show wr.cell? ⟨b, a, none⟩ = some (.slice (some ⟨β (f a), 0, none⟩) (ν (f a)) (γ (f a))) from ho.cell (by omega)
      have HC := cmpS_any (f q) (f a) b β ν γ ps wr.drew ((unhide HK).but hbut.drew) (by rw [hks]; exact (unhide HIN) q (by omega)) (by rw [hks]; exact (unhide HIN) a (by omega)) (by omega)
      have hneg := St.cmpV_neg ps (f q) (f a)
      generalize St.cmpV ps (f q) (f a) = c at *
      cases hv : St.ptestV ps (f q) (f a) with
      | true =>
        rw [hv] at hneg
        have hl2 := hide (show ∀ h, a + 1 ≤ h → h < q + 1 → St.ptestV ps (f h) (f a) = true from fun h h1 h2 => St.find_up (St.pordV ps) (unhide HS) h1 (by omega) (by omega) hv)
        clear hv
        go_wp2_with fail
        go_region_held3 (fun w' => w'.cell? ⟨b, q, none⟩ = some (.slice (some ⟨β (f q), 0, none⟩) (ν (f q)) (γ (f q))) ∧ w'.cell? ⟨b, a, none⟩ = some (.slice (some ⟨β (f a), 0, none⟩) (ν (f a)) (γ (f a)))) (first | (simp [go_sem, l1, l2]; done) | exact ⟨(hb7.cell (by exact ho.lt)).trans l1, (hb7.cell (by exact ho.lt)).trans l2⟩)
          (first | (go_at_call 49; refine HC.mono ?_; rintro ec w7 ⟨rfl, hb7⟩))
        have ho7 := ho.drew.below hb7 ho.drew.lt
        have hbut7 := hbut.drew.then hb7
        clear l1 l2
        go_wp2_with fail
        go_roundg (j - (q + 1))
        case rel => exact ⟨q + 1, j, rfl, by go_num, rfl, by omega, by omega, hje, unhide hl2, hr, ho7, hbut7⟩
        case measure => have := hg.out; omega
      | false =>
        rw [hv] at hneg
        have hr2 := hide (show ∀ h, q ≤ h → h < e → St.ptestV ps (f h) (f a) = false from fun h h1 h2 => by
          cases hx : St.ptestV ps (f h) (f a) with
          | false => rfl
          | true =>
            have := St.find_up (St.pordV ps) (unhide HS) (h' := q) (h := h) (by omega) h1 h2 hx
            rw [hv] at this; cases this)
        clear hv
        go_wp2_with fail
        go_region_held3 (fun w' => w'.cell? ⟨b, q, none⟩ = some (.slice (some ⟨β (f q), 0, none⟩) (ν (f q)) (γ (f q))) ∧ w'.cell? ⟨b, a, none⟩ = some (.slice (some ⟨β (f a), 0, none⟩) (ν (f a)) (γ (f a)))) (first | (simp [go_sem, l1, l2]; done) | exact ⟨(hb7.cell (by exact ho.lt)).trans l1, (hb7.cell (by exact ho.lt)).trans l2⟩)
          (first | (go_at_call 49; refine HC.mono ?_; rintro ec w7 ⟨rfl, hb7⟩))
        have ho7 := ho.drew.below hb7 ho.drew.lt
        have hbut7 := hbut.drew.then hb7
        clear l1 l2
        go_wp2_with fail
        go_roundg (q - i)
        case rel => exact ⟨i, q, rfl, rfl, rfl, by omega, by omega, by omega, hl, unhide hr2, ho7, hbut7⟩
        case measure => have := hg.out; omega
    · have hij' : i = j := by omega
      subst hij'
      have fin := hide (St.up_sorted (St.pordV ps) (unhide HS) (unhide HLO) hi1 hje hl.out hr.out)
      have per := hide ((St.Per.up f (a := a) (i := i) (by omega)).mono (Nat.le_refl _) hje)
      clear hl hr
      go_wp2_with fail
      go_loopg [13] (i - a) (fun gh s13 wr2 => ∃ k : Nat, Hid (gh = i - k) ∧ s13 = .int .i64 k ∧ a ≤ k ∧ k + 1 ≤ i ∧ OwnS β ν γ wr2 b n (St.up f a (k + 1)) ∧ But w.heap.size b w wr2)
      case atStart => exact ⟨a, rfl, rfl, by omega, by omega, ho.all (St.up_one f a).symm, hbut⟩
      case round =>
        obtain ⟨k, hg2, rfl, hak, hki, ho2, hbut2⟩ := hrel
        by_cases hk2 : k + 1 < i
        · have hk2z : (k : Int) < (i : Int) - 1 := by omega
          have hk3z : (k : Int) + 1 < (n : Int) := by omega
          have hk4z : (k : Int) < (n : Int) := by omega
          have l1 := ho2.cell (show k < n by omega)
          have l2 := ho2.cell (show k + 1 < n by omega)
          have l3 := ho2.second (i := k) (j := k + 1) (by omega) (by omega)
          have z1 := ho2.frozen (k + 1)
          have z2 := ho2.frozen k
          have hs := hide (ho2.swap (show k < n by omega) (show k + 1 < n by omega))
          rw [St.up_succ f a k hak] at hs
          generalize St.up f a (k + 1) k = x at *
          generalize St.up f a (k + 1) (k + 1) = y at *
          clear ho2 ho
          go_wp2_with fail
          go_big_region
          clear l1 l2 l3 z1 z2
          go_wp2_with fail
          go_roundg (i - (k + 1))
          case rel => exact ⟨k + 1, rfl, by go_num, by omega, by omega, (unhide hs).drew, ((hbut2.trans (But.set _ b k _ _)).trans (But.set _ b (k + 1) _ _)).drew⟩
          case measure => have := hg2.out; omega
        · have hk2z : ¬ (k : Int) < (i : Int) - 1 := by omega
          have hke : k + 1 = i := by omega
          have ho3 := ho2.all (show St.up f a (k + 1) = St.up f a i by rw [hke])
          clear ho2 ho hke
          go_wp2_with fail
          refine bodyPost_ret (v := .tuple #[]) (by simp [results, Tryz.results85, go_sem]) rfl ⟨rfl, _, ho3, unhide per, unhide fin, hbut2⟩
end Go.Proofs.YtcolohilnmikiaaGreat

namespace Go.Proofs.YtcolohilnmikiaaGreat
open Go.RowKit
set_option linter.unusedVariables false

set_option maxRecDepth 100000 in
set_option maxHeartbeats 4000000 in
theorem mergeRightS_any (b n cap : Nat) (β ν γ : Nat → Nat) (ps : List (List M.Cl)) (f : Nat → Nat) (a m : Nat) (w : World) (h : OwnS β ν γ w b n f) (hK : PartsAt w b β ν γ ps) (hks : ps.length = n) (hin : ∀ k, k < n → f k < n) (hs : St.Srt (St.pltV ps) a m f) (hlo : St.Lo a m (m + 1) f) (ham : a + 1 < m) (hen : m + 1 ≤ n) (hn : n ≤ 1048576) (hcap : n ≤ cap) :
    Calls Tryz.prog 85 #[.slice (some ⟨b, 0, none⟩) n cap, .int .i64 a, .int .i64 m, .int .i64 ((m : Int) + 1), .func (.func 49) #[] #[]] w fun r w' => r = .returned (.tuple #[]) ∧ ∃ f', OwnS β ν γ w' b n f' ∧ St.Per a (m + 1) f f' ∧ St.Srt (St.pltV ps) a (m + 1) f' ∧ But w.heap.size b w w' := by
  have HK := hide hK
  have HIN := hide hin
  have HS := hide hs
  have HLO := hide hlo
  have t1 : ((m : Int) - (a : Int) == 1) = false := by simp; omega
  have t2 : ((m : Int) + 1 - (m : Int) == 1) = true := by simp; omega
  clear hK hin hs hlo
  go_enter Tryz.func85, Tryz.ntmps85
  go_wp2_with fail
  go_loopg [14, 15] (m - a) (fun gh s14 s15 wr => ∃ i j : Nat, Hid (gh = j - i) ∧ s14 = .int .i64 i ∧ s15 = .int .i64 j ∧ a ≤ i ∧ i ≤ j ∧ j ≤ m ∧ Hid (∀ h, a ≤ h → h < i → St.ptestV ps (f m) (f h) = false) ∧ Hid (∀ h, j ≤ h → h < m → St.ptestV ps (f m) (f h) = true) ∧ OwnS β ν γ wr b n f ∧ But w.heap.size b w wr)
  case atStart => exact ⟨a, m, rfl, rfl, rfl, by omega, by omega, by omega, fun h h1 h2 => by omega, fun h h1 h2 => by omega, h, But.refl _ _ _⟩
  case round =>
    obtain ⟨i, j, hg, rfl, rfl, hi1, hij, hje, hl, hr, ho, hbut⟩ := hrel
    by_cases hlt : i < j
    · have hltz : (i : Int) < (j : Int) := by omega
      obtain ⟨q, hq⟩ : ∃ q : Nat, q = (i + j) / 2 := ⟨_, rfl⟩
      have hqi : i ≤ q := by omega
      have hqj : q < j := by omega
      have eq : ((i : Int) + (j : Int)) / 2 = (q : Int) := by omega
      have hqz : (q : Int) < (n : Int) := by omega
      have haz : (m : Int) < (n : Int) := by omega
      clear hq
      have l1 := show wr.cell? ⟨b, m, none⟩ = some (.slice (some ⟨β (f m), 0, none⟩) (ν (f m)) (γ (f m))) from ho.cell (by omega)
      have l2 := show wr.cell? ⟨b, q, none⟩ = some (.slice (some ⟨β (f q), 0, none⟩) (ν (f q)) (γ (f q))) from ho.cell (by omega)
      have HC := cmpS_any (f m) (f q) b β ν γ ps wr.drew ((unhide HK).but hbut.drew) (by rw [hks]; exact (unhide HIN) m (by omega)) (by rw [hks]; exact (unhide HIN) q (by omega)) (by omega)
      have hneg := St.cmpV_neg ps (f m) (f q)
      generalize St.cmpV ps (f m) (f q) = c at *
      cases hv : St.ptestV ps (f m) (f q) with
      | false =>
        rw [hv] at hneg
        have hl2 := hide (show ∀ h, a ≤ h → h < q + 1 → St.ptestV ps (f m) (f h) = false from fun h h1 h2 => by
          cases hx : St.ptestV ps (f m) (f h) with
          | false => rfl
          | true =>
            have := St.find_dn (St.pordV ps) (unhide HS) (h := h) (h' := q) h1 (by omega) (by omega) hx
            rw [hv] at this; cases this)
        clear hv
        go_wp2_with fail
        go_region_held3 (fun w' => w'.cell? ⟨b, m, none⟩ = some (.slice (some ⟨β (f m), 0, none⟩) (ν (f m)) (γ (f m))) ∧ w'.cell? ⟨b, q, none⟩ = some (.slice (some ⟨β (f q), 0, none⟩) (ν (f q)) (γ (f q)))) (first | (simp [go_sem, l1, l2]; done) | exact ⟨(hb7.cell (by exact ho.lt)).trans l1, (hb7.cell (by exact ho.lt)).trans l2⟩)
          (first | (go_at_call 49; refine HC.mono ?_; rintro ec w7 ⟨rfl, hb7⟩))
        have ho7 := ho.drew.below hb7 ho.drew.lt
        have hbut7 := hbut.drew.then hb7
        clear l1 l2
        go_wp2_with fail
        go_roundg (j - (q + 1))
        case rel => exact ⟨q + 1, j, rfl, by go_num, rfl, by omega, by omega, hje, unhide hl2, hr, ho7, hbut7⟩
        case measure => have := hg.out; omega
      | true =>
        rw [hv] at hneg
        have hr2 := hide (show ∀ h, q ≤ h → h < m → St.ptestV ps (f m) (f h) = true from fun h h1 h2 => St.find_dn (St.pordV ps) (unhide HS) (h := q) (h' := h) (by omega) h1 h2 hv)
        clear hv
        go_wp2_with fail
        go_region_held3 (fun w' => w'.cell? ⟨b, m, none⟩ = some (.slice (some ⟨β (f m), 0, none⟩) (ν (f m)) (γ (f m))) ∧ w'.cell? ⟨b, q, none⟩ = some (.slice (some ⟨β (f q), 0, none⟩) (ν (f q)) (γ (f q)))) (first | (simp [go_sem, l1, l2]; done) | exact ⟨(hb7.cell (by exact ho.lt)).trans l1, (hb7.cell (by exact ho.lt)).trans l2⟩)
          (first | (go_at_call 49; refine HC.mono ?_; rintro ec w7 ⟨rfl, hb7⟩))
        have ho7 := ho.drew.below hb7 ho.drew.lt
        have hbut7 := hbut.drew.then hb7
        clear l1 l2
        go_wp2_with fail
        go_roundg (q - i)
        case rel => exact ⟨i, q, rfl, rfl, rfl, by omega, by omega, by omega, hl, unhide hr2, ho7, hbut7⟩
        case measure => have := hg.out; omega
    · have hij' : i = j := by omega
      subst hij'
      have fin := hide (St.dn_sorted (St.pordV ps) (unhide HS) (unhide HLO) hi1 hje hl.out hr.out)
      have per := hide ((St.Per.dn f hje).mono hi1 (Nat.le_refl _))
      clear hl hr
      go_wp2_with fail
      go_loopg [17] (m - i) (fun gh s17 wr2 => ∃ k : Nat, Hid (gh = k - i) ∧ s17 = .int .i64 k ∧ i ≤ k ∧ k ≤ m ∧ OwnS β ν γ wr2 b n (St.dn f k m) ∧ But w.heap.size b w wr2)
      case atStart => exact ⟨m, rfl, rfl, by omega, by omega, ho.all (St.dn_zero f m).symm, hbut⟩
      case round =>
        obtain ⟨k, hg2, rfl, hak, hki, ho2, hbut2⟩ := hrel
        by_cases hk2 : i < k
        · obtain ⟨kp, rfl⟩ : ∃ q, k = q + 1 := ⟨k - 1, by omega⟩
          have hk2z : (i : Int) < (kp : Int) + 1 := by omega
          have hk3z : (kp : Int) + 1 < (n : Int) := by omega
          have hk4z : (kp : Int) < (n : Int) := by omega
          have l1 := ho2.cell (show kp < n by omega)
          have l2 := ho2.cell (show kp + 1 < n by omega)
          have l3 := ho2.second (i := kp + 1) (j := kp) (by omega) (by omega)
          have z1 := ho2.frozen (kp + 1)
          have z2 := ho2.frozen kp
          have hs := hide (ho2.swap (show kp + 1 < n by omega) (show kp < n by omega))
          rw [St.dn_succ f kp m (by omega)] at hs
          generalize St.dn f (kp + 1) m kp = x at *
          generalize St.dn f (kp + 1) m (kp + 1) = y at *
          clear ho2 ho
          go_wp2_with fail
          go_big_region
          clear l1 l2 l3 z1 z2
          go_wp2_with fail
          go_roundg (kp - i)
          case rel => exact ⟨kp, rfl, by go_num, by omega, by omega, (unhide hs).drew, ((hbut2.trans (But.set _ b (kp + 1) _ _)).trans (But.set _ b kp _ _)).drew⟩
          case measure => have := hg2.out; omega
        · have hk2z : ¬ (i : Int) < (k : Int) := by omega
          have hke : k = i := by omega
          have ho3 := ho2.all (show St.dn f k m = St.dn f i m by rw [hke])
          clear ho2 ho hke
          go_wp2_with fail
          refine bodyPost_ret (v := .tuple #[]) (by simp [results, Tryz.results85, go_sem]) rfl ⟨rfl, _, ho3, unhide per, unhide fin, hbut2⟩
end Go.Proofs.YtcolohilnmikiaaGreat
