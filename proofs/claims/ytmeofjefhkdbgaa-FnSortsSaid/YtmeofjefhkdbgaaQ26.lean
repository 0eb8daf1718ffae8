/-
  The library's stable sort over a row of places: its parts, by their contracts.
  The comparison that the sort of places is handed, and the library's insertion sort over it.
  The library's insertion sort of a row of places.
  The library's merge of two sorted runs of places: one place on the left, and one on the right.
  The library's merge of two sorted runs of places: one place on the right.
  The library's stable sort of a row of places, whole.
  impl.standingMembers tells the places that stand.
  The library's stable sort over a row of places: its parts, by their contracts.
-/
import Derived.Test.YtmeofjefhkdbgaaQ03
import Derived.Test.YtmeofjefhkdbgaaQ21
import Derived.Test.YtmeofjefhkdbgaaQ22
import Derived.Test.YtmeofjefhkdbgaaQ25
import Derived.BigQuiet
import Derived.BigRegion
import Derived.Deep.LoopGhost
import Derived.Deep.QuietTactic
import Derived.Deep.RegionHeld3
import Derived.Lib.Bytealg
import Derived.RegionTactic
namespace Go.Proofs.Ytmeofjefhkdbgaa
open Go.RowKit
set_option linter.unusedVariables false

theorem But.drew {B b : Nat} {w w' : World} (h : But B b w w') : But B b w w'.drew := ⟨h.os, h.tape, h.output, h.size, h.block⟩
theorem But.drewN {B b : Nat} {w w' : World} (h : But B b w w') (k : Nat) : But B b w (w'.drewN k) := ⟨h.os, h.tape, h.output, h.size, h.block⟩
end Go.Proofs.Ytmeofjefhkdbgaa

namespace Go.Proofs.Ytmeofjefhkdbgaa
open Go.RowKit
set_option linter.unusedVariables false

end Go.Proofs.Ytmeofjefhkdbgaa

namespace Go.Proofs.Ytmeofjefhkdbgaa
open Go.RowKit
set_option linter.unusedVariables false

end Go.Proofs.Ytmeofjefhkdbgaa

namespace Go.Proofs.Ytmeofjefhkdbgaa
open Go.RowKit
set_option linter.unusedVariables false

end Go.Proofs.Ytmeofjefhkdbgaa

namespace Go.Proofs.Ytmeofjefhkdbgaa
open Go.RowKit
set_option linter.unusedVariables false

end Go.Proofs.Ytmeofjefhkdbgaa

namespace Go.Proofs.Ytmeofjefhkdbgaa
open Go.RowKit
set_option linter.unusedVariables false

end Go.Proofs.Ytmeofjefhkdbgaa

namespace Go.Proofs.Ytmeofjefhkdbgaa
open Go.RowKit
set_option linter.unusedVariables false

theorem ownsRow_mono {w : World} {B B' : Nat} {e : TypeId} {size : Nat} {v : Value} {n : Nat} {xs : List Value} (h : w.ownsRow B e size v n xs) (hB : B' ≤ B) : w.ownsRow B' e size v n xs := by
  obtain ⟨h1, h2 | ⟨g, cap, cur, h3, h4, h5⟩⟩ := h
  · exact ⟨h1, .inl h2⟩
  · exact ⟨h1, .inr ⟨g, cap, cur, h3, by omega, h5⟩⟩
theorem below_drewN {B : Nat} {a w : World} (h : Below B a w) (k : Nat) : Below B a (w.drewN k) := ⟨h.os, h.tape, h.output, h.size, h.block⟩
end Go.Proofs.Ytmeofjefhkdbgaa

namespace Go.Proofs.Ytmeofjefhkdbgaa
open Go.RowKit
set_option linter.unusedVariables false

/-- A row of the call's own that begins with the numbers f 0, f 1, .. f (n - 1). -/
def OwnS (β ν γ : Nat → Nat) (w : World) (b n : Nat) (f : Nat → Nat) : Prop := ∃ xs, Own w b 24 xs ∧ n ≤ xs.length ∧ ∀ i, i < n → xs[i]? = some (.slice (some ⟨β (f i), 0, none⟩) (ν (f i)) (γ (f i)))
theorem OwnS.lt {β ν γ : Nat → Nat} {w : World} {b n : Nat} {f : Nat → Nat} (h : OwnS β ν γ w b n f) : b < w.heap.size := by obtain ⟨xs, ho, _⟩ := h; exact ho.lt
theorem OwnS.below {B : Nat} {β ν γ : Nat → Nat} {w w' : World} {b n : Nat} {f : Nat → Nat} (h : OwnS β ν γ w b n f) (hb : Below B w w') (hB : b < B) : OwnS β ν γ w' b n f := by
  obtain ⟨xs, ho, hw⟩ := h; exact ⟨xs, ho.below hb hB, hw⟩
theorem OwnS.cell {β ν γ : Nat → Nat} {w : World} {b n : Nat} {f : Nat → Nat} (h : OwnS β ν γ w b n f) {i : Nat} (hi : i < n) : w.cell? ⟨b, i, none⟩ = some (.slice (some ⟨β (f i), 0, none⟩) (ν (f i)) (γ (f i))) := by
  obtain ⟨xs, ho, _, hw⟩ := h; exact (ho.cell i).trans (hw i hi)
theorem OwnS.frozen {β ν γ : Nat → Nat} {w : World} {b n : Nat} {f : Nat → Nat} (h : OwnS β ν γ w b n f) (i : Nat) : w.frozen? ⟨b, i, none⟩ = false := by
  obtain ⟨xs, ho, _⟩ := h; exact ho.frozen i
theorem OwnS.swap {β ν γ : Nat → Nat} {w : World} {b n : Nat} {f : Nat → Nat} (h : OwnS β ν γ w b n f) {i j : Nat} (hi : i < n) (hj : j < n) : OwnS β ν γ ((w.setCell ⟨b, i, none⟩ (.slice (some ⟨β (f j), 0, none⟩) (ν (f j)) (γ (f j)))).setCell ⟨b, j, none⟩ (.slice (some ⟨β (f i), 0, none⟩) (ν (f i)) (γ (f i)))) b n (St.sw f i j) := by
  obtain ⟨xs, ho, hl, hw⟩ := h
  refine ⟨_, (ho.set i _).set j _, by simpa using hl, fun k hk => ?_⟩
  simp only [List.getElem?_set, List.length_set]
  unfold St.sw
  by_cases e1 : j = k
  · rw [if_pos e1, if_pos (by omega)]
    subst e1
    by_cases e2 : j = i
    · rw [if_pos e2, e2]
    · rw [if_neg e2, if_pos rfl]
  · rw [if_neg e1]
    by_cases e2 : i = k
    · rw [if_pos e2, if_pos (by omega), if_pos e2.symm]
    · rw [if_neg e2, if_neg (fun h => e2 h.symm), if_neg (fun h => e1 h.symm)]; exact hw k hk

theorem OwnS.drew {β ν γ : Nat → Nat} {w : World} {b n : Nat} {f : Nat → Nat} (h : OwnS β ν γ w b n f) : OwnS β ν γ w.drew b n f := h
theorem OwnS.drewN {β ν γ : Nat → Nat} {w : World} {b n : Nat} {f : Nat → Nat} (h : OwnS β ν γ w b n f) (k : Nat) : OwnS β ν γ (w.drewN k) b n f := h
theorem OwnS.second {β ν γ : Nat → Nat} {w : World} {b n : Nat} {f : Nat → Nat} (h : OwnS β ν γ w b n f) {i j : Nat} (hj : j < n) (e : i ≠ j) (u : Value) : (w.setCell ⟨b, i, none⟩ u).cell? ⟨b, j, none⟩ = some (.slice (some ⟨β (f j), 0, none⟩) (ν (f j)) (γ (f j))) := by
  rw [World.cell?_setCell_other _ _ _ _ (by intro e'; simp only [Addr.mk.injEq] at e'; omega)]; exact h.cell hj

theorem But.then {b : Nat} {w w' w'' : World} (h : But w.heap.size b w w') (hb : Below w'.heap.size w' w'') : But w.heap.size b w w'' := h.trans ((But.ofBelow hb).mono h.size)

set_option maxHeartbeats 1000000 in
theorem swapRangeS_any (b n cap : Nat) (β ν γ : Nat → Nat) (f : Nat → Nat) (a c k : Nat) (cmp : Value) (w : World) (h : OwnS β ν γ w b n f) (hac : a + k ≤ c) (hck : c + k ≤ n) (hn : n ≤ 1048576) (hcap : n ≤ cap) :
    Calls Try.prog 88 #[.slice (some ⟨b, 0, none⟩) n cap, .int .i64 a, .int .i64 c, .int .i64 k, cmp] w fun e w' => e = .returned (.tuple #[]) ∧ OwnS β ν γ w' b n (St.swR f a c k) ∧ But w.heap.size b w w' := by
  go_enter Try.func88, Try.ntmps88
  go_wp2_with fail
  go_loopg [10] k (fun gh s7 wr => ∃ i : Nat, Hid (gh = k - i) ∧ s7 = .int .i64 i ∧ i ≤ k ∧ OwnS β ν γ wr b n (St.swR f a c i) ∧ But w.heap.size b w wr)
  case atStart => exact ⟨0, rfl, rfl, by omega, by rw [St.swR_zero]; exact h, But.refl _ _ _⟩
  case round =>
    obtain ⟨i, hg, rfl, hk, ho, hbut⟩ := hrel
    by_cases hlt : i < k
    · have l1 := ho.cell (show a + i < n by omega)
      have l2 := ho.cell (show c + i < n by omega)
      have z1 := ho.frozen (a + i)
      have z2 := ho.frozen (c + i)
      have l3 := ho.second (i := a + i) (show c + i < n by omega) (by omega)
      have hs := hide (ho.swap (show a + i < n by omega) (show c + i < n by omega))
      rw [St.swR_succ f a c i (by omega)] at hs
      generalize St.swR f a c i (a + i) = x at *
      generalize St.swR f a c i (c + i) = y at *
      go_wp2_with fail
      go_big_region
      clear l1 l2 l3 z1 z2
      go_wp2_with fail
      go_roundg (k - (i + 1))
      case rel => exact ⟨i + 1, rfl, by go_num, by omega, (unhide hs).drew, ((hbut.trans (But.set _ b (a + i) _ _)).trans (But.set _ b (c + i) _ _)).drew⟩
      case measure => have := hg.out; omega
    · have hke : i = k := by omega
      subst hke
      go_wp2_with fail
      go_end0
      exact ⟨rfl, ho, hbut⟩

theorem swapRangeS_int (b n cap : Nat) (β ν γ : Nat → Nat) (f : Nat → Nat) (a c k : Nat) (cmp : Value) (w : World) (h : OwnS β ν γ w b n f) (hac : a + k ≤ c) (hck : c + k ≤ n) (hn : n ≤ 1048576) (hcap : n ≤ cap) (ai ci ki : Int) (ha : ai = a) (hc : ci = c) (hk : ki = k) :
    Calls Try.prog 88 #[.slice (some ⟨b, 0, none⟩) n cap, .int .i64 ai, .int .i64 ci, .int .i64 ki, cmp] w fun e w' => e = .returned (.tuple #[]) ∧ OwnS β ν γ w' b n (St.swR f a c k) ∧ But w.heap.size b w w' := by
  subst ha hc hk
  exact swapRangeS_any b n cap β ν γ f a c k cmp w h hac hck hn hcap

set_option maxHeartbeats 1000000 in
theorem rotateS_any (b n cap : Nat) (β ν γ : Nat → Nat) (f : Nat → Nat) (a m e : Nat) (cmp : Value) (w : World) (h : OwnS β ν γ w b n f) (h1 : a < m) (h2 : m < e) (h3 : e ≤ n) (hn : n ≤ 1048576) (hcap : n ≤ cap) :
    Calls Try.prog 84 #[.slice (some ⟨b, 0, none⟩) n cap, .int .i64 a, .int .i64 m, .int .i64 e, cmp] w fun r w' => r = .returned (.tuple #[]) ∧ OwnS β ν γ w' b n (St.rot f a m e) ∧ But w.heap.size b w w' := by
  go_enter Try.func84, Try.ntmps84
  go_wp2_with fail
  go_loopg [10, 11] (e - a) (fun gh s5 s6 wr => ∃ (i j : Nat) (cur : Nat → Nat), Hid (gh = i + j) ∧ s5 = .int .i64 i ∧ s6 = .int .i64 j ∧ 0 < i ∧ 0 < j ∧ i ≤ m ∧ m + j ≤ n ∧ OwnS β ν γ wr b n cur ∧ Hid (St.rot cur (m - i) m (m + j) = St.rot f a m e) ∧ But w.heap.size b w wr)
  case atStart => exact ⟨m - a, e - m, f, by show _ = _; omega, by congr 1; omega, by congr 1; omega, by omega, by omega, by omega, by omega, h, by show _ = _; rw [show m - (m - a) = a by omega, show m + (e - m) = e by omega], But.refl _ _ _⟩
  case round =>
    obtain ⟨i, j, cur, hg, rfl, rfl, hi0, hj0, him, hjn, ho, hrot, hbut⟩ := hrel
    by_cases hij : i = j
    · subst hij
      have hfin := hide ((St.rot_same cur m i him).trans hrot.out)
      go_wp2_with fail
      refine (swapRangeS_int b n cap β ν γ cur (m - i) m i cmp _ ho (by omega) (by omega) hn hcap _ _ _ (by omega) rfl rfl).mono ?_
      rintro r w1 ⟨rfl, ho1, hb1⟩
      rw [unhide hfin] at ho1
      have hb2 := hbut.trans (hb1.mono hbut.size)
      go_wp2_with fail
      go_end0
      exact ⟨rfl, ho1, hb2⟩
    · have hne : ((i : Int) == (j : Int)) = false := by simp; omega
      by_cases hlt : j < i
      · have hnext := hide ((St.rot_big cur m i j him hlt hj0).trans hrot.out)
        have hltz : (j : Int) < (i : Int) := by omega
        go_wp2_with fail
        refine (swapRangeS_int b n cap β ν γ cur (m - i) m j cmp _ ho (by omega) (by omega) hn hcap _ _ _ (by omega) rfl rfl).mono ?_
        rintro r w1 ⟨rfl, ho1, hb1⟩
        have hb2 := hbut.trans (hb1.mono hbut.size)
        go_wp2_with fail
        go_roundg (i - j + j)
        case rel => exact ⟨i - j, j, _, rfl, by congr 1; omega, rfl, by omega, hj0, by omega, hjn, ho1, unhide hnext, hb2⟩
        case measure => have := hg.out; omega
      · have hnext := hide ((St.rot_small cur m i j him (by omega) hi0).trans hrot.out)
        have hltz : ¬ (j : Int) < (i : Int) := by omega
        go_wp2_with fail
        refine (swapRangeS_int b n cap β ν γ cur (m - i) (m + j - i) i cmp _ ho (by omega) (by omega) hn hcap _ _ _ (by omega) (by omega) rfl).mono ?_
        rintro r w1 ⟨rfl, ho1, hb1⟩
        have hb2 := hbut.trans (hb1.mono hbut.size)
        go_wp2_with fail
        go_roundg (i + (j - i))
        case rel => exact ⟨i, j - i, _, rfl, rfl, by congr 1; omega, hi0, by omega, him, by omega, ho1, unhide hnext, hb2⟩
        case measure => have := hg.out; omega
end Go.Proofs.Ytmeofjefhkdbgaa
