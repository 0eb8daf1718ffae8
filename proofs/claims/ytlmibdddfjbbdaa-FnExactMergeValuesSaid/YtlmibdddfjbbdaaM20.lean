/-
  The library's stable sort over a row of places: its parts, by their contracts.
  The comparison that the sort of places is handed, and the library's insertion sort over it.
  The library's insertion sort of a row of places.
  The library's merge of two sorted runs of places: one place on the left, and one on the right.
  The library's merge of two sorted runs of places: one place on the right.
-/
import Derived.Test.YtlmibdddfjbbdaaM03
import Derived.Test.YtlmibdddfjbbdaaM19
import Derived.BigQuiet
import Derived.BigRegion
import Derived.Deep.LoopGhost
import Derived.Deep.QuietTactic
import Derived.Lib.Bytealg
import Derived.RegionTactic
namespace Go.Proofs.Ytlmibdddfjbbdaa
open Go.RowKit
set_option linter.unusedVariables false

/-- A row of the call's own that begins with the numbers f 0, f 1, .. f (n - 1). -/
def OwnF (w : World) (b n : Nat) (f : Nat → Nat) : Prop := ∃ xs, Own w b 3 xs ∧ n ≤ xs.length ∧ ∀ i, i < n → xs[i]? = some (.int .i64 (f i))
theorem OwnF.lt {w : World} {b n : Nat} {f : Nat → Nat} (h : OwnF w b n f) : b < w.heap.size := by obtain ⟨xs, ho, _⟩ := h; exact ho.lt
theorem OwnF.cell {w : World} {b n : Nat} {f : Nat → Nat} (h : OwnF w b n f) {i : Nat} (hi : i < n) : w.cell? ⟨b, i, none⟩ = some (.int .i64 (f i)) := by
  obtain ⟨xs, ho, _, hw⟩ := h; exact (ho.cell i).trans (hw i hi)
theorem OwnF.frozen {w : World} {b n : Nat} {f : Nat → Nat} (h : OwnF w b n f) (i : Nat) : w.frozen? ⟨b, i, none⟩ = false := by
  obtain ⟨xs, ho, _⟩ := h; exact ho.frozen i
theorem OwnF.swap {w : World} {b n : Nat} {f : Nat → Nat} (h : OwnF w b n f) {i j : Nat} (hi : i < n) (hj : j < n) : OwnF ((w.setCell ⟨b, i, none⟩ (.int .i64 (f j))).setCell ⟨b, j, none⟩ (.int .i64 (f i))) b n (St.sw f i j) := by
  obtain ⟨xs, ho, hl, hw⟩ := h
  refine ⟨_, (ho.set i _).set j _, by simpa using hl, fun k hk => ?_⟩
  simp only [List.getElem?_set, List.length_set]
  unfold St.sw
  by_cases e1 : j = k
  · rw [if_pos e1, if_pos (by omega)]
    subst e1
    by_cases e2 : j = i
    · rw [if_pos e2, e2]
    · rw [if_neg e2, if_pos rfl]
  · rw [if_neg e1]
    by_cases e2 : i = k
    · rw [if_pos e2, if_pos (by omega), if_pos e2.symm]
    · rw [if_neg e2, if_neg (fun h => e2 h.symm), if_neg (fun h => e1 h.symm)]; exact hw k hk

theorem OwnF.drew {w : World} {b n : Nat} {f : Nat → Nat} (h : OwnF w b n f) : OwnF w.drew b n f := h
theorem OwnF.drewN {w : World} {b n : Nat} {f : Nat → Nat} (h : OwnF w b n f) (k : Nat) : OwnF (w.drewN k) b n f := h
theorem But.drew {B b : Nat} {w w' : World} (h : But B b w w') : But B b w w'.drew := ⟨h.os, h.tape, h.output, h.size, h.block⟩
theorem But.drewN {B b : Nat} {w w' : World} (h : But B b w w') (k : Nat) : But B b w (w'.drewN k) := ⟨h.os, h.tape, h.output, h.size, h.block⟩
theorem OwnF.second {w : World} {b n : Nat} {f : Nat → Nat} (h : OwnF w b n f) {i j : Nat} (hj : j < n) (e : i ≠ j) (u : Value) : (w.setCell ⟨b, i, none⟩ u).cell? ⟨b, j, none⟩ = some (.int .i64 (f j)) := by
  rw [World.cell?_setCell_other _ _ _ _ (by intro e'; simp only [Addr.mk.injEq] at e'; omega)]; exact h.cell hj

set_option maxHeartbeats 1000000 in
theorem swapRange_any (b n cap : Nat) (f : Nat → Nat) (a c k : Nat) (cmp : Value) (w : World) (h : OwnF w b n f) (hac : a + k ≤ c) (hck : c + k ≤ n) (hn : n ≤ 1048576) (hcap : n ≤ cap) :
    Calls Try.prog 89 #[.slice (some ⟨b, 0, none⟩) n cap, .int .i64 a, .int .i64 c, .int .i64 k, cmp] w fun e w' => e = .returned (.tuple #[]) ∧ OwnF w' b n (St.swR f a c k) ∧ But w.heap.size b w w' := by
  go_enter Try.func89, Try.ntmps89
  go_wp2_with fail
  go_loopg [10] k (fun gh s7 wr => ∃ i : Nat, Hid (gh = k - i) ∧ s7 = .int .i64 i ∧ i ≤ k ∧ OwnF wr b n (St.swR f a c i) ∧ But w.heap.size b w wr)
  case atStart => exact ⟨0, rfl, rfl, by omega, by rw [St.swR_zero]; exact h, But.refl _ _ _⟩
  case round =>
    obtain ⟨i, hg, rfl, hk, ho, hbut⟩ := hrel
    by_cases hlt : i < k
    · have l1 := ho.cell (show a + i < n by omega)
      have l2 := ho.cell (show c + i < n by omega)
      have z1 := ho.frozen (a + i)
      have z2 := ho.frozen (c + i)
      have l3 := ho.second (i := a + i) (show c + i < n by omega) (by omega)
      have hs := hide (ho.swap (show a + i < n by omega) (show c + i < n by omega))
      rw [St.swR_succ f a c i (by omega)] at hs
      generalize St.swR f a c i (a + i) = x at *
      generalize St.swR f a c i (c + i) = y at *
      go_wp2_with fail
      go_big_region
      clear l1 l2 l3 z1 z2
      go_wp2_with fail
      go_roundg (k - (i + 1))
      case rel => exact ⟨i + 1, rfl, by go_num, by omega, (unhide hs).drew, ((hbut.trans (But.set _ b (a + i) _ _)).trans (But.set _ b (c + i) _ _)).drew⟩
      case measure => have := hg.out; omega
    · have hke : i = k := by omega
      subst hke
      go_wp2_with fail
      go_end0
      exact ⟨rfl, ho, hbut⟩

theorem swapRange_int (b n cap : Nat) (f : Nat → Nat) (a c k : Nat) (cmp : Value) (w : World) (h : OwnF w b n f) (hac : a + k ≤ c) (hck : c + k ≤ n) (hn : n ≤ 1048576) (hcap : n ≤ cap) (ai ci ki : Int) (ha : ai = a) (hc : ci = c) (hk : ki = k) :
    Calls Try.prog 89 #[.slice (some ⟨b, 0, none⟩) n cap, .int .i64 ai, .int .i64 ci, .int .i64 ki, cmp] w fun e w' => e = .returned (.tuple #[]) ∧ OwnF w' b n (St.swR f a c k) ∧ But w.heap.size b w w' := by
  subst ha hc hk
  exact swapRange_any b n cap f a c k cmp w h hac hck hn hcap

set_option maxHeartbeats 1000000 in
theorem rotate_any (b n cap : Nat) (f : Nat → Nat) (a m e : Nat) (cmp : Value) (w : World) (h : OwnF w b n f) (h1 : a < m) (h2 : m < e) (h3 : e ≤ n) (hn : n ≤ 1048576) (hcap : n ≤ cap) :
    Calls Try.prog 82 #[.slice (some ⟨b, 0, none⟩) n cap, .int .i64 a, .int .i64 m, .int .i64 e, cmp] w fun r w' => r = .returned (.tuple #[]) ∧ OwnF w' b n (St.rot f a m e) ∧ But w.heap.size b w w' := by
  go_enter Try.func82, Try.ntmps82
  go_wp2_with fail
  go_loopg [10, 11] (e - a) (fun gh s5 s6 wr => ∃ (i j : Nat) (cur : Nat → Nat), Hid (gh = i + j) ∧ s5 = .int .i64 i ∧ s6 = .int .i64 j ∧ 0 < i ∧ 0 < j ∧ i ≤ m ∧ m + j ≤ n ∧ OwnF wr b n cur ∧ Hid (St.rot cur (m - i) m (m + j) = St.rot f a m e) ∧ But w.heap.size b w wr)
  case atStart => exact ⟨m - a, e - m, f, by show _ = _; omega, by congr 1; omega, by congr 1; omega, by omega, by omega, by omega, by omega, h, by show _ = _; rw [show m - (m - a) = a by omega, show m + (e - m) = e by omega], But.refl _ _ _⟩
  case round =>
    obtain ⟨i, j, cur, hg, rfl, rfl, hi0, hj0, him, hjn, ho, hrot, hbut⟩ := hrel
    by_cases hij : i = j
    · subst hij
      have hfin := hide ((St.rot_same cur m i him).trans hrot.out)
      go_wp2_with fail
      refine (swapRange_int b n cap cur (m - i) m i cmp _ ho (by omega) (by omega) hn hcap _ _ _ (by omega) rfl rfl).mono ?_
      rintro r w1 ⟨rfl, ho1, hb1⟩
      rw [unhide hfin] at ho1
      have hb2 := hbut.trans (hb1.mono hbut.size)
      go_wp2_with fail
      go_end0
      exact ⟨rfl, ho1, hb2⟩
    · have hne : ((i : Int) == (j : Int)) = false := by simp; omega
      by_cases hlt : j < i
      · have hnext := hide ((St.rot_big cur m i j him hlt hj0).trans hrot.out)
        have hltz : (j : Int) < (i : Int) := by omega
        go_wp2_with fail
        refine (swapRange_int b n cap cur (m - i) m j cmp _ ho (by omega) (by omega) hn hcap _ _ _ (by omega) rfl rfl).mono ?_
        rintro r w1 ⟨rfl, ho1, hb1⟩
        have hb2 := hbut.trans (hb1.mono hbut.size)
        go_wp2_with fail
        go_roundg (i - j + j)
        case rel => exact ⟨i - j, j, _, rfl, by congr 1; omega, rfl, by omega, hj0, by omega, hjn, ho1, unhide hnext, hb2⟩
        case measure => have := hg.out; omega
      · have hnext := hide ((St.rot_small cur m i j him (by omega) hi0).trans hrot.out)
        have hltz : ¬ (j : Int) < (i : Int) := by omega
        go_wp2_with fail
        refine (swapRange_int b n cap cur (m - i) (m + j - i) i cmp _ ho (by omega) (by omega) hn hcap _ _ _ (by omega) (by omega) rfl).mono ?_
        rintro r w1 ⟨rfl, ho1, hb1⟩
        have hb2 := hbut.trans (hb1.mono hbut.size)
        go_wp2_with fail
        go_roundg (i + (j - i))
        case rel => exact ⟨i, j - i, _, rfl, rfl, by congr 1; omega, hi0, by omega, him, by omega, ho1, unhide hnext, hb2⟩
        case measure => have := hg.out; omega
end Go.Proofs.Ytlmibdddfjbbdaa

namespace Go.Proofs.Ytlmibdddfjbbdaa
open Go.RowKit
set_option linter.unusedVariables false

namespace St
/-- Two texts, byte by byte. -/
def cmpT (a b : ByteArray) : Int := if Op.bytesLess a.toList b.toList = true then -1 else if (a.toList == b.toList) = true then 0 else 1
theorem compareBytes_eq (a b : List UInt8) : Lib.compareBytes a b = if Op.bytesLess a b = true then -1 else if (a == b) = true then 0 else 1 := by
  induction a generalizing b with
  | nil => cases b <;> simp [Lib.compareBytes, Op.bytesLess]
  | cons a x ih =>
    cases b with
    | nil => rfl
    | cons b y =>
      rw [Lib.compareBytes]
      by_cases h1 : a < b
      · rw [if_pos h1, if_pos (by simp [Op.bytesLess, h1])]
      · rw [if_neg h1]
        by_cases h2 : b < a
        · have hne : ¬ a = b := by intro h; subst h; exact h1 h2
          rw [if_pos h2, if_neg (by simp [Op.bytesLess, h1, hne]), if_neg (by simp [hne])]
        · have he : a = b := UInt8.le_antisymm (UInt8.not_lt.1 h2) (UInt8.not_lt.1 h1)
          subst he
          rw [if_neg h2, ih y]
          simp [Op.bytesLess, h1]
theorem cmpstr_run (a b : ByteArray) (w : World) : (callFunc 70 #[.string a, .string b]).run Try.prog w = .ok (.value (.int .i64 (cmpT a b))) w := by
  rw [run_callFunc_extern Try.func70 (by kernel_rfl) (by kernel_rfl) (by kernel_rfl) (e := Extern.BytealgCompare.compare) (by kernel_rfl), Lib.run_compareString, compareBytes_eq]
  unfold cmpT
  rw [ByteArray.toList_eq, ByteArray.toList_eq]
  rfl
theorem cmpT_neg (a b : ByteArray) : decide (cmpT a b < 0) = Op.bytesLess a.toList b.toList := by
  unfold cmpT
  cases Op.bytesLess a.toList b.toList
  · rw [if_neg (by simp)]; split <;> rfl
  · rfl
def cmpP (ks : List ByteArray) (x y : Nat) : Int := cmpT (ks.getD x ByteArray.empty) (ks.getD y ByteArray.empty)
theorem cmpP_neg (ks : List ByteArray) (x y : Nat) : decide (cmpP ks x y < 0) = ptest ks x y := cmpT_neg _ _
end St

set_option maxHeartbeats 1000000 in
theorem stringsCompare_any (a b : ByteArray) (w : World) : Calls Try.prog 58 #[.string a, .string b] w fun e w' => e = .returned (.int .i64 (St.cmpT a b)) ∧ w' = w := by
  have hr := St.cmpstr_run a b
  generalize St.cmpT a b = q at *
  go_enter Try.func58, Try.ntmps58
  go_wp2
  go_ret
  exact ⟨rfl, rfl⟩

/-- What the comparison reads: a boxed slice of keys, and the keys. -/
def KeysAt (w : World) (kb g cap : Nat) (ks : List ByteArray) : Prop :=
  kb < w.heap.size ∧ g < w.heap.size ∧ w.cell? ⟨kb, 0, none⟩ = some (.slice (some ⟨g, 0, none⟩) ks.length cap) ∧ ∀ i, i < ks.length → w.cell? ⟨g, i, none⟩ = some (.string (ks.getD i ByteArray.empty))
theorem KeysAt.but {w w' : World} {kb g cap b B : Nat} {ks : List ByteArray} (h : KeysAt w kb g cap ks) (hb : But B b w w') (h1 : kb < B) (h2 : g < B) (h3 : kb ≠ b) (h4 : g ≠ b) : KeysAt w' kb g cap ks :=
  ⟨Nat.lt_of_lt_of_le h.1 hb.size, Nat.lt_of_lt_of_le h.2.1 hb.size, (World.cell?_of_block (w := w) (hb.block kb h1 h3)).trans h.2.2.1, fun i hi => (World.cell?_of_block (w := w) (hb.block g h2 h4)).trans (h.2.2.2 i hi)⟩
set_option maxHeartbeats 1000000 in
theorem comparison_any (x y kb g cap : Nat) (ks : List ByteArray) (w : World) (h : KeysAt w kb g cap ks) (hx : x < ks.length) (hy : y < ks.length) (hn : ks.length ≤ 1048576) :
    Calls Try.prog 57 #[.int .i64 x, .int .i64 y, .pointer (some ⟨kb, 0, none⟩)] w fun e w' => e = .returned (.int .i64 (St.cmpP ks x y)) ∧ ∃ q, w' = w.drewN q := by
  obtain ⟨k1, k2, k3, k4⟩ := h
  have c1 := fun q => show (w.drewN q).cell? ⟨kb, 0, none⟩ = _ from k3
  have c2 := fun q => show (w.drewN q).cell? ⟨g, x, none⟩ = _ from k4 x hx
  have c3 := fun q => show (w.drewN q).cell? ⟨g, y, none⟩ = _ from k4 y hy
  unfold St.cmpP
  have hxz : (x : Int) < (ks.length : Int) := by omega
  have hyz : (y : Int) < (ks.length : Int) := by omega
  generalize ks.getD x ByteArray.empty = sx at *
  generalize ks.getD y ByteArray.empty = sy at *
  have H := stringsCompare_any sx sy
  generalize St.cmpT sx sy = c at *
  clear k3 k4
  go_enter Try.func57, Try.ntmps57
  go_wp2_with fail
  go_quiet (first | (go_at_call 58; refine Calls.quiet_of_same (H _)))
  go_wp2_with fail
  go_ret
  exact ⟨rfl, _, rfl⟩
end Go.Proofs.Ytlmibdddfjbbdaa

namespace Go.Proofs.Ytlmibdddfjbbdaa
open Go.RowKit
set_option linter.unusedVariables false

theorem OwnF.all {w : World} {b n : Nat} {f g : Nat → Nat} (h : OwnF w b n f) (e : f = g) : OwnF w b n g := e ▸ h

set_option maxHeartbeats 4000000 in
theorem insertion_any (b n cap kb g kc : Nat) (ks : List ByteArray) (f : Nat → Nat) (a e : Nat) (w : World) (h : OwnF w b n f) (hK : KeysAt w kb g kc ks) (hkb : kb ≠ b) (hgb : g ≠ b) (hks : ks.length = n) (hin : ∀ k, k < n → f k < n) (hf : ∀ k, a ≤ k → k < e → f k = k) (hae : a ≤ e) (hen : e ≤ n) (hn : n ≤ 1048576) (hcap : n ≤ cap) :
    Calls Try.prog 68 #[.slice (some ⟨b, 0, none⟩) n cap, .int .i64 a, .int .i64 e, .func (.func 57) #[] #[.pointer (some ⟨kb, 0, none⟩)]] w fun r w' => r = .returned (.tuple #[]) ∧ ∃ f', OwnF w' b n f' ∧ St.Per a e f f' ∧ St.Srt (St.plt ks) a e f' ∧ But w.heap.size b w w' := by
  have HK := hide hK
  have HIN := hide hin
  have HF := hide hf
  have hlk := hK.1
  have hlg := hK.2.1
  clear hK hin hf
  go_enter Try.func68, Try.ntmps68
  go_wp2_with fail
  go_loopg [8] (e - a) (fun gh s8 wr => ∃ (i : Nat) (cur : Nat → Nat), Hid (gh = e + 1 - i) ∧ s8 = .int .i64 i ∧ a < i ∧ i ≤ e + 1 ∧ OwnF wr b n cur ∧ Hid (St.Per a e f cur) ∧ Hid (St.Srt (St.plt ks) a i cur) ∧ Hid (∀ k, i ≤ k → k < e → cur k = k) ∧ Hid (∀ k, a ≤ k → k < i → k < e → cur k < i) ∧ But w.heap.size b w wr)
  case atStart =>
    refine ⟨a + 1, f, ?_, by go_num, by omega, by omega, h, St.Per.refl _ _ _, St.Srt.one f (by omega), fun k h1 h2 => (unhide HF) k (by omega) h2, fun k h1 h2 h3 => ?_, But.refl _ _ _⟩
    · show _ = _; omega
    · rw [(unhide HF) k h1 h3]; omega
  case round =>
    obtain ⟨i, cur, hg, rfl, hai, hie, ho, hper, hsrt, hrest, hlow, hbut⟩ := hrel
    by_cases hlt : i < e
    · have hltz : (i : Int) < (e : Int) := by omega
      have hci := hrest.out i (Nat.le_refl _) hlt
      have hlo : St.Lo a i (i + 1) cur := fun p q p1 p2 q1 q2 => by
        rw [show q = i by omega, hci]
        exact hlow.out p p1 p2 (by omega)
      have HLO := hide hlo
      have hcin := hide (show ∀ k, k < n → cur k < n from fun k hk => by
        by_cases c : a ≤ k ∧ k < e
        · obtain ⟨j, j1, j2, ej⟩ := hper.out.2.1 k c.1 c.2
          rw [ej]; exact (unhide HIN) j (by omega)
        · rw [hper.out.1 k c]; exact (unhide HIN) k hk)
      have HCI := hide hci
      clear hlo hci
      go_wp2_with fail
      go_loopg [9] i (fun gh s9 wr2 => ∃ j : Nat, Hid (gh = j) ∧ s9 = .int .i64 j ∧ a ≤ j ∧ j ≤ i ∧ OwnF wr2 b n (St.dn cur j i) ∧ Hid (∀ h, j ≤ h → h < i → St.ptest ks (cur i) (cur h) = true) ∧ But w.heap.size b w wr2)
      case atStart => exact ⟨i, rfl, rfl, by omega, by omega, ho.all (St.dn_zero cur i).symm, fun h h1 h2 => by omega, hbut⟩
      case round =>
        obtain ⟨j, hg2, rfl, haj, hji, ho2, htest, hbut2⟩ := hrel
        have hnext := hide (show (j = a ∨ St.ptest ks (cur i) (cur (j - 1)) = false) → St.Per a e f (St.dn cur j i) ∧ St.Srt (St.plt ks) a (i + 1) (St.dn cur j i) ∧ (∀ k, i + 1 ≤ k → k < e → St.dn cur j i k = k) ∧ (∀ k, a ≤ k → k < i + 1 → k < e → St.dn cur j i k < i + 1) from fun hstop => by
          have hp : St.Per a e cur (St.dn cur j i) := (St.Per.dn cur hji).mono haj (by omega)
          refine ⟨hper.out.trans hp, St.ins_step (St.pord ks) hsrt.out (unhide HLO) haj hji htest.out hstop, fun k k1 k2 => ?_, fun k k1 k2 k3 => ?_⟩
          · rw [((St.Per.dn cur hji)).1 k (by omega)]; exact hrest.out k (by omega) k2
          · have hp2 : St.Per a (i + 1) cur (St.dn cur j i) := (St.Per.dn cur hji).mono haj (by omega)
            obtain ⟨q, q1, q2, eq⟩ := hp2.2.1 k k1 k2
            rw [eq]
            by_cases c : q = i
            · rw [c, unhide HCI]; omega
            · have := hlow.out q q1 (by omega) (by omega); omega)
        by_cases hja : a < j
        · obtain ⟨jp, rfl⟩ : ∃ q, j = q + 1 := ⟨j - 1, by omega⟩
          have hjd : decide ((jp : Int) + 1 > (a : Int)) = true := decide_eq_true (by omega)
          have hjz : (a : Int) < (jp : Int) + 1 := by omega
          have hj1 : (jp : Int) + 1 < (n : Int) := by omega
          have hj2 : (jp : Int) < (n : Int) := by omega
          have l1 := fun q => show (wr.drewN q).cell? ⟨b, jp + 1, none⟩ = some (.int .i64 (cur i)) from (ho2.cell (by omega)).trans (by rw [St.dn_at])
          have l2 := fun q => show (wr.drewN q).cell? ⟨b, jp, none⟩ = some (.int .i64 (cur jp)) from (ho2.cell (by omega)).trans (by rw [St.dn_ahead cur _ _ _ (by omega)])
          have hc := hide (fun q => comparison_any (cur i) (cur jp) kb g kc ks (wr.drewN q) ((unhide HK).but (hbut2.drewN q) hlk hlg hkb hgb) (by rw [hks]; exact (unhide hcin) i (by omega)) (by rw [hks]; exact (unhide hcin) jp (by omega)) (by omega))
          have hneg := St.cmpP_neg ks (cur i) (cur jp)
          generalize St.cmpP ks (cur i) (cur jp) = c at *
          cases hv : St.ptest ks (cur i) (cur jp) with
          | false =>
            rw [hv] at hneg
            have N := (unhide hnext) (.inr hv)
            have HN := hide N
            have HC := unhide hc
            clear hv N hnext hc
            go_wp2_with fail
            go_quiet (first | (go_at_call 57; refine Calls.quiet_of (HC _)))
            go_wp2_with fail
            go_roundg (e + 1 - (i + 1))
            case rel => exact ⟨i + 1, _, rfl, by go_num, by omega, by omega, ho2.drewN _, (unhide HN).1, (unhide HN).2.1, (unhide HN).2.2.1, (unhide HN).2.2.2, hbut2.drewN _⟩
            case measure => have := hg.out; omega
          | true =>
            rw [hv] at hneg
            have HC := unhide hc
            clear hnext hc
            go_wp2_with fail
            go_quiet (first | (go_at_call 57; refine Calls.quiet_of (HC _)))
            have ho3 : OwnF (wr.drewN nq) b n (St.dn cur (jp + 1) i) := ho2.drewN nq
            have hbut3 : But w.heap.size b w (wr.drewN nq) := hbut2.drewN nq
            have htest2 := hide (show ∀ h, jp ≤ h → h < i → St.ptest ks (cur i) (cur h) = true from fun h h1 h2 => by
              by_cases c : h = jp
              · rw [c]; exact hv
              · exact htest.out h (by omega) h2)
            clear l1 l2 HC ho2 hbut2 htest hv hneg
            generalize wr.drewN nq = w2 at *
            have l1 := ho3.cell (show jp + 1 < n by omega)
            have l2 := ho3.cell (show jp < n by omega)
            have l3 := ho3.second (i := jp + 1) (j := jp) (by omega) (by omega)
            have z1 := ho3.frozen (jp + 1)
            have z2 := ho3.frozen jp
            have hs := hide (ho3.swap (show jp + 1 < n by omega) (show jp < n by omega))
            rw [St.dn_succ cur jp i (by omega)] at hs
            generalize St.dn cur (jp + 1) i (jp + 1) = x at *
            generalize St.dn cur (jp + 1) i jp = y at *
            clear ho3
            go_wp2_with fail
            go_big_region
            clear l1 l2 l3 z1 z2
            go_wp2_with fail
            go_roundg jp
            case rel => exact ⟨jp, rfl, by go_num, by omega, by omega, (unhide hs).drew, unhide htest2, ((hbut3.trans (But.set _ b (jp + 1) _ _)).trans (But.set _ b jp _ _)).drew⟩
            case measure => have := hg2.out; omega
        · have hja' : j = a := by omega
          have hjd : decide ((j : Int) > (a : Int)) = false := decide_eq_false (by omega)
          have N := (unhide hnext) (.inl hja')
          have HN := hide N
          clear hja' N hnext
          go_wp2_with fail
          go_quiet (fail)
          go_wp2_with fail
          go_roundg (e + 1 - (i + 1))
          case rel => exact ⟨i + 1, _, rfl, by go_num, by omega, by omega, ho2.drewN _, (unhide HN).1, (unhide HN).2.1, (unhide HN).2.2.1, (unhide HN).2.2.2, hbut2.drewN _⟩
          case measure => have := hg.out; omega
    · have hltz : ¬ (i : Int) < (e : Int) := by omega
      have fin := hide (hsrt.out.part (a' := a) (b' := e) (Nat.le_refl _) (by omega))
      go_wp2_with fail
      go_end0
      exact ⟨rfl, cur, ho, hper.out, unhide fin, hbut⟩
end Go.Proofs.Ytlmibdddfjbbdaa

namespace Go.Proofs.Ytlmibdddfjbbdaa
open Go.RowKit
set_option linter.unusedVariables false

set_option maxRecDepth 100000 in
set_option maxHeartbeats 4000000 in
theorem mergeLeft_any (b n cap kb g kc : Nat) (ks : List ByteArray) (f : Nat → Nat) (a e : Nat) (w : World) (h : OwnF w b n f) (hK : KeysAt w kb g kc ks) (hkb : kb ≠ b) (hgb : g ≠ b) (hks : ks.length = n) (hin : ∀ k, k < n → f k < n) (hs : St.Srt (St.plt ks) (a + 1) e f) (hlo : St.Lo a (a + 1) e f) (hae : a + 1 < e) (hen : e ≤ n) (hn : n ≤ 1048576) (hcap : n ≤ cap) :
    Calls Try.prog 69 #[.slice (some ⟨b, 0, none⟩) n cap, .int .i64 a, .int .i64 ((a : Int) + 1), .int .i64 e, .func (.func 57) #[] #[.pointer (some ⟨kb, 0, none⟩)]] w fun r w' => r = .returned (.tuple #[]) ∧ ∃ f', OwnF w' b n f' ∧ St.Per a e f f' ∧ St.Srt (St.plt ks) a e f' ∧ But w.heap.size b w w' := by
  have HK := hide hK
  have HIN := hide hin
  have HS := hide hs
  have HLO := hide hlo
  have hlk := hK.1
  have hlg := hK.2.1
  clear hK hin hs hlo
  go_enter Try.func69, Try.ntmps69
  go_wp2_with fail
  go_loopg [10, 11] (e - a - 1) (fun gh s10 s11 wr => ∃ i j : Nat, Hid (gh = j - i) ∧ s10 = .int .i64 i ∧ s11 = .int .i64 j ∧ a + 1 ≤ i ∧ i ≤ j ∧ j ≤ e ∧ Hid (∀ h, a + 1 ≤ h → h < i → St.ptest ks (f h) (f a) = true) ∧ Hid (∀ h, j ≤ h → h < e → St.ptest ks (f h) (f a) = false) ∧ OwnF wr b n f ∧ But w.heap.size b w wr)
  case atStart => exact ⟨a + 1, e, by show _ = _; omega, by go_num, rfl, by omega, by omega, by omega, fun h h1 h2 => by omega, fun h h1 h2 => by omega, h, But.refl _ _ _⟩
  case round =>
    obtain ⟨i, j, hg, rfl, rfl, hi1, hij, hje, hl, hr, ho, hbut⟩ := hrel
    by_cases hlt : i < j
    · have hltz : (i : Int) < (j : Int) := by omega
      obtain ⟨q, hq⟩ : ∃ q : Nat, q = (i + j) / 2 := ⟨_, rfl⟩
      have hqi : i ≤ q := by omega
      have hqj : q < j := by omega
      have eq : ((i : Int) + (j : Int)) / 2 = (q : Int) := by omega
      have hqz : (q : Int) < (n : Int) := by omega
      have haz : (a : Int) < (n : Int) := by omega
      clear hq
      have l1 := fun x => show (wr.drewN x).cell? ⟨b, q, none⟩ = some (.int .i64 (f q)) from ho.cell (by omega)
      have l2 := fun x => show (wr.drewN x).cell? ⟨b, a, none⟩ = some (.int .i64 (f a)) from ho.cell (by omega)
      have HC := fun x => comparison_any (f q) (f a) kb g kc ks (wr.drewN x) ((unhide HK).but (hbut.drewN x) hlk hlg hkb hgb) (by rw [hks]; exact (unhide HIN) q (by omega)) (by rw [hks]; exact (unhide HIN) a (by omega)) (by omega)
      have hneg := St.cmpP_neg ks (f q) (f a)
      generalize St.cmpP ks (f q) (f a) = c at *
      cases hv : St.ptest ks (f q) (f a) with
      | true =>
        rw [hv] at hneg
        have hl2 := hide (show ∀ h, a + 1 ≤ h → h < q + 1 → St.ptest ks (f h) (f a) = true from fun h h1 h2 => St.find_up (St.pord ks) (unhide HS) h1 (by omega) (by omega) hv)
        clear hv
        go_wp2_with fail
        go_quiet (first | (go_at_call 57; refine Calls.quiet_of (HC _)))
        clear l1 l2 HC
        go_wp2_with fail
        go_roundg (j - (q + 1))
        case rel => exact ⟨q + 1, j, rfl, by go_num, rfl, by omega, by omega, hje, unhide hl2, hr, ho.drewN _, hbut.drewN _⟩
        case measure => have := hg.out; omega
      | false =>
        rw [hv] at hneg
        have hr2 := hide (show ∀ h, q ≤ h → h < e → St.ptest ks (f h) (f a) = false from fun h h1 h2 => by
          cases hx : St.ptest ks (f h) (f a) with
          | false => rfl
          | true =>
            have := St.find_up (St.pord ks) (unhide HS) (h' := q) (h := h) (by omega) h1 h2 hx
            rw [hv] at this; cases this)
        clear hv
        go_wp2_with fail
        go_quiet (first | (go_at_call 57; refine Calls.quiet_of (HC _)))
        clear l1 l2 HC
        go_wp2_with fail
        go_roundg (q - i)
        case rel => exact ⟨i, q, rfl, rfl, rfl, by omega, by omega, by omega, hl, unhide hr2, ho.drewN _, hbut.drewN _⟩
        case measure => have := hg.out; omega
    · have hij' : i = j := by omega
      subst hij'
      have fin := hide (St.up_sorted (St.pord ks) (unhide HS) (unhide HLO) hi1 hje hl.out hr.out)
      have per := hide ((St.Per.up f (a := a) (i := i) (by omega)).mono (Nat.le_refl _) hje)
      clear hl hr
      go_wp2_with fail
      go_loopg [13] (i - a) (fun gh s13 wr2 => ∃ k : Nat, Hid (gh = i - k) ∧ s13 = .int .i64 k ∧ a ≤ k ∧ k + 1 ≤ i ∧ OwnF wr2 b n (St.up f a (k + 1)) ∧ But w.heap.size b w wr2)
      case atStart => exact ⟨a, rfl, rfl, by omega, by omega, ho.all (St.up_one f a).symm, hbut⟩
      case round =>
        obtain ⟨k, hg2, rfl, hak, hki, ho2, hbut2⟩ := hrel
        by_cases hk2 : k + 1 < i
        · have hk2z : (k : Int) < (i : Int) - 1 := by omega
          have hk3z : (k : Int) + 1 < (n : Int) := by omega
          have hk4z : (k : Int) < (n : Int) := by omega
          have l1 := ho2.cell (show k < n by omega)
          have l2 := ho2.cell (show k + 1 < n by omega)
          have l3 := ho2.second (i := k) (j := k + 1) (by omega) (by omega)
          have z1 := ho2.frozen (k + 1)
          have z2 := ho2.frozen k
          have hs := hide (ho2.swap (show k < n by omega) (show k + 1 < n by omega))
          rw [St.up_succ f a k hak] at hs
          generalize St.up f a (k + 1) k = x at *
          generalize St.up f a (k + 1) (k + 1) = y at *
          clear ho2 ho
          go_wp2_with fail
          go_big_region
          clear l1 l2 l3 z1 z2
          go_wp2_with fail
          go_roundg (i - (k + 1))
          case rel => exact ⟨k + 1, rfl, by go_num, by omega, by omega, (unhide hs).drew, ((hbut2.trans (But.set _ b k _ _)).trans (But.set _ b (k + 1) _ _)).drew⟩
          case measure => have := hg2.out; omega
        · have hk2z : ¬ (k : Int) < (i : Int) - 1 := by omega
          have hke : k + 1 = i := by omega
          have ho3 := ho2.all (show St.up f a (k + 1) = St.up f a i by rw [hke])
          clear ho2 ho hke
          go_wp2_with fail
          refine bodyPost_ret (v := .tuple #[]) (by simp [results, Try.results69, go_sem]) rfl ⟨rfl, _, ho3, unhide per, unhide fin, hbut2⟩
end Go.Proofs.Ytlmibdddfjbbdaa

namespace Go.Proofs.Ytlmibdddfjbbdaa
open Go.RowKit
set_option linter.unusedVariables false

set_option maxRecDepth 100000 in
set_option maxHeartbeats 4000000 in
theorem mergeRight_any (b n cap kb g kc : Nat) (ks : List ByteArray) (f : Nat → Nat) (a m : Nat) (w : World) (h : OwnF w b n f) (hK : KeysAt w kb g kc ks) (hkb : kb ≠ b) (hgb : g ≠ b) (hks : ks.length = n) (hin : ∀ k, k < n → f k < n) (hs : St.Srt (St.plt ks) a m f) (hlo : St.Lo a m (m + 1) f) (ham : a + 1 < m) (hen : m + 1 ≤ n) (hn : n ≤ 1048576) (hcap : n ≤ cap) :
    Calls Try.prog 69 #[.slice (some ⟨b, 0, none⟩) n cap, .int .i64 a, .int .i64 m, .int .i64 ((m : Int) + 1), .func (.func 57) #[] #[.pointer (some ⟨kb, 0, none⟩)]] w fun r w' => r = .returned (.tuple #[]) ∧ ∃ f', OwnF w' b n f' ∧ St.Per a (m + 1) f f' ∧ St.Srt (St.plt ks) a (m + 1) f' ∧ But w.heap.size b w w' := by
  have HK := hide hK
  have HIN := hide hin
  have HS := hide hs
  have HLO := hide hlo
  have hlk := hK.1
  have hlg := hK.2.1
  have t1 : ((m : Int) - (a : Int) == 1) = false := by simp; omega
  have t2 : ((m : Int) + 1 - (m : Int) == 1) = true := by simp; omega
  clear hK hin hs hlo
  go_enter Try.func69, Try.ntmps69
  go_wp2_with fail
  go_loopg [14, 15] (m - a) (fun gh s14 s15 wr => ∃ i j : Nat, Hid (gh = j - i) ∧ s14 = .int .i64 i ∧ s15 = .int .i64 j ∧ a ≤ i ∧ i ≤ j ∧ j ≤ m ∧ Hid (∀ h, a ≤ h → h < i → St.ptest ks (f m) (f h) = false) ∧ Hid (∀ h, j ≤ h → h < m → St.ptest ks (f m) (f h) = true) ∧ OwnF wr b n f ∧ But w.heap.size b w wr)
  case atStart => exact ⟨a, m, rfl, rfl, rfl, by omega, by omega, by omega, fun h h1 h2 => by omega, fun h h1 h2 => by omega, h, But.refl _ _ _⟩
  case round =>
    obtain ⟨i, j, hg, rfl, rfl, hi1, hij, hje, hl, hr, ho, hbut⟩ := hrel
    by_cases hlt : i < j
    · have hltz : (i : Int) < (j : Int) := by omega
      obtain ⟨q, hq⟩ : ∃ q : Nat, q = (i + j) / 2 := ⟨_, rfl⟩
      have hqi : i ≤ q := by omega
      have hqj : q < j := by omega
      have eq : ((i : Int) + (j : Int)) / 2 = (q : Int) := by omega
      have hqz : (q : Int) < (n : Int) := by omega
      have haz : (m : Int) < (n : Int) := by omega
      clear hq
      have l1 := fun x => show (wr.drewN x).cell? ⟨b, m, none⟩ = some (.int .i64 (f m)) from ho.cell (by omega)
      have l2 := fun x => show (wr.drewN x).cell? ⟨b, q, none⟩ = some (.int .i64 (f q)) from ho.cell (by omega)
      have HC := fun x => comparison_any (f m) (f q) kb g kc ks (wr.drewN x) ((unhide HK).but (hbut.drewN x) hlk hlg hkb hgb) (by rw [hks]; exact (unhide HIN) m (by omega)) (by rw [hks]; exact (unhide HIN) q (by omega)) (by omega)
      have hneg := St.cmpP_neg ks (f m) (f q)
      generalize St.cmpP ks (f m) (f q) = c at *
      cases hv : St.ptest ks (f m) (f q) with
      | false =>
        rw [hv] at hneg
        have hl2 := hide (show ∀ h, a ≤ h → h < q + 1 → St.ptest ks (f m) (f h) = false from fun h h1 h2 => by
          cases hx : St.ptest ks (f m) (f h) with
          | false => rfl
          | true =>
            have := St.find_dn (St.pord ks) (unhide HS) (h := h) (h' := q) h1 (by omega) (by omega) hx
            rw [hv] at this; cases this)
        clear hv
        go_wp2_with fail
        go_quiet (first | (go_at_call 57; refine Calls.quiet_of (HC _)))
        clear l1 l2 HC
        go_wp2_with fail
        go_roundg (j - (q + 1))
        case rel => exact ⟨q + 1, j, rfl, by go_num, rfl, by omega, by omega, hje, unhide hl2, hr, ho.drewN _, hbut.drewN _⟩
        case measure => have := hg.out; omega
      | true =>
        rw [hv] at hneg
        have hr2 := hide (show ∀ h, q ≤ h → h < m → St.ptest ks (f m) (f h) = true from fun h h1 h2 => St.find_dn (St.pord ks) (unhide HS) (h := q) (h' := h) (by omega) h1 h2 hv)
        clear hv
        go_wp2_with fail
        go_quiet (first | (go_at_call 57; refine Calls.quiet_of (HC _)))
        clear l1 l2 HC
        go_wp2_with fail
        go_roundg (q - i)
        case rel => exact ⟨i, q, rfl, rfl, rfl, by omega, by omega, by omega, hl, unhide hr2, ho.drewN _, hbut.drewN _⟩
        case measure => have := hg.out; omega
    · have hij' : i = j := by omega
      subst hij'
      have fin := hide (St.dn_sorted (St.pord ks) (unhide HS) (unhide HLO) hi1 hje hl.out hr.out)
      have per := hide ((St.Per.dn f hje).mono hi1 (Nat.le_refl _))
      clear hl hr
      go_wp2_with fail
      go_loopg [17] (m - i) (fun gh s17 wr2 => ∃ k : Nat, Hid (gh = k - i) ∧ s17 = .int .i64 k ∧ i ≤ k ∧ k ≤ m ∧ OwnF wr2 b n (St.dn f k m) ∧ But w.heap.size b w wr2)
      case atStart => exact ⟨m, rfl, rfl, by omega, by omega, ho.all (St.dn_zero f m).symm, hbut⟩
      case round =>
        obtain ⟨k, hg2, rfl, hak, hki, ho2, hbut2⟩ := hrel
        by_cases hk2 : i < k
        · obtain ⟨kp, rfl⟩ : ∃ q, k = q + 1 := ⟨k - 1, by omega⟩
          have hk2z : (i : Int) < (kp : Int) + 1 := by omega
          have hk3z : (kp : Int) + 1 < (n : Int) := by omega
          have hk4z : (kp : Int) < (n : Int) := by omega
          have l1 := ho2.cell (show kp < n by omega)
          have l2 := ho2.cell (show kp + 1 < n by omega)
          have l3 := ho2.second (i := kp + 1) (j := kp) (by omega) (by omega)
          have z1 := ho2.frozen (kp + 1)
          have z2 := ho2.frozen kp
          have hs := hide (ho2.swap (show kp + 1 < n by omega) (show kp < n by omega))
          rw [St.dn_succ f kp m (by omega)] at hs
          generalize St.dn f (kp + 1) m kp = x at *
          generalize St.dn f (kp + 1) m (kp + 1) = y at *
          clear ho2 ho
          go_wp2_with fail
          go_big_region
          clear l1 l2 l3 z1 z2
          go_wp2_with fail
          go_roundg (kp - i)
          case rel => exact ⟨kp, rfl, by go_num, by omega, by omega, (unhide hs).drew, ((hbut2.trans (But.set _ b (kp + 1) _ _)).trans (But.set _ b kp _ _)).drew⟩
          case measure => have := hg2.out; omega
        · have hk2z : ¬ (i : Int) < (k : Int) := by omega
          have hke : k = i := by omega
          have ho3 := ho2.all (show St.dn f k m = St.dn f i m by rw [hke])
          clear ho2 ho hke
          go_wp2_with fail
          refine bodyPost_ret (v := .tuple #[]) (by simp [results, Try.results69, go_sem]) rfl ⟨rfl, _, ho3, unhide per, unhide fin, hbut2⟩
end Go.Proofs.Ytlmibdddfjbbdaa
