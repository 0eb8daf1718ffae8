/-
  (*scalarReader).wholeNumber.
-/
import Derived.Test.YtabpjknbdahddaaGreatDoorNumW
import Derived.Test.YtabpjknbdahddaaGreatDoorNumQ
import Derived.Test.YtabpjknbdahddaaGreatDoorNumK
import Derived.Test.YtabpjknbdahddaaGreatDoorStrQ
import Derived.Deep.RegionHeld3
namespace Go.Proofs.YtabpjknbdahddaaGreatDoor
open Go.RowKit
set_option linter.unusedVariables false
set_option linter.unusedSimpArgs false

theorem Tch.cell {B b : Nat} {w w' : World} (h : Tch B b w w') (g o : Nat) (hg : g < B) (hb : g ≠ b) : w'.cell? ⟨g, o, none⟩ = w.cell? ⟨g, o, none⟩ := by
  simp only [World.cell?, h.block g hg hb]
theorem Tch.of_below {B b : Nat} {w w' : World} (h : Below B w w') : Tch B b w w' := ⟨h.os, h.tape, h.output, h.size, fun k hk _ => h.block k hk⟩
theorem Rd.below {B : Nat} {w w' : World} {b : Nat} {t : TypeId} {s : ByteArray} {k : Nat} {rest : List Value} (h : Rd w b t s k rest) (hb : Below B w w') (hB : b < B) : Rd w' b t s k rest := Own.below h hb hB
theorem kept_int0 {w w2 : World} (hb : Below (w.alloc (.cells #[.int .i64 0, .int .i64 0] 207)).heap.size (w.alloc (.cells #[.int .i64 0, .int .i64 0] 207)) w2) : Own w2 w.heap.size 207 [.int .i64 0, .int .i64 0] :=
  Own.below (w := (w.alloc (.cells #[.int .i64 0, .int .i64 0] 207))) ⟨_, heap_alloc_new _ _, rfl⟩ hb (by show w.heap.size < (w.alloc _).heap.size; simp)
theorem kept_int1 {w w2 : World} (hb : Below (w.alloc (.cells #[.int .i64 0, .int .i64 0] 207)).drew.heap.size (w.alloc (.cells #[.int .i64 0, .int .i64 0] 207)).drew w2) : Own w2 w.heap.size 207 [.int .i64 0, .int .i64 0] :=
  Own.below (w := (w.alloc (.cells #[.int .i64 0, .int .i64 0] 207)).drew) ⟨_, heap_alloc_new _ _, rfl⟩ hb (by show w.heap.size < (w.alloc _).heap.size; simp)
theorem kept_int2 {w w2 : World} (hb : Below (w.alloc (.cells #[.int .i64 0, .int .i64 0] 207)).drew.drew.heap.size (w.alloc (.cells #[.int .i64 0, .int .i64 0] 207)).drew.drew w2) : Own w2 w.heap.size 207 [.int .i64 0, .int .i64 0] :=
  Own.below (w := (w.alloc (.cells #[.int .i64 0, .int .i64 0] 207)).drew.drew) ⟨_, heap_alloc_new _ _, rfl⟩ hb (by show w.heap.size < (w.alloc _).heap.size; simp)
theorem kept_int3 {w w2 : World} (hb : Below (w.alloc (.cells #[.int .i64 0, .int .i64 0] 207)).drew.drew.drew.heap.size (w.alloc (.cells #[.int .i64 0, .int .i64 0] 207)).drew.drew.drew w2) : Own w2 w.heap.size 207 [.int .i64 0, .int .i64 0] :=
  Own.below (w := (w.alloc (.cells #[.int .i64 0, .int .i64 0] 207)).drew.drew.drew) ⟨_, heap_alloc_new _ _, rfl⟩ hb (by show w.heap.size < (w.alloc _).heap.size; simp)
/-- What the program's reader of numbers leaves. -/
def NumbLeft (b : Nat) (t : TypeId) (s : ByteArray) (rest : List Value) (R : (Int × Nat) ⊕ (Int × Nat)) (e : Ending) (w' : World) : Prop :=
  (∃ c m, R = .inr (c, m) ∧ e = .returned (.tuple #[.int .i64 c, .nilIface]) ∧ m ≤ s.size ∧ Rd w' b t s m rest) ∨ (∃ (c : Int) (m q : Nat), R = .inl (c, m) ∧ e = .returned (.tuple #[.int .i64 0, .iface 62 (.agg #[.int .i64 c, .int .i64 (m : Int)])]) ∧ q ≤ s.size ∧ Rd w' b t s q rest)

set_option maxRecDepth 100000 in
set_option maxHeartbeats 2000000 in
theorem wholeNumber_any (b : Nat) (t : TypeId) (s : ByteArray) (k : Nat) (rest : List Value) (w : World) (h : Rd w b t s k rest) (hk : k ≤ s.size) (hs : s.size ≤ 1048576) (ev : Value) (hev : ev = .nilIface ∨ ∃ te pe, ev = .iface te pe) (hG : 6 < w.heap.size) (hGb : 6 ≠ b) (hv : w.cell? ⟨6, 0, none⟩ = some ev) :
    Calls Tryz.prog 96 #[.pointer (some ⟨b, 0, none⟩)] w fun e w' => NumbLeft b t s rest (J.wholeR s k) e w' ∧ Tch w.heap.size b w w' := by
  have q1 := h.cell 1
  simp only [List.getElem?_cons_zero, List.getElem?_cons_succ] at q1
  have hbw := h.lt
  go_enter Tryz.func96, Tryz.ntmps96
  go_wp2_with fail
  refine (numeral_any b t s k rest _ h hk hs).mono ?_
  rintro e w1 ⟨hleft, ht1⟩
  clear q1 h
  have hv1 : w1.cell? ⟨6, 0, none⟩ = some ev := (ht1.cell _ 0 hG hGb).trans hv
  have hG1 : 6 < w1.heap.size := Nat.lt_of_lt_of_le hG ht1.size
  rcases hleft with ⟨m, hnum, hm, rfl, hr1⟩ | ⟨m, hnum, hm, rfl, hr1⟩
  · have hext := J.isNum_ext hnum hm
    have HW := hide (J.wholeR_yes hnum)
    have hcode := J.numOut_code hext.1
    have hkm := hext.2
    have hes : (s.extract k m).size ≤ 1048576 := by rw [J.ext_size hm]; omega
    have HD := hide (fun (wq : World) (hq : Below w1.heap.size w1 wq) => impl_DecodeNumber (s.extract k m) wq hes ev hev 6 (Nat.lt_of_lt_of_le hG1 hq.size) ((hq.cell (p := ⟨6, 0, none⟩) hG1).trans hv1) rfl)
    clear hext hnum hv hv1 hG1
    have q0 := hr1.cell 0
    have q1 := hr1.cell 1
    simp only [List.getElem?_cons_zero, List.getElem?_cons_succ] at q0 q1
    have hb1 := hr1.lt
    have hkI : (k : Int) ≤ (m : Int) := by omega
    have hmI : (m : Int) ≤ (s.size : Int) := by omega
    generalize hX : J.numOut (s.extract k m) = R at *
    obtain ⟨x, y⟩ := R
    simp only at hcode HW
    have BR : Below w1.heap.size w1 w1 := Below.refl _ _
    have FIN := hide (fun (wf : World) (hbf : Below w1.heap.size w1 wf) => (⟨hr1.below hbf hb1, ht1.trans ((Tch.of_below (b := b) hbf).mono ht1.size)⟩ : Rd wf b t s m rest ∧ Tch w.heap.size b w wf))
    clear hX
    rcases hcode with hx | hx
    · subst hx
      rw [if_neg (by simp)] at HW
      go_wp2_with fail
      go_region_with (go_at_call 133; refine ((unhide HD) _ ?_).mono ?_; (first | exact BR.drew | exact (BR.alloc (Nat.le_refl _) _).drew | exact BR | exact BR.alloc (Nat.le_refl _) _ | exact BR.drew.drew | exact (BR.alloc (Nat.le_refl _) _).drew.drew | exact BR.drew.drew.drew | exact (BR.alloc (Nat.le_refl _) _).drew.drew.drew); rintro e w2 ⟨rfl, hb2⟩; (first | (have hY := kept_int1 hb2; have y0 := hY.cell 0; have y1 := hY.cell 1; have z0 := hY.frozen 0; have z1 := hY.frozen 1; simp only [List.getElem?_cons_zero, List.getElem?_cons_succ] at y0 y1) | (have hY := kept_int2 hb2; have y0 := hY.cell 0; have y1 := hY.cell 1; have z0 := hY.frozen 0; have z1 := hY.frozen 1; simp only [List.getElem?_cons_zero, List.getElem?_cons_succ] at y0 y1) | (have hY := kept_int3 hb2; have y0 := hY.cell 0; have y1 := hY.cell 1; have z0 := hY.frozen 0; have z1 := hY.frozen 1; simp only [List.getElem?_cons_zero, List.getElem?_cons_succ] at y0 y1) | skip))
      all_goals
        clear HD q0 q1
        go_wp2_with fail
        go_ret2
        refine ⟨.inl ⟨y, m, unhide HW, rfl, hm, ((unhide FIN) _ ?_).1⟩, ((unhide FIN) _ ?_).2⟩
        all_goals first | exact (Below.trans BR.drew hb2).alloc (by have := hb2.size; exact this) _ | exact ((Below.trans ((BR.alloc (Nat.le_refl _) _).drew) (hb2.mono (by show w1.heap.size ≤ (w1.alloc _).heap.size; simp))).setCell (Nat.le_refl _) _).setCell (Nat.le_refl _) _
    · subst hx
      rw [if_pos (by simp)] at HW
      go_wp2_with fail
      go_region_with (go_at_call 133; refine ((unhide HD) _ ?_).mono ?_; (first | exact BR.drew | exact (BR.alloc (Nat.le_refl _) _).drew | exact BR | exact BR.alloc (Nat.le_refl _) _ | exact BR.drew.drew | exact (BR.alloc (Nat.le_refl _) _).drew.drew | exact BR.drew.drew.drew | exact (BR.alloc (Nat.le_refl _) _).drew.drew.drew); rintro e w2 ⟨rfl, hb2⟩; (first | (have hY := kept_int1 hb2; have y0 := hY.cell 0; have y1 := hY.cell 1; have z0 := hY.frozen 0; have z1 := hY.frozen 1; simp only [List.getElem?_cons_zero, List.getElem?_cons_succ] at y0 y1) | (have hY := kept_int2 hb2; have y0 := hY.cell 0; have y1 := hY.cell 1; have z0 := hY.frozen 0; have z1 := hY.frozen 1; simp only [List.getElem?_cons_zero, List.getElem?_cons_succ] at y0 y1) | (have hY := kept_int3 hb2; have y0 := hY.cell 0; have y1 := hY.cell 1; have z0 := hY.frozen 0; have z1 := hY.frozen 1; simp only [List.getElem?_cons_zero, List.getElem?_cons_succ] at y0 y1) | skip))
      all_goals
        clear HD q0 q1
        go_wp2_with fail
        first
          | (have c0d := fun q => show ((w2.alloc (.cells #[.int .i64 3, .int .i64 y] 207)).drewN q).cell? ⟨w2.heap.size, 0, none⟩ = some (.int .i64 3) from Own.cell (t := 207) (xs := [.int .i64 3, .int .i64 y]) ⟨_, heap_alloc_new _ _, rfl⟩ 0
             go_quiet (fail)
             go_wp2_with fail
             go_ret2
             refine ⟨.inr ⟨3, k, m, unhide HW, rfl, hm, (((unhide FIN) _ ?_).1).drewN _⟩, (((unhide FIN) _ ?_).2).drewN _⟩
             all_goals exact (Below.trans BR.drew hb2).alloc (by have := hb2.size; exact this) _)
          | (have hYf := (hY.set 0 (.int .i64 3)).set 1 (.int .i64 y)
             have c0d := fun q => show (((w2.setCell ⟨w1.heap.size, 0, none⟩ (.int .i64 3)).setCell ⟨w1.heap.size, 1, none⟩ (.int .i64 y)).drewN q).cell? ⟨w1.heap.size, 0, none⟩ = some (.int .i64 3) from hYf.cell 0
             go_quiet (fail)
             go_wp2_with fail
             go_ret2
             refine ⟨.inr ⟨3, k, m, unhide HW, rfl, hm, (((unhide FIN) _ ?_).1).drewN _⟩, (((unhide FIN) _ ?_).2).drewN _⟩
             all_goals exact ((Below.trans ((BR.alloc (Nat.le_refl _) _).drew) (hb2.mono (by show w1.heap.size ≤ (w1.alloc _).heap.size; simp))).setCell (Nat.le_refl _) _).setCell (Nat.le_refl _) _)
  · have HW := hide (J.wholeR_no hnum)
    go_wp2_with fail
    go_ret2
    exact ⟨.inr ⟨5, m, m, unhide HW, rfl, hm, hr1⟩, ht1⟩

end Go.Proofs.YtabpjknbdahddaaGreatDoor
