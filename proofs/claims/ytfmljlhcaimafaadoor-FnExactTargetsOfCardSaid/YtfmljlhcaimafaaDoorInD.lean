/-
  What HeightsOf answers: the model's, the program's.
-/
import Derived.Test.YtfmljlhcaimafaaDoorInC
import Derived.Test.YtfmljlhcaimafaaDoorChildT
namespace Go.Proofs.YtfmljlhcaimafaaDoor
open Go.RowKit
set_option linter.unusedVariables false
set_option linter.unusedSimpArgs false


namespace Ic
/-- What HeightsOf answers. -/
def HoSaid (w : World) (l : List Ic) (rg : Int) (e : Ending) (w' : World) : Prop := ∃ s : Value, e = .returned (.agg #[.int .i64 (heightsOut l rg).1, s]) ∧ ResI w' w.heap.size s (heightsOut l rg).2 ∧ Below w.heap.size w w'
theorem ho_of {w w' : World} {l : List Ic} {rg c : Int} {r : List Int} {s : Value} (h : heightsOut l rg = (c, r)) (hr : ResI w' w.heap.size s r) (hb : Below w.heap.size w w') : HoSaid w l rg (.returned (.agg #[.int .i64 c, s])) w' := ⟨s, by rw [h], by rw [h]; exact hr, hb⟩
theorem heights_bad {l : List Ic} {rg : Int} (h : (fault l rg).1 ≠ 0) : heightsOut l rg = ((fault l rg).1, []) := by unfold heightsOut; rw [if_pos h]
theorem heights_ok {l : List Ic} {rg : Int} (h : (fault l rg).1 = 0) {o : List Int} (ho : htF l l.length = .inl o) : heightsOut l rg = (0, o) := by unfold heightsOut; rw [if_neg (by simp [h]), ho]
theorem resI_none (w : World) (B : Nat) : ResI w B (.slice none 0 0) [] := ⟨by simp, .inl ⟨rfl, rfl⟩⟩
theorem ownI_of {w : World} {g : Nat} {o : List Int} (h : Iw w g o) : OwnI w g o := ⟨_, h, by simp, fun i hi => by rw [List.getElem?_map, List.getElem?_eq_getElem hi, List.getD_eq_getElem?_getD, List.getElem?_eq_getElem hi]; rfl⟩
theorem field_code (c a : Int) (w : World) : (Instr.field 26 (.agg #[.int .i64 c, .int .i64 a, .slice none 0 0, .int .i64 0]) 0).run Tryd.prog w = .ok (.int .i64 c) w := by kernel_rfl
theorem sets2 {B : Nat} {w w' : World} (h : Below B w w') (x0 x1 : Value) : Below B w ((w'.setCell ⟨B, 0, none⟩ x0).setCell ⟨B, 1, none⟩ x1) := (h.setCell (Nat.le_refl _) _).setCell (Nat.le_refl _) _
theorem res2 {w : World} {B : Nat} {s : Value} {r : List Int} (h : ResI w (B + 1) s r) (x0 x1 : Value) : ResI ((w.setCell ⟨B, 0, none⟩ x0).setCell ⟨B, 1, none⟩ x1) B s r :=
  ((h.setOther _ _ (fun b hb e => by have := h.base b hb; simp only at e; omega)).setOther _ _ (fun b hb e => by have := h.base b hb; simp only at e; omega)).mono (by omega)
end Ic

set_option maxRecDepth 100000 in
set_option maxHeartbeats 4000000 in
theorem specHeightsOf_any (b : Nat) (l : List Ic) (rg : Int) (w : World) (hrow : Ic.Row w b l) (hb : b < w.heap.size) (hsz : ∀ i, i < l.length → (l.getD i Ic.zero).val.length ≤ 1048576) (hok : ∀ c ∈ l, c.ok) (hn : l.length ≤ 1048576) :
    Calls Tryd.prog 16 #[.slice (some ⟨b, 0, none⟩) l.length l.length, .int .i64 rg] w (Ic.HoSaid w l rg) := by
  obtain ⟨w0, hw0⟩ : ∃ w0, w0 = w.alloc (.cells #[.int .i64 0, .slice none 0 0] 36) := ⟨_, rfl⟩
  have B0 : Below w.heap.size w w0 := by rw [hw0]; exact (Below.refl _ _).alloc (Nat.le_refl _) _
  have O0 : Own w0 w.heap.size 36 [.int .i64 0, .slice none 0 0] := by rw [hw0]; exact ⟨_, heap_alloc_new _ _, rfl⟩
  have hs0 : w0.heap.size = w.heap.size + 1 := by rw [hw0]; simp
  have HC := hide (specCode_any b l rg w0 (hrow.below B0 hb) (Nat.lt_of_lt_of_le hb B0.size) hsz hok hn)
  have HBAD := hide (fun h => Ic.heights_bad (l := l) (rg := rg) h)
  have HOK := hide (fun (h : (Ic.fault l rg).1 = 0) => Ic.fault_parts h)
  have HOUT := hide (fun (h : (Ic.fault l rg).1 = 0) o ho => Ic.heights_ok (l := l) (rg := rg) (o := o) h ho)
  have HT := hide (fun (h : (Ic.fault l rg).1 = 0) W (hW : Below w.heap.size w W) => l8Heights_any b l rg W (hrow.below hW hb) (Nat.lt_of_lt_of_le hb hW.size) (Ic.fault_parts h).2.1.1 (Ic.fault_parts h).2.1.2 (Ic.fault_parts h).2.2.1)
  have HS0 := hide hs0
  have HCF := hide (show ∀ e w', Ic.CfSaid w0 l rg e w' → e = .returned (.agg #[.int .i64 (Ic.fault l rg).1, .int .i64 (Ic.fault l rg).2, .slice none 0 0, .int .i64 0]) ∧ Below w0.heap.size w0 w' from fun e w' h => h)
  clear hrow hsz hok hs0
  obtain ⟨x, y, hxy⟩ : ∃ x y, Ic.fault l rg = (x, y) := ⟨_, _, rfl⟩
  rw [hxy] at HCF HBAD HOK HOUT HT
  clear hxy
  go_enter Tryd.func16, Tryd.ntmps16
  go_wp2_with fail
  rw [← hw0]
  clear hw0
  refine (unhide HC).mono ?_
  rintro e w2 hcf
  obtain ⟨rfl, hb2⟩ := (unhide HCF) e w2 hcf
  have BW2 : Below w.heap.size w w2 := B0.trans (hb2.mono B0.size)
  have O2 := O0.below hb2 O0.lt
  have hs2 : w.heap.size + 1 ≤ w2.heap.size := by have := hb2.size; have := unhide HS0; omega
  clear hcf HC HCF hb2
  have hfc := Ic.field_code x y
  by_cases hx : x = 0
  · subst hx
    have HTT := hide ((unhide HT) (by first | rfl | trivial) w2 BW2)
    go_wp2_with fail
    refine (unhide HTT).mono ?_
    rintro e w3 ⟨q, rfl, hb3, hq⟩
    rcases hq with ⟨o, ho, rfl, hiw, hol⟩ | ⟨k, hk, _⟩
    · have BW3 : Below w.heap.size w w3 := BW2.trans (hb3.mono BW2.size)
      have O3 := O2.below hb3 O2.lt
      have fin := hide ((unhide HOUT) (by first | rfl | trivial) o ho)
      have R3 := hide (show ResI w3 (w.heap.size + 1) (.slice (some ⟨w2.heap.size, 0, none⟩) l.length l.length) o from ⟨by omega, .inr ⟨w2.heap.size, l.length, by rw [hol], hs2, by omega, Ic.ownI_of hiw⟩⟩)
      have c0 := O3.cell 0
      have z0 := O3.frozen 0
      have c1 := O3.cell 1
      have z1 := O3.frozen 1
      simp only [List.getElem?_cons_zero, List.getElem?_cons_succ] at c0 c1
      clear hb3 hiw hol HTT O3 O2 ho
      go_wp2_with fail
      refine bodyPost_ret (v := .agg #[.int .i64 0, .slice (some ⟨w2.heap.size, 0, none⟩) l.length l.length]) (by simp [results, Tryd.results16, go_sem, c0, c1]; try rfl) rfl (Ic.ho_of (unhide fin) (Ic.res2 (unhide R3) _ _) (Ic.sets2 BW3 _ _))
    · obtain ⟨_, _, _, o, ho⟩ := (unhide HOK) (by first | rfl | trivial)
      rw [ho] at hk; cases hk
  · have g1 : (x != 0) = true := by simpa using hx
    have fin := hide ((unhide HBAD) hx)
    have c0 := O2.cell 0
    have z0 := O2.frozen 0
    have c1 := O2.cell 1
    have z1 := O2.frozen 1
    simp only [List.getElem?_cons_zero, List.getElem?_cons_succ] at c0 c1
    clear hx O2
    go_wp2_with fail
    refine bodyPost_ret (v := .agg #[.int .i64 x, .slice none 0 0]) (by simp [results, Tryd.results16, go_sem, c0, c1]; try rfl) rfl (Ic.ho_of (unhide fin) (Ic.resI_none _ _) (Ic.sets2 BW2 _ _))

set_option maxRecDepth 100000 in
set_option maxHeartbeats 4000000 in
theorem implHeightsOf_any (b : Nat) (l : List Ic) (rg : Int) (w : World) (hrow : Ic.Row w b l) (hb : b < w.heap.size) (hsz : ∀ i, i < l.length → (l.getD i Ic.zero).val.length ≤ 1048576) (hok : ∀ c ∈ l, c.ok) (hn : l.length ≤ 1048576) (hS : Shp w) :
    Calls Tryd.prog 17 #[.slice (some ⟨b, 0, none⟩) l.length l.length, .int .i64 rg] w (Ic.HoSaid w l rg) := by
  obtain ⟨w0, hw0⟩ : ∃ w0, w0 = w.alloc (.cells #[.int .i64 0, .slice none 0 0] 36) := ⟨_, rfl⟩
  have B0 : Below w.heap.size w w0 := by rw [hw0]; exact (Below.refl _ _).alloc (Nat.le_refl _) _
  have O0 : Own w0 w.heap.size 36 [.int .i64 0, .slice none 0 0] := by rw [hw0]; exact ⟨_, heap_alloc_new _ _, rfl⟩
  have hs0 : w0.heap.size = w.heap.size + 1 := by rw [hw0]; simp
  have HC := hide (implCode_any b l rg w0 (hrow.below B0 hb) (Nat.lt_of_lt_of_le hb B0.size) hsz hok hn (hS.below B0))
  have HBAD := hide (fun h => Ic.heights_bad (l := l) (rg := rg) h)
  have HOK := hide (fun (h : (Ic.fault l rg).1 = 0) => Ic.fault_parts h)
  have HOUT := hide (fun (h : (Ic.fault l rg).1 = 0) o ho => Ic.heights_ok (l := l) (rg := rg) (o := o) h ho)
  have HT := hide (fun (h : (Ic.fault l rg).1 = 0) W (hW : Below w.heap.size w W) => heightsAhead_any b l rg W (hrow.below hW hb) (Nat.lt_of_lt_of_le hb hW.size) (Ic.fault_parts h).2.1.1 (Ic.fault_parts h).2.1.2 (Ic.fault_parts h).2.2.1 (hS.below hW))
  have HS0 := hide hs0
  have HCF := hide (show ∀ e w', Ic.CfSaid w0 l rg e w' → e = .returned (.agg #[.int .i64 (Ic.fault l rg).1, .int .i64 (Ic.fault l rg).2, .slice none 0 0, .int .i64 0]) ∧ Below w0.heap.size w0 w' from fun e w' h => h)
  clear hrow hsz hok hs0
  obtain ⟨x, y, hxy⟩ : ∃ x y, Ic.fault l rg = (x, y) := ⟨_, _, rfl⟩
  rw [hxy] at HCF HBAD HOK HOUT HT
  clear hxy
  go_enter Tryd.func17, Tryd.ntmps17
  go_wp2_with fail
  rw [← hw0]
  clear hw0
  refine (unhide HC).mono ?_
  rintro e w2 hcf
  obtain ⟨rfl, hb2⟩ := (unhide HCF) e w2 hcf
  have BW2 : Below w.heap.size w w2 := B0.trans (hb2.mono B0.size)
  have O2 := O0.below hb2 O0.lt
  have hs2 : w.heap.size + 1 ≤ w2.heap.size := by have := hb2.size; have := unhide HS0; omega
  clear hcf HC HCF hb2
  obtain ⟨w3, hw3⟩ : ∃ w3, w3 = w2.alloc (.cells #[.int .i64 x, .int .i64 y, .slice none 0 0, .int .i64 0] 26) := ⟨_, rfl⟩
  have BW3 : Below w.heap.size w w3 := by rw [hw3]; exact BW2.alloc BW2.size _
  have O3 : Own w3 w.heap.size 36 [.int .i64 0, .slice none 0 0] := by rw [hw3]; exact O2.alloc _
  have F3 : Own w3 w2.heap.size 26 [.int .i64 x, .int .i64 y, .slice none 0 0, .int .i64 0] := by rw [hw3]; exact ⟨_, heap_alloc_new _ _, rfl⟩
  have f0 : w3.cell? ⟨w2.heap.size, 0, none⟩ = some (.int .i64 x) := F3.cell 0
  have hs3 : w.heap.size + 1 ≤ w3.heap.size := by have := F3.lt; omega
  have f0' := f0
  rw [hw3] at f0'
  by_cases hx : x = 0
  · subst hx
    have HTT := hide ((unhide HT) (by first | rfl | trivial) w3 BW3)
    go_wp2_with fail
    rw [← hw3]
    clear hw3 f0'
    refine (unhide HTT).mono ?_
    rintro e w4 ⟨v, hv, rfl, hrw, hb4, hq⟩
    rcases hq with ⟨ho, hl⟩ | ⟨hk, _⟩
    · have BW4 : Below w.heap.size w w4 := BW3.trans (hb4.mono BW3.size)
      have O4 := O3.below hb4 O3.lt
      have fin := hide ((unhide HOUT) (by first | rfl | trivial) hv ho)
      have hlen := ((unhide HOK) (by first | rfl | trivial)).2.1
      have R4 := hide ((resI_of_owns hrw (by omega)).mono (show w.heap.size + 1 ≤ w3.heap.size + 1 by omega))
      obtain ⟨av, nv, cv, rfl⟩ := (unhide R4).shape
      have c0 := O4.cell 0
      have z0 := O4.frozen 0
      have c1 := O4.cell 1
      have z1 := O4.frozen 1
      simp only [List.getElem?_cons_zero, List.getElem?_cons_succ] at c0 c1
      clear hb4 hrw HTT O4 O3 O2 ho hl
      go_wp2_with fail
      refine bodyPost_ret (v := .agg #[.int .i64 0, .slice av nv cv]) (by simp [results, Tryd.results17, go_sem, c0, c1]; try rfl) rfl (Ic.ho_of (unhide fin) (Ic.res2 (unhide R4) _ _) (Ic.sets2 BW4 _ _))
    · obtain ⟨_, _, _, o, ho⟩ := (unhide HOK) (by first | rfl | trivial)
      rw [ho] at hk; cases hk
  · have g1 : (x != 0) = true := by simpa using hx
    have fin := hide ((unhide HBAD) hx)
    have c0 := O3.cell 0
    have z0 := O3.frozen 0
    have c1 := O3.cell 1
    have z1 := O3.frozen 1
    simp only [List.getElem?_cons_zero, List.getElem?_cons_succ] at c0 c1
    rw [hw3] at c0 c1 z0 z1
    clear hx O2 O3 F3 f0
    go_wp2_with fail
    rw [← hw3] at *
    refine bodyPost_ret (v := .agg #[.int .i64 x, .slice none 0 0]) (by simp [results, Tryd.results17, go_sem, c0, c1]; try rfl) rfl (Ic.ho_of (unhide fin) (Ic.resI_none _ _) (Ic.sets2 BW3 _ _))

end Go.Proofs.YtfmljlhcaimafaaDoor
