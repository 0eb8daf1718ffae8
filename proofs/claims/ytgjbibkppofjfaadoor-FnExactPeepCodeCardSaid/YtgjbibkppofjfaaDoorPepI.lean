/-
  What HeightsOf answers: the model's, the program's.
  impl.TargetsOf.
  spec.TargetsOf.
  impl.stayingPlaces: the places that stay.
-/
import Derived.Test.YtgjbibkppofjfaaDoorInC
import Derived.Test.YtgjbibkppofjfaaDoorChildT
import Derived.Test.YtgjbibkppofjfaaDoorInE
import Derived.Test.YtgjbibkppofjfaaDoorShelfK
import Derived.Test.YtgjbibkppofjfaaDoorPepT
import Derived.Deep.LoopGhost
namespace Go.Proofs.YtgjbibkppofjfaaDoor
open Go.RowKit
set_option linter.unusedVariables false
set_option linter.unusedSimpArgs false


namespace Ic
/-- What HeightsOf answers. -/
def HoSaid (w : World) (l : List Ic) (rg : Int) (e : Ending) (w' : World) : Prop := ∃ s : Value, e = .returned (.agg #[.int .i64 (heightsOut l rg).1, s]) ∧ ResI w' w.heap.size s (heightsOut l rg).2 ∧ Below w.heap.size w w'
theorem ho_of {w w' : World} {l : List Ic} {rg c : Int} {r : List Int} {s : Value} (h : heightsOut l rg = (c, r)) (hr : ResI w' w.heap.size s r) (hb : Below w.heap.size w w') : HoSaid w l rg (.returned (.agg #[.int .i64 c, s])) w' := ⟨s, by rw [h], by rw [h]; exact hr, hb⟩
theorem heights_bad {l : List Ic} {rg : Int} (h : (fault l rg).1 ≠ 0) : heightsOut l rg = ((fault l rg).1, []) := by unfold heightsOut; rw [if_pos h]
theorem heights_ok {l : List Ic} {rg : Int} (h : (fault l rg).1 = 0) {o : List Int} (ho : htF l l.length = .inl o) : heightsOut l rg = (0, o) := by unfold heightsOut; rw [if_neg (by simp [h]), ho]
theorem resI_none (w : World) (B : Nat) : ResI w B (.slice none 0 0) [] := ⟨by simp, .inl ⟨rfl, rfl⟩⟩
theorem ownI_of {w : World} {g : Nat} {o : List Int} (h : Iw w g o) : OwnI w g o := ⟨_, h, by simp, fun i hi => by rw [List.getElem?_map, List.getElem?_eq_getElem hi, List.getD_eq_getElem?_getD, List.getElem?_eq_getElem hi]; rfl⟩
theorem field_code (c a : Int) (w : World) : (Instr.field 26 (.agg #[.int .i64 c, .int .i64 a, .slice none 0 0, .int .i64 0]) 0).run Tryd.prog w = .ok (.int .i64 c) w := by kernel_rfl
theorem sets2 {B : Nat} {w w' : World} (h : Below B w w') (x0 x1 : Value) : Below B w ((w'.setCell ⟨B, 0, none⟩ x0).setCell ⟨B, 1, none⟩ x1) := (h.setCell (Nat.le_refl _) _).setCell (Nat.le_refl _) _
theorem res2 {w : World} {B : Nat} {s : Value} {r : List Int} (h : ResI w (B + 1) s r) (x0 x1 : Value) : ResI ((w.setCell ⟨B, 0, none⟩ x0).setCell ⟨B, 1, none⟩ x1) B s r :=
  ((h.setOther _ _ (fun b hb e => by have := h.base b hb; simp only at e; omega)).setOther _ _ (fun b hb e => by have := h.base b hb; simp only at e; omega)).mono (by omega)
end Ic

end Go.Proofs.YtgjbibkppofjfaaDoor

namespace Go.Proofs.YtgjbibkppofjfaaDoor
open Go.RowKit
set_option linter.unusedVariables false
set_option linter.unusedSimpArgs false


namespace Ic
/-- What TargetsOf answers. -/
def ToSaid (w : World) (l : List Ic) (rg : Int) (e : Ending) (w' : World) : Prop := ∃ s : Value, e = .returned (.agg #[.int .i64 (targetsOut l rg).1, s]) ∧ ResI w' w.heap.size s (targetsOut l rg).2 ∧ Below w.heap.size w w'
theorem to_of {w w' : World} {l : List Ic} {rg c : Int} {r : List Int} {s : Value} (h : targetsOut l rg = (c, r)) (hr : ResI w' w.heap.size s r) (hb : Below w.heap.size w w') : ToSaid w l rg (.returned (.agg #[.int .i64 c, s])) w' := ⟨s, by rw [h], by rw [h]; exact hr, hb⟩
end Ic

open Go.Maps Go.Sort Go.Shelf
theorem keys_sorts (m : Nat) : AnyZI.SortsIn Tryd.prog Tryd.sortedA_ren Fence.wide m :=
  ⟨fun blk off cap ss W hH hblk hsz => callsIn_wide.2 (AnyM.slices_Sort_int Tryd.sortA blk off cap ss W hH hblk hsz),
   fun p cap W => callsIn_wide.2 (AnyM.slices_Sort_int_none Tryd.sortA p cap W)⟩
theorem keys_call (mb : Option Nat) (w : World) : Calls Tryd.prog 35 #[.map mb] w fun e w' => e = .returned (.func (.func 52) #[] #[.pointer (some ⟨w.heap.size, 0, none⟩)]) ∧ w' = w.alloc (.cells #[.map mb] 65) :=
  (callsIn_wide (n := 5)).1 (AnyZI.keys_in Tryd.keysA Fence.wide 5 trivial rfl mb w)
theorem sorted_call (b nn : Nat) (D0 : DataW Unit) (R : Value → Option (DataW Unit × List MemPlace)) (w : World) (hown : w.ownsMap Tryd.prog 2 R b nn D0) (hmax : Maps.size D0 ≤ 1000000) :
    Calls Tryd.prog 34 #[.func (.func 52) #[] #[.pointer (some ⟨w.heap.size, 0, none⟩)]] (w.alloc (.cells #[.map (some b)] 65)) fun e w' => ∃ (v : Value) (ss : List Int), e = .returned v ∧ ss.Perm (intKeys D0) ∧
      w'.ownsRow (w.heap.size + 1) 2 1 v ss.length ((ss.mergeSort leI).map (Value.int .i64)) ∧ Below w.heap.size w w' := by
  have hbl := hown.lt
  have hseq : SeqGives Fence.wide 2 Tryd.prog 52 #[.pointer (some ⟨w.heap.size, 0, none⟩)] encZ (fun ss => ss.Perm (intKeys D0)) (Maps.size D0) (w.alloc (.cells #[.map (some b)] 65)) :=
    AnyZI.keys_gives (ρ := Tryd.keysA_ren) { Tryd.keysA with } Fence.wide _ trivial rfl (by omega) w.heap.size b nn D0 _ (by simp) (by simp) (by
      obtain ⟨es, clock, hb, Ft, hs, hD⟩ := hown
      exact ⟨es, clock, (Below.heap_alloc _ _ b hbl).trans hb, Ft, hs, hD⟩)
  have cS := AnyZI.sorted_in Tryd.sortedA Fence.wide 5 trivial trivial trivial trivial rfl (by omega) (keys_sorts _) (enters_of Tryd.func51 (by kernel_rfl) rfl) 52 #[.pointer (some ⟨w.heap.size, 0, none⟩)] trivial (enters_of Tryd.func52 (by kernel_rfl) rfl) _ _ (by unfold maxLen; omega) (by omega) _ hseq
  change CallsIn _ _ Tryd.prog 34 _ _ _ at cS
  refine ((callsIn_wide (n := 5)).1 cS).mono ?_
  rintro e w' ⟨v, ss, he, hS, hrow, _, hb⟩
  exact ⟨v, ss, he, hS, ownsRow_base_a hrow (by simp), ((Below.refl _ w).alloc (Nat.le_refl _) _).trans (hb.mono (by simp))⟩

set_option maxRecDepth 100000 in
set_option maxHeartbeats 8000000 in
theorem implTargetsOf_any (b : Nat) (l : List Ic) (rg : Int) (w : World) (hrow : Ic.Row w b l) (hb : b < w.heap.size) (hsz : ∀ i, i < l.length → (l.getD i Ic.zero).val.length ≤ 1048576) (hok : ∀ c ∈ l, c.ok) (hn : l.length ≤ 1048576) (hS : Shp w) :
    Calls Tryd.prog 20 #[.slice (some ⟨b, 0, none⟩) l.length l.length, .int .i64 rg] w (Ic.ToSaid w l rg) := by
  obtain ⟨w0, hw0⟩ : ∃ w0, w0 = w.alloc (.cells #[.int .i64 0, .slice none 0 0] 47) := ⟨_, rfl⟩
  have B0 : Below w.heap.size w w0 := by rw [hw0]; exact (Below.refl _ _).alloc (Nat.le_refl _) _
  have O0 : Own w0 w.heap.size 47 [.int .i64 0, .slice none 0 0] := by rw [hw0]; exact ⟨_, heap_alloc_new _ _, rfl⟩
  have hs0 : w0.heap.size = w.heap.size + 1 := by rw [hw0]; simp
  have HC := hide (implCode_any b l rg w0 (hrow.below B0 hb) (Nat.lt_of_lt_of_le hb B0.size) hsz hok hn (hS.below B0))
  have HBAD := hide (fun h => Ic.targets_bad (l := l) (rg := rg) h)
  have HOK := hide (fun (h : (Ic.fault l rg).1 = 0) => Ic.fault_parts h)
  have HOUT := hide (fun (h : (Ic.fault l rg).1 = 0) => Ic.targets_ok (l := l) (rg := rg) h)
  have HR := hide hrow
  have HS := hide hS
  have HS0 := hide hs0
  have HCF := hide (show ∀ e w', Ic.CfSaid w0 l rg e w' → e = .returned (.agg #[.int .i64 (Ic.fault l rg).1, .int .i64 (Ic.fault l rg).2, .slice none 0 0, .int .i64 0]) ∧ Below w0.heap.size w0 w' from fun e w' h => h)
  clear hrow hsz hok hs0 hS
  obtain ⟨x, y, hxy⟩ : ∃ x y, Ic.fault l rg = (x, y) := ⟨_, _, rfl⟩
  rw [hxy] at HCF HBAD HOK HOUT
  clear hxy
  go_enter Tryd.func20, Tryd.ntmps20
  go_wp2_with fail
  rw [← hw0]
  clear hw0
  refine (unhide HC).mono ?_
  rintro e w2 hcf
  obtain ⟨rfl, hb2⟩ := (unhide HCF) e w2 hcf
  have BW2 : Below w.heap.size w w2 := B0.trans (hb2.mono B0.size)
  have O2 := O0.below hb2 O0.lt
  have hs2 : w.heap.size + 1 ≤ w2.heap.size := by have := hb2.size; have := unhide HS0; omega
  clear hcf HC HCF hb2 O0 B0
  obtain ⟨w3, hw3⟩ : ∃ w3, w3 = w2.alloc (.cells #[.int .i64 x, .int .i64 y, .slice none 0 0, .int .i64 0] 26) := ⟨_, rfl⟩
  have BW3 : Below w.heap.size w w3 := by rw [hw3]; exact BW2.alloc BW2.size _
  have O3 : Own w3 w.heap.size 47 [.int .i64 0, .slice none 0 0] := by rw [hw3]; exact O2.alloc _
  have F3 : Own w3 w2.heap.size 26 [.int .i64 x, .int .i64 y, .slice none 0 0, .int .i64 0] := by rw [hw3]; exact ⟨_, heap_alloc_new _ _, rfl⟩
  have f0 : w3.cell? ⟨w2.heap.size, 0, none⟩ = some (.int .i64 x) := F3.cell 0
  have hs3 : w.heap.size + 1 ≤ w3.heap.size := by have := F3.lt; omega
  have f0' := f0
  rw [hw3] at f0'
  by_cases hx : x = 0
  · subst hx
    obtain ⟨⟨hr0, hr1⟩, ⟨hl1, hl6⟩, hall, _⟩ := (unhide HOK) (by first | rfl | trivial)
    have fin := hide ((unhide HOUT) (by first | rfl | trivial))
    have HA := hide hall
    have T0 := hide (Tm.start w3 l)
    obtain ⟨mb, hmb⟩ : ∃ mb, mb = w2.heap.size + 1 := ⟨_, rfl⟩
    have hs3e : w3.heap.size = mb := by rw [hw3, hmb]; simp
    obtain ⟨w4, hw4⟩ : ∃ w4, w4 = w3.alloc (.map #[] 0) := ⟨_, rfl⟩
    rw [hs3e, ← hw4] at T0
    have B4 : Below mb w3 w4 := by rw [hw4, ← hs3e]; exact (Below.refl _ _).alloc (Nat.le_refl _) _
    have hmb1 : w.heap.size + 1 ≤ mb := by omega
    have HMB := hide hmb
    have hmm := @run_makeMap Tryd.prog
    clear hall F3 f0 hmb
    go_wp2_with fail
    rw [← hw3, ← hw4, ← unhide HMB]
    clear hw3 hw4 hmm f0'
    go_loopg [21] l.length (fun gh s21 wr => ∃ k : Nat, Hid (gh = l.length - k) ∧ s21 = .int .i64 (k : Int) ∧ k ≤ l.length ∧ Hid (Tm wr mb k l k) ∧ Below mb w3 wr)
    case atStart => exact ⟨0, rfl, rfl, by omega, unhide T0, B4⟩
    case round =>
      clear T0 B4
      obtain ⟨k, hg, rfl, hk, HTm, hbel⟩ := hrel
      have BW : Below w.heap.size w wr := BW3.trans (hbel.mono (by omega))
      by_cases hlt : k < l.length
      · have hltI : (k : Int) < (l.length : Int) := by omega
        obtain ⟨f0, f1, vg, f2, hvg, hvr⟩ := ((unhide HR).below BW hb) k hlt
        have hone1 := (unhide HA) k hlt
        have hop1 := (Ic.one_parts hone1).1
        have hjmp := hide (fun h => Ic.one_jump hone1 h)
        have HPT := hide (fun (W : World) (p : Nat) (v : Int) (h : Tm W mb k l k) h1 h2 h3 h4 h5 h6 => h.put p v h1 (by omega) h2 h3 h4 h5 h6)
        have HSK := hide (fun (W : World) (h : Tm W mb k l k) h1 => (h.skip h1).more (show k ≤ k + 1 by omega))
        clear hone1 hvr
        generalize l.getD k Ic.zero = n at *
        obtain ⟨nop, narg, nval⟩ := n
        dsimp only at *
        obtain ⟨op, rfl⟩ : ∃ op : Nat, nop = (op : Int) := ⟨nop.toNat, by omega⟩
        have hopl : op < 20 := by omega
        have hopI : (op : Int) < 20 := by omega
        have hop0 : (0 : Int) ≤ (op : Int) := by omega
        obtain ⟨w5, hw5⟩ : ∃ w5, w5 = wr.alloc (.cells #[.int .i64 (op : Int), .int .i64 narg, .slice (some ⟨vg, 0, none⟩) nval.length nval.length] 41) := ⟨_, rfl⟩
        have K5 : Below wr.heap.size wr w5 := by rw [hw5]; exact (Below.refl _ _).alloc (Nat.le_refl _) _
        have N5 : Own w5 wr.heap.size 41 [.int .i64 (op : Int), .int .i64 narg, .slice (some ⟨vg, 0, none⟩) nval.length nval.length] := by rw [hw5]; exact ⟨_, heap_alloc_new _ _, rfl⟩
        have hmw : mb ≤ wr.heap.size := Nat.le_of_lt (unhide HTm).lt
        have B5 : Below mb w3 w5 := hbel.trans (K5.mono hmw)
        have T5 := hide ((unhide HTm).below K5)
        have BW5 : Below w.heap.size w w5 := BW3.trans (B5.mono (by omega))
        obtain ⟨t0, t1, t2, t3, t4, t5⟩ := ((unhide HS).below BW5).cell op hopl
        have n0 := N5.cell 0
        have n1 := N5.cell 1
        simp only [List.getElem?_cons_zero, List.getElem?_cons_succ] at n0 n1
        clear t0 t2 t3 t4 t5 N5 HTm
        cases hj : Ic.jumps (op : Int) with
        | true =>
          have hjb := (unhide hjmp) hj
          obtain ⟨u, rfl⟩ : ∃ u : Nat, narg = (u : Int) := ⟨narg.toNat, by omega⟩
          obtain ⟨c, hlk, hc0, hc1⟩ := (unhide T5).look u (by omega)
          obtain ⟨w6, hup, hT6, hk6⟩ := (unhide HPT) w5 u (c + 1) (unhide T5) (by omega) (by omega) (by omega) (by omega) hj rfl
          have B6 : Below mb w3 w6 := B5.trans (hk6.below (by have := (unhide T5).lt; omega) (Nat.le_refl _))
          have T6 := hide hT6
          have wr1 : IntKind.i64.wrap (c + 1) = c + 1 := IntWalk.i64_in _ ⟨by omega, by omega⟩
          rw [Ic.jump_K hj] at t1
          rw [hw5] at t1 n0 n1 hlk hup
          clear hT6 hk6 hjmp HPT HSK hjb T5 hw5
          go_wp2_with fail
          go_roundg (l.length - (k + 1))
          case rel => exact ⟨k + 1, rfl, by go_num, by omega, unhide T6, B6⟩
          case measure => have := hg.out; omega
        | false =>
          have g3 : (Ic.argK (op : Int) == 3) = false := beq_eq_false_iff_ne.2 (fun e => by rw [Ic.K_jump e] at hj; cases hj)
          have T6 := hide ((unhide HSK) w5 (unhide T5) hj)
          rw [hw5] at t1 n0 n1
          generalize Ic.argK (op : Int) = ak at *
          clear hjmp HPT HSK T5
          go_wp2_with fail
          try rw [← hw5]
          go_roundg (l.length - (k + 1))
          case rel => exact ⟨k + 1, rfl, by go_num, by omega, unhide T6, by first | exact B5 | (rw [← hw5]; exact B5)⟩
          case measure => have := hg.out; omega
      · have hge : ¬ (k : Int) < (l.length : Int) := by omega
        have hke : k = l.length := by omega
        subst hke
        obtain ⟨D, hD, hDs, hDk⟩ := (unhide HTm).keys (unhide HA)
        have HSO := hide (sorted_call mb _ D _ wr hD (by omega))
        have hmw : mb ≤ wr.heap.size := Nat.le_of_lt (unhide HTm).lt
        have O4 := O3.below hbel (by omega)
        have HDK := hide hDk
        have hbsz := BW.size
        clear HTm hD hDk
        go_wp2_with fail
        refine (keys_call _ _).mono ?_
        rintro e w6 ⟨rfl, rfl⟩
        go_wp2_with fail
        refine (unhide HSO).mono ?_
        rintro e w7 ⟨v, ss, rfl, hS, hrw, hb7⟩
        obtain ⟨hq1, hq2⟩ := (unhide HDK) ss hS
        rw [hq1, hq2] at hrw
        have BW7 : Below w.heap.size w w7 := BW.trans (hb7.mono BW.size)
        have O7 := O4.below hb7 O4.lt
        have htl := Ic.tg_len l l.length
        have R7 := hide ((resI_of_owns hrw (by omega)).mono (show w.heap.size + 1 ≤ wr.heap.size + 1 by omega))
        obtain ⟨av, nv, cv, rfl⟩ := (unhide R7).shape
        have c0 := O7.cell 0
        have z0 := O7.frozen 0
        have c1 := O7.cell 1
        have z1 := O7.frozen 1
        simp only [List.getElem?_cons_zero, List.getElem?_cons_succ] at c0 c1
        clear hb7 hrw HSO O7 O4 hS hq1 hq2 HDK
        go_wp2_with fail
        refine bodyPost_ret (v := .agg #[.int .i64 0, .slice av nv cv]) (by simp [results, Tryd.results20, go_sem, c0, c1]; try rfl) rfl (Ic.to_of (unhide fin) (Ic.res2 (unhide R7) _ _) (Ic.sets2 BW7 _ _))
  · have g1 : (x != 0) = true := by simpa using hx
    have fin := hide ((unhide HBAD) hx)
    have c0 := O3.cell 0
    have z0 := O3.frozen 0
    have c1 := O3.cell 1
    have z1 := O3.frozen 1
    simp only [List.getElem?_cons_zero, List.getElem?_cons_succ] at c0 c1
    rw [hw3] at c0 c1 z0 z1
    clear hx O2 O3 F3 f0
    go_wp2_with fail
    rw [← hw3] at *
    refine bodyPost_ret (v := .agg #[.int .i64 x, .slice none 0 0]) (by simp [results, Tryd.results20, go_sem, c0, c1]; try rfl) rfl (Ic.to_of (unhide fin) (Ic.resI_none _ _) (Ic.sets2 BW3 _ _))

end Go.Proofs.YtgjbibkppofjfaaDoor

namespace Go.Proofs.YtgjbibkppofjfaaDoor
open Go.RowKit
set_option linter.unusedVariables false
set_option linter.unusedSimpArgs false


theorem Ic.owns_far {w : World} {a base : Nat} {e : TypeId} {v : Value} {n : Nat} {xs : List Value} (h : w.ownsRow base e 1 v n xs) (ha : a < base) (i : Nat) (x : Value) : (w.setCell ⟨a, i, none⟩ x).ownsRow base e 1 v n xs := by
  obtain ⟨h1, h2 | ⟨g, cap, cur, h3, h4, h5, h6⟩⟩ := h
  · exact ⟨h1, .inl h2⟩
  · exact ⟨h1, .inr ⟨g, cap, cur, h3, h4, (heap_setCell_other w ⟨a, i, none⟩ g x (by simp only; omega)).trans h5, h6⟩⟩
theorem Ic.owns_slice3 {w : World} {base : Nat} {e : TypeId} {size : Nat} {v : Value} {n : Nat} {xs : List Value} (h : w.ownsRow base e size v n xs) : ∃ a k c, v = .slice a k c := by
  obtain ⟨_, ⟨h2, _⟩ | ⟨g, cap, cur, h3, _⟩⟩ := h
  · exact ⟨_, _, _, h2⟩
  · exact ⟨_, _, _, h3⟩
/-- The answer so far: its block, its list, nothing below it turned. -/
structure Ic.Tw (w2 w : World) (ob : Nat) (sv : Value) (xs : List Int) : Prop where
  own : Own w ob 47 [.int .i64 0, sv]
  row : w.ownsRow (ob + 1) 2 1 sv xs.length (xs.map (Value.int .i64))
  bel : Below ob w2 w
theorem Ic.Tw.step {w2 w wA : World} {ob : Nat} {sv v : Value} {xs : List Int} {k : Int} {o : Obj} (h : Ic.Tw w2 w ob sv xs) (ho : wA.ownsRow (ob + 1) 2 1 v (xs.length + 1) (xs.map (Value.int .i64) ++ [.int .i64 k])) (hg : (w.alloc o).grownBy wA sv.ownBlock) :
    Own wA ob 47 [.int .i64 0, sv] ∧ Ic.Tw w2 (wA.setCell ⟨ob, 1, none⟩ v) ob v (xs ++ [k]) := by
  have hl := h.own.lt
  have b1 : Below (ob + 1) w wA := ((Below.refl (ob + 1) w).alloc (by omega) o).grown hg (by simp; omega) (ownsRow_base h.row)
  have oA : Own wA ob 47 [.int .i64 0, sv] := h.own.below b1 (by omega)
  refine ⟨oA, ⟨oA.set 1 v, Ic.owns_far (by rw [List.length_append, List.map_append]; exact ho) (by omega) _ _, (h.bel.trans (b1.mono (by omega))).setCell (Nat.le_refl _) _⟩⟩

end Go.Proofs.YtgjbibkppofjfaaDoor

namespace Go.Proofs.YtgjbibkppofjfaaDoor
open Go.RowKit
set_option linter.unusedVariables false
set_option linter.unusedSimpArgs false


theorem Bs.found {xs : List Int} {x : Int} {p : Nat} (h : Bs.Pos xs x p) (hp : xs.Pairwise (· < ·)) : decide (p < xs.length ∧ xs.getD p 0 = x) = decide (x ∈ xs) := by
  rw [decide_eq_decide]
  constructor
  · rintro ⟨h1, h2⟩
    rw [List.getD_eq_getElem?_getD, List.getElem?_eq_getElem h1] at h2
    simp only [Option.getD_some] at h2
    rw [← h2]; exact List.getElem_mem h1
  · intro hm
    obtain ⟨i, hi, e⟩ := List.mem_iff_getElem.1 hm
    have e2 : xs.getD i 0 = x := by rw [List.getD_eq_getElem?_getD, List.getElem?_eq_getElem hi]; exact e
    by_cases c : i < p
    · have := h.2.1 i c; omega
    · by_cases c2 : i = p
      · subst c2; exact ⟨hi, e2⟩
      · have h3 := Bs.rises hp p i (by omega) hi
        have h4 := h.2.2 p (Nat.le_refl _) (by omega)
        omega
theorem Ic.hit_found {l : List Ic} {rg : Int} (hall : ∀ j, j < l.length → Ic.oneF (l.getD j Ic.zero) j l.length rg = 0) (x : Int) : decide (x ∈ Ic.tg l l.length) = Ic.hit l x l.length := by
  have := Ic.tg_hit hall x
  cases h : Ic.hit l x l.length with
  | true => exact decide_eq_true (this.2 h)
  | false => exact decide_eq_false (fun q => by rw [this.1 q] at h; cases h)
theorem an_yes {a b : Bool} (h : true = (a && !b)) : a = true ∧ b = false := by cases a <;> cases b <;> simp_all
theorem an_no {a b : Bool} (h : false = (a && !b)) : (a = false ∧ (b = true ∨ b = false)) ∨ (a = true ∧ b = true) := by cases a <;> cases b <;> simp_all
set_option maxRecDepth 100000 in
set_option maxHeartbeats 4000000 in
theorem staying_any (B : Nat) (a : Option Addr) (n c : Nat) (b : Nat) (l : List Ic) (rg : Int) (w : World) (hrow : Ic.Row w b l) (hb : b < w.heap.size) (hn : l.length ≤ 6000) (hall : ∀ j, j < l.length → Ic.oneF (l.getD j Ic.zero) j l.length rg = 0) (ht : ResI w B (.slice a n c) (Ic.tg l l.length)) :
    Calls Tryd.prog 19 #[.slice (some ⟨b, 0, none⟩) l.length l.length, .slice a n c] w fun e w' => ∃ v, e = .returned v ∧ ResI w' w.heap.size v (Ic.kept l l.length) ∧ Below w.heap.size w w' := by
  obtain ⟨i6, hi6, hq0, hq1, hq2⟩ := info_parts Tryd.info2
  have HR := hide hrow
  have HT := hide ht
  have HF := hide (Ic.hit_found hall)
  clear hrow ht hall
  go_enter Tryd.func19, Tryd.ntmps19
  go_wp2_with fail
  go_loopg [5, 6] l.length (fun gh s5 s6 wr => ∃ (k : Nat), Hid (gh = l.length - k) ∧ s6 = .int .i64 (k : Int) ∧ k ≤ l.length ∧ Hid (Ic.snd l k = false) ∧ Hid (wr.ownsRow w.heap.size 2 1 s5 (Ic.kept l k).length ((Ic.kept l k).map (Value.int .i64))) ∧ Below w.heap.size w wr)
  case atStart => exact ⟨0, rfl, rfl, by omega, rfl, World.ownsRow_nil _ _ _ _, Below.refl _ _⟩
  case round =>
    rename_i s5 _
    obtain ⟨k, hg, rfl, hk, hsn, hown, hbel⟩ := hrel
    obtain ⟨va, vk, vc, rfl⟩ := Ic.owns_slice3 hown.out
    by_cases hlt : k < l.length
    · have hltI : (k : Int) < (l.length : Int) := by omega
      have hk0 : (0 : Int) ≤ (k : Int) := by omega
      have HBS := hide ((bs_any ((k : Int) + 1) wr ((unhide HT).below hbel) (Ic.tg_rises l l.length)).mono (R' := fun e w' => w' = wr ∧ ∃ p : Nat, e = .returned (.tuple #[.int .i64 (p : Int), .bool (Ic.hit l ((k : Int) + 1) l.length)])) (by
        rintro e w' ⟨h1, p, h2, h3⟩
        exact ⟨h1, p, by rw [h3, Bs.found h2 (Ic.tg_rises l l.length), (unhide HF)]⟩))
      have HIP := hide (isPairAt_any k b l wr ((unhide HR).below hbel hb) hlt (by omega))
      have HPA := hide (show Ic.pairAt l k = (Ic.ipa l k && !Ic.hit l ((k : Int) + 1) l.length) from rfl)
      have HPAIR := hide (fun hpr => Ic.go_pair (l := l) (i := k) hsn.out hpr)
      have HNX := hide (fun hpr => Ic.pair_next (l := l) (i := k) hpr)
      have HONE := hide (fun hpr => Ic.go_one (l := l) (i := k) hsn.out hpr)
      have hkl := Ic.kept_len l k
      have hown1 := hide (fun o => hown.out.alloc o)
      have hone := hide (one_word wr (k : Int))
      have honep := hide (one_plain (k : Int))
      have hb63 : (Ic.kept l k).length + 1 ≤ maxLen := by unfold maxLen; omega
      have hby : ((Ic.kept l k).length + 1) * 8 ≤ 140737488355328 := by omega
      have hbase : w.heap.size ≤ wr.heap.size + 1 := by have := hbel.size; omega
      have hbo := hide (ownsRow_base hown.out)
      generalize Ic.ipa l k = IPA at *
      generalize Ic.hit l ((k : Int) + 1) l.length = HH at *
      generalize Ic.pairAt l k = PQ at *
      clear hsn
      go_wp2_with fail
      refine (unhide HBS).mono ?_
      rintro e w2 ⟨hw2, p, rfl⟩
      rw [hw2]
      clear hw2 HBS
      go_wp2_with fail
      refine (unhide HIP).mono ?_
      rintro e w3 ⟨rfl, hw3⟩
      rw [hw3]
      clear hw3 HIP
      by_cases hpq : PQ = true
      · have hx : IPA = true ∧ HH = false := by have := unhide HPA; rw [hpq] at this; exact an_yes this
        obtain ⟨rfl, rfl⟩ := hx
        have hn1 := (unhide HNX) hpq
        obtain ⟨q1, _, q3⟩ := (unhide HPAIR) hpq
        have Q1 := hide q1
        have Q2 := hide (show wr.ownsRow w.heap.size 2 1 (.slice va vk vc) (Ic.kept l (k + 2)).length ((Ic.kept l (k + 2)).map (Value.int .i64)) by rw [q3]; exact hown.out)
        clear HPA HPAIR HONE HNX hown1 hone honep q1 q3 hpq hown hbo
        go_wp2_with fail
        go_roundg (l.length - (k + 2))
        case rel => exact ⟨k + 2, rfl, by go_num, by omega, unhide Q1, unhide Q2, hbel⟩
        case measure => have := hg.out; omega
      · have hpq2 : PQ = false := by simpa using hpq
        obtain ⟨q1, q3⟩ := (unhide HONE) hpq2
        have Q1 := hide q1
        have Q3 := hide q3
        have hcase : (IPA = false ∧ (HH = true ∨ HH = false)) ∨ (IPA = true ∧ HH = true) := by have := unhide HPA; rw [hpq2] at this; exact an_no this
        clear HPA HPAIR HONE HNX q1 q3 hpq hpq2
        generalize hKK : Ic.kept l k = KK at *
        rcases hcase with ⟨rfl, rfl | rfl⟩ | ⟨rfl, rfl⟩
        all_goals
          clear hKK
          go_wp2_with (at_builtin; refine wpList_append_own _ rfl (.tmp 31) (.tmp 33) 38 rfl w.heap.size 2 i6 (.int .i64 0) 1 8 Tryd.underlying38 hi6 hq0 hq1 hq2 rfl (by decide) _ KK.length _ rfl ((unhide hown1) _) ⟨wr.heap.size, 0, none⟩ 1 1 [.int .i64 (k : Int)] rfl rfl (unhide hone) (unhide honep) hb63 hby (by simpa using hbase) ?_)
          intro v' wA ho1 hg1 _
          obtain ⟨xa, xn, xc, rfl⟩ := Ic.owns_slice3 ho1
          have BA : Below w.heap.size w wA := hbel.trans (((Below.refl w.heap.size wr).alloc hbel.size _).grown hg1 (by have := hbel.size; simp; omega) (unhide hbo))
          have Q2 := hide (show wA.ownsRow w.heap.size 2 1 (.slice xa xn xc) (Ic.kept l (k + 1)).length ((Ic.kept l (k + 1)).map (Value.int .i64)) by rw [unhide Q3, List.length_append, List.map_append]; exact ho1)
          clear ho1 hg1 hown1 hone honep Q3 hown hbo
          go_wp2_with fail
          go_roundg (l.length - (k + 1))
          case rel => exact ⟨k + 1, rfl, by go_num, by omega, unhide Q1, unhide Q2, BA⟩
          case measure => have := hg.out; omega
    · have hke : k = l.length := by omega
      subst hke
      have hkl := Ic.kept_len l l.length
      have FIN := hide (resI_of_owns hown.out (by omega))
      clear hown
      go_wp2_with fail
      go_ret
      exact ⟨_, rfl, unhide FIN, hbel⟩

end Go.Proofs.YtgjbibkppofjfaaDoor
