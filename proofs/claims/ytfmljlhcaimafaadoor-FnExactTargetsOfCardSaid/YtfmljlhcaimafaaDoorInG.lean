/-
  impl.TargetsOf.
-/
import Derived.Test.YtfmljlhcaimafaaDoorInE
import Derived.Test.YtfmljlhcaimafaaDoorInD
import Derived.Test.YtfmljlhcaimafaaDoorShelfK
namespace Go.Proofs.YtfmljlhcaimafaaDoor
open Go.RowKit
set_option linter.unusedVariables false
set_option linter.unusedSimpArgs false


namespace Ic
/-- What TargetsOf answers. -/
def ToSaid (w : World) (l : List Ic) (rg : Int) (e : Ending) (w' : World) : Prop := ∃ s : Value, e = .returned (.agg #[.int .i64 (targetsOut l rg).1, s]) ∧ ResI w' w.heap.size s (targetsOut l rg).2 ∧ Below w.heap.size w w'
theorem to_of {w w' : World} {l : List Ic} {rg c : Int} {r : List Int} {s : Value} (h : targetsOut l rg = (c, r)) (hr : ResI w' w.heap.size s r) (hb : Below w.heap.size w w') : ToSaid w l rg (.returned (.agg #[.int .i64 c, s])) w' := ⟨s, by rw [h], by rw [h]; exact hr, hb⟩
end Ic

open Go.Maps Go.Sort Go.Shelf
theorem keys_sorts (m : Nat) : AnyZI.SortsIn Tryd.prog Tryd.sortedA_ren Fence.wide m :=
  ⟨fun blk off cap ss W hH hblk hsz => callsIn_wide.2 (AnyM.slices_Sort_int Tryd.sortA blk off cap ss W hH hblk hsz),
   fun p cap W => callsIn_wide.2 (AnyM.slices_Sort_int_none Tryd.sortA p cap W)⟩
theorem keys_call (mb : Option Nat) (w : World) : Calls Tryd.prog 47 #[.map mb] w fun e w' => e = .returned (.func (.func 67) #[] #[.pointer (some ⟨w.heap.size, 0, none⟩)]) ∧ w' = w.alloc (.cells #[.map mb] 74) :=
  (callsIn_wide (n := 5)).1 (AnyZI.keys_in Tryd.keysA Fence.wide 5 trivial rfl mb w)
theorem sorted_call (b nn : Nat) (D0 : DataW Unit) (R : Value → Option (DataW Unit × List MemPlace)) (w : World) (hown : w.ownsMap Tryd.prog 2 R b nn D0) (hmax : Maps.size D0 ≤ 1000000) :
    Calls Tryd.prog 46 #[.func (.func 67) #[] #[.pointer (some ⟨w.heap.size, 0, none⟩)]] (w.alloc (.cells #[.map (some b)] 74)) fun e w' => ∃ (v : Value) (ss : List Int), e = .returned v ∧ ss.Perm (intKeys D0) ∧
      w'.ownsRow (w.heap.size + 1) 2 1 v ss.length ((ss.mergeSort leI).map (Value.int .i64)) ∧ Below w.heap.size w w' := by
  have hbl := hown.lt
  have hseq : SeqGives Fence.wide 2 Tryd.prog 67 #[.pointer (some ⟨w.heap.size, 0, none⟩)] encZ (fun ss => ss.Perm (intKeys D0)) (Maps.size D0) (w.alloc (.cells #[.map (some b)] 74)) :=
    AnyZI.keys_gives (ρ := Tryd.keysA_ren) { Tryd.keysA with } Fence.wide _ trivial rfl (by omega) w.heap.size b nn D0 _ (by simp) (by simp) (by
      obtain ⟨es, clock, hb, Ft, hs, hD⟩ := hown
      exact ⟨es, clock, (Below.heap_alloc _ _ b hbl).trans hb, Ft, hs, hD⟩)
  have cS := AnyZI.sorted_in Tryd.sortedA Fence.wide 5 trivial trivial trivial trivial rfl (by omega) (keys_sorts _) (enters_of Tryd.func66 (by kernel_rfl) rfl) 67 #[.pointer (some ⟨w.heap.size, 0, none⟩)] trivial (enters_of Tryd.func67 (by kernel_rfl) rfl) _ _ (by unfold maxLen; omega) (by omega) _ hseq
  change CallsIn _ _ Tryd.prog 46 _ _ _ at cS
  refine ((callsIn_wide (n := 5)).1 cS).mono ?_
  rintro e w' ⟨v, ss, he, hS, hrow, _, hb⟩
  exact ⟨v, ss, he, hS, ownsRow_base_a hrow (by simp), ((Below.refl _ w).alloc (Nat.le_refl _) _).trans (hb.mono (by simp))⟩

set_option maxRecDepth 100000 in
set_option maxHeartbeats 8000000 in
theorem implTargetsOf_any (b : Nat) (l : List Ic) (rg : Int) (w : World) (hrow : Ic.Row w b l) (hb : b < w.heap.size) (hsz : ∀ i, i < l.length → (l.getD i Ic.zero).val.length ≤ 1048576) (hok : ∀ c ∈ l, c.ok) (hn : l.length ≤ 1048576) (hS : Shp w) :
    Calls Tryd.prog 25 #[.slice (some ⟨b, 0, none⟩) l.length l.length, .int .i64 rg] w (Ic.ToSaid w l rg) := by
  obtain ⟨w0, hw0⟩ : ∃ w0, w0 = w.alloc (.cells #[.int .i64 0, .slice none 0 0] 36) := ⟨_, rfl⟩
  have B0 : Below w.heap.size w w0 := by rw [hw0]; exact (Below.refl _ _).alloc (Nat.le_refl _) _
  have O0 : Own w0 w.heap.size 36 [.int .i64 0, .slice none 0 0] := by rw [hw0]; exact ⟨_, heap_alloc_new _ _, rfl⟩
  have hs0 : w0.heap.size = w.heap.size + 1 := by rw [hw0]; simp
  have HC := hide (implCode_any b l rg w0 (hrow.below B0 hb) (Nat.lt_of_lt_of_le hb B0.size) hsz hok hn (hS.below B0))
  have HBAD := hide (fun h => Ic.targets_bad (l := l) (rg := rg) h)
  have HOK := hide (fun (h : (Ic.fault l rg).1 = 0) => Ic.fault_parts h)
  have HOUT := hide (fun (h : (Ic.fault l rg).1 = 0) => Ic.targets_ok (l := l) (rg := rg) h)
  have HR := hide hrow
  have HS := hide hS
  have HS0 := hide hs0
  have HCF := hide (show ∀ e w', Ic.CfSaid w0 l rg e w' → e = .returned (.agg #[.int .i64 (Ic.fault l rg).1, .int .i64 (Ic.fault l rg).2, .slice none 0 0, .int .i64 0]) ∧ Below w0.heap.size w0 w' from fun e w' h => h)
  clear hrow hsz hok hs0 hS
  obtain ⟨x, y, hxy⟩ : ∃ x y, Ic.fault l rg = (x, y) := ⟨_, _, rfl⟩
  rw [hxy] at HCF HBAD HOK HOUT
  clear hxy
  go_enter Tryd.func25, Tryd.ntmps25
  go_wp2_with fail
  rw [← hw0]
  clear hw0
  refine (unhide HC).mono ?_
  rintro e w2 hcf
  obtain ⟨rfl, hb2⟩ := (unhide HCF) e w2 hcf
  have BW2 : Below w.heap.size w w2 := B0.trans (hb2.mono B0.size)
  have O2 := O0.below hb2 O0.lt
  have hs2 : w.heap.size + 1 ≤ w2.heap.size := by have := hb2.size; have := unhide HS0; omega
  clear hcf HC HCF hb2 O0 B0
  obtain ⟨w3, hw3⟩ : ∃ w3, w3 = w2.alloc (.cells #[.int .i64 x, .int .i64 y, .slice none 0 0, .int .i64 0] 26) := ⟨_, rfl⟩
  have BW3 : Below w.heap.size w w3 := by rw [hw3]; exact BW2.alloc BW2.size _
  have O3 : Own w3 w.heap.size 36 [.int .i64 0, .slice none 0 0] := by rw [hw3]; exact O2.alloc _
  have F3 : Own w3 w2.heap.size 26 [.int .i64 x, .int .i64 y, .slice none 0 0, .int .i64 0] := by rw [hw3]; exact ⟨_, heap_alloc_new _ _, rfl⟩
  have f0 : w3.cell? ⟨w2.heap.size, 0, none⟩ = some (.int .i64 x) := F3.cell 0
  have hs3 : w.heap.size + 1 ≤ w3.heap.size := by have := F3.lt; omega
  have f0' := f0
  rw [hw3] at f0'
  by_cases hx : x = 0
  · subst hx
    obtain ⟨⟨hr0, hr1⟩, ⟨hl1, hl6⟩, hall, _⟩ := (unhide HOK) (by first | rfl | trivial)
    have fin := hide ((unhide HOUT) (by first | rfl | trivial))
    have HA := hide hall
    have T0 := hide (Tm.start w3 l)
    obtain ⟨mb, hmb⟩ : ∃ mb, mb = w2.heap.size + 1 := ⟨_, rfl⟩
    have hs3e : w3.heap.size = mb := by rw [hw3, hmb]; simp
    obtain ⟨w4, hw4⟩ : ∃ w4, w4 = w3.alloc (.map #[] 0) := ⟨_, rfl⟩
    rw [hs3e, ← hw4] at T0
    have B4 : Below mb w3 w4 := by rw [hw4, ← hs3e]; exact (Below.refl _ _).alloc (Nat.le_refl _) _
    have hmb1 : w.heap.size + 1 ≤ mb := by omega
    have HMB := hide hmb
    have hmm := @run_makeMap Tryd.prog
    clear hall F3 f0 hmb
    go_wp2_with fail
    rw [← hw3, ← hw4, ← unhide HMB]
    clear hw3 hw4 hmm f0'
    go_loopg [21] l.length (fun gh s21 wr => ∃ k : Nat, Hid (gh = l.length - k) ∧ s21 = .int .i64 (k : Int) ∧ k ≤ l.length ∧ Hid (Tm wr mb k l k) ∧ Below mb w3 wr)
    case atStart => exact ⟨0, rfl, rfl, by omega, unhide T0, B4⟩
    case round =>
      clear T0 B4
      obtain ⟨k, hg, rfl, hk, HTm, hbel⟩ := hrel
      have BW : Below w.heap.size w wr := BW3.trans (hbel.mono (by omega))
      by_cases hlt : k < l.length
      · have hltI : (k : Int) < (l.length : Int) := by omega
        obtain ⟨f0, f1, vg, f2, hvg, hvr⟩ := ((unhide HR).below BW hb) k hlt
        have hone1 := (unhide HA) k hlt
        have hop1 := (Ic.one_parts hone1).1
        have hjmp := hide (fun h => Ic.one_jump hone1 h)
        have HPT := hide (fun (W : World) (p : Nat) (v : Int) (h : Tm W mb k l k) h1 h2 h3 h4 h5 h6 => h.put p v h1 (by omega) h2 h3 h4 h5 h6)
        have HSK := hide (fun (W : World) (h : Tm W mb k l k) h1 => (h.skip h1).more (show k ≤ k + 1 by omega))
        clear hone1 hvr
        generalize l.getD k Ic.zero = n at *
        obtain ⟨nop, narg, nval⟩ := n
        dsimp only at *
        obtain ⟨op, rfl⟩ : ∃ op : Nat, nop = (op : Int) := ⟨nop.toNat, by omega⟩
        have hopl : op < 20 := by omega
        have hopI : (op : Int) < 20 := by omega
        have hop0 : (0 : Int) ≤ (op : Int) := by omega
        obtain ⟨w5, hw5⟩ : ∃ w5, w5 = wr.alloc (.cells #[.int .i64 (op : Int), .int .i64 narg, .slice (some ⟨vg, 0, none⟩) nval.length nval.length] 54) := ⟨_, rfl⟩
        have K5 : Below wr.heap.size wr w5 := by rw [hw5]; exact (Below.refl _ _).alloc (Nat.le_refl _) _
        have N5 : Own w5 wr.heap.size 54 [.int .i64 (op : Int), .int .i64 narg, .slice (some ⟨vg, 0, none⟩) nval.length nval.length] := by rw [hw5]; exact ⟨_, heap_alloc_new _ _, rfl⟩
        have hmw : mb ≤ wr.heap.size := Nat.le_of_lt (unhide HTm).lt
        have B5 : Below mb w3 w5 := hbel.trans (K5.mono hmw)
        have T5 := hide ((unhide HTm).below K5)
        have BW5 : Below w.heap.size w w5 := BW3.trans (B5.mono (by omega))
        obtain ⟨t0, t1, t2, t3, t4, t5⟩ := ((unhide HS).below BW5).cell op hopl
        have n0 := N5.cell 0
        have n1 := N5.cell 1
        simp only [List.getElem?_cons_zero, List.getElem?_cons_succ] at n0 n1
        clear t0 t2 t3 t4 t5 N5 HTm
        cases hj : Ic.jumps (op : Int) with
        | true =>
          have hjb := (unhide hjmp) hj
          obtain ⟨u, rfl⟩ : ∃ u : Nat, narg = (u : Int) := ⟨narg.toNat, by omega⟩
          obtain ⟨c, hlk, hc0, hc1⟩ := (unhide T5).look u (by omega)
          obtain ⟨w6, hup, hT6, hk6⟩ := (unhide HPT) w5 u (c + 1) (unhide T5) (by omega) (by omega) (by omega) (by omega) hj rfl
          have B6 : Below mb w3 w6 := B5.trans (hk6.below (by have := (unhide T5).lt; omega) (Nat.le_refl _))
          have T6 := hide hT6
          have wr1 : IntKind.i64.wrap (c + 1) = c + 1 := IntWalk.i64_in _ ⟨by omega, by omega⟩
          rw [Ic.jump_K hj] at t1
          rw [hw5] at t1 n0 n1 hlk hup
          clear hT6 hk6 hjmp HPT HSK hjb T5 hw5
          go_wp2_with fail
          go_roundg (l.length - (k + 1))
          case rel => exact ⟨k + 1, rfl, by go_num, by omega, unhide T6, B6⟩
          case measure => have := hg.out; omega
        | false =>
          have g3 : (Ic.argK (op : Int) == 3) = false := beq_eq_false_iff_ne.2 (fun e => by rw [Ic.K_jump e] at hj; cases hj)
          have T6 := hide ((unhide HSK) w5 (unhide T5) hj)
          rw [hw5] at t1 n0 n1
          generalize Ic.argK (op : Int) = ak at *
          clear hjmp HPT HSK T5
          go_wp2_with fail
          try rw [← hw5]
          go_roundg (l.length - (k + 1))
          case rel => exact ⟨k + 1, rfl, by go_num, by omega, unhide T6, by first | exact B5 | (rw [← hw5]; exact B5)⟩
          case measure => have := hg.out; omega
      · have hge : ¬ (k : Int) < (l.length : Int) := by omega
        have hke : k = l.length := by omega
        subst hke
        obtain ⟨D, hD, hDs, hDk⟩ := (unhide HTm).keys (unhide HA)
        have HSO := hide (sorted_call mb _ D _ wr hD (by omega))
        have hmw : mb ≤ wr.heap.size := Nat.le_of_lt (unhide HTm).lt
        have O4 := O3.below hbel (by omega)
        have HDK := hide hDk
        have hbsz := BW.size
        clear HTm hD hDk
        go_wp2_with fail
        refine (keys_call _ _).mono ?_
        rintro e w6 ⟨rfl, rfl⟩
        go_wp2_with fail
        refine (unhide HSO).mono ?_
        rintro e w7 ⟨v, ss, rfl, hS, hrw, hb7⟩
        obtain ⟨hq1, hq2⟩ := (unhide HDK) ss hS
        rw [hq1, hq2] at hrw
        have BW7 : Below w.heap.size w w7 := BW.trans (hb7.mono BW.size)
        have O7 := O4.below hb7 O4.lt
        have htl := Ic.tg_len l l.length
        have R7 := hide ((resI_of_owns hrw (by omega)).mono (show w.heap.size + 1 ≤ wr.heap.size + 1 by omega))
        obtain ⟨av, nv, cv, rfl⟩ := (unhide R7).shape
        have c0 := O7.cell 0
        have z0 := O7.frozen 0
        have c1 := O7.cell 1
        have z1 := O7.frozen 1
        simp only [List.getElem?_cons_zero, List.getElem?_cons_succ] at c0 c1
        clear hb7 hrw HSO O7 O4 hS hq1 hq2 HDK
        go_wp2_with fail
        refine bodyPost_ret (v := .agg #[.int .i64 0, .slice av nv cv]) (by simp [results, Tryd.results25, go_sem, c0, c1]; try rfl) rfl (Ic.to_of (unhide fin) (Ic.res2 (unhide R7) _ _) (Ic.sets2 BW7 _ _))
  · have g1 : (x != 0) = true := by simpa using hx
    have fin := hide ((unhide HBAD) hx)
    have c0 := O3.cell 0
    have z0 := O3.frozen 0
    have c1 := O3.cell 1
    have z1 := O3.frozen 1
    simp only [List.getElem?_cons_zero, List.getElem?_cons_succ] at c0 c1
    rw [hw3] at c0 c1 z0 z1
    clear hx O2 O3 F3 f0
    go_wp2_with fail
    rw [← hw3] at *
    refine bodyPost_ret (v := .agg #[.int .i64 x, .slice none 0 0]) (by simp [results, Tryd.results25, go_sem, c0, c1]; try rfl) rfl (Ic.to_of (unhide fin) (Ic.resI_none _ _) (Ic.sets2 BW3 _ _))

end Go.Proofs.YtfmljlhcaimafaaDoor
