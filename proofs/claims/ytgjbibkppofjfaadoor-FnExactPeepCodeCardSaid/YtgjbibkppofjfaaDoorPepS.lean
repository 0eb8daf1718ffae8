/-
  spec.PeepCode.
-/
import Derived.Test.YtgjbibkppofjfaaDoorPepT
import Derived.Test.YtgjbibkppofjfaaDoorInC
import Derived.Test.YtgjbibkppofjfaaDoorPepI
import Derived.Test.YtgjbibkppofjfaaDoorInH
import Derived.Test.YtgjbibkppofjfaaDoorCmW
import Derived.Test.YtgjbibkppofjfaaDoorTreO
import Derived.Test.YtgjbibkppofjfaaDoorAnyZ
import Derived.Deep.RegionHeld3
import Derived.Deep.CutRange
namespace Go.Proofs.YtgjbibkppofjfaaDoor
open Go.RowKit
set_option linter.unusedVariables false
set_option linter.unusedSimpArgs false


namespace Pe
/-- What PeepCode answers. -/
def Said (w : World) (l : List Ic) (rg : Int) (e : Ending) (w' : World) : Prop := ∃ (v : Value) (cs : List (Ic × Value)), e = .returned (.agg #[.int .i64 (Ic.peepOut l rg).1, .int .i64 (Ic.peepOut l rg).2.1, v, .int .i64 (Ic.peepOut l rg).2.2.2]) ∧ cs.map Prod.fst = (Ic.peepOut l rg).2.2.1 ∧ Cm.Rw w' w.heap.size v cs ∧ (Cm.bls cs).Nodup ∧ Below w.heap.size w w'
theorem said_bad {w w' : World} {l : List Ic} {rg x y : Int} (h : Ic.peepOut l rg = (x, y, [], 0)) (hb : Below w.heap.size w w') : Said w l rg (.returned (.agg #[.int .i64 x, .int .i64 y, .slice none 0 0, .int .i64 0])) w' := ⟨.slice none 0 0, [], by rw [h], by rw [h]; rfl, Cm.Rw.nil _ _, List.nodup_nil, hb⟩
theorem said_ok {w w' : World} {l : List Ic} {rg : Int} {v : Value} {cs : List (Ic × Value)} {B : Nat} (h : Ic.peepOut l rg = (0, 0, Ic.peeped l, rg)) (hc : cs.map Prod.fst = Ic.peeped l) (hr : Cm.Rw w' B v cs) (hB : w.heap.size ≤ B) (hd : (Cm.bls cs).Nodup) (hb : Below w.heap.size w w') : Said w l rg (.returned (.agg #[.int .i64 0, .int .i64 0, v, .int .i64 rg])) w' :=
  ⟨v, cs, by rw [h], by rw [h]; exact hc, ⟨Tr.owns_mono hr.1 hB, fun p hp => (hr.2 p hp).mono hB⟩, hd, hb⟩
theorem sets4 {B : Nat} {w w' : World} (h : Below B w w') (x0 x1 x2 x3 : Value) : Below B w ((((w'.setCell ⟨B, 0, none⟩ x0).setCell ⟨B, 1, none⟩ x1).setCell ⟨B, 2, none⟩ x2).setCell ⟨B, 3, none⟩ x3) := (((h.setCell (Nat.le_refl _) _).setCell (Nat.le_refl _) _).setCell (Nat.le_refl _) _).setCell (Nat.le_refl _) _
theorem rw4 {w : World} {B base : Nat} {v : Value} {cs : List (Ic × Value)} (h : Cm.Rw w base v cs) (hB : B < base) (x0 x1 x2 x3 : Value) : Cm.Rw ((((w.setCell ⟨B, 0, none⟩ x0).setCell ⟨B, 1, none⟩ x1).setCell ⟨B, 2, none⟩ x2).setCell ⟨B, 3, none⟩ x3) base v cs :=
  h.keep fun b _ hb => by
    have ne : ∀ j, b ≠ (⟨B, j, none⟩ : Addr).block := fun j e => by simp only at e; omega
    rw [heap_setCell_other _ ⟨B, 3, none⟩ b _ (ne 3), heap_setCell_other _ ⟨B, 2, none⟩ b _ (ne 2), heap_setCell_other _ ⟨B, 1, none⟩ b _ (ne 1), heap_setCell_other _ ⟨B, 0, none⟩ b _ (ne 0)]
end Pe

set_option maxRecDepth 100000 in
set_option maxHeartbeats 8000000 in
theorem specPeep_any (b : Nat) (l : List Ic) (rg : Int) (w : World) (hrow : Ic.Row w b l) (hb : b < w.heap.size) (hsz : ∀ i, i < l.length → (l.getD i Ic.zero).val.length ≤ 1048576) (hok : ∀ c ∈ l, c.ok) (hn : l.length ≤ 1048576) :
    Calls Tryd.prog 5 #[.slice (some ⟨b, 0, none⟩) l.length l.length, .int .i64 rg] w (Pe.Said w l rg) := by
  obtain ⟨w0, hw0⟩ : ∃ w0, w0 = w.alloc (.cells #[.int .i64 0, .int .i64 0, .slice none 0 0, .int .i64 0] 26) := ⟨_, rfl⟩
  have B0 : Below w.heap.size w w0 := by rw [hw0]; exact (Below.refl _ _).alloc (Nat.le_refl _) _
  have O0 : Own w0 w.heap.size 26 [.int .i64 0, .int .i64 0, .slice none 0 0, .int .i64 0] := by rw [hw0]; exact ⟨_, heap_alloc_new _ _, rfl⟩
  have hs0 : w0.heap.size = w.heap.size + 1 := by rw [hw0]; simp
  have HC := hide (specCode_any b l rg w0 (hrow.below B0 hb) (Nat.lt_of_lt_of_le hb B0.size) hsz hok hn)
  have HBAD := hide (fun h => Ic.peep_bad (l := l) (rg := rg) h)
  have HOK := hide (fun (h : (Ic.fault l rg).1 = 0) => Ic.fault_parts h)
  have HOUT := hide (fun (h : (Ic.fault l rg).1 = 0) => Ic.peep_ok (l := l) (rg := rg) h)
  have HR := hide hrow
  have HSZ := hide hsz
  have HS0 := hide hs0
  have HCF := hide (show ∀ e w', Ic.CfSaid w0 l rg e w' → e = .returned (.agg #[.int .i64 (Ic.fault l rg).1, .int .i64 (Ic.fault l rg).2, .slice none 0 0, .int .i64 0]) ∧ Below w0.heap.size w0 w' from fun e w' h => h)
  clear hrow hsz hok hs0
  obtain ⟨x, y, hxy⟩ : ∃ x y, Ic.fault l rg = (x, y) := ⟨_, _, rfl⟩
  rw [hxy] at HCF HBAD HOK HOUT
  clear hxy
  obtain ⟨i1, hi1, hy0, hy1, hy2⟩ := info_parts Tryd.info74
  obtain ⟨i0, hi, hz0, hz1, hz2⟩ := info_parts Cm.infoIn
  go_enter Tryd.func5, Tryd.ntmps5
  go_wp2_with fail
  rw [← hw0]
  clear hw0
  refine (unhide HC).mono ?_
  rintro e w2 hcf
  obtain ⟨rfl, hb2⟩ := (unhide HCF) e w2 hcf
  have BW2 : Below w.heap.size w w2 := B0.trans (hb2.mono B0.size)
  have O2 := O0.below hb2 O0.lt
  have hs2 : w.heap.size + 1 ≤ w2.heap.size := by have := hb2.size; have := unhide HS0; omega
  clear hcf HC HCF hb2 O0 B0
  obtain ⟨w3, hw3⟩ : ∃ w3, w3 = w2.alloc (.cells #[.int .i64 x, .int .i64 y, .slice none 0 0, .int .i64 0] 26) := ⟨_, rfl⟩
  have BW3 : Below w.heap.size w w3 := by rw [hw3]; exact BW2.alloc BW2.size _
  have O3 : Own w3 w.heap.size 26 [.int .i64 0, .int .i64 0, .slice none 0 0, .int .i64 0] := by rw [hw3]; exact O2.alloc _
  have F3 : Own w3 w2.heap.size 26 [.int .i64 x, .int .i64 y, .slice none 0 0, .int .i64 0] := by rw [hw3]; exact ⟨_, heap_alloc_new _ _, rfl⟩
  have hs3 : w3.heap.size = w2.heap.size + 1 := by rw [hw3]; simp
  by_cases hx : x = 0
  · subst hx
    obtain ⟨⟨hr0, hr1⟩, ⟨hl1, hl6⟩, hall, _⟩ := (unhide HOK) (by first | rfl | trivial)
    have fin := hide ((unhide HOUT) (by first | rfl | trivial))
    have HA := hide hall
    have f0' := F3.cell 0
    rw [hw3] at f0'
    simp only [List.getElem?_cons_zero] at f0'
    have hmk := Ic.makeI_run l.length (by omega)
    obtain ⟨ob, hob⟩ : ∃ ob, ob = w2.heap.size + 1 := ⟨_, rfl⟩
    obtain ⟨pb, hpb0⟩ : ∃ pb, pb = ob + 1 := ⟨_, rfl⟩
    obtain ⟨w4, hw4⟩ : ∃ w4, w4 = w3.alloc (.cells #[.int .i64 0, .int .i64 0, .slice none 0 0, .int .i64 rg] 26) := ⟨_, rfl⟩
    obtain ⟨w5, hw5⟩ : ∃ w5, w5 = w4.alloc (.cells (Ic.mkI l.length) 2) := ⟨_, rfl⟩
    have hs4 : w4.heap.size = pb := by rw [hw4, hpb0, hob]; simp [hs3]
    have P0 := hide (show Pe.Ps l rg w3 w5 ob pb 0 0 (.slice none 0 0) [] (List.replicate l.length 0) from
      ⟨by rw [hw5, hw4, hob, ← hs3]; exact Own.alloc ⟨_, heap_alloc_new _ _, rfl⟩ _, Cm.Rw.nil _ _, rfl, List.nodup_nil, by rw [hw5, ← hs4]; exact ⟨_, heap_alloc_new _ _, Ic.mkI_list _⟩, hpb0, by simp, fun j hj => absurd hj (by omega),
        by rw [hw5, hw4, hob, ← hs3]; exact ((Below.refl _ _).alloc (Nat.le_refl _) _).alloc (by simp) _⟩)
    have hob1 : w.heap.size + 1 < ob := by omega
    have HOB := hide hob
    have HPB := hide hpb0
    clear hall F3 hob hpb0 hs4 hs3
    go_wp2_with fail
    rw [← hw3, ← hw4, ← hw5, ← unhide HOB, ← unhide HPB]
    clear hw3 hw4 hw5 hmk f0'
    go_loopg [8] l.length (fun gh s8 wr => ∃ (i : Nat) (v : Value) (cs : List (Ic × Value)) (xs : List Int), Hid (gh = l.length - i) ∧ s8 = .int .i64 (i : Int) ∧ i ≤ l.length ∧ Hid (Ic.snd l i = false) ∧ Hid (Pe.Ps l rg w3 wr ob pb i i v cs xs))
    case atStart => exact ⟨0, _, _, _, rfl, rfl, by omega, rfl, unhide P0⟩
    case round =>
      clear P0
      obtain ⟨i, v, cs, xs, hgi, rfl, hil, hsn, HPs⟩ := hrel
      by_cases hlt : i < l.length
      · have hltI : (i : Int) < (l.length : Int) := by omega
        have hi0 : (0 : Int) ≤ (i : Int) := by omega
        obtain ⟨va, vc, hv⟩ := (unhide HPs).row.slice
        subst hv
        have hcl := (unhide HPs).len
        have hkl := Ic.kept_len l i
        have P1 := (unhide HPs).place (k := i) hlt
        rw [← hcl] at P1
        obtain ⟨wS, hwS⟩ : ∃ wS, wr.setCell ⟨pb, i, none⟩ (.int .i64 (cs.length : Int)) = wS := ⟨_, rfl⟩
        rw [hwS] at P1
        have o2 := (unhide HPs).own.cell 2
        simp only [List.getElem?_cons_zero, List.getElem?_cons_succ] at o2
        have pc := (unhide HPs).pl.cell (j := i) (by rw [(unhide HPs).ln]; exact hlt)
        have pz := Own.frozen (unhide HPs).pl i
        have BS : Below w.heap.size w wS := BW3.trans (P1.bel.mono (by omega))
        have hbS : b < wS.heap.size := Nat.lt_of_lt_of_le hb BS.size
        have HRS := hide ((unhide HR).below BS hb)
        obtain ⟨f0, f1, vg, f2, hvg, hvr⟩ := (unhide HRS) i hlt
        have hvl := (unhide HSZ) i hlt
        have HLT := hide (l10Target_any ((i : Int) + 1) b l wS (unhide HRS) (by omega))
        have HP1 := hide P1
        have HIE := hide (fun h => Ic.ipa_end (l := l) (i := i) h)
        have HIN := hide (fun h => Ic.ipa_next (l := l) (i := i) h)
        have HIL := hide (fun h => Ic.ipa_lays (l := l) (i := i) h)
        have HIY := hide (fun h h1 h2 => Ic.ipa_yes (l := l) (i := i) h h1 h2)
        have HPA := hide (show Ic.pairAt l i = (Ic.ipa l i && !Ic.hit l ((i : Int) + 1) l.length) from rfl)
        have HPUSH := hide (fun (hpr : Ic.pairAt l i = false) (W2 wB : World) (v' x : Value) (B2 : Below wS.heap.size wS W2) ho hg R2 HFR => (P1.below B2).push (wA := wB) (v' := v') (x := x) hsn.out hpr ho hg R2 HFR)
        have HNX := hide (fun (h : i + 1 < l.length) => ((unhide HRS) (i + 1) h).1)
        have HONE := hide (fun hpr => (Ic.go_one (l := l) (i := i) hsn.out hpr).1)
        have HPAIR := hide (fun hpr => (Ic.go_pair (l := l) (i := i) hsn.out hpr).1)
        have HSK := hide (fun (hpr : Ic.pairAt l i = true) => show i + 1 < l.length ∧ Pe.Ps l rg w3 (wS.setCell ⟨pb, i + 1, none⟩ (.int .i64 (cs.length : Int))) ob pb (i + 2) (i + 2) (.slice va cs.length vc) cs _ from ⟨Ic.pair_next hpr, by
          have q := (P1.place (k := i + 1) (Ic.pair_next hpr)).skip hsn.out hpr
          rw [(Ic.go_pair hsn.out hpr).2.1, ← hcl] at q
          exact q⟩)
        have hobb : b < ob := by omega
        have hcn : cs.length ≤ 6000 := by omega
        clear P1 hsn HPs hcl
        generalize Ic.ipa l i = IPA at *
        generalize (l.getD (i + 1) Ic.zero).op = op2 at *
        generalize l.getD i Ic.zero = n at *
        generalize hPQ : Ic.pairAt l i = PQ at *
        clear hPQ
        have HVR := hide hvr
        clear hvr
        go_upto_region 10 with fail
        have o2 := (unhide HP1).own.cell 2
        simp only [List.getElem?_cons_zero, List.getElem?_cons_succ] at o2
        clear hwS
        go_cut [70] from 23 to 100 (fun s70 wx => s70 = .bool PQ ∧ wx = wS)
        case first =>
          clear HPUSH HSK HONE HPAIR
          cases hlo : Ic.laysOne n.op with
          | false =>
            have fin := hide (show PQ = false by rw [unhide HPA, (unhide HIL) hlo]; rfl)
            obtain ⟨a1, a3, a7⟩ := Ic.lays_no hlo
            clear hlo HIE HIN HIL HIY HPA HNX
            go_wp2_with fail
            go_meet
            case rel => exact ⟨by rw [unhide fin], rfl⟩
          | true =>
            have hcase := Ic.lays_cases hlo
            by_cases he : i + 1 < l.length
            · have heI : (i : Int) + 1 < (l.length : Int) := by omega
              have g0 := (unhide HNX) he
              by_cases h2 : op2 = 2
              · have e2 : (op2 == 2) = true := by simpa using h2
                have fin := hide (show PQ = !Ic.hit l ((i : Int) + 1) l.length by rw [unhide HPA, (unhide HIY) hlo he h2]; rfl)
                clear hlo HIE HIN HIL HIY HPA HNX he h2
                generalize Ic.hit l ((i : Int) + 1) l.length = HH at *
                rcases hcase with a1 | ⟨a1, a3⟩ | ⟨a1, a3, a7⟩
                all_goals
                  go_wp2_with fail
                  refine (unhide HLT).mono ?_
                  rintro e w6 ⟨rfl, hw6⟩
                  rw [hw6]
                  clear hw6
                  go_wp2_with fail
                  go_meet
                  case rel => exact ⟨by rw [unhide fin], rfl⟩
              · have e2 : (op2 == 2) = false := by simpa using h2
                have fin := hide (show PQ = false by rw [unhide HPA, (unhide HIN) h2]; rfl)
                clear hlo HIE HIN HIL HIY HPA HNX he h2
                rcases hcase with a1 | ⟨a1, a3⟩ | ⟨a1, a3, a7⟩
                all_goals
                  go_wp2_with fail
                  go_meet
                  case rel => exact ⟨by rw [unhide fin], rfl⟩
            · have heI : ¬ (i : Int) + 1 < (l.length : Int) := by omega
              have fin := hide (show PQ = false by rw [unhide HPA, (unhide HIE) he]; rfl)
              clear hlo HIE HIN HIL HIY HPA HNX he
              rcases hcase with a1 | ⟨a1, a3⟩ | ⟨a1, a3, a7⟩
              all_goals
                go_wp2_with fail
                go_meet
                case rel => exact ⟨by rw [unhide fin], rfl⟩
        case rest =>
        obtain ⟨h70, hwc⟩ := hcut
        subst h70
        subst wc
        clear HIE HIN HIL HIY HPA HNX HLT
        cases PQ with
        | true =>
          obtain ⟨hn1, HQ⟩ := (unhide HSK) rfl
          have HQ2 := hide HQ
          have pc := (unhide HP1).pl.cell (j := i + 1) (by rw [(unhide HP1).ln]; exact hn1)
          have pz := Own.frozen (unhide HP1).pl (i + 1)
          have hn2 := hide ((unhide HPAIR) rfl)
          have hnI : (i : Int) + 1 < (l.length : Int) := by omega
          clear HQ HSK HPUSH HONE HPAIR
          go_wp2_with fail
          go_roundg (l.length - (i + 2))
          case rel => exact ⟨i + 2, _, _, _, rfl, by go_num, by omega, unhide hn2, unhide HQ2⟩
          case measure => have := hgi.out; omega
        | false =>
          have HS := HP1
          have HPUSH := hide ((unhide HPUSH) rfl)
          have hn2 := hide ((unhide HONE) rfl)
          have HA1 := hide (fun (W : World) (hB : Below wS.heap.size wS W) => (hB.cell (by exact hbS)).trans f1)
          have HAV := hide (fun (W : World) (hB : Below wS.heap.size wS W) => (hB.cell (by exact hbS)).trans f2)
          clear HSK HONE HPAIR HP1 pc pz
          go_upto_region 13 with fail
          refine Z.region 19 (fun w' => w'.cell? ⟨ob, 2, none⟩ = some (.slice va cs.length vc) ∧ w'.cell? ⟨b, i * 3 + 1, none⟩ = some (.int .i64 n.arg) ∧ w'.cell? ⟨b, i * 3 + 2, none⟩ = some (.slice (some ⟨vg, 0, none⟩) n.val.length n.val.length)) (by kernel_rfl) ⟨o2, f1, f2⟩ (fun hHeld => ?_)
          refine Z.take (i := 0) (d := 80) (v := .pointer (some ⟨ob, 2, none⟩)) rfl rfl (by kernel_rfl) (by kernel_rfl) (by kernel_rfl) (by kernel_rfl) (fun _ _ _ h => h) (Or.inl ⟨by rfl, ?_⟩) hHeld ?_
          · intro w' hSw; obtain ⟨s1, s2, s3⟩ := hSw; go_simp
          simp only [Act.put, List.setIfInBounds_toArray, List.set_cons_zero, List.set_cons_succ]
          refine Z.take (i := 1) (d := 81) (v := .slice va cs.length vc) rfl rfl (by kernel_rfl) (by kernel_rfl) (by kernel_rfl) (by kernel_rfl) (fun _ _ _ h => h) (Or.inl ⟨by rfl, ?_⟩) hHeld ?_
          · intro w' hSw; obtain ⟨s1, s2, s3⟩ := hSw; go_simp
          simp only [Act.put, List.setIfInBounds_toArray, List.set_cons_zero, List.set_cons_succ]
          refine Z.take (i := 2) (d := 82) (v := .int .i64 n.op) rfl rfl (by kernel_rfl) (by kernel_rfl) (by kernel_rfl) (by kernel_rfl) (fun _ _ _ h => h) (Or.inl ⟨by rfl, ?_⟩) hHeld ?_
          · intro w' hSw; obtain ⟨s1, s2, s3⟩ := hSw; go_simp
          simp only [Act.put, List.setIfInBounds_toArray, List.set_cons_zero, List.set_cons_succ]
          refine Z.take (i := 3) (d := 83) (v := .slice (some ⟨b, 0, none⟩) l.length l.length) rfl rfl (by kernel_rfl) (by kernel_rfl) (by kernel_rfl) (by kernel_rfl) (fun _ _ _ h => h) (Or.inl ⟨by rfl, ?_⟩) hHeld ?_
          · intro w' hSw; obtain ⟨s1, s2, s3⟩ := hSw; go_simp
          simp only [Act.put, List.setIfInBounds_toArray, List.set_cons_zero, List.set_cons_succ]
          refine Z.take (i := 4) (d := 84) (v := .int .i64 (i : Int)) rfl rfl (by kernel_rfl) (by kernel_rfl) (by kernel_rfl) (by kernel_rfl) (fun _ _ _ h => h) (Or.inl ⟨by rfl, ?_⟩) hHeld ?_
          · intro w' hSw; obtain ⟨s1, s2, s3⟩ := hSw; go_simp
          simp only [Act.put, List.setIfInBounds_toArray, List.set_cons_zero, List.set_cons_succ]
          refine Z.take (i := 5) (d := 85) (v := .pointer (some ⟨b, i * 3, none⟩)) rfl rfl (by kernel_rfl) (by kernel_rfl) (by kernel_rfl) (by kernel_rfl) (fun _ _ _ h => h) (Or.inl ⟨by rfl, ?_⟩) hHeld ?_
          · intro w' hSw; obtain ⟨s1, s2, s3⟩ := hSw; go_simp
          simp only [Act.put, List.setIfInBounds_toArray, List.set_cons_zero, List.set_cons_succ]
          refine Z.take (i := 6) (d := 86) (v := .pointer (some ⟨b, i * 3 + 1, none⟩)) rfl rfl (by kernel_rfl) (by kernel_rfl) (by kernel_rfl) (by kernel_rfl) (fun _ _ _ h => h) (Or.inl ⟨by rfl, ?_⟩) hHeld ?_
          · intro w' hSw; obtain ⟨s1, s2, s3⟩ := hSw; go_simp
          simp only [Act.put, List.setIfInBounds_toArray, List.set_cons_zero, List.set_cons_succ]
          refine Z.take (i := 7) (d := 87) (v := .int .i64 n.arg) rfl rfl (by kernel_rfl) (by kernel_rfl) (by kernel_rfl) (by kernel_rfl) (fun _ _ _ h => h) (Or.inl ⟨by rfl, ?_⟩) hHeld ?_
          · intro w' hSw; obtain ⟨s1, s2, s3⟩ := hSw; go_simp
          simp only [Act.put, List.setIfInBounds_toArray, List.set_cons_zero, List.set_cons_succ]
          refine Z.take (i := 9) (d := 89) (v := .slice (some ⟨b, 0, none⟩) l.length l.length) rfl rfl (by kernel_rfl) (by kernel_rfl) (by kernel_rfl) (by kernel_rfl) (fun _ _ _ h => h) (Or.inl ⟨by rfl, ?_⟩) hHeld ?_
          · intro w' hSw; obtain ⟨s1, s2, s3⟩ := hSw; go_simp
          simp only [Act.put, List.setIfInBounds_toArray, List.set_cons_zero, List.set_cons_succ]
          refine Z.take (i := 10) (d := 90) (v := .int .i64 (i : Int)) rfl rfl (by kernel_rfl) (by kernel_rfl) (by kernel_rfl) (by kernel_rfl) (fun _ _ _ h => h) (Or.inl ⟨by rfl, ?_⟩) hHeld ?_
          · intro w' hSw; obtain ⟨s1, s2, s3⟩ := hSw; go_simp
          simp only [Act.put, List.setIfInBounds_toArray, List.set_cons_zero, List.set_cons_succ]
          refine Z.take (i := 11) (d := 91) (v := .pointer (some ⟨b, i * 3, none⟩)) rfl rfl (by kernel_rfl) (by kernel_rfl) (by kernel_rfl) (by kernel_rfl) (fun _ _ _ h => h) (Or.inl ⟨by rfl, ?_⟩) hHeld ?_
          · intro w' hSw; obtain ⟨s1, s2, s3⟩ := hSw; go_simp
          simp only [Act.put, List.setIfInBounds_toArray, List.set_cons_zero, List.set_cons_succ]
          refine Z.take (i := 12) (d := 92) (v := .pointer (some ⟨b, i * 3 + 2, none⟩)) rfl rfl (by kernel_rfl) (by kernel_rfl) (by kernel_rfl) (by kernel_rfl) (fun _ _ _ h => h) (Or.inl ⟨by rfl, ?_⟩) hHeld ?_
          · intro w' hSw; obtain ⟨s1, s2, s3⟩ := hSw; go_simp
          simp only [Act.put, List.setIfInBounds_toArray, List.set_cons_zero, List.set_cons_succ]
          refine Z.take (i := 13) (d := 93) (v := .slice (some ⟨vg, 0, none⟩) n.val.length n.val.length) rfl rfl (by kernel_rfl) (by kernel_rfl) (by kernel_rfl) (by kernel_rfl) (fun _ _ _ h => h) (Or.inl ⟨by rfl, ?_⟩) hHeld ?_
          · intro w' hSw; obtain ⟨s1, s2, s3⟩ := hSw; go_simp
          simp only [Act.put, List.setIfInBounds_toArray, List.set_cons_zero, List.set_cons_succ]
          have B1 : Below wS.heap.size wS (wS.alloc (.cells #[] 74)).drew := ((Below.refl wS.heap.size wS).alloc (Nat.le_refl _) _).drew
          have O1 : ((wS.alloc (.cells #[] 74)).drew).ownsRow wS.heap.size 74 5 (.slice (some ⟨wS.heap.size, 0, none⟩) 0 0) 0 [] := Cm.owns_empty 5 (Nat.le_refl _) (heap_alloc_new wS _)
          have S1 := (unhide HS).below B1
          have d1 := S1.own.cell 2
          simp only [List.getElem?_cons_zero, List.getElem?_cons_succ] at d1
          have e1 := (unhide HA1) _ B1
          have e2 := (unhide HAV) _ B1
          have hs1 : ((wS.alloc (.cells #[] 74)).drew).heap.size = wS.heap.size + 1 := by simp [World.drew]
          have hnews := row_words ((unhide HVR).below B1 hvg)
          refine Z.ready (rs := [8]) (by kernel_rfl) (by simp) (Z.val_cons (i := 8) (d := 88) (v := .slice (some ⟨wS.heap.size, 0, none⟩) 0 0) (w' := (wS.alloc (.cells #[] 74)).drew) rfl (by rfl) ?_ (fun _ => ⟨d1, e1, e2⟩) ?_ Z.All.nil)
          · intro K hK
            go_simp
            exact hK.out
          simp only [Act.put, List.setIfInBounds_toArray, List.set_cons_zero, List.set_cons_succ]
          generalize (wS.alloc (.cells #[] 74)).drew = W1 at *
          refine Z.ready (rs := [14]) (by kernel_rfl) (by simp) (Z.All.cons rfl (fun K hK => ?_) Z.All.nil)
          refine Cm.step_append W1 rfl (.tmp 88) (.tmp 93) 39 rfl wS.heap.size 74 i1 _ 5 _ Tryd.underlying39 hi1 hy0 hy1 hy2 rfl (by decide) _ 0 [] rfl O1 ⟨vg, 0, none⟩ n.val.length n.val.length (flat n.val) rfl (flat_length n.val) hnews (flat_one n.val) (by unfold maxLen; omega) (by omega) (by omega) ?_
          intro x wA ho hg _
          rw [Nat.zero_add, List.nil_append] at ho
          have BA : Below wS.heap.size wS wA := B1.grown hg (by omega) (fun k hk => by cases hk; exact Nat.le_refl _)
          have RA : Res wA wS.heap.size x n.val := res_of_owns ho (by omega)
          have SA := (unhide HS).below BA
          have HFR : ∀ b, x.ownBlock = some b → b ∉ Cm.bls cs := fun b hb hm => by have := RA.base b hb; have := (unhide HS).row.bls_lt b hm; omega
          have dA := SA.own.cell 2
          simp only [List.getElem?_cons_zero, List.getElem?_cons_succ] at dA
          have e1A := (unhide HA1) _ BA
          have e2A := (unhide HAV) _ BA
          refine hK.out _ _ (fun _ => ⟨dA, e1A, e2A⟩) ?_
          clear hK K
          obtain ⟨xa, xn, xc, rfl⟩ := RA.shape
          clear ho hg hnews O1 S1 B1 d1 e1 e2 hs1
          simp only [Act.put, List.getElem_toArray, List.getElem_cons_succ, List.getElem_cons_zero, List.setIfInBounds_toArray, List.set_cons_zero, List.set_cons_succ]
          refine Z.ready (rs := [15]) (by kernel_rfl) (by simp) (Z.val_cons (i := 15) (d := 95) (v := .agg #[.int .i64 n.op, .int .i64 n.arg, .slice xa xn xc]) (w' := wA) rfl (by rfl) ?_ (fun _ => ⟨dA, e1A, e2A⟩) ?_ Z.All.nil)
          · intro K hK
            go_simp
            exact hK.out
          simp only [Act.put, List.setIfInBounds_toArray, List.set_cons_zero, List.set_cons_succ]
          have B2 : Below wS.heap.size wS (wA.alloc (.cells #[.int .i64 n.op, .int .i64 n.arg, .slice xa xn xc] 41)) := BA.alloc BA.size _
          have hs2 : (wA.alloc (.cells #[.int .i64 n.op, .int .i64 n.arg, .slice xa xn xc] 41)).heap.size = wA.heap.size + 1 := by simp
          have S2 := (unhide HS).below B2
          have hob2 := (unhide HS).lt
          have R2 : Res (wA.alloc (.cells #[.int .i64 n.op, .int .i64 n.arg, .slice xa xn xc] 41)) (ob + 2) (.slice xa xn xc) n.val := (RA.alloc _).mono (by omega)
          have X2 : Own (wA.alloc (.cells #[.int .i64 n.op, .int .i64 n.arg, .slice xa xn xc] 41)) wA.heap.size 41 [.int .i64 n.op, .int .i64 n.arg, .slice xa xn xc] := ⟨_, heap_alloc_new _ _, rfl⟩
          have d2 := S2.own.cell 2
          simp only [List.getElem?_cons_zero, List.getElem?_cons_succ] at d2
          have e1B := (unhide HA1) _ B2
          have e2B := (unhide HAV) _ B2
          have hnews : ∀ j u, (Cm.inV n (.slice xa xn xc))[j]? = some u → (wA.alloc (.cells #[.int .i64 n.op, .int .i64 n.arg, .slice xa xn xc] 41)).cell? ((⟨wA.heap.size, 0, none⟩ : Addr).add j) = some u := fun j u hu => by
            rw [addr_add0, X2.cell j]
            exact hu
          have hpb : ob + 2 ≤ (wA.alloc (.cells #[.int .i64 n.op, .int .i64 n.arg, .slice xa xn xc] 41)).heap.size := by have := BA.size; omega
          refine Z.ready (rs := [16]) (by kernel_rfl) (by simp) (Z.val_cons (i := 16) (d := 96) (v := .slice (some ⟨wA.heap.size, 0, none⟩) 1 1) (w' := wA.alloc (.cells #[.int .i64 n.op, .int .i64 n.arg, .slice xa xn xc] 41)) rfl (by rfl) ?_ (fun _ => ⟨d2, e1B, e2B⟩) ?_ Z.All.nil)
          · intro K hK
            go_simp
            exact hK.out
          simp only [Act.put, List.setIfInBounds_toArray, List.set_cons_zero, List.set_cons_succ]
          generalize wA.alloc (.cells #[.int .i64 n.op, .int .i64 n.arg, .slice xa xn xc] 41) = W2 at *
          refine Z.ready (rs := [17]) (by kernel_rfl) (by simp) (Z.All.cons rfl (fun K hK => ?_) Z.All.nil)
          refine Cm.step_append W2 rfl (.tmp 81) (.tmp 96) 24 rfl (ob + 2) 41 i0 (.agg #[.int .i64 0, .int .i64 0, .slice none 0 0]) 3 40 Tryd.underlying24 hi hz0 hz1 hz2 rfl (by decide) _ cs.length _ rfl S2.row.1 ⟨wA.heap.size, 0, none⟩ 1 1 (Cm.inV n (.slice xa xn xc)) rfl rfl hnews (Cm.plain_in n _ rfl) (by unfold maxLen; omega) (by omega) hpb ?_
          intro v' wB ho hg _
          have hpush := (unhide HPUSH) W2 wB v' (.slice xa xn xc) B2 ho hg R2 HFR
          obtain ⟨hoB, hPsB⟩ := hpush
          have BB : Below (ob + 2) W2 wB := (Below.refl (ob + 2) W2).grown hg (by omega) (fun b hb => (S2.row.typed hb).1)
          obtain ⟨ya, yc, hv'⟩ := hPsB.row.slice
          rw [show (cs ++ [(n, Value.slice xa xn xc)]).length = cs.length + 1 by simp] at hv'
          subst hv'
          have dB := hoB.cell 2
          have zB := hoB.frozen 2
          simp only [List.getElem?_cons_zero, List.getElem?_cons_succ] at dB
          have e1C : wB.cell? ⟨b, i * 3 + 1, none⟩ = some (.int .i64 n.arg) := (BB.cell (show b < ob + 2 by omega)).trans e1B
          have e2C : wB.cell? ⟨b, i * 3 + 2, none⟩ = some (.slice (some ⟨vg, 0, none⟩) n.val.length n.val.length) := (BB.cell (show b < ob + 2 by omega)).trans e2B
          refine hK.out _ _ (fun _ => ⟨dB, e1C, e2C⟩) ?_
          clear hK K
          have FIN := hide hPsB
          clear hoB hPsB ho hg hnews S2 R2 X2 B2 SA RA BA HFR BB e1A e2A e1B e2B d2 dA
          simp only [Act.put, List.getElem_toArray, List.getElem_cons_succ, List.getElem_cons_zero, List.setIfInBounds_toArray, List.set_cons_zero, List.set_cons_succ]
          refine Z.ready (rs := [18]) (by kernel_rfl) (by simp) (Z.val_cons (i := 18) (d := 98) (v := .pointer (some ⟨ob, 2, none⟩)) (w' := wB) rfl (by rfl) ?_ (fun _ => ⟨dB, e1C, e2C⟩) ?_ Z.All.nil)
          · intro K hK
            go_simp
            exact hK.out
          simp only [Act.put, List.setIfInBounds_toArray, List.set_cons_zero, List.set_cons_succ]
          refine Z.last_at (w' := wB.setCell ⟨ob, 2, none⟩ (Value.slice ya (cs.length + 1) yc)) rfl (by kernel_rfl) (by rfl) (fun K hK => ?_) ?_
          · go_simp
            exact hK.out
          refine Z.done (by kernel_rfl) ?_ _
          go_wp2_with fail
          go_roundg (l.length - (i + 1))
          case rel => exact ⟨i + 1, _, _, _, rfl, by go_num, by omega, unhide hn2, unhide FIN⟩
          case measure => have := hgi.out; omega
      · have hie : i = l.length := by omega
        subst hie
        have T0 := hide (unhide HPs).turn
        obtain ⟨va, vc, hv⟩ := (unhide HPs).row.slice
        subst hv
        have hcl := (unhide HPs).len
        have hkl := Ic.kept_len l l.length
        obtain ⟨N, hN⟩ : ∃ N, N = cs.length := ⟨_, rfl⟩
        have hcn : N ≤ 6000 := by omega
        have HRM := hide (fun k (hk : k < N) => show ∃ j, j < l.length ∧ (Ic.raw l l.length).getD k Ic.zero = l.getD j Ic.zero from Ic.raw_mem (Nat.le_refl _) (by
          have h2 : k < (Ic.raw l l.length).length := by rw [Ic.raw_len, ← hcl, ← hN]; exact hk
          rw [List.getD_eq_getElem?_getD, List.getElem?_eq_getElem h2]
          exact List.getElem_mem h2))
        have HN := hide hN
        have htil := Nat.lt_irrefl l.length
        clear HPs hcl hkl hN hsn hlt hgi
        go_wp2_with fail
        go_loopg [10] N (fun gh s10 wq => ∃ (k : Nat) (cs : List (Ic × Value)), Hid (gh = N - k) ∧ s10 = .int .i64 (k : Int) ∧ k ≤ N ∧ Hid (cs.length = N) ∧ Hid (Pe.Pt l rg w3 wq ob pb k (.slice va N vc) cs xs))
        case atStart => exact ⟨0, cs, rfl, rfl, by omega, (unhide HN).symm, by rw [unhide HN]; exact unhide T0⟩
        case round =>
          clear T0 HN cs
          obtain ⟨k, cs, hgk, rfl, hkl, hcs, HPt⟩ := hrel
          have o2 := (unhide HPt).own.cell 2
          simp only [List.getElem?_cons_zero, List.getElem?_cons_succ] at o2
          by_cases hlt : k < N
          · have hltI : (k : Int) < (N : Int) := by omega
            have hk0 : (0 : Int) ≤ (k : Int) := by omega
            obtain ⟨g, cap, hv, c0, c1, z1, hset⟩ := (unhide HPt).at (k := k) (by rw [hcs.out]; exact hlt)
            simp only [Value.slice.injEq] at hv
            obtain ⟨hva, hNc, hvc⟩ := hv
            subst hva
            clear hNc hvc
            have HSET := hide hset
            obtain ⟨jj, hj1, hj2⟩ := (unhide HRM) k hlt
            have hone := (unhide HA) jj hj1
            rw [← hj2] at hone
            have HJ := hide (fun h => Ic.one_jump hone h)
            have HSAME := hide (fun hj => (unhide HPt).same (k := k) (by rw [hcs.out]; exact hlt) hj)
            have HPL := hide (fun u (hu : u < l.length) => show wr.cell? ⟨pb, u, none⟩ = some (.int .i64 ((Ic.kept l u).length : Int)) by
              have h1 := (unhide HPt).pl.cell (j := u) (by rw [(unhide HPt).ln]; exact hu)
              rwa [(unhide HPt).told u hu] at h1)
            clear hset hone hj2 HPt
            generalize (Ic.raw l l.length).getD k Ic.zero = n at *
            obtain ⟨op, arg, nval⟩ := n
            dsimp only at *
            go_wp2_with fail
            refine (l8Jumps_any op _).mono ?_
            rintro e w4' ⟨rfl, hw4'⟩
            rw [hw4']
            clear hw4'
            cases hjp : Ic.jumps op with
            | false =>
              have HQ := hide ((unhide HSAME) hjp)
              clear HSAME HSET HPL HJ hjp
              go_wp2_with fail
              go_roundg (N - (k + 1))
              case rel => exact ⟨k + 1, cs, rfl, by go_num, by omega, hcs.out, unhide HQ⟩
              case measure => have := hgk.out; omega
            | true =>
              obtain ⟨cs', hcs', hPt'⟩ := (unhide HSET) hjp
              have hjb := (unhide HJ) hjp
              obtain ⟨u, rfl⟩ : ∃ u : Nat, arg = (u : Int) := ⟨arg.toNat, by omega⟩
              have hul : u < l.length := by omega
              have huI : (u : Int) < (l.length : Int) := by omega
              have hu0 : (0 : Int) ≤ (u : Int) := by omega
              have pu := (unhide HPL) u hul
              rw [Int.toNat_natCast] at hPt'
              have HQ := hide (hPt'.below (Below.refl _ _).drew)
              have HCS := hide (hcs'.trans hcs.out)
              generalize ((Ic.kept l u).length : Int) = PV at *
              clear HSAME HSET HPL HJ hjp hPt' hcs' hjb
              go_upto_region 19 with fail
              refine Z.region 14 (fun w' => w'.cell? ⟨ob, 2, none⟩ = some (.slice (some ⟨g, 0, none⟩) N vc) ∧ w'.cell? ⟨g, k * 3 + 1, none⟩ = some (.int .i64 (u : Int)) ∧ w'.cell? ⟨pb, u, none⟩ = some (.int .i64 PV)) (by kernel_rfl) ⟨o2, c1, pu⟩ (fun hHeld => ?_)
              refine Z.take (i := 0) (d := 115) (v := .pointer (some ⟨ob, 2, none⟩)) rfl rfl (by kernel_rfl) (by kernel_rfl) (by kernel_rfl) (by kernel_rfl) (fun _ _ _ h => h) (Or.inl ⟨by rfl, ?_⟩) hHeld ?_
              · intro w' hSw; obtain ⟨s1, s2, s3⟩ := hSw; go_simp
              simp only [Act.put, List.setIfInBounds_toArray, List.set_cons_zero, List.set_cons_succ]
              refine Z.take (i := 1) (d := 116) (v := .slice (some ⟨g, 0, none⟩) N vc) rfl rfl (by kernel_rfl) (by kernel_rfl) (by kernel_rfl) (by kernel_rfl) (fun _ _ _ h => h) (Or.inl ⟨by rfl, ?_⟩) hHeld ?_
              · intro w' hSw; obtain ⟨s1, s2, s3⟩ := hSw; go_simp
              simp only [Act.put, List.setIfInBounds_toArray, List.set_cons_zero, List.set_cons_succ]
              refine Z.take (i := 2) (d := 117) (v := .int .i64 (k : Int)) rfl rfl (by kernel_rfl) (by kernel_rfl) (by kernel_rfl) (by kernel_rfl) (fun _ _ _ h => h) (Or.inl ⟨by rfl, ?_⟩) hHeld ?_
              · intro w' hSw; obtain ⟨s1, s2, s3⟩ := hSw; go_simp
              simp only [Act.put, List.setIfInBounds_toArray, List.set_cons_zero, List.set_cons_succ]
              refine Z.take (i := 3) (d := 118) (v := .slice (some ⟨pb, 0, none⟩) l.length l.length) rfl rfl (by kernel_rfl) (by kernel_rfl) (by kernel_rfl) (by kernel_rfl) (fun _ _ _ h => h) (Or.inl ⟨by rfl, ?_⟩) hHeld ?_
              · intro w' hSw; obtain ⟨s1, s2, s3⟩ := hSw; go_simp
              simp only [Act.put, List.setIfInBounds_toArray, List.set_cons_zero, List.set_cons_succ]
              refine Z.take (i := 4) (d := 119) (v := .pointer (some ⟨ob, 2, none⟩)) rfl rfl (by kernel_rfl) (by kernel_rfl) (by kernel_rfl) (by kernel_rfl) (fun _ _ _ h => h) (Or.inl ⟨by rfl, ?_⟩) hHeld ?_
              · intro w' hSw; obtain ⟨s1, s2, s3⟩ := hSw; go_simp
              simp only [Act.put, List.setIfInBounds_toArray, List.set_cons_zero, List.set_cons_succ]
              refine Z.take (i := 5) (d := 120) (v := .slice (some ⟨g, 0, none⟩) N vc) rfl rfl (by kernel_rfl) (by kernel_rfl) (by kernel_rfl) (by kernel_rfl) (fun _ _ _ h => h) (Or.inl ⟨by rfl, ?_⟩) hHeld ?_
              · intro w' hSw; obtain ⟨s1, s2, s3⟩ := hSw; go_simp
              simp only [Act.put, List.setIfInBounds_toArray, List.set_cons_zero, List.set_cons_succ]
              refine Z.take (i := 6) (d := 121) (v := .int .i64 (k : Int)) rfl rfl (by kernel_rfl) (by kernel_rfl) (by kernel_rfl) (by kernel_rfl) (fun _ _ _ h => h) (Or.inl ⟨by rfl, ?_⟩) hHeld ?_
              · intro w' hSw; obtain ⟨s1, s2, s3⟩ := hSw; go_simp
              simp only [Act.put, List.setIfInBounds_toArray, List.set_cons_zero, List.set_cons_succ]
              refine Z.take (i := 7) (d := 122) (v := .pointer (some ⟨g, k * 3, none⟩)) rfl rfl (by kernel_rfl) (by kernel_rfl) (by kernel_rfl) (by kernel_rfl) (fun _ _ _ h => h) (Or.inl ⟨by rfl, ?_⟩) hHeld ?_
              · intro w' hSw; obtain ⟨s1, s2, s3⟩ := hSw; go_simp
              simp only [Act.put, List.setIfInBounds_toArray, List.set_cons_zero, List.set_cons_succ]
              refine Z.take (i := 8) (d := 123) (v := .pointer (some ⟨g, k * 3 + 1, none⟩)) rfl rfl (by kernel_rfl) (by kernel_rfl) (by kernel_rfl) (by kernel_rfl) (fun _ _ _ h => h) (Or.inl ⟨by rfl, ?_⟩) hHeld ?_
              · intro w' hSw; obtain ⟨s1, s2, s3⟩ := hSw; go_simp
              simp only [Act.put, List.setIfInBounds_toArray, List.set_cons_zero, List.set_cons_succ]
              refine Z.take (i := 9) (d := 124) (v := .int .i64 (u : Int)) rfl rfl (by kernel_rfl) (by kernel_rfl) (by kernel_rfl) (by kernel_rfl) (fun _ _ _ h => h) (Or.inl ⟨by rfl, ?_⟩) hHeld ?_
              · intro w' hSw; obtain ⟨s1, s2, s3⟩ := hSw; go_simp
              simp only [Act.put, List.setIfInBounds_toArray, List.set_cons_zero, List.set_cons_succ]
              refine Z.take (i := 10) (d := 125) (v := .pointer (some ⟨pb, u, none⟩)) rfl rfl (by kernel_rfl) (by kernel_rfl) (by kernel_rfl) (by kernel_rfl) (fun _ _ _ h => h) (Or.inl ⟨by rfl, ?_⟩) hHeld ?_
              · intro w' hSw; obtain ⟨s1, s2, s3⟩ := hSw; go_simp
              simp only [Act.put, List.setIfInBounds_toArray, List.set_cons_zero, List.set_cons_succ]
              refine Z.take (i := 11) (d := 126) (v := .int .i64 PV) rfl rfl (by kernel_rfl) (by kernel_rfl) (by kernel_rfl) (by kernel_rfl) (fun _ _ _ h => h) (Or.inl ⟨by rfl, ?_⟩) hHeld ?_
              · intro w' hSw; obtain ⟨s1, s2, s3⟩ := hSw; go_simp
              simp only [Act.put, List.setIfInBounds_toArray, List.set_cons_zero, List.set_cons_succ]
              refine Z.ready (rs := [12]) (by kernel_rfl) (by simp) (Z.val_cons (i := 12) (d := 127) (v := .pointer (some ⟨g, k * 3, none⟩)) (w' := wr.drew) rfl (by rfl) ?_ (fun _ => ⟨o2, c1, pu⟩) ?_ Z.All.nil)
              · intro K hK
                go_simp
                exact hK.out
              simp only [Act.put, List.setIfInBounds_toArray, List.set_cons_zero, List.set_cons_succ]
              refine Z.ready (rs := [13]) (by kernel_rfl) (by simp) (Z.val_cons (i := 13) (d := 128) (v := .pointer (some ⟨g, k * 3 + 1, none⟩)) (w' := wr.drew) rfl (by rfl) ?_ (fun _ => ⟨o2, c1, pu⟩) ?_ Z.All.nil)
              · intro K hK
                go_simp
                exact hK.out
              simp only [Act.put, List.setIfInBounds_toArray, List.set_cons_zero, List.set_cons_succ]
              refine Z.last_at (w' := (wr.setCell ⟨g, k * 3 + 1, none⟩ (.int .i64 PV)).drew) rfl (by kernel_rfl) (by rfl) (fun K hK => ?_) ?_
              · go_simp
                exact hK.out
              refine Z.done (by kernel_rfl) ?_ _
              go_wp2_with fail
              go_roundg (N - (k + 1))
              case rel => exact ⟨k + 1, cs', rfl, by go_num, by omega, unhide HCS, unhide HQ⟩
              case measure => have := hgk.out; omega
          · have hke : k = N := by omega
            subst hke
            have HF := hide (show cs.map Prod.fst = Ic.peeped l from (unhide HPt).done (by rw [hcs.out]; exact Nat.le_refl _))
            have OF := O3.below (unhide HPt).bel (by omega)
            have BF : Below w.heap.size w wr := BW3.trans ((unhide HPt).bel.mono (by omega))
            have c0 := OF.cell 0
            have z0 := OF.frozen 0
            have c1 := OF.cell 1
            have z1 := OF.frozen 1
            have c2 := OF.cell 2
            have z2 := OF.frozen 2
            have c3 := OF.cell 3
            have z3 := OF.frozen 3
            have o0 := (unhide HPt).own.cell 0
            have o1 := (unhide HPt).own.cell 1
            have o3 := (unhide HPt).own.cell 3
            simp only [List.getElem?_cons_zero, List.getElem?_cons_succ] at c0 c1 c2 c3 o0 o1 o3
            have FIN := hide (And.intro (unhide HPt).row (unhide HPt).nd)
            clear HPt OF
            go_wp2_with fail
            refine bodyPost_ret (v := .agg #[.int .i64 0, .int .i64 0, .slice va k vc, .int .i64 rg]) (by simp [results, Tryd.results5, go_sem, c0, c1, c2, c3]; try rfl) rfl (Pe.said_ok (unhide fin) (unhide HF) (Pe.rw4 (unhide FIN).1 (by omega) _ _ _ _) (by omega) (unhide FIN).2 (Pe.sets4 BF _ _ _ _))
  · have g1 : (x != 0) = true := by simpa using hx
    have fin := hide ((unhide HBAD) hx)
    have c0 := O3.cell 0
    have z0 := O3.frozen 0
    have c1 := O3.cell 1
    have z1 := O3.frozen 1
    have c2 := O3.cell 2
    have z2 := O3.frozen 2
    have c3 := O3.cell 3
    have z3 := O3.frozen 3
    have f0 := F3.cell 0
    have f1 := F3.cell 1
    have f2 := F3.cell 2
    have f3 := F3.cell 3
    simp only [List.getElem?_cons_zero, List.getElem?_cons_succ] at c0 c1 c2 c3 f0 f1 f2 f3
    rw [hw3] at c0 c1 c2 c3 z0 z1 z2 z3 f0 f1 f2 f3
    clear hx O2 O3 F3 HBAD HOK HOUT
    go_wp2_with fail
    rw [← hw3] at *
    refine bodyPost_ret (v := .agg #[.int .i64 x, .int .i64 y, .slice none 0 0, .int .i64 0]) (by simp [results, Tryd.results5, go_sem, c0, c1, c2, c3]; try rfl) rfl (Pe.said_bad (unhide fin) (Pe.sets4 BW3 _ _ _ _))

end Go.Proofs.YtgjbibkppofjfaaDoor
