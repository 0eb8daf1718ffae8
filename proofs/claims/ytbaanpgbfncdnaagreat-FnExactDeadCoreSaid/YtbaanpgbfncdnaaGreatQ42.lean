/-
  impl.passesFault: the fault of a core and a row of passes.
  impl.RunPasses: passes, one behind the other.
  impl.FoldCore, PipeCore, DeadCore, TryCore: one pass.
-/
import Derived.Test.YtbaanpgbfncdnaaGreatQ38
import Derived.Test.YtbaanpgbfncdnaaGreatQ40
import Derived.Test.YtbaanpgbfncdnaaGreatQ41
namespace Go.Proofs.YtbaanpgbfncdnaaGreat
open Go.RowKit
set_option linter.unusedVariables false
set_option linter.unusedSimpArgs false

namespace Ste
def pOk (p : Int) : Bool := decide (1 ≤ p ∧ p ≤ 4)
/-- The fault of a core and a row of passes. -/
def pFault (l : List Co) (ps : List Int) : Int := if Co.fault l ≠ 0 then Co.fault l else if 20 < ps.length then 2 else if ps.all pOk = true then 0 else 3
theorem pFault_core {l : List Co} {ps : List Int} (h : Co.fault l ≠ 0) : pFault l ps = Co.fault l := by unfold pFault; rw [if_pos h]
theorem pFault_many {l : List Co} {ps : List Int} (h : Co.fault l = 0) (h2 : 20 < ps.length) : pFault l ps = 2 := by unfold pFault; rw [if_neg (by simp [h]), if_pos h2]
theorem pFault_bad {l : List Co} {ps : List Int} (h : Co.fault l = 0) (h2 : ¬ 20 < ps.length) {i : Nat} (hi : i < ps.length) (hb : ¬ (1 ≤ ps.getD i 0 ∧ ps.getD i 0 ≤ 4)) : pFault l ps = 3 := by
  unfold pFault
  rw [if_neg (by simp [h]), if_neg h2, if_neg]
  intro hall
  have := List.all_eq_true.1 hall ps[i] (List.getElem_mem hi)
  unfold pOk at this
  rw [List.getD_eq_getElem?_getD, List.getElem?_eq_getElem hi] at hb
  exact hb (of_decide_eq_true this)
theorem pFault_ok {l : List Co} {ps : List Int} (h : Co.fault l = 0) (h2 : ¬ 20 < ps.length) (hb : ∀ i, i < ps.length → (1 ≤ ps.getD i 0 ∧ ps.getD i 0 ≤ 4)) : pFault l ps = 0 := by
  unfold pFault
  rw [if_neg (by simp [h]), if_neg h2, if_pos]
  refine List.all_eq_true.2 fun p hp => ?_
  obtain ⟨i, hi, rfl⟩ := List.getElem_of_mem hp
  have := hb i hi
  rw [List.getD_eq_getElem?_getD, List.getElem?_eq_getElem hi] at this
  exact decide_eq_true this
theorem pFault_parts {l : List Co} {ps : List Int} (h : pFault l ps = 0) : Co.fault l = 0 ∧ ps.length ≤ 20 ∧ ∀ i, i < ps.length → (1 ≤ ps.getD i 0 ∧ ps.getD i 0 ≤ 4) := by
  have h0 : Co.fault l = 0 := Decidable.byContradiction fun hc => by rw [pFault_core hc] at h; exact hc h
  have h1 : ¬ 20 < ps.length := fun hc => by rw [pFault_many h0 hc] at h; omega
  refine ⟨h0, by omega, fun i hi => Decidable.byContradiction fun hb => ?_⟩
  rw [pFault_bad h0 h1 hi hb] at h
  omega
/-- The passes, as they lie. -/
def Pl (w : World) (pb : Nat) (ps : List Int) : Prop := pb < w.heap.size ∧ ∀ i, i < ps.length → w.cell? ⟨pb, i, none⟩ = some (.int .i64 (ps.getD i 0))
theorem Pl.below {w w' : World} {base pb : Nat} {ps : List Int} (h : Pl w pb ps) (hb : Below base w w') (hp : pb < base) : Pl w' pb ps :=
  ⟨Nat.lt_of_lt_of_le h.1 hb.size, fun i hi => by rw [cell_keep (hb.block pb hp)]; exact h.2 i hi⟩
theorem pal_succ {ps : List Int} {k : Nat} (h : ∀ i, i < k → (1 ≤ ps.getD i 0 ∧ ps.getD i 0 ≤ 4)) (hk : 1 ≤ ps.getD k 0 ∧ ps.getD k 0 ≤ 4) (i : Nat) (hi : i < k + 1) : 1 ≤ ps.getD i 0 ∧ ps.getD i 0 ≤ 4 := by
  by_cases hq : i < k
  · exact h i hq
  · have : i = k := by omega
    rw [this]; exact hk
end Ste
set_option maxRecDepth 100000 in
set_option maxHeartbeats 4000000 in
theorem passesFault_any (b : Nat) (l : List Co) (w : World) (hrow : Co.Row w b l) (hb : b < w.heap.size) (hn : l.length ≤ 1048576) (hsz : ∀ i, i < l.length → (l.getD i Co.zero).val.length ≤ 1048576) (hok : ∀ c ∈ l, c.ok) (pb cap : Nat) (ps : List Int) (hps : Ste.Pl w pb ps) (hpn : ps.length ≤ 1048576) :
    Calls Tryz.prog 37 #[.slice (some ⟨b, 0, none⟩) l.length l.length, .slice (some ⟨pb, 0, none⟩) ps.length cap] w fun e w' => e = .returned (.int .i64 (Ste.pFault l ps)) ∧ Below w.heap.size w w' := by
  have HC := hide (implCoreFault_any b l w hrow hb hn hsz hok)
  clear hrow hn hsz hok
  go_enter Tryz.func37, Tryz.ntmps37
  go_wp2_with fail
  refine (unhide HC).mono ?_
  rintro e w1 ⟨rfl, hb1⟩
  clear HC
  by_cases hf : Co.fault l = 0
  · rw [hf]
    by_cases hm : 20 < ps.length
    · have fin := hide (Ste.pFault_many hf hm)
      have hI : (ps.length : Int) > 20 := by omega
      go_wp2_with fail
      go_ret
      exact ⟨ret_int (unhide fin).symm, hb1⟩
    · have hI : ¬ (ps.length : Int) > 20 := by omega
      have HPL := hide (hps.below hb1 hps.1)
      have BAD := hide (fun i hi hbad => Ste.pFault_bad (i := i) hf hm hi hbad)
      have GOOD := hide (fun hg => Ste.pFault_ok hf hm hg)
      clear hf hps
      go_wp2_with fail
      go_loopg [18] ps.length (fun gh s18 wr => ∃ (k : Nat), Hid (gh = ps.length - k) ∧ s18 = .int .i64 (k : Int) ∧ k ≤ ps.length ∧ wr = w1 ∧ Hid (∀ i, i < k → (1 ≤ ps.getD i 0 ∧ ps.getD i 0 ≤ 4)))
      case atStart => exact ⟨0, rfl, rfl, by omega, rfl, fun i hi => absurd hi (by omega)⟩
      case round =>
        obtain ⟨k, hgk, rfl, hkl, rfl, HAL⟩ := hrel
        by_cases hlt : k < ps.length
        · have hkI : (k : Int) < (ps.length : Int) := by omega
          have hk0 : (0 : Int) ≤ (k : Int) := by omega
          have hc := (unhide HPL).2 k hlt
          have BK := hide ((unhide BAD) k hlt)
          have HA2 := hide (show (1 ≤ ps.getD k 0 ∧ ps.getD k 0 ≤ 4) → ∀ i, i < k + 1 → (1 ≤ ps.getD i 0 ∧ ps.getD i 0 ≤ 4) from fun h i hi => Ste.pal_succ (unhide HAL) h i hi)
          generalize ps.getD k 0 = x at *
          by_cases h1 : x < 1
          · have fin := hide ((unhide BK) (by omega))
            go_wp2_with fail
            go_ret
            exact ⟨ret_int (unhide fin).symm, hb1⟩
          · by_cases h4 : x > 4
            · have fin := hide ((unhide BK) (by omega))
              go_wp2_with fail
              go_ret
              exact ⟨ret_int (unhide fin).symm, hb1⟩
            · have HA3 := hide ((unhide HA2) (by omega))
              go_wp2_with fail
              go_roundg (ps.length - (k + 1))
              case rel => exact ⟨k + 1, rfl, by go_num, by omega, rfl, unhide HA3⟩
              case measure => have := hgk.out; omega
        · have hkI : ¬ (k : Int) < (ps.length : Int) := by omega
          have fin := hide ((unhide GOOD) (fun i hi => (unhide HAL) i (by omega)))
          go_wp2_with fail
          go_ret
          exact ⟨ret_int (unhide fin).symm, hb1⟩
  · have fin := hide (Ste.pFault_core (ps := ps) hf)
    have hI : (Co.fault l == 0) = false := beq_eq_false_iff_ne.2 hf
    clear hf
    generalize Co.fault l = x at *
    go_wp2_with fail
    go_ret
    exact ⟨ret_int (unhide fin).symm, hb1⟩

end Go.Proofs.YtbaanpgbfncdnaaGreat

namespace Go.Proofs.YtbaanpgbfncdnaaGreat
open Go.RowKit
set_option linter.unusedVariables false
set_option linter.unusedSimpArgs false

namespace Ste
/-- What the first k passes make of s, and how often they did something. -/
def pAt (ps : List Int) (s : Ste) : Nat → Ste × Nat
  | 0 => (s, 0)
  | k + 1 => ((pass (ps.getD k 0) (pAt ps s k).1).1, (pAt ps s k).2 + (pass (ps.getD k 0) (pAt ps s k).1).2)
theorem pAt_ok (ps : List Int) (s : Ste) (hs : Ok s) : ∀ k, Ok (pAt ps s k).1 ∧ sz (pAt ps s k).1 ≤ sz s ∧ (pAt ps s k).2 ≤ k * sz s := by
  intro k
  induction k with
  | zero => exact ⟨hs, Nat.le_refl _, by simp [pAt]⟩
  | succ k ih =>
    obtain ⟨h1, h2, h3⟩ := ih
    obtain ⟨q1, q2, q3⟩ := pass_ok (ps.getD k 0) _ h1
    refine ⟨q1, Nat.le_trans q2 h2, ?_⟩
    show (pAt ps s k).2 + (pass (ps.getD k 0) (pAt ps s k).1).2 ≤ _
    rw [Nat.succ_mul]
    omega
/-- What the passes answer. -/
def pOut (l : List Co) (ps : List Int) : Int × Int × List Co := if pFault l ps = 0 then (0, ((pAt ps (tre l (l.length - 1)) ps.length).2 : Int), lay 0 (pAt ps (tre l (l.length - 1)) ps.length).1) else (pFault l ps, 0, [])
theorem pOut_eq {l : List Co} {ps : List Int} (hf : pFault l ps = 0) : pOut l ps = (0, ((pAt ps (tre l (l.length - 1)) ps.length).2 : Int), lay 0 (pAt ps (tre l (l.length - 1)) ps.length).1) := by unfold pOut; rw [if_pos hf]
/-- An answer of passes, as it lies. -/
def Pr (w : World) (o : Int × Int × List Co) (e : Ending) (w' : World) : Prop := ∃ B v cs, e = .returned (.agg #[.int .i64 o.1, .int .i64 o.2.1, v]) ∧ cs.map Prod.fst = o.2.2 ∧ Lw.Rw w' B v cs ∧ (Lp.bls cs).Nodup ∧ w.heap.size ≤ B ∧ Below w.heap.size w w'
/-- Behind some of the passes. -/
def Pp (wr : World) (B : Nat) (s : Ste) (p : Nat) : Prop := ∃ R, Sh wr s p R ∧ ∀ q ∈ R, B ≤ q
end Ste
theorem pres_co {w : World} {b : Nat} {x y : Int} {v : Value} (h : Own w b 26 [.int .i64 x, .int .i64 y, v]) : w.cell? ⟨b, 0, none⟩ = some (.int .i64 x) ∧ w.cell? ⟨b, 1, none⟩ = some (.int .i64 y) ∧ w.cell? ⟨b, 2, none⟩ = some v := ⟨h.cell 0, h.cell 1, h.cell 2⟩
set_option maxRecDepth 100000 in
set_option maxHeartbeats 4000000 in
theorem implRunPasses_any (b E : Nat) (l : List Co) (w : World) (hrow : Co.LaidRow w b E l) (hn : l.length ≤ 1048576) (hsz : ∀ i, i < l.length → (l.getD i Co.zero).val.length ≤ 1048576) (hok : ∀ c ∈ l, c.ok) (pb cap : Nat) (ps : List Int) (hps : Ste.Pl w pb ps) (hpn : ps.length ≤ 1048576) (hpv : ∀ i, i < ps.length → ps.getD i 0 = 3 ∨ ps.getD i 0 = 4) :
    Calls Tryz.prog 25 #[.slice (some ⟨b, 0, none⟩) l.length l.length, .slice (some ⟨pb, 0, none⟩) ps.length cap] w (Ste.Pr w (Ste.pOut l ps)) := by
  have hb := hrow.lt
  have HPV := hide hpv
  clear hpv
  obtain ⟨w0, hw0⟩ : ∃ w0, w0 = w.alloc (.cells #[.int .i64 0, .int .i64 0, .slice none 0 0] 26) := ⟨_, rfl⟩
  have B0 : Below w.heap.size w w0 := by rw [hw0]; exact (Below.refl _ _).alloc (Nat.le_refl _) _
  have O0 : Own w0 w.heap.size 26 [.int .i64 0, .int .i64 0, .slice none 0 0] := by rw [hw0]; exact ⟨_, heap_alloc_new _ _, rfl⟩
  have HC := hide (passesFault_any b l w0 ((hrow.below B0).row) (Nat.lt_of_lt_of_le hb B0.size) hn hsz hok pb cap ps (hps.below B0 hps.1) hpn)
  have HR := hide hrow
  have HPS := hide hps
  clear hrow hsz hok hps
  go_enter Tryz.func25, Tryz.ntmps25
  go_wp2_with fail
  rw [← hw0]
  clear hw0
  refine (unhide HC).mono ?_
  rintro e w1 ⟨rfl, hb1⟩
  have B1 : Below w.heap.size w w1 := B0.trans (hb1.mono B0.size)
  have O1 := O0.below hb1 O0.lt
  clear O0 B0 hb1 HC
  by_cases hf : Ste.pFault l ps = 0
  case neg =>
    have fin : Ste.pOut l ps = (Ste.pFault l ps, 0, []) := by unfold Ste.pOut; rw [if_neg hf]
    have hI : (Ste.pFault l ps == 0) = false := beq_eq_false_iff_ne.2 hf
    have FN := hide fin
    clear hf fin HR HPS
    generalize Ste.pFault l ps = x at *
    go_upto_region 3 with fail
    obtain ⟨c0, c1, c2⟩ := pres_co O1
    have z0 := O1.frozen 0
    have z1 := O1.frozen 1
    have z2 := O1.frozen 2
    have O9 := hide (((O1.set 0 (.int .i64 x)).set 1 (.int .i64 0)).set 2 (.slice none 0 0))
    go_wp2_with fail
    obtain ⟨q0, q1, q2⟩ := pres_co (x := x) (y := 0) (v := .slice none 0 0) (unhide O9)
    clear c0 c1 c2 z0 z1 z2 O9
    have B9 : Below w.heap.size w (((w1.setCell ⟨w.heap.size, 0, none⟩ (.int .i64 x)).setCell ⟨w.heap.size, 1, none⟩ (.int .i64 0)).setCell ⟨w.heap.size, 2, none⟩ (.slice none 0 0)) := ((B1.setCell (Nat.le_refl _) _).setCell (Nat.le_refl _) _).setCell (Nat.le_refl _) _
    have K9 := hide (show ∀ k, k ≠ w.heap.size → (((w1.setCell ⟨w.heap.size, 0, none⟩ (.int .i64 x)).setCell ⟨w.heap.size, 1, none⟩ (.int .i64 0)).setCell ⟨w.heap.size, 2, none⟩ (.slice none 0 0)).heap[k]? = w1.heap[k]? from fun k hk => by rw [Below.heap_setCell _ _ _ _ hk, Below.heap_setCell _ _ _ _ hk, Below.heap_setCell _ _ _ _ hk])
    generalize ((w1.setCell ⟨w.heap.size, 0, none⟩ (.int .i64 x)).setCell ⟨w.heap.size, 1, none⟩ (.int .i64 0)).setCell ⟨w.heap.size, 2, none⟩ (.slice none 0 0) = WW at *
    refine bodyPost_ret (v := .agg #[.int .i64 x, .int .i64 0, .slice none 0 0]) (by simp [results, Tryz.results25, go_sem, q0, q1, q2]; try rfl) rfl ?_
    rw [unhide FN]; exact ⟨w.heap.size, _, [], rfl, rfl, Lw.Rw.nil _ _, List.nodup_nil, Nat.le_refl _, B9⟩
  case pos =>
    obtain ⟨hfl, h20, hall⟩ := Ste.pFault_parts hf
    obtain ⟨hok0, hsz0, hl1, h900, _⟩ := Ste.tre_whole hfl
    have hout := Ste.pOut_eq hf
    obtain ⟨w3, hw3⟩ : ∃ w3, w3 = w1.alloc (.cells #[.nilFunc, .func (.func 38) #[] #[], .func (.func 39) #[] #[], .func (.func 40) #[] #[], .func (.func 41) #[] #[]] 59) := ⟨_, rfl⟩
    have B3 : Below w1.heap.size w1 w3 := by rw [hw3]; exact (Below.refl _ _).alloc (Nat.le_refl _) _
    have OA : Own w3 w1.heap.size 59 [.nilFunc, .func (.func 38) #[] #[], .func (.func 39) #[] #[], .func (.func 40) #[] #[], .func (.func 41) #[] #[]] := by rw [hw3]; exact ⟨_, heap_alloc_new _ _, rfl⟩
    have O3 := O1.below B3 O1.lt
    have hs3 : w3.heap.size = w1.heap.size + 1 := by rw [hw3]; simp
    have BW3 : Below w.heap.size w w3 := B1.trans (B3.mono B1.size)
    have HPL := hide ((unhide HPS).below BW3 (unhide HPS).1)
    have HST := hide (stemOf_any b E l w3 ((unhide HR).below BW3) hfl)
    have hw1 : w.heap.size < w1.heap.size := O1.lt
    have HALL := hide hall
    have HOUT := hide hout
    have HOK := hide (fun k => Ste.pAt_ok ps (Ste.tre l (l.length - 1)) hok0 k)
    rw [hsz0] at HOK
    have HOA := hide OA
    have HO3 := hide O3
    have HBW := hide BW3
    rw [hf]
    clear hf hout hall hok0 hsz0 B3 OA O3 BW3 O1 B1 HPS HR hfl
    generalize Ste.tre l (l.length - 1) = s0 at *
    generalize Ste.pOut l ps = out at *
    go_wp2_with fail
    rw [← hw3]
    clear hw3
    refine (unhide HST).mono ?_
    rintro e w4 ⟨p0, R0, rfl, hsh, hR0, hb4⟩
    have S0 := hide (show Ste.Pp w4 w3.heap.size (Ste.pAt ps s0 0).1 p0 from ⟨R0, hsh, hR0⟩)
    have HB4 := hide hb4
    clear HST hsh hR0 hb4
    go_wp2_with fail
    go_loopg [7, 8, 24] ps.length (fun gh s7 s8 s24 wr => ∃ (k p D : Nat), Hid (gh = ps.length - k) ∧ s24 = .int .i64 (k : Int) ∧ s7 = .pointer (some ⟨p, 0, none⟩) ∧ s8 = .int .i64 (D : Int) ∧ k ≤ ps.length ∧ Hid (D = (Ste.pAt ps s0 k).2) ∧ Hid (Ste.Pp wr w3.heap.size (Ste.pAt ps s0 k).1 p) ∧ Hid (Below w3.heap.size w3 wr))
    case atStart => exact ⟨0, p0, 0, rfl, rfl, rfl, rfl, by omega, rfl, unhide S0, unhide HB4⟩
    case round =>
      clear S0 HB4
      obtain ⟨k, p, D, hgk, rfl, rfl, rfl, hkl, HD, HPP, HBR⟩ := hrel
      have BR := unhide HBR
      have hszr : w3.heap.size ≤ wr.heap.size := BR.size
      have hDl : D ≤ k * l.length := by rw [unhide HD]; exact ((unhide HOK) k).2.2
      have hD2 : D ≤ 20 * 900 := Nat.le_trans hDl (Nat.mul_le_mul (by omega) h900)
      clear hDl
      by_cases hlt : k < ps.length
      · have hkI : (k : Int) < (ps.length : Int) := by omega
        have hk0 : (0 : Int) ≤ (k : Int) := by omega
        have hc := ((unhide HPL).below BR (Nat.lt_of_lt_of_le (unhide HPL).1 (Nat.le_refl _))).2 k hlt
        have OAr := (unhide HOA).below BR (unhide HOA).lt
        obtain ⟨hr1, hr4⟩ := (unhide HALL) k hlt
        obtain ⟨R, hsh, hR⟩ := unhide HPP
        obtain ⟨k1, k2, _⟩ := (unhide HOK) k
        have HNX := hide (show ∀ n, n = ps.getD k 0 → (Ste.pAt ps s0 (k + 1)).1 = (Ste.pass n (Ste.pAt ps s0 k).1).1 ∧ (Ste.pAt ps s0 (k + 1)).2 = D + (Ste.pass n (Ste.pAt ps s0 k).1).2 from fun n hn => by rw [hn, unhide HD]; exact ⟨rfl, rfl⟩)
        clear HPP HBR HD
        have hcase : ps.getD k 0 = 1 ∨ ps.getD k 0 = 2 ∨ ps.getD k 0 = 3 ∨ ps.getD k 0 = 4 := by omega
        have hsk : Ste.sz (Ste.pAt ps s0 k).1 ≤ 900 := Nat.le_trans k2 h900
        have hm3 := fun n => Nat.le_trans (Ste.pass_ok n _ k1).2.2 hsk
        clear hr1 hr4
        generalize (Ste.pAt ps s0 k).1 = s at *
        rcases hcase with hv | hv | hv | hv
        · exfalso; have := (unhide HPV) k hlt; omega
        · exfalso; have := (unhide HPV) k hlt; omega
        · rw [hv] at hc
          have cf : wr.cell? ⟨w1.heap.size, 3, none⟩ = some (.func (.func 40) #[] #[]) := OAr.cell 3
          have hm := hm3 3
          obtain ⟨n1, n2⟩ := (unhide HNX) 3 hv.symm
          have HT := hide (through_3 s wr p R hsh k1 hsk)
          clear OAr HNX hv hm3 hsh
          go_wp2_with fail
          refine (unhide HT).mono ?_
          rintro e w5 ⟨p', R', rfl, hsh', hsub, hfr⟩
          have BL := hfr.below (B := w3.heap.size) hR hszr
          have HB5 := hide (BR.trans BL)
          have HP5 := hide (show Ste.Pp w5 w3.heap.size (Ste.pAt ps s0 (k + 1)).1 p' from ⟨R', by rw [n1]; exact hsh', fun q hq => hR q (hsub q hq)⟩)
          have HD5 := hide n2
          clear HT hsh' hsub hfr BL n1 n2
          generalize (Ste.pass 3 s).2 = M at *
          go_wp2_with fail
          go_roundg (ps.length - (k + 1))
          case rel => exact ⟨k + 1, p', D + M, rfl, by go_num, rfl, by go_num, by omega, (unhide HD5).symm, unhide HP5, unhide HB5⟩
          case measure => have := hgk.out; omega
        · rw [hv] at hc
          have cf : wr.cell? ⟨w1.heap.size, 4, none⟩ = some (.func (.func 41) #[] #[]) := OAr.cell 4
          have hm := hm3 4
          obtain ⟨n1, n2⟩ := (unhide HNX) 4 hv.symm
          have HT := hide (through_4 s wr p R hsh k1 hsk)
          clear OAr HNX hv hm3 hsh
          go_wp2_with fail
          refine (unhide HT).mono ?_
          rintro e w5 ⟨p', R', rfl, hsh', hsub, hfr⟩
          have BL := hfr.below (B := w3.heap.size) hR hszr
          have HB5 := hide (BR.trans BL)
          have HP5 := hide (show Ste.Pp w5 w3.heap.size (Ste.pAt ps s0 (k + 1)).1 p' from ⟨R', by rw [n1]; exact hsh', fun q hq => hR q (hsub q hq)⟩)
          have HD5 := hide n2
          clear HT hsh' hsub hfr BL n1 n2
          generalize (Ste.pass 4 s).2 = M at *
          go_wp2_with fail
          go_roundg (ps.length - (k + 1))
          case rel => exact ⟨k + 1, p', D + M, rfl, by go_num, rfl, by go_num, by omega, (unhide HD5).symm, unhide HP5, unhide HB5⟩
          case measure => have := hgk.out; omega
      · have hkI : ¬ (k : Int) < (ps.length : Int) := by omega
        have hke : k = ps.length := by omega
        obtain ⟨R, hsh, hR⟩ := unhide HPP
        obtain ⟨_, k2, _⟩ := (unhide HOK) k
        have HL := hide (layBehind_any w3.heap.size _ wr p R (.slice none 0 0) [] hsh (Lw.Rw.nil _ _) List.nodup_nil hszr (by simp only [List.length_nil]; omega))
        have O5 := (unhide HO3).below BR (by omega)
        have B5 := (unhide HBW).trans (BR.mono (by omega))
        subst hke
        have hDe := unhide HD
        have HFN := hide (show out = (0, (D : Int), Ste.lay 0 (Ste.pAt ps s0 ps.length).1) by rw [hDe]; exact unhide HOUT)
        clear HPP HD HBR hsh hR HOUT hDe
        generalize (Ste.pAt ps s0 ps.length).1 = s at *
        go_wp2_with fail
        refine (unhide HL).mono ?_
        rintro e w6 ⟨v6, cs, rfl, hcs, hrw, hnd, hlf⟩
        obtain ⟨a6, c6, rfl⟩ := hrw.slice
        have BL := hlf.below (B := w3.heap.size) (fun b hb => by cases hb) hszr
        have O6 := O5.below BL (by have := (unhide HO3).lt; omega)
        have B6 := B5.trans (BL.mono (by omega))
        have HRW := hide hrw
        simp only [List.map_nil, List.nil_append, List.length_nil] at hcs
        clear hlf hrw HL BL O5 B5
        obtain ⟨c0, c1, c2⟩ := pres_co O6
        have z0 := O6.frozen 0
        have z1 := O6.frozen 1
        have z2 := O6.frozen 2
        have O9 := hide (((O6.set 0 (.int .i64 0)).set 1 (.int .i64 (D : Int))).set 2 (.slice a6 cs.length c6))
        go_wp2_with fail
        obtain ⟨q0, q1, q2⟩ := pres_co (x := 0) (y := (D : Int)) (v := .slice a6 cs.length c6) (unhide O9)
        clear c0 c1 c2 z0 z1 z2 O9
        have B9 : Below w.heap.size w (((w6.setCell ⟨w.heap.size, 0, none⟩ (.int .i64 0)).setCell ⟨w.heap.size, 1, none⟩ (.int .i64 (D : Int))).setCell ⟨w.heap.size, 2, none⟩ (.slice a6 cs.length c6)) := ((B6.setCell (Nat.le_refl _) _).setCell (Nat.le_refl _) _).setCell (Nat.le_refl _) _
        have K9 := hide (show ∀ k, k ≠ w.heap.size → (((w6.setCell ⟨w.heap.size, 0, none⟩ (.int .i64 0)).setCell ⟨w.heap.size, 1, none⟩ (.int .i64 (D : Int))).setCell ⟨w.heap.size, 2, none⟩ (.slice a6 cs.length c6)).heap[k]? = w6.heap[k]? from fun k hk => by rw [Below.heap_setCell _ _ _ _ hk, Below.heap_setCell _ _ _ _ hk, Below.heap_setCell _ _ _ _ hk])
        generalize ((w6.setCell ⟨w.heap.size, 0, none⟩ (.int .i64 0)).setCell ⟨w.heap.size, 1, none⟩ (.int .i64 (D : Int))).setCell ⟨w.heap.size, 2, none⟩ (.slice a6 cs.length c6) = WW at *
        refine bodyPost_ret (v := .agg #[.int .i64 0, .int .i64 (D : Int), .slice a6 cs.length c6]) (by simp [results, Tryz.results25, go_sem, q0, q1, q2]; try rfl) rfl ?_
        rw [unhide HFN]; exact ⟨w3.heap.size, _, cs, rfl, hcs, (unhide HRW).keep (fun b _ hb => (unhide K9) b (by omega)), hnd, by omega, B9⟩

end Go.Proofs.YtbaanpgbfncdnaaGreat

namespace Go.Proofs.YtbaanpgbfncdnaaGreat
open Go.RowKit
set_option linter.unusedVariables false
set_option linter.unusedSimpArgs false

set_option maxRecDepth 100000 in
set_option maxHeartbeats 4000000 in
theorem implDeadCore_any (b E : Nat) (l : List Co) (w : World) (hrow : Co.LaidRow w b E l) (hn : l.length ≤ 1048576) (hsz : ∀ i, i < l.length → (l.getD i Co.zero).val.length ≤ 1048576) (hok : ∀ c ∈ l, c.ok) :
    Calls Tryz.prog 20 #[.slice (some ⟨b, 0, none⟩) l.length l.length] w (Ste.Pr w (Ste.pOut l [3])) := by
  have hb := hrow.lt
  obtain ⟨w0, hw0⟩ : ∃ w0, w0 = w.alloc (.cells #[.int .i64 0, .int .i64 0, .slice none 0 0] 26) := ⟨_, rfl⟩
  have B0 : Below w.heap.size w w0 := by rw [hw0]; exact (Below.refl _ _).alloc (Nat.le_refl _) _
  have O0 : Own w0 w.heap.size 26 [.int .i64 0, .int .i64 0, .slice none 0 0] := by rw [hw0]; exact ⟨_, heap_alloc_new _ _, rfl⟩
  obtain ⟨w1, hw1⟩ : ∃ w1, w1 = (w0.alloc (.cells #[.int .i64 3] 2)) := ⟨_, rfl⟩
  have B01 : Below w0.heap.size w0 w1 := by rw [hw1]; exact (Below.refl _ _).alloc (Nat.le_refl _) _
  have X1 : Own w1 w0.heap.size 2 [.int .i64 3] := by rw [hw1]; exact ⟨_, heap_alloc_new _ _, rfl⟩
  have B1 : Below w.heap.size w w1 := B0.trans (B01.mono B0.size)
  have O1 := O0.below B01 O0.lt
  have hps : Ste.Pl w1 w0.heap.size [3] := ⟨X1.lt, fun i hi => by
    have : i = 0 := by simpa using hi
    subst this; exact X1.cell 0⟩
  have hs0 : w0.heap.size = w.heap.size + 1 := by rw [hw0]; simp
  have HC := hide (implRunPasses_any b E l w1 (hrow.below B1) hn hsz hok w0.heap.size 1 [3] hps (by simp) (fun i hi => by have e : i = 0 := (by simpa using hi); subst e; exact (.inl rfl)))
  clear hrow hsz hok hps X1 O0 B0 B01
  go_enter Tryz.func20, Tryz.ntmps20
  generalize Ste.pOut l [3] = o at *
  obtain ⟨o1, o2, o3⟩ := o
  go_wp2_with fail
  rw [← hs0, ← hw0, ← hw1]
  clear hw0 hw1
  refine (unhide HC).mono ?_
  rintro e w2 ⟨B, v, cs, rfl, hcs, hrw, hnd, hB, hb2⟩
  obtain ⟨a6, c6, rfl⟩ := hrw.slice
  have O2 := O1.below hb2 O1.lt
  have B2 := B1.trans (hb2.mono B1.size)
  have hlt : w.heap.size < B := Nat.lt_of_lt_of_le O1.lt hB
  have HRW := hide hrw
  simp only at hcs
  clear HC hrw hb2 O1 B1
  obtain ⟨c0, c1, c2⟩ := pres_co O2
  have z0 := O2.frozen 0
  have z1 := O2.frozen 1
  have z2 := O2.frozen 2
  have O9 := hide (((O2.set 0 (.int .i64 o1)).set 1 (.int .i64 o2)).set 2 (.slice a6 cs.length c6))
  go_wp2_with fail
  obtain ⟨q0, q1, q2⟩ := pres_co (x := o1) (y := o2) (v := .slice a6 cs.length c6) (unhide O9)
  clear c0 c1 c2 z0 z1 z2 O9
  have B9 : Below w.heap.size w (((w2.setCell ⟨w.heap.size, 0, none⟩ (.int .i64 o1)).setCell ⟨w.heap.size, 1, none⟩ (.int .i64 o2)).setCell ⟨w.heap.size, 2, none⟩ (.slice a6 cs.length c6)) := ((B2.setCell (Nat.le_refl _) _).setCell (Nat.le_refl _) _).setCell (Nat.le_refl _) _
  have K9 := hide (show ∀ k, k ≠ w.heap.size → (((w2.setCell ⟨w.heap.size, 0, none⟩ (.int .i64 o1)).setCell ⟨w.heap.size, 1, none⟩ (.int .i64 o2)).setCell ⟨w.heap.size, 2, none⟩ (.slice a6 cs.length c6)).heap[k]? = w2.heap[k]? from fun k hk => by rw [Below.heap_setCell _ _ _ _ hk, Below.heap_setCell _ _ _ _ hk, Below.heap_setCell _ _ _ _ hk])
  generalize ((w2.setCell ⟨w.heap.size, 0, none⟩ (.int .i64 o1)).setCell ⟨w.heap.size, 1, none⟩ (.int .i64 o2)).setCell ⟨w.heap.size, 2, none⟩ (.slice a6 cs.length c6) = WW at *
  refine bodyPost_ret (v := .agg #[.int .i64 o1, .int .i64 o2, .slice a6 cs.length c6]) (by simp [results, Tryz.results20, go_sem, q0, q1, q2]; try rfl) rfl ?_
  exact ⟨B, _, cs, rfl, hcs, (unhide HRW).keep (fun b _ hb => (unhide K9) b (by omega)), hnd, by omega, B9⟩
set_option maxRecDepth 100000 in
set_option maxHeartbeats 4000000 in
theorem implTryCore_any (b E : Nat) (l : List Co) (w : World) (hrow : Co.LaidRow w b E l) (hn : l.length ≤ 1048576) (hsz : ∀ i, i < l.length → (l.getD i Co.zero).val.length ≤ 1048576) (hok : ∀ c ∈ l, c.ok) :
    Calls Tryz.prog 22 #[.slice (some ⟨b, 0, none⟩) l.length l.length] w (Ste.Pr w (Ste.pOut l [4])) := by
  have hb := hrow.lt
  obtain ⟨w0, hw0⟩ : ∃ w0, w0 = w.alloc (.cells #[.int .i64 0, .int .i64 0, .slice none 0 0] 26) := ⟨_, rfl⟩
  have B0 : Below w.heap.size w w0 := by rw [hw0]; exact (Below.refl _ _).alloc (Nat.le_refl _) _
  have O0 : Own w0 w.heap.size 26 [.int .i64 0, .int .i64 0, .slice none 0 0] := by rw [hw0]; exact ⟨_, heap_alloc_new _ _, rfl⟩
  obtain ⟨w1, hw1⟩ : ∃ w1, w1 = (w0.alloc (.cells #[.int .i64 4] 2)) := ⟨_, rfl⟩
  have B01 : Below w0.heap.size w0 w1 := by rw [hw1]; exact (Below.refl _ _).alloc (Nat.le_refl _) _
  have X1 : Own w1 w0.heap.size 2 [.int .i64 4] := by rw [hw1]; exact ⟨_, heap_alloc_new _ _, rfl⟩
  have B1 : Below w.heap.size w w1 := B0.trans (B01.mono B0.size)
  have O1 := O0.below B01 O0.lt
  have hps : Ste.Pl w1 w0.heap.size [4] := ⟨X1.lt, fun i hi => by
    have : i = 0 := by simpa using hi
    subst this; exact X1.cell 0⟩
  have hs0 : w0.heap.size = w.heap.size + 1 := by rw [hw0]; simp
  have HC := hide (implRunPasses_any b E l w1 (hrow.below B1) hn hsz hok w0.heap.size 1 [4] hps (by simp) (fun i hi => by have e : i = 0 := (by simpa using hi); subst e; exact (.inr rfl)))
  clear hrow hsz hok hps X1 O0 B0 B01
  go_enter Tryz.func22, Tryz.ntmps22
  generalize Ste.pOut l [4] = o at *
  obtain ⟨o1, o2, o3⟩ := o
  go_wp2_with fail
  rw [← hs0, ← hw0, ← hw1]
  clear hw0 hw1
  refine (unhide HC).mono ?_
  rintro e w2 ⟨B, v, cs, rfl, hcs, hrw, hnd, hB, hb2⟩
  obtain ⟨a6, c6, rfl⟩ := hrw.slice
  have O2 := O1.below hb2 O1.lt
  have B2 := B1.trans (hb2.mono B1.size)
  have hlt : w.heap.size < B := Nat.lt_of_lt_of_le O1.lt hB
  have HRW := hide hrw
  simp only at hcs
  clear HC hrw hb2 O1 B1
  obtain ⟨c0, c1, c2⟩ := pres_co O2
  have z0 := O2.frozen 0
  have z1 := O2.frozen 1
  have z2 := O2.frozen 2
  have O9 := hide (((O2.set 0 (.int .i64 o1)).set 1 (.int .i64 o2)).set 2 (.slice a6 cs.length c6))
  go_wp2_with fail
  obtain ⟨q0, q1, q2⟩ := pres_co (x := o1) (y := o2) (v := .slice a6 cs.length c6) (unhide O9)
  clear c0 c1 c2 z0 z1 z2 O9
  have B9 : Below w.heap.size w (((w2.setCell ⟨w.heap.size, 0, none⟩ (.int .i64 o1)).setCell ⟨w.heap.size, 1, none⟩ (.int .i64 o2)).setCell ⟨w.heap.size, 2, none⟩ (.slice a6 cs.length c6)) := ((B2.setCell (Nat.le_refl _) _).setCell (Nat.le_refl _) _).setCell (Nat.le_refl _) _
  have K9 := hide (show ∀ k, k ≠ w.heap.size → (((w2.setCell ⟨w.heap.size, 0, none⟩ (.int .i64 o1)).setCell ⟨w.heap.size, 1, none⟩ (.int .i64 o2)).setCell ⟨w.heap.size, 2, none⟩ (.slice a6 cs.length c6)).heap[k]? = w2.heap[k]? from fun k hk => by rw [Below.heap_setCell _ _ _ _ hk, Below.heap_setCell _ _ _ _ hk, Below.heap_setCell _ _ _ _ hk])
  generalize ((w2.setCell ⟨w.heap.size, 0, none⟩ (.int .i64 o1)).setCell ⟨w.heap.size, 1, none⟩ (.int .i64 o2)).setCell ⟨w.heap.size, 2, none⟩ (.slice a6 cs.length c6) = WW at *
  refine bodyPost_ret (v := .agg #[.int .i64 o1, .int .i64 o2, .slice a6 cs.length c6]) (by simp [results, Tryz.results22, go_sem, q0, q1, q2]; try rfl) rfl ?_
  exact ⟨B, _, cs, rfl, hcs, (unhide HRW).keep (fun b _ hb => (unhide K9) b (by omega)), hnd, by omega, B9⟩

end Go.Proofs.YtbaanpgbfncdnaaGreat
