/-
  FlatText: plainly; impl.flatLine; both sides.
-/
import Derived.Test.YtlbmpldknfcfhaaDoorU27
import Derived.Test.YtlbmpldknfcfhaaDoorU32
import Derived.Test.YtlbmpldknfcfhaaDoorU36
import Derived.Test.YtlbmpldknfcfhaaDoorU37
import Derived.Test.YtlbmpldknfcfhaaDoorU47
namespace Go.Proofs.YtlbmpldknfcfhaaDoor
open Go.RowKit
set_option linter.unusedVariables false
set_option linter.unusedSimpArgs false
namespace Fl
/-- The line of a path, with its line feed. -/
def lineT (v p : List M.Cl) : List UInt8 := Pth.textK p (M.arity p 0) ++ [32, 61, 32] ++ J.encL 200 (Pth.getOutP v p).2 ++ [10]
def flatK (v : List M.Cl) (L : List (List M.Cl)) : Nat → List UInt8
  | 0 => []
  | k + 1 => flatK v L k ++ lineT v (L.getD k [])
/-- What FlatText tells. -/
def flatOut (v : List M.Cl) : Int × ByteArray := if M.valueFault v ≠ 0 then (M.valueFault v, ByteArray.empty) else (0, J.bytes (flatK v ((Al.steps true v).map Al.pathC) ((Al.steps true v).map Al.pathC).length))
theorem flat_bad {v : List M.Cl} (h : M.valueFault v ≠ 0) : flatOut v = (M.valueFault v, ByteArray.empty) := if_pos h
theorem flat_ok {v : List M.Cl} (h : M.valueFault v = 0) : flatOut v = (0, J.bytes (flatK v ((Al.steps true v).map Al.pathC) ((Al.steps true v).map Al.pathC).length)) := if_neg (by simp [h])
/-- What is told of a path to a leaf. -/
structure Pa (v p : List M.Cl) : Prop where
  get : Pth.getOutP v p = (0, (Pth.getOutP v p).2)
  val : M.valueFault (Pth.getOutP v p).2 = 0
  pf : Pth.fault p = 0
  ok : ∀ c ∈ p, c.ok
  len : p.length ≤ 300
  tl : (Pth.textK p (M.arity p 0)).length ≤ 20000000
  el : (J.encL 200 (Pth.getOutP v p).2).length ≤ 80000
theorem pa_at {v : List M.Cl} (hv : M.valueFault v = 0) {k : Nat} (hk : k < ((Al.steps true v).map Al.pathC).length) : Pa v (((Al.steps true v).map Al.pathC).getD k []) := by
  rw [List.length_map] at hk
  have hl := (M.fault_zero hv).2.1
  obtain ⟨s1, s2, u, s3, s4⟩ := Al.steps_at true hv hk
  have hm : ((Al.steps true v).map Al.pathC).getD k [] = Al.pathC ((Al.steps true v).getD k []) := by
    rw [List.getD_eq_getElem?_getD, List.getElem?_map, List.getElem?_eq_getElem hk, List.getD_eq_getElem?_getD, List.getElem?_eq_getElem hk]; rfl
  rw [hm]
  generalize (Al.steps true v).getD k [] = q at *
  obtain ⟨p1, p2, p3⟩ := Al.pathC_ok s1 (by omega)
  have hg : Pth.getOutP v (Al.pathC q) = (0, u) := by rw [Pth.getP_ok (by rw [Pth.asked_ok hv]; exact p2), p3, s3]
  exact ⟨by rw [hg], by rw [hg]; exact s4, p2, Pth.oks p1, by rw [Al.pathC_length]; omega, Pth.textRoom p1 (Nat.le_refl _), by rw [hg]; exact Pth.encLen s4⟩
theorem flat_len {v : List M.Cl} (hv : M.valueFault v = 0) : ∀ k, k ≤ ((Al.steps true v).map Al.pathC).length → (flatK v ((Al.steps true v).map Al.pathC) k).length ≤ 21000000 * k
  | 0, _ => by simp [flatK]
  | k + 1, hk => by
    have h1 := flat_len hv k (by omega)
    have h2 := pa_at hv (k := k) (by omega)
    have h3 := h2.tl
    have h4 := h2.el
    rw [flatK, List.length_append]
    unfold lineT
    simp only [List.length_append, List.length_cons, List.length_nil]
    omega
theorem steps_few {v : List M.Cl} (hv : M.valueFault v = 0) : ((Al.steps true v).map Al.pathC).length ≤ 200 := by rw [List.length_map]; exact Al.steps_len true hv
theorem fldS (x : Int) (t : ByteArray) (w : World) : (Instr.field 25 (.agg #[.int .i64 x, .string t]) 1).run Tryd.prog w = .ok (.string t) w := by kernel_rfl
theorem fldV1 (x : Int) (a : Option Addr) (n c : Nat) (w : World) : (Instr.field 56 (.agg #[.int .i64 x, .slice a n c]) 1).run Tryd.prog w = .ok (.slice a n c) w := by kernel_rfl
theorem rowed {w : World} {B : Nat} {s : Value} {l : List M.Cl} (h : Res w B s l) (hne : l ≠ []) : ∃ b cap, s = .slice (some ⟨b, 0, none⟩) l.length cap ∧ l.length ≤ cap ∧ b < w.heap.size ∧ Row w b 0 l := by
  obtain ⟨hn, ⟨h1, h2⟩ | ⟨b, cap, h1, h2, h3, h4⟩⟩ := h
  · exact absurd h2 hne
  · exact ⟨b, cap, h1, h3, h4.lt, h4.row⟩
theorem ne_of {l : List M.Cl} (h : M.valueFault l = 0) : l ≠ [] := by intro e; have := (M.fault_zero h).1; rw [e] at this; simp at this
set_option maxRecDepth 100000 in
set_option maxHeartbeats 4000000 in
theorem flatLine_any (p : List M.Cl) (bp op cp : Nat) (u : List M.Cl) (bu cu : Nat) (w : World) (hpf : Pth.fault p = 0) (hpr : Row w bp op p) (hpb : bp < w.heap.size) (hpl : p.length ≤ 300) (hpc : p.length ≤ cp) (hpm : cp ≤ 9223372036854775807) (hpo : ∀ c ∈ p, c.ok) (huv : M.valueFault u = 0) (hur : Row w bu 0 u) (hub : bu < w.heap.size) (huc : u.length ≤ cu)
    (htl : (Pth.textK p (M.arity p 0)).length ≤ 20000000) (hel : (J.encL 200 u).length ≤ 80000) (htab : Lib.TabBelow Tryd.prog w.heap.size w "internal/strconv.uint64pow10" .u64 Lib.pow10Tab) :
    Calls Tryd.prog 29 #[.agg #[.slice (some ⟨bp, op, none⟩) p.length cp, .slice (some ⟨bu, 0, none⟩) u.length cu]] w fun e w' => e = .returned (.string (J.bytes (Pth.textK p (M.arity p 0) ++ [32, 61, 32] ++ J.encL 200 u))) ∧ Below w.heap.size w w' := by
  obtain ⟨W1, hW1⟩ : ∃ W1, W1 = w.alloc (.cells #[.slice (some ⟨bp, op, none⟩) p.length cp, .slice (some ⟨bu, 0, none⟩) u.length cu] 60) := ⟨_, rfl⟩
  have B1 : Below w.heap.size w W1 := by rw [hW1]; exact (Below.refl _ _).alloc (Nat.le_refl _) _
  have HO1 := hide (show Own W1 w.heap.size 60 [.slice (some ⟨bp, op, none⟩) p.length cp, .slice (some ⟨bu, 0, none⟩) u.length cu] by rw [hW1]; exact ⟨_, heap_alloc_new _ _, rfl⟩)
  have hul := (M.fault_zero huv).2.1
  have HPT := hide (fun W (h : Below W1.heap.size W1 W) => implPathText_any p bp op cp W (hpr.below (B1.trans (h.mono B1.size)) hpb) (Nat.lt_of_lt_of_le hpb (Nat.le_trans B1.size h.size)) (by omega) hpc hpm hpo (fun w' hb' => htab w' (B1.trans ((h.trans (hb'.mono h.size)).mono B1.size))))
  have HEN := hide (fun W (h : Below W1.heap.size W1 W) => implEncode_any u bu 0 cu W (hur.below (B1.trans (h.mono B1.size)) hub) (Nat.lt_of_lt_of_le hub (Nat.le_trans B1.size h.size)) (by omega) huc (Pth.oks huv) (fun w' hb' => htab w' (B1.trans ((h.trans (hb'.mono h.size)).mono B1.size))))
  rw [Pth.text_ok hpf] at HPT
  rw [encV_ok huv] at HEN
  have HFIN := hide (show J.bytes (Pth.textK p (M.arity p 0)) ++ { data := #[32, 61, 32] } ++ J.bytes (J.encL 200 u) = J.bytes (Pth.textK p (M.arity p 0) ++ [32, 61, 32] ++ J.encL 200 u) from by
    rw [← J.bytes_append, ← J.bytes_append]; rfl)
  rw [← unhide HFIN]
  have hs1 : (J.bytes (Pth.textK p (M.arity p 0))).size ≤ 20000000 := by rw [J.bytes_size]; exact htl
  have hs2 : (J.bytes (J.encL 200 u)).size ≤ 80000 := by rw [J.bytes_size]; exact hel
  generalize J.bytes (Pth.textK p (M.arity p 0)) = T at *
  generalize J.bytes (J.encL 200 u) = E at *
  have hs3 : (T ++ { data := #[32, 61, 32] } : ByteArray).size ≤ 20000003 := by rw [ByteArray.size_append]; show _ + 3 ≤ _; omega
  have K0 := hide (fun W (h : Below W1.heap.size W1 W) => (show W.cell? ⟨w.heap.size, 0, none⟩ = some (.slice (some ⟨bp, op, none⟩) p.length cp) from (h.cell (unhide HO1).lt).trans ((unhide HO1).cell 0)))
  have K1 := hide (fun W (h : Below W1.heap.size W1 W) => (show W.cell? ⟨w.heap.size, 1, none⟩ = some (.slice (some ⟨bu, 0, none⟩) u.length cu) from (h.cell (unhide HO1).lt).trans ((unhide HO1).cell 1)))
  have hS0 : Below W1.heap.size W1 W1.drew := (Below.refl _ _).drew
  have HB1 := hide B1
  clear hpf hpr hpb hpo huv hur hub htab HO1 B1 HFIN htl hel
  go_enter Tryd.func29, Tryd.ntmps29
  go_wp2_with fail
  rw [← hW1]
  clear hW1
  refine Z.region 10 (fun W => Below W1.heap.size W1 W) (by kernel_rfl) hS0 (fun hHeld => ?_)
  refine Z.take (i := 0) (d := 3) (v := .pointer (some ⟨w.heap.size, 0, none⟩)) rfl rfl (by kernel_rfl) (by kernel_rfl) (by kernel_rfl) (by kernel_rfl) (fun _ _ _ h => h) (Or.inl ⟨by rfl, ?_⟩) hHeld ?_
  · intro w' hSw; go_simp
  simp only [Act.put, List.setIfInBounds_toArray, List.set_cons_zero, List.set_cons_succ]
  refine Z.take (i := 1) (d := 4) (v := .slice (some ⟨bp, op, none⟩) p.length cp) rfl rfl (by kernel_rfl) (by kernel_rfl) (by kernel_rfl) (by kernel_rfl) (fun _ _ _ h => h) (Or.inl ⟨by rfl, ?_⟩) hHeld ?_
  · intro w' hSw; have g1 := (unhide K0) _ hSw; go_simp
  simp only [Act.put, List.setIfInBounds_toArray, List.set_cons_zero, List.set_cons_succ]
  refine Z.take (i := 5) (d := 8) (v := .pointer (some ⟨w.heap.size, 1, none⟩)) rfl rfl (by kernel_rfl) (by kernel_rfl) (by kernel_rfl) (by kernel_rfl) (fun _ _ _ h => h) (Or.inl ⟨by rfl, ?_⟩) hHeld ?_
  · intro w' hSw; go_simp
  simp only [Act.put, List.setIfInBounds_toArray, List.set_cons_zero, List.set_cons_succ]
  refine Z.take (i := 6) (d := 9) (v := .slice (some ⟨bu, 0, none⟩) u.length cu) rfl rfl (by kernel_rfl) (by kernel_rfl) (by kernel_rfl) (by kernel_rfl) (fun _ _ _ h => h) (Or.inl ⟨by rfl, ?_⟩) hHeld ?_
  · intro w' hSw; have g1 := (unhide K1) _ hSw; go_simp
  simp only [Act.put, List.setIfInBounds_toArray, List.set_cons_zero, List.set_cons_succ]

  refine Z.only (i := 2) (d := 5) rfl rfl (by kernel_rfl) (by rfl) (fun K hK => ?_)
  go_simp
  refine ((unhide HPT) W1.drew hHeld).mono ?_
  rintro e W2 ⟨rfl, hb2⟩
  have S2 : Below W1.heap.size W1 W2 := hHeld.trans (hb2.mono hHeld.size)
  have hf2 := fun W => fldS 0 T W
  have HE3 := hide ((unhide HEN) W2 S2)
  go_simp
  refine hK.out _ W2 S2 ?_
  clear hK K hb2
  simp only [Act.put, List.setIfInBounds_toArray, List.set_cons_zero, List.set_cons_succ]
  refine Z.take (i := 3) (d := 6) (v := .string T) rfl rfl (by kernel_rfl) (by kernel_rfl) (by kernel_rfl) (by kernel_rfl) (fun _ _ _ h => h) (Or.inl ⟨by rfl, ?_⟩) S2 ?_
  · intro w' hSw; first | (go_simp; done) | (go_simp; exact hf2 _) | (simp [go_sem, hf2]; done)
  simp only [Act.put, List.setIfInBounds_toArray, List.set_cons_zero, List.set_cons_succ]
  refine Z.take (i := 4) (d := 7) (v := .string (T ++ { data := #[32, 61, 32] })) rfl rfl (by kernel_rfl) (by kernel_rfl) (by kernel_rfl) (by kernel_rfl) (fun _ _ _ h => h) (Or.inl ⟨by rfl, ?_⟩) S2 ?_
  · intro w' hSw; go_simp; omega
  simp only [Act.put, List.setIfInBounds_toArray, List.set_cons_zero, List.set_cons_succ]

  refine Z.only (i := 7) (d := 10) rfl rfl (by kernel_rfl) (by rfl) (fun K hK => ?_)
  go_simp
  refine (unhide HE3).mono ?_
  rintro e W4 ⟨rfl, hb4⟩
  have S4 : Below W1.heap.size W1 W4 := S2.trans (hb4.mono S2.size)
  have hf4 := fun W => fldS 0 E W
  go_simp
  refine hK.out _ W4 S4 ?_
  clear hK K hb4 S2
  simp only [Act.put, List.setIfInBounds_toArray, List.set_cons_zero, List.set_cons_succ]
  refine Z.take (i := 8) (d := 11) (v := .string E) rfl rfl (by kernel_rfl) (by kernel_rfl) (by kernel_rfl) (by kernel_rfl) (fun _ _ _ h => h) (Or.inl ⟨by rfl, ?_⟩) S4 ?_
  · intro w' hSw; first | (go_simp; done) | (go_simp; exact hf4 _) | (simp [go_sem, hf4]; done)
  simp only [Act.put, List.setIfInBounds_toArray, List.set_cons_zero, List.set_cons_succ]
  refine Z.take (i := 9) (d := 12) (v := .string (T ++ { data := #[32, 61, 32] } ++ E)) rfl rfl (by kernel_rfl) (by kernel_rfl) (by kernel_rfl) (by kernel_rfl) (fun _ _ _ h => h) (Or.inl ⟨by rfl, ?_⟩) S4 ?_
  · intro w' hSw; go_simp; omega
  simp only [Act.put, List.setIfInBounds_toArray, List.set_cons_zero, List.set_cons_succ]

  refine Z.ready (rs := [10]) (by kernel_rfl) (by simp) (Z.val_cons (i := 10) (d := 2) (v := .string (T ++ { data := #[32, 61, 32] } ++ E)) (w' := W4) rfl (by rfl) (fun K hK => ?_) (fun h => absurd rfl h) ?_ Z.All.nil)
  · go_simp
    exact hK.out
  simp only [Act.put, List.setIfInBounds_toArray, List.set_cons_zero, List.set_cons_succ]
  refine Z.done (by kernel_rfl) ?_ _
  have BF := (unhide HB1).trans (S4.mono (unhide HB1).size)
  clear K0 K1 HPT HEN HE3 hHeld hS0 S4
  go_wp2_with fail
  go_ret
  exact ⟨rfl, BF⟩

set_option maxRecDepth 100000 in
set_option maxHeartbeats 4000000 in
theorem implFlat_any (v : List M.Cl) (b off cap : Nat) (w : World) (hrow : Row w b off v) (hb : b < w.heap.size) (hn : v.length ≤ 1048576) (hcap : v.length ≤ cap) (hok : ∀ c ∈ v, c.ok) (htab : Lib.TabBelow Tryd.prog w.heap.size w "internal/strconv.uint64pow10" .u64 Lib.pow10Tab) :
    Calls Tryd.prog 13 #[.slice (some ⟨b, off, none⟩) v.length cap] w fun e w' => e = .returned (.agg #[.int .i64 (flatOut v).1, .string (flatOut v).2]) ∧ Below w.heap.size w w' := by
  obtain ⟨i0, hi, hz0, hz1, hz2⟩ := info_parts Tryd.info5
  obtain ⟨w0, hw0⟩ : ∃ w0, w0 = w.alloc (.cells #[.int .i64 0, .string ByteArray.empty] 25) := ⟨_, rfl⟩
  have B0 : Below w.heap.size w w0 := by rw [hw0]; exact (Below.refl _ _).alloc (Nat.le_refl _) _
  have hX0 : Own w0 w.heap.size 25 [.int .i64 0, .string ByteArray.empty] := by rw [hw0]; exact ⟨_, heap_alloc_new _ _, rfl⟩
  have HLI := hide (Al.implLeavesIn_any v b off cap w0 (hrow.below B0 hb) (Nat.lt_of_lt_of_le hb B0.size) hn hcap hok)
  have HRW := hide (fun W (h : Below w.heap.size w W) => (show Row W b off v ∧ b < W.heap.size from ⟨hrow.below h hb, Nat.lt_of_lt_of_le hb h.size⟩))
  have HT := hide htab
  have HOK := hide hok
  clear hrow htab hok
  go_enter Tryd.func13, Tryd.ntmps13
  go_wp2_with fail
  try (rw [show (w.alloc (.cells #[.int .i64 0, .string { data := #[] }] 25)) = w0 from hw0.symm])
  refine (unhide HLI).mono ?_
  rintro e1 V1 ⟨s2, rfl, hq, hb1⟩
  have B1 : Below w.heap.size w V1 := B0.trans (hb1.mono B0.size)
  have hX1 := hX0.below hb1 hX0.lt
  clear hb1 B0 hX0 hw0 HLI
  by_cases hv : M.valueFault v = 0
  · have fin := hide (flat_ok hv)
    have HPA := hide (fun k hk => pa_at hv (k := k) hk)
    have HFL := hide (fun k hk => flat_len hv k hk)
    have h200 := steps_few hv
    have HNE := hide (show (Al.steps true v).map Al.pathC ≠ [] from fun e => by
      have := Al.leaf_some v.length v [] hv (Nat.le_refl _)
      exact this (List.map_eq_nil_iff.1 e))
    rw [Al.paths_ok hv] at hq ⊢
    simp only at hq ⊢
    generalize (Al.steps true v).map Al.pathC = L at *
    obtain ⟨a2, c2, rfl⟩ := hq.shapeN
    obtain ⟨w3, hw3⟩ : ∃ w3, w3 = V1.alloc (.cells #[.int .i64 0, .slice a2 L.length c2] 52) := ⟨_, rfl⟩
    have B13 : Below V1.heap.size V1 w3 := by rw [hw3]; exact (Below.refl _ _).alloc (Nat.le_refl _) _
    have B3 : Below w.heap.size w w3 := B1.trans (B13.mono B1.size)
    have HO3 := hide (show Own w3 V1.heap.size 52 [.int .i64 0, .slice a2 L.length c2] by rw [hw3]; exact ⟨_, heap_alloc_new _ _, rfl⟩)
    have HX3 := hide (hX1.below B13 hX1.lt)
    have HQ3 := hide (hq.below B13)
    have p0 : w3.cell? ⟨V1.heap.size, 0, none⟩ = some (.int .i64 0) := (unhide HO3).cell 0
    have p1 : w3.cell? ⟨V1.heap.size, 1, none⟩ = some (.slice a2 L.length c2) := (unhide HO3).cell 1
    rw [hw3] at p0 p1
    clear hq B13 B1 hX1 hv
    go_wp2_with fail
    rw [← hw3]
    clear hw3 p0 p1
    go_loopg [4, 18] L.length (fun gh s4 s18 wr => ∃ k : Nat, Hid (gh = L.length - k) ∧ s18 = .int .i64 (k : Int) ∧ k ≤ L.length ∧ Hid (wr.ownsRow w3.heap.size 5 1 s4 (flatK v L k).length (J.bv (flatK v L k))) ∧ Below w3.heap.size w3 wr)
    case atStart => exact ⟨0, rfl, rfl, by omega, World.ownsRow_nil _ _ _ _, Below.refl _ _⟩
    case round =>
      obtain ⟨k, hg, rfl, hk, hown, hbel⟩ := hrel
      obtain ⟨xa, xn, xc, hx⟩ := owns_shape hown.out
      subst hx
      have BR : Below w.heap.size w wr := B3.trans (hbel.mono B3.size)
      have hfl := (unhide HFL) k hk
      obtain ⟨X, hX⟩ : ∃ X, X = flatK v L k := ⟨_, rfl⟩
      rw [← hX] at hown hfl
      by_cases hlt : k < L.length
      · have hltI : (k : Int) < (L.length : Int) := by omega
        have hk0 : (0 : Int) ≤ (k : Int) := by omega
        have hpa := (unhide HPA) k hlt
        have HNX := hide (show flatK v L (k + 1) = X ++ lineT v (L.getD k []) by rw [hX, flatK])
        obtain ⟨gq, cq, bq, eq', hcq, hgq, fq, hbq, hrq⟩ := ((unhide HQ3).below hbel).at (i := k) hlt
        cases eq'
        obtain ⟨p, hp⟩ : ∃ p, p = L.getD k [] := ⟨_, rfl⟩
        rw [← hp] at hpa HNX fq hrq
        have HGP := hide (implGetPath_any v b off cap p bq (tot L k * 5) p.length wr ((unhide HRW) wr BR).1 ((unhide HRW) wr BR).2 hn hcap (unhide HOK) hrq hbq (by have := hpa.len; omega) (Nat.le_refl _) (by have := hpa.len; omega) hpa.ok)
        rw [hpa.get] at HGP
        have hun := ne_of hpa.val
        have HPA1 := hide hpa
        have hpl := hpa.len
        have htl := hpa.tl
        have hel := hpa.el
        have hlin : (lineT v p).length ≤ 20080004 := by unfold lineT; simp only [List.length_append, List.length_cons, List.length_nil]; omega
        have HLN := hide (show lineT v p = (Pth.textK p (M.arity p 0) ++ [32, 61, 32] ++ J.encL 200 (Pth.getOutP v p).2) ++ [10] from rfl)
        have HSZ := hide (show (Pth.textK p (M.arity p 0) ++ [32, 61, 32] ++ J.encL 200 (Pth.getOutP v p).2).length ≤ 20080003 by simp only [List.length_append, List.length_cons, List.length_nil]; omega)
        have HRQ := hide (fun W (h : Below wr.heap.size wr W) => (show Row W bq (tot L k * 5) p ∧ bq < W.heap.size from ⟨hrq.below h hbq, Nat.lt_of_lt_of_le hbq h.size⟩))
        have HTB := hide (fun W (h : Below w.heap.size w W) => (show Lib.TabBelow Tryd.prog W.heap.size W "internal/strconv.uint64pow10" .u64 Lib.pow10Tab from fun w' hb' => (unhide HT) w' (h.trans (hb'.mono h.size))))
        have HFLN := hide (fun W (h : Below wr.heap.size wr W) bu cu (hur : Row W bu 0 (Pth.getOutP v p).2) (hub : bu < W.heap.size) (huc : (Pth.getOutP v p).2.length ≤ cu) => flatLine_any p bq (tot L k * 5) p.length (Pth.getOutP v p).2 bu cu W (unhide HPA1).pf ((unhide HRQ) W h).1 ((unhide HRQ) W h).2 hpl (Nat.le_refl _) (by omega) (unhide HPA1).ok (unhide HPA1).val hur hub huc htl hel ((unhide HTB) W (BR.trans (h.mono BR.size))))
        have HXX := hide hX
        obtain ⟨u, hu⟩ : ∃ u, u = (Pth.getOutP v p).2 := ⟨_, rfl⟩
        rw [← hu] at HGP HFLN hun HLN HSZ
        clear hu hpa hp hrq hbq hX htl hel
        go_wp2_with fail
        refine (unhide HGP).mono ?_
        rintro e V6 ⟨s7, rfl, hr7, hb6⟩
        obtain ⟨b7, c7, rfl, hc7, hlt7, hrow7⟩ := rowed hr7 hun
        simp only at hc7 hrow7 ⊢
        have HFL7 := hide ((unhide HFLN) V6 hb6 b7 c7 hrow7 hlt7 hc7)
        have hf7 := fun W => fldV1 0 (some ⟨b7, 0, none⟩) u.length c7 W
        have HB6 := hide hb6
        clear hr7 hrow7 hlt7 hc7 HGP HFLN fq hb6
        go_wp2_with fail
        refine (unhide HFL7).mono ?_
        rintro e V8 ⟨rfl, hb8⟩
        have HB8 := hide (show Below wr.heap.size wr V8 from (unhide HB6).trans (hb8.mono (unhide HB6).size))
        obtain ⟨Y, hY⟩ : ∃ Y, Y = Pth.textK p (M.arity p 0) ++ [32, 61, 32] ++ J.encL 200 u := ⟨_, rfl⟩
        rw [← hY] at HLN HSZ ⊢
        have hys := unhide HSZ
        have HO8 := hide (Al.row_below hown.out (unhide HB8))
        have h63 : X.length + (J.bytes Y).size ≤ maxLen := by rw [J.bytes_size]; unfold maxLen; omega
        have hby : X.length + (J.bytes Y).size ≤ 140737488355328 := by rw [J.bytes_size]; omega
        have hbw : w3.heap.size ≤ V8.heap.size := Nat.le_trans hbel.size (unhide HB8).size
        have HBS := hide (J.bytes_size Y)
        have HSC := hide (strCells_bytes Y)
        clear hY hb8 HFL7 hf7
        generalize J.bytes Y = YB at *
        go_wp2_with (at_builtin; refine Lib.wpList_append_own_string _ rfl (.tmp 22) (.tmp 29) 46 9 rfl w3.heap.size 5 i0 Tryd.underlying46 Tryd.underlying9 hi hz0 hz1 hz2 _ X.length _ rfl (unhide HO8) YB rfl h63 hby hbw ?_)
        intro v9 w9 ho9 hg9 _
        have hk9 : Below w3.heap.size w3 w9 := (hbel.trans ((unhide HB8).mono hbel.size)).grown hg9 hbw (fun q hq => Al.row_base (unhide HO8) q hq)
        obtain ⟨X2, hX2⟩ : ∃ X2, X2 = X ++ Y := ⟨_, rfl⟩
        have ho9' : w9.ownsRow w3.heap.size 5 1 v9 X2.length (J.bv X2) := by
          have h := ho9
          rw [unhide HSC, unhide HBS, bv_app] at h
          rw [hX2, List.length_append]; exact h
        have hx2l : X2.length ≤ X.length + 20080003 := by rw [hX2, List.length_append]; omega
        have HX2 := hide hX2
        obtain ⟨ya, yn, yc, hy9⟩ := owns_shape ho9'
        subst hy9
        have HO9 := hide (fun o => ho9'.alloc o)
        have HO9b := hide ho9'
        have hone := hide (J.one_word w9 10)
        have honep := hide (J.one_plain 10)
        have hb63 : X2.length + 1 ≤ maxLen := by unfold maxLen; omega
        have hby2 : (X2.length + 1) * 1 ≤ 140737488355328 := by omega
        have hbw9 : w3.heap.size ≤ w9.heap.size := hk9.size
        clear ho9 hg9 hX2 ho9' HO8 h63 hby HBS HSC
        go_wp2_with (at_builtin; refine wpList_append_own _ rfl (.tmp 31) (.tmp 32) 46 rfl w3.heap.size 5 i0 (.int .u8 0) 1 1 Tryd.underlying46 hi hz0 hz1 hz2 rfl (by decide) _ X2.length _ rfl ((unhide HO9) _) ⟨w9.heap.size, 0, none⟩ 1 1 [.int .u8 10] rfl rfl (unhide hone) (unhide honep) hb63 hby2 (by simp; omega) ?_)
        intro v10 w10 ho10 hg10 _
        have hk10 : Below w3.heap.size w3 w10 := (hk9.alloc hbw9 _).grown hg10 (by simp; omega) (fun q hq => Al.row_base (unhide HO9b) q hq)
        have SN := hide (show w10.ownsRow w3.heap.size 5 1 v10 (flatK v L (k + 1)).length (J.bv (flatK v L (k + 1))) by
          have e : flatK v L (k + 1) = X2 ++ [10] := by rw [unhide HNX, unhide HLN, unhide HX2, List.append_assoc]
          rw [e, List.length_append, ← J.bv_snoc]
          exact ho10)
        obtain ⟨za, zn, zc, hz10⟩ := owns_shape ho10
        subst hz10
        clear ho10 hg10 HO9 HO9b hone honep hb63 hby2
        go_wp2_with fail
        go_roundg (L.length - (k + 1))
        case rel => exact ⟨k + 1, rfl, by go_num, by omega, unhide SN, hk10⟩
        case measure => have := hg.out; omega
      · have hge : ¬ (k : Int) < (L.length : Int) := by omega
        have hke : k = L.length := by omega
        have fin2 := hide (show flatOut v = (0, J.bytes X) by rw [unhide fin, hX, hke])
        have hne : X ≠ [] := by
          have hpos : 0 < L.length := List.length_pos_iff.2 (unhide HNE)
          obtain ⟨m, hm⟩ : ∃ m, k = m + 1 := ⟨k - 1, by omega⟩
          rw [hX, hm, flatK]
          intro e
          have := (List.append_eq_nil_iff.1 e).2
          unfold lineT at this
          simp at this
        have hXr := (unhide HX3).below hbel (unhide HX3).lt
        have r0 := hXr.cell 0
        have r1 := hXr.cell 1
        have z0 := hXr.frozen 0
        have z1 := hXr.frozen 1
        simp only [List.getElem?_cons_zero, List.getElem?_cons_succ] at r0 r1
        rcases hown.out.2 with ⟨_, h0⟩ | ⟨g, cap2, cur, hsl, hgb, _⟩
        · exact absurd (List.length_eq_zero_iff.1 h0) hne
        simp only [Value.slice.injEq] at hsl
        obtain ⟨rfl, rfl, rfl⟩ := hsl
        have hcv := show (convert 46 9 (.slice (some ⟨g, 0, none⟩) X.length xc)).run Tryd.prog wr = .ok (.string (J.bytes X)) wr from
          run_convert_bytes_back _ _ _ 5 _ xc _ Tryd.underlying46 Tryd.underlying5 Tryd.underlying9 (J.owns_cells hown.out)
        clear hown hXr hke hne hX fin
        generalize J.bytes X = q at *
        generalize X.length = n at *
        go_wp2_with fail
        refine bodyPost_ret (v := .agg #[.int .i64 0, .string q]) (by simp [results, Tryd.results13, go_sem, r0, r1]) rfl ⟨by rw [unhide fin2], ?_⟩
        exact (BR.setCell (Nat.le_refl _) _).setCell (Nat.le_refl _) _
  · have fin := hide (flat_bad hv)
    rw [Al.paths_bad hv] at hq ⊢
    simp only at hq ⊢
    generalize M.valueFault v = q at *
    have hz' : (q == 0) = false := by simp [hv]
    have hz2' : (q != 0) = true := by simp [hv]
    obtain ⟨a2, n2, c2, rfl⟩ := hq.shape
    obtain ⟨w3, hw3⟩ : ∃ w3, w3 = V1.alloc (.cells #[.int .i64 q, .slice a2 n2 c2] 52) := ⟨_, rfl⟩
    have B13 : Below V1.heap.size V1 w3 := by rw [hw3]; exact (Below.refl _ _).alloc (Nat.le_refl _) _
    have O3 : Own w3 V1.heap.size 52 [.int .i64 q, .slice a2 n2 c2] := by rw [hw3]; exact ⟨_, heap_alloc_new _ _, rfl⟩
    have hX3 := hX1.below B13 hX1.lt
    have B3 : Below w.heap.size w w3 := B1.trans (B13.mono B1.size)
    have p0 := O3.cell 0
    have r0 := hX3.cell 0
    have r1 := hX3.cell 1
    have z0 := hX3.frozen 0
    have z1 := hX3.frozen 1
    simp only [List.getElem?_cons_zero, List.getElem?_cons_succ] at p0 r0 r1
    rw [hw3] at p0 r0 r1 z0 z1
    clear hv hq B13 O3 hX3
    go_wp2_with fail
    try rw [← hw3]
    rw [← hw3] at r0 r1 z0 z1
    refine bodyPost_ret (v := .agg #[.int .i64 q, .string ByteArray.empty]) (by simp [results, Tryd.results13, go_sem, r0, r1]; try rfl) rfl ⟨by rw [unhide fin], ?_⟩
    exact (B3.setCell (Nat.le_refl _) _).setCell (Nat.le_refl _) _
set_option maxRecDepth 100000 in
set_option maxHeartbeats 4000000 in
theorem specFlat_any (v : List M.Cl) (b off cap : Nat) (w : World) (hrow : Row w b off v) (hb : b < w.heap.size) (hn : v.length ≤ 1048576) (hcap : v.length ≤ cap) (hok : ∀ c ∈ v, c.ok) :
    Calls Tryd.prog 12 #[.slice (some ⟨b, off, none⟩) v.length cap] w fun e w' => e = .returned (.agg #[.int .i64 (flatOut v).1, .string (flatOut v).2]) ∧ Below w.heap.size w w' := by
  obtain ⟨w0, hw0⟩ : ∃ w0, w0 = w.alloc (.cells #[.int .i64 0, .string ByteArray.empty] 25) := ⟨_, rfl⟩
  have B0 : Below w.heap.size w w0 := by rw [hw0]; exact (Below.refl _ _).alloc (Nat.le_refl _) _
  have hX0 : Own w0 w.heap.size 25 [.int .i64 0, .string ByteArray.empty] := by rw [hw0]; exact ⟨_, heap_alloc_new _ _, rfl⟩
  have HLI := hide (Al.specLeavesIn_any v b off cap w0 (hrow.below B0 hb) (Nat.lt_of_lt_of_le hb B0.size) hn hcap hok)
  have HRW := hide (fun W (h : Below w.heap.size w W) => (show Row W b off v ∧ b < W.heap.size from ⟨hrow.below h hb, Nat.lt_of_lt_of_le hb h.size⟩))
  have HOK := hide hok
  clear hrow hok
  go_enter Tryd.func12, Tryd.ntmps12
  go_wp2_with fail
  try (rw [show (w.alloc (.cells #[.int .i64 0, .string { data := #[] }] 25)) = w0 from hw0.symm])
  refine (unhide HLI).mono ?_
  rintro e1 V1 ⟨s2, rfl, hq, hb1⟩
  have B1 : Below w.heap.size w V1 := B0.trans (hb1.mono B0.size)
  have hX1 := hX0.below hb1 hX0.lt
  clear hb1 B0 hX0 hw0 HLI
  by_cases hv : M.valueFault v = 0
  · have fin := hide (flat_ok hv)
    have HPA := hide (fun k hk => pa_at hv (k := k) hk)
    have HFL := hide (fun k hk => flat_len hv k hk)
    have h200 := steps_few hv
    have hnl : (Al.steps true v).map Al.pathC ≠ [] := fun e => Al.leaf_some v.length v [] hv (Nat.le_refl _) (List.map_eq_nil_iff.1 e)
    rw [Al.paths_ok hv] at hq ⊢
    simp only at hq ⊢
    generalize (Al.steps true v).map Al.pathC = L at *
    obtain ⟨g2, c2, xs, β, γ, rfl, hc2, _, hg2, hown2, hel2⟩ : ∃ (g c : Nat) (xs : List Value) (β γ : Nat → Nat), s2 = .slice (some ⟨g, 0, none⟩) L.length c ∧ L.length ≤ c ∧ True ∧ g < V1.heap.size ∧ Own V1 g 27 xs ∧ ∀ i, i < L.length → xs[i]? = some (.slice (some ⟨β i, 0, none⟩) (L.getD i []).length (γ i)) ∧ (L.getD i []).length ≤ γ i ∧ β i < V1.heap.size ∧ Row V1 (β i) 0 (L.getD i []) := by
      rcases hq with ⟨_, h⟩ | ⟨g, cap, xs, β, γ, q1, q2, q3, q4, q5, q6⟩
      · exact absurd h hnl
      · exact ⟨g, cap, xs, β, γ, q1, q2, trivial, q5.lt, q5, fun i hi => ⟨(q6 i hi).1, (q6 i hi).2.1, (q6 i hi).2.2.2.2.lt, (q6 i hi).2.2.2.2.row⟩⟩
    obtain ⟨w3, hw3⟩ : ∃ w3, w3 = V1.alloc (.cells #[.int .i64 0, .slice (some ⟨g2, 0, none⟩) L.length c2] 52) := ⟨_, rfl⟩
    have B13 : Below V1.heap.size V1 w3 := by rw [hw3]; exact (Below.refl _ _).alloc (Nat.le_refl _) _
    have B3 : Below w.heap.size w w3 := B1.trans (B13.mono B1.size)
    have HO3 := hide (show Own w3 V1.heap.size 52 [.int .i64 0, .slice (some ⟨g2, 0, none⟩) L.length c2] by rw [hw3]; exact ⟨_, heap_alloc_new _ _, rfl⟩)
    have HX3 := hide (hX1.below B13 hX1.lt)
    have HG3 := hide (hown2.below B13 hown2.lt)
    have HEL := hide (fun W (h : Below w3.heap.size w3 W) i (hi : i < L.length) => (show Row W (β i) 0 (L.getD i []) ∧ β i < W.heap.size from ⟨((hel2 i hi).2.2.2.below B13 (hel2 i hi).2.2.1).below h (Nat.lt_of_lt_of_le (hel2 i hi).2.2.1 B13.size), Nat.lt_of_lt_of_le (hel2 i hi).2.2.1 (Nat.le_trans B13.size h.size)⟩))
    have HXS := hide (fun i hi => (hel2 i hi).1)
    have HGA := hide (fun i hi => (hel2 i hi).2.1)
    have p0 : w3.cell? ⟨V1.heap.size, 0, none⟩ = some (.int .i64 0) := (unhide HO3).cell 0
    rw [hw3] at p0
    clear hq B13 B1 hX1 hv hown2 hel2
    go_wp2_with fail
    rw [← hw3]
    clear hw3 p0
    go_loopg [4, 5] L.length (fun gh s4 s5 wr => ∃ (k : Nat) (o : ByteArray), Hid (gh = L.length - k) ∧ s4 = .string o ∧ s5 = .int .i64 (k : Int) ∧ k ≤ L.length ∧ Hid (o = J.bytes (flatK v L k)) ∧ Below w3.heap.size w3 wr)
    case atStart => exact ⟨0, _, rfl, rfl, rfl, by omega, rfl, Below.refl _ _⟩
    case round =>
      obtain ⟨k, ob, hg, rfl, rfl, hk, ho, hbel⟩ := hrel
      have BR : Below w.heap.size w wr := B3.trans (hbel.mono B3.size)
      have OR := (unhide HO3).below hbel (unhide HO3).lt
      have p1 : wr.cell? ⟨V1.heap.size, 1, none⟩ = some (.slice (some ⟨g2, 0, none⟩) L.length c2) := OR.cell 1
      have hosz : ob.size ≤ 4200000000 := by rw [ho.out, J.bytes_size]; have := (unhide HFL) k hk; omega
      by_cases hlt : k < L.length
      · have hltI : (k : Int) < (L.length : Int) := by omega
        have hk0 : (0 : Int) ≤ (k : Int) := by omega
        have hpa := (unhide HPA) k hlt
        have HNX := hide (show J.bytes (flatK v L (k + 1)) = ob ++ J.bytes (Pth.textK (L.getD k []) (M.arity (L.getD k []) 0)) ++ { data := #[32, 61, 32] } ++ J.bytes (J.encL 200 (Pth.getOutP v (L.getD k [])).2) ++ { data := #[10] } by
          rw [ho.out, flatK, lineT]
          simp only [← J.bytes_append, ByteArray.append_assoc]
          rfl)
        have hr := (unhide HEL) wr hbel k hlt
        have hga := (unhide HGA) k hlt
        have HP := hide (fun W (h : Below wr.heap.size wr W) => specPathText_any (L.getD k []) (β k) 0 (γ k) W (hr.1.below h hr.2) (Nat.lt_of_lt_of_le hr.2 h.size) (by have := hpa.len; omega) hga hpa.ok)
        rw [Pth.text_ok hpa.pf] at HP
        have HGP := hide (fun W (h : Below wr.heap.size wr W) => specGetPath_any v b off cap (L.getD k []) (β k) 0 (γ k) W ((unhide HRW) W (BR.trans (h.mono BR.size))).1 ((unhide HRW) W (BR.trans (h.mono BR.size))).2 hn hcap (unhide HOK) (hr.1.below h hr.2) (Nat.lt_of_lt_of_le hr.2 h.size) (by have := hpa.len; omega) hga hpa.ok)
        rw [hpa.get] at HGP
        have hun := ne_of hpa.val
        have htl := hpa.tl
        have hel := hpa.el
        have HUV := hide hpa.val
        have hs1 : (J.bytes (Pth.textK (L.getD k []) (M.arity (L.getD k []) 0))).size ≤ 20000000 := by rw [J.bytes_size]; exact htl
        have hs2 : (J.bytes (J.encL 200 (Pth.getOutP v (L.getD k [])).2)).size ≤ 80000 := by rw [J.bytes_size]; exact hel
        have fq : ∀ W, Below wr.heap.size wr W → W.cell? ⟨g2, k, none⟩ = some (.slice (some ⟨β k, 0, none⟩) (L.getD k []).length (γ k)) := fun W h => by
          have O := ((unhide HG3).below hbel (unhide HG3).lt).below h (Nat.lt_of_lt_of_le (unhide HG3).lt hbel.size)
          exact (O.cell k).trans ((unhide HXS) k hlt)
        have K1 := hide fq
        have K0 := hide (fun W (h : Below wr.heap.size wr W) => (show W.cell? ⟨V1.heap.size, 1, none⟩ = some (.slice (some ⟨g2, 0, none⟩) L.length c2) from (h.cell OR.lt).trans p1))
        have HEN := hide (fun W (u : List M.Cl) (hu : u = (Pth.getOutP v (L.getD k [])).2) bu cu (hur : Row W bu 0 u) (hub : bu < W.heap.size) (huc : u.length ≤ cu) => l2Encode_all 200 u bu 0 cu W (by rw [hu]; exact unhide HUV) (by rw [hu]; exact (M.fault_zero (unhide HUV)).2.1) hur hub huc (by rw [hu]; exact Pth.oks (unhide HUV)))
        obtain ⟨u, hu⟩ : ∃ u, u = (Pth.getOutP v (L.getD k [])).2 := ⟨_, rfl⟩
        rw [← hu] at HGP HNX hs2 hun
        have HU := hide hu
        obtain ⟨p, hp⟩ : ∃ p, p = L.getD k [] := ⟨_, rfl⟩
        rw [← hp] at HP HGP HNX hs1 K1
        clear fq hr hga htl hel hpa hu hp p1 OR
        generalize J.bytes (Pth.textK p (M.arity p 0)) = T at *
        obtain ⟨E, hE⟩ : ∃ E, E = J.bytes (J.encL 200 u) := ⟨_, rfl⟩
        rw [← hE] at HNX hs2
        have HE := hide hE
        clear hE
        have hs3 : (ob ++ T : ByteArray).size ≤ 4220000000 := by rw [ByteArray.size_append]; omega
        have hs4 : (ob ++ T ++ { data := #[32, 61, 32] } : ByteArray).size ≤ 4220000003 := by rw [ByteArray.size_append]; show _ + 3 ≤ _; omega
        have hs5 : (ob ++ T ++ { data := #[32, 61, 32] } ++ E : ByteArray).size ≤ 4220080003 := by rw [ByteArray.size_append]; omega
        have hS0 : Below wr.heap.size wr wr.drew := (Below.refl _ _).drew
        have p1' := (unhide K0) wr (Below.refl _ _)
        have hkc : k < c2 := by omega
        go_upto_region 8 with fail
        clear p1'
        refine Z.region 21 (fun W => Below wr.heap.size wr W) (by kernel_rfl) hS0 (fun hHeld => ?_)
        refine Z.take (i := 0) (d := 21) (v := .string ob) rfl rfl (by kernel_rfl) (by kernel_rfl) (by kernel_rfl) (by kernel_rfl) (fun _ _ _ h => h) (Or.inl ⟨by rfl, ?_⟩) hHeld ?_
        · intro w' hSw; go_simp
        simp only [Act.put, List.setIfInBounds_toArray, List.set_cons_zero, List.set_cons_succ]
        refine Z.take (i := 1) (d := 22) (v := .pointer (some ⟨V1.heap.size, 1, none⟩)) rfl rfl (by kernel_rfl) (by kernel_rfl) (by kernel_rfl) (by kernel_rfl) (fun _ _ _ h => h) (Or.inl ⟨by rfl, ?_⟩) hHeld ?_
        · intro w' hSw; go_simp
        simp only [Act.put, List.setIfInBounds_toArray, List.set_cons_zero, List.set_cons_succ]
        refine Z.take (i := 2) (d := 23) (v := .slice (some ⟨g2, 0, none⟩) L.length c2) rfl rfl (by kernel_rfl) (by kernel_rfl) (by kernel_rfl) (by kernel_rfl) (fun _ _ _ h => h) (Or.inl ⟨by rfl, ?_⟩) hHeld ?_
        · intro w' hSw; have g1 := (unhide K0) _ hSw; go_simp
        simp only [Act.put, List.setIfInBounds_toArray, List.set_cons_zero, List.set_cons_succ]
        refine Z.take (i := 3) (d := 24) (v := .int .i64 (k : Int)) rfl rfl (by kernel_rfl) (by kernel_rfl) (by kernel_rfl) (by kernel_rfl) (fun _ _ _ h => h) (Or.inl ⟨by rfl, ?_⟩) hHeld ?_
        · intro w' hSw; go_simp
        simp only [Act.put, List.setIfInBounds_toArray, List.set_cons_zero, List.set_cons_succ]
        refine Z.take (i := 4) (d := 25) (v := .pointer (some ⟨g2, k, none⟩)) rfl rfl (by kernel_rfl) (by kernel_rfl) (by kernel_rfl) (by kernel_rfl) (fun _ _ _ h => h) (Or.inl ⟨by rfl, ?_⟩) hHeld ?_
        · intro w' hSw; go_simp
        simp only [Act.put, List.setIfInBounds_toArray, List.set_cons_zero, List.set_cons_succ]
        refine Z.take (i := 5) (d := 26) (v := .slice (some ⟨β k, 0, none⟩) p.length (γ k)) rfl rfl (by kernel_rfl) (by kernel_rfl) (by kernel_rfl) (by kernel_rfl) (fun _ _ _ h => h) (Or.inl ⟨by rfl, ?_⟩) hHeld ?_
        · intro w' hSw; have g1 := (unhide K1) _ hSw; go_simp
        simp only [Act.put, List.setIfInBounds_toArray, List.set_cons_zero, List.set_cons_succ]
        refine Z.take (i := 10) (d := 31) (v := .slice (some ⟨b, off, none⟩) v.length cap) rfl rfl (by kernel_rfl) (by kernel_rfl) (by kernel_rfl) (by kernel_rfl) (fun _ _ _ h => h) (Or.inl ⟨by rfl, ?_⟩) hHeld ?_
        · intro w' hSw; go_simp
        simp only [Act.put, List.setIfInBounds_toArray, List.set_cons_zero, List.set_cons_succ]
        refine Z.take (i := 11) (d := 32) (v := .pointer (some ⟨V1.heap.size, 1, none⟩)) rfl rfl (by kernel_rfl) (by kernel_rfl) (by kernel_rfl) (by kernel_rfl) (fun _ _ _ h => h) (Or.inl ⟨by rfl, ?_⟩) hHeld ?_
        · intro w' hSw; go_simp
        simp only [Act.put, List.setIfInBounds_toArray, List.set_cons_zero, List.set_cons_succ]
        refine Z.take (i := 12) (d := 33) (v := .slice (some ⟨g2, 0, none⟩) L.length c2) rfl rfl (by kernel_rfl) (by kernel_rfl) (by kernel_rfl) (by kernel_rfl) (fun _ _ _ h => h) (Or.inl ⟨by rfl, ?_⟩) hHeld ?_
        · intro w' hSw; have g1 := (unhide K0) _ hSw; go_simp
        simp only [Act.put, List.setIfInBounds_toArray, List.set_cons_zero, List.set_cons_succ]
        refine Z.take (i := 13) (d := 34) (v := .int .i64 (k : Int)) rfl rfl (by kernel_rfl) (by kernel_rfl) (by kernel_rfl) (by kernel_rfl) (fun _ _ _ h => h) (Or.inl ⟨by rfl, ?_⟩) hHeld ?_
        · intro w' hSw; go_simp
        simp only [Act.put, List.setIfInBounds_toArray, List.set_cons_zero, List.set_cons_succ]
        refine Z.take (i := 14) (d := 35) (v := .pointer (some ⟨g2, k, none⟩)) rfl rfl (by kernel_rfl) (by kernel_rfl) (by kernel_rfl) (by kernel_rfl) (fun _ _ _ h => h) (Or.inl ⟨by rfl, ?_⟩) hHeld ?_
        · intro w' hSw; go_simp
        simp only [Act.put, List.setIfInBounds_toArray, List.set_cons_zero, List.set_cons_succ]
        refine Z.take (i := 15) (d := 36) (v := .slice (some ⟨β k, 0, none⟩) p.length (γ k)) rfl rfl (by kernel_rfl) (by kernel_rfl) (by kernel_rfl) (by kernel_rfl) (fun _ _ _ h => h) (Or.inl ⟨by rfl, ?_⟩) hHeld ?_
        · intro w' hSw; have g1 := (unhide K1) _ hSw; go_simp
        simp only [Act.put, List.setIfInBounds_toArray, List.set_cons_zero, List.set_cons_succ]

        refine Z.only (i := 6) (d := 27) rfl rfl (by kernel_rfl) (by rfl) (fun K hK => ?_)
        go_simp
        refine ((unhide HP) wr.drew hHeld).mono ?_
        rintro e W2 ⟨rfl, hb2⟩
        have S2 : Below wr.heap.size wr W2 := hHeld.trans (hb2.mono hHeld.size)
        have hf2 := fun W => fldS 0 T W
        have HG3' := hide ((unhide HGP) W2 S2)
        go_simp
        refine hK.out _ W2 S2 ?_
        clear hK K hb2
        simp only [Act.put, List.setIfInBounds_toArray, List.set_cons_zero, List.set_cons_succ]
        refine Z.take (i := 7) (d := 28) (v := .string T) rfl rfl (by kernel_rfl) (by kernel_rfl) (by kernel_rfl) (by kernel_rfl) (fun _ _ _ h => h) (Or.inl ⟨by rfl, ?_⟩) S2 ?_
        · intro w' hSw; first | (go_simp; done) | (go_simp; exact hf2 _) | (simp [go_sem, hf2]; done)
        simp only [Act.put, List.setIfInBounds_toArray, List.set_cons_zero, List.set_cons_succ]
        refine Z.take (i := 8) (d := 29) (v := .string (ob ++ T)) rfl rfl (by kernel_rfl) (by kernel_rfl) (by kernel_rfl) (by kernel_rfl) (fun _ _ _ h => h) (Or.inl ⟨by rfl, ?_⟩) S2 ?_
        · intro w' hSw; go_simp; omega
        simp only [Act.put, List.setIfInBounds_toArray, List.set_cons_zero, List.set_cons_succ]
        refine Z.take (i := 9) (d := 30) (v := .string (ob ++ T ++ { data := #[32, 61, 32] })) rfl rfl (by kernel_rfl) (by kernel_rfl) (by kernel_rfl) (by kernel_rfl) (fun _ _ _ h => h) (Or.inl ⟨by rfl, ?_⟩) S2 ?_
        · intro w' hSw; go_simp; omega
        simp only [Act.put, List.setIfInBounds_toArray, List.set_cons_zero, List.set_cons_succ]

        refine Z.only (i := 16) (d := 37) rfl rfl (by kernel_rfl) (by rfl) (fun K hK => ?_)
        go_simp
        refine (unhide HG3').mono ?_
        rintro e W4 ⟨s7, rfl, hr7, hb4⟩
        obtain ⟨b7, c7, e7, hc7, hlt7, hrow7⟩ := rowed hr7 hun
        subst e7
        have S4 : Below wr.heap.size wr W4 := S2.trans (hb4.mono S2.size)
        have hf4 := fun W => fldV1 0 (some ⟨b7, 0, none⟩) u.length c7 W
        have HE5 := hide ((unhide HEN) W4 u (unhide HU) b7 c7 hrow7 hlt7 hc7)
        rw [← unhide HE] at HE5
        go_simp
        refine hK.out _ W4 S4 ?_
        clear hK K hb4 S2 hr7 hrow7
        simp only [Act.put, List.setIfInBounds_toArray, List.set_cons_zero, List.set_cons_succ]
        refine Z.take (i := 17) (d := 38) (v := .slice (some ⟨b7, 0, none⟩) u.length c7) rfl rfl (by kernel_rfl) (by kernel_rfl) (by kernel_rfl) (by kernel_rfl) (fun _ _ _ h => h) (Or.inl ⟨by rfl, ?_⟩) S4 ?_
        · intro w' hSw; first | (go_simp; done) | (go_simp; exact hf4 _) | (simp [go_sem, hf4]; done)
        simp only [Act.put, List.setIfInBounds_toArray, List.set_cons_zero, List.set_cons_succ]

        refine Z.only (i := 18) (d := 39) rfl rfl (by kernel_rfl) (by rfl) (fun K hK => ?_)
        go_simp
        refine (unhide HE5).mono ?_
        rintro e W6 ⟨rfl, hb6⟩
        have S6 : Below wr.heap.size wr W6 := S4.trans (hb6.mono S4.size)
        go_simp
        refine hK.out _ W6 S6 ?_
        clear hK K hb6 S4
        simp only [Act.put, List.setIfInBounds_toArray, List.set_cons_zero, List.set_cons_succ]
        refine Z.take (i := 19) (d := 40) (v := .string (ob ++ T ++ { data := #[32, 61, 32] } ++ E)) rfl rfl (by kernel_rfl) (by kernel_rfl) (by kernel_rfl) (by kernel_rfl) (fun _ _ _ h => h) (Or.inl ⟨by rfl, ?_⟩) S6 ?_
        · intro w' hSw; go_simp; omega
        simp only [Act.put, List.setIfInBounds_toArray, List.set_cons_zero, List.set_cons_succ]
        refine Z.take (i := 20) (d := 41) (v := .string (ob ++ T ++ { data := #[32, 61, 32] } ++ E ++ { data := #[10] })) rfl rfl (by kernel_rfl) (by kernel_rfl) (by kernel_rfl) (by kernel_rfl) (fun _ _ _ h => h) (Or.inl ⟨by rfl, ?_⟩) S6 ?_
        · intro w' hSw; go_simp; omega
        simp only [Act.put, List.setIfInBounds_toArray, List.set_cons_zero, List.set_cons_succ]

        refine Z.ready (rs := [21]) (by kernel_rfl) (by simp) (Z.val_cons (i := 21) (d := 4) (v := .string (ob ++ T ++ { data := #[32, 61, 32] } ++ E ++ { data := #[10] })) (w' := W6) rfl (by rfl) (fun K hK => ?_) (fun h => absurd rfl h) ?_ Z.All.nil)
        · go_simp
          exact hK.out
        simp only [Act.put, List.setIfInBounds_toArray, List.set_cons_zero, List.set_cons_succ]
        refine Z.done (by kernel_rfl) ?_ _
        have B6 : Below w3.heap.size w3 W6 := hbel.trans (S6.mono hbel.size)
        rw [← unhide HNX]
        clear K0 K1 HP HGP HEN HE5 hHeld hS0 S6
        go_wp2_with fail
        go_roundg (L.length - (k + 1))
        case rel => exact ⟨k + 1, _, rfl, rfl, by go_num, by omega, rfl, B6⟩
        case measure => have := hg.out; omega

      · have hge : ¬ (k : Int) < (L.length : Int) := by omega
        have hke : k = L.length := by omega
        have fin2 := hide (show flatOut v = (0, ob) by rw [unhide fin, ho.out, hke])
        have hXr := (unhide HX3).below hbel (unhide HX3).lt
        have r0 := hXr.cell 0
        have r1 := hXr.cell 1
        have z0 := hXr.frozen 0
        have z1 := hXr.frozen 1
        simp only [List.getElem?_cons_zero, List.getElem?_cons_succ] at r0 r1
        clear hXr hke fin OR
        go_wp2_with fail
        refine bodyPost_ret (v := .agg #[.int .i64 0, .string ob]) (by simp [results, Tryd.results12, go_sem, r0, r1]) rfl ⟨by rw [unhide fin2], ?_⟩
        exact (BR.setCell (Nat.le_refl _) _).setCell (Nat.le_refl _) _
  · have fin := hide (flat_bad hv)
    rw [Al.paths_bad hv] at hq ⊢
    simp only at hq ⊢
    generalize M.valueFault v = q at *
    have hz' : (q == 0) = false := by simp [hv]
    have hz2' : (q != 0) = true := by simp [hv]
    obtain ⟨a2, n2, c2, rfl⟩ := hq.shape
    obtain ⟨w3, hw3⟩ : ∃ w3, w3 = V1.alloc (.cells #[.int .i64 q, .slice a2 n2 c2] 52) := ⟨_, rfl⟩
    have B13 : Below V1.heap.size V1 w3 := by rw [hw3]; exact (Below.refl _ _).alloc (Nat.le_refl _) _
    have O3 : Own w3 V1.heap.size 52 [.int .i64 q, .slice a2 n2 c2] := by rw [hw3]; exact ⟨_, heap_alloc_new _ _, rfl⟩
    have hX3 := hX1.below B13 hX1.lt
    have B3 : Below w.heap.size w w3 := B1.trans (B13.mono B1.size)
    have p0 := O3.cell 0
    have r0 := hX3.cell 0
    have r1 := hX3.cell 1
    have z0 := hX3.frozen 0
    have z1 := hX3.frozen 1
    simp only [List.getElem?_cons_zero, List.getElem?_cons_succ] at p0 r0 r1
    rw [hw3] at p0 r0 r1 z0 z1
    clear hv hq B13 O3 hX3
    go_wp2_with fail
    try rw [← hw3]
    rw [← hw3] at r0 r1 z0 z1
    refine bodyPost_ret (v := .agg #[.int .i64 q, .string ByteArray.empty]) (by simp [results, Tryd.results12, go_sem, r0, r1]; try rfl) rfl ⟨by rw [unhide fin], ?_⟩
    exact (B3.setCell (Nat.le_refl _) _).setCell (Nat.le_refl _) _
end Fl
end Go.Proofs.YtlbmpldknfcfhaaDoor
