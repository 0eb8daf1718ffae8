/-
  impl.StreamOf and spec.StreamOf.
-/
import Derived.Test.YthaabakpcokomaaR32
import Derived.Test.YthaabakpcokomaaR41
import Derived.Test.YthaabakpcokomaaR43
import Derived.Test.YthaabakpcokomaaR44
namespace Go.Proofs.Ythaabakpcokomaa
open Go.RowKit
set_option linter.unusedVariables false
set_option linter.unusedSimpArgs false
namespace Al
theorem evs_ne {v : List M.Cl} (hv : M.valueFault v = 0) : ∀ i, i < (evs v.length v []).length → (evs v.length v []).getD i [] ≠ [] := fun i hi e => by
  have := (fault_len ((stream_fine hv).2 i hi)).1
  rw [e] at this; simp at this
/-- What is told is little. -/
theorem stream_small (v : List M.Cl) : (streamOut v).2.length ≤ 200 ∧ tot (streamOut v).2 (streamOut v).2.length ≤ 1048576 ∧ ∀ i, i < (streamOut v).2.length → ((streamOut v).2.getD i []).length ≤ 1048576 := by
  by_cases h : M.valueFault v = 0
  · rw [stream_ok h]
    obtain ⟨h1, h2⟩ := stream_fine h
    have hsm := tot_small (evs v.length v []) (evs v.length v []).length (Nat.le_refl _) (fun j hj => (fault_len (h2 j hj)).2)
    exact ⟨h1, by simp only; omega, fun i hi => by have := (fault_len (h2 i hi)).2; simp only; omega⟩
  · rw [stream_bad h]; exact ⟨by simp, by simp [tot], fun i hi => by simp at hi⟩
set_option maxRecDepth 100000 in
set_option maxHeartbeats 2000000 in
theorem implStreamOf_any (v : List M.Cl) (b off cap : Nat) (w : World) (hrow : Row w b off v) (hb : b < w.heap.size) (hn : v.length ≤ 1048576) (hcap : v.length ≤ cap) (hok : ∀ c ∈ v, c.ok) :
    Calls Try.prog 30 #[.slice (some ⟨b, off, none⟩) v.length cap] w (AnsR w (streamOut v)) := by
  have OK := hide hok
  have B0 : ∀ o, Below w.heap.size w (w.alloc o) := fun o => (Below.refl _ _).alloc (Nat.le_refl _) o
  have HB0 := hide B0
  clear B0 hok
  go_enter Try.func30, Try.ntmps30
  go_wp2_with fail
  refine (implFault_any v b off cap _ (hrow.below ((unhide HB0) _) hb) (by simp; omega) hn hcap (unhide OK)).mono ?_
  rintro e1 w1 ⟨rfl, hb1⟩
  have hR : Own w1 w.heap.size 46 [.int .i64 0, .slice none 0 0] := Own.below ⟨_, heap_alloc_new _ _, rfl⟩ hb1 (by simp)
  have B1 : Below w.heap.size w w1 := ((unhide HB0) _).trans (hb1.mono (by simp))
  have hrow1 := hrow.below B1 hb
  have hb1' : b < w1.heap.size := Nat.lt_of_lt_of_le hb B1.size
  clear hb1
  by_cases hv : M.valueFault v = 0
  · rw [hv]
    have fin := hide (stream_ok hv)
    have hl := (M.fault_zero hv)
    have hp0 : part v 0 = v := part_self hv
    have HEV := hide (ev_says v.length v b off cap 0 [] (.slice none 0 0) w1.heap.size (.slice none 0 0) (fun _ => False) [] w1 hv (by have := hl.1; omega) (by rw [hp0]; omega) hrow1 hb1' (Nat.le_refl _) hcap (Sp.nil _ _ _) (World.ownsRow_nil _ _ _ _) (fun g h => h.elim) (fun g h => by cases h) (fun c hc => by simp at hc) (by rw [hp0]; have := hl.2.1; simp; omega) (by rw [hp0]; have := hl.2.1; simp; omega))
    rw [hp0, List.nil_append] at HEV
    have HNE := hide (evs_ne hv)
    have HSP := hide (show Sp w1 w1.heap.size (.slice none 0 0) [] (fun _ => False) from Sp.nil _ _ _)
    clear hl hp0 hv hrow1 hrow
    go_wp2_with fail
    refine (unhide HEV).mono ?_
    rintro e2 w2 ⟨ev, rfl, hE⟩
    have hb2 := hE.low (unhide HSP) (World.ownsRow_nil _ _ _ _) (Nat.le_refl _)
    have hp3 := hE.row.sd.pr (unhide HNE)
    have hR3 := hR.below hb2 hR.lt
    have r0 := hR3.cell 0
    have r1 := hR3.cell 1
    have z0 := hR3.frozen 0
    have z1 := hR3.frozen 1
    simp only [List.getElem?_cons_zero, List.getElem?_cons_succ] at r0 r1
    have HE := hide (PR.stored hp3 B1 hR.lt hb2)
    obtain ⟨ac, mc, cc, rfl⟩ := hp3.ps.shape
    clear hE hp3 hb2 HEV HSP
    go_wp2_with fail
    refine bodyPost_ret (v := .agg #[.int .i64 0, .slice ac mc cc]) (by simp [results, Try.results30, go_sem, r0, r1]) rfl (ansR_of (unhide fin) ((unhide HE) _ _).1 ((unhide HE) _ _).2)
  · have fin := hide (stream_bad hv)
    generalize M.valueFault v = q at *
    have hz' : (q == 0) = false := by simp [hv]
    have hz2 : (q != 0) = true := by simp [hv]
    have r0 := hR.cell 0
    have r1 := hR.cell 1
    have z0 := hR.frozen 0
    have z1 := hR.frozen 1
    simp only [List.getElem?_cons_zero, List.getElem?_cons_succ] at r0 r1
    clear hv
    go_wp2_with fail
    refine bodyPost_ret (v := .agg #[.int .i64 q, .slice none 0 0]) (by simp [results, Try.results30, go_sem, r0, r1]) rfl (ansR_of (unhide fin) (.inl ⟨rfl, rfl⟩) (store_below B1 _ _))
set_option maxRecDepth 100000 in
set_option maxHeartbeats 2000000 in
theorem specStreamOf_any (v : List M.Cl) (b off cap : Nat) (w : World) (hrow : Row w b off v) (hb : b < w.heap.size) (hn : v.length ≤ 1048576) (hcap : v.length ≤ cap) (hok : ∀ c ∈ v, c.ok) :
    Calls Try.prog 29 #[.slice (some ⟨b, off, none⟩) v.length cap] w (AnsS w (streamOut v)) := by
  have OK := hide hok
  have B0 : ∀ o, Below w.heap.size w (w.alloc o) := fun o => (Below.refl _ _).alloc (Nat.le_refl _) o
  have HB0 := hide B0
  clear B0 hok
  go_enter Try.func29, Try.ntmps29
  go_wp2_with fail
  refine (specFault_any v b off cap _ (hrow.below ((unhide HB0) _) hb) (by simp; omega) hn hcap (unhide OK)).mono ?_
  rintro e1 w1 ⟨rfl, hb1⟩
  have hR : Own w1 w.heap.size 46 [.int .i64 0, .slice none 0 0] := Own.below ⟨_, heap_alloc_new _ _, rfl⟩ hb1 (by simp)
  have B1 : Below w.heap.size w w1 := ((unhide HB0) _).trans (hb1.mono (by simp))
  have hrow1 := hrow.below B1 hb
  have hb1' : b < w1.heap.size := Nat.lt_of_lt_of_le hb B1.size
  clear hb1
  by_cases hv : M.valueFault v = 0
  · rw [hv]
    have fin := hide (stream_ok hv)
    have hl := (M.fault_zero hv).2.1
    have HEV := hide (all_evs v.length v b off cap none 0 [] w1 hv (Nat.le_refl _) hrow1 hb1' hcap (PT.nil _ _) (fun _ => ⟨rfl, rfl⟩) (Nat.le_refl _) (by omega) (by simp; omega) (fun c hc => by simp at hc))
    have hfine := stream_fine hv
    have HNE := hide (evs_ne hv)
    obtain ⟨L, hL⟩ : ∃ L, L = evs v.length v [] := ⟨_, rfl⟩
    rw [← hL] at fin HEV hfine HNE
    have HVF := hide hfine.2
    have hl2 := hfine.1
    clear hL hv hl hrow1 hrow hfine
    go_wp2_with fail
    refine (unhide HEV).mono ?_
    rintro e2 w2 ⟨s, rfl, hss, hb2⟩
    have hps := hide (hss.ps (unhide HNE))
    obtain ⟨a2, c2, rfl, hc2, hlv⟩ := hss.lv (unhide HNE)
    have HLV := hide hlv
    have hR2 := hR.below hb2 hR.lt
    have HR2 := hide hR2
    have B2 := hide (B1.trans (hb2.mono B1.size))
    have HBS := hide (show w.heap.size < w1.heap.size from hR.lt)
    have hb12 := hide hb2
    have h200 : ¬ 200 < (L.length : Int) := by omega
    have HL2 := hide hl2
    obtain ⟨n, hnn⟩ : ∃ n, n = L.length := ⟨_, rfl⟩
    have HN := hide hnn
    rw [← hnn] at h200 hl2 ⊢
    clear hss hlv hR2 hb2 hR HEV hnn
    go_wp2_with fail
    go_loopg [5] n (fun gh s5 wr => ∃ k : Nat, Hid (gh = n - k) ∧ s5 = .int .i64 (k : Int) ∧ k ≤ n ∧ Hid (Below w2.heap.size w2 wr))
    case atStart => exact ⟨0, rfl, rfl, by omega, Below.refl _ _⟩
    case round =>
      obtain ⟨k, hg, rfl, hk, hbel⟩ := hrel
      by_cases hlt : k < n
      · have hltI : (k : Int) < (n : Int) := by omega
        have hk0 : (0 : Int) ≤ (k : Int) := by omega
        obtain ⟨g, b3, o3, c3, rfl, hgl, f3, hc3, hb3, hr3⟩ := ((unhide HLV).below hbel.out) k (by rw [← unhide HN]; exact hlt)
        have hvf := (unhide HVF) k (by rw [← unhide HN]; exact hlt)
        have HF := hide (specFault_any (L.getD k []) b3 o3 c3 wr hr3 hb3 (by have := (fault_len hvf).2; omega) hc3 (Pth.oks hvf))
        rw [hvf] at HF
        clear hr3 hvf hb3 hc3
        generalize L.getD k [] = q at *
        go_wp2_with fail
        refine (unhide HF).mono ?_
        rintro e4 w4 ⟨rfl, hb4⟩
        have B4 := hide (hbel.out.trans (hb4.mono hbel.out.size))
        clear hb4 f3 HF hbel
        go_wp2_with fail
        go_roundg (n - (k + 1))
        case rel => exact ⟨k + 1, rfl, by go_num, by omega, unhide B4⟩
        case measure => have := hg.out; omega
      · have hR4 := (unhide HR2).below hbel.out (unhide HR2).lt
        have r0 := hR4.cell 0
        have r1 := hR4.cell 1
        have z0 := hR4.frozen 0
        have z1 := hR4.frozen 1
        simp only [List.getElem?_cons_zero, List.getElem?_cons_succ] at r0 r1
        have BB := (unhide hb12).trans (hbel.out.mono (unhide hb12).size)
        have HP4 : PS wr w1.heap.size wr.heap.size (.slice a2 n c2) L := by
          have := (unhide hps).below hbel.out
          rw [← unhide HN] at this
          exact this.mono (Nat.le_refl _) hbel.out.size
        have HE := hide (PS.stored HP4 B1 (unhide HBS) BB)
        have hkI : ¬ (k : Int) < (n : Int) := by omega
        clear hR4 HP4 BB hbel
        go_wp2_with fail
        refine bodyPost_ret (v := .agg #[.int .i64 0, .slice a2 n c2]) (by simp [results, Try.results29, go_sem, r0, r1]) rfl (ansS_of (unhide fin) ((unhide HE) _ _).1 ((unhide HE) _ _).2)
  · have fin := hide (stream_bad hv)
    generalize M.valueFault v = q at *
    have hz' : (q == 0) = false := by simp [hv]
    have hz2 : (q != 0) = true := by simp [hv]
    have r0 := hR.cell 0
    have r1 := hR.cell 1
    have z0 := hR.frozen 0
    have z1 := hR.frozen 1
    simp only [List.getElem?_cons_zero, List.getElem?_cons_succ] at r0 r1
    clear hv
    go_wp2_with fail
    refine bodyPost_ret (v := .agg #[.int .i64 q, .slice none 0 0]) (by simp [results, Try.results29, go_sem, r0, r1]) rfl (ansS_of (unhide fin) (.inl ⟨rfl, rfl⟩) (store_below B1 _ _))
end Al
end Go.Proofs.Ythaabakpcokomaa
