/-
  spec.EncodeValue and impl.EncodeValue answer encV.
  spec.EncodeAll and impl.EncodeAll answer encAll.
  Plainly: a value and all values in it, each ahead of those in it.
  impl.StreamOf and spec.StreamOf.
  FromStream, plainly; the text of values of a list that lies anywhere (mk_fsm.py).
-/
import Derived.Test.YtcglddahphkcpaaGreatDoorV05
import Derived.Test.YtcglddahphkcpaaGreatDoorV10
import Derived.Test.YtcglddahphkcpaaGreatDoorV13
import Derived.Test.YtcglddahphkcpaaGreatDoorV15
import Derived.Test.YtcglddahphkcpaaGreatDoorV17
import Derived.Test.YtcglddahphkcpaaGreatDoorV18
import Derived.Test.YtcglddahphkcpaaGreatDoorV19
import Derived.Test.YtcglddahphkcpaaGreatDoorV43
import Derived.Test.YtcglddahphkcpaaGreatDoorV44
import Derived.Lib.BufferRead
namespace Go.Proofs.YtcglddahphkcpaaGreatDoor
open Go.RowKit
set_option linter.unusedVariables false
set_option linter.unusedSimpArgs false

theorem l2Encode_all (f : Nat) : EncSays f := by
  induction f with
  | zero =>
    intro A b off cap w hA hAf
    have := (M.fault_zero hA).1
    omega
  | succ f ih =>
    intro A b off cap w hA hAf hr hb hcap hok
    have hl := (M.fault_zero hA).1
    have h200 := (M.fault_zero hA).2.1
    have hc := J.code_text (code_at hA 0 (by omega))
    by_cases k0 : (A.getD 0 M.zero).kind = 0
    · exact l2Encode_0 f A b off cap w hl h200 hr hcap k0
    by_cases k1 : (A.getD 0 M.zero).kind = 1
    · exact l2Encode_1 f A b off cap w hl h200 hr hcap k1
    by_cases k2 : (A.getD 0 M.zero).kind = 2
    · exact l2Encode_2 f A b off cap w hl h200 hr hcap k2
    by_cases k3 : (A.getD 0 M.zero).kind = 3
    · exact l2Encode_3 f A b off cap w hA hl h200 hr hcap k3
    by_cases k4 : (A.getD 0 M.zero).kind = 4
    · exact l2Encode_4 f A b off cap w hA hl h200 hr hcap k4
    by_cases k5 : (A.getD 0 M.zero).kind = 5
    · exact l2Encode_5 f (hide ih) A b off cap w hA hAf hr hb hcap hok k5
    by_cases k6 : (A.getD 0 M.zero).kind = 6
    · exact l2Encode_6 f (hide ih) A b off cap w hA hAf hr hb hcap hok k6
    omega
end Go.Proofs.YtcglddahphkcpaaGreatDoor

namespace Go.Proofs.YtcglddahphkcpaaGreatDoor
open Go.RowKit
set_option linter.unusedVariables false
set_option linter.unusedSimpArgs false

/-- The texts of the first k values, a line each. -/
def linesK (ps : List (List M.Cl)) : Nat → List UInt8
  | 0 => []
  | k + 1 => linesK ps k ++ (J.encL 200 (ps.getD k []) ++ [10])
theorem enc_len {p : List M.Cl} (hv : M.valueFault p = 0) : (J.encL 200 p).length ≤ 80000 := by
  have hl := (M.fault_zero hv).1
  have hpl : (part p 0).length ≤ 200 := by have := part_len hv (show 0 < p.length by omega); have := (end_gt hv (show 0 < p.length by omega)).2; have := (M.fault_zero hv).2.1; omega
  rw [← J.encL_whole 199 hv (by omega)]
  exact J.enc_bd 200 hv (by omega) hpl
theorem lines_len (ps : List (List M.Cl)) (k : Nat) (h : ∀ j, j < k → M.valueFault (ps.getD j []) = 0) : (linesK ps k).length ≤ 80001 * k := by
  induction k with
  | zero => simp [linesK]
  | succ k ih =>
    have h1 := ih (fun j hj => h j (by omega))
    have h2 := enc_len (h k (by omega))
    rw [linesK, List.length_append, List.length_append, Nat.mul_add]
    show _ + (_ + 1) ≤ _
    omega
theorem room_all {L : Nat} (h : L ≤ 20000000) : L + 100000 * 200 ≤ 100000000000 := Nat.le_trans (Nat.add_le_add_right h _) (by decide)
theorem lines_room (ps : List (List M.Cl)) (k : Nat) (hk : k ≤ 200) (h : ∀ j, j < k → M.valueFault (ps.getD j []) = 0) : (linesK ps k).length ≤ 20000000 := by
  have h1 := lines_len ps k h
  have h2 : 80001 * k ≤ 80001 * 200 := Nat.mul_le_mul_left _ hk
  exact Nat.le_trans h1 (Nat.le_trans h2 (by decide))
end Go.Proofs.YtcglddahphkcpaaGreatDoor

namespace Go.Proofs.YtcglddahphkcpaaGreatDoor
open Go.RowKit
set_option linter.unusedVariables false

theorem end_whole {v : List M.Cl} (hv : M.valueFault v = 0) : M.endOf v 0 = v.length := by
  obtain ⟨_, _, _, _, d, hw, _⟩ := M.fault_zero hv
  exact M.endOf_of (Nat.le_refl _) hw
theorem part_self {v : List M.Cl} (hv : M.valueFault v = 0) : part v 0 = v := by
  unfold part
  rw [end_whole hv, show cut v 0 v.length = v by unfold cut; simp]
  exact setKey_none hv
end Go.Proofs.YtcglddahphkcpaaGreatDoor

namespace Go.Proofs.YtcglddahphkcpaaGreatDoor
open Go.RowKit
set_option linter.unusedVariables false
set_option linter.unusedSimpArgs false
namespace Al
theorem evs_ne {v : List M.Cl} (hv : M.valueFault v = 0) : ∀ i, i < (evs v.length v []).length → (evs v.length v []).getD i [] ≠ [] := fun i hi e => by
  have := (fault_len ((stream_fine hv).2 i hi)).1
  rw [e] at this; simp at this
set_option maxRecDepth 100000 in
set_option maxHeartbeats 2000000 in
theorem implStreamOf_any (v : List M.Cl) (b off cap : Nat) (w : World) (hrow : Row w b off v) (hb : b < w.heap.size) (hn : v.length ≤ 1048576) (hcap : v.length ≤ cap) (hok : ∀ c ∈ v, c.ok) :
    Calls Tryz.prog 20 #[.slice (some ⟨b, off, none⟩) v.length cap] w (AnsR w (streamOut v)) := by
  have OK := hide hok
  have B0 : ∀ o, Below w.heap.size w (w.alloc o) := fun o => (Below.refl _ _).alloc (Nat.le_refl _) o
  have HB0 := hide B0
  clear B0 hok
  go_enter Tryz.func20, Tryz.ntmps20
  go_wp2_with fail
  refine (implFault_any v b off cap _ (hrow.below ((unhide HB0) _) hb) (by simp; omega) hn hcap (unhide OK)).mono ?_
  rintro e1 w1 ⟨rfl, hb1⟩
  have hR : Own w1 w.heap.size 41 [.int .i64 0, .slice none 0 0] := Own.below ⟨_, heap_alloc_new _ _, rfl⟩ hb1 (by simp)
  have B1 : Below w.heap.size w w1 := ((unhide HB0) _).trans (hb1.mono (by simp))
  have hrow1 := hrow.below B1 hb
  have hb1' : b < w1.heap.size := Nat.lt_of_lt_of_le hb B1.size
  clear hb1
  by_cases hv : M.valueFault v = 0
  · rw [hv]
    have fin := hide (stream_ok hv)
    have hl := (M.fault_zero hv)
    have hp0 : part v 0 = v := part_self hv
    have HEV := hide (ev_says v.length v b off cap 0 [] (.slice none 0 0) w1.heap.size (.slice none 0 0) (fun _ => False) [] w1 hv (by have := hl.1; omega) (by rw [hp0]; omega) hrow1 hb1' (Nat.le_refl _) hcap (Sp.nil _ _ _) (World.ownsRow_nil _ _ _ _) (fun g h => h.elim) (fun g h => by cases h) (fun c hc => by simp at hc) (by rw [hp0]; have := hl.2.1; simp; omega) (by rw [hp0]; have := hl.2.1; simp; omega))
    rw [hp0, List.nil_append] at HEV
    have HNE := hide (evs_ne hv)
    have HSP := hide (show Sp w1 w1.heap.size (.slice none 0 0) [] (fun _ => False) from Sp.nil _ _ _)
    clear hl hp0 hv hrow1 hrow
    go_wp2_with fail
    refine (unhide HEV).mono ?_
    rintro e2 w2 ⟨ev, rfl, hE⟩
    have hb2 := hE.low (unhide HSP) (World.ownsRow_nil _ _ _ _) (Nat.le_refl _)
    have hp3 := hE.row.sd.pr (unhide HNE)
    have hR3 := hR.below hb2 hR.lt
    have r0 := hR3.cell 0
    have r1 := hR3.cell 1
    have z0 := hR3.frozen 0
    have z1 := hR3.frozen 1
    simp only [List.getElem?_cons_zero, List.getElem?_cons_succ] at r0 r1
    have HE := hide (PR.stored hp3 B1 hR.lt hb2)
    obtain ⟨ac, mc, cc, rfl⟩ := hp3.ps.shape
    clear hE hp3 hb2 HEV HSP
    go_wp2_with fail
    refine bodyPost_ret (v := .agg #[.int .i64 0, .slice ac mc cc]) (by simp [results, Tryz.results20, go_sem, r0, r1]) rfl (ansR_of (unhide fin) ((unhide HE) _ _).1 ((unhide HE) _ _).2)
  · have fin := hide (stream_bad hv)
    generalize M.valueFault v = q at *
    have hz' : (q == 0) = false := by simp [hv]
    have hz2 : (q != 0) = true := by simp [hv]
    have r0 := hR.cell 0
    have r1 := hR.cell 1
    have z0 := hR.frozen 0
    have z1 := hR.frozen 1
    simp only [List.getElem?_cons_zero, List.getElem?_cons_succ] at r0 r1
    clear hv
    go_wp2_with fail
    refine bodyPost_ret (v := .agg #[.int .i64 q, .slice none 0 0]) (by simp [results, Tryz.results20, go_sem, r0, r1]) rfl (ansR_of (unhide fin) (.inl ⟨rfl, rfl⟩) (store_below B1 _ _))
set_option maxRecDepth 100000 in
set_option maxHeartbeats 2000000 in
theorem specStreamOf_any (v : List M.Cl) (b off cap : Nat) (w : World) (hrow : Row w b off v) (hb : b < w.heap.size) (hn : v.length ≤ 1048576) (hcap : v.length ≤ cap) (hok : ∀ c ∈ v, c.ok) :
    Calls Tryz.prog 21 #[.slice (some ⟨b, off, none⟩) v.length cap] w (AnsS w (streamOut v)) := by
  have OK := hide hok
  have B0 : ∀ o, Below w.heap.size w (w.alloc o) := fun o => (Below.refl _ _).alloc (Nat.le_refl _) o
  have HB0 := hide B0
  clear B0 hok
  go_enter Tryz.func21, Tryz.ntmps21
  go_wp2_with fail
  refine (specFault_any v b off cap _ (hrow.below ((unhide HB0) _) hb) (by simp; omega) hn hcap (unhide OK)).mono ?_
  rintro e1 w1 ⟨rfl, hb1⟩
  have hR : Own w1 w.heap.size 41 [.int .i64 0, .slice none 0 0] := Own.below ⟨_, heap_alloc_new _ _, rfl⟩ hb1 (by simp)
  have B1 : Below w.heap.size w w1 := ((unhide HB0) _).trans (hb1.mono (by simp))
  have hrow1 := hrow.below B1 hb
  have hb1' : b < w1.heap.size := Nat.lt_of_lt_of_le hb B1.size
  clear hb1
  by_cases hv : M.valueFault v = 0
  · rw [hv]
    have fin := hide (stream_ok hv)
    have hl := (M.fault_zero hv).2.1
    have HEV := hide (all_evs v.length v b off cap none 0 [] w1 hv (Nat.le_refl _) hrow1 hb1' hcap (PT.nil _ _) (fun _ => ⟨rfl, rfl⟩) (Nat.le_refl _) (by omega) (by simp; omega) (fun c hc => by simp at hc))
    have hfine := stream_fine hv
    have HNE := hide (evs_ne hv)
    obtain ⟨L, hL⟩ : ∃ L, L = evs v.length v [] := ⟨_, rfl⟩
    rw [← hL] at fin HEV hfine HNE
    have HVF := hide hfine.2
    have hl2 := hfine.1
    clear hL hv hl hrow1 hrow hfine
    go_wp2_with fail
    refine (unhide HEV).mono ?_
    rintro e2 w2 ⟨s, rfl, hss, hb2⟩
    have hps := hide (hss.ps (unhide HNE))
    obtain ⟨a2, c2, rfl, hc2, hlv⟩ := hss.lv (unhide HNE)
    have HLV := hide hlv
    have hR2 := hR.below hb2 hR.lt
    have HR2 := hide hR2
    have B2 := hide (B1.trans (hb2.mono B1.size))
    have HBS := hide (show w.heap.size < w1.heap.size from hR.lt)
    have hb12 := hide hb2
    have h200 : ¬ 200 < (L.length : Int) := by omega
    have HL2 := hide hl2
    obtain ⟨n, hnn⟩ : ∃ n, n = L.length := ⟨_, rfl⟩
    have HN := hide hnn
    rw [← hnn] at h200 hl2 ⊢
    clear hss hlv hR2 hb2 hR HEV hnn
    go_wp2_with fail
    go_loopg [5] n (fun gh s5 wr => ∃ k : Nat, Hid (gh = n - k) ∧ s5 = .int .i64 (k : Int) ∧ k ≤ n ∧ Hid (Below w2.heap.size w2 wr))
    case atStart => exact ⟨0, rfl, rfl, by omega, Below.refl _ _⟩
    case round =>
      obtain ⟨k, hg, rfl, hk, hbel⟩ := hrel
      by_cases hlt : k < n
      · have hltI : (k : Int) < (n : Int) := by omega
        have hk0 : (0 : Int) ≤ (k : Int) := by omega
        obtain ⟨g, b3, o3, c3, rfl, hgl, f3, hc3, hb3, hr3⟩ := ((unhide HLV).below hbel.out) k (by rw [← unhide HN]; exact hlt)
        have hvf := (unhide HVF) k (by rw [← unhide HN]; exact hlt)
        have HF := hide (specFault_any (L.getD k []) b3 o3 c3 wr hr3 hb3 (by have := (fault_len hvf).2; omega) hc3 (Pth.oks hvf))
        rw [hvf] at HF
        clear hr3 hvf hb3 hc3
        generalize L.getD k [] = q at *
        go_wp2_with fail
        refine (unhide HF).mono ?_
        rintro e4 w4 ⟨rfl, hb4⟩
        have B4 := hide (hbel.out.trans (hb4.mono hbel.out.size))
        clear hb4 f3 HF hbel
        go_wp2_with fail
        go_roundg (n - (k + 1))
        case rel => exact ⟨k + 1, rfl, by go_num, by omega, unhide B4⟩
        case measure => have := hg.out; omega
      · have hR4 := (unhide HR2).below hbel.out (unhide HR2).lt
        have r0 := hR4.cell 0
        have r1 := hR4.cell 1
        have z0 := hR4.frozen 0
        have z1 := hR4.frozen 1
        simp only [List.getElem?_cons_zero, List.getElem?_cons_succ] at r0 r1
        have BB := (unhide hb12).trans (hbel.out.mono (unhide hb12).size)
        have HP4 : PS wr w1.heap.size wr.heap.size (.slice a2 n c2) L := by
          have := (unhide hps).below hbel.out
          rw [← unhide HN] at this
          exact this.mono (Nat.le_refl _) hbel.out.size
        have HE := hide (PS.stored HP4 B1 (unhide HBS) BB)
        have hkI : ¬ (k : Int) < (n : Int) := by omega
        clear hR4 HP4 BB hbel
        go_wp2_with fail
        refine bodyPost_ret (v := .agg #[.int .i64 0, .slice a2 n c2]) (by simp [results, Tryz.results21, go_sem, r0, r1]) rfl (ansS_of (unhide fin) ((unhide HE) _ _).1 ((unhide HE) _ _).2)
  · have fin := hide (stream_bad hv)
    generalize M.valueFault v = q at *
    have hz' : (q == 0) = false := by simp [hv]
    have hz2 : (q != 0) = true := by simp [hv]
    have r0 := hR.cell 0
    have r1 := hR.cell 1
    have z0 := hR.frozen 0
    have z1 := hR.frozen 1
    simp only [List.getElem?_cons_zero, List.getElem?_cons_succ] at r0 r1
    clear hv
    go_wp2_with fail
    refine bodyPost_ret (v := .agg #[.int .i64 q, .slice none 0 0]) (by simp [results, Tryz.results21, go_sem, r0, r1]) rfl (ansS_of (unhide fin) (.inl ⟨rfl, rfl⟩) (store_below B1 _ _))
end Al
end Go.Proofs.YtcglddahphkcpaaGreatDoor

namespace Go.Proofs.YtcglddahphkcpaaGreatDoor
open Go.RowKit
set_option linter.unusedVariables false
set_option linter.unusedSimpArgs false
namespace Sev
/-- What the events of a list make of a value, the first of them at place k. -/
def made : Nat → List M.Cl → List (List M.Cl) → Int × Int × List M.Cl
  | _, u, [] => (0, 0, u)
  | k, u, e :: l => if (e.getD 0 M.zero).n = 1 then made (k + 1) u l else if (Pth.setS u ((P e 0).drop 1) (P e 1)).1 = 0 then made (k + 1) (Pth.setS u ((P e 0).drop 1) (P e 1)).2 l else ((Pth.setS u ((P e 0).drop 1) (P e 1)).1, k, [])
/-- A list's lines as a text. -/
def lines (L : List (List M.Cl)) : ByteArray := J.bytes (linesK L L.length)
/-- What FromStream tells. -/
def fromOut (L : List (List M.Cl)) : Int × Int × List M.Cl :=
  if (faults L).1 ≠ 0 then faults L
  else if (made 0 [M.zero] L).1 ≠ 0 then made 0 [M.zero] L
  else if lines (Al.evs (made 0 [M.zero] L).2.2.length (made 0 [M.zero] L).2.2 []) = lines L then (0, 0, (made 0 [M.zero] L).2.2) else (1, 0, [])
theorem from_bad {L : List (List M.Cl)} (h : (faults L).1 ≠ 0) : fromOut L = faults L := if_pos h
theorem from_hit {L : List (List M.Cl)} {c a : Int} {l : List M.Cl} (h : (faults L).1 = 0) (hm : made 0 [M.zero] L = (c, a, l)) (hc : c ≠ 0) : fromOut L = (c, a, l) := by unfold fromOut; rw [if_neg (by simp [h]), hm]; exact if_pos hc
theorem from_end {L : List (List M.Cl)} {u : List M.Cl} (h : (faults L).1 = 0) (hm : made 0 [M.zero] L = (0, 0, u)) : fromOut L = if lines (Al.evs u.length u []) = lines L then (0, 0, u) else (1, 0, []) := by unfold fromOut; rw [if_neg (by simp [h]), hm, if_neg (by simp)]
theorem drop_at {l : List (List M.Cl)} {k : Nat} (h : k < l.length) : l.drop k = l.getD k [] :: l.drop (k + 1) := by
  rw [List.getD_eq_getElem?_getD, List.getElem?_eq_getElem h]
  exact List.drop_eq_getElem_cons h
theorem made_skip {l : List (List M.Cl)} {k : Nat} {u : List M.Cl} (hk : k < l.length) (h : ((l.getD k []).getD 0 M.zero).n = 1) : made k u (l.drop k) = made (k + 1) u (l.drop (k + 1)) := by rw [drop_at hk, made, if_pos h]
theorem made_hit {l : List (List M.Cl)} {k : Nat} {u : List M.Cl} (hk : k < l.length) (hn : ((l.getD k []).getD 0 M.zero).n = 2) (h : (Pth.setS u ((P (l.getD k []) 0).drop 1) (P (l.getD k []) 1)).1 ≠ 0) : made k u (l.drop k) = ((Pth.setS u ((P (l.getD k []) 0).drop 1) (P (l.getD k []) 1)).1, (k : Int), []) := by rw [drop_at hk, made, if_neg (by omega), if_neg h]
theorem made_next {l : List (List M.Cl)} {k : Nat} {u : List M.Cl} (hk : k < l.length) (hn : ((l.getD k []).getD 0 M.zero).n = 2) (h : (Pth.setS u ((P (l.getD k []) 0).drop 1) (P (l.getD k []) 1)).1 = 0) : made k u (l.drop k) = made (k + 1) (Pth.setS u ((P (l.getD k []) 0).drop 1) (P (l.getD k []) 1)).2 (l.drop (k + 1)) := by rw [drop_at hk, made, if_neg (by omega), if_pos h]
theorem made_end {l : List (List M.Cl)} {k : Nat} {u : List M.Cl} (hk : k = l.length) : made k u (l.drop k) = (0, 0, u) := by rw [hk, List.drop_length, made]
theorem zero_ok : M.valueFault [M.zero] = 0 := zero_valid.1
end Sev
theorem LR.lv {w : World} {g : Nat} {ps : List (List M.Cl)} (h : LR w g ps) : LV w (some ⟨g, 0, none⟩) ps := fun i hi => by
  obtain ⟨b, h1, h2, h3⟩ := h.2 i hi
  exact ⟨g, b, 0, _, rfl, h.1, h1, Nat.le_refl _, h2, h3⟩
theorem Sev.pr_lv {w : World} {lo hi : Nat} {s : Value} {ps : List (List M.Cl)} (h : PR w lo hi s ps) : ∃ a c, s = .slice a ps.length c ∧ ps.length ≤ c ∧ LV w a ps := by
  rcases h with ⟨rfl, rfl⟩ | ⟨g, cap, xs, β, γ, h1, h2, h3, h4, h5, h6, _⟩
  · exact ⟨none, 0, rfl, Nat.le_refl _, fun i hi => absurd hi (by simp)⟩
  · refine ⟨_, cap, h1, h2, fun i hi => ?_⟩
    obtain ⟨k1, k2, k3, k4, k5, k6⟩ := h6 i hi
    exact ⟨g, β i, 0, γ i, rfl, h5.lt, (h5.cell i).trans k1, k2, k6.lt, k6.row⟩
theorem Sev.ps_lv {w : World} {lo hi : Nat} {s : Value} {ps : List (List M.Cl)} (h : PS w lo hi s ps) : ∃ a c, s = .slice a ps.length c ∧ ps.length ≤ c ∧ LV w a ps := by
  rcases h with ⟨rfl, rfl⟩ | ⟨g, cap, xs, β, γ, h1, h2, h3, h4, h5, h6⟩
  · exact ⟨none, 0, rfl, Nat.le_refl _, fun i hi => absurd hi (by simp)⟩
  · refine ⟨_, cap, h1, h2, fun i hi => ?_⟩
    obtain ⟨k1, k2, k3, k4, k6⟩ := h6 i hi
    exact ⟨g, β i, 0, γ i, rfl, h5.lt, (h5.cell i).trans k1, k2, k6.lt, k6.row⟩
set_option maxRecDepth 100000 in
set_option maxHeartbeats 2000000 in
theorem linesTextV_any (a : Option Addr) (cap : Nat) (ps : List (List M.Cl)) (w1 : World) (hL : LV w1 a ps) (hn200 : ps.length ≤ 200) (hall : ∀ j, j < ps.length → M.valueFault (ps.getD j []) = 0) (htab : Lib.TabBelow Tryz.prog w1.heap.size w1 "internal/strconv.uint64pow10" .u64 Lib.pow10Tab) :
    Calls Tryz.prog 41 #[.slice a ps.length cap] w1 fun e w' => e = .returned (.string (J.bytes (linesK ps ps.length))) ∧ Below w1.heap.size w1 w' := by
  have HL := hide hL
  have HT := hide htab
  have HALL := hide hall
  obtain ⟨i0, hi, hz0, hz1, hz2⟩ := info_parts Tryz.info5
  clear hL htab hall
  obtain ⟨base, hbe⟩ : ∃ base, base = w1.heap.size := ⟨_, rfl⟩
  have hbase0 : base ≤ w1.heap.size := by omega
  have HBE := hide hbe
  clear hbe
  go_enter Tryz.func41, Tryz.ntmps41
  go_wp2_with fail
  go_loopg [3, 8] ps.length (fun gh s3 s8 wr => ∃ k : Nat, Hid (gh = ps.length - k) ∧ s8 = .int .i64 k ∧ k ≤ ps.length ∧ wr.ownsRow base 5 1 s3 (linesK ps k).length (J.bv (linesK ps k)) ∧ Bk base w1 wr)
  case atStart => exact ⟨0, rfl, rfl, by omega, World.ownsRow_nil _ _ _ _, Bk.refl _ _⟩
  case round =>
    obtain ⟨k, hg, rfl, hk, hown, hbel⟩ := hrel
    have hll := lines_room ps k (by omega) (fun j hj => (unhide HALL) j (by omega))
    have BW : Below w1.heap.size w1 wr := by rw [← unhide HBE]; exact hbel.1
    obtain ⟨L, hL⟩ : ∃ L, L = linesK ps k := ⟨_, rfl⟩
    rw [← hL] at hown hll
    have HLL := hide hL
    clear hL
    obtain ⟨xa, xn, xc, rfl⟩ := owns_shape hown
    by_cases hlt : k < ps.length
    · have hltI : (k : Int) < (ps.length : Int) := by omega
      obtain ⟨g, b, off, c, rfl, hg0, f0, hcc, hb, hr⟩ := (unhide HL) k hlt
      have f1 : wr.cell? ⟨g, k, none⟩ = some (.slice (some ⟨b, off, none⟩) (ps.getD k []).length c) := (hbel.1.cell (p := ⟨g, k, none⟩) (by rw [unhide HBE]; exact hg0)).trans f0
      have hv := (unhide HALL) k hlt
      have hl1 := (M.fault_zero hv).1
      have hline := hide (show linesK ps (k + 1) = linesK ps k ++ (J.encL 200 (ps.getD k []) ++ [10]) from rfl)
      have hb2 : b < base := by rw [unhide HBE]; exact hb
      generalize ps.getD k [] = p at *
      have hpl : (part p 0).length ≤ 200 := by have := part_len hv (show 0 < p.length by omega); have := (end_gt hv (show 0 < p.length by omega)).2; have := (M.fault_zero hv).2.1; omega
      have hel := enc_len hv
      have HC := hide (appendText_any 200 p 0 b off c base (.slice xa xn xc) L wr hv (by omega) hpl (hr.below hbel.1 hb2) hb2 hcc (by have := hbel.size; omega) (room_all hll) hown (fun w' hb' => (unhide HT) w' (by rw [← unhide HBE]; exact hbel.1.trans hb')))
      rw [J.encL_whole 199 hv (by omega)] at HC
      have hb0 : Bk base wr wr := Bk.refl _ _
      have hbw : base ≤ wr.heap.size := by have := hbel.size; omega
      clear hv hpl hr f0 hl1 hown
      go_wp2_with fail
      refine (unhide HC).mono ?_
      rintro e w2 ⟨v2, rfl, w2o0, w2b⟩
      obtain ⟨Lw2, ew2⟩ : ∃ L', L' = L ++ J.encL 200 p := ⟨_, rfl⟩
      have w2o : w2.ownsRow base 5 1 v2 Lw2.length (J.bv Lw2) := by rw [ew2]; exact w2o0
      have lw2 : Lw2.length ≤ 20080000 := by rw [ew2, List.length_append]; omega
      have Ew2 := hide ew2
      clear ew2 w2o0 HC hb0
      obtain ⟨xa2, xn2, xc2, rfl⟩ := owns_shape w2o
      have hown1 := hide (fun o => (w2o).alloc o)
      have hone := hide (J.one_word w2 10)
      have honep := hide (J.one_plain 10)
      have hb63 : (Lw2).length + 1 ≤ maxLen := by unfold maxLen; omega
      have hby : ((Lw2).length + 1) * 1 ≤ 140737488355328 := by omega
      have hbase : base ≤ w2.heap.size + 1 := by have := (w2b).size; omega
      have hbse := hide (J.owns_base w2o)
      have hbsr := hide (fun o => J.owns_row ((w2o).alloc o))
      clear w2o
      go_wp2_with (at_builtin; refine wpList_append_own _ rfl (.tmp 14) (.tmp 15) 37 rfl base 5 i0 (.int .u8 0) 1 1 Tryz.underlying37 hi hz0 hz1 hz2 rfl (by decide) _ (Lw2).length _ rfl ((unhide hown1) _) ⟨w2.heap.size, 0, none⟩ 1 1 [.int .u8 10] rfl rfl (unhide hone) (unhide honep) hb63 hby (by simpa using hbase) ?_)
      intro vw3 w3 w3h hgw3 _
      have w3b : Bk base wr w3 := ((w2b).alloc (by have := (w2b).size; omega) _).grown hgw3 (by simpa using hbase) (unhide hbse) ((unhide hbsr) _)
      obtain ⟨Lw3, ew3⟩ : ∃ L', L' = Lw2 ++ [10] := ⟨_, rfl⟩
      have w3o : w3.ownsRow base 5 1 vw3 Lw3.length (J.bv Lw3) := by rw [ew3, List.length_append, ← J.bv_snoc]; exact w3h
      have lw3 : Lw3.length ≤ (Lw2).length + 1 := by rw [ew3, List.length_append]; exact Nat.le_refl _
      have Ew3 := hide ew3
      clear hgw3 w3h ew3 hown1 hone honep hb63 hby hbase hbse hbsr
      obtain ⟨xaw3, xnw3, xcw3, rfl⟩ := owns_shape w3o
      have w3n := hide (show w3.ownsRow base 5 1 (.slice xaw3 xnw3 xcw3) (linesK ps (k + 1)).length (J.bv (linesK ps (k + 1))) by
        have e : Lw3 = linesK ps (k + 1) := by
          rw [unhide Ew3, unhide Ew2, unhide hline, unhide HLL, List.append_assoc]
        rw [← e]; exact w3o)
      clear w3o
      go_wp2_with fail
      go_roundg (ps.length - (k + 1))
      case rel => exact ⟨k + 1, rfl, by go_num, by omega, unhide w3n, hbel.trans w3b⟩
      case measure => have := hg.out; omega
    · have hge : ¬ (k : Int) < (ps.length : Int) := by omega
      have hke : k = ps.length := by omega
      have fin := hide (show L = linesK ps ps.length by rw [unhide HLL, hke])
      rcases hown.2 with ⟨hnil, h0⟩ | ⟨g2, cap2, cur, hsome, hgb, _⟩
      · cases hnil
        have hL0 : L = [] := List.length_eq_zero_iff.1 h0
        rw [hL0] at fin
        have hcv : (convert 37 9 (.slice none 0 0)).run Tryz.prog wr = .ok (.string ByteArray.empty) wr := Lib.run_convert_nil_bytes wr 37 9 5 0 Tryz.underlying37 Tryz.underlying5 Tryz.underlying9
        clear hL0 h0 HLL hke hll hown
        go_wp2_with fail
        go_ret
        exact ⟨by rw [← unhide fin]; rfl, BW⟩
      · obtain ⟨rfl, rfl, rfl⟩ : xa = some ⟨g2, 0, none⟩ ∧ xn = L.length ∧ xc = cap2 := by injection hsome with e1 e2 e3; exact ⟨e1, e2, e3⟩
        have hcv := show (convert 37 9 (.slice (some ⟨g2, 0, none⟩) L.length xc)).run Tryz.prog wr = .ok (.string (J.bytes L)) wr from
          run_convert_bytes_back _ _ _ 5 _ xc _ Tryz.underlying37 Tryz.underlying5 Tryz.underlying9 (J.owns_cells hown)
        have fin2 := hide (congrArg J.bytes (unhide fin))
        clear hown HLL hke hll fin
        generalize L.length = n at *
        generalize J.bytes L = q at *
        go_wp2_with fail
        go_ret
        exact ⟨congrArg (fun x => Ending.returned (.string x)) (unhide fin2), BW⟩

end Go.Proofs.YtcglddahphkcpaaGreatDoor
