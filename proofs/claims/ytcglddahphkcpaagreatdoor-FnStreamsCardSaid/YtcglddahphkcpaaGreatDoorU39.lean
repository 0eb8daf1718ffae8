/-
  spec.EncodeAll and impl.EncodeAll answer encAll.
  FromStream, plainly; the text of values of a list that lies anywhere (mk_fsm.py).
  The events of a value are put together to the value again. No word of the program is used here.
-/
import Derived.Test.YtcglddahphkcpaaGreatDoorU00
import Derived.Test.YtcglddahphkcpaaGreatDoorU01
import Derived.Test.YtcglddahphkcpaaGreatDoorU06
import Derived.Test.YtcglddahphkcpaaGreatDoorU08
import Derived.Test.YtcglddahphkcpaaGreatDoorU09
import Derived.Test.YtcglddahphkcpaaGreatDoorU34
import Derived.Test.YtcglddahphkcpaaGreatDoorU35
import Derived.Test.YtcglddahphkcpaaGreatDoorU36
import Derived.Test.YtcglddahphkcpaaGreatDoorU38
import Derived.BigQuiet
import Derived.BigRegion
import Derived.Deep.LoopGhost
import Derived.Deep.QuietTactic
import Derived.Deep.RegionHeld3
import Derived.Deep.RegionWith
import Derived.Laws.BytesArg
import Derived.Laws.RangeAny
import Derived.Lib.BufferRead
import Derived.Lib.ItoaLen
import Derived.Lib.ItoaNum
import Derived.RegionTactic
namespace Go.Proofs.YtcglddahphkcpaaGreatDoor
open Go.RowKit
set_option linter.unusedVariables false
set_option linter.unusedSimpArgs false

/-- The texts of the first k values, a line each. -/
def linesK (ps : List (List M.Cl)) : Nat → List UInt8
  | 0 => []
  | k + 1 => linesK ps k ++ (J.encL 200 (ps.getD k []) ++ [10])
theorem enc_len {p : List M.Cl} (hv : M.valueFault p = 0) : (J.encL 200 p).length ≤ 80000 := by
  have hl := (M.fault_zero hv).1
  have hpl : (part p 0).length ≤ 200 := by have := part_len hv (show 0 < p.length by omega); have := (end_gt hv (show 0 < p.length by omega)).2; have := (M.fault_zero hv).2.1; omega
  rw [← J.encL_whole 199 hv (by omega)]
  exact J.enc_bd 200 hv (by omega) hpl
theorem lines_len (ps : List (List M.Cl)) (k : Nat) (h : ∀ j, j < k → M.valueFault (ps.getD j []) = 0) : (linesK ps k).length ≤ 80001 * k := by
  induction k with
  | zero => simp [linesK]
  | succ k ih =>
    have h1 := ih (fun j hj => h j (by omega))
    have h2 := enc_len (h k (by omega))
    rw [linesK, List.length_append, List.length_append, Nat.mul_add]
    show _ + (_ + 1) ≤ _
    omega
theorem room_all {L : Nat} (h : L ≤ 20000000) : L + 100000 * 200 ≤ 100000000000 := Nat.le_trans (Nat.add_le_add_right h _) (by decide)
theorem lines_room (ps : List (List M.Cl)) (k : Nat) (hk : k ≤ 200) (h : ∀ j, j < k → M.valueFault (ps.getD j []) = 0) : (linesK ps k).length ≤ 20000000 := by
  have h1 := lines_len ps k h
  have h2 : 80001 * k ≤ 80001 * 200 := Nat.mul_le_mul_left _ hk
  exact Nat.le_trans h1 (Nat.le_trans h2 (by decide))
end Go.Proofs.YtcglddahphkcpaaGreatDoor

namespace Go.Proofs.YtcglddahphkcpaaGreatDoor
open Go.RowKit
set_option linter.unusedVariables false
set_option linter.unusedSimpArgs false
namespace Sev
/-- What the events of a list make of a value, the first of them at place k. -/
def made : Nat → List M.Cl → List (List M.Cl) → Int × Int × List M.Cl
  | _, u, [] => (0, 0, u)
  | k, u, e :: l => if (e.getD 0 M.zero).n = 1 then made (k + 1) u l else if (Pth.setS u ((P e 0).drop 1) (P e 1)).1 = 0 then made (k + 1) (Pth.setS u ((P e 0).drop 1) (P e 1)).2 l else ((Pth.setS u ((P e 0).drop 1) (P e 1)).1, k, [])
/-- A list's lines as a text. -/
def lines (L : List (List M.Cl)) : ByteArray := J.bytes (linesK L L.length)
/-- What FromStream tells. -/
def fromOut (L : List (List M.Cl)) : Int × Int × List M.Cl :=
  if (faults L).1 ≠ 0 then faults L
  else if (made 0 [M.zero] L).1 ≠ 0 then made 0 [M.zero] L
  else if lines (Al.evs (made 0 [M.zero] L).2.2.length (made 0 [M.zero] L).2.2 []) = lines L then (0, 0, (made 0 [M.zero] L).2.2) else (1, 0, [])
theorem from_bad {L : List (List M.Cl)} (h : (faults L).1 ≠ 0) : fromOut L = faults L := if_pos h
theorem from_hit {L : List (List M.Cl)} {c a : Int} {l : List M.Cl} (h : (faults L).1 = 0) (hm : made 0 [M.zero] L = (c, a, l)) (hc : c ≠ 0) : fromOut L = (c, a, l) := by unfold fromOut; rw [if_neg (by simp [h]), hm]; exact if_pos hc
theorem from_end {L : List (List M.Cl)} {u : List M.Cl} (h : (faults L).1 = 0) (hm : made 0 [M.zero] L = (0, 0, u)) : fromOut L = if lines (Al.evs u.length u []) = lines L then (0, 0, u) else (1, 0, []) := by unfold fromOut; rw [if_neg (by simp [h]), hm, if_neg (by simp)]
theorem drop_at {l : List (List M.Cl)} {k : Nat} (h : k < l.length) : l.drop k = l.getD k [] :: l.drop (k + 1) := by
  rw [List.getD_eq_getElem?_getD, List.getElem?_eq_getElem h]
  exact List.drop_eq_getElem_cons h
theorem made_skip {l : List (List M.Cl)} {k : Nat} {u : List M.Cl} (hk : k < l.length) (h : ((l.getD k []).getD 0 M.zero).n = 1) : made k u (l.drop k) = made (k + 1) u (l.drop (k + 1)) := by rw [drop_at hk, made, if_pos h]
theorem made_hit {l : List (List M.Cl)} {k : Nat} {u : List M.Cl} (hk : k < l.length) (hn : ((l.getD k []).getD 0 M.zero).n = 2) (h : (Pth.setS u ((P (l.getD k []) 0).drop 1) (P (l.getD k []) 1)).1 ≠ 0) : made k u (l.drop k) = ((Pth.setS u ((P (l.getD k []) 0).drop 1) (P (l.getD k []) 1)).1, (k : Int), []) := by rw [drop_at hk, made, if_neg (by omega), if_neg h]
theorem made_next {l : List (List M.Cl)} {k : Nat} {u : List M.Cl} (hk : k < l.length) (hn : ((l.getD k []).getD 0 M.zero).n = 2) (h : (Pth.setS u ((P (l.getD k []) 0).drop 1) (P (l.getD k []) 1)).1 = 0) : made k u (l.drop k) = made (k + 1) (Pth.setS u ((P (l.getD k []) 0).drop 1) (P (l.getD k []) 1)).2 (l.drop (k + 1)) := by rw [drop_at hk, made, if_neg (by omega), if_pos h]
theorem made_end {l : List (List M.Cl)} {k : Nat} {u : List M.Cl} (hk : k = l.length) : made k u (l.drop k) = (0, 0, u) := by rw [hk, List.drop_length, made]
theorem zero_ok : M.valueFault [M.zero] = 0 := zero_valid.1
end Sev
theorem Sev.pr_lv {w : World} {lo hi : Nat} {s : Value} {ps : List (List M.Cl)} (h : PR w lo hi s ps) : ∃ a c, s = .slice a ps.length c ∧ ps.length ≤ c ∧ LV w a ps := by
  rcases h with ⟨rfl, rfl⟩ | ⟨g, cap, xs, β, γ, h1, h2, h3, h4, h5, h6, _⟩
  · exact ⟨none, 0, rfl, Nat.le_refl _, fun i hi => absurd hi (by simp)⟩
  · refine ⟨_, cap, h1, h2, fun i hi => ?_⟩
    obtain ⟨k1, k2, k3, k4, k5, k6⟩ := h6 i hi
    exact ⟨g, β i, 0, γ i, rfl, h5.lt, (h5.cell i).trans k1, k2, k6.lt, k6.row⟩
set_option maxRecDepth 100000 in
set_option maxHeartbeats 2000000 in
theorem linesTextV_any (a : Option Addr) (cap : Nat) (ps : List (List M.Cl)) (w1 : World) (hL : LV w1 a ps) (hn200 : ps.length ≤ 200) (hall : ∀ j, j < ps.length → M.valueFault (ps.getD j []) = 0) (htab : Lib.TabBelow Tryz.prog w1.heap.size w1 "internal/strconv.uint64pow10" .u64 Lib.pow10Tab) :
    Calls Tryz.prog 41 #[.slice a ps.length cap] w1 fun e w' => e = .returned (.string (J.bytes (linesK ps ps.length))) ∧ Below w1.heap.size w1 w' := by
  have HL := hide hL
  have HT := hide htab
  have HALL := hide hall
  obtain ⟨i0, hi, hz0, hz1, hz2⟩ := info_parts Tryz.info5
  clear hL htab hall
  obtain ⟨base, hbe⟩ : ∃ base, base = w1.heap.size := ⟨_, rfl⟩
  have hbase0 : base ≤ w1.heap.size := by omega
  have HBE := hide hbe
  clear hbe
  go_enter Tryz.func41, Tryz.ntmps41
  go_wp2_with fail
  go_loopg [3, 8] ps.length (fun gh s3 s8 wr => ∃ k : Nat, Hid (gh = ps.length - k) ∧ s8 = .int .i64 k ∧ k ≤ ps.length ∧ wr.ownsRow base 5 1 s3 (linesK ps k).length (J.bv (linesK ps k)) ∧ Bk base w1 wr)
  case atStart => exact ⟨0, rfl, rfl, by omega, World.ownsRow_nil _ _ _ _, Bk.refl _ _⟩
  case round =>
    obtain ⟨k, hg, rfl, hk, hown, hbel⟩ := hrel
    have hll := lines_room ps k (by omega) (fun j hj => (unhide HALL) j (by omega))
    have BW : Below w1.heap.size w1 wr := by rw [← unhide HBE]; exact hbel.1
    obtain ⟨L, hL⟩ : ∃ L, L = linesK ps k := ⟨_, rfl⟩
    rw [← hL] at hown hll
    have HLL := hide hL
    clear hL
    obtain ⟨xa, xn, xc, rfl⟩ := owns_shape hown
    by_cases hlt : k < ps.length
    · have hltI : (k : Int) < (ps.length : Int) := by omega
      obtain ⟨g, b, off, c, rfl, hg0, f0, hcc, hb, hr⟩ := (unhide HL) k hlt
      have f1 : wr.cell? ⟨g, k, none⟩ = some (.slice (some ⟨b, off, none⟩) (ps.getD k []).length c) := (hbel.1.cell (p := ⟨g, k, none⟩) (by rw [unhide HBE]; exact hg0)).trans f0
      have hv := (unhide HALL) k hlt
      have hl1 := (M.fault_zero hv).1
      have hline := hide (show linesK ps (k + 1) = linesK ps k ++ (J.encL 200 (ps.getD k []) ++ [10]) from rfl)
      have hb2 : b < base := by rw [unhide HBE]; exact hb
      generalize ps.getD k [] = p at *
      have hpl : (part p 0).length ≤ 200 := by have := part_len hv (show 0 < p.length by omega); have := (end_gt hv (show 0 < p.length by omega)).2; have := (M.fault_zero hv).2.1; omega
      have hel := enc_len hv
      have HC := hide (appendText_any 200 p 0 b off c base (.slice xa xn xc) L wr hv (by omega) hpl (hr.below hbel.1 hb2) hb2 hcc (by have := hbel.size; omega) (room_all hll) hown (fun w' hb' => (unhide HT) w' (by rw [← unhide HBE]; exact hbel.1.trans hb')))
      rw [J.encL_whole 199 hv (by omega)] at HC
      have hb0 : Bk base wr wr := Bk.refl _ _
      have hbw : base ≤ wr.heap.size := by have := hbel.size; omega
      clear hv hpl hr f0 hl1 hown
      go_wp2_with fail
      refine (unhide HC).mono ?_
      rintro e w2 ⟨v2, rfl, w2o0, w2b⟩
      obtain ⟨Lw2, ew2⟩ : ∃ L', L' = L ++ J.encL 200 p := ⟨_, rfl⟩
      have w2o : w2.ownsRow base 5 1 v2 Lw2.length (J.bv Lw2) := by rw [ew2]; exact w2o0
      have lw2 : Lw2.length ≤ 20080000 := by rw [ew2, List.length_append]; omega
      have Ew2 := hide ew2
      clear ew2 w2o0 HC hb0
      obtain ⟨xa2, xn2, xc2, rfl⟩ := owns_shape w2o
      have hown1 := hide (fun o => (w2o).alloc o)
      have hone := hide (J.one_word w2 10)
      have honep := hide (J.one_plain 10)
      have hb63 : (Lw2).length + 1 ≤ maxLen := by unfold maxLen; omega
      have hby : ((Lw2).length + 1) * 1 ≤ 140737488355328 := by omega
      have hbase : base ≤ w2.heap.size + 1 := by have := (w2b).size; omega
      have hbse := hide (J.owns_base w2o)
      have hbsr := hide (fun o => J.owns_row ((w2o).alloc o))
      clear w2o
      go_wp2_with (at_builtin; refine wpList_append_own _ rfl (.tmp 14) (.tmp 15) 37 rfl base 5 i0 (.int .u8 0) 1 1 Tryz.underlying37 hi hz0 hz1 hz2 rfl (by decide) _ (Lw2).length _ rfl ((unhide hown1) _) ⟨w2.heap.size, 0, none⟩ 1 1 [.int .u8 10] rfl rfl (unhide hone) (unhide honep) hb63 hby (by simpa using hbase) ?_)
      intro vw3 w3 w3h hgw3 _
      have w3b : Bk base wr w3 := ((w2b).alloc (by have := (w2b).size; omega) _).grown hgw3 (by simpa using hbase) (unhide hbse) ((unhide hbsr) _)
      obtain ⟨Lw3, ew3⟩ : ∃ L', L' = Lw2 ++ [10] := ⟨_, rfl⟩
      have w3o : w3.ownsRow base 5 1 vw3 Lw3.length (J.bv Lw3) := by rw [ew3, List.length_append, ← J.bv_snoc]; exact w3h
      have lw3 : Lw3.length ≤ (Lw2).length + 1 := by rw [ew3, List.length_append]; exact Nat.le_refl _
      have Ew3 := hide ew3
      clear hgw3 w3h ew3 hown1 hone honep hb63 hby hbase hbse hbsr
      obtain ⟨xaw3, xnw3, xcw3, rfl⟩ := owns_shape w3o
      have w3n := hide (show w3.ownsRow base 5 1 (.slice xaw3 xnw3 xcw3) (linesK ps (k + 1)).length (J.bv (linesK ps (k + 1))) by
        have e : Lw3 = linesK ps (k + 1) := by
          rw [unhide Ew3, unhide Ew2, unhide hline, unhide HLL, List.append_assoc]
        rw [← e]; exact w3o)
      clear w3o
      go_wp2_with fail
      go_roundg (ps.length - (k + 1))
      case rel => exact ⟨k + 1, rfl, by go_num, by omega, unhide w3n, hbel.trans w3b⟩
      case measure => have := hg.out; omega
    · have hge : ¬ (k : Int) < (ps.length : Int) := by omega
      have hke : k = ps.length := by omega
      have fin := hide (show L = linesK ps ps.length by rw [unhide HLL, hke])
      rcases hown.2 with ⟨hnil, h0⟩ | ⟨g2, cap2, cur, hsome, hgb, _⟩
      · cases hnil
        have hL0 : L = [] := List.length_eq_zero_iff.1 h0
        rw [hL0] at fin
        have hcv : (convert 37 9 (.slice none 0 0)).run Tryz.prog wr = .ok (.string ByteArray.empty) wr := Lib.run_convert_nil_bytes wr 37 9 5 0 Tryz.underlying37 Tryz.underlying5 Tryz.underlying9
        clear hL0 h0 HLL hke hll hown
        go_wp2_with fail
        go_ret
        exact ⟨by rw [← unhide fin]; rfl, BW⟩
      · obtain ⟨rfl, rfl, rfl⟩ : xa = some ⟨g2, 0, none⟩ ∧ xn = L.length ∧ xc = cap2 := by injection hsome with e1 e2 e3; exact ⟨e1, e2, e3⟩
        have hcv := show (convert 37 9 (.slice (some ⟨g2, 0, none⟩) L.length xc)).run Tryz.prog wr = .ok (.string (J.bytes L)) wr from
          run_convert_bytes_back _ _ _ 5 _ xc _ Tryz.underlying37 Tryz.underlying5 Tryz.underlying9 (J.owns_cells hown)
        have fin2 := hide (congrArg J.bytes (unhide fin))
        clear hown HLL hke hll fin
        generalize L.length = n at *
        generalize J.bytes L = q at *
        go_wp2_with fail
        go_ret
        exact ⟨congrArg (fun x => Ending.returned (.string x)) (unhide fin2), BW⟩

end Go.Proofs.YtcglddahphkcpaaGreatDoor

namespace Go.Proofs.YtcglddahphkcpaaGreatDoor
open Go.RowKit
set_option linter.unusedVariables false
set_option linter.unusedSimpArgs false
namespace Fs
theorem laid_subs {cs : List M.Cl} {xs : List (List M.Cl)} (h : ∀ c ∈ cs, Pth.Stp c) (hl : cs.length ≤ 199) (hx : ∀ j, j < xs.length → M.valueFault (xs.getD j []) = 0) : subs (Sev.laid cs xs) 0 = Al.pathC cs :: xs := by
  unfold Sev.laid
  refine arr_subs fun j hj => ?_
  cases j with
  | zero => exact (Al.pathC_ok h hl).1
  | succ j => exact hx j (by simpa using hj)
theorem laid_n (cs : List M.Cl) (xs : List (List M.Cl)) : ((Sev.laid cs xs).getD 0 M.zero).n = (xs.length : Int) + 1 := by
  unfold Sev.laid
  rw [arrV_eq]
  simp [headCl]
theorem laid_kind (cs : List M.Cl) (xs : List (List M.Cl)) : ((Sev.laid cs xs).getD 0 M.zero).kind = 5 := by
  unfold Sev.laid
  rw [arrV_eq]; rfl
theorem one_val {v : List M.Cl} (hv : M.valueFault v = 0) : ∀ j, j < [v].length → M.valueFault (([v] : List (List M.Cl)).getD j []) = 0 := fun j hj => by
  have : j = 0 := by simpa using hj
  subst this; exact hv
theorem made_leaf {cs v u u' : List M.Cl} {k : Nat} {R : List (List M.Cl)} (h : ∀ c ∈ cs, Pth.Stp c) (hl : cs.length ≤ 199) (hv : M.valueFault v = 0) (hs : Pth.setS u cs v = (0, u')) : Sev.made k u (Sev.laid cs [v] :: R) = Sev.made (k + 1) u' R := by
  have hp := laid_subs h hl (one_val hv)
  have h0 : (Sev.P (Sev.laid cs [v]) 0).drop 1 = cs := by unfold Sev.P; rw [hp]; exact (Al.pathC_ok h hl).2.2
  have h1 : Sev.P (Sev.laid cs [v]) 1 = v := by unfold Sev.P; rw [hp]; rfl
  rw [Sev.made, if_neg (by rw [laid_n]; simp), h0, h1, hs, if_pos rfl]
theorem made_close {cs u : List M.Cl} {k : Nat} {R : List (List M.Cl)} : Sev.made k u (Sev.laid cs [] :: R) = Sev.made (k + 1) u R := by
  rw [Sev.made, if_pos (by rw [laid_n]; rfl)]
theorem made_evs (G : List M.Cl → Prop) : ∀ (f : Nat) (v ahead : List M.Cl) (d : Nat) (u r : List M.Cl) (k : Nat) (R : List (List M.Cl)), M.valueFault v = 0 → v.length ≤ f → M.walk v v.length 0 = some (v.length, d) → (∀ c ∈ ahead, Pth.Stp c) → ahead.length + d ≤ 20 →
    Goes G u ((lvs f v).map fun q => (ahead ++ q.1, q.2)) r → Sev.made k u (Al.evs f v ahead ++ R) = Sev.made (k + (Al.evs f v ahead).length) r R
  | 0, v, ahead, d, u, r, k, R, hv, hf, _, _, _, _ => by have := (M.fault_zero hv).1; omega
  | f + 1, v, ahead, d, u, r, k, R, hv, hf, hw, hs, hd, hg => by
    have hl := (M.fault_zero hv).1
    by_cases h0 : (v.getD 0 M.zero).n = 0
    · rw [lvs, if_pos h0] at hg
      obtain ⟨u', h1, _, h3⟩ := hg
      cases (show u' = r from h3)
      rw [Al.evs_leaf h0]
      simp only [List.append_nil] at h1
      exact made_leaf hs (by omega) hv h1
    have hn := Sev.n_ge hv
    rw [lvs, if_neg h0] at hg
    rw [Al.evs_more h0]
    generalize hob : decide ((v.getD 0 M.zero).kind = 6) = ob at *
    have key : ∀ j, j ≤ M.arity v 0 → ∀ (u r : List M.Cl) (k : Nat) (R : List (List M.Cl)), Goes G u ((lvK (lvs f) ob (keysAt v 0) (subs v 0) j).map fun q => (ahead ++ q.1, q.2)) r → Sev.made k u (Al.allK (Al.evs f) ob (keysAt v 0) (subs v 0) ahead j ++ R) = Sev.made (k + (Al.allK (Al.evs f) ob (keysAt v 0) (subs v 0) ahead j).length) r R := by
      intro j
      induction j with
      | zero => intro _ u r k R hg; cases (show u = r from hg); rfl
      | succ j ih =>
        intro hj u r k R hg
        obtain ⟨p1, p2, p3⟩ := Al.part_lt hv (show j < M.arity v 0 by omega)
        obtain ⟨dp, w1, w2⟩ := subs_deep hv hw (show j < M.arity v 0 by omega)
        have hst := (Al.step_to hv (show j < M.arity v 0 by omega)).1
        rw [hob] at hst
        have h4 := Al.iter_le hv hj
        have h6 := (Al.iter_le hv (Nat.le_of_lt (show j < M.arity v 0 by omega))).1
        rw [lvK, List.map_append] at hg
        obtain ⟨m, g1, g2⟩ := Goes.split hg
        rw [Al.allK, List.append_assoc, ih (by omega) u m k _ g1, List.length_append, ← Nat.add_assoc]
        rw [Al.subs_getD v 0 j (by omega), Nat.zero_add] at g2 ⊢
        refine made_evs G f _ _ dp m r _ R p3 (by omega) w1 (fun c hc => ?_) (by rw [List.length_append, List.length_singleton]; omega) ?_
        · rcases List.mem_append.1 hc with hc | hc
          · exact hs c hc
          · rw [List.mem_singleton.1 hc]; exact hst
        · rw [List.map_map] at g2
          have e : ((fun q : List M.Cl × List M.Cl => (ahead ++ q.1, q.2)) ∘ fun q : List M.Cl × List M.Cl => (Al.stepAt ob (keysAt v 0) j :: q.1, q.2)) = fun q => ((ahead ++ [Al.stepAt ob (keysAt v 0) j]) ++ q.1, q.2) := by
            funext q; simp
          rwa [e] at g2
    rw [List.append_assoc, key _ (Nat.le_refl _) u r k _ hg, List.length_append, List.length_singleton, ← Nat.add_assoc]
    exact made_close
/-- Each event of a value is without fault. -/
theorem evs_fault : ∀ (f : Nat) (v ahead e : List M.Cl) (d : Nat), M.valueFault v = 0 → M.walk v v.length 0 = some (v.length, d) → (∀ c ∈ ahead, Pth.Stp c) → ahead.length + d ≤ 20 → e ∈ Al.evs f v ahead → Sev.fault e = 0
  | 0, v, ahead, e, d, _, _, _, _, he => by simp [Al.evs] at he
  | f + 1, v, ahead, e, d, hv, hw, hs, hd, he => by
    have hok := Al.evs_ok (f + 1) v ahead e d hv hw hs hd he
    by_cases h0 : (v.getD 0 M.zero).n = 0
    · rw [Al.evs_leaf h0, List.mem_singleton] at he
      subst he
      have hp := laid_subs hs (by omega) (one_val hv)
      have e0 : Sev.P (Sev.laid ahead [v]) 0 = Al.pathC ahead := by unfold Sev.P; rw [hp]; rfl
      have e1 : Sev.P (Sev.laid ahead [v]) 1 = v := by unfold Sev.P; rw [hp]; rfl
      rw [Sev.fault_two hok (laid_kind _ _) (by rw [laid_n]; rfl) (by rw [e0]; exact (Al.pathC_ok hs (by omega)).2.1), e1, if_pos h0]
    have hstp : ∀ k, k < M.arity v 0 → ∀ c ∈ ahead ++ [Al.stepAt (decide ((v.getD 0 M.zero).kind = 6)) (keysAt v 0) k], Pth.Stp c := fun k hk c hc => by
      rcases List.mem_append.1 hc with hc | hc
      · exact hs c hc
      · rw [List.mem_singleton.1 hc]; exact (Al.step_to hv hk).1
    have hn : 0 ≤ (v.getD 0 M.zero).n := Sev.n_ge hv
    have ha : 0 < M.arity v 0 := by unfold M.arity; omega
    have hd1 : 1 ≤ d := by obtain ⟨d1, _, h⟩ := subs_deep hv hw ha; omega
    rw [Al.evs_more h0, List.mem_append] at he
    rcases he with he | he
    · obtain ⟨k, hk, he⟩ := Al.mem_allK he
      obtain ⟨_, p2, p3⟩ := Al.part_lt hv hk
      obtain ⟨d1, hw1, hd2⟩ := subs_deep hv hw hk
      rw [Al.subs_getD v 0 k hk, Nat.zero_add] at he
      exact evs_fault f _ _ e d1 p3 hw1 (hstp k hk) (by rw [List.length_append, List.length_singleton]; omega) he
    · rw [List.mem_singleton] at he
      subst he
      have hl := hstp (M.arity v 0 - 1) (by omega)
      have hlen : (ahead ++ [Al.stepAt (decide ((v.getD 0 M.zero).kind = 6)) (keysAt v 0) (M.arity v 0 - 1)]).length = ahead.length + 1 := by simp
      generalize ahead ++ [Al.stepAt (decide ((v.getD 0 M.zero).kind = 6)) (keysAt v 0) (M.arity v 0 - 1)] = cs at *
      have hp := laid_subs (xs := []) hl (by omega) (fun j hj => by simp at hj)
      have e0 : Sev.P (Sev.laid cs []) 0 = Al.pathC cs := by unfold Sev.P; rw [hp]; rfl
      rw [Sev.fault_one hok (laid_kind _ _) (by rw [laid_n]; rfl) (by rw [e0]; exact (Al.pathC_ok hl (by omega)).2.1), e0]
      refine if_neg ?_
      show ((cs.length : Nat) : Int) ≠ 0
      omega
/-- What is taken apart is put together again. -/
theorem stream_again {v : List M.Cl} (hv : M.valueFault v = 0) : 0 < (Al.evs v.length v []).length ∧ Sev.faults (Al.evs v.length v []) = (0, 0, []) ∧ Sev.fromOut (Al.evs v.length v []) = (0, 0, v) ∧ Sev.cutOut (Al.evs v.length v []) 0 = (0, Sev.cutL 0 (Al.evs v.length v [])) := by
  obtain ⟨d, hw, hd⟩ := (M.fault_zero hv).2.2.2.2
  have hl := (M.fault_zero hv).1
  have h1 : 0 < (Al.evs v.length v []).length := by
    obtain ⟨f, hf⟩ : ∃ f, v.length = f + 1 := ⟨v.length - 1, by omega⟩
    rw [hf, Al.evs]
    split <;> simp
  have h2 := (Al.stream_fine hv).1
  have h3 : Sev.faults (Al.evs v.length v []) = (0, 0, []) := by
    rw [Sev.faults_few (by omega)]
    refine Sev.first_none _ 0 fun j hj => ?_
    refine evs_fault v.length v [] _ d hv hw (fun c hc => by simp at hc) (by simpa using hd) ?_
    rw [List.getD_eq_getElem?_getD, List.getElem?_eq_getElem hj]
    exact List.getElem_mem hj
  have hg := (goes_all v.length v d hv (Nat.le_refl _) hw).1
  have hm := made_evs _ v.length v [] d [M.zero] v 0 [] hv (Nat.le_refl _) hw (fun c hc => by simp at hc) (by simpa using hd) (by simpa using hg)
  rw [List.append_nil] at hm
  refine ⟨h1, h3, ?_, ?_⟩
  · rw [Sev.from_end (by rw [h3]) (hm.trans rfl), if_pos rfl]
  · exact Sev.cut_ok (d := 0) (by rw [h3]) (by decide)
end Fs
end Go.Proofs.YtcglddahphkcpaaGreatDoor
