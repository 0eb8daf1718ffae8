/-
  spec.TargetsOf.
-/
import Derived.Test.YtfmljlhcaimafaaDoorInE
import Derived.Test.YtfmljlhcaimafaaDoorInD
import Derived.Test.YtfmljlhcaimafaaDoorInG
namespace Go.Proofs.YtfmljlhcaimafaaDoor
open Go.RowKit
set_option linter.unusedVariables false
set_option linter.unusedSimpArgs false


theorem Ic.owns_far {w : World} {a base : Nat} {e : TypeId} {v : Value} {n : Nat} {xs : List Value} (h : w.ownsRow base e 1 v n xs) (ha : a < base) (i : Nat) (x : Value) : (w.setCell ⟨a, i, none⟩ x).ownsRow base e 1 v n xs := by
  obtain ⟨h1, h2 | ⟨g, cap, cur, h3, h4, h5, h6⟩⟩ := h
  · exact ⟨h1, .inl h2⟩
  · exact ⟨h1, .inr ⟨g, cap, cur, h3, h4, (heap_setCell_other w ⟨a, i, none⟩ g x (by simp only; omega)).trans h5, h6⟩⟩
theorem Ic.owns_slice3 {w : World} {base : Nat} {e : TypeId} {size : Nat} {v : Value} {n : Nat} {xs : List Value} (h : w.ownsRow base e size v n xs) : ∃ a k c, v = .slice a k c := by
  obtain ⟨_, ⟨h2, _⟩ | ⟨g, cap, cur, h3, _⟩⟩ := h
  · exact ⟨_, _, _, h2⟩
  · exact ⟨_, _, _, h3⟩
/-- The answer so far: its block, its list, nothing below it turned. -/
structure Ic.Tw (w2 w : World) (ob : Nat) (sv : Value) (xs : List Int) : Prop where
  own : Own w ob 36 [.int .i64 0, sv]
  row : w.ownsRow (ob + 1) 2 1 sv xs.length (xs.map (Value.int .i64))
  bel : Below ob w2 w
theorem Ic.Tw.step {w2 w wA : World} {ob : Nat} {sv v : Value} {xs : List Int} {k : Int} {o : Obj} (h : Ic.Tw w2 w ob sv xs) (ho : wA.ownsRow (ob + 1) 2 1 v (xs.length + 1) (xs.map (Value.int .i64) ++ [.int .i64 k])) (hg : (w.alloc o).grownBy wA sv.ownBlock) :
    Own wA ob 36 [.int .i64 0, sv] ∧ Ic.Tw w2 (wA.setCell ⟨ob, 1, none⟩ v) ob v (xs ++ [k]) := by
  have hl := h.own.lt
  have b1 : Below (ob + 1) w wA := ((Below.refl (ob + 1) w).alloc (by omega) o).grown hg (by simp; omega) (ownsRow_base h.row)
  have oA : Own wA ob 36 [.int .i64 0, sv] := h.own.below b1 (by omega)
  refine ⟨oA, ⟨oA.set 1 v, Ic.owns_far (by rw [List.length_append, List.map_append]; exact ho) (by omega) _ _, (h.bel.trans (b1.mono (by omega))).setCell (Nat.le_refl _) _⟩⟩

set_option maxRecDepth 100000 in
set_option maxHeartbeats 8000000 in
theorem specTargetsOf_any (b : Nat) (l : List Ic) (rg : Int) (w : World) (hrow : Ic.Row w b l) (hb : b < w.heap.size) (hsz : ∀ i, i < l.length → (l.getD i Ic.zero).val.length ≤ 1048576) (hok : ∀ c ∈ l, c.ok) (hn : l.length ≤ 1048576) :
    Calls Tryd.prog 24 #[.slice (some ⟨b, 0, none⟩) l.length l.length, .int .i64 rg] w (Ic.ToSaid w l rg) := by
  obtain ⟨w0, hw0⟩ : ∃ w0, w0 = w.alloc (.cells #[.int .i64 0, .slice none 0 0] 36) := ⟨_, rfl⟩
  have B0 : Below w.heap.size w w0 := by rw [hw0]; exact (Below.refl _ _).alloc (Nat.le_refl _) _
  have O0 : Own w0 w.heap.size 36 [.int .i64 0, .slice none 0 0] := by rw [hw0]; exact ⟨_, heap_alloc_new _ _, rfl⟩
  have hs0 : w0.heap.size = w.heap.size + 1 := by rw [hw0]; simp
  have HC := hide (specCode_any b l rg w0 (hrow.below B0 hb) (Nat.lt_of_lt_of_le hb B0.size) hsz hok hn)
  have HBAD := hide (fun h => Ic.targets_bad (l := l) (rg := rg) h)
  have HOK := hide (fun (h : (Ic.fault l rg).1 = 0) => Ic.fault_parts h)
  have HOUT := hide (fun (h : (Ic.fault l rg).1 = 0) => Ic.targets_ok (l := l) (rg := rg) h)
  have HR := hide hrow
  have HS0 := hide hs0
  have HCF := hide (show ∀ e w', Ic.CfSaid w0 l rg e w' → e = .returned (.agg #[.int .i64 (Ic.fault l rg).1, .int .i64 (Ic.fault l rg).2, .slice none 0 0, .int .i64 0]) ∧ Below w0.heap.size w0 w' from fun e w' h => h)
  clear hrow hsz hok hs0
  obtain ⟨x, y, hxy⟩ : ∃ x y, Ic.fault l rg = (x, y) := ⟨_, _, rfl⟩
  rw [hxy] at HCF HBAD HOK HOUT
  clear hxy
  go_enter Tryd.func24, Tryd.ntmps24
  go_wp2_with fail
  rw [← hw0]
  clear hw0
  refine (unhide HC).mono ?_
  rintro e w2 hcf
  obtain ⟨rfl, hb2⟩ := (unhide HCF) e w2 hcf
  have BW2 : Below w.heap.size w w2 := B0.trans (hb2.mono B0.size)
  have O2 := O0.below hb2 O0.lt
  have hs2 : w.heap.size + 1 ≤ w2.heap.size := by have := hb2.size; have := unhide HS0; omega
  clear hcf HC HCF hb2 O0 B0
  have hfc := Ic.field_code x y
  by_cases hx : x = 0
  · subst hx
    obtain ⟨i0, hi, hz0, hz1, hz2⟩ := info_parts Tryd.info2
    obtain ⟨⟨hr0, hr1⟩, ⟨hl1, hl6⟩, hall, _⟩ := (unhide HOK) (by first | rfl | trivial)
    have fin := hide ((unhide HOUT) (by first | rfl | trivial))
    have HA := hide hall
    obtain ⟨ob, hob⟩ : ∃ ob, ob = w2.heap.size := ⟨_, rfl⟩
    obtain ⟨w3, hw3⟩ : ∃ w3, w3 = w2.alloc (.cells #[.int .i64 0, .slice none 0 0] 36) := ⟨_, rfl⟩
    have T0 := hide (show Ic.Tw w2 w3 ob (.slice none 0 0) (Ic.tg l 0) from ⟨by rw [hw3, hob]; exact ⟨_, heap_alloc_new _ _, rfl⟩, World.ownsRow_nil _ _ _ _, by rw [hw3, hob]; exact (Below.refl _ _).alloc (Nat.le_refl _) _⟩)
    have hob1 : w.heap.size + 1 ≤ ob := by omega
    have HOB := hide hob
    clear hall hob
    go_wp2_with fail
    rw [← hw3, ← unhide HOB]
    clear hw3
    go_loopg [7, 8] l.length (fun gh s7 s8 wr => ∃ (k : Nat) (sv : Value), Hid (gh = l.length - k) ∧ s7 = .int .i64 (k : Int) ∧ k ≤ l.length ∧ Hid (Ic.Tw w2 wr ob sv (Ic.tg l k)))
    case atStart => exact ⟨0, _, rfl, rfl, by omega, unhide T0⟩
    case round =>
      clear T0
      obtain ⟨k, sv, hg, rfl, hk, HW⟩ := hrel
      by_cases hlt : k < l.length
      · have hltI : (k : Int) < (l.length : Int) := by omega
        have hhit := hide (fun j (hj : Ic.hit l (k : Int) j = true) (hjl : j ≤ l.length) => show Ic.tg l (k + 1) = Ic.tg l k ++ [(k : Int)] by rw [Ic.tg, if_pos (Ic.hit_mono hj _ hjl)])
        have hmiss := hide (fun (hj : Ic.hit l (k : Int) l.length = false) => show Ic.tg l (k + 1) = Ic.tg l k by rw [Ic.tg, if_neg (by rw [hj]; decide), List.append_nil])
        have htl := Ic.tg_len l k
        go_wp2_with fail
        go_loopg [8] l.length (fun gh s8 wq => ∃ j : Nat, Hid (gh = l.length - j) ∧ s8 = .int .i64 (j : Int) ∧ j ≤ l.length ∧ Hid (Ic.hit l (k : Int) j = false) ∧ Hid (Ic.Tw w2 wq ob sv (Ic.tg l k)))
        case atStart => exact ⟨0, rfl, rfl, by omega, rfl, HW⟩
        case round =>
          clear HW
          obtain ⟨j, hgj, rfl, hj, hno, HW⟩ := hrel
          have BW : Below w.heap.size w wr := BW2.trans ((unhide HW).bel.mono (by omega))
          by_cases hjl : j < l.length
          · have hjI : (j : Int) < (l.length : Int) := by omega
            obtain ⟨f0, f1, vg, f2, hvg, hvr⟩ := ((unhide HR).below BW hb) j hjl
            have hh1 := hide (fun h1 h2 => Ic.hit_here (l := l) (p := (k : Int)) (k := j) h1 h2)
            have hh2 := hide (fun h => Ic.hit_not (l := l) (p := (k : Int)) (k := j) h)
            clear hvr f2 hvg
            generalize l.getD j Ic.zero = n at *
            obtain ⟨op, arg, nval⟩ := n
            dsimp only at *
            go_wp2_with fail
            refine (l8Jumps_any op _).mono ?_
            rintro e w4 ⟨rfl, hw4⟩
            rw [hw4]
            clear hw4
            cases hjp : Ic.jumps op with
            | false =>
              have hn2 := hide (show Ic.hit l (k : Int) (j + 1) = false by rw [(unhide hh2) (fun q => by rw [q.1] at hjp; cases hjp)]; exact hno.out)
              clear hh1 hh2 hno
              go_wp2_with fail
              go_roundg (l.length - (j + 1))
              case rel => exact ⟨j + 1, rfl, by go_num, by omega, unhide hn2, HW⟩
              case measure => have := hgj.out; omega
            | true =>
              by_cases hak : arg = (k : Int)
              · have htg := hide ((unhide hhit) (j + 1) ((unhide hh1) hjp hak) (by omega))
                have ga : (arg == (k : Int)) = true := by rw [hak]; simp
                have c1 := (unhide HW).own.cell 1
                simp only [List.getElem?_cons_zero, List.getElem?_cons_succ] at c1
                have hown1 := hide (fun o => (unhide HW).row.alloc o)
                have hone := hide (one_word wr (k : Int))
                have honep := hide (one_plain (k : Int))
                have hb63 : (Ic.tg l k).length + 1 ≤ maxLen := by unfold maxLen; omega
                have hby : ((Ic.tg l k).length + 1) * 8 ≤ 140737488355328 := by omega
                have hbase : ob + 1 ≤ wr.heap.size + 1 := by have := (unhide HW).own.lt; omega
                have HST := hide (fun (wA : World) (v : Value) (o : Obj) ho (hg : (wr.alloc o).grownBy wA sv.ownBlock) => (unhide HW).step (wA := wA) (v := v) (k := (k : Int)) (o := o) ho hg)
                clear hh1 hh2 hno hhit hmiss HW
                generalize Ic.tg l k = xs at *
                go_wp2_with (at_builtin; refine wpList_append_own _ rfl (.tmp 46) (.tmp 48) 34 rfl (ob + 1) 2 i0 (.int .i64 0) 1 8 Tryd.underlying34 hi hz0 hz1 hz2 rfl (by decide) _ xs.length _ rfl ((unhide hown1) _) ⟨wr.heap.size, 0, none⟩ 1 1 [.int .i64 (k : Int)] rfl rfl (unhide hone) (unhide honep) hb63 hby (by simpa using hbase) ?_)
                intro v' wA ho1 hg1 _
                obtain ⟨xa, xn, xc, rfl⟩ := Ic.owns_slice3 ho1
                obtain ⟨hoA, hTw⟩ := (unhide HST) wA _ _ ho1 hg1
                rw [← unhide htg] at hTw
                have HW2 := hide hTw
                have d0 := hoA.cell 0
                have d1 := hoA.cell 1
                have z0 := hoA.frozen 0
                have z1 := hoA.frozen 1
                simp only [List.getElem?_cons_zero, List.getElem?_cons_succ] at d0 d1
                clear hTw hoA ho1 hg1 HST hown1 hone honep htg
                go_wp2_with fail
                go_roundg (l.length - (k + 1))
                case rel => exact ⟨k + 1, _, rfl, by go_num, by omega, unhide HW2⟩
                case measure => have := hg.out; omega
              · have hn2 := hide (show Ic.hit l (k : Int) (j + 1) = false by rw [(unhide hh2) (fun q => hak q.2)]; exact hno.out)
                have ga : (arg == (k : Int)) = false := beq_eq_false_iff_ne.2 hak
                clear hh1 hh2 hno
                go_wp2_with fail
                go_roundg (l.length - (j + 1))
                case rel => exact ⟨j + 1, rfl, by go_num, by omega, unhide hn2, HW⟩
                case measure => have := hgj.out; omega
          · have hjE : ¬ (j : Int) < (l.length : Int) := by omega
            have hje : j = l.length := by omega
            have hm := hide ((unhide hmiss) (by rw [← hje]; exact hno.out))
            rw [← unhide hm] at HW
            clear hje hmiss hhit
            go_wp2_with fail
            go_roundg (l.length - (k + 1))
            case rel => exact ⟨k + 1, _, rfl, by go_num, by omega, HW⟩
            case measure => have := hg.out; omega
      · have hge : ¬ (k : Int) < (l.length : Int) := by omega
        have hke : k = l.length := by omega
        subst hke
        have htl := Ic.tg_len l l.length
        have R7 := hide ((resI_of_owns (unhide HW).row (by omega)).mono (show w.heap.size + 1 ≤ ob + 1 by omega))
        have BW7 : Below w.heap.size w wr := BW2.trans ((unhide HW).bel.mono (by omega))
        have O7 := O2.below (unhide HW).bel (by omega)
        obtain ⟨av, nv, cv, rfl⟩ := (unhide R7).shape
        have e0 := (unhide HW).own.cell 0
        have e1 := (unhide HW).own.cell 1
        have c0 := O7.cell 0
        have z0 := O7.frozen 0
        have c1 := O7.cell 1
        have z1 := O7.frozen 1
        simp only [List.getElem?_cons_zero, List.getElem?_cons_succ] at c0 c1 e0 e1
        clear O7 HW
        go_wp2_with fail
        refine bodyPost_ret (v := .agg #[.int .i64 0, .slice av nv cv]) (by simp [results, Tryd.results24, go_sem, c0, c1]; try rfl) rfl (Ic.to_of (unhide fin) (Ic.res2 (unhide R7) _ _) (Ic.sets2 BW7 _ _))
  · have g1 : (x != 0) = true := by simpa using hx
    have fin := hide ((unhide HBAD) hx)
    have c0 := O2.cell 0
    have z0 := O2.frozen 0
    have c1 := O2.cell 1
    have z1 := O2.frozen 1
    simp only [List.getElem?_cons_zero, List.getElem?_cons_succ] at c0 c1
    clear hx O2
    go_wp2_with fail
    refine bodyPost_ret (v := .agg #[.int .i64 x, .slice none 0 0]) (by simp [results, Tryd.results24, go_sem, c0, c1]; try rfl) rfl (Ic.to_of (unhide fin) (Ic.resI_none _ _) (Ic.sets2 BW2 _ _))

end Go.Proofs.YtfmljlhcaimafaaDoor
