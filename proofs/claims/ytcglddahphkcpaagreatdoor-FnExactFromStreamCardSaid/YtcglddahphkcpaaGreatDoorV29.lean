/-
  impl.PathFault and spec.PathFault, and what both ask ahead of a path.
-/
import Derived.Test.YtcglddahphkcpaaGreatDoorV05
import Derived.Test.YtcglddahphkcpaaGreatDoorV28
namespace Go.Proofs.YtcglddahphkcpaaGreatDoor
open Go.RowKit
set_option linter.unusedVariables false

theorem Row.tail {w : World} {b off : Nat} {p : List M.Cl} (h : Row w b off p) : Row w b (off + 5) (p.drop 1) := by
  intro i hi
  have hi' := hi
  rw [List.length_drop] at hi'
  have := h (i + 1) (by omega)
  rw [show off + (i + 1) * 5 = off + 5 + i * 5 by omega] at this
  rwa [show (p.drop 1).getD i M.zero = p.getD (i + 1) M.zero by rw [List.getD_eq_getElem?_getD, List.getD_eq_getElem?_getD, List.getElem?_drop, Nat.add_comm]]
theorem Row.none (w : World) (b off : Nat) : Row w b off [] := fun i hi => absurd hi (by simp)

set_option maxHeartbeats 400000 in
theorem stepsOf_any (p : List M.Cl) (b off cap : Nat) (w : World) (hl : 1 ≤ p.length) (hn : cap ≤ 9223372036854775807) (hcap : p.length ≤ cap) (hrow : Row w b off p) :
    Calls Tryz.prog 56 #[.slice (some ⟨b, off, none⟩) p.length cap] w fun e w' => ∃ o, e = .returned (.slice (some ⟨b, o, none⟩) (p.drop 1).length (cap - 1)) ∧ w' = w ∧ Row w b o (p.drop 1) := by
  have HD := hide (List.length_drop (i := 1) (l := p))
  have HR := hide hrow.tail
  have H0 := hide (show p.length = 1 → ∀ o, Row w b o (p.drop 1) from fun h o => by rw [List.drop_eq_nil_of_le (by omega)]; exact Row.none _ _ _)
  rw [unhide HD]
  clear hrow
  by_cases h1 : cap = 1
  · have e1 : p.length = 1 := by omega
    have HR0 := hide ((unhide H0) e1 off)
    clear HD HR H0
    subst h1
    rw [e1]
    clear e1 hl hcap
    go_enter Tryz.func56, Tryz.ntmps56
    go_wp2_with fail
    go_ret
    exact ⟨off, rfl, rfl, unhide HR0⟩
  · clear HD H0
    have h2 : 1 < cap := by omega
    clear h1
    go_enter Tryz.func56, Tryz.ntmps56
    go_wp2_with fail
    go_ret
    exact ⟨off + 5, rfl, rfl, unhide HR⟩

set_option maxRecDepth 100000 in
set_option maxHeartbeats 1000000 in
theorem implPathFault_any (p : List M.Cl) (b off cap : Nat) (w : World) (hrow : Row w b off p) (hb : b < w.heap.size) (hn : p.length ≤ 1048576) (hcap : p.length ≤ cap) (hc : cap ≤ 9223372036854775807) (hok : ∀ c ∈ p, c.ok) :
    Calls Tryz.prog 96 #[.slice (some ⟨b, off, none⟩) p.length cap] w fun e w' => e = .returned (.int .i64 (Pth.fault p)) ∧ Below w.heap.size w w' := by
  have HS := hide (fun w' (h : 1 ≤ p.length) r => stepsOf_any p b off cap w' h hc hcap r)
  go_enter Tryz.func96, Tryz.ntmps96
  go_wp2_with fail
  refine (implFault_any p b off cap _ hrow hb hn hcap hok).mono ?_
  rintro e w1 ⟨rfl, hb1⟩
  have hrow1 := hrow.below hb1 hb
  have hb1' : b < w1.heap.size := Nat.lt_of_lt_of_le hb hb1.size
  clear hok hrow
  generalize hq : M.valueFault p = q
  by_cases hz : q = 0
  · subst hz
    have hl1 := (Pth.lens hq).1
    have hl2 := (Pth.lens hq).2
    obtain ⟨f0, _, _, _, _⟩ := hrow1 0 (by omega)
    simp only [Nat.zero_mul, Nat.add_zero] at f0
    have FK := hide (Pth.fault_kind hq)
    have FS := hide (Pth.fault_step hq)
    have FO := hide (Pth.fault_ok hq)
    have HQ := hide hq
    clear hq
    by_cases hk : (p.getD 0 M.zero).kind = 5
    · have FS := hide ((unhide FS) hk)
      have FO := hide ((unhide FO) hk)
      rw [hk] at f0
      clear FK hk
      have HRW := hide hrow1
      clear hrow1
      go_wp2_with fail
      refine ((unhide HS) _ hl1 (unhide HRW)).mono ?_
      rintro e w2 ⟨o, rfl, hw2, hst⟩
      rw [hw2]
      clear hw2 w2 f0 HRW HS HQ
      have hcsl := List.length_drop (i := 1) (l := p)
      generalize p.drop 1 = cs at *
      have hm : cs.length ≤ 200 := by rw [hcsl]; omega
      clear hcsl
      go_wp2_with fail
      go_loopg [19] cs.length (fun g s19 wr => ∃ k : Nat, Hid (g = cs.length - k) ∧ s19 = .int .i64 k ∧ k ≤ cs.length ∧ Hid (∀ j, j < k → Pth.isStep (cs.getD j M.zero) = true) ∧ Below w.heap.size w wr ∧ Row wr b o cs ∧ b < wr.heap.size)
      case atStart => exact ⟨0, rfl, rfl, by omega, fun j hj => absurd hj (by omega), hb1, hst, hb1'⟩
      case round =>
        obtain ⟨k, hg, rfl, hk, hall, hbel, hrw, hbw⟩ := hrel
        by_cases hlt : k < cs.length
        · obtain ⟨g0, g1, g2, g3, g4⟩ := hrw k hlt
          have B2 := hide (fun x => hbel.alloc hbel.size x)
          have R2 := hide (fun x => hrw.below ((Below.refl wr.heap.size wr).alloc (Nat.le_refl _) x) hbw)
          have W2 := hide (show ∀ x, b < (wr.alloc x).heap.size from fun x => by simp; omega)
          have NO := hide (fun (h : Pth.isStep (cs.getD k M.zero) = false) => (unhide FS) (by
            rw [List.all_eq_false]
            refine ⟨cs.getD k M.zero, getD_mem cs k hlt, by rw [h]; exact Bool.false_ne_true⟩))
          have YES := hide (fun (h : Pth.isStep (cs.getD k M.zero) = true) => (show ∀ j, j < k + 1 → Pth.isStep (cs.getD j M.zero) = true from fun j hj => by
            by_cases e : j = k
            · rw [e]; exact h
            · exact hall.out j (by omega)))
          clear hall hbel hrw hbw FS FO
          generalize cs.getD k M.zero = c at *
          by_cases k4 : c.kind = 4
          · have Y := hide ((unhide YES) (by unfold Pth.isStep; simp [k4]))
            rw [k4] at g0
            clear k4 NO YES
            go_wp2_with fail
            go_roundg (cs.length - (k + 1))
            case rel => exact ⟨k + 1, rfl, by go_num, by omega, unhide Y, (unhide B2) _, (unhide R2) _, (unhide W2) _⟩
            case measure => have := hg.out; omega
          by_cases k3 : c.kind = 3
          · have Y := hide ((unhide YES) (by unfold Pth.isStep; simp [k3]))
            rw [k3] at g0
            clear k4 k3 NO YES
            go_wp2_with fail
            go_roundg (cs.length - (k + 1))
            case rel => exact ⟨k + 1, rfl, by go_num, by omega, unhide Y, (unhide B2) _, (unhide R2) _, (unhide W2) _⟩
            case measure => have := hg.out; omega
          · have fin := hide ((unhide NO) (by unfold Pth.isStep; simp [k3, k4]))
            have e4 : (c.kind == 4) = false := by simp [k4]
            have e3 : (c.kind == 3) = false := by simp [k3]
            have n4 : (c.kind != 4) = true := by simp [k4]
            have n3 : (c.kind != 3) = true := by simp [k3]
            generalize c.kind = kd at *
            clear k4 k3 NO YES
            go_wp2_with fail
            go_ret
            exact ⟨ret_int (unhide fin).symm, (unhide B2) _⟩
        · have hke : k = cs.length := by omega
          have fin := hide ((unhide FO) (by
            rw [List.all_eq_true]
            intro c hc
            obtain ⟨j, hj, rfl⟩ := List.getElem_of_mem hc
            have := hall.out j (by omega)
            rw [List.getD_eq_getElem?_getD, List.getElem?_eq_getElem hj] at this
            exact this))
          clear hke hall FS FO hrw
          go_wp2_with fail
          go_ret
          exact ⟨ret_int (unhide fin).symm, hbel⟩
    · have fin := hide ((unhide FK) hk)
      generalize (p.getD 0 M.zero).kind = kd at *
      have e5 : (kd == 5) = false := by simp [hk]
      clear FS FO FK hk hrow1
      go_wp2_with fail
      go_ret
      exact ⟨ret_int (unhide fin).symm, hb1⟩
  · have fin := hide ((Pth.fault_bad (by rw [hq]; exact hz)).trans hq)
    have hz' : (q == 0) = false := by simp [hz]
    clear hq hrow1
    go_wp2_with fail
    go_ret
    exact ⟨ret_int (unhide fin).symm, hb1⟩

/-- What spec.l13Path tells of a value. -/
theorem Pth.path_no {p : List M.Cl} (hv : M.valueFault p = 0) {k : Nat} (hk : k < M.arity p 0) (h : Pth.isStep (p.getD (M.iter p k 1) M.zero) = false) : (p.drop 1).all Pth.isStep = false := by
  by_cases e : (p.drop 1).all Pth.isStep = true
  · have hp := Pth.places hv e
    have := Pth.all_at e (i := k + 1) (by omega) (by omega)
    rw [← hp.2 k hk, h] at this
    cases this
  · simpa using e
theorem part_kind {v : List M.Cl} (hv : M.valueFault v = 0) {j : Nat} (hj : j < M.arity v 0) : ((subs v 0).getD j []).getD 0 M.zero = { v.getD (M.iter v j 1) M.zero with key := ByteArray.empty } ∧ 1 ≤ ((subs v 0).getD j []).length := by
  have hl := (Pth.lens hv).1
  have h1 := (M.places_in hv 0 (by omega)).1 j hj
  have h3 := (M.places_in hv 0 (by omega)).2.2.1
  simp only [Nat.zero_add] at h1
  obtain ⟨d, _, h5, h6, _⟩ := M.endOf_spec hv (M.iter v j 1) (by omega)
  rw [subs_getD' v j hj]
  unfold part
  generalize M.iter v j 1 = a at *
  have hcl := cut_length v a (M.endOf v a) h6
  have h0 := cut_getD v a (M.endOf v a) 0 (by omega)
  rw [setKey_length]
  generalize cut v a (M.endOf v a) = l at *
  cases l with
  | nil => simp at hcl; omega
  | cons c r =>
    rw [List.getD_cons_zero, Nat.add_zero] at h0
    refine ⟨?_, by simp⟩
    rw [← h0]
    rfl

set_option maxRecDepth 100000 in
set_option maxHeartbeats 1000000 in
theorem l13Path_any (p : List M.Cl) (b off cap : Nat) (w : World) (hv : M.valueFault p = 0) (hrow : Row w b off p) (hb : b < w.heap.size) (hcap : p.length ≤ cap) (hok : ∀ c ∈ p, c.ok) :
    Calls Tryz.prog 149 #[.slice (some ⟨b, off, none⟩) p.length cap] w fun e w' => e = .returned (.bool (decide (Pth.fault p = 0))) ∧ Below w.heap.size w w' := by
  have hl1 := (Pth.lens hv).1
  have HP := hide (fun w' r hb' => l1Parts_any p b off cap w' hv r hb' hcap hok)
  obtain ⟨f0, _, _, _, _⟩ := hrow 0 (by omega)
  simp only [Nat.zero_mul, Nat.add_zero] at f0
  have FK := hide (Pth.fault_kind hv)
  have FS := hide (fun k5 => fun (k : Nat) hk h => Pth.fault_step hv k5 (Pth.path_no (k := k) hv hk h))
  have FO := hide (fun k5 h => Pth.fault_ok hv k5 (Pth.all_of hv h))
  have hsl := hide (subs_length p 0)
  have hsm := hide (subs_all hv hok).1
  have hne := hide (subs_all hv hok).2.2.2
  have HPK := hide (fun (j : Nat) hj => part_kind hv (j := j) hj)
  clear hv hok
  by_cases hk : (p.getD 0 M.zero).kind = 5
  · have FS := hide ((unhide FS) hk)
    have FO := hide ((unhide FO) hk)
    rw [hk] at f0
    clear FK hk
    go_enter Tryz.func149, Tryz.ntmps149
    go_wp2_with fail
    refine ((unhide HP) _ hrow hb).mono ?_
    rintro e w1 ⟨s, rfl, hss, hb1⟩
    clear HP f0 hrow
    have hlv := hss.lv (unhide hne)
    clear hss hne
    have hmm : M.arity p 0 ≤ 200 := by rw [← unhide hsl]; exact unhide hsm
    have HSL := hide (unhide hsl)
    rw [unhide hsl] at hlv
    clear hsm
    generalize hm : M.arity p 0 = m at *
    clear hm
    obtain ⟨a, ca, rfl, hca, hlv⟩ := hlv
    have HLV := hide hlv
    clear hlv
    go_wp2_with fail
    go_loopg [4] m (fun g s4 wr => ∃ k : Nat, Hid (g = m - k) ∧ s4 = .int .i64 k ∧ k ≤ m ∧ Hid (∀ j, j < k → Pth.isStep (p.getD (M.iter p j 1) M.zero) = true) ∧ wr = w1)
    case atStart => exact ⟨0, rfl, rfl, by omega, fun j hj => absurd hj (by omega), rfl⟩
    case round =>
      obtain ⟨k, hg, rfl, hk, hall, rfl⟩ := hrel
      by_cases hlt : k < m
      · obtain ⟨g, bk, ok, ck, rfl, hgl, f0, hck, hbk, hrk⟩ := (unhide HLV) k (by rw [unhide hsl]; exact hlt)
        have hpk := (unhide HPK) k hlt
        obtain ⟨x0, _, _, _, _⟩ := hrk 0 hpk.2
        rw [hpk.1] at x0
        simp only [Nat.zero_mul, Nat.add_zero] at x0
        have hp1 := hpk.2
        clear hpk
        generalize (subs p 0).getD k [] = q at *
        have NO := hide (fun (h : Pth.isStep (p.getD (M.iter p k 1) M.zero) = false) => (unhide FS) k hlt h)
        have YES := hide (fun (h : Pth.isStep (p.getD (M.iter p k 1) M.zero) = true) => (show ∀ j, j < k + 1 → Pth.isStep (p.getD (M.iter p j 1) M.zero) = true from fun j hj => by
          by_cases e : j = k
          · rw [e]; exact h
          · exact hall.out j (by omega)))
        clear hall FS FO HPK hrk
        generalize p.getD (M.iter p k 1) M.zero = c at *
        by_cases k4 : c.kind = 4
        · have Y := hide ((unhide YES) (by unfold Pth.isStep; simp [k4]))
          rw [k4] at x0
          clear k4 NO YES
          go_wp2_with fail
          go_roundg (m - (k + 1))
          case rel => exact ⟨k + 1, rfl, by go_num, by omega, unhide Y, rfl⟩
          case measure => have := hg.out; omega
        by_cases k3 : c.kind = 3
        · have Y := hide ((unhide YES) (by unfold Pth.isStep; simp [k3]))
          rw [k3] at x0
          clear k4 k3 NO YES
          go_wp2_with fail
          go_roundg (m - (k + 1))
          case rel => exact ⟨k + 1, rfl, by go_num, by omega, unhide Y, rfl⟩
          case measure => have := hg.out; omega
        · have fin := hide ((unhide NO) (by unfold Pth.isStep; simp [k3, k4]))
          have n4 : (c.kind != 4) = true := by simp [k4]
          have n3 : (c.kind != 3) = true := by simp [k3]
          have e4 : (c.kind == 4) = false := by simp [k4]
          have e3 : (c.kind == 3) = false := by simp [k3]
          generalize c.kind = kd at *
          clear k4 k3 NO YES
          go_wp2_with fail
          go_ret
          exact ⟨ret_bool (by rw [unhide fin]; rfl), hb1⟩
      · have hke : k = m := by omega
        have fin := hide ((unhide FO) (fun j hj => hall.out j (by omega)))
        clear hke hall FS FO HPK
        go_wp2_with fail
        go_ret
        exact ⟨ret_bool (by rw [unhide fin]; rfl), hb1⟩
  · have fin := hide ((unhide FK) hk)
    generalize (p.getD 0 M.zero).kind = kd at *
    have e5 : (kd == 5) = false := by simp [hk]
    clear FS FO FK hk hrow HP HPK
    go_enter Tryz.func149, Tryz.ntmps149
    go_wp2_with fail
    go_ret
    exact ⟨ret_bool (by rw [unhide fin]; rfl), Below.refl _ _⟩

theorem specPathFault_any (p : List M.Cl) (b off cap : Nat) (w : World) (hrow : Row w b off p) (hb : b < w.heap.size) (hn : p.length ≤ 1048576) (hcap : p.length ≤ cap) (hok : ∀ c ∈ p, c.ok) :
    Calls Tryz.prog 87 #[.slice (some ⟨b, off, none⟩) p.length cap] w fun e w' => e = .returned (.int .i64 (Pth.fault p)) ∧ Below w.heap.size w w' := by
  have HP := hide (fun w' hv r hb' => l13Path_any p b off cap w' hv r hb' hcap hok)
  go_enter Tryz.func87, Tryz.ntmps87
  go_wp2_with fail
  refine (specFault_any p b off cap _ hrow hb hn hcap hok).mono ?_
  rintro e w1 ⟨rfl, hb1⟩
  have hrow1 := hrow.below hb1 hb
  have hb1' : b < w1.heap.size := Nat.lt_of_lt_of_le hb hb1.size
  clear hok hrow
  generalize hq : M.valueFault p = q
  by_cases hz : q = 0
  · subst hz
    have HC := hide ((unhide HP) w1 hq hrow1 hb1')
    have h6 : Pth.fault p = 0 ∨ Pth.fault p = 6 := by unfold Pth.fault; rw [if_neg (by simp [hq])]; split <;> (try split) <;> simp
    clear HP hrow1 hq
    generalize hr : Pth.fault p = r at *
    have fin := hide hr
    clear hr
    rcases h6 with rfl | rfl
    · go_wp2_with fail
      refine (unhide HC).mono ?_
      rintro e w2 ⟨rfl, hb2⟩
      have B2 := hb1.trans (hb2.mono hb1.size)
      clear hb2 HC
      go_wp2_with fail
      go_ret
      exact ⟨ret_int (unhide fin).symm, B2⟩
    · go_wp2_with fail
      refine (unhide HC).mono ?_
      rintro e w2 ⟨rfl, hb2⟩
      have B2 := hb1.trans (hb2.mono hb1.size)
      clear hb2 HC
      go_wp2_with fail
      go_ret
      exact ⟨ret_int (unhide fin).symm, B2⟩
  · have fin := hide ((Pth.fault_bad (by rw [hq]; exact hz)).trans hq)
    have hz' : (q == 0) = false := by simp [hz]
    clear hq hrow1 HP
    go_wp2_with fail
    go_ret
    exact ⟨ret_int (unhide fin).symm, hb1⟩

theorem pathedFault_any (v : List M.Cl) (b off cap : Nat) (p : List M.Cl) (b' off' cap' : Nat) (w : World) (hrow : Row w b off v) (hb : b < w.heap.size) (hn : v.length ≤ 1048576) (hcap : v.length ≤ cap) (hok : ∀ c ∈ v, c.ok) (hrow' : Row w b' off' p) (hb' : b' < w.heap.size) (hn' : p.length ≤ 1048576) (hcap' : p.length ≤ cap') (hc : cap' ≤ 9223372036854775807) (hok' : ∀ c ∈ p, c.ok) :
    Calls Tryz.prog 79 #[.slice (some ⟨b, off, none⟩) v.length cap, .slice (some ⟨b', off', none⟩) p.length cap'] w fun e w' => e = .returned (.int .i64 (Pth.asked v p)) ∧ Below w.heap.size w w' := by
  have HP := hide (fun w' r hb'' => implPathFault_any p b' off' cap' w' r hb'' hn' hcap' hc hok')
  go_enter Tryz.func79, Tryz.ntmps79
  go_wp2_with fail
  refine (implFault_any v b off cap _ hrow hb hn hcap hok).mono ?_
  rintro e w1 ⟨rfl, hb1⟩
  have hrow1 := hide (hrow'.below hb1 hb')
  have hb1' : b' < w1.heap.size := Nat.lt_of_lt_of_le hb' hb1.size
  clear hok hrow hok' hrow'
  generalize hq : M.valueFault v = q
  by_cases hz : q = 0
  · subst hz
    have fin := hide (Pth.asked_ok (p := p) hq)
    clear hq
    generalize Pth.fault p = r at *
    go_wp2_with fail
    refine ((unhide HP) _ (unhide hrow1) hb1').mono ?_
    rintro e w2 ⟨rfl, hb2⟩
    have B2 := hb1.trans (hb2.mono hb1.size)
    clear hb2 HP
    go_wp2_with fail
    go_ret
    exact ⟨ret_int (unhide fin).symm, B2⟩
  · have fin := hide ((Pth.asked_bad (p := p) (by rw [hq]; exact hz)).trans hq)
    have hz' : (q == 0) = false := by simp [hz]
    clear hq hrow1 HP
    go_wp2_with fail
    go_ret
    exact ⟨ret_int (unhide fin).symm, hb1⟩

end Go.Proofs.YtcglddahphkcpaaGreatDoor
