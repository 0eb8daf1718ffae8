/-
  impl.PathFault and spec.PathFault, and what both ask ahead of a path.
  slices.Clone and impl.areBoth.
  A drawn region whose last operation breaks what held till then: an order of operations, where S holds behind each operation that is carried out ahead of number z. No word of the program is used here.
  A call in a drawn region, the only operation that may come up. No word of the program is used here.
  impl.GetPath and spec.GetPath.
-/
import Derived.Test.YtcglddahphkcpaaGreatDoorU00
import Derived.Test.YtcglddahphkcpaaGreatDoorU06
import Derived.Test.YtcglddahphkcpaaGreatDoorU18
import Derived.Test.YtcglddahphkcpaaGreatDoorU19
import Derived.BigQuiet
import Derived.Deep.Cut
import Derived.Deep.CutRange
import Derived.Deep.RegionHeld
import Derived.Lib.SliceRun
namespace Go.Proofs.YtcglddahphkcpaaGreatDoor
open Go.RowKit
set_option linter.unusedVariables false

theorem Row.tail {w : World} {b off : Nat} {p : List M.Cl} (h : Row w b off p) : Row w b (off + 5) (p.drop 1) := by
  intro i hi
  have hi' := hi
  rw [List.length_drop] at hi'
  have := h (i + 1) (by omega)
  rw [show off + (i + 1) * 5 = off + 5 + i * 5 by omega] at this
  rwa [show (p.drop 1).getD i M.zero = p.getD (i + 1) M.zero by rw [List.getD_eq_getElem?_getD, List.getD_eq_getElem?_getD, List.getElem?_drop, Nat.add_comm]]
theorem Row.none (w : World) (b off : Nat) : Row w b off [] := fun i hi => absurd hi (by simp)

set_option maxHeartbeats 400000 in
theorem stepsOf_any (p : List M.Cl) (b off cap : Nat) (w : World) (hl : 1 ≤ p.length) (hn : cap ≤ 9223372036854775807) (hcap : p.length ≤ cap) (hrow : Row w b off p) :
    Calls Tryz.prog 56 #[.slice (some ⟨b, off, none⟩) p.length cap] w fun e w' => ∃ o, e = .returned (.slice (some ⟨b, o, none⟩) (p.drop 1).length (cap - 1)) ∧ w' = w ∧ Row w b o (p.drop 1) := by
  have HD := hide (List.length_drop (i := 1) (l := p))
  have HR := hide hrow.tail
  have H0 := hide (show p.length = 1 → ∀ o, Row w b o (p.drop 1) from fun h o => by rw [List.drop_eq_nil_of_le (by omega)]; exact Row.none _ _ _)
  rw [unhide HD]
  clear hrow
  by_cases h1 : cap = 1
  · have e1 : p.length = 1 := by omega
    have HR0 := hide ((unhide H0) e1 off)
    clear HD HR H0
    subst h1
    rw [e1]
    clear e1 hl hcap
    go_enter Tryz.func56, Tryz.ntmps56
    go_wp2_with fail
    go_ret
    exact ⟨off, rfl, rfl, unhide HR0⟩
  · clear HD H0
    have h2 : 1 < cap := by omega
    clear h1
    go_enter Tryz.func56, Tryz.ntmps56
    go_wp2_with fail
    go_ret
    exact ⟨off + 5, rfl, rfl, unhide HR⟩

set_option maxRecDepth 100000 in
set_option maxHeartbeats 1000000 in
theorem implPathFault_any (p : List M.Cl) (b off cap : Nat) (w : World) (hrow : Row w b off p) (hb : b < w.heap.size) (hn : p.length ≤ 1048576) (hcap : p.length ≤ cap) (hc : cap ≤ 9223372036854775807) (hok : ∀ c ∈ p, c.ok) :
    Calls Tryz.prog 96 #[.slice (some ⟨b, off, none⟩) p.length cap] w fun e w' => e = .returned (.int .i64 (Pth.fault p)) ∧ Below w.heap.size w w' := by
  have HS := hide (fun w' (h : 1 ≤ p.length) r => stepsOf_any p b off cap w' h hc hcap r)
  go_enter Tryz.func96, Tryz.ntmps96
  go_wp2_with fail
  refine (implFault_any p b off cap _ hrow hb hn hcap hok).mono ?_
  rintro e w1 ⟨rfl, hb1⟩
  have hrow1 := hrow.below hb1 hb
  have hb1' : b < w1.heap.size := Nat.lt_of_lt_of_le hb hb1.size
  clear hok hrow
  generalize hq : M.valueFault p = q
  by_cases hz : q = 0
  · subst hz
    have hl1 := (Pth.lens hq).1
    have hl2 := (Pth.lens hq).2
    obtain ⟨f0, _, _, _, _⟩ := hrow1 0 (by omega)
    simp only [Nat.zero_mul, Nat.add_zero] at f0
    have FK := hide (Pth.fault_kind hq)
    have FS := hide (Pth.fault_step hq)
    have FO := hide (Pth.fault_ok hq)
    have HQ := hide hq
    clear hq
    by_cases hk : (p.getD 0 M.zero).kind = 5
    · have FS := hide ((unhide FS) hk)
      have FO := hide ((unhide FO) hk)
      rw [hk] at f0
      clear FK hk
      have HRW := hide hrow1
      clear hrow1
      go_wp2_with fail
      refine ((unhide HS) _ hl1 (unhide HRW)).mono ?_
      rintro e w2 ⟨o, rfl, hw2, hst⟩
      rw [hw2]
      clear hw2 w2 f0 HRW HS HQ
      have hcsl := List.length_drop (i := 1) (l := p)
      generalize p.drop 1 = cs at *
      have hm : cs.length ≤ 200 := by rw [hcsl]; omega
      clear hcsl
      go_wp2_with fail
      go_loopg [19] cs.length (fun g s19 wr => ∃ k : Nat, Hid (g = cs.length - k) ∧ s19 = .int .i64 k ∧ k ≤ cs.length ∧ Hid (∀ j, j < k → Pth.isStep (cs.getD j M.zero) = true) ∧ Below w.heap.size w wr ∧ Row wr b o cs ∧ b < wr.heap.size)
      case atStart => exact ⟨0, rfl, rfl, by omega, fun j hj => absurd hj (by omega), hb1, hst, hb1'⟩
      case round =>
        obtain ⟨k, hg, rfl, hk, hall, hbel, hrw, hbw⟩ := hrel
        by_cases hlt : k < cs.length
        · obtain ⟨g0, g1, g2, g3, g4⟩ := hrw k hlt
          have B2 := hide (fun x => hbel.alloc hbel.size x)
          have R2 := hide (fun x => hrw.below ((Below.refl wr.heap.size wr).alloc (Nat.le_refl _) x) hbw)
          have W2 := hide (show ∀ x, b < (wr.alloc x).heap.size from fun x => by simp; omega)
          have NO := hide (fun (h : Pth.isStep (cs.getD k M.zero) = false) => (unhide FS) (by
            rw [List.all_eq_false]
            refine ⟨cs.getD k M.zero, getD_mem cs k hlt, by rw [h]; exact Bool.false_ne_true⟩))
          have YES := hide (fun (h : Pth.isStep (cs.getD k M.zero) = true) => (show ∀ j, j < k + 1 → Pth.isStep (cs.getD j M.zero) = true from fun j hj => by
            by_cases e : j = k
            · rw [e]; exact h
            · exact hall.out j (by omega)))
          clear hall hbel hrw hbw FS FO
          generalize cs.getD k M.zero = c at *
          by_cases k4 : c.kind = 4
          · have Y := hide ((unhide YES) (by unfold Pth.isStep; simp [k4]))
            rw [k4] at g0
            clear k4 NO YES
            go_wp2_with fail
            go_roundg (cs.length - (k + 1))
            case rel => exact ⟨k + 1, rfl, by go_num, by omega, unhide Y, (unhide B2) _, (unhide R2) _, (unhide W2) _⟩
            case measure => have := hg.out; omega
          by_cases k3 : c.kind = 3
          · have Y := hide ((unhide YES) (by unfold Pth.isStep; simp [k3]))
            rw [k3] at g0
            clear k4 k3 NO YES
            go_wp2_with fail
            go_roundg (cs.length - (k + 1))
            case rel => exact ⟨k + 1, rfl, by go_num, by omega, unhide Y, (unhide B2) _, (unhide R2) _, (unhide W2) _⟩
            case measure => have := hg.out; omega
          · have fin := hide ((unhide NO) (by unfold Pth.isStep; simp [k3, k4]))
            have e4 : (c.kind == 4) = false := by simp [k4]
            have e3 : (c.kind == 3) = false := by simp [k3]
            have n4 : (c.kind != 4) = true := by simp [k4]
            have n3 : (c.kind != 3) = true := by simp [k3]
            generalize c.kind = kd at *
            clear k4 k3 NO YES
            go_wp2_with fail
            go_ret
            exact ⟨ret_int (unhide fin).symm, (unhide B2) _⟩
        · have hke : k = cs.length := by omega
          have fin := hide ((unhide FO) (by
            rw [List.all_eq_true]
            intro c hc
            obtain ⟨j, hj, rfl⟩ := List.getElem_of_mem hc
            have := hall.out j (by omega)
            rw [List.getD_eq_getElem?_getD, List.getElem?_eq_getElem hj] at this
            exact this))
          clear hke hall FS FO hrw
          go_wp2_with fail
          go_ret
          exact ⟨ret_int (unhide fin).symm, hbel⟩
    · have fin := hide ((unhide FK) hk)
      generalize (p.getD 0 M.zero).kind = kd at *
      have e5 : (kd == 5) = false := by simp [hk]
      clear FS FO FK hk hrow1
      go_wp2_with fail
      go_ret
      exact ⟨ret_int (unhide fin).symm, hb1⟩
  · have fin := hide ((Pth.fault_bad (by rw [hq]; exact hz)).trans hq)
    have hz' : (q == 0) = false := by simp [hz]
    clear hq hrow1
    go_wp2_with fail
    go_ret
    exact ⟨ret_int (unhide fin).symm, hb1⟩

theorem pathedFault_any (v : List M.Cl) (b off cap : Nat) (p : List M.Cl) (b' off' cap' : Nat) (w : World) (hrow : Row w b off v) (hb : b < w.heap.size) (hn : v.length ≤ 1048576) (hcap : v.length ≤ cap) (hok : ∀ c ∈ v, c.ok) (hrow' : Row w b' off' p) (hb' : b' < w.heap.size) (hn' : p.length ≤ 1048576) (hcap' : p.length ≤ cap') (hc : cap' ≤ 9223372036854775807) (hok' : ∀ c ∈ p, c.ok) :
    Calls Tryz.prog 79 #[.slice (some ⟨b, off, none⟩) v.length cap, .slice (some ⟨b', off', none⟩) p.length cap'] w fun e w' => e = .returned (.int .i64 (Pth.asked v p)) ∧ Below w.heap.size w w' := by
  have HP := hide (fun w' r hb'' => implPathFault_any p b' off' cap' w' r hb'' hn' hcap' hc hok')
  go_enter Tryz.func79, Tryz.ntmps79
  go_wp2_with fail
  refine (implFault_any v b off cap _ hrow hb hn hcap hok).mono ?_
  rintro e w1 ⟨rfl, hb1⟩
  have hrow1 := hide (hrow'.below hb1 hb')
  have hb1' : b' < w1.heap.size := Nat.lt_of_lt_of_le hb' hb1.size
  clear hok hrow hok' hrow'
  generalize hq : M.valueFault v = q
  by_cases hz : q = 0
  · subst hz
    have fin := hide (Pth.asked_ok (p := p) hq)
    clear hq
    generalize Pth.fault p = r at *
    go_wp2_with fail
    refine ((unhide HP) _ (unhide hrow1) hb1').mono ?_
    rintro e w2 ⟨rfl, hb2⟩
    have B2 := hb1.trans (hb2.mono hb1.size)
    clear hb2 HP
    go_wp2_with fail
    go_ret
    exact ⟨ret_int (unhide fin).symm, B2⟩
  · have fin := hide ((Pth.asked_bad (p := p) (by rw [hq]; exact hz)).trans hq)
    have hz' : (q == 0) = false := by simp [hz]
    clear hq hrow1 HP
    go_wp2_with fail
    go_ret
    exact ⟨ret_int (unhide fin).symm, hb1⟩

end Go.Proofs.YtcglddahphkcpaaGreatDoor

namespace Go.Proofs.YtcglddahphkcpaaGreatDoor
open Go.RowKit
set_option linter.unusedVariables false

set_option maxRecDepth 100000 in
set_option maxHeartbeats 1000000 in
theorem clone_any (l : List M.Cl) (b off cap : Nat) (w : World) (hrow : Row w b off l) (hb : b < w.heap.size) (hn : l.length ≤ 1048576) :
    Calls Tryz.prog 138 #[.slice (some ⟨b, off, none⟩) l.length cap] w fun e w' => ∃ s, e = .returned s ∧ Res w' w.heap.size s l ∧ Below w.heap.size w w' := by
  obtain ⟨i0, hi, hz0, hz1, hz2⟩ := info_parts Tryz.info111
  have hnews := hide (fun o => row_words (hrow.below ((Below.refl w.heap.size w).alloc (Nat.le_refl _) o) hb))
  have hone := hide (flat_one l)
  have HFL := hide (flat_length l)
  have hoe := hide (owns_empty5 w 111)
  have hb63 : 0 + l.length ≤ maxLen := by unfold maxLen; omega
  have hby : (0 + l.length) * 56 ≤ 140737488355328 := by omega
  have heq : ∀ w', (binOp .eql 24 (.slice (some ⟨b, off, none⟩) l.length cap) (.slice none 0 0)).run Tryz.prog w' = .ok (.bool false) w' := fun w' => Lib.run_eql_slice_nil w' 24 111 (some ⟨b, off, none⟩) l.length cap 0 0 Tryz.underlying24
  go_enter Tryz.func138, Tryz.ntmps138
  go_wp2_with (at_builtin; refine wpList_append_own _ rfl (.tmp 5) (.tmp 6) 24 rfl w.heap.size 111 i0 _ 5 56 Tryz.underlying24 hi hz0 hz1 hz2 rfl (by decide) _ 0 [] rfl (unhide hoe) ⟨b, off, none⟩ l.length cap (flat l) rfl (unhide HFL) ((unhide hnews) _) (unhide hone) hb63 hby (by simp) ?_)
  intro v' w' ho hg _
  have hB : Below w.heap.size w w' := ((Below.refl _ w).alloc (Nat.le_refl _) _).grown hg (by simp) (fun q hq => by simp only [Value.ownBlock, Option.some.injEq] at hq; omega)
  have hr := hide (res_of_owns (l := l) (by simpa using ho) hn)
  clear ho hg
  go_wp2_with fail
  go_ret
  exact ⟨_, rfl, unhide hr, hB⟩

end Go.Proofs.YtcglddahphkcpaaGreatDoor

namespace Go.Proofs.YtcglddahphkcpaaGreatDoor
open Go.RowKit
set_option linter.unusedVariables false
namespace Z
section
variable {P : Program} {ops : Array Oper} {Q : Exit → Act → World → Prop} {md : Region.Mode} {S : World → Prop} {z : Nat}

/-- Whatever order is picked from here on; behind every operation S holds, as long as z has not come up. -/
def any (P : Program) (md : Region.Mode) (ops : Array Oper) (Q : Exit → Act → World → Prop) (S : World → Prop) (z : Nat) : Nat → Array Bool → Act → World → Prop
  | 0, listed, a, w => Region.ready md ops listed = [] ∧ Q .normal a w
  | fuel + 1, listed, a, w =>
    (Region.ready md ops listed = [] → Q .normal a w) ∧
    ∀ i ∈ Region.ready md ops listed, wpOp P ops Q i (fun a' w' => (i ≠ z → S w') ∧ any P md ops Q S z fuel (listed.setIfInBounds i true) a' w') a w

theorem any_is : ∀ (fuel : Nat) (listed : Array Bool) (a : Act) (w : World), any P md ops Q S z fuel listed a w → wpAny P md ops Q fuel listed a w
  | 0, _, _, _, h => h
  | fuel + 1, _, _, _, h => ⟨h.1, fun i hi => wpOp_mono (fun a' w' h' => any_is fuel _ a' w' h'.2) (h.2 i hi)⟩

/-- z waits for i. -/
def waits (md : Region.Mode) (ops : Array Oper) (z i : Nat) : Bool := match ops[z]? with
  | some oz => oz.after.any fun e => Region.binds md e && e.on == i
  | none => false

/-- Two that may both come up: neither waits for the other. -/
theorem both_up {listed : Array Bool} {i j : Nat} (hi : i ∈ Region.ready md ops listed) (hj : j ∈ Region.ready md ops listed) :
    ∃ oj, ops[j]? = some oj ∧ listed.getD j true = false ∧ ∀ e ∈ oj.after, Region.binds md e = true → e.on ≠ i := by
  obtain ⟨u, o, ho, hall⟩ := mem_ready.1 hj
  refine ⟨o, ho, u, ?_⟩
  rintro e he hb rfl
  have x := hall e he hb
  have y := (mem_ready.1 hi).1
  cases q : listed[e.on]? with
  | none => simp [q] at x
  | some t => cases t <;> simp [q] at x y
/-- Whatever has not come up and does not wait for i is apart from it. -/
def Apart (md : Region.Mode) (ops : Array Oper) (i : Nat) (oi : Oper) (listed : Array Bool) : Prop :=
  ∀ j oj, ops[j]? = some oj → j ≠ i → listed.getD j true = false → (∀ e ∈ oj.after, Region.binds md e = true → e.on ≠ i) → oi.apart ops oj = true
theorem Apart.more {i : Nat} {oi : Oper} {listed : Array Bool} (h : Apart md ops i oi listed) (j : Nat) (hj : listed.getD j true = false) : Apart md ops i oi (listed.setIfInBounds j true) := by
  intro k ok hk hki hun
  rcases Nat.decEq j k with hjk | rfl
  · exact h k ok hk hki (by rwa [getD_set_ne true hjk] at hun)
  · exact h j ok hk hki hj

theorem first {i : Nat} {oi : Oper} {v : Value} (hi : ops[i]? = some oi) (hsel : ∀ (j : Nat) (o : Oper) cs b, ops[j]? = some o → o.op ≠ .select cs b)
    (hQ : ∀ c a w, Q (.panic c) (a.put oi.dst v) w → Q (.panic c) a w) (hz : waits md ops z i = true) (fuel : Nat) :
    ∀ (listed : Array Bool) (a : Act) (w : World), Apart md ops i oi listed → i ∈ Region.ready md ops listed → YieldsIf P ops S oi v a → S w →
      any P md ops Q S z fuel (listed.setIfInBounds i true) (a.put oi.dst v) w → any P md ops Q S z (fuel + 1) listed a w := by
  induction fuel with
  | zero =>
    intro listed a w _ up hy hS H
    refine ⟨fun none => absurd up (by rw [none]; simp), fun j hj => ?_⟩
    rcases Nat.decEq j i with ne | rfl
    · exact absurd (ready_mono hj ne) (by rw [H.1]; simp)
    · exact hy.wpOp hi hS ⟨fun _ => hS, H⟩
  | succ fuel ih =>
    intro listed a w hap up hy hS H
    refine ⟨fun none => absurd up (by rw [none]; simp), fun j hj => ?_⟩
    rcases Nat.decEq j i with ne | rfl
    · obtain ⟨oj, hoj, hun, hno⟩ := both_up up hj
      have hjz : j ≠ z := by
        rintro rfl
        unfold waits at hz
        rw [hoj] at hz
        simp only [Array.any_eq_true', Bool.and_eq_true, beq_iff_eq] at hz
        obtain ⟨e, he, hb, ho⟩ := hz
        exact hno e he hb ho
      have step := wpOp_putIf hoj (hap j oj hoj ne hun hno) (fun cs b => hsel i oi cs b hi) (fun cs b => hsel j oj cs b hoj) hQ hy (H.2 j (ready_mono hj ne))
      refine wpOp_mono (fun a' w' ⟨y', s', rest⟩ => ⟨s', ih _ a' w' (hap.more j hun) (ready_mono up (Ne.symm ne)) y' (s' hjz) ?_⟩) step
      rwa [Array.setIfInBounds_comm _ _ ne]
    · exact hy.wpOp hi hS ⟨fun _ => hS, H⟩

/-- An operation that only reads, taken first. -/
theorem take {i d : Nat} {oi : Oper} {v : Value} {fuel : Nat} {listed : Array Bool} {a : Act} {w : World} (hi : ops[i]? = some oi) (hd : oi.dst = some d)
    (hs : Region.noSelect ops = true) (hf : Region.free md ops listed i = true) (hr : (Region.ready md ops listed).contains i = true) (hz : waits md ops z i = true)
    (hQ : ∀ c a w, Q (.panic c) (a.put (some d) v) w → Q (.panic c) a w) (hy : YieldsIf P ops S oi v a) (hS : S w)
    (h : any P md ops Q S z fuel (listed.setIfInBounds i true) (a.put (some d) v) w) : any P md ops Q S z (fuel + 1) listed a w :=
  first hi (Region.noSelect_spec hs) (by rw [hd]; exact hQ) hz fuel listed a w (Region.free_spec hi hf) (by simpa using hr) hy hS (by rw [hd]; exact h)

/-- Each of those that may come up comes up next. -/
def All (P : Program) (md : Region.Mode) (ops : Array Oper) (Q : Exit → Act → World → Prop) (S : World → Prop) (z : Nat) (fuel : Nat) (listed : Array Bool) (a : Act) (w : World) (rs : List Nat) : Prop :=
  ∀ i ∈ rs, wpOp P ops Q i (fun a' w' => (i ≠ z → S w') ∧ any P md ops Q S z fuel (listed.setIfInBounds i true) a' w') a w
theorem All.nil {fuel : Nat} {listed : Array Bool} {a : Act} {w : World} : All P md ops Q S z fuel listed a w [] := fun _ h => by cases h
theorem All.cons {fuel : Nat} {listed : Array Bool} {a : Act} {w : World} {i : Nat} {o : Oper} {rs : List Nat} (ho : ops[i]? = some o)
    (h : ∀ K' : Act → World → Prop, Shut (∀ a w, (i ≠ z → S w) → any P md ops Q S z fuel (listed.setIfInBounds i true) a w → K' a w) → if Region.wanted o (yielded ops a.tmps) = true then Oper.wp P o a w K' Q else K' (a.put o.dst undef) w)
    (hs : All P md ops Q S z fuel listed a w rs) : All P md ops Q S z fuel listed a w (i :: rs) := fun j hj => by
  rcases List.mem_cons.1 hj with rfl | hj
  · exact wpOp_step ho (fun K' hK => h K' (fun a w hS hW => hK a w ⟨hS, hW⟩))
  · exact hs j hj
theorem ready {rs : List Nat} {fuel : Nat} {listed : Array Bool} {a : Act} {w : World} (hr : Region.ready md ops listed = rs) (hne : rs ≠ [])
    (h : All P md ops Q S z fuel listed a w rs) : any P md ops Q S z (fuel + 1) listed a w := ⟨fun h0 => absurd (hr ▸ h0) hne, hr ▸ h⟩
theorem done {listed : Array Bool} {a : Act} {w : World} (hr : Region.ready md ops listed = []) (h : Q .normal a w) : ∀ fuel, any P md ops Q S z fuel listed a w
  | 0 => ⟨hr, h⟩
  | _ + 1 => ⟨fun _ => h, by rw [hr]; simp⟩
/-- An operation of those that may come up, run to its end in the world at hand. -/
theorem run_cons {i : Nat} {oi : Oper} {fuel : Nat} {listed : Array Bool} {a a' : Act} {w w' : World} {rs : List Nat} (hi : ops[i]? = some oi)
    (hw : Region.wanted oi (yielded ops a.tmps) = true) (hrun : ∀ K : Act → World → Prop, Shut (K a' w') → Oper.wp P oi a w K Q) (hS : i ≠ z → S w')
    (h : any P md ops Q S z fuel (listed.setIfInBounds i true) a' w') (hs : All P md ops Q S z fuel listed a w rs) : All P md ops Q S z fuel listed a w (i :: rs) :=
  All.cons hi (fun K hK => by
    rw [if_pos hw]
    exact hrun K (hK.out _ _ hS h)) hs
theorem val_cons {i d : Nat} {oi : Oper} {v : Value} {fuel : Nat} {listed : Array Bool} {a : Act} {w w' : World} {rs : List Nat} (hi : ops[i]? = some oi)
    (hw : Region.wanted oi (yielded ops a.tmps) = true) (hrun : ∀ K : Act → World → Prop, Shut (K (a.put (some d) v) w') → Oper.wp P oi a w K Q) (hS : i ≠ z → S w')
    (h : any P md ops Q S z fuel (listed.setIfInBounds i true) (a.put (some d) v) w') (hs : All P md ops Q S z fuel listed a w rs) : All P md ops Q S z fuel listed a w (i :: rs) :=
  run_cons hi hw hrun hS h hs
theorem last_at {oz : Oper} {fuel : Nat} {listed : Array Bool} {a : Act} {w w' : World} (hi : ops[z]? = some oz) (hr : Region.ready md ops listed = [z])
    (hw : Region.wanted oz (yielded ops a.tmps) = true) (hrun : ∀ K : Act → World → Prop, Shut (K a w') → Oper.wp P oz a w K Q)
    (h : any P md ops Q S z fuel (listed.setIfInBounds z true) a w') : any P md ops Q S z (fuel + 1) listed a w :=
  ready hr (by simp) (run_cons hi hw hrun (fun h => absurd rfl h) h All.nil)
/-- The beginning: from the world behind the draw. -/
theorem region {id : Nat} {a : Act} {w : World} (z : Nat) (S : World → Prop) (hm : P.follows .mixedOrders = true) (hS : S w.drew)
    (h : S w.drew → any P .any ops Q S z ops.size (Array.replicate ops.size false) a w.drew) : (Code.region id ops true).wp P Q a w :=
  wp_region_any hm (any_is _ _ _ _ (h hS))
end
end Z
end Go.Proofs.YtcglddahphkcpaaGreatDoor

namespace Go.Proofs.YtcglddahphkcpaaGreatDoor
open Go.RowKit
set_option linter.unusedVariables false

theorem Z.only {P : Program} {ops : Array Oper} {Q : Exit → Act → World → Prop} {md : Region.Mode} {S : World → Prop} {z i d : Nat} {oi : Oper} {fuel : Nat} {listed : Array Bool} {a : Act} {w : World} (hi : ops[i]? = some oi) (hd : oi.dst = some d) (hr : Region.ready md ops listed = [i])
    (hw : Region.wanted oi (yielded ops a.tmps) = true) (h : ∀ K : Act → World → Prop, Shut (∀ v w', S w' → Z.any P md ops Q S z fuel (listed.setIfInBounds i true) (a.put (some d) v) w' → K (a.put (some d) v) w') → Oper.wp P oi a w K Q) : Z.any P md ops Q S z (fuel + 1) listed a w :=
  Z.ready hr (by simp) (Z.All.cons hi (fun K hK => by
    rw [if_pos hw]
    exact h K (fun v w' hS hW => hK.out _ _ (fun _ => hS) hW)) Z.All.nil)
end Go.Proofs.YtcglddahphkcpaaGreatDoor

namespace Go.Proofs.YtcglddahphkcpaaGreatDoor
open Go.RowKit
set_option linter.unusedVariables false

theorem Res.rowedQ {w : World} {B : Nat} {s : Value} {l : List M.Cl} (h : Res w B s l) (hne : l ≠ []) : ∃ b cap, s = .slice (some ⟨b, 0, none⟩) l.length cap ∧ l.length ≤ cap ∧ B ≤ b ∧ b < w.heap.size ∧ Row w b 0 l := by
  obtain ⟨_, ⟨_, h2⟩ | ⟨c, cc, h3, h4, h5, h6⟩⟩ := h
  · exact absurd h2 hne
  · exact ⟨c, cc, h3, h5, h4, h6.lt, h6.row⟩
theorem Pth.val_ne {v : List M.Cl} (h : M.valueFault v = 0) : v ≠ [] := by intro e; have := (Pth.lens h).1; rw [e] at this; simp at this
end Go.Proofs.YtcglddahphkcpaaGreatDoor
