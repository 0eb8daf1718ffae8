/-
  spec.ValueFault and impl.ValueFault both return the plain function M.valueFault of the cells.
  impl.ValueFault returns the plain function M.valueFault of the cells.
-/
import Derived.Test.YtlmibdddfjbbdaaM07
import Derived.Test.YtlmibdddfjbbdaaM09
import Derived.Test.YtlmibdddfjbbdaaM10
namespace Go.Proofs.Ytlmibdddfjbbdaa
open Go.RowKit
set_option linter.unusedVariables false

/-- The codes of the first k cells are all 0. -/
def clean (v : List M.Cl) (k : Nat) : Prop := ∀ i, i < k → M.cellCode (v.getD i M.zero) = 0

theorem first_hit (v : List M.Cl) (k : Nat) (hk : k < v.length) (h : clean v k) (hc : M.cellCode (v.getD k M.zero) ≠ 0) : M.firstCode v = M.cellCode (v.getD k M.zero) := by
  induction v generalizing k with
  | nil => simp at hk
  | cons c r ih =>
    cases k with
    | zero => simp only [List.getD_cons_zero] at hc ⊢; simp [M.firstCode, hc]
    | succ k =>
      have h0 := h 0 (by omega)
      simp only [List.getD_cons_zero] at h0
      simp only [List.getD_cons_succ] at hc ⊢
      rw [M.firstCode, if_pos h0]
      exact ih k (by simpa using hk) (fun i hi => by have := h (i + 1) (by omega); simpa only [List.getD_cons_succ] using this) hc

theorem first_none (v : List M.Cl) (h : clean v v.length) : M.firstCode v = 0 := by
  induction v with
  | nil => rfl
  | cons c r ih =>
    have h0 := h 0 (by simp)
    simp only [List.getD_cons_zero] at h0
    rw [M.firstCode, if_pos h0]
    exact ih (fun i hi => by have := h (i + 1) (by simpa using hi); simpa only [List.getD_cons_succ] using this)

theorem clean_step (v : List M.Cl) (k : Nat) (h : clean v k) (hc : M.cellCode (v.getD k M.zero) = 0) : clean v (k + 1) := by
  intro i hi
  by_cases e : i = k
  · subst e; exact hc
  · exact h i (by omega)

theorem fault_many (v : List M.Cl) (h : v.length < 1 ∨ 200 < v.length) : M.valueFault v = 2 := by unfold M.valueFault; rw [if_pos h]
theorem fault_cell (v : List M.Cl) (h1 : 1 ≤ v.length) (h2 : v.length ≤ 200) (k : Nat) (hk : k < v.length) (h : clean v k) (hc : M.cellCode (v.getD k M.zero) ≠ 0) : M.valueFault v = M.cellCode (v.getD k M.zero) := by
  unfold M.valueFault; rw [if_neg (by omega), first_hit v k hk h hc, if_pos hc]
theorem fault_none (v : List M.Cl) (h1 : 1 ≤ v.length) (h2 : v.length ≤ 200) (h : clean v v.length) (hw : M.walk v v.length 0 = none) : M.valueFault v = 1 := by
  unfold M.valueFault; rw [if_neg (by omega), first_none v h, if_neg (by simp), hw]
theorem fault_form (v : List M.Cl) (h1 : 1 ≤ v.length) (h2 : v.length ≤ 200) (h : clean v v.length) (e d : Nat) (hw : M.walk v v.length 0 = some (e, d)) (hf : e ≠ v.length ∨ (v.getD 0 M.zero).key.toList ≠ []) : M.valueFault v = 1 := by
  unfold M.valueFault; rw [if_neg (by omega), first_none v h, if_neg (by simp), hw]; simp only; rw [if_pos hf]
theorem fault_deep (v : List M.Cl) (h1 : 1 ≤ v.length) (h2 : v.length ≤ 200) (h : clean v v.length) (e d : Nat) (hw : M.walk v v.length 0 = some (e, d)) (he : e = v.length) (hk : (v.getD 0 M.zero).key.toList = []) (hd : 20 < d) : M.valueFault v = 7 := by
  unfold M.valueFault; rw [if_neg (by omega), first_none v h, if_neg (by simp), hw]; simp only; rw [if_neg (by simp only [he, hk]; simp), if_pos hd]
theorem fault_ok (v : List M.Cl) (h1 : 1 ≤ v.length) (h2 : v.length ≤ 200) (h : clean v v.length) (e d : Nat) (hw : M.walk v v.length 0 = some (e, d)) (he : e = v.length) (hk : (v.getD 0 M.zero).key.toList = []) (hd : ¬ 20 < d) : M.valueFault v = 0 := by
  unfold M.valueFault; rw [if_neg (by omega), first_none v h, if_neg (by simp), hw]; simp only; rw [if_neg (by simp only [he, hk]; simp), if_neg hd]

set_option maxRecDepth 100000 in
set_option maxHeartbeats 4000000 in
theorem specFault_any (v : List M.Cl) (b off cap : Nat) (w : World) (hrow : Row w b off v) (hb : b < w.heap.size) (hn : v.length ≤ 1048576) (hcap : v.length ≤ cap) (hok : ∀ c ∈ v, c.ok) :
    Calls Try.prog 25 #[.slice (some ⟨b, off, none⟩) v.length cap] w fun e w' => e = .returned (.int .i64 (M.valueFault v)) ∧ Below w.heap.size w w' := by
  by_cases m1 : v.length < 1
  · have fin := hide (fault_many v (.inl m1))
    go_enter Try.func25, Try.ntmps25
    go_wp2_with fail
    go_ret
    exact ⟨ret_int (unhide fin).symm, Below.refl _ _⟩
  by_cases m2 : 200 < v.length
  · have fin := hide (fault_many v (.inr m2))
    go_enter Try.func25, Try.ntmps25
    go_wp2_with fail
    go_ret
    exact ⟨ret_int (unhide fin).symm, Below.refl _ _⟩
  have l1 : 1 ≤ v.length := by omega
  have l2 : v.length ≤ 200 := by omega
  have OK := hide hok
  have IH := hide (l1Shape_any v b off cap l2 hcap hok v.length (by omega))
  clear hok
  have d1 : decide (v.length < 1) = false := decide_eq_false (by omega)
  have d2 : decide (200 < v.length) = false := decide_eq_false (by omega)
  clear m1 m2
  go_enter Try.func25, Try.ntmps25
  go_wp2_with fail
  go_loopg [3] v.length (fun g s3 wr => ∃ k : Nat, Hid (g = v.length - k) ∧ s3 = .int .i64 k ∧ k ≤ v.length ∧ Hid (clean v k) ∧ Below w.heap.size w wr)
  case atStart => exact ⟨0, rfl, rfl, by omega, fun i hi => absurd hi (by omega), Below.refl _ _⟩
  case round =>
    obtain ⟨k, hg, rfl, hk, hcl, hbel⟩ := hrel
    have hr := hrow.below hbel hb
    have hbr : b < wr.heap.size := Nat.lt_of_lt_of_le hb hbel.size
    by_cases hlt : k < v.length
    · obtain ⟨c, hc⟩ : ∃ c, c = v.getD k M.zero := ⟨_, rfl⟩
      obtain ⟨f0, f1, f2, f3, f4⟩ := hr k hlt
      have hco := unhide OK _ (getD_mem v k hlt)
      rw [← hc] at f0 f1 f2 f3 f4 hco
      have hsz1 := hco.2.2.2.1
      have hsz2 := hco.2.2.2.2
      clear hco
      have HC := hide hc
      clear hc
      go_wp2_with fail
      refine (l1Cell_any c _ hsz1 hsz2).mono ?_
      rintro e1 w1 ⟨rfl, hb1⟩
      have hb2 : Below w.heap.size w w1 := hbel.trans (hb1.mono hbel.size)
      clear f0 f1 f2 f3 f4
      by_cases hz : M.cellCode c = 0
      · rw [hz]
        have HZ := hide hz
        clear hz
        go_wp2_with fail
        go_roundg (v.length - (k + 1))
        case rel => exact ⟨k + 1, rfl, by go_num, by omega, clean_step v k hcl.out (by rw [← unhide HC]; exact unhide HZ), hb2⟩
        case measure => have := hg.out; omega
      · have fin := hide (fault_cell v l1 l2 k hlt hcl.out (by rw [← unhide HC]; exact hz))
        generalize hq : M.cellCode c = q at *
        have HQ := hide hq
        clear hq
        have hz' : (q == 0) = false := by simp [hz]
        go_wp2_with fail
        go_ret
        refine ⟨ret_int ?_, hb2⟩
        rw [unhide fin, ← unhide HC]
        exact (unhide HQ).symm
    · have hke : k = v.length := by omega
      have hcl' : Hid (clean v v.length) := hke ▸ hcl
      obtain ⟨c, hc⟩ : ∃ c, c = v.getD 0 M.zero := ⟨_, rfl⟩
      have g := hr 0 (by omega)
      have g3 := g.2.2.2.1
      rw [← hc] at g3
      simp only [Nat.zero_mul, Nat.add_zero] at g3
      have HC := hide hc
      clear hc hke g
      go_wp2_with fail
      refine ((unhide IH) 0 0 _ ?_ ?_ ?_ ?_ ?_ ?_).mono ?_
      · omega
      · omega
      · omega
      · omega
      · exact hr
      · exact hbr
      rintro e1 w1 ⟨rfl, hb1⟩
      have hb2 : Below w.heap.size w w1 := hbel.trans (hb1.mono hbel.size)
      have g3' : w1.cell? ⟨b, off + 3, none⟩ = some (.string c.key) := (hb1.cell (by exact hbr)).trans g3
      clear g3
      have hbd := M.walk_bd v v.length 0 (by omega)
      generalize hres : M.walk v v.length 0 = res at *
      cases res with
      | none =>
        have fin := hide (fault_none v l1 l2 hcl'.out hres)
        clear hres hbd
        simp only [shOut]
        go_wp2_with fail
        go_ret
        exact ⟨ret_int (unhide fin).symm, hb2⟩
      | some r =>
        obtain ⟨e', d'⟩ := r
        have hb3 := hbd _ rfl
        simp only at hb3
        obtain ⟨hb4, hb5, hb6⟩ := hb3
        have HRES := hide hres
        clear hres hbd
        simp only [shOut]
        by_cases he : e' = v.length
        · by_cases hkey : c.key.toList = []
          · by_cases hd : 20 < d'
            · have fin := hide (fault_deep v l1 l2 hcl'.out e' d' (unhide HRES) he (by rw [← unhide HC]; exact hkey) hd)
              subst he
              go_wp2_with fail
              go_ret
              exact ⟨ret_int (unhide fin).symm, hb2⟩
            · have fin := hide (fault_ok v l1 l2 hcl'.out e' d' (unhide HRES) he (by rw [← unhide HC]; exact hkey) hd)
              subst he
              go_wp2_with fail
              go_ret
              exact ⟨ret_int (unhide fin).symm, hb2⟩
          · have fin := hide (fault_form v l1 l2 hcl'.out e' d' (unhide HRES) (.inr (by rw [← unhide HC]; exact hkey)))
            have hkey' : c.key.toList.isEmpty = false := by simpa using hkey
            subst he
            go_wp2_with fail
            go_ret
            exact ⟨ret_int (unhide fin).symm, hb2⟩
        · have fin := hide (fault_form v l1 l2 hcl'.out e' d' (unhide HRES) (.inl he))
          go_wp2_with fail
          go_ret
          exact ⟨ret_int (unhide fin).symm, hb2⟩

end Go.Proofs.Ytlmibdddfjbbdaa

namespace Go.Proofs.Ytlmibdddfjbbdaa
open Go.RowKit
set_option linter.unusedVariables false

set_option maxRecDepth 100000 in
set_option maxHeartbeats 4000000 in
theorem implFault_any (v : List M.Cl) (b off cap : Nat) (w : World) (hrow : Row w b off v) (hb : b < w.heap.size) (hn : v.length ≤ 1048576) (hcap : v.length ≤ cap) (hok : ∀ c ∈ v, c.ok) :
    Calls Try.prog 32 #[.slice (some ⟨b, off, none⟩) v.length cap] w fun e w' => e = .returned (.int .i64 (M.valueFault v)) ∧ Below w.heap.size w w' := by
  by_cases m1 : v.length < 1
  · have fin := hide (fault_many v (.inl m1))
    go_enter Try.func32, Try.ntmps32
    go_wp2_with fail
    go_ret
    exact ⟨ret_int (unhide fin).symm, Below.refl _ _⟩
  by_cases m2 : 200 < v.length
  · have fin := hide (fault_many v (.inr m2))
    go_enter Try.func32, Try.ntmps32
    go_wp2_with fail
    go_ret
    exact ⟨ret_int (unhide fin).symm, Below.refl _ _⟩
  have l1 : 1 ≤ v.length := by omega
  have l2 : v.length ≤ 200 := by omega
  have OK := hide hok
  have IH := hide (walk_any v b off cap l2 hcap hok v.length (by omega))
  clear hok
  have d1 : decide (v.length < 1) = false := decide_eq_false (by omega)
  have d2 : decide (200 < v.length) = false := decide_eq_false (by omega)
  clear m1 m2
  go_enter Try.func32, Try.ntmps32
  go_wp2_with fail
  go_loopg [17] v.length (fun g s17 wr => ∃ k : Nat, Hid (g = v.length - k) ∧ s17 = .int .i64 k ∧ k ≤ v.length ∧ Hid (clean v k) ∧ Below w.heap.size w wr)
  case atStart => exact ⟨0, rfl, rfl, by omega, fun i hi => absurd hi (by omega), Below.refl _ _⟩
  case round =>
    obtain ⟨k, hg, rfl, hk, hcl, hbel⟩ := hrel
    have hr := hrow.below hbel hb
    have hbr : b < wr.heap.size := Nat.lt_of_lt_of_le hb hbel.size
    by_cases hlt : k < v.length
    · obtain ⟨c, hc⟩ : ∃ c, c = v.getD k M.zero := ⟨_, rfl⟩
      obtain ⟨f0, f1, f2, f3, f4⟩ := hr k hlt
      have hco := unhide OK _ (getD_mem v k hlt)
      rw [← hc] at f0 f1 f2 f3 f4 hco
      have hsz1 := hco.2.2.2.1
      have hsz2 := hco.2.2.2.2
      clear hco
      have HC := hide hc
      clear hc
      go_wp2_with fail
      refine (cellFault_any c _ hsz1 hsz2).mono ?_
      rintro e1 w1 ⟨rfl, hb1⟩
      have hb2 : Below w.heap.size w w1 := (hbel.alloc hbel.size _).trans (hb1.mono (by simp; have := hbel.size; omega))
      clear f0 f1 f2 f3 f4
      by_cases hz : M.cellCode c = 0
      · rw [hz]
        have HZ := hide hz
        clear hz
        go_wp2_with fail
        go_roundg (v.length - (k + 1))
        case rel => exact ⟨k + 1, rfl, by go_num, by omega, clean_step v k hcl.out (by rw [← unhide HC]; exact unhide HZ), hb2⟩
        case measure => have := hg.out; omega
      · have fin := hide (fault_cell v l1 l2 k hlt hcl.out (by rw [← unhide HC]; exact hz))
        generalize hq : M.cellCode c = q at *
        have HQ := hide hq
        clear hq
        have hz' : (q == 0) = false := by simp [hz]
        go_wp2_with fail
        go_ret
        refine ⟨ret_int ?_, hb2⟩
        rw [unhide fin, ← unhide HC]
        exact (unhide HQ).symm
    · have hke : k = v.length := by omega
      have hcl' : Hid (clean v v.length) := hke ▸ hcl
      obtain ⟨c, hc⟩ : ∃ c, c = v.getD 0 M.zero := ⟨_, rfl⟩
      have g := hr 0 (by omega)
      have g3 := g.2.2.2.1
      rw [← hc] at g3
      simp only [Nat.zero_mul, Nat.add_zero] at g3
      have HC := hide hc
      clear hc hke g
      go_wp2_with fail
      refine ((unhide IH) 0 _ ?_ ?_ ?_ ?_).mono ?_
      · omega
      · omega
      · exact hr
      · exact hbr
      rintro e1 w1 ⟨rfl, hb1⟩
      have hb2 : Below w.heap.size w w1 := hbel.trans (hb1.mono hbel.size)
      have g3' : w1.cell? ⟨b, off + 3, none⟩ = some (.string c.key) := (hb1.cell (by exact hbr)).trans g3
      have hbr1 : b < w1.heap.size := Nat.lt_of_lt_of_le hbr hb1.size
      have g4 : ∀ o, (w1.alloc o).cell? ⟨b, off + 3, none⟩ = some (.string c.key) := fun o => ((Below.refl w1.heap.size w1).alloc (Nat.le_refl _) o).cell (p := ⟨b, off + 3, none⟩) hbr1 |>.trans g3'
      clear g3 g3'
      have hbd := M.walk_bd v v.length 0 (by omega)
      generalize hres : M.walk v v.length 0 = res at *
      cases res with
      | none =>
        have fin := hide (fault_none v l1 l2 hcl'.out hres)
        clear hres hbd
        simp only [wkOut]
        go_wp2_with fail
        go_ret
        exact ⟨ret_int (unhide fin).symm, hb2.alloc hb2.size _⟩
      | some r =>
        obtain ⟨e', d'⟩ := r
        have hb3 := hbd _ rfl
        simp only at hb3
        obtain ⟨hb4, hb5, hb6⟩ := hb3
        have HRES := hide hres
        clear hres hbd
        simp only [wkOut]
        by_cases he : e' = v.length
        · by_cases hkey : c.key.toList = []
          · by_cases hd : 20 < d'
            · have fin := hide (fault_deep v l1 l2 hcl'.out e' d' (unhide HRES) he (by rw [← unhide HC]; exact hkey) hd)
              subst he
              go_wp2_with fail
              go_ret
              exact ⟨ret_int (unhide fin).symm, hb2.alloc hb2.size _⟩
            · have fin := hide (fault_ok v l1 l2 hcl'.out e' d' (unhide HRES) he (by rw [← unhide HC]; exact hkey) hd)
              subst he
              go_wp2_with fail
              go_ret
              exact ⟨ret_int (unhide fin).symm, hb2.alloc hb2.size _⟩
          · have fin := hide (fault_form v l1 l2 hcl'.out e' d' (unhide HRES) (.inr (by rw [← unhide HC]; exact hkey)))
            have hkey' : c.key.toList.isEmpty = false := by simpa using hkey
            subst he
            go_wp2_with fail
            go_ret
            exact ⟨ret_int (unhide fin).symm, hb2.alloc hb2.size _⟩
        · have fin := hide (fault_form v l1 l2 hcl'.out e' d' (unhide HRES) (.inl he))
          go_wp2_with fail
          go_ret
          exact ⟨ret_int (unhide fin).symm, hb2.alloc hb2.size _⟩

end Go.Proofs.Ytlmibdddfjbbdaa
