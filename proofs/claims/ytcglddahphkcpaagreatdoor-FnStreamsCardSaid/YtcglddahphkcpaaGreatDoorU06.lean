/-
  spec.ValueFault and impl.ValueFault both return the plain function M.valueFault of the cells.
  impl.ValueFault returns the plain function M.valueFault of the cells.
  How many cells lists of cells have together, and what the readers of such lists are told.
  An array of values: what both ArrayValue answer, as a plain function of the lists.
  spec.ArrayValue.
-/
import Derived.Test.YtcglddahphkcpaaGreatDoorU00
import Derived.Test.YtcglddahphkcpaaGreatDoorU01
import Derived.Test.YtcglddahphkcpaaGreatDoorU02
import Derived.Test.YtcglddahphkcpaaGreatDoorU04
import Derived.Test.YtcglddahphkcpaaGreatDoorU05
namespace Go.Proofs.YtcglddahphkcpaaGreatDoor
open Go.RowKit
set_option linter.unusedVariables false

/-- The codes of the first k cells are all 0. -/
def clean (v : List M.Cl) (k : Nat) : Prop := ∀ i, i < k → M.cellCode (v.getD i M.zero) = 0

theorem first_hit (v : List M.Cl) (k : Nat) (hk : k < v.length) (h : clean v k) (hc : M.cellCode (v.getD k M.zero) ≠ 0) : M.firstCode v = M.cellCode (v.getD k M.zero) := by
  induction v generalizing k with
  | nil => simp at hk
  | cons c r ih =>
    cases k with
    | zero => simp only [List.getD_cons_zero] at hc ⊢; simp [M.firstCode, hc]
    | succ k =>
      have h0 := h 0 (by omega)
      simp only [List.getD_cons_zero] at h0
      simp only [List.getD_cons_succ] at hc ⊢
      rw [M.firstCode, if_pos h0]
      exact ih k (by simpa using hk) (fun i hi => by have := h (i + 1) (by omega); simpa only [List.getD_cons_succ] using this) hc

theorem first_none (v : List M.Cl) (h : clean v v.length) : M.firstCode v = 0 := by
  induction v with
  | nil => rfl
  | cons c r ih =>
    have h0 := h 0 (by simp)
    simp only [List.getD_cons_zero] at h0
    rw [M.firstCode, if_pos h0]
    exact ih (fun i hi => by have := h (i + 1) (by simpa using hi); simpa only [List.getD_cons_succ] using this)

theorem clean_step (v : List M.Cl) (k : Nat) (h : clean v k) (hc : M.cellCode (v.getD k M.zero) = 0) : clean v (k + 1) := by
  intro i hi
  by_cases e : i = k
  · subst e; exact hc
  · exact h i (by omega)

theorem fault_many (v : List M.Cl) (h : v.length < 1 ∨ 200 < v.length) : M.valueFault v = 2 := by unfold M.valueFault; rw [if_pos h]
theorem fault_cell (v : List M.Cl) (h1 : 1 ≤ v.length) (h2 : v.length ≤ 200) (k : Nat) (hk : k < v.length) (h : clean v k) (hc : M.cellCode (v.getD k M.zero) ≠ 0) : M.valueFault v = M.cellCode (v.getD k M.zero) := by
  unfold M.valueFault; rw [if_neg (by omega), first_hit v k hk h hc, if_pos hc]
theorem fault_none (v : List M.Cl) (h1 : 1 ≤ v.length) (h2 : v.length ≤ 200) (h : clean v v.length) (hw : M.walk v v.length 0 = none) : M.valueFault v = 1 := by
  unfold M.valueFault; rw [if_neg (by omega), first_none v h, if_neg (by simp), hw]
theorem fault_form (v : List M.Cl) (h1 : 1 ≤ v.length) (h2 : v.length ≤ 200) (h : clean v v.length) (e d : Nat) (hw : M.walk v v.length 0 = some (e, d)) (hf : e ≠ v.length ∨ (v.getD 0 M.zero).key.toList ≠ []) : M.valueFault v = 1 := by
  unfold M.valueFault; rw [if_neg (by omega), first_none v h, if_neg (by simp), hw]; simp only; rw [if_pos hf]
theorem fault_deep (v : List M.Cl) (h1 : 1 ≤ v.length) (h2 : v.length ≤ 200) (h : clean v v.length) (e d : Nat) (hw : M.walk v v.length 0 = some (e, d)) (he : e = v.length) (hk : (v.getD 0 M.zero).key.toList = []) (hd : 20 < d) : M.valueFault v = 7 := by
  unfold M.valueFault; rw [if_neg (by omega), first_none v h, if_neg (by simp), hw]; simp only; rw [if_neg (by simp only [he, hk]; simp), if_pos hd]
theorem fault_ok (v : List M.Cl) (h1 : 1 ≤ v.length) (h2 : v.length ≤ 200) (h : clean v v.length) (e d : Nat) (hw : M.walk v v.length 0 = some (e, d)) (he : e = v.length) (hk : (v.getD 0 M.zero).key.toList = []) (hd : ¬ 20 < d) : M.valueFault v = 0 := by
  unfold M.valueFault; rw [if_neg (by omega), first_none v h, if_neg (by simp), hw]; simp only; rw [if_neg (by simp only [he, hk]; simp), if_neg hd]

set_option maxRecDepth 100000 in
set_option maxHeartbeats 4000000 in
theorem specFault_any (v : List M.Cl) (b off cap : Nat) (w : World) (hrow : Row w b off v) (hb : b < w.heap.size) (hn : v.length ≤ 1048576) (hcap : v.length ≤ cap) (hok : ∀ c ∈ v, c.ok) :
    Calls Tryz.prog 54 #[.slice (some ⟨b, off, none⟩) v.length cap] w fun e w' => e = .returned (.int .i64 (M.valueFault v)) ∧ Below w.heap.size w w' := by
  by_cases m1 : v.length < 1
  · have fin := hide (fault_many v (.inl m1))
    go_enter Tryz.func54, Tryz.ntmps54
    go_wp2_with fail
    go_ret
    exact ⟨ret_int (unhide fin).symm, Below.refl _ _⟩
  by_cases m2 : 200 < v.length
  · have fin := hide (fault_many v (.inr m2))
    go_enter Tryz.func54, Tryz.ntmps54
    go_wp2_with fail
    go_ret
    exact ⟨ret_int (unhide fin).symm, Below.refl _ _⟩
  have l1 : 1 ≤ v.length := by omega
  have l2 : v.length ≤ 200 := by omega
  have OK := hide hok
  have IH := hide (l1Shape_any v b off cap l2 hcap hok v.length (by omega))
  clear hok
  have d1 : decide (v.length < 1) = false := decide_eq_false (by omega)
  have d2 : decide (200 < v.length) = false := decide_eq_false (by omega)
  clear m1 m2
  go_enter Tryz.func54, Tryz.ntmps54
  go_wp2_with fail
  go_loopg [3] v.length (fun g s3 wr => ∃ k : Nat, Hid (g = v.length - k) ∧ s3 = .int .i64 k ∧ k ≤ v.length ∧ Hid (clean v k) ∧ Below w.heap.size w wr)
  case atStart => exact ⟨0, rfl, rfl, by omega, fun i hi => absurd hi (by omega), Below.refl _ _⟩
  case round =>
    obtain ⟨k, hg, rfl, hk, hcl, hbel⟩ := hrel
    have hr := hrow.below hbel hb
    have hbr : b < wr.heap.size := Nat.lt_of_lt_of_le hb hbel.size
    by_cases hlt : k < v.length
    · obtain ⟨c, hc⟩ : ∃ c, c = v.getD k M.zero := ⟨_, rfl⟩
      obtain ⟨f0, f1, f2, f3, f4⟩ := hr k hlt
      have hco := unhide OK _ (getD_mem v k hlt)
      rw [← hc] at f0 f1 f2 f3 f4 hco
      have hsz1 := hco.2.2.2.1
      have hsz2 := hco.2.2.2.2
      clear hco
      have HC := hide hc
      clear hc
      go_wp2_with fail
      refine (l1Cell_any c _ hsz1 hsz2).mono ?_
      rintro e1 w1 ⟨rfl, hb1⟩
      have hb2 : Below w.heap.size w w1 := hbel.trans (hb1.mono hbel.size)
      clear f0 f1 f2 f3 f4
      by_cases hz : M.cellCode c = 0
      · rw [hz]
        have HZ := hide hz
        clear hz
        go_wp2_with fail
        go_roundg (v.length - (k + 1))
        case rel => exact ⟨k + 1, rfl, by go_num, by omega, clean_step v k hcl.out (by rw [← unhide HC]; exact unhide HZ), hb2⟩
        case measure => have := hg.out; omega
      · have fin := hide (fault_cell v l1 l2 k hlt hcl.out (by rw [← unhide HC]; exact hz))
        generalize hq : M.cellCode c = q at *
        have HQ := hide hq
        clear hq
        have hz' : (q == 0) = false := by simp [hz]
        go_wp2_with fail
        go_ret
        refine ⟨ret_int ?_, hb2⟩
        rw [unhide fin, ← unhide HC]
        exact (unhide HQ).symm
    · have hke : k = v.length := by omega
      have hcl' : Hid (clean v v.length) := hke ▸ hcl
      obtain ⟨c, hc⟩ : ∃ c, c = v.getD 0 M.zero := ⟨_, rfl⟩
      have g := hr 0 (by omega)
      have g3 := g.2.2.2.1
      rw [← hc] at g3
      simp only [Nat.zero_mul, Nat.add_zero] at g3
      have HC := hide hc
      clear hc hke g
      go_wp2_with fail
      refine ((unhide IH) 0 0 _ ?_ ?_ ?_ ?_ ?_ ?_).mono ?_
      · omega
      · omega
      · omega
      · omega
      · exact hr
      · exact hbr
      rintro e1 w1 ⟨rfl, hb1⟩
      have hb2 : Below w.heap.size w w1 := hbel.trans (hb1.mono hbel.size)
      have g3' : w1.cell? ⟨b, off + 3, none⟩ = some (.string c.key) := (hb1.cell (by exact hbr)).trans g3
      clear g3
      have hbd := M.walk_bd v v.length 0 (by omega)
      generalize hres : M.walk v v.length 0 = res at *
      cases res with
      | none =>
        have fin := hide (fault_none v l1 l2 hcl'.out hres)
        clear hres hbd
        simp only [shOut]
        go_wp2_with fail
        go_ret
        exact ⟨ret_int (unhide fin).symm, hb2⟩
      | some r =>
        obtain ⟨e', d'⟩ := r
        have hb3 := hbd _ rfl
        simp only at hb3
        obtain ⟨hb4, hb5, hb6⟩ := hb3
        have HRES := hide hres
        clear hres hbd
        simp only [shOut]
        by_cases he : e' = v.length
        · by_cases hkey : c.key.toList = []
          · by_cases hd : 20 < d'
            · have fin := hide (fault_deep v l1 l2 hcl'.out e' d' (unhide HRES) he (by rw [← unhide HC]; exact hkey) hd)
              subst he
              go_wp2_with fail
              go_ret
              exact ⟨ret_int (unhide fin).symm, hb2⟩
            · have fin := hide (fault_ok v l1 l2 hcl'.out e' d' (unhide HRES) he (by rw [← unhide HC]; exact hkey) hd)
              subst he
              go_wp2_with fail
              go_ret
              exact ⟨ret_int (unhide fin).symm, hb2⟩
          · have fin := hide (fault_form v l1 l2 hcl'.out e' d' (unhide HRES) (.inr (by rw [← unhide HC]; exact hkey)))
            have hkey' : c.key.toList.isEmpty = false := by simpa using hkey
            subst he
            go_wp2_with fail
            go_ret
            exact ⟨ret_int (unhide fin).symm, hb2⟩
        · have fin := hide (fault_form v l1 l2 hcl'.out e' d' (unhide HRES) (.inl he))
          go_wp2_with fail
          go_ret
          exact ⟨ret_int (unhide fin).symm, hb2⟩

end Go.Proofs.YtcglddahphkcpaaGreatDoor

namespace Go.Proofs.YtcglddahphkcpaaGreatDoor
open Go.RowKit
set_option linter.unusedVariables false

set_option maxRecDepth 100000 in
set_option maxHeartbeats 4000000 in
theorem implFault_any (v : List M.Cl) (b off cap : Nat) (w : World) (hrow : Row w b off v) (hb : b < w.heap.size) (hn : v.length ≤ 1048576) (hcap : v.length ≤ cap) (hok : ∀ c ∈ v, c.ok) :
    Calls Tryz.prog 52 #[.slice (some ⟨b, off, none⟩) v.length cap] w fun e w' => e = .returned (.int .i64 (M.valueFault v)) ∧ Below w.heap.size w w' := by
  by_cases m1 : v.length < 1
  · have fin := hide (fault_many v (.inl m1))
    go_enter Tryz.func52, Tryz.ntmps52
    go_wp2_with fail
    go_ret
    exact ⟨ret_int (unhide fin).symm, Below.refl _ _⟩
  by_cases m2 : 200 < v.length
  · have fin := hide (fault_many v (.inr m2))
    go_enter Tryz.func52, Tryz.ntmps52
    go_wp2_with fail
    go_ret
    exact ⟨ret_int (unhide fin).symm, Below.refl _ _⟩
  have l1 : 1 ≤ v.length := by omega
  have l2 : v.length ≤ 200 := by omega
  have OK := hide hok
  have IH := hide (walk_any v b off cap l2 hcap hok v.length (by omega))
  clear hok
  have d1 : decide (v.length < 1) = false := decide_eq_false (by omega)
  have d2 : decide (200 < v.length) = false := decide_eq_false (by omega)
  clear m1 m2
  go_enter Tryz.func52, Tryz.ntmps52
  go_wp2_with fail
  go_loopg [17] v.length (fun g s17 wr => ∃ k : Nat, Hid (g = v.length - k) ∧ s17 = .int .i64 k ∧ k ≤ v.length ∧ Hid (clean v k) ∧ Below w.heap.size w wr)
  case atStart => exact ⟨0, rfl, rfl, by omega, fun i hi => absurd hi (by omega), Below.refl _ _⟩
  case round =>
    obtain ⟨k, hg, rfl, hk, hcl, hbel⟩ := hrel
    have hr := hrow.below hbel hb
    have hbr : b < wr.heap.size := Nat.lt_of_lt_of_le hb hbel.size
    by_cases hlt : k < v.length
    · obtain ⟨c, hc⟩ : ∃ c, c = v.getD k M.zero := ⟨_, rfl⟩
      obtain ⟨f0, f1, f2, f3, f4⟩ := hr k hlt
      have hco := unhide OK _ (getD_mem v k hlt)
      rw [← hc] at f0 f1 f2 f3 f4 hco
      have hsz1 := hco.2.2.2.1
      have hsz2 := hco.2.2.2.2
      clear hco
      have HC := hide hc
      clear hc
      go_wp2_with fail
      refine (cellFault_any c _ hsz1 hsz2).mono ?_
      rintro e1 w1 ⟨rfl, hb1⟩
      have hb2 : Below w.heap.size w w1 := (hbel.alloc hbel.size _).trans (hb1.mono (by simp; have := hbel.size; omega))
      clear f0 f1 f2 f3 f4
      by_cases hz : M.cellCode c = 0
      · rw [hz]
        have HZ := hide hz
        clear hz
        go_wp2_with fail
        go_roundg (v.length - (k + 1))
        case rel => exact ⟨k + 1, rfl, by go_num, by omega, clean_step v k hcl.out (by rw [← unhide HC]; exact unhide HZ), hb2⟩
        case measure => have := hg.out; omega
      · have fin := hide (fault_cell v l1 l2 k hlt hcl.out (by rw [← unhide HC]; exact hz))
        generalize hq : M.cellCode c = q at *
        have HQ := hide hq
        clear hq
        have hz' : (q == 0) = false := by simp [hz]
        go_wp2_with fail
        go_ret
        refine ⟨ret_int ?_, hb2⟩
        rw [unhide fin, ← unhide HC]
        exact (unhide HQ).symm
    · have hke : k = v.length := by omega
      have hcl' : Hid (clean v v.length) := hke ▸ hcl
      obtain ⟨c, hc⟩ : ∃ c, c = v.getD 0 M.zero := ⟨_, rfl⟩
      have g := hr 0 (by omega)
      have g3 := g.2.2.2.1
      rw [← hc] at g3
      simp only [Nat.zero_mul, Nat.add_zero] at g3
      have HC := hide hc
      clear hc hke g
      go_wp2_with fail
      refine ((unhide IH) 0 _ ?_ ?_ ?_ ?_).mono ?_
      · omega
      · omega
      · exact hr
      · exact hbr
      rintro e1 w1 ⟨rfl, hb1⟩
      have hb2 : Below w.heap.size w w1 := hbel.trans (hb1.mono hbel.size)
      have g3' : w1.cell? ⟨b, off + 3, none⟩ = some (.string c.key) := (hb1.cell (by exact hbr)).trans g3
      have hbr1 : b < w1.heap.size := Nat.lt_of_lt_of_le hbr hb1.size
      have g4 : ∀ o, (w1.alloc o).cell? ⟨b, off + 3, none⟩ = some (.string c.key) := fun o => ((Below.refl w1.heap.size w1).alloc (Nat.le_refl _) o).cell (p := ⟨b, off + 3, none⟩) hbr1 |>.trans g3'
      clear g3 g3'
      have hbd := M.walk_bd v v.length 0 (by omega)
      generalize hres : M.walk v v.length 0 = res at *
      cases res with
      | none =>
        have fin := hide (fault_none v l1 l2 hcl'.out hres)
        clear hres hbd
        simp only [wkOut]
        go_wp2_with fail
        go_ret
        exact ⟨ret_int (unhide fin).symm, hb2.alloc hb2.size _⟩
      | some r =>
        obtain ⟨e', d'⟩ := r
        have hb3 := hbd _ rfl
        simp only at hb3
        obtain ⟨hb4, hb5, hb6⟩ := hb3
        have HRES := hide hres
        clear hres hbd
        simp only [wkOut]
        by_cases he : e' = v.length
        · by_cases hkey : c.key.toList = []
          · by_cases hd : 20 < d'
            · have fin := hide (fault_deep v l1 l2 hcl'.out e' d' (unhide HRES) he (by rw [← unhide HC]; exact hkey) hd)
              subst he
              go_wp2_with fail
              go_ret
              exact ⟨ret_int (unhide fin).symm, hb2.alloc hb2.size _⟩
            · have fin := hide (fault_ok v l1 l2 hcl'.out e' d' (unhide HRES) he (by rw [← unhide HC]; exact hkey) hd)
              subst he
              go_wp2_with fail
              go_ret
              exact ⟨ret_int (unhide fin).symm, hb2.alloc hb2.size _⟩
          · have fin := hide (fault_form v l1 l2 hcl'.out e' d' (unhide HRES) (.inr (by rw [← unhide HC]; exact hkey)))
            have hkey' : c.key.toList.isEmpty = false := by simpa using hkey
            subst he
            go_wp2_with fail
            go_ret
            exact ⟨ret_int (unhide fin).symm, hb2.alloc hb2.size _⟩
        · have fin := hide (fault_form v l1 l2 hcl'.out e' d' (unhide HRES) (.inl he))
          go_wp2_with fail
          go_ret
          exact ⟨ret_int (unhide fin).symm, hb2.alloc hb2.size _⟩

end Go.Proofs.YtcglddahphkcpaaGreatDoor

namespace Go.Proofs.YtcglddahphkcpaaGreatDoor
open Go.RowKit
set_option linter.unusedVariables false

/-- How many cells the first k lists have. -/
def tot (ps : List (List M.Cl)) (k : Nat) : Nat := ((ps.take k).map List.length).sum

theorem tot_zero (ps : List (List M.Cl)) : tot ps 0 = 0 := by simp [tot]

theorem tot_succ (ps : List (List M.Cl)) (k : Nat) (hk : k < ps.length) : tot ps (k + 1) = tot ps k + (ps.getD k []).length := by
  unfold tot
  rw [List.take_add_one, List.getElem?_eq_getElem hk, List.map_append, List.sum_append, List.getD_eq_getElem?_getD, List.getElem?_eq_getElem hk]
  simp

theorem tot_le (ps : List (List M.Cl)) (n k : Nat) (h : k ≤ n) (hn : n ≤ ps.length) : tot ps k ≤ tot ps n := by
  induction n with
  | zero => rw [show k = 0 from by omega]; exact Nat.le_refl _
  | succ n ih =>
    by_cases e : k = n + 1
    · rw [e]; exact Nat.le_refl _
    · have := ih (by omega) (by omega)
      rw [tot_succ ps n (by omega)]
      omega

theorem len_le (ps : List (List M.Cl)) (i : Nat) (hi : i < ps.length) : (ps.getD i []).length ≤ tot ps ps.length := by
  have h1 := tot_succ ps i hi
  have h2 := tot_le ps ps.length (i + 1) (by omega) (Nat.le_refl _)
  omega

end Go.Proofs.YtcglddahphkcpaaGreatDoor

namespace Go.Proofs.YtcglddahphkcpaaGreatDoor
open Go.RowKit
set_option linter.unusedVariables false

theorem empty_list : ByteArray.empty.toList = [] := by unfold ByteArray.toList ByteArray.toList.loop; rfl
theorem fault_key {v : List M.Cl} (h : M.valueFault v = 0) : (v.getD 0 M.zero).key = ByteArray.empty := by
  refine bytes_ext ?_
  rw [empty_list]
  unfold M.valueFault at h
  split at h
  · cases h
  split at h
  · rename_i h2; exact absurd h h2
  split at h
  · cases h
  split at h
  · cases h
  · rename_i h2
    by_cases e : (v.getD 0 M.zero).key.toList = []
    · exact e
    · exact absurd (.inr e) h2
theorem fault_len {v : List M.Cl} (h : M.valueFault v = 0) : 1 ≤ v.length ∧ v.length ≤ 200 := ⟨(M.fault_zero h).1, (M.fault_zero h).2.1⟩
theorem setKey_none {v : List M.Cl} (h : M.valueFault v = 0) : setKey v ByteArray.empty = v := by
  have hk := fault_key h
  have hl := (fault_len h).1
  cases v with
  | nil => simp at hl
  | cons c r =>
    simp only [List.getD_cons_zero] at hk
    unfold setKey
    rw [← hk]

def headCl (kind : Int) (n : Nat) : M.Cl := ⟨kind, 0, ByteArray.empty, ByteArray.empty, n⟩
def arrK (ps : List (List M.Cl)) (k : Nat) : List M.Cl := headCl 5 ps.length :: (ps.take k).flatten
def arrV (ps : List (List M.Cl)) : List M.Cl := arrK ps ps.length
theorem arrK_succ (ps : List (List M.Cl)) (k : Nat) (hk : k < ps.length) : arrK ps (k + 1) = arrK ps k ++ ps.getD k [] := by
  unfold arrK
  have e : (ps.take (k + 1)).flatten = (ps.take k).flatten ++ ps.getD k [] := by
    rw [List.take_add_one, List.getElem?_eq_getElem hk, List.getD_eq_getElem?_getD, List.getElem?_eq_getElem hk, List.flatten_append]
    simp only [Option.toList_some, Option.getD_some, List.flatten_cons, List.flatten_nil, List.append_nil]
  rw [e, List.cons_append]
theorem arrK_length (ps : List (List M.Cl)) (k : Nat) : (arrK ps k).length = tot ps k + 1 := by
  unfold arrK tot
  rw [List.length_cons, List.length_flatten]
theorem tot_small (ps : List (List M.Cl)) (k : Nat) (hk : k ≤ ps.length) (h : ∀ j, j < k → (ps.getD j []).length ≤ 200) : tot ps k ≤ 200 * k := by
  induction k with
  | zero => rw [tot_zero]; omega
  | succ k ih =>
    have := ih (by omega) (fun j hj => h j (by omega))
    have := h k (by omega)
    rw [tot_succ ps k (by omega)]
    omega

def firstBad : List (List M.Cl) → Int
  | [] => 0
  | p :: r => if M.valueFault p = 0 then firstBad r else M.valueFault p
theorem firstBad_hit (ps : List (List M.Cl)) (k : Nat) (h : ∀ j, j < k → M.valueFault (ps.getD j []) = 0) (hk : k < ps.length) (hz : M.valueFault (ps.getD k []) ≠ 0) : firstBad ps = M.valueFault (ps.getD k []) := by
  induction ps generalizing k with
  | nil => simp at hk
  | cons p r ih =>
    unfold firstBad
    cases k with
    | zero =>
      simp only [List.getD_cons_zero] at hz ⊢
      rw [if_neg hz]
    | succ k =>
      have h0 := h 0 (by omega)
      simp only [List.getD_cons_zero] at h0
      rw [if_pos h0]
      simp only [List.getD_cons_succ] at hz ⊢
      exact ih k (fun j hj => by have := h (j + 1) (by omega); simpa only [List.getD_cons_succ] using this) (by simpa using hk) hz
theorem firstBad_none (ps : List (List M.Cl)) (h : ∀ j, j < ps.length → M.valueFault (ps.getD j []) = 0) : firstBad ps = 0 := by
  induction ps with
  | nil => rfl
  | cons p r ih =>
    unfold firstBad
    have h0 := h 0 (by simp)
    simp only [List.getD_cons_zero] at h0
    rw [if_pos h0]
    exact ih (fun j hj => by have := h (j + 1) (by simpa using hj); simpa only [List.getD_cons_succ] using this)
def told (l : List M.Cl) : Int × List M.Cl := if M.valueFault l = 0 then (0, l) else (M.valueFault l, [])
theorem told_ok {l : List M.Cl} (h : M.valueFault l = 0) : told l = (0, l) := if_pos h
theorem told_bad {l : List M.Cl} (h : M.valueFault l ≠ 0) : told l = (M.valueFault l, []) := if_neg h
/-- The cells of lists that are right to be laid are so. -/
def OkS (ps : List (List M.Cl)) : Prop := ∀ i, i < ps.length → ∀ c ∈ ps.getD i [], c.ok
theorem arrK_ok (ps : List (List M.Cl)) (hn : ps.length ≤ 4096) (h : OkS ps) (k : Nat) (hk : k ≤ ps.length) : ∀ c ∈ arrK ps k, c.ok := by
  induction k with
  | zero =>
    intro c hc
    simp only [arrK, List.take_zero, List.flatten_nil, List.mem_cons, List.not_mem_nil, or_false] at hc
    subst hc
    unfold M.Cl.ok headCl
    refine ⟨?_, ?_, ?_, ?_, ?_⟩ <;> simp <;> omega
  | succ k ih =>
    rw [arrK_succ ps k (by omega)]
    intro c hc
    rcases List.mem_append.1 hc with hc | hc
    · exact ih (by omega) c hc
    · exact h k (by omega) c hc

/-- A row of one cell, laid by a literal. -/
theorem one_own (w : World) (B b : Nat) (c : M.Cl) (hb : b = w.heap.size) (hB : B ≤ w.heap.size) : (w.alloc (.cells #[.int .i64 c.kind, .int .i64 c.num, .string c.text, .string c.key, .int .i64 c.n] 111)).ownsRow B 111 5 (.slice (some ⟨b, 0, none⟩) 1 1) 1 (flat [c]) := by
  subst hb
  exact ⟨rfl, .inr ⟨w.heap.size, 1, _, rfl, hB, heap_alloc_new _ _, Nat.le_refl _, by simp [maxLen], rfl, rfl⟩⟩

theorem res_any {w : World} {B : Nat} {s : Value} {l : List M.Cl} (h : Res w B s l) (hl : l ≠ []) : ∃ b cap, s = .slice (some ⟨b, 0, none⟩) l.length cap ∧ l.length ≤ cap ∧ OwnG w b 111 l := by
  obtain ⟨_, ⟨_, rfl⟩ | ⟨b, cap, h1, _, h3, h4⟩⟩ := h
  · exact absurd rfl hl
  · exact ⟨b, cap, h1, h3, h4⟩
end Go.Proofs.YtcglddahphkcpaaGreatDoor

namespace Go.Proofs.YtcglddahphkcpaaGreatDoor
open Go.RowKit
set_option linter.unusedVariables false

set_option maxHeartbeats 1000000 in
theorem specTold_any (s : Value) (B : Nat) (l : List M.Cl) (w : World) (h : Res w B s l) (hB : B ≤ w.heap.size) (hl : l ≠ []) (hn : l.length ≤ 1048576) (hok : ∀ c ∈ l, c.ok) :
    Calls Tryz.prog 133 #[s] w fun e w' => ∃ s', e = .returned (.agg #[.int .i64 (told l).1, s']) ∧ Res w' B s' (told l).2 ∧ Below w.heap.size w w' := by
  obtain ⟨b, cap, rfl, hcap, ho⟩ := res_any h hl
  have HR := hide h
  have OK := hide hok
  clear h hok
  have B0 : ∀ o, Below w.heap.size w (w.alloc o) := fun o => (Below.refl _ _).alloc (Nat.le_refl _) o
  have HB0 := hide B0
  clear B0
  have hlt := ho.lt
  go_enter Tryz.func133, Tryz.ntmps133
  go_wp2_with fail
  refine (specFault_any l b 0 cap _ (ho.row.below ((unhide HB0) _) hlt) (by simp; omega) hn hcap (unhide OK)).mono ?_
  rintro e1 w1 ⟨rfl, hb1⟩
  have hR : Own w1 w.heap.size 59 [.int .i64 0, .slice none 0 0] := Own.below ⟨_, heap_alloc_new _ _, rfl⟩ hb1 (by simp)
  have B1 : Below w.heap.size w w1 := ((unhide HB0) _).trans (hb1.mono (by simp))
  have r0 := hR.cell 0
  have r1 := hR.cell 1
  have z0 := hR.frozen 0
  have z1 := hR.frozen 1
  simp only [List.getElem?_cons_zero, List.getElem?_cons_succ] at r0 r1
  clear hb1
  generalize hq : M.valueFault l = q
  by_cases hz : q = 0
  · subst hz
    have fin := hide (told_ok hq)
    clear hq
    go_wp2_with fail
    refine bodyPost_ret (v := .agg #[.int .i64 0, .slice (some ⟨b, 0, none⟩) l.length cap]) (by simp [results, Tryz.results133, go_sem, r0, r1]) rfl ⟨.slice (some ⟨b, 0, none⟩) l.length cap, by rw [unhide fin], ?_, ?_⟩
    · rw [unhide fin]
      have hne : ∀ b', (Value.slice (some ⟨b, 0, none⟩) l.length cap).ownBlock = some b' → b' ≠ w.heap.size := fun b' h => by simp only [Value.ownBlock, Option.some.injEq] at h; omega
      exact (((unhide HR).below B1).setOther _ _ hne).setOther _ _ hne
    · exact (B1.setCell (Nat.le_refl _) _).setCell (Nat.le_refl _) _
  · have fin := hide ((told_bad (l := l) (by rw [hq]; exact hz)).trans (by rw [hq]))
    have hz' : (q == 0) = false := by simp [hz]
    clear hq
    go_wp2_with fail
    refine bodyPost_ret (v := .agg #[.int .i64 q, .slice none 0 0]) (by simp [results, Tryz.results133, go_sem, r0, r1]) rfl ⟨.slice none 0 0, by rw [unhide fin], ?_, ?_⟩
    · rw [unhide fin]; exact ⟨by simp, .inl ⟨rfl, rfl⟩⟩
    · exact (B1.setCell (Nat.le_refl _) _).setCell (Nat.le_refl _) _

set_option maxHeartbeats 1000000 in
theorem implTold_any (s : Value) (B : Nat) (l : List M.Cl) (w : World) (h : Res w B s l) (hB : B ≤ w.heap.size) (hl : l ≠ []) (hn : l.length ≤ 1048576) (hok : ∀ c ∈ l, c.ok) :
    Calls Tryz.prog 181 #[s] w fun e w' => ∃ s', e = .returned (.agg #[.int .i64 (told l).1, s']) ∧ Res w' B s' (told l).2 ∧ Below w.heap.size w w' := by
  obtain ⟨b, cap, rfl, hcap, ho⟩ := res_any h hl
  have HR := hide h
  have OK := hide hok
  clear h hok
  have B0 : ∀ o, Below w.heap.size w (w.alloc o) := fun o => (Below.refl _ _).alloc (Nat.le_refl _) o
  have HB0 := hide B0
  clear B0
  have hlt := ho.lt
  go_enter Tryz.func181, Tryz.ntmps181
  go_wp2_with fail
  refine (implFault_any l b 0 cap _ (ho.row.below ((unhide HB0) _) hlt) (by simp; omega) hn hcap (unhide OK)).mono ?_
  rintro e1 w1 ⟨rfl, hb1⟩
  have hR : Own w1 w.heap.size 59 [.int .i64 0, .slice none 0 0] := Own.below ⟨_, heap_alloc_new _ _, rfl⟩ hb1 (by simp)
  have B1 : Below w.heap.size w w1 := ((unhide HB0) _).trans (hb1.mono (by simp))
  have r0 := hR.cell 0
  have r1 := hR.cell 1
  have z0 := hR.frozen 0
  have z1 := hR.frozen 1
  simp only [List.getElem?_cons_zero, List.getElem?_cons_succ] at r0 r1
  clear hb1
  generalize hq : M.valueFault l = q
  by_cases hz : q = 0
  · subst hz
    have fin := hide (told_ok hq)
    clear hq
    go_wp2_with fail
    refine bodyPost_ret (v := .agg #[.int .i64 0, .slice (some ⟨b, 0, none⟩) l.length cap]) (by simp [results, Tryz.results181, go_sem, r0, r1]) rfl ⟨.slice (some ⟨b, 0, none⟩) l.length cap, by rw [unhide fin], ?_, ?_⟩
    · rw [unhide fin]
      have hne : ∀ b', (Value.slice (some ⟨b, 0, none⟩) l.length cap).ownBlock = some b' → b' ≠ w.heap.size := fun b' h => by simp only [Value.ownBlock, Option.some.injEq] at h; omega
      exact (((unhide HR).below B1).setOther _ _ hne).setOther _ _ hne
    · exact (B1.setCell (Nat.le_refl _) _).setCell (Nat.le_refl _) _
  · have fin := hide ((told_bad (l := l) (by rw [hq]; exact hz)).trans (by rw [hq]))
    have hz' : (q == 0) = false := by simp [hz]
    clear hq
    go_wp2_with fail
    refine bodyPost_ret (v := .agg #[.int .i64 q, .slice none 0 0]) (by simp [results, Tryz.results181, go_sem, r0, r1]) rfl ⟨.slice none 0 0, by rw [unhide fin], ?_, ?_⟩
    · rw [unhide fin]; exact ⟨by simp, .inl ⟨rfl, rfl⟩⟩
    · exact (B1.setCell (Nat.le_refl _) _).setCell (Nat.le_refl _) _

end Go.Proofs.YtcglddahphkcpaaGreatDoor
