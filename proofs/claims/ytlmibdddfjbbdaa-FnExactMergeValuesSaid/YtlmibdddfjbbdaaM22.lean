/-
  How many cells lists of cells have together, and what the readers of such lists are told.
  An array of values: what both ArrayValue answer, as a plain function of the lists.
  spec.ArrayValue.
-/
import Derived.Test.YtlmibdddfjbbdaaM00
import Derived.Test.YtlmibdddfjbbdaaM05
import Derived.Test.YtlmibdddfjbbdaaM11
import Derived.Test.YtlmibdddfjbbdaaM12
namespace Go.Proofs.Ytlmibdddfjbbdaa
open Go.RowKit
set_option linter.unusedVariables false

/-- How many cells the first k lists have. -/
def tot (ps : List (List M.Cl)) (k : Nat) : Nat := ((ps.take k).map List.length).sum

theorem tot_succ (ps : List (List M.Cl)) (k : Nat) (hk : k < ps.length) : tot ps (k + 1) = tot ps k + (ps.getD k []).length := by
  unfold tot
  rw [List.take_add_one, List.getElem?_eq_getElem hk, List.map_append, List.sum_append, List.getD_eq_getElem?_getD, List.getElem?_eq_getElem hk]
  simp

theorem tot_le (ps : List (List M.Cl)) (n k : Nat) (h : k ≤ n) (hn : n ≤ ps.length) : tot ps k ≤ tot ps n := by
  induction n with
  | zero => rw [show k = 0 from by omega]; exact Nat.le_refl _
  | succ n ih =>
    by_cases e : k = n + 1
    · rw [e]; exact Nat.le_refl _
    · have := ih (by omega) (by omega)
      rw [tot_succ ps n (by omega)]
      omega

end Go.Proofs.Ytlmibdddfjbbdaa

namespace Go.Proofs.Ytlmibdddfjbbdaa
open Go.RowKit
set_option linter.unusedVariables false

theorem empty_list : ByteArray.empty.toList = [] := by unfold ByteArray.toList ByteArray.toList.loop; rfl
theorem fault_key {v : List M.Cl} (h : M.valueFault v = 0) : (v.getD 0 M.zero).key = ByteArray.empty := by
  refine bytes_ext ?_
  rw [empty_list]
  unfold M.valueFault at h
  split at h
  · cases h
  split at h
  · rename_i h2; exact absurd h h2
  split at h
  · cases h
  split at h
  · cases h
  · rename_i h2
    by_cases e : (v.getD 0 M.zero).key.toList = []
    · exact e
    · exact absurd (.inr e) h2
theorem fault_len {v : List M.Cl} (h : M.valueFault v = 0) : 1 ≤ v.length ∧ v.length ≤ 200 := ⟨(M.fault_zero h).1, (M.fault_zero h).2.1⟩
theorem setKey_none {v : List M.Cl} (h : M.valueFault v = 0) : setKey v ByteArray.empty = v := by
  have hk := fault_key h
  have hl := (fault_len h).1
  cases v with
  | nil => simp at hl
  | cons c r =>
    simp only [List.getD_cons_zero] at hk
    unfold setKey
    rw [← hk]

def headCl (kind : Int) (n : Nat) : M.Cl := ⟨kind, 0, ByteArray.empty, ByteArray.empty, n⟩
def arrK (ps : List (List M.Cl)) (k : Nat) : List M.Cl := headCl 5 ps.length :: (ps.take k).flatten
def arrV (ps : List (List M.Cl)) : List M.Cl := arrK ps ps.length
theorem arrK_length (ps : List (List M.Cl)) (k : Nat) : (arrK ps k).length = tot ps k + 1 := by
  unfold arrK tot
  rw [List.length_cons, List.length_flatten]
def firstBad : List (List M.Cl) → Int
  | [] => 0
  | p :: r => if M.valueFault p = 0 then firstBad r else M.valueFault p
theorem firstBad_hit (ps : List (List M.Cl)) (k : Nat) (h : ∀ j, j < k → M.valueFault (ps.getD j []) = 0) (hk : k < ps.length) (hz : M.valueFault (ps.getD k []) ≠ 0) : firstBad ps = M.valueFault (ps.getD k []) := by
  induction ps generalizing k with
  | nil => simp at hk
  | cons p r ih =>
    unfold firstBad
    cases k with
    | zero =>
      simp only [List.getD_cons_zero] at hz ⊢
      rw [if_neg hz]
    | succ k =>
      have h0 := h 0 (by omega)
      simp only [List.getD_cons_zero] at h0
      rw [if_pos h0]
      simp only [List.getD_cons_succ] at hz ⊢
      exact ih k (fun j hj => by have := h (j + 1) (by omega); simpa only [List.getD_cons_succ] using this) (by simpa using hk) hz
theorem firstBad_none (ps : List (List M.Cl)) (h : ∀ j, j < ps.length → M.valueFault (ps.getD j []) = 0) : firstBad ps = 0 := by
  induction ps with
  | nil => rfl
  | cons p r ih =>
    unfold firstBad
    have h0 := h 0 (by simp)
    simp only [List.getD_cons_zero] at h0
    rw [if_pos h0]
    exact ih (fun j hj => by have := h (j + 1) (by simpa using hj); simpa only [List.getD_cons_succ] using this)
def told (l : List M.Cl) : Int × List M.Cl := if M.valueFault l = 0 then (0, l) else (M.valueFault l, [])
theorem told_ok {l : List M.Cl} (h : M.valueFault l = 0) : told l = (0, l) := if_pos h
theorem told_bad {l : List M.Cl} (h : M.valueFault l ≠ 0) : told l = (M.valueFault l, []) := if_neg h
/-- The cells of lists that are right to be laid are so. -/
def OkS (ps : List (List M.Cl)) : Prop := ∀ i, i < ps.length → ∀ c ∈ ps.getD i [], c.ok
/-- A row of one cell, laid by a literal. -/
theorem one_own (w : World) (B b : Nat) (c : M.Cl) (hb : b = w.heap.size) (hB : B ≤ w.heap.size) : (w.alloc (.cells #[.int .i64 c.kind, .int .i64 c.num, .string c.text, .string c.key, .int .i64 c.n] 41)).ownsRow B 41 5 (.slice (some ⟨b, 0, none⟩) 1 1) 1 (flat [c]) := by
  subst hb
  exact ⟨rfl, .inr ⟨w.heap.size, 1, _, rfl, hB, heap_alloc_new _ _, Nat.le_refl _, by simp [maxLen], rfl, rfl⟩⟩

theorem res_any {w : World} {B : Nat} {s : Value} {l : List M.Cl} (h : Res w B s l) (hl : l ≠ []) : ∃ b cap, s = .slice (some ⟨b, 0, none⟩) l.length cap ∧ l.length ≤ cap ∧ OwnG w b 41 l := by
  obtain ⟨_, ⟨_, rfl⟩ | ⟨b, cap, h1, _, h3, h4⟩⟩ := h
  · exact absurd rfl hl
  · exact ⟨b, cap, h1, h3, h4⟩
end Go.Proofs.Ytlmibdddfjbbdaa

namespace Go.Proofs.Ytlmibdddfjbbdaa
open Go.RowKit
set_option linter.unusedVariables false

set_option maxHeartbeats 1000000 in
theorem specTold_any (s : Value) (B : Nat) (l : List M.Cl) (w : World) (h : Res w B s l) (hB : B ≤ w.heap.size) (hl : l ≠ []) (hn : l.length ≤ 1048576) (hok : ∀ c ∈ l, c.ok) :
    Calls Try.prog 16 #[s] w fun e w' => ∃ s', e = .returned (.agg #[.int .i64 (told l).1, s']) ∧ Res w' B s' (told l).2 ∧ Below w.heap.size w w' := by
  obtain ⟨b, cap, rfl, hcap, ho⟩ := res_any h hl
  have HR := hide h
  have OK := hide hok
  clear h hok
  have B0 : ∀ o, Below w.heap.size w (w.alloc o) := fun o => (Below.refl _ _).alloc (Nat.le_refl _) o
  have HB0 := hide B0
  clear B0
  have hlt := ho.lt
  go_enter Try.func16, Try.ntmps16
  go_wp2_with fail
  refine (specFault_any l b 0 cap _ (ho.row.below ((unhide HB0) _) hlt) (by simp; omega) hn hcap (unhide OK)).mono ?_
  rintro e1 w1 ⟨rfl, hb1⟩
  have hR : Own w1 w.heap.size 26 [.int .i64 0, .slice none 0 0] := Own.below ⟨_, heap_alloc_new _ _, rfl⟩ hb1 (by simp)
  have B1 : Below w.heap.size w w1 := ((unhide HB0) _).trans (hb1.mono (by simp))
  have r0 := hR.cell 0
  have r1 := hR.cell 1
  have z0 := hR.frozen 0
  have z1 := hR.frozen 1
  simp only [List.getElem?_cons_zero, List.getElem?_cons_succ] at r0 r1
  clear hb1
  generalize hq : M.valueFault l = q
  by_cases hz : q = 0
  · subst hz
    have fin := hide (told_ok hq)
    clear hq
    go_wp2_with fail
    refine bodyPost_ret (v := .agg #[.int .i64 0, .slice (some ⟨b, 0, none⟩) l.length cap]) (by simp [results, Try.results16, go_sem, r0, r1]) rfl ⟨.slice (some ⟨b, 0, none⟩) l.length cap, by rw [unhide fin], ?_, ?_⟩
    · rw [unhide fin]
      have hne : ∀ b', (Value.slice (some ⟨b, 0, none⟩) l.length cap).ownBlock = some b' → b' ≠ w.heap.size := fun b' h => by simp only [Value.ownBlock, Option.some.injEq] at h; omega
      exact (((unhide HR).below B1).setOther _ _ hne).setOther _ _ hne
    · exact (B1.setCell (Nat.le_refl _) _).setCell (Nat.le_refl _) _
  · have fin := hide ((told_bad (l := l) (by rw [hq]; exact hz)).trans (by rw [hq]))
    have hz' : (q == 0) = false := by simp [hz]
    clear hq
    go_wp2_with fail
    refine bodyPost_ret (v := .agg #[.int .i64 q, .slice none 0 0]) (by simp [results, Try.results16, go_sem, r0, r1]) rfl ⟨.slice none 0 0, by rw [unhide fin], ?_, ?_⟩
    · rw [unhide fin]; exact ⟨by simp, .inl ⟨rfl, rfl⟩⟩
    · exact (B1.setCell (Nat.le_refl _) _).setCell (Nat.le_refl _) _

set_option maxHeartbeats 1000000 in
theorem implTold_any (s : Value) (B : Nat) (l : List M.Cl) (w : World) (h : Res w B s l) (hB : B ≤ w.heap.size) (hl : l ≠ []) (hn : l.length ≤ 1048576) (hok : ∀ c ∈ l, c.ok) :
    Calls Try.prog 20 #[s] w fun e w' => ∃ s', e = .returned (.agg #[.int .i64 (told l).1, s']) ∧ Res w' B s' (told l).2 ∧ Below w.heap.size w w' := by
  obtain ⟨b, cap, rfl, hcap, ho⟩ := res_any h hl
  have HR := hide h
  have OK := hide hok
  clear h hok
  have B0 : ∀ o, Below w.heap.size w (w.alloc o) := fun o => (Below.refl _ _).alloc (Nat.le_refl _) o
  have HB0 := hide B0
  clear B0
  have hlt := ho.lt
  go_enter Try.func20, Try.ntmps20
  go_wp2_with fail
  refine (implFault_any l b 0 cap _ (ho.row.below ((unhide HB0) _) hlt) (by simp; omega) hn hcap (unhide OK)).mono ?_
  rintro e1 w1 ⟨rfl, hb1⟩
  have hR : Own w1 w.heap.size 26 [.int .i64 0, .slice none 0 0] := Own.below ⟨_, heap_alloc_new _ _, rfl⟩ hb1 (by simp)
  have B1 : Below w.heap.size w w1 := ((unhide HB0) _).trans (hb1.mono (by simp))
  have r0 := hR.cell 0
  have r1 := hR.cell 1
  have z0 := hR.frozen 0
  have z1 := hR.frozen 1
  simp only [List.getElem?_cons_zero, List.getElem?_cons_succ] at r0 r1
  clear hb1
  generalize hq : M.valueFault l = q
  by_cases hz : q = 0
  · subst hz
    have fin := hide (told_ok hq)
    clear hq
    go_wp2_with fail
    refine bodyPost_ret (v := .agg #[.int .i64 0, .slice (some ⟨b, 0, none⟩) l.length cap]) (by simp [results, Try.results20, go_sem, r0, r1]) rfl ⟨.slice (some ⟨b, 0, none⟩) l.length cap, by rw [unhide fin], ?_, ?_⟩
    · rw [unhide fin]
      have hne : ∀ b', (Value.slice (some ⟨b, 0, none⟩) l.length cap).ownBlock = some b' → b' ≠ w.heap.size := fun b' h => by simp only [Value.ownBlock, Option.some.injEq] at h; omega
      exact (((unhide HR).below B1).setOther _ _ hne).setOther _ _ hne
    · exact (B1.setCell (Nat.le_refl _) _).setCell (Nat.le_refl _) _
  · have fin := hide ((told_bad (l := l) (by rw [hq]; exact hz)).trans (by rw [hq]))
    have hz' : (q == 0) = false := by simp [hz]
    clear hq
    go_wp2_with fail
    refine bodyPost_ret (v := .agg #[.int .i64 q, .slice none 0 0]) (by simp [results, Try.results20, go_sem, r0, r1]) rfl ⟨.slice none 0 0, by rw [unhide fin], ?_, ?_⟩
    · rw [unhide fin]; exact ⟨by simp, .inl ⟨rfl, rfl⟩⟩
    · exact (B1.setCell (Nat.le_refl _) _).setCell (Nat.le_refl _) _

end Go.Proofs.Ytlmibdddfjbbdaa
