/-
  How many cells lists of cells have together, and what the readers of such lists are told.
  An array of values: what both ArrayValue answer, as a plain function of the lists.
  spec.ArrayValue.
  Lists of lists of cells and lists of texts, wherever their slices lie: what those are told that read them.
  An answer that holds lists of cells: what the laws' helpers find, mark and find again in it.
-/
import Derived.Test.YtcglddahphkcpaaGreatDoorV00
import Derived.Test.YtcglddahphkcpaaGreatDoorV05
import Derived.Test.YtcglddahphkcpaaGreatDoorV06
import Derived.Test.YtcglddahphkcpaaGreatDoorV08
import Derived.Test.YtcglddahphkcpaaGreatDoorV09
import Derived.Test.YtcglddahphkcpaaGreatDoorV11
import Derived.Test.YtcglddahphkcpaaGreatDoorV16
import Derived.Deep.RegionHeld
import Derived.Deep.Slices
namespace Go.Proofs.YtcglddahphkcpaaGreatDoor
open Go.RowKit
set_option linter.unusedVariables false

/-- How many cells the first k lists have. -/
def tot (ps : List (List M.Cl)) (k : Nat) : Nat := ((ps.take k).map List.length).sum

theorem tot_zero (ps : List (List M.Cl)) : tot ps 0 = 0 := by simp [tot]

theorem tot_succ (ps : List (List M.Cl)) (k : Nat) (hk : k < ps.length) : tot ps (k + 1) = tot ps k + (ps.getD k []).length := by
  unfold tot
  rw [List.take_add_one, List.getElem?_eq_getElem hk, List.map_append, List.sum_append, List.getD_eq_getElem?_getD, List.getElem?_eq_getElem hk]
  simp

theorem tot_le (ps : List (List M.Cl)) (n k : Nat) (h : k ≤ n) (hn : n ≤ ps.length) : tot ps k ≤ tot ps n := by
  induction n with
  | zero => rw [show k = 0 from by omega]; exact Nat.le_refl _
  | succ n ih =>
    by_cases e : k = n + 1
    · rw [e]; exact Nat.le_refl _
    · have := ih (by omega) (by omega)
      rw [tot_succ ps n (by omega)]
      omega

theorem len_le (ps : List (List M.Cl)) (i : Nat) (hi : i < ps.length) : (ps.getD i []).length ≤ tot ps ps.length := by
  have h1 := tot_succ ps i hi
  have h2 := tot_le ps ps.length (i + 1) (by omega) (Nat.le_refl _)
  omega

/-- What the readers are told of it. -/
def LR (w : World) (g : Nat) (ps : List (List M.Cl)) : Prop :=
  g < w.heap.size ∧ ∀ i, i < ps.length → ∃ b, w.cell? ⟨g, i, none⟩ = some (.slice (some ⟨b, 0, none⟩) (ps.getD i []).length (ps.getD i []).length) ∧ b < w.heap.size ∧ Row w b 0 (ps.getD i [])

theorem LR.below {w w' : World} {g : Nat} {ps : List (List M.Cl)} (h : LR w g ps) (hb : Below w.heap.size w w') : LR w' g ps := by
  refine ⟨Nat.lt_of_lt_of_le h.1 hb.size, fun i hi => ?_⟩
  obtain ⟨b, h1, h2, h3⟩ := h.2 i hi
  exact ⟨b, (hb.cell h.1).trans h1, Nat.lt_of_lt_of_le h2 hb.size, h3.below hb h2⟩

end Go.Proofs.YtcglddahphkcpaaGreatDoor

namespace Go.Proofs.YtcglddahphkcpaaGreatDoor
open Go.RowKit
set_option linter.unusedVariables false

theorem empty_list : ByteArray.empty.toList = [] := by unfold ByteArray.toList ByteArray.toList.loop; rfl
theorem fault_key {v : List M.Cl} (h : M.valueFault v = 0) : (v.getD 0 M.zero).key = ByteArray.empty := by
  refine bytes_ext ?_
  rw [empty_list]
  unfold M.valueFault at h
  split at h
  · cases h
  split at h
  · rename_i h2; exact absurd h h2
  split at h
  · cases h
  split at h
  · cases h
  · rename_i h2
    by_cases e : (v.getD 0 M.zero).key.toList = []
    · exact e
    · exact absurd (.inr e) h2
theorem fault_len {v : List M.Cl} (h : M.valueFault v = 0) : 1 ≤ v.length ∧ v.length ≤ 200 := ⟨(M.fault_zero h).1, (M.fault_zero h).2.1⟩
theorem setKey_none {v : List M.Cl} (h : M.valueFault v = 0) : setKey v ByteArray.empty = v := by
  have hk := fault_key h
  have hl := (fault_len h).1
  cases v with
  | nil => simp at hl
  | cons c r =>
    simp only [List.getD_cons_zero] at hk
    unfold setKey
    rw [← hk]

def headCl (kind : Int) (n : Nat) : M.Cl := ⟨kind, 0, ByteArray.empty, ByteArray.empty, n⟩
def arrK (ps : List (List M.Cl)) (k : Nat) : List M.Cl := headCl 5 ps.length :: (ps.take k).flatten
def arrV (ps : List (List M.Cl)) : List M.Cl := arrK ps ps.length
theorem arrK_succ (ps : List (List M.Cl)) (k : Nat) (hk : k < ps.length) : arrK ps (k + 1) = arrK ps k ++ ps.getD k [] := by
  unfold arrK
  have e : (ps.take (k + 1)).flatten = (ps.take k).flatten ++ ps.getD k [] := by
    rw [List.take_add_one, List.getElem?_eq_getElem hk, List.getD_eq_getElem?_getD, List.getElem?_eq_getElem hk, List.flatten_append]
    simp only [Option.toList_some, Option.getD_some, List.flatten_cons, List.flatten_nil, List.append_nil]
  rw [e, List.cons_append]
theorem arrK_length (ps : List (List M.Cl)) (k : Nat) : (arrK ps k).length = tot ps k + 1 := by
  unfold arrK tot
  rw [List.length_cons, List.length_flatten]
theorem tot_small (ps : List (List M.Cl)) (k : Nat) (hk : k ≤ ps.length) (h : ∀ j, j < k → (ps.getD j []).length ≤ 200) : tot ps k ≤ 200 * k := by
  induction k with
  | zero => rw [tot_zero]; omega
  | succ k ih =>
    have := ih (by omega) (fun j hj => h j (by omega))
    have := h k (by omega)
    rw [tot_succ ps k (by omega)]
    omega

def firstBad : List (List M.Cl) → Int
  | [] => 0
  | p :: r => if M.valueFault p = 0 then firstBad r else M.valueFault p
theorem firstBad_hit (ps : List (List M.Cl)) (k : Nat) (h : ∀ j, j < k → M.valueFault (ps.getD j []) = 0) (hk : k < ps.length) (hz : M.valueFault (ps.getD k []) ≠ 0) : firstBad ps = M.valueFault (ps.getD k []) := by
  induction ps generalizing k with
  | nil => simp at hk
  | cons p r ih =>
    unfold firstBad
    cases k with
    | zero =>
      simp only [List.getD_cons_zero] at hz ⊢
      rw [if_neg hz]
    | succ k =>
      have h0 := h 0 (by omega)
      simp only [List.getD_cons_zero] at h0
      rw [if_pos h0]
      simp only [List.getD_cons_succ] at hz ⊢
      exact ih k (fun j hj => by have := h (j + 1) (by omega); simpa only [List.getD_cons_succ] using this) (by simpa using hk) hz
theorem firstBad_none (ps : List (List M.Cl)) (h : ∀ j, j < ps.length → M.valueFault (ps.getD j []) = 0) : firstBad ps = 0 := by
  induction ps with
  | nil => rfl
  | cons p r ih =>
    unfold firstBad
    have h0 := h 0 (by simp)
    simp only [List.getD_cons_zero] at h0
    rw [if_pos h0]
    exact ih (fun j hj => by have := h (j + 1) (by simpa using hj); simpa only [List.getD_cons_succ] using this)
def told (l : List M.Cl) : Int × List M.Cl := if M.valueFault l = 0 then (0, l) else (M.valueFault l, [])
theorem told_ok {l : List M.Cl} (h : M.valueFault l = 0) : told l = (0, l) := if_pos h
theorem told_bad {l : List M.Cl} (h : M.valueFault l ≠ 0) : told l = (M.valueFault l, []) := if_neg h
/-- The cells of lists that are right to be laid are so. -/
def OkS (ps : List (List M.Cl)) : Prop := ∀ i, i < ps.length → ∀ c ∈ ps.getD i [], c.ok
theorem arrK_ok (ps : List (List M.Cl)) (hn : ps.length ≤ 4096) (h : OkS ps) (k : Nat) (hk : k ≤ ps.length) : ∀ c ∈ arrK ps k, c.ok := by
  induction k with
  | zero =>
    intro c hc
    simp only [arrK, List.take_zero, List.flatten_nil, List.mem_cons, List.not_mem_nil, or_false] at hc
    subst hc
    unfold M.Cl.ok headCl
    refine ⟨?_, ?_, ?_, ?_, ?_⟩ <;> simp <;> omega
  | succ k ih =>
    rw [arrK_succ ps k (by omega)]
    intro c hc
    rcases List.mem_append.1 hc with hc | hc
    · exact ih (by omega) c hc
    · exact h k (by omega) c hc

/-- A row of one cell, laid by a literal. -/
theorem one_own (w : World) (B b : Nat) (c : M.Cl) (hb : b = w.heap.size) (hB : B ≤ w.heap.size) : (w.alloc (.cells #[.int .i64 c.kind, .int .i64 c.num, .string c.text, .string c.key, .int .i64 c.n] 111)).ownsRow B 111 5 (.slice (some ⟨b, 0, none⟩) 1 1) 1 (flat [c]) := by
  subst hb
  exact ⟨rfl, .inr ⟨w.heap.size, 1, _, rfl, hB, heap_alloc_new _ _, Nat.le_refl _, by simp [maxLen], rfl, rfl⟩⟩

theorem res_any {w : World} {B : Nat} {s : Value} {l : List M.Cl} (h : Res w B s l) (hl : l ≠ []) : ∃ b cap, s = .slice (some ⟨b, 0, none⟩) l.length cap ∧ l.length ≤ cap ∧ OwnG w b 111 l := by
  obtain ⟨_, ⟨_, rfl⟩ | ⟨b, cap, h1, _, h3, h4⟩⟩ := h
  · exact absurd rfl hl
  · exact ⟨b, cap, h1, h3, h4⟩
end Go.Proofs.YtcglddahphkcpaaGreatDoor

namespace Go.Proofs.YtcglddahphkcpaaGreatDoor
open Go.RowKit
set_option linter.unusedVariables false

set_option maxHeartbeats 1000000 in
theorem specTold_any (s : Value) (B : Nat) (l : List M.Cl) (w : World) (h : Res w B s l) (hB : B ≤ w.heap.size) (hl : l ≠ []) (hn : l.length ≤ 1048576) (hok : ∀ c ∈ l, c.ok) :
    Calls Tryz.prog 133 #[s] w fun e w' => ∃ s', e = .returned (.agg #[.int .i64 (told l).1, s']) ∧ Res w' B s' (told l).2 ∧ Below w.heap.size w w' := by
  obtain ⟨b, cap, rfl, hcap, ho⟩ := res_any h hl
  have HR := hide h
  have OK := hide hok
  clear h hok
  have B0 : ∀ o, Below w.heap.size w (w.alloc o) := fun o => (Below.refl _ _).alloc (Nat.le_refl _) o
  have HB0 := hide B0
  clear B0
  have hlt := ho.lt
  go_enter Tryz.func133, Tryz.ntmps133
  go_wp2_with fail
  refine (specFault_any l b 0 cap _ (ho.row.below ((unhide HB0) _) hlt) (by simp; omega) hn hcap (unhide OK)).mono ?_
  rintro e1 w1 ⟨rfl, hb1⟩
  have hR : Own w1 w.heap.size 59 [.int .i64 0, .slice none 0 0] := Own.below ⟨_, heap_alloc_new _ _, rfl⟩ hb1 (by simp)
  have B1 : Below w.heap.size w w1 := ((unhide HB0) _).trans (hb1.mono (by simp))
  have r0 := hR.cell 0
  have r1 := hR.cell 1
  have z0 := hR.frozen 0
  have z1 := hR.frozen 1
  simp only [List.getElem?_cons_zero, List.getElem?_cons_succ] at r0 r1
  clear hb1
  generalize hq : M.valueFault l = q
  by_cases hz : q = 0
  · subst hz
    have fin := hide (told_ok hq)
    clear hq
    go_wp2_with fail
    refine bodyPost_ret (v := .agg #[.int .i64 0, .slice (some ⟨b, 0, none⟩) l.length cap]) (by simp [results, Tryz.results133, go_sem, r0, r1]) rfl ⟨.slice (some ⟨b, 0, none⟩) l.length cap, by rw [unhide fin], ?_, ?_⟩
    · rw [unhide fin]
      have hne : ∀ b', (Value.slice (some ⟨b, 0, none⟩) l.length cap).ownBlock = some b' → b' ≠ w.heap.size := fun b' h => by simp only [Value.ownBlock, Option.some.injEq] at h; omega
      exact (((unhide HR).below B1).setOther _ _ hne).setOther _ _ hne
    · exact (B1.setCell (Nat.le_refl _) _).setCell (Nat.le_refl _) _
  · have fin := hide ((told_bad (l := l) (by rw [hq]; exact hz)).trans (by rw [hq]))
    have hz' : (q == 0) = false := by simp [hz]
    clear hq
    go_wp2_with fail
    refine bodyPost_ret (v := .agg #[.int .i64 q, .slice none 0 0]) (by simp [results, Tryz.results133, go_sem, r0, r1]) rfl ⟨.slice none 0 0, by rw [unhide fin], ?_, ?_⟩
    · rw [unhide fin]; exact ⟨by simp, .inl ⟨rfl, rfl⟩⟩
    · exact (B1.setCell (Nat.le_refl _) _).setCell (Nat.le_refl _) _

set_option maxHeartbeats 1000000 in
theorem implTold_any (s : Value) (B : Nat) (l : List M.Cl) (w : World) (h : Res w B s l) (hB : B ≤ w.heap.size) (hl : l ≠ []) (hn : l.length ≤ 1048576) (hok : ∀ c ∈ l, c.ok) :
    Calls Tryz.prog 181 #[s] w fun e w' => ∃ s', e = .returned (.agg #[.int .i64 (told l).1, s']) ∧ Res w' B s' (told l).2 ∧ Below w.heap.size w w' := by
  obtain ⟨b, cap, rfl, hcap, ho⟩ := res_any h hl
  have HR := hide h
  have OK := hide hok
  clear h hok
  have B0 : ∀ o, Below w.heap.size w (w.alloc o) := fun o => (Below.refl _ _).alloc (Nat.le_refl _) o
  have HB0 := hide B0
  clear B0
  have hlt := ho.lt
  go_enter Tryz.func181, Tryz.ntmps181
  go_wp2_with fail
  refine (implFault_any l b 0 cap _ (ho.row.below ((unhide HB0) _) hlt) (by simp; omega) hn hcap (unhide OK)).mono ?_
  rintro e1 w1 ⟨rfl, hb1⟩
  have hR : Own w1 w.heap.size 59 [.int .i64 0, .slice none 0 0] := Own.below ⟨_, heap_alloc_new _ _, rfl⟩ hb1 (by simp)
  have B1 : Below w.heap.size w w1 := ((unhide HB0) _).trans (hb1.mono (by simp))
  have r0 := hR.cell 0
  have r1 := hR.cell 1
  have z0 := hR.frozen 0
  have z1 := hR.frozen 1
  simp only [List.getElem?_cons_zero, List.getElem?_cons_succ] at r0 r1
  clear hb1
  generalize hq : M.valueFault l = q
  by_cases hz : q = 0
  · subst hz
    have fin := hide (told_ok hq)
    clear hq
    go_wp2_with fail
    refine bodyPost_ret (v := .agg #[.int .i64 0, .slice (some ⟨b, 0, none⟩) l.length cap]) (by simp [results, Tryz.results181, go_sem, r0, r1]) rfl ⟨.slice (some ⟨b, 0, none⟩) l.length cap, by rw [unhide fin], ?_, ?_⟩
    · rw [unhide fin]
      have hne : ∀ b', (Value.slice (some ⟨b, 0, none⟩) l.length cap).ownBlock = some b' → b' ≠ w.heap.size := fun b' h => by simp only [Value.ownBlock, Option.some.injEq] at h; omega
      exact (((unhide HR).below B1).setOther _ _ hne).setOther _ _ hne
    · exact (B1.setCell (Nat.le_refl _) _).setCell (Nat.le_refl _) _
  · have fin := hide ((told_bad (l := l) (by rw [hq]; exact hz)).trans (by rw [hq]))
    have hz' : (q == 0) = false := by simp [hz]
    clear hq
    go_wp2_with fail
    refine bodyPost_ret (v := .agg #[.int .i64 q, .slice none 0 0]) (by simp [results, Tryz.results181, go_sem, r0, r1]) rfl ⟨.slice none 0 0, by rw [unhide fin], ?_, ?_⟩
    · rw [unhide fin]; exact ⟨by simp, .inl ⟨rfl, rfl⟩⟩
    · exact (B1.setCell (Nat.le_refl _) _).setCell (Nat.le_refl _) _

end Go.Proofs.YtcglddahphkcpaaGreatDoor

namespace Go.Proofs.YtcglddahphkcpaaGreatDoor
open Go.RowKit
set_option linter.unusedVariables false

/-- The slice from a on holds slices, the i-th of which holds the cells of the i-th list. -/
def LV (w : World) (a : Option Addr) (ps : List (List M.Cl)) : Prop :=
  ∀ i, i < ps.length → ∃ g b off c, a = some ⟨g, 0, none⟩ ∧ g < w.heap.size ∧ w.cell? ⟨g, i, none⟩ = some (.slice (some ⟨b, off, none⟩) (ps.getD i []).length c) ∧ (ps.getD i []).length ≤ c ∧ b < w.heap.size ∧ Row w b off (ps.getD i [])
theorem LV.below {w w' : World} {a : Option Addr} {ps : List (List M.Cl)} (h : LV w a ps) (hb : Below w.heap.size w w') : LV w' a ps := by
  intro i hi
  obtain ⟨g, b, off, c, rfl, h1, h2, h3, h4, h5⟩ := h i hi
  exact ⟨g, b, off, c, rfl, Nat.lt_of_lt_of_le h1 hb.size, (hb.cell h1).trans h2, h3, Nat.lt_of_lt_of_le h4 hb.size, h5.below hb h4⟩
/-- The slice from a on holds the texts. -/
def TV (w : World) (a : Option Addr) (ks : List ByteArray) : Prop := ∀ i, i < ks.length → ∃ g, a = some ⟨g, 0, none⟩ ∧ g < w.heap.size ∧ w.cell? ⟨g, i, none⟩ = some (.string (ks.getD i ByteArray.empty))
theorem TV.below {w w' : World} {a : Option Addr} {ks : List ByteArray} (h : TV w a ks) (hb : Below w.heap.size w w') : TV w' a ks := by
  intro i hi
  obtain ⟨g, rfl, h1, h2⟩ := h i hi
  exact ⟨g, rfl, Nat.lt_of_lt_of_le h1 hb.size, (hb.cell h1).trans h2⟩

theorem row_at {w : World} {base g cap n : Nat} {e : TypeId} {cur : Array Value} {xs : List Value} {i : Nat} (hh : w.heap[g]? = some (.cells cur e (0, 0))) (ht : cur.toList.take (n * 1) = xs) (hi : i < n) : w.cell? ⟨g, i, none⟩ = xs[i]? := by
  rw [cell_of_row w g i cur e (0, 0) hh]
  have h3 : cur.toList[i]? = xs[i]? := by rw [← ht, List.getElem?_take, if_pos (by omega)]
  have h4 : cur[i]? = cur.toList[i]? := by simp
  rw [h4, h3]

theorem SS.lv {w : World} {B : Nat} {v : Value} {ps : List (List M.Cl)} (h : SS w B v ps) (hne : ∀ i, i < ps.length → ps.getD i [] ≠ []) : ∃ a c, v = .slice a ps.length c ∧ ps.length ≤ c ∧ LV w a ps := by
  obtain ⟨ss, hl, ho, hr⟩ := h
  obtain ⟨_, ⟨rfl, h0⟩ | ⟨g, cap, cur, rfl, hg, hh, hnc, hcm, hcs, ht⟩⟩ := ho
  · exact ⟨none, 0, by rw [h0], by omega, fun i hi => by omega⟩
  · refine ⟨_, cap, rfl, hnc, fun i hi => ?_⟩
    obtain ⟨b, c, e, hc, hO⟩ := res_any (hr i hi) (hne i hi)
    refine ⟨g, b, 0, c, rfl, (Array.getElem?_eq_some_iff.1 hh).1, ?_, hc, hO.lt, hO.row⟩
    rw [row_at (base := 0) (cap := 0) hh ht hi, List.getElem?_eq_getElem (by omega)]
    rw [List.getD_eq_getElem?_getD, List.getElem?_eq_getElem (by omega)] at e
    simp only [Option.getD_some] at e
    rw [e]
theorem KS.tv {w : World} {B : Nat} {v : Value} {ks : List ByteArray} (h : KS w B v ks) : ∃ a c, v = .slice a ks.length c ∧ ks.length ≤ c ∧ TV w a ks := by
  obtain ⟨_, ⟨rfl, h0⟩ | ⟨g, cap, cur, rfl, hg, hh, hnc, hcm, hcs, ht⟩⟩ := h
  · exact ⟨none, 0, by rw [h0], by omega, fun i hi => by omega⟩
  · refine ⟨_, cap, rfl, hnc, fun i hi => ⟨g, rfl, (Array.getElem?_eq_some_iff.1 hh).1, ?_⟩⟩
    rw [row_at (base := 0) (cap := 0) hh ht hi, List.getElem?_map, List.getElem?_eq_getElem hi, List.getD_eq_getElem?_getD, List.getElem?_eq_getElem hi]
    rfl

/-- What a part of a value without a fault is. -/
theorem subs_all {v : List M.Cl} (hv : M.valueFault v = 0) (hok : ∀ c ∈ v, c.ok) : (subs v 0).length ≤ 200 ∧ (∀ j, j < (subs v 0).length → M.valueFault ((subs v 0).getD j []) = 0) ∧ OkS (subs v 0) ∧ ∀ j, j < (subs v 0).length → (subs v 0).getD j [] ≠ [] := by
  have hl := (M.fault_zero hv).1
  have hmem : ∀ j, j < (subs v 0).length → (subs v 0).getD j [] ∈ subs v 0 := fun j hj => by
    rw [List.getD_eq_getElem?_getD, List.getElem?_eq_getElem hj]; exact List.getElem_mem hj
  have h1 : ∀ j, j < (subs v 0).length → M.valueFault ((subs v 0).getD j []) = 0 := fun j hj => (subs_ok hv hok (by omega) _ (hmem j hj)).1
  refine ⟨by rw [subs_length]; exact (M.places_in hv 0 (by omega)).2.2.2, h1, fun j hj => (subs_ok hv hok (by omega) _ (hmem j hj)).2.2, fun j hj e => ?_⟩
  have := (fault_len (h1 j hj)).1
  rw [e] at this
  simp at this

set_option maxHeartbeats 1000000 in
theorem firstFaultV_any (a : Option Addr) (cap : Nat) (ps : List (List M.Cl)) (w : World) (hL : LV w a ps) (hcap : ps.length ≤ cap) (hn : ps.length ≤ 1048576) (hln : ∀ j, j < ps.length → (ps.getD j []).length ≤ 1048576) (hok : OkS ps) :
    Calls Tryz.prog 200 #[.slice a ps.length cap] w fun e w' => e = .returned (.int .i64 (firstBad ps)) ∧ Below w.heap.size w w' := by
  have HL := hide hL
  have OK := hide hok
  have HN := hide hln
  clear hL hok hln
  go_enter Tryz.func200, Tryz.ntmps200
  go_wp2_with fail
  go_loopg [8] ps.length (fun gh s8 wr => ∃ k : Nat, Hid (gh = ps.length - k) ∧ s8 = .int .i64 k ∧ k ≤ ps.length ∧ Hid (∀ j, j < k → M.valueFault (ps.getD j []) = 0) ∧ Below w.heap.size w wr)
  case atStart => exact ⟨0, rfl, rfl, by omega, fun j hj => absurd hj (by omega), Below.refl _ _⟩
  case round =>
    obtain ⟨k, hg, rfl, hk, hall, hbel⟩ := hrel
    by_cases hlt : k < ps.length
    · obtain ⟨g, b, off, c, rfl, hgl, f0, hc, hb, hr⟩ := ((unhide HL).below hbel) k hlt
      have hq := (unhide HN) k hlt
      have hok := hide ((unhide OK) k hlt)
      have hhit := hide (fun hz => firstBad_hit ps k hall.out hlt hz)
      have hnext := hide (fun (h0 : M.valueFault (ps.getD k []) = 0) j (hj : j < k + 1) => show M.valueFault (ps.getD j []) = 0 by
        by_cases e : j = k
        · subst e; exact h0
        · exact hall.out j (by omega))
      generalize ps.getD k [] = p at *
      go_wp2_with fail
      refine (implFault_any p b off c _ hr hb hq hc (unhide hok)).mono ?_
      rintro e1 w1 ⟨rfl, hb1⟩
      have B1 : Below w.heap.size w w1 := hbel.trans (hb1.mono hbel.size)
      clear hr f0 hok hb1 hbel
      generalize hqq : M.valueFault p = q at *
      by_cases hz : q = 0
      · subst hz
        have hn2 := hide ((unhide hnext) rfl)
        clear hhit hnext
        go_wp2_with fail
        go_roundg (ps.length - (k + 1))
        case rel => exact ⟨k + 1, rfl, by go_num, by omega, unhide hn2, B1⟩
        case measure => have := hg.out; omega
      · have fin := hide ((unhide hhit) hz)
        have hz' : (q == 0) = false := by simp [hz]
        clear hhit hnext hqq
        go_wp2_with fail
        go_ret
        exact ⟨ret_int (unhide fin).symm, B1⟩
    · have hke : k = ps.length := by omega
      have fin := hide (firstBad_none ps (by rw [← hke]; exact hall.out))
      clear hke
      go_wp2_with fail
      go_ret
      exact ⟨ret_int (unhide fin).symm, hbel⟩

end Go.Proofs.YtcglddahphkcpaaGreatDoor

namespace Go.Proofs.YtcglddahphkcpaaGreatDoor
open Go.RowKit
set_option linter.unusedVariables false

/-- The slice v holds slices, each in a block of its own; all blocks lie from lo on and ahead of hi. -/
def PR (w : World) (lo hi : Nat) (v : Value) (ps : List (List M.Cl)) : Prop :=
  (v = .slice none 0 0 ∧ ps = []) ∨ ∃ (g cap : Nat) (xs : List Value) (β γ : Nat → Nat), v = .slice (some ⟨g, 0, none⟩) ps.length cap ∧ ps.length ≤ cap ∧ lo ≤ g ∧ g < hi ∧ Own w g 24 xs ∧
    (∀ i, i < ps.length → xs[i]? = some (.slice (some ⟨β i, 0, none⟩) (ps.getD i []).length (γ i)) ∧ (ps.getD i []).length ≤ γ i ∧ lo ≤ β i ∧ β i < hi ∧ β i ≠ g ∧ OwnG w (β i) 111 (ps.getD i [])) ∧
    ∀ i j, i < j → j < ps.length → β i ≠ β j
/-- The same, without a word of what is shared. -/
def PS (w : World) (lo hi : Nat) (v : Value) (ps : List (List M.Cl)) : Prop :=
  (v = .slice none 0 0 ∧ ps = []) ∨ ∃ (g cap : Nat) (xs : List Value) (β γ : Nat → Nat), v = .slice (some ⟨g, 0, none⟩) ps.length cap ∧ ps.length ≤ cap ∧ lo ≤ g ∧ g < hi ∧ Own w g 24 xs ∧
    (∀ i, i < ps.length → xs[i]? = some (.slice (some ⟨β i, 0, none⟩) (ps.getD i []).length (γ i)) ∧ (ps.getD i []).length ≤ γ i ∧ lo ≤ β i ∧ β i < hi ∧ OwnG w (β i) 111 (ps.getD i []))
theorem PR.ps {w : World} {lo hi : Nat} {v : Value} {ps : List (List M.Cl)} (h : PR w lo hi v ps) : PS w lo hi v ps := by
  rcases h with h | ⟨g, cap, xs, β, γ, h1, h2, h3, h4, h5, h6, _⟩
  · exact .inl h
  · exact .inr ⟨g, cap, xs, β, γ, h1, h2, h3, h4, h5, fun i hi => ⟨(h6 i hi).1, (h6 i hi).2.1, (h6 i hi).2.2.1, (h6 i hi).2.2.2.1, (h6 i hi).2.2.2.2.2⟩⟩
theorem OwnG.keep {w w' : World} {b : Nat} {t : TypeId} {l : List M.Cl} (h : OwnG w b t l) (hk : w'.heap[b]? = w.heap[b]?) : OwnG w' b t l := by
  obtain ⟨xs, ⟨c, h1, h2⟩, h3⟩ := h; exact ⟨xs, ⟨c, hk.trans h1, h2⟩, h3⟩
theorem Own.keep {w w' : World} {b : Nat} {t : TypeId} {xs : List Value} (h : Own w b t xs) (hk : w'.heap[b]? = w.heap[b]?) : Own w' b t xs := by
  obtain ⟨c, h1, h2⟩ := h; exact ⟨c, hk.trans h1, h2⟩
theorem PR.keep {w w' : World} {lo hi : Nat} {v : Value} {ps : List (List M.Cl)} (h : PR w lo hi v ps) (hk : ∀ k, lo ≤ k → k < hi → k < w.heap.size → w'.heap[k]? = w.heap[k]?) : PR w' lo hi v ps := by
  rcases h with h | ⟨g, cap, xs, β, γ, h1, h2, h3, h4, h5, h6, h7⟩
  · exact .inl h
  · exact .inr ⟨g, cap, xs, β, γ, h1, h2, h3, h4, h5.keep (hk g h3 h4 h5.lt), fun i hi => ⟨(h6 i hi).1, (h6 i hi).2.1, (h6 i hi).2.2.1, (h6 i hi).2.2.2.1, (h6 i hi).2.2.2.2.1, (h6 i hi).2.2.2.2.2.keep (hk _ (h6 i hi).2.2.1 (h6 i hi).2.2.2.1 (h6 i hi).2.2.2.2.2.lt)⟩, h7⟩
theorem PS.keep {w w' : World} {lo hi : Nat} {v : Value} {ps : List (List M.Cl)} (h : PS w lo hi v ps) (hk : ∀ k, lo ≤ k → k < hi → k < w.heap.size → w'.heap[k]? = w.heap[k]?) : PS w' lo hi v ps := by
  rcases h with h | ⟨g, cap, xs, β, γ, h1, h2, h3, h4, h5, h6⟩
  · exact .inl h
  · exact .inr ⟨g, cap, xs, β, γ, h1, h2, h3, h4, h5.keep (hk g h3 h4 h5.lt), fun i hi => ⟨(h6 i hi).1, (h6 i hi).2.1, (h6 i hi).2.2.1, (h6 i hi).2.2.2.1, (h6 i hi).2.2.2.2.keep (hk _ (h6 i hi).2.2.1 (h6 i hi).2.2.2.1 (h6 i hi).2.2.2.2.lt)⟩⟩
theorem PS.below {w w' : World} {lo hi : Nat} {v : Value} {ps : List (List M.Cl)} (h : PS w lo hi v ps) (hb : Below w.heap.size w w') : PS w' lo hi v ps := h.keep fun k _ _ hk => hb.block k hk
theorem PS.shape {w : World} {lo hi : Nat} {v : Value} {ps : List (List M.Cl)} (h : PS w lo hi v ps) : ∃ a n c, v = .slice a n c := by
  rcases h with ⟨rfl, _⟩ | ⟨g, cap, xs, β, γ, rfl, _⟩
  · exact ⟨_, _, _, rfl⟩
  · exact ⟨_, _, _, rfl⟩
theorem PS.mono {w : World} {lo hi lo' hi' : Nat} {v : Value} {ps : List (List M.Cl)} (h : PS w lo hi v ps) (h1 : lo' ≤ lo) (h2 : hi ≤ hi') : PS w lo' hi' v ps := by
  rcases h with h | ⟨g, cap, xs, β, γ, q1, q2, q3, q4, q5, q6⟩
  · exact .inl h
  · exact .inr ⟨g, cap, xs, β, γ, q1, q2, by omega, by omega, q5, fun i hi => ⟨(q6 i hi).1, (q6 i hi).2.1, by have := (q6 i hi).2.2.1; omega, by have := (q6 i hi).2.2.2.1; omega, (q6 i hi).2.2.2.2⟩⟩

theorem SS.ps {w : World} {B : Nat} {v : Value} {ps : List (List M.Cl)} (h : SS w B v ps) (hne : ∀ i, i < ps.length → ps.getD i [] ≠ []) : PS w B w.heap.size v ps := by
  obtain ⟨ss, hl, ho, hr⟩ := h
  obtain ⟨_, ⟨rfl, h0⟩ | ⟨g, cap, cur, rfl, hg, hh, hnc, hcm, hcs, ht⟩⟩ := ho
  · exact .inl ⟨rfl, List.length_eq_zero_iff.1 h0⟩
  · haveI : Inhabited (Nat × Nat) := ⟨(0, 0)⟩
    obtain ⟨σ, hσ⟩ := Go.Deep.choose_lt (n := ps.length) (p := fun i (t : Nat × Nat) => ss.getD i (.slice none 0 0) = .slice (some ⟨t.1, 0, none⟩) (ps.getD i []).length t.2 ∧ (ps.getD i []).length ≤ t.2 ∧ B ≤ t.1 ∧ OwnG w t.1 111 (ps.getD i [])) (fun i hi => by
      obtain ⟨_, ⟨_, e⟩ | ⟨b, c, h1, h2, h3, h4⟩⟩ := hr i hi
      · exact absurd e (hne i hi)
      · exact ⟨(b, c), h1, h3, h2, h4⟩)
    refine .inr ⟨g, cap, cur.toList, fun i => (σ i).1, fun i => (σ i).2, rfl, hnc, hg, (Array.getElem?_eq_some_iff.1 hh).1, ⟨cur, hh, rfl⟩, fun i hi => ⟨?_, (hσ i hi).2.1, (hσ i hi).2.2.1, (hσ i hi).2.2.2.lt, (hσ i hi).2.2.2⟩⟩
    have h3 : cur.toList[i]? = ss[i]? := by rw [← ht, List.getElem?_take, if_pos (by omega)]
    have e := (hσ i hi).1
    rw [List.getD_eq_getElem?_getD, List.getElem?_eq_getElem (by omega)] at e
    simp only [Option.getD_some] at e
    rw [h3, List.getElem?_eq_getElem (by omega), e]
theorem SD.pr {w : World} {B : Nat} {v : Value} {ps : List (List M.Cl)} (h : SD w B v ps) (hne : ∀ i, i < ps.length → ps.getD i [] ≠ []) : PR w B w.heap.size v ps := by
  obtain ⟨ss, hl, ho, hr, hd⟩ := h
  obtain ⟨_, ⟨rfl, h0⟩ | ⟨g, cap, cur, rfl, hg, hh, hnc, hcm, hcs, ht⟩⟩ := ho
  · exact .inl ⟨rfl, List.length_eq_zero_iff.1 h0⟩
  · haveI : Inhabited (Nat × Nat) := ⟨(0, 0)⟩
    obtain ⟨σ, hσ⟩ := Go.Deep.choose_lt (n := ps.length) (p := fun i (t : Nat × Nat) => ss.getD i (.slice none 0 0) = .slice (some ⟨t.1, 0, none⟩) (ps.getD i []).length t.2 ∧ (ps.getD i []).length ≤ t.2 ∧ B ≤ t.1 ∧ OwnG w t.1 111 (ps.getD i [])) (fun i hi => by
      obtain ⟨_, ⟨_, e⟩ | ⟨b, c, h1, h2, h3, h4⟩⟩ := hr i hi
      · exact absurd e (hne i hi)
      · exact ⟨(b, c), h1, h3, h2, h4⟩)
    refine .inr ⟨g, cap, cur.toList, fun i => (σ i).1, fun i => (σ i).2, rfl, hnc, hg, (Array.getElem?_eq_some_iff.1 hh).1, ⟨cur, hh, rfl⟩, fun i hi => ⟨?_, (hσ i hi).2.1, (hσ i hi).2.2.1, (hσ i hi).2.2.2.lt, ?_, (hσ i hi).2.2.2⟩, fun i j h1 h2 => ?_⟩
    · have h3 : cur.toList[i]? = ss[i]? := by rw [← ht, List.getElem?_take, if_pos (by omega)]
      have e := (hσ i hi).1
      rw [List.getD_eq_getElem?_getD, List.getElem?_eq_getElem (by omega)] at e
      simp only [Option.getD_some] at e
      rw [h3, List.getElem?_eq_getElem (by omega), e]
    · obtain ⟨ys, ⟨c, hc, _⟩, _⟩ := (hσ i hi).2.2.2
      intro e
      simp only at e
      rw [e, hh] at hc
      simp only [Option.some.injEq, Obj.cells.injEq] at hc
      exact absurd hc.2.1 (by decide)
    · have e1 := (hσ i (by omega)).1
      have e2 := (hσ j h2).1
      have := hd i j h1 h2 (σ i).1 (by rw [e1]; rfl)
      rw [e2] at this
      intro e
      simp only at e
      exact this (by rw [e]; rfl)

end Go.Proofs.YtcglddahphkcpaaGreatDoor
