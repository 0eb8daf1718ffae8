/-
  An answer that holds a list of numbers: what it is that it lies in memory of its own, and what the laws' helpers find, mark and find again in it.
  The places of a value's parts: spec.l1Children and impl.childPlaces.
-/
import Derived.Test.YtlmibdddfjbbdaaM04
import Derived.Test.YtlmibdddfjbbdaaM12
import Derived.Test.YtlmibdddfjbbdaaM13
import Derived.BigQuiet
import Derived.Deep.QuietTactic
namespace Go.Proofs.Ytlmibdddfjbbdaa
open Go.RowKit
set_option linter.unusedVariables false

/-- A row of the call's own that begins with the numbers ns. -/
def OwnI (w : World) (b : Nat) (ns : List Int) : Prop := ∃ xs, Own w b 2 xs ∧ ns.length ≤ xs.length ∧ ∀ i, i < ns.length → xs[i]? = some (.int .i64 (ns.getD i 0))
theorem OwnI.lt {w : World} {b : Nat} {l : List Int} (h : OwnI w b l) : b < w.heap.size := by obtain ⟨xs, ho, _⟩ := h; exact ho.lt
theorem OwnI.below {B : Nat} {w w' : World} {b : Nat} {l : List Int} (h : OwnI w b l) (hb : Below B w w') (hB : b < B) : OwnI w' b l := by
  obtain ⟨xs, ho, hw⟩ := h; exact ⟨xs, ho.below hb hB, hw⟩
theorem OwnI.cell {w : World} {b : Nat} {l : List Int} (h : OwnI w b l) {i : Nat} (hi : i < l.length) : w.cell? ⟨b, i, none⟩ = some (.int .i64 (l.getD i 0)) := by
  obtain ⟨xs, ho, _, hw⟩ := h; exact (ho.cell i).trans (hw i hi)

def ResI (w : World) (B : Nat) (s : Value) (l : List Int) : Prop :=
  l.length ≤ 1048576 ∧ ((s = .slice none 0 0 ∧ l = []) ∨ ∃ b cap, s = .slice (some ⟨b, 0, none⟩) l.length cap ∧ B ≤ b ∧ l.length ≤ cap ∧ OwnI w b l)
theorem ResI.shape {w : World} {B : Nat} {s : Value} {l : List Int} (h : ResI w B s l) : ∃ a n cap, s = .slice a n cap := by
  obtain ⟨_, ⟨rfl, _⟩ | ⟨b, cap, rfl, _⟩⟩ := h
  · exact ⟨_, _, _, rfl⟩
  · exact ⟨_, _, _, rfl⟩
/-- An owned row of numbers is an answer's row. -/
theorem resI_of_owns {w : World} {B : Nat} {v : Value} {l : List Int} (h : w.ownsRow B 2 1 v l.length (l.map (Value.int .i64))) (hn : l.length ≤ 1048576) : ResI w B v l := by
  obtain ⟨h1, ⟨rfl, h2⟩ | ⟨g, cap, cur, rfl, hg, hh, hnc, hcm, hcs, ht⟩⟩ := h
  · exact ⟨hn, .inl ⟨rfl, List.length_eq_zero_iff.1 h2⟩⟩
  · refine ⟨hn, .inr ⟨g, cap, rfl, hg, hnc, ⟨cur.toList, ⟨cur, hh, rfl⟩, ?_, ?_⟩⟩⟩
    · simp only [Array.length_toList]; omega
    · intro i hi
      have : cur.toList[i]? = (l.map (Value.int .i64))[i]? := by rw [← ht, List.getElem?_take, if_pos (by omega)]
      rw [this, List.getElem?_map, List.getElem?_eq_getElem hi, List.getD_eq_getElem?_getD, List.getElem?_eq_getElem hi]; rfl

end Go.Proofs.Ytlmibdddfjbbdaa

namespace Go.Proofs.Ytlmibdddfjbbdaa
open Go.RowKit
set_option linter.unusedVariables false

theorem Try.info2 : (Try.prog.info? 2).map (fun i => (i.zero, i.size, i.bytes)) = some (some (.int .i64 0), 1, 8) := by kernel_rfl

/-- The first k places, as numbers. -/
def firstPl (v : List M.Cl) (a k : Nat) : List Int := (List.range k).map fun (j : Nat) => (M.iter v j (a + 1) : Int)
theorem firstPl_length (v : List M.Cl) (a k : Nat) : (firstPl v a k).length = k := by simp [firstPl]
theorem firstPl_succ (v : List M.Cl) (a k : Nat) : (firstPl v a k).map (Value.int .i64) ++ [.int .i64 (M.iter v k (a + 1))] = (firstPl v a (k + 1)).map (Value.int .i64) := by
  simp [firstPl, List.range_succ]

theorem one_word (w : World) (x : Int) : ∀ j u, ([Value.int .i64 x] : List Value)[j]? = some u → (w.alloc (.cells #[.int .i64 x] 2)).cell? ((⟨w.heap.size, 0, none⟩ : Addr).add j) = some u := by
  intro j u hu
  match j, hu with
  | 0, hu =>
    simp only [List.getElem?_cons_zero, Option.some.injEq] at hu
    subst hu
    have a0 : (⟨w.heap.size, 0, none⟩ : Addr).add 0 = ⟨w.heap.size, 0, none⟩ := by simp [Addr.add]
    rw [a0]
    exact World.cell?_alloc_mark w #[.int .i64 x] 2 (0, 0) 0

theorem one_plain (x : Int) : ∀ u ∈ ([Value.int .i64 x] : List Value), u.oneCell' = true := by
  intro u hu; simp only [List.mem_cons, List.not_mem_nil, or_false] at hu; subst hu; rfl

set_option maxRecDepth 100000 in
set_option maxHeartbeats 2000000 in
theorem childPlaces_any (v : List M.Cl) (b off cap a : Nat) (w : World) (hv : M.valueFault v = 0) (ha : a < v.length) (hrow : Row w b off v) (hb : b < w.heap.size) (hcap : v.length ≤ cap) :
    Calls Try.prog 61 #[.slice (some ⟨b, off, none⟩) v.length cap, .int .i64 a] w fun e w' => ∃ s, e = .returned s ∧ ResI w' w.heap.size s (firstPl v a (M.arity v a)) ∧ Below w.heap.size w w' := by
  have hl := (M.fault_zero hv).2.1
  have hN := M.fits_getD (M.fits_of hv) a
  have hin := M.places_in hv a ha
  have hin1 := hin.1
  have har : (M.arity v a : Int) = (v.getD a M.zero).n := by unfold M.arity; omega
  have hA := hin.2.2.2
  obtain ⟨f0, f1, f2, f3, f4⟩ := hrow a ha
  rw [← har] at f4
  clear f0 f1 f2 f3 hN har hin
  generalize M.arity v a = m at *
  have HIN := hide hin1
  clear hin1
  have HV := hide hv
  clear hv
  have hend := hide (M.endOf_spec (unhide HV) a ha).choose_spec.2.2.1
  obtain ⟨i0, hi, hz0, hz1, hz2⟩ := info_parts Try.info2
  go_enter Try.func61, Try.ntmps61
  go_wp2_with fail
  go_loopg [5, 6, 14] m (fun g s5 s6 s14 wr => ∃ k : Nat, Hid (g = m - k) ∧ s14 = .int .i64 k ∧ k ≤ m ∧ s6 = .int .i64 (M.iter v k (a + 1)) ∧ wr.ownsRow w.heap.size 2 1 s5 k ((firstPl v a k).map (Value.int .i64)) ∧ Below w.heap.size w wr)
  case atStart => exact ⟨0, rfl, rfl, by omega, by go_num, World.ownsRow_nil _ _ _ _, Below.refl _ _⟩
  case round =>
    obtain ⟨k, hg, rfl, hk, rfl, hown, hbel⟩ := hrel
    by_cases hlt : k < m
    · have h1 := (unhide HIN) k hlt
      have h2 := unhide hend
      have hp : M.iter v k (a + 1) < v.length := by omega
      have hnx := hide (M.iter_next v k (a + 1))
      have hsucc := hide (firstPl_succ v a k)
      have HP := hide hp
      clear h1 h2
      generalize M.iter v k (a + 1) = p at *
      have hown1 := hide (fun o => hown.alloc o)
      have hone := hide (one_word wr p)
      have honep := hide (one_plain p)
      have hb63 : k + 1 ≤ maxLen := by unfold maxLen; omega
      have hby : (k + 1) * 8 ≤ 140737488355328 := by omega
      have hbase : w.heap.size ≤ wr.heap.size + 1 := by have := hbel.size; omega
      have hbse := hide (ownsRow_base hown)
      clear hown
      go_wp2_with (at_builtin; refine wpList_append_own _ rfl (.tmp 16) (.tmp 18) 65 rfl w.heap.size 2 i0 (.int .i64 0) 1 8 Try.underlying65 hi hz0 hz1 hz2 rfl (by decide) _ k _ rfl ((unhide hown1) _) ⟨wr.heap.size, 0, none⟩ 1 1 [.int .i64 p] rfl rfl (unhide hone) (unhide honep) hb63 hby (by simpa using hbase) ?_)
      intro v' w1 ho1 hg1 _
      rw [unhide hsucc] at ho1
      have B1 : Below w.heap.size w w1 := (hbel.alloc hbel.size _).grown hg1 (by simpa using hbase) (unhide hbse)
      clear hg1
      have HO1 := hide ho1
      clear ho1
      go_wp2_with fail
      refine (endOf_any v b off cap p _ (unhide HV) (unhide HP) (hrow.below B1 hb) (Nat.lt_of_lt_of_le hb B1.size) hcap).mono ?_
      rintro e w2 ⟨rfl, hw2⟩
      subst hw2
      go_wp2_with fail
      go_roundg (m - (k + 1))
      case rel => exact ⟨k + 1, rfl, by go_num, by omega, by rw [unhide hnx], unhide HO1, B1⟩
      case measure => have := hg.out; omega
    · have hke : k = m := by omega
      have fin := hide (resI_of_owns (l := firstPl v a k) (by rw [firstPl_length]; exact hown) (by rw [firstPl_length]; omega))
      rw [hke] at fin
      obtain ⟨aa, nn, cc, hsh⟩ := (unhide fin).shape
      subst hsh
      clear hown hke
      go_wp2_with fail
      go_ret
      exact ⟨_, rfl, unhide fin, hbel⟩

theorem ownsRow_below {B : Nat} {w w' : World} {base : Nat} {e : TypeId} {size : Nat} {v : Value} {n : Nat} {xs : List Value} (h : w.ownsRow base e size v n xs) (hb : Below w.heap.size w w') : w'.ownsRow base e size v n xs := by
  obtain ⟨h1, h2 | ⟨g, cap, cur, h3, h4, h5, h6⟩⟩ := h
  · exact ⟨h1, .inl h2⟩
  · exact ⟨h1, .inr ⟨g, cap, cur, h3, h4, (hb.block g (Array.getElem?_eq_some_iff.1 h5).1).trans h5, h6⟩⟩

set_option maxRecDepth 100000 in
set_option maxHeartbeats 2000000 in
theorem l1Children_any (v : List M.Cl) (b off cap a : Nat) (w : World) (hv : M.valueFault v = 0) (ha : a < v.length) (hrow : Row w b off v) (hb : b < w.heap.size) (hcap : v.length ≤ cap) (hok : ∀ c ∈ v, c.ok) :
    Calls Try.prog 39 #[.slice (some ⟨b, off, none⟩) v.length cap, .int .i64 a] w fun e w' => ∃ s, e = .returned s ∧ ResI w' w.heap.size s (firstPl v a (M.arity v a)) ∧ Below w.heap.size w w' := by
  have hl := (M.fault_zero hv).2.1
  have hN := M.fits_getD (M.fits_of hv) a
  have hin := M.places_in hv a ha
  have hin1 := hin.1
  have har : (M.arity v a : Int) = (v.getD a M.zero).n := by unfold M.arity; omega
  have hA := hin.2.2.2
  obtain ⟨f0, f1, f2, f3, f4⟩ := hrow a ha
  rw [← har] at f4
  clear f0 f1 f2 f3 hN har hin
  generalize M.arity v a = m at *
  have HIN := hide hin1
  clear hin1
  have OK := hide hok
  clear hok
  have HV := hide hv
  clear hv
  have hend := hide (M.endOf_spec (unhide HV) a ha).choose_spec.2.2.1
  obtain ⟨i0, hi, hz0, hz1, hz2⟩ := info_parts Try.info2
  go_enter Try.func39, Try.ntmps39
  go_wp2_with fail
  go_loopg [5, 6, 7] m (fun g s5 s6 s14 wr => ∃ k : Nat, Hid (g = m - k) ∧ s14 = .int .i64 k ∧ k ≤ m ∧ s6 = .int .i64 (M.iter v k (a + 1)) ∧ wr.ownsRow w.heap.size 2 1 s5 k ((firstPl v a k).map (Value.int .i64)) ∧ Below w.heap.size w wr)
  case atStart => exact ⟨0, rfl, rfl, by omega, by go_num, ⟨rfl, .inr ⟨w.heap.size, 0, #[], rfl, Nat.le_refl _, heap_alloc_new _ _, Nat.le_refl _, by simp [maxLen], rfl, rfl⟩⟩, (Below.refl _ _).alloc (Nat.le_refl _) _⟩
  case round =>
    obtain ⟨k, hg, rfl, hk, rfl, hown, hbel⟩ := hrel
    have f4' := (hbel.cell (p := ⟨b, off + a * 5 + 4, none⟩) (by exact hb)).trans f4
    by_cases hlt : k < m
    · have h1 := (unhide HIN) k hlt
      have h2 := unhide hend
      have hp : M.iter v k (a + 1) < v.length := by omega
      have hnx := hide (M.iter_next v k (a + 1))
      have hsucc := hide (firstPl_succ v a k)
      have HP := hide hp
      clear h1 h2
      generalize M.iter v k (a + 1) = p at *
      have hown1 := hide (fun o => hown.alloc o)
      have hone := hide (one_word wr p)
      have honep := hide (one_plain p)
      have hb63 : k + 1 ≤ maxLen := by unfold maxLen; omega
      have hby : (k + 1) * 8 ≤ 140737488355328 := by omega
      have hbase : w.heap.size ≤ wr.heap.size + 1 := by have := hbel.size; omega
      have hbse := hide (ownsRow_base hown)
      clear hown
      go_wp2_with (at_builtin; refine wpList_append_own _ rfl (.tmp 20) (.tmp 22) 65 rfl w.heap.size 2 i0 (.int .i64 0) 1 8 Try.underlying65 hi hz0 hz1 hz2 rfl (by decide) _ k _ rfl ((unhide hown1) _) ⟨wr.heap.size, 0, none⟩ 1 1 [.int .i64 p] rfl rfl (unhide hone) (unhide honep) hb63 hby (by simpa using hbase) ?_)
      intro v' w1 ho1 hg1 _
      rw [unhide hsucc] at ho1
      have B1 : Below w.heap.size w w1 := (hbel.alloc hbel.size _).grown hg1 (by simpa using hbase) (unhide hbse)
      clear hg1
      have HO1 := hide ho1
      clear ho1
      go_wp2_with fail
      refine (l1End_any v b off cap p _ (unhide HV) (unhide HP) (hrow.below B1 hb) (Nat.lt_of_lt_of_le hb B1.size) hcap (unhide OK)).mono ?_
      rintro e w2 ⟨rfl, hw2⟩
      have B2 : Below w.heap.size w w2 := B1.trans (hw2.mono B1.size)
      go_wp2_with fail
      go_roundg (m - (k + 1))
      case rel => exact ⟨k + 1, rfl, by go_num, by omega, by rw [unhide hnx], ownsRow_below (B := 0) (unhide HO1) hw2, B2⟩
      case measure => have := hg.out; omega
    · have hke : k = m := by omega
      have fin := hide (resI_of_owns (l := firstPl v a k) (by rw [firstPl_length]; exact hown) (by rw [firstPl_length]; omega))
      rw [hke] at fin
      obtain ⟨aa, nn, cc, hsh⟩ := (unhide fin).shape
      subst hsh
      clear hown hke
      go_wp2_with fail
      go_ret
      exact ⟨_, rfl, unhide fin, hbel⟩

end Go.Proofs.Ytlmibdddfjbbdaa
