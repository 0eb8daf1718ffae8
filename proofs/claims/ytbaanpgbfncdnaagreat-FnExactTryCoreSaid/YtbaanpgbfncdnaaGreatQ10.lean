/-
  impl.ValueFault returns the plain function M.valueFault of the cells.
  The plain mathematics of where a value ends: counting the cells that are still owed comes to the same place; every place of a value without a fault is the beginning of a value. No word of the program is used here.
  The words of a list of cells, one behind the other: how a row that was grown by append holds them.
  A part of a value by itself: spec.l1Part, spec.PartAt and impl.PartAt.
  The places of a value's parts: spec.l1Children and impl.childPlaces.
  Rows of lists of cells and rows of texts: spec.l1Parts and spec.l1Keys.
  How many cells lists of cells have together, and what the readers of such lists are told.
  An array of values: what both ArrayValue answer, as a plain function of the lists.
  Answers that tell a code and a value, and the small makers of them.
-/
import Derived.Test.YtbaanpgbfncdnaaGreatQ00
import Derived.Test.YtbaanpgbfncdnaaGreatQ01
import Derived.Test.YtbaanpgbfncdnaaGreatQ04
import Derived.Test.YtbaanpgbfncdnaaGreatQ07
import Derived.Test.YtbaanpgbfncdnaaGreatQ09
import Derived.BigQuiet
import Derived.Deep.QuietTactic
namespace Go.Proofs.YtbaanpgbfncdnaaGreat
open Go.RowKit
set_option linter.unusedVariables false

set_option maxRecDepth 100000 in
set_option maxHeartbeats 4000000 in
theorem implFault_any (v : List M.Cl) (b off cap : Nat) (w : World) (hrow : Row w b off v) (hb : b < w.heap.size) (hn : v.length ≤ 1048576) (hcap : v.length ≤ cap) (hok : ∀ c ∈ v, c.ok) :
    Calls Tryz.prog 87 #[.slice (some ⟨b, off, none⟩) v.length cap] w fun e w' => e = .returned (.int .i64 (M.valueFault v)) ∧ Below w.heap.size w w' := by
  by_cases m1 : v.length < 1
  · have fin := hide (fault_many v (.inl m1))
    go_enter Tryz.func87, Tryz.ntmps87
    go_wp2_with fail
    go_ret
    exact ⟨ret_int (unhide fin).symm, Below.refl _ _⟩
  by_cases m2 : 200 < v.length
  · have fin := hide (fault_many v (.inr m2))
    go_enter Tryz.func87, Tryz.ntmps87
    go_wp2_with fail
    go_ret
    exact ⟨ret_int (unhide fin).symm, Below.refl _ _⟩
  have l1 : 1 ≤ v.length := by omega
  have l2 : v.length ≤ 200 := by omega
  have OK := hide hok
  have IH := hide (walk_any v b off cap l2 hcap hok v.length (by omega))
  clear hok
  have d1 : decide (v.length < 1) = false := decide_eq_false (by omega)
  have d2 : decide (200 < v.length) = false := decide_eq_false (by omega)
  clear m1 m2
  go_enter Tryz.func87, Tryz.ntmps87
  go_wp2_with fail
  go_loopg [17] v.length (fun g s17 wr => ∃ k : Nat, Hid (g = v.length - k) ∧ s17 = .int .i64 k ∧ k ≤ v.length ∧ Hid (clean v k) ∧ Below w.heap.size w wr)
  case atStart => exact ⟨0, rfl, rfl, by omega, fun i hi => absurd hi (by omega), Below.refl _ _⟩
  case round =>
    obtain ⟨k, hg, rfl, hk, hcl, hbel⟩ := hrel
    have hr := hrow.below hbel hb
    have hbr : b < wr.heap.size := Nat.lt_of_lt_of_le hb hbel.size
    by_cases hlt : k < v.length
    · obtain ⟨c, hc⟩ : ∃ c, c = v.getD k M.zero := ⟨_, rfl⟩
      obtain ⟨f0, f1, f2, f3, f4⟩ := hr k hlt
      have hco := unhide OK _ (getD_mem v k hlt)
      rw [← hc] at f0 f1 f2 f3 f4 hco
      have hsz1 := hco.2.2.2.1
      have hsz2 := hco.2.2.2.2
      clear hco
      have HC := hide hc
      clear hc
      go_wp2_with fail
      refine (cellFault_any c _ hsz1 hsz2).mono ?_
      rintro e1 w1 ⟨rfl, hb1⟩
      have hb2 : Below w.heap.size w w1 := (hbel.alloc hbel.size _).trans (hb1.mono (by simp; have := hbel.size; omega))
      clear f0 f1 f2 f3 f4
      by_cases hz : M.cellCode c = 0
      · rw [hz]
        have HZ := hide hz
        clear hz
        go_wp2_with fail
        go_roundg (v.length - (k + 1))
        case rel => exact ⟨k + 1, rfl, by go_num, by omega, clean_step v k hcl.out (by rw [← unhide HC]; exact unhide HZ), hb2⟩
        case measure => have := hg.out; omega
      · have fin := hide (fault_cell v l1 l2 k hlt hcl.out (by rw [← unhide HC]; exact hz))
        generalize hq : M.cellCode c = q at *
        have HQ := hide hq
        clear hq
        have hz' : (q == 0) = false := by simp [hz]
        go_wp2_with fail
        go_ret
        refine ⟨ret_int ?_, hb2⟩
        rw [unhide fin, ← unhide HC]
        exact (unhide HQ).symm
    · have hke : k = v.length := by omega
      have hcl' : Hid (clean v v.length) := hke ▸ hcl
      obtain ⟨c, hc⟩ : ∃ c, c = v.getD 0 M.zero := ⟨_, rfl⟩
      have g := hr 0 (by omega)
      have g3 := g.2.2.2.1
      rw [← hc] at g3
      simp only [Nat.zero_mul, Nat.add_zero] at g3
      have HC := hide hc
      clear hc hke g
      go_wp2_with fail
      refine ((unhide IH) 0 _ ?_ ?_ ?_ ?_).mono ?_
      · omega
      · omega
      · exact hr
      · exact hbr
      rintro e1 w1 ⟨rfl, hb1⟩
      have hb2 : Below w.heap.size w w1 := hbel.trans (hb1.mono hbel.size)
      have g3' : w1.cell? ⟨b, off + 3, none⟩ = some (.string c.key) := (hb1.cell (by exact hbr)).trans g3
      have hbr1 : b < w1.heap.size := Nat.lt_of_lt_of_le hbr hb1.size
      have g4 : ∀ o, (w1.alloc o).cell? ⟨b, off + 3, none⟩ = some (.string c.key) := fun o => ((Below.refl w1.heap.size w1).alloc (Nat.le_refl _) o).cell (p := ⟨b, off + 3, none⟩) hbr1 |>.trans g3'
      clear g3 g3'
      have hbd := M.walk_bd v v.length 0 (by omega)
      generalize hres : M.walk v v.length 0 = res at *
      cases res with
      | none =>
        have fin := hide (fault_none v l1 l2 hcl'.out hres)
        clear hres hbd
        simp only [wkOut]
        go_wp2_with fail
        go_ret
        exact ⟨ret_int (unhide fin).symm, hb2.alloc hb2.size _⟩
      | some r =>
        obtain ⟨e', d'⟩ := r
        have hb3 := hbd _ rfl
        simp only at hb3
        obtain ⟨hb4, hb5, hb6⟩ := hb3
        have HRES := hide hres
        clear hres hbd
        simp only [wkOut]
        by_cases he : e' = v.length
        · by_cases hkey : c.key.toList = []
          · by_cases hd : 20 < d'
            · have fin := hide (fault_deep v l1 l2 hcl'.out e' d' (unhide HRES) he (by rw [← unhide HC]; exact hkey) hd)
              subst he
              go_wp2_with fail
              go_ret
              exact ⟨ret_int (unhide fin).symm, hb2.alloc hb2.size _⟩
            · have fin := hide (fault_ok v l1 l2 hcl'.out e' d' (unhide HRES) he (by rw [← unhide HC]; exact hkey) hd)
              subst he
              go_wp2_with fail
              go_ret
              exact ⟨ret_int (unhide fin).symm, hb2.alloc hb2.size _⟩
          · have fin := hide (fault_form v l1 l2 hcl'.out e' d' (unhide HRES) (.inr (by rw [← unhide HC]; exact hkey)))
            have hkey' : c.key.toList.isEmpty = false := by simpa using hkey
            subst he
            go_wp2_with fail
            go_ret
            exact ⟨ret_int (unhide fin).symm, hb2.alloc hb2.size _⟩
        · have fin := hide (fault_form v l1 l2 hcl'.out e' d' (unhide HRES) (.inl he))
          go_wp2_with fail
          go_ret
          exact ⟨ret_int (unhide fin).symm, hb2.alloc hb2.size _⟩

end Go.Proofs.YtbaanpgbfncdnaaGreat

namespace Go.Proofs.YtbaanpgbfncdnaaGreat
open Go.RowKit
namespace M

/-- What a value without a fault is. -/
theorem fault_zero {v : List Cl} (h : valueFault v = 0) : 1 ≤ v.length ∧ v.length ≤ 200 ∧ firstCode v = 0 ∧ (v.getD 0 zero).key.toList = [] ∧ ∃ d, walk v v.length 0 = some (v.length, d) ∧ d ≤ 20 := by
  unfold valueFault at h
  split at h
  · cases h
  rename_i h1
  split at h
  · rename_i h2; exact absurd h h2
  rename_i h2
  split at h
  · cases h
  rename_i e d hw
  split at h
  · cases h
  rename_i h3
  split at h
  · cases h
  rename_i h4
  have h3a : e = v.length := by
    by_cases he : e = v.length
    · exact he
    · exact absurd (.inl he) h3
  have h3b : (v.getD 0 zero).key.toList = [] := by
    by_cases he : (v.getD 0 zero).key.toList = []
    · exact he
    · exact absurd (.inr he) h3
  refine ⟨by omega, by omega, ?_, h3b, d, h3a ▸ hw, by omega⟩
  by_cases he : firstCode v = 0
  · exact he
  · exact absurd he h2

theorem first_zero {v : List Cl} (h : firstCode v = 0) : ∀ c ∈ v, cellCode c = 0 := by
  induction v with
  | nil => simp
  | cons c r ih =>
    rw [firstCode] at h
    split at h
    · rename_i h1
      intro x hx
      rcases List.mem_cons.1 hx with rfl | hx
      · exact h1
      · exact ih h x hx
    · rename_i h1; exact absurd h h1

/-- Where the value at a place ends. -/
def endOf (v : List Cl) (a : Nat) : Nat := match walk v v.length a with | some (e, _) => e | none => 0

end M
end Go.Proofs.YtbaanpgbfncdnaaGreat

namespace Go.Proofs.YtbaanpgbfncdnaaGreat
open Go.RowKit
set_option linter.unusedVariables false

def flat (l : List M.Cl) : List Value := l.flatMap M.Cl.vals
def setKey (l : List M.Cl) (k : ByteArray) : List M.Cl := match l with | [] => [] | c :: r => { c with key := k } :: r

theorem flat_cons (c : M.Cl) (l : List M.Cl) : flat (c :: l) = c.vals ++ flat l := rfl
theorem flat_length (l : List M.Cl) : (flat l).length = l.length * 5 := by
  induction l with
  | nil => rfl
  | cons c l ih => rw [flat_cons, List.length_append, ih]; simp [M.Cl.vals]; omega

theorem flat_get (l : List M.Cl) (i j : Nat) (hi : i < l.length) (hj : j < 5) : (flat l)[i * 5 + j]? = ((l.getD i M.zero).vals)[j]? := by
  induction l generalizing i with
  | nil => simp at hi
  | cons c l ih =>
    rw [flat_cons]
    have hl : c.vals.length = 5 := rfl
    cases i with
    | zero => rw [List.getElem?_append_left (by omega)]; simp
    | succ i =>
      rw [List.getElem?_append_right (by omega), show (i + 1) * 5 + j - c.vals.length = i * 5 + j from by omega, List.getD_cons_succ]
      exact ih i (by simpa using hi)

theorem row_words {w : World} {b off : Nat} {l : List M.Cl} (h : Row w b off l) : ∀ j u, (flat l)[j]? = some u → w.cell? ((⟨b, off, none⟩ : Addr).add j) = some u := by
  intro j u hu
  have hj : j < l.length * 5 := by
    have := (List.getElem?_eq_some_iff.1 hu).1
    rwa [flat_length] at this
  have hd : j = (j / 5) * 5 + j % 5 := by omega
  have hi : j / 5 < l.length := by omega
  have hm : j % 5 < 5 := by omega
  rw [hd, flat_get l (j / 5) (j % 5) hi hm] at hu
  have ha : (⟨b, off, none⟩ : Addr).add j = ⟨b, off + j, none⟩ := by simp [Addr.add]
  rw [ha]
  obtain ⟨c0, c1, c2, c3, c4⟩ := h (j / 5) hi
  have e : off + j = off + j / 5 * 5 + j % 5 := by omega
  rw [e]
  generalize j % 5 = r at *
  match r, hm with
  | 0, _ => simp only [M.Cl.vals, List.getElem?_cons_zero, Option.some.injEq] at hu; subst hu; exact c0
  | 1, _ => simp only [M.Cl.vals, List.getElem?_cons_zero, List.getElem?_cons_succ, Option.some.injEq] at hu; subst hu; exact c1
  | 2, _ => simp only [M.Cl.vals, List.getElem?_cons_zero, List.getElem?_cons_succ, Option.some.injEq] at hu; subst hu; exact c2
  | 3, _ => simp only [M.Cl.vals, List.getElem?_cons_zero, List.getElem?_cons_succ, Option.some.injEq] at hu; subst hu; exact c3
  | 4, _ => simp only [M.Cl.vals, List.getElem?_cons_zero, List.getElem?_cons_succ, Option.some.injEq] at hu; subst hu; exact c4

theorem flat_one (l : List M.Cl) : ∀ u ∈ flat l, u.oneCell' = true := by
  intro u hu
  simp only [flat, List.mem_flatMap] at hu
  obtain ⟨c, _, hc⟩ := hu
  simp only [M.Cl.vals, List.mem_cons, List.not_mem_nil, or_false] at hc
  rcases hc with rfl | rfl | rfl | rfl | rfl <;> rfl

/-- An owned row of cells is an answer's row. -/
theorem res_of_owns {w : World} {B : Nat} {v : Value} {l : List M.Cl} (h : w.ownsRow B 71 5 v l.length (flat l)) (hn : l.length ≤ 1048576) : Res w B v l := by
  obtain ⟨h1, ⟨rfl, h2⟩ | ⟨g, cap, cur, rfl, hg, hh, hnc, hcm, hcs, ht⟩⟩ := h
  · exact ⟨hn, .inl ⟨rfl, List.length_eq_zero_iff.1 h2⟩⟩
  · refine ⟨hn, .inr ⟨g, cap, rfl, hg, hnc, ⟨cur.toList, ⟨cur, hh, rfl⟩, ?_, ?_⟩⟩⟩
    · simp only [Array.length_toList]; rw [hcs]; exact Nat.mul_le_mul_right 5 hnc
    · intro i hi
      have key : ∀ j, j < 5 → cur.toList[i * 5 + j]? = ((l.getD i M.zero).vals)[j]? := by
        intro j hj
        rw [← flat_get l i j hi hj, ← ht, List.getElem?_take, if_pos (by omega)]
      exact ⟨key 0 (by omega), key 1 (by omega), key 2 (by omega), key 3 (by omega), key 4 (by omega)⟩

end Go.Proofs.YtbaanpgbfncdnaaGreat

namespace Go.Proofs.YtbaanpgbfncdnaaGreat
open Go.RowKit
set_option linter.unusedVariables false

/-- The cells of the value at a place. -/
def cut (v : List M.Cl) (a e : Nat) : List M.Cl := (v.drop a).take (e - a)
/-- The part at a place, its first cell without a key. -/
def part (v : List M.Cl) (a : Nat) : List M.Cl := setKey (cut v a (M.endOf v a)) ByteArray.empty

end Go.Proofs.YtbaanpgbfncdnaaGreat

namespace Go.Proofs.YtbaanpgbfncdnaaGreat
open Go.RowKit
set_option linter.unusedVariables false

theorem one_word (w : World) (x : Int) : ∀ j u, ([Value.int .i64 x] : List Value)[j]? = some u → (w.alloc (.cells #[.int .i64 x] 2)).cell? ((⟨w.heap.size, 0, none⟩ : Addr).add j) = some u := by
  intro j u hu
  match j, hu with
  | 0, hu =>
    simp only [List.getElem?_cons_zero, Option.some.injEq] at hu
    subst hu
    have a0 : (⟨w.heap.size, 0, none⟩ : Addr).add 0 = ⟨w.heap.size, 0, none⟩ := by simp [Addr.add]
    rw [a0]
    exact World.cell?_alloc_mark w #[.int .i64 x] 2 (0, 0) 0

theorem one_plain (x : Int) : ∀ u ∈ ([Value.int .i64 x] : List Value), u.oneCell' = true := by
  intro u hu; simp only [List.mem_cons, List.not_mem_nil, or_false] at hu; subst hu; rfl

end Go.Proofs.YtbaanpgbfncdnaaGreat

namespace Go.Proofs.YtbaanpgbfncdnaaGreat
open Go.RowKit
set_option linter.unusedVariables false

theorem grown_own {w w' : World} {row : Option Nat} (hg : w.grownBy w' row) {b : Nat} {t : TypeId} {ys : List Value} (ho : Own w b t ys) (hne : row ≠ some b) : Own w' b t ys := by
  obtain ⟨c, hc, e⟩ := ho
  exact ⟨c, (hg.block b (Array.getElem?_eq_some_iff.1 hc).1 (fun h => hne h.symm)).trans hc, e⟩
theorem one_val (w : World) (u : Value) (t : TypeId) : ∀ j x, ([u] : List Value)[j]? = some x → (w.alloc (.cells #[u] t)).cell? ((⟨w.heap.size, 0, none⟩ : Addr).add j) = some x := by
  intro j x hu
  match j, hu with
  | 0, hu =>
    simp only [List.getElem?_cons_zero, Option.some.injEq] at hu
    subst hu
    have a0 : (⟨w.heap.size, 0, none⟩ : Addr).add 0 = ⟨w.heap.size, 0, none⟩ := by simp [Addr.add]
    rw [a0]
    exact World.cell?_alloc_mark w #[u] t (0, 0) 0

end Go.Proofs.YtbaanpgbfncdnaaGreat

namespace Go.Proofs.YtbaanpgbfncdnaaGreat
open Go.RowKit
set_option linter.unusedVariables false

/-- How many cells the first k lists have. -/
def tot (ps : List (List M.Cl)) (k : Nat) : Nat := ((ps.take k).map List.length).sum

end Go.Proofs.YtbaanpgbfncdnaaGreat

namespace Go.Proofs.YtbaanpgbfncdnaaGreat
open Go.RowKit
set_option linter.unusedVariables false

def told (l : List M.Cl) : Int × List M.Cl := if M.valueFault l = 0 then (0, l) else (M.valueFault l, [])
end Go.Proofs.YtbaanpgbfncdnaaGreat

namespace Go.Proofs.YtbaanpgbfncdnaaGreat
open Go.RowKit
set_option linter.unusedVariables false

theorem resNil (w : World) (B : Nat) : Res w B (.slice none 0 0) [] := ⟨by simp, .inl ⟨rfl, rfl⟩⟩
end Go.Proofs.YtbaanpgbfncdnaaGreat
