/-
  How many cells lists of cells have together, and what the readers of such lists are told.
  An array of values: what both ArrayValue answer, as a plain function of the lists.
  spec.ArrayValue.
  The plain mathematics of the stable sort of places: what swaps, shifts, rotations and merges do to a row of numbers. No word of the program is used here.
  The plain mathematics of the stable sort, its phases: blocks of twenty by insertion, and merges of blocks that grow twofold.
  The members of an object: which places stand, in the order of keys; told once as places put in one by one, and once as a sorted row of places of which the last of each key is kept. No word of the program is used here.
  The library's stable sort of a row of places, whole.
  impl.standingMembers tells the places that stand.
-/
import Derived.Test.YtfcglmkbfdfaeaaDoorT00
import Derived.Test.YtfcglmkbfdfaeaaDoorT01
import Derived.Test.YtfcglmkbfdfaeaaDoorT06
import Derived.Test.YtfcglmkbfdfaeaaDoorT07
import Derived.BigQuiet
import Derived.BigRegion
import Derived.Deep.LoopGhost
import Derived.Deep.QuietTactic
import Derived.Lib.Bytealg
import Derived.RegionTactic
import Derived.WalkKit
namespace Go.Proofs.YtfcglmkbfdfaeaaDoor
open Go.RowKit
set_option linter.unusedVariables false

/-- How many cells the first k lists have. -/
def tot (ps : List (List M.Cl)) (k : Nat) : Nat := ((ps.take k).map List.length).sum

theorem tot_zero (ps : List (List M.Cl)) : tot ps 0 = 0 := by simp [tot]

theorem tot_succ (ps : List (List M.Cl)) (k : Nat) (hk : k < ps.length) : tot ps (k + 1) = tot ps k + (ps.getD k []).length := by
  unfold tot
  rw [List.take_add_one, List.getElem?_eq_getElem hk, List.map_append, List.sum_append, List.getD_eq_getElem?_getD, List.getElem?_eq_getElem hk]
  simp

theorem tot_le (ps : List (List M.Cl)) (n k : Nat) (h : k ≤ n) (hn : n ≤ ps.length) : tot ps k ≤ tot ps n := by
  induction n with
  | zero => rw [show k = 0 from by omega]; exact Nat.le_refl _
  | succ n ih =>
    by_cases e : k = n + 1
    · rw [e]; exact Nat.le_refl _
    · have := ih (by omega) (by omega)
      rw [tot_succ ps n (by omega)]
      omega

end Go.Proofs.YtfcglmkbfdfaeaaDoor

namespace Go.Proofs.YtfcglmkbfdfaeaaDoor
open Go.RowKit
set_option linter.unusedVariables false

theorem empty_list : ByteArray.empty.toList = [] := by unfold ByteArray.toList ByteArray.toList.loop; rfl
theorem fault_key {v : List M.Cl} (h : M.valueFault v = 0) : (v.getD 0 M.zero).key = ByteArray.empty := by
  refine bytes_ext ?_
  rw [empty_list]
  unfold M.valueFault at h
  split at h
  · cases h
  split at h
  · rename_i h2; exact absurd h h2
  split at h
  · cases h
  split at h
  · cases h
  · rename_i h2
    by_cases e : (v.getD 0 M.zero).key.toList = []
    · exact e
    · exact absurd (.inr e) h2
theorem fault_len {v : List M.Cl} (h : M.valueFault v = 0) : 1 ≤ v.length ∧ v.length ≤ 200 := ⟨(M.fault_zero h).1, (M.fault_zero h).2.1⟩
theorem setKey_none {v : List M.Cl} (h : M.valueFault v = 0) : setKey v ByteArray.empty = v := by
  have hk := fault_key h
  have hl := (fault_len h).1
  cases v with
  | nil => simp at hl
  | cons c r =>
    simp only [List.getD_cons_zero] at hk
    unfold setKey
    rw [← hk]

def headCl (kind : Int) (n : Nat) : M.Cl := ⟨kind, 0, ByteArray.empty, ByteArray.empty, n⟩
def arrK (ps : List (List M.Cl)) (k : Nat) : List M.Cl := headCl 5 ps.length :: (ps.take k).flatten
def arrV (ps : List (List M.Cl)) : List M.Cl := arrK ps ps.length
theorem arrK_succ (ps : List (List M.Cl)) (k : Nat) (hk : k < ps.length) : arrK ps (k + 1) = arrK ps k ++ ps.getD k [] := by
  unfold arrK
  have e : (ps.take (k + 1)).flatten = (ps.take k).flatten ++ ps.getD k [] := by
    rw [List.take_add_one, List.getElem?_eq_getElem hk, List.getD_eq_getElem?_getD, List.getElem?_eq_getElem hk, List.flatten_append]
    simp only [Option.toList_some, Option.getD_some, List.flatten_cons, List.flatten_nil, List.append_nil]
  rw [e, List.cons_append]
theorem arrK_length (ps : List (List M.Cl)) (k : Nat) : (arrK ps k).length = tot ps k + 1 := by
  unfold arrK tot
  rw [List.length_cons, List.length_flatten]
theorem tot_small (ps : List (List M.Cl)) (k : Nat) (hk : k ≤ ps.length) (h : ∀ j, j < k → (ps.getD j []).length ≤ 200) : tot ps k ≤ 200 * k := by
  induction k with
  | zero => rw [tot_zero]; omega
  | succ k ih =>
    have := ih (by omega) (fun j hj => h j (by omega))
    have := h k (by omega)
    rw [tot_succ ps k (by omega)]
    omega

def firstBad : List (List M.Cl) → Int
  | [] => 0
  | p :: r => if M.valueFault p = 0 then firstBad r else M.valueFault p
theorem firstBad_hit (ps : List (List M.Cl)) (k : Nat) (h : ∀ j, j < k → M.valueFault (ps.getD j []) = 0) (hk : k < ps.length) (hz : M.valueFault (ps.getD k []) ≠ 0) : firstBad ps = M.valueFault (ps.getD k []) := by
  induction ps generalizing k with
  | nil => simp at hk
  | cons p r ih =>
    unfold firstBad
    cases k with
    | zero =>
      simp only [List.getD_cons_zero] at hz ⊢
      rw [if_neg hz]
    | succ k =>
      have h0 := h 0 (by omega)
      simp only [List.getD_cons_zero] at h0
      rw [if_pos h0]
      simp only [List.getD_cons_succ] at hz ⊢
      exact ih k (fun j hj => by have := h (j + 1) (by omega); simpa only [List.getD_cons_succ] using this) (by simpa using hk) hz
theorem firstBad_none (ps : List (List M.Cl)) (h : ∀ j, j < ps.length → M.valueFault (ps.getD j []) = 0) : firstBad ps = 0 := by
  induction ps with
  | nil => rfl
  | cons p r ih =>
    unfold firstBad
    have h0 := h 0 (by simp)
    simp only [List.getD_cons_zero] at h0
    rw [if_pos h0]
    exact ih (fun j hj => by have := h (j + 1) (by simpa using hj); simpa only [List.getD_cons_succ] using this)
def told (l : List M.Cl) : Int × List M.Cl := if M.valueFault l = 0 then (0, l) else (M.valueFault l, [])
theorem told_ok {l : List M.Cl} (h : M.valueFault l = 0) : told l = (0, l) := if_pos h
theorem told_bad {l : List M.Cl} (h : M.valueFault l ≠ 0) : told l = (M.valueFault l, []) := if_neg h
/-- The cells of lists that are right to be laid are so. -/
def OkS (ps : List (List M.Cl)) : Prop := ∀ i, i < ps.length → ∀ c ∈ ps.getD i [], c.ok
theorem arrK_ok (ps : List (List M.Cl)) (hn : ps.length ≤ 4096) (h : OkS ps) (k : Nat) (hk : k ≤ ps.length) : ∀ c ∈ arrK ps k, c.ok := by
  induction k with
  | zero =>
    intro c hc
    simp only [arrK, List.take_zero, List.flatten_nil, List.mem_cons, List.not_mem_nil, or_false] at hc
    subst hc
    unfold M.Cl.ok headCl
    refine ⟨?_, ?_, ?_, ?_, ?_⟩ <;> simp <;> omega
  | succ k ih =>
    rw [arrK_succ ps k (by omega)]
    intro c hc
    rcases List.mem_append.1 hc with hc | hc
    · exact ih (by omega) c hc
    · exact h k (by omega) c hc

/-- A row of one cell, laid by a literal. -/
theorem one_own (w : World) (B b : Nat) (c : M.Cl) (hb : b = w.heap.size) (hB : B ≤ w.heap.size) : (w.alloc (.cells #[.int .i64 c.kind, .int .i64 c.num, .string c.text, .string c.key, .int .i64 c.n] 43)).ownsRow B 43 5 (.slice (some ⟨b, 0, none⟩) 1 1) 1 (flat [c]) := by
  subst hb
  exact ⟨rfl, .inr ⟨w.heap.size, 1, _, rfl, hB, heap_alloc_new _ _, Nat.le_refl _, by simp [maxLen], rfl, rfl⟩⟩

theorem res_any {w : World} {B : Nat} {s : Value} {l : List M.Cl} (h : Res w B s l) (hl : l ≠ []) : ∃ b cap, s = .slice (some ⟨b, 0, none⟩) l.length cap ∧ l.length ≤ cap ∧ OwnG w b 43 l := by
  obtain ⟨_, ⟨_, rfl⟩ | ⟨b, cap, h1, _, h3, h4⟩⟩ := h
  · exact absurd rfl hl
  · exact ⟨b, cap, h1, h3, h4⟩
end Go.Proofs.YtfcglmkbfdfaeaaDoor

namespace Go.Proofs.YtfcglmkbfdfaeaaDoor
open Go.RowKit
set_option linter.unusedVariables false

end Go.Proofs.YtfcglmkbfdfaeaaDoor

namespace Go.Proofs.YtfcglmkbfdfaeaaDoor
namespace St
set_option linter.unusedVariables false

variable {lt : Nat → Nat → Prop} {t : Nat → Nat → Bool}

end St
end Go.Proofs.YtfcglmkbfdfaeaaDoor

namespace Go.Proofs.YtfcglmkbfdfaeaaDoor
namespace St
set_option linter.unusedVariables false
variable {lt : Nat → Nat → Prop} {t : Nat → Nat → Bool}

end St
end Go.Proofs.YtfcglmkbfdfaeaaDoor

namespace Go.Proofs.YtfcglmkbfdfaeaaDoor
open Go.RowKit
set_option linter.unusedVariables false
namespace St

theorem bl_irr : ∀ x : List UInt8, Op.bytesLess x x = false
  | [] => by simp [Op.bytesLess]
  | a :: x => by simp [Op.bytesLess, bl_irr x]
theorem bl_trans : ∀ x y z : List UInt8, Op.bytesLess x y = true → Op.bytesLess y z = true → Op.bytesLess x z = true
  | [], [], z, h, _ => by simp [Op.bytesLess] at h
  | [], b :: y, [], _, h => by simp [Op.bytesLess] at h
  | [], b :: y, c :: z, _, _ => by simp [Op.bytesLess]
  | a :: x, [], z, h, _ => by simp [Op.bytesLess] at h
  | a :: x, b :: y, [], _, h => by simp [Op.bytesLess] at h
  | a :: x, b :: y, c :: z, h1, h2 => by
    simp only [Op.bytesLess, Bool.or_eq_true, Bool.and_eq_true, decide_eq_true_eq, beq_iff_eq] at h1 h2 ⊢
    rcases h1 with h1 | ⟨rfl, h1⟩
    · rcases h2 with h2 | ⟨rfl, h2⟩
      · exact .inl (UInt8.lt_trans h1 h2)
      · exact .inl h1
    · rcases h2 with h2 | ⟨rfl, h2⟩
      · exact .inl h2
      · exact .inr ⟨rfl, bl_trans x y z h1 h2⟩
theorem bl_tri : ∀ x y : List UInt8, Op.bytesLess x y = true ∨ x = y ∨ Op.bytesLess y x = true
  | [], [] => .inr (.inl rfl)
  | [], b :: y => .inl (by simp [Op.bytesLess])
  | a :: x, [] => .inr (.inr (by simp [Op.bytesLess]))
  | a :: x, b :: y => by
    simp only [Op.bytesLess, Bool.or_eq_true, Bool.and_eq_true, decide_eq_true_eq, beq_iff_eq]
    have hl : a.toNat < b.toNat ∨ a.toNat = b.toNat ∨ b.toNat < a.toNat := by omega
    rcases hl with h | h | h
    · exact .inl (.inl h)
    · have : a = b := UInt8.toNat_inj.1 h
      subst this
      rcases bl_tri x y with h | h | h
      · exact .inl (.inr ⟨rfl, h⟩)
      · exact .inr (.inl (by rw [h]))
      · exact .inr (.inr (.inr ⟨rfl, h⟩))
    · exact .inr (.inr (.inl h))

def kl (ks : List ByteArray) (p : Nat) : List UInt8 := (ks.getD p ByteArray.empty).toList
def R (ks : List ByteArray) (p q : Nat) : Prop := Op.bytesLess (kl ks p) (kl ks q) = true
theorem R.ne {ks : List ByteArray} {p q : Nat} (h : R ks p q) : kl ks p ≠ kl ks q := fun e => by unfold R at h; rw [e, bl_irr] at h; cases h
theorem R.trans {ks : List ByteArray} {p q r : Nat} (h : R ks p q) (h' : R ks q r) : R ks p r := bl_trans _ _ _ h h'

/-- A place goes in among those that stand. -/
def insP (ks : List ByteArray) : List Nat → Nat → List Nat
  | [], p => [p]
  | q :: r, p => if Op.bytesLess (kl ks q) (kl ks p) = true then q :: insP ks r p else if kl ks q = kl ks p then p :: r else p :: q :: r
def stand (ks : List ByteArray) : Nat → List Nat
  | 0 => []
  | k + 1 => insP ks (stand ks k) k

theorem insP_mem (ks : List ByteArray) (L : List Nat) (p : Nat) (h : L.Pairwise (R ks)) : ∀ x, x ∈ insP ks L p ↔ x = p ∨ (x ∈ L ∧ kl ks x ≠ kl ks p) := by
  induction L with
  | nil => intro x; simp [insP]
  | cons q r ih =>
    intro x
    have hq := (List.pairwise_cons.1 h).1
    have hr := (List.pairwise_cons.1 h).2
    unfold insP
    by_cases c1 : Op.bytesLess (kl ks q) (kl ks p) = true
    · have hne := R.ne (ks := ks) (p := q) (q := p) c1
      rw [if_pos c1, List.mem_cons, ih hr x, List.mem_cons]
      constructor
      · rintro (rfl | rfl | ⟨h1, h2⟩)
        · exact .inr ⟨.inl rfl, hne⟩
        · exact .inl rfl
        · exact .inr ⟨.inr h1, h2⟩
      · rintro (rfl | ⟨rfl | h1, h2⟩)
        · exact .inr (.inl rfl)
        · exact .inl rfl
        · exact .inr (.inr ⟨h1, h2⟩)
    rw [if_neg c1]
    by_cases c2 : kl ks q = kl ks p
    · rw [if_pos c2, List.mem_cons, List.mem_cons]
      constructor
      · rintro (rfl | h1)
        · exact .inl rfl
        · exact .inr ⟨.inr h1, fun e => (hq x h1).ne (by rw [c2, e])⟩
      · rintro (rfl | ⟨rfl | h1, h2⟩)
        · exact .inl rfl
        · exact absurd c2 h2
        · exact .inr h1
    · rw [if_neg c2, List.mem_cons]
      have hpq : R ks p q := by
        rcases bl_tri (kl ks q) (kl ks p) with e | e | e
        · exact absurd e c1
        · exact absurd e c2
        · exact e
      constructor
      · rintro (rfl | h1)
        · exact .inl rfl
        · refine .inr ⟨h1, ?_⟩
          rcases List.mem_cons.1 h1 with rfl | h1
          · exact c2
          · exact fun e => (hpq.trans (hq x h1)).ne e.symm
      · rintro (rfl | ⟨h1, h2⟩)
        · exact .inl rfl
        · exact .inr h1
theorem insP_pw (ks : List ByteArray) (L : List Nat) (p : Nat) (h : L.Pairwise (R ks)) : (insP ks L p).Pairwise (R ks) := by
  induction L with
  | nil => simp [insP]
  | cons q r ih =>
    have hq := (List.pairwise_cons.1 h).1
    have hr := (List.pairwise_cons.1 h).2
    unfold insP
    by_cases c1 : Op.bytesLess (kl ks q) (kl ks p) = true
    · rw [if_pos c1]
      refine List.pairwise_cons.2 ⟨fun x hx => ?_, ih hr⟩
      rcases (insP_mem ks r p hr x).1 hx with rfl | ⟨h1, _⟩
      · exact c1
      · exact hq x h1
    rw [if_neg c1]
    by_cases c2 : kl ks q = kl ks p
    · rw [if_pos c2]
      refine List.pairwise_cons.2 ⟨fun x hx => ?_, hr⟩
      have := hq x hx
      unfold R at this ⊢
      rwa [← c2]
    · rw [if_neg c2]
      have hpq : R ks p q := by
        rcases bl_tri (kl ks q) (kl ks p) with e | e | e
        · exact absurd e c1
        · exact absurd e c2
        · exact e
      refine List.pairwise_cons.2 ⟨fun x hx => ?_, h⟩
      rcases List.mem_cons.1 hx with rfl | hx
      · exact hpq
      · exact hpq.trans (hq x hx)
theorem stand_pw (ks : List ByteArray) : ∀ k, (stand ks k).Pairwise (R ks)
  | 0 => List.Pairwise.nil
  | k + 1 => insP_pw ks _ k (stand_pw ks k)
theorem stand_mem (ks : List ByteArray) : ∀ k x, x ∈ stand ks k ↔ x < k ∧ ∀ q, x < q → q < k → kl ks q ≠ kl ks x
  | 0, x => by simp [stand]
  | k + 1, x => by
    unfold stand
    rw [insP_mem ks _ k (stand_pw ks k) x, stand_mem ks k x]
    constructor
    · rintro (rfl | ⟨⟨h1, h2⟩, h3⟩)
      · exact ⟨by omega, fun q q1 q2 => by omega⟩
      · refine ⟨by omega, fun q q1 q2 => ?_⟩
        by_cases e : q = k
        · rw [e]; exact fun e => h3 e.symm
        · exact h2 q q1 (by omega)
    · rintro ⟨h1, h2⟩
      by_cases e : x = k
      · exact .inl e
      · exact .inr ⟨⟨by omega, fun q q1 q2 => h2 q q1 (by omega)⟩, fun e' => h2 k (by omega) (by omega) e'.symm⟩
theorem stand_lt (ks : List ByteArray) (k x : Nat) (h : x ∈ stand ks k) : x < k := ((stand_mem ks k x).1 h).1
theorem insP_length (ks : List ByteArray) (L : List Nat) (p : Nat) : (insP ks L p).length ≤ L.length + 1 := by
  induction L with
  | nil => simp [insP]
  | cons q r ih =>
    unfold insP
    split
    · simp only [List.length_cons]; omega
    · split <;> simp only [List.length_cons] <;> omega
theorem stand_length (ks : List ByteArray) : ∀ k, (stand ks k).length ≤ k
  | 0 => by simp [stand]
  | k + 1 => by
    have := stand_length ks k
    have := insP_length ks (stand ks k) k
    unfold stand
    omega
end St
end Go.Proofs.YtfcglmkbfdfaeaaDoor

namespace Go.Proofs.YtfcglmkbfdfaeaaDoor
open Go.RowKit
set_option linter.unusedVariables false

end Go.Proofs.YtfcglmkbfdfaeaaDoor

namespace Go.Proofs.YtfcglmkbfdfaeaaDoor
open Go.RowKit
set_option linter.unusedVariables false

def natV (L : List Nat) : List Value := L.map fun p => Value.int .i64 (p : Nat)
theorem ownsRow_mono {w : World} {B B' : Nat} {e : TypeId} {size : Nat} {v : Value} {n : Nat} {xs : List Value} (h : w.ownsRow B e size v n xs) (hB : B' ≤ B) : w.ownsRow B' e size v n xs := by
  obtain ⟨h1, h2 | ⟨g, cap, cur, h3, h4, h5⟩⟩ := h
  · exact ⟨h1, .inl h2⟩
  · exact ⟨h1, .inr ⟨g, cap, cur, h3, by omega, h5⟩⟩
theorem below_drewN {B : Nat} {a w : World} (h : Below B a w) (k : Nat) : Below B a (w.drewN k) := ⟨h.os, h.tape, h.output, h.size, h.block⟩
end Go.Proofs.YtfcglmkbfdfaeaaDoor
