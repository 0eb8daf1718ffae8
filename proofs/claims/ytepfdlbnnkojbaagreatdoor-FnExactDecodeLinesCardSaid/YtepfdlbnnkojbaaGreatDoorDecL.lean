/-
  Reading a value, plainly, step by step: what a round of a list does, what stands by then. No word of the program is used here.
  Rows of keys and of parts that are built by appends, beside one another.
-/
import Derived.Test.YtepfdlbnnkojbaaGreatDoorDecM
import Derived.Test.YtepfdlbnnkojbaaGreatDoorBld
namespace Go.Proofs.YtepfdlbnnkojbaaGreatDoor
open Go.RowKit
set_option linter.unusedVariables false

/-- A part that bears no key. -/
def Bare (p : List M.Cl) : Prop := 1 ≤ p.length ∧ setKey p ByteArray.empty = p

namespace J
theorem skip_skip (s : ByteArray) (k : Nat) : skip s (skip s k) = skip s k := by
  generalize h : s.size - k = n
  induction n generalizing k with
  | zero =>
    have h1 : s.size ≤ k := by omega
    rw [skip_end s k h1, skip_end s k h1]
  | succ n ih =>
    have hlt : k < s.size := by omega
    cases hb : blank s[k] with
    | true => rw [skip_go s k hlt hb]; exact ih (k + 1) (by omega)
    | false => rw [skip_stop s k hlt hb, skip_stop s k hlt hb]
/-- Behind an element: the end, or the next one. -/
def tailR (rec : Nat → Rv) (s : ByteArray) (obj : Bool) (g i : Nat) (ks : List ByteArray) (ps : List (List M.Cl)) : Rv :=
  if peek s i = lastB obj then .inr (madeV obj ks ps, i + 1)
  else if peek s i = 44 then elemsR rec s obj g (skip s (i + 1)) ks ps
  else .inl (5, i)
theorem lastB_comma (obj : Bool) : (44 : Int) ≠ lastB obj := by cases obj <;> decide
theorem tail_last {rec : Nat → Rv} {s : ByteArray} {obj : Bool} {g i : Nat} {ks : List ByteArray} {ps : List (List M.Cl)} (h : peek s i = lastB obj) : tailR rec s obj g i ks ps = .inr (madeV obj ks ps, i + 1) := by unfold tailR; rw [if_pos h]
theorem tail_comma {rec : Nat → Rv} {s : ByteArray} {obj : Bool} {g i : Nat} {ks : List ByteArray} {ps : List (List M.Cl)} (h : peek s i = 44) : tailR rec s obj g i ks ps = elemsR rec s obj g (skip s (i + 1)) ks ps := by unfold tailR; rw [if_neg (by rw [h]; exact lastB_comma obj), if_pos h]
theorem tail_no {rec : Nat → Rv} {s : ByteArray} {obj : Bool} {g i : Nat} {ks : List ByteArray} {ps : List (List M.Cl)} (h : peek s i ≠ lastB obj) (h2 : peek s i ≠ 44) : tailR rec s obj g i ks ps = .inl (5, i) := by unfold tailR; rw [if_neg h, if_neg h2]
theorem elems_head_no {rec : Nat → Rv} {s : ByteArray} {obj : Bool} {g i : Nat} {ks : List ByteArray} {ps : List (List M.Cl)} {p : Int × Nat} (h : headR s obj i = .inl p) : elemsR rec s obj (g + 1) i ks ps = .inl p := by rw [elemsR, h]
theorem elems_rec_no {rec : Nat → Rv} {s : ByteArray} {obj : Bool} {g i j : Nat} {key ks : List ByteArray} {ps : List (List M.Cl)} {p : Int × Nat} (h : headR s obj i = .inr (key, j)) (h2 : rec j = .inl p) : elemsR rec s obj (g + 1) i ks ps = .inl p := by rw [elemsR, h]; simp only; rw [h2]
theorem elems_yes {rec : Nat → Rv} {s : ByteArray} {obj : Bool} {g i j e : Nat} {key ks : List ByteArray} {v : List M.Cl} {ps : List (List M.Cl)} (h : headR s obj i = .inr (key, j)) (h2 : rec j = .inr (v, e)) : elemsR rec s obj (g + 1) i ks ps = tailR rec s obj g (skip s e) (ks ++ key) (ps ++ [v]) := by rw [elemsR, h]; simp only; rw [h2]; rfl
/-- At the head of the model's loop. -/
def headS (rec : Nat → Rv) (s : ByteArray) (obj fst : Bool) (g i : Nat) (ks : List ByteArray) (ps : List (List M.Cl)) : Rv :=
  if fst then (if peek s i = lastB obj then .inr (madeV obj ks ps, i + 1) else elemsR rec s obj g i ks ps) else tailR rec s obj g i ks ps
theorem headS_start (rec : Nat → Rv) (s : ByteArray) (obj : Bool) (i : Nat) : manyR rec s obj i = headS rec s obj true (s.size + 1) i [] [] := rfl
theorem headS_last {rec : Nat → Rv} {s : ByteArray} {obj fst : Bool} {g i : Nat} {ks : List ByteArray} {ps : List (List M.Cl)} (h : peek s i = lastB obj) : headS rec s obj fst g i ks ps = .inr (madeV obj ks ps, i + 1) := by
  unfold headS
  cases fst
  · exact tail_last h
  · rw [if_pos rfl, if_pos h]
theorem headS_first {rec : Nat → Rv} {s : ByteArray} {obj : Bool} {g i : Nat} {ks : List ByteArray} {ps : List (List M.Cl)} (h : peek s i ≠ lastB obj) : headS rec s obj true g i ks ps = elemsR rec s obj g i ks ps := by
  unfold headS; rw [if_pos rfl, if_neg h]
theorem many_last {rec : Nat → Rv} {s : ByteArray} {obj : Bool} {i : Nat} (h : peek s i = lastB obj) : manyR rec s obj i = .inr (madeV obj [] [], i + 1) := by unfold manyR; rw [if_pos h]
theorem many_go {rec : Nat → Rv} {s : ByteArray} {obj : Bool} {i : Nat} (h : peek s i ≠ lastB obj) : manyR rec s obj i = elemsR rec s obj (s.size + 1) i [] [] := by unfold manyR; rw [if_neg h]

theorem made_bare (obj : Bool) (ks : List ByteArray) (ps : List (List M.Cl)) : Bare (madeV obj ks ps) := by
  unfold madeV
  cases obj with
  | false => exact ⟨by simp [arrV, arrK], rfl⟩
  | true => exact ⟨by simp [objV, objK], rfl⟩
theorem elems_made (rec : Nat → Rv) (s : ByteArray) (obj : Bool) (g : Nat) : ∀ i ks ps v e, elemsR rec s obj g i ks ps = .inr (v, e) → Bare v := by
  induction g with
  | zero => intro i ks ps v e h; rw [elemsR] at h; exact absurd h (by simp)
  | succ g ih =>
    intro i ks ps v e h
    cases hh : headR s obj i with
    | inl p => rw [elems_head_no hh] at h; exact absurd h (by simp)
    | inr p =>
      obtain ⟨key, j⟩ := p
      cases hr : rec j with
      | inl p => rw [elems_rec_no hh hr] at h; exact absurd h (by simp)
      | inr p =>
        obtain ⟨v', e'⟩ := p
        rw [elems_yes hh hr] at h
        by_cases h1 : peek s (skip s e') = lastB obj
        · rw [tail_last h1] at h
          simp only [Sum.inr.injEq, Prod.mk.injEq] at h
          rw [← h.1]; exact made_bare _ _ _
        · by_cases h2 : peek s (skip s e') = 44
          · rw [tail_comma h2] at h; exact ih _ _ _ _ _ h
          · rw [tail_no h1 h2] at h; exact absurd h (by simp)
theorem many_bare {rec : Nat → Rv} {s : ByteArray} {obj : Bool} {i : Nat} {v : List M.Cl} {e : Nat} (h : manyR rec s obj i = .inr (v, e)) : Bare v := by
  by_cases h1 : peek s i = lastB obj
  · rw [many_last h1] at h
    simp only [Sum.inr.injEq, Prod.mk.injEq] at h
    rw [← h.1]; exact made_bare _ _ _
  · rw [many_go h1] at h; exact elems_made _ _ _ _ _ _ _ _ _ h
theorem one_bare (s : ByteArray) (f d k : Nat) (v : List M.Cl) (e : Nat) (h : oneR f d s k = .inr (v, e)) : Bare v := by
  cases f with
  | zero => rw [oneR] at h; exact absurd h (by simp)
  | succ f =>
    have word : ∀ ws kind, wordV s k ws kind = .inr (v, e) → Bare v := by
      intro ws kind hw
      unfold wordV at hw
      split at hw
      · exact absurd hw (by simp)
      · simp only [Sum.inr.injEq, Prod.mk.injEq] at hw
        rw [← hw.1]; exact ⟨by simp, rfl⟩
    rw [oneR] at h
    split at h
    · exact absurd h (by simp)
    split at h
    · exact absurd h (by simp)
    split at h
    · exact word _ _ h
    split at h
    · exact word _ _ h
    split at h
    · exact word _ _ h
    split at h
    · exact many_bare h
    split at h
    · exact many_bare h
    split at h
    · unfold strV at h
      split at h
      · exact absurd h (by simp)
      · simp only [Sum.inr.injEq, Prod.mk.injEq] at h
        rw [← h.1]; exact ⟨by simp, rfl⟩
    · unfold numV at h
      split at h
      · exact absurd h (by simp)
      · simp only [Sum.inr.injEq, Prod.mk.injEq] at h
        rw [← h.1]; exact ⟨by simp, rfl⟩
/-- What stands when a list was read up to a place. -/
structure Pl (obj : Bool) (i : Nat) (ks : List ByteArray) (ps : List (List M.Cl)) : Prop where
  len : ps.length ≤ i
  tot : tot ps ps.length ≤ i
  bare : ∀ j, j < ps.length → Bare (ps.getD j [])
  keys : ks.length = if obj then ps.length else 0
theorem Pl.start (obj : Bool) (i : Nat) : Pl obj i [] [] := ⟨Nat.zero_le _, Nat.zero_le _, fun j hj => by simp at hj, by cases obj <;> rfl⟩
theorem Pl.mono {obj : Bool} {i i' : Nat} {ks : List ByteArray} {ps : List (List M.Cl)} (h : Pl obj i ks ps) (hi : i ≤ i') : Pl obj i' ks ps := ⟨Nat.le_trans h.len hi, Nat.le_trans h.tot hi, h.bare, h.keys⟩
theorem Pl.next {obj : Bool} {i : Nat} {ks key : List ByteArray} {ps : List (List M.Cl)} {s : ByteArray} {j e : Nat} {v : List M.Cl} (h : Pl obj i ks ps) (hi : i ≤ j) (hf : Fit s j (.inr (v, e))) (hb : Bare v) (hk : key.length = if obj then 1 else 0) : Pl obj (skip s e) (ks ++ key) (ps ++ [v]) := by
  obtain ⟨f1, f2, f3, f4⟩ := hf
  have h1 := h.len
  have h2 := h.tot
  have h3 := skip_ge s e
  have h4 := tot_snoc ps v
  refine ⟨by simp; omega, by omega, fun q hq => ?_, ?_⟩
  · rw [List.length_append] at hq
    simp only [List.length_cons, List.length_nil] at hq
    by_cases c : q < ps.length
    · rw [List.getD_eq_getElem?_getD, List.getElem?_append_left c, ← List.getD_eq_getElem?_getD]; exact h.bare q c
    · obtain rfl : q = ps.length := by omega
      rw [List.getD_eq_getElem?_getD, List.getElem?_append_right (Nat.le_refl _), Nat.sub_self]; exact hb
  · rw [List.length_append, hk, h.keys]
    cases obj <;> simp
theorem head_arr (s : ByteArray) (i : Nat) : headR s false i = .inr ([], i) := rfl
theorem head_obj_no {s : ByteArray} {i : Nat} {p : Int × Nat} (h : keyR s i = .inl p) : headR s true i = .inl p := by unfold headR; rw [if_pos rfl, h]
theorem head_obj {s : ByteArray} {i j : Nat} {key : ByteArray} (h : keyR s i = .inr (key, j)) : headR s true i = .inr ([key], skip s j) := by unfold headR; rw [if_pos rfl, h]
end J
end Go.Proofs.YtepfdlbnnkojbaaGreatDoor

namespace Go.Proofs.YtepfdlbnnkojbaaGreatDoor
open Go.RowKit
set_option linter.unusedVariables false
set_option linter.unusedSimpArgs false


namespace Dc
theorem ks_grown {w w' : World} {B base : Nat} {v s : Value} {ks : List ByteArray} {n size : Nat} {e : TypeId} {xs : List Value} (h : KS w B v ks) (ho : w.ownsRow base e size s n xs) (hne : e ≠ 9) (hg : w.grownBy w' s.ownBlock) : KS w' B v ks := by
  obtain ⟨h1, h2 | ⟨g, cap, cur, h3, h4, h5, h6⟩⟩ := h
  · exact ⟨h1, .inl h2⟩
  · obtain ⟨c, hc, ec⟩ := grown_own hg (b := g) (t := 9) (ys := cur.toList) ⟨cur, h5, rfl⟩ (other_block ho (b := g) (t := 9) (ys := cur.toList) ⟨cur, h5, rfl⟩ hne)
    have : c = cur := Array.toList_inj.1 ec
    subst this
    exact ⟨h1, .inr ⟨g, cap, c, h3, h4, hc, h6⟩⟩
theorem ss_grown {w w' : World} {B base : Nat} {v s : Value} {ps : List (List M.Cl)} {e : TypeId} {size n : Nat} {xs : List Value} (h : SS w B v ps) (ho : w.ownsRow base e size s n xs) (h1 : e ≠ 22) (h2 : e ≠ 81) (hg : w.grownBy w' s.ownBlock) : SS w' B v ps := by
  obtain ⟨ss, hl, hown, hres⟩ := h
  refine ⟨ss, hl, hown.kept hg ?_, fun i hi => grown_res ho hg (hres i hi) h2⟩
  obtain ⟨_, ⟨rfl, _⟩ | ⟨g, cap, cur, rfl, _, hh, _⟩⟩ := hown
  · exact .inl rfl
  · refine .inr fun e => ?_
    exact other_block ho (b := g) (t := 22) (ys := cur.toList) ⟨cur, hh, rfl⟩ h1 (by rw [← e]; rfl)
theorem ks_alloc {w : World} {B : Nat} {v : Value} {ks : List ByteArray} (h : KS w B v ks) (o : Obj) : KS (w.alloc o) B v ks := h.below ((Below.refl _ _).alloc (Nat.le_refl _) o)
theorem ss_alloc {w : World} {B : Nat} {v : Value} {ps : List (List M.Cl)} (h : SS w B v ps) (o : Obj) : SS (w.alloc o) B v ps := h.below ((Below.refl _ _).alloc (Nat.le_refl _) o)
theorem ks_empty (w : World) (B b : Nat) (hb : b = w.heap.size) (hB : B ≤ b) : KS (w.alloc (.cells #[] 9)) B (.slice (some ⟨b, 0, none⟩) 0 0) [] := by
  subst hb
  exact ⟨rfl, .inr ⟨w.heap.size, 0, #[], rfl, hB, heap_alloc_new _ _, Nat.le_refl _, by simp [maxLen], rfl, rfl⟩⟩
theorem ks_nil (w : World) (B : Nat) : KS w B (.slice none 0 0) [] := World.ownsRow_nil _ _ _ _
theorem one_str (key : ByteArray) : ∀ u ∈ ([Value.string key] : List Value), u.oneCell' = true := by
  intro u hu; simp only [List.mem_cons, List.not_mem_nil, or_false] at hu; subst hu; rfl
/-- The two rows. -/
structure Rw (wr : World) (B : Nat) (sk sl : Value) (ks : List ByteArray) (ps : List (List M.Cl)) : Prop where
  keys : KS wr B sk ks
  list : SS wr B sl ps
theorem Rw.below {wr w2 : World} {B : Nat} {sk sl : Value} {ks : List ByteArray} {ps : List (List M.Cl)} (h : Rw wr B sk sl ks ps) (hb : Below wr.heap.size wr w2) : Rw w2 B sk sl ks ps := ⟨h.keys.below hb, h.list.below hb⟩
theorem Rw.alloc {wr : World} {B : Nat} {sk sl : Value} {ks : List ByteArray} {ps : List (List M.Cl)} (h : Rw wr B sk sl ks ps) (o : Obj) : Rw (wr.alloc o) B sk sl ks ps := ⟨ks_alloc h.keys o, ss_alloc h.list o⟩
/-- A key more. -/
theorem Rw.key {wr w3 : World} {B : Nat} {sk sl v' : Value} {ks : List ByteArray} {ps : List (List M.Cl)} {o : Obj} {key : ByteArray} (h : Rw wr B sk sl ks ps) (hg : (wr.alloc o).grownBy w3 sk.ownBlock) (ho : w3.ownsRow B 9 1 v' (ks.length + 1) (ks.map Value.string ++ [.string key])) : Rw w3 B v' sl (ks ++ [key]) ps := by
  refine ⟨?_, ss_grown (ss_alloc h.list o) (ks_alloc h.keys o) (by decide) (by decide) hg⟩
  unfold KS
  simpa using ho
/-- A part more. -/
theorem Rw.part {wr w3 : World} {B : Nat} {sk sl v' sp : Value} {ks : List ByteArray} {ps : List (List M.Cl)} {o : Obj} {p : List M.Cl} {ss : List Value} (h : Rw wr B sk sl ks ps) (hl : ss.length = ps.length) (hown : wr.ownsRow B 22 1 sl ps.length ss) (hres : ∀ i, i < ps.length → Res wr B (ss.getD i (.slice none 0 0)) (ps.getD i [])) (hp : Res wr B sp p) (hg : (wr.alloc o).grownBy w3 sl.ownBlock) (ho : w3.ownsRow B 22 1 v' (ps.length + 1) (ss ++ [sp])) : Rw w3 B sk v' ks (ps ++ [p]) :=
  ⟨ks_grown (ks_alloc h.keys o) (hown.alloc o) (by decide) hg, SS.snoc rfl hl hown hres hp hg ho⟩
theorem bare_ne {ps : List (List M.Cl)} (h : ∀ j, j < ps.length → Bare (ps.getD j [])) : ∀ j, j < ps.length → ps.getD j [] ≠ [] := by
  intro j hj e
  have := (h j hj).1
  rw [e] at this
  simp at this
end Dc

end Go.Proofs.YtepfdlbnnkojbaaGreatDoor
