/-
  impl.partOf: the value at a place by itself.
  impl.partsOf and impl.keysIn: the parts of a value, each in memory of its own, and their keys.
  spec.GetKey and impl.GetKey.
  Lists that are joined, and what a sum of two values is, plainly.
  slices.Clone and impl.areBoth.
  An answer that holds lists of cells: what the laws' helpers find, mark and find again in it.
  spec.EachOf and impl.EachOf.
  spec.PartAt and impl.PartAt answer alike.
-/
import Derived.Test.YtfcglmkbfdfaeaaDoorT03
import Derived.Test.YtfcglmkbfdfaeaaDoorT08
import Derived.Test.YtfcglmkbfdfaeaaDoorT11
import Derived.Test.YtfcglmkbfdfaeaaDoorT13
import Derived.Test.YtfcglmkbfdfaeaaDoorT14
import Derived.Test.YtfcglmkbfdfaeaaDoorT15
import Derived.Test.YtfcglmkbfdfaeaaDoorT16
import Derived.BigQuiet
import Derived.Deep.RegionHeld
import Derived.Deep.Slices
import Derived.Laws.AppendOwnNone
import Derived.Lib.SliceRun
namespace Go.Proofs.YtfcglmkbfdfaeaaDoor
open Go.RowKit
set_option linter.unusedVariables false

set_option maxHeartbeats 1000000 in
theorem partOf_any (v : List M.Cl) (b off cap a : Nat) (w : World) (hv : M.valueFault v = 0) (ha : a < v.length) (hrow : Row w b off v) (hb : b < w.heap.size) (hcap : v.length ≤ cap) :
    Calls Tryd.prog 25 #[.slice (some ⟨b, off, none⟩) v.length cap, .int .i64 a] w fun e w' => ∃ s, e = .returned s ∧ Res w' w.heap.size s (part v a) ∧ Below w.heap.size w w' := by
  have hl := (M.fault_zero hv).2.1
  obtain ⟨d, _, h2, h3, h4⟩ := M.endOf_spec hv a (by omega)
  have HV := hide hv
  clear hv
  go_enter Tryd.func25, Tryd.ntmps25
  go_wp2_with fail
  refine (endOf_any v b off cap a _ (unhide HV) (by omega) hrow hb hcap).mono ?_
  rintro e2 w2 ⟨rfl, hw2⟩
  subst hw2
  have HP := hide (show part v a = setKey (cut v a (M.endOf v a)) ByteArray.empty from rfl)
  generalize hz : M.endOf v a = z at *
  have hcl := cut_length v a z h3
  have hne : cut v a z ≠ [] := by intro h; rw [h] at hcl; simp at hcl; omega
  have HCL := hide hcl
  clear hcl
  have HAP := hide (appendPart_any w2.heap.size (.slice none 0 0) [] (cut v a z) b (off + a * 5) (cap - a) ByteArray.empty w2 (World.ownsRow_nil _ _ _ _) (hrow.cut a z h3) hne (by rw [unhide HCL]; simp; omega) (Nat.le_refl _))
  rw [unhide HCL] at HAP
  clear hz
  go_wp2_with fail
  refine (unhide HAP).mono ?_
  rintro e3 w3 ⟨s, rfl, ho3, hb2⟩
  simp only [List.nil_append] at ho3
  have hr2 := res_of_owns ho3 (by rw [setKey_length, unhide HCL]; omega)
  rw [← unhide HP] at hr2
  clear ho3 HAP
  have HR2 := hide hr2
  clear hr2
  go_wp2_with fail
  go_ret
  exact ⟨_, rfl, unhide HR2, hb2⟩

end Go.Proofs.YtfcglmkbfdfaeaaDoor

namespace Go.Proofs.YtfcglmkbfdfaeaaDoor
open Go.RowKit
set_option linter.unusedVariables false

end Go.Proofs.YtfcglmkbfdfaeaaDoor

namespace Go.Proofs.YtfcglmkbfdfaeaaDoor
open Go.RowKit
set_option linter.unusedVariables false

theorem subs_getD' (v : List M.Cl) (i : Nat) (hi : i < M.arity v 0) : (subs v 0).getD i [] = part v (M.iter v i 1) := by
  simp [subs, M.places, List.getD_eq_getElem?_getD, hi]

end Go.Proofs.YtfcglmkbfdfaeaaDoor

namespace Go.Proofs.YtfcglmkbfdfaeaaDoor
open Go.RowKit
set_option linter.unusedVariables false

theorem told_str (s : ByteArray) : told [strCl s] = strOut s := by
  cases h : M.textOk s with
  | false =>
    have hne : s.toList ≠ [] := by
      intro e
      have hs : s = ByteArray.empty := bytes_ext (by rw [e, empty_toList])
      rw [hs] at h
      exact absurd h (by decide)
    have hc : M.cellCode (strCl s) = 5 := by
      unfold strCl M.cellCode
      simp only
      rw [if_neg (by omega), if_neg, if_neg (by omega), if_neg (by simp [h])]
      intro g
      rcases g with g | g | g
      · exact g.1 rfl
      · exact g.2 rfl
      · exact g.1 rfl
    have hf : M.valueFault [strCl s] = 5 := by unfold M.valueFault; rw [if_neg (by simp)]; simp [M.firstCode, hc]
    rw [str_bad h, told_bad (by rw [hf]; decide), hf]
  | true => rw [str_ok h, told_ok (one_valid (code_str h) empty_toList rfl).1]; rfl
theorem zero_valid : M.valueFault [M.zero] = 0 ∧ ∀ c ∈ [M.zero], c.ok := by
  refine ⟨(one_valid (c := M.zero) ?_ empty_toList rfl).1, fun c hc => ?_⟩
  · unfold M.zero M.cellCode
    simp only
    rw [if_neg (by omega), if_neg, if_neg (by omega), if_pos ⟨by decide, by decide⟩]
    intro g
    rcases g with g | g | g
    · exact g.1 rfl
    · exact g.1 empty_toList
    · exact g.1 rfl
  · simp only [List.mem_cons, List.not_mem_nil, or_false] at hc
    subst hc
    unfold M.zero M.Cl.ok
    simp only
    refine ⟨by omega, by omega, by omega, by decide, by decide⟩

end Go.Proofs.YtfcglmkbfdfaeaaDoor

namespace Go.Proofs.YtfcglmkbfdfaeaaDoor
open Go.RowKit
set_option linter.unusedVariables false

set_option maxRecDepth 100000 in
set_option maxHeartbeats 1000000 in
theorem clone_any (l : List M.Cl) (b off cap : Nat) (w : World) (hrow : Row w b off l) (hb : b < w.heap.size) (hn : l.length ≤ 1048576) :
    Calls Tryd.prog 38 #[.slice (some ⟨b, off, none⟩) l.length cap] w fun e w' => ∃ s, e = .returned s ∧ Res w' w.heap.size s l ∧ Below w.heap.size w w' := by
  obtain ⟨i0, hi, hz0, hz1, hz2⟩ := info_parts Tryd.info43
  have hnews := hide (fun o => row_words (hrow.below ((Below.refl w.heap.size w).alloc (Nat.le_refl _) o) hb))
  have hone := hide (flat_one l)
  have HFL := hide (flat_length l)
  have hoe := hide (owns_empty5 w 43)
  have hb63 : 0 + l.length ≤ maxLen := by unfold maxLen; omega
  have hby : (0 + l.length) * 56 ≤ 140737488355328 := by omega
  have heq : ∀ w', (binOp .eql 24 (.slice (some ⟨b, off, none⟩) l.length cap) (.slice none 0 0)).run Tryd.prog w' = .ok (.bool false) w' := fun w' => Lib.run_eql_slice_nil w' 24 43 (some ⟨b, off, none⟩) l.length cap 0 0 Tryd.underlying24
  go_enter Tryd.func38, Tryd.ntmps38
  go_wp2_with (at_builtin; refine wpList_append_own _ rfl (.tmp 5) (.tmp 6) 24 rfl w.heap.size 43 i0 _ 5 56 Tryd.underlying24 hi hz0 hz1 hz2 rfl (by decide) _ 0 [] rfl (unhide hoe) ⟨b, off, none⟩ l.length cap (flat l) rfl (unhide HFL) ((unhide hnews) _) (unhide hone) hb63 hby (by simp) ?_)
  intro v' w' ho hg _
  have hB : Below w.heap.size w w' := ((Below.refl _ w).alloc (Nat.le_refl _) _).grown hg (by simp) (fun q hq => by simp only [Value.ownBlock, Option.some.injEq] at hq; omega)
  have hr := hide (res_of_owns (l := l) (by simpa using ho) hn)
  clear ho hg
  go_wp2_with fail
  go_ret
  exact ⟨_, rfl, unhide hr, hB⟩

end Go.Proofs.YtfcglmkbfdfaeaaDoor

namespace Go.Proofs.YtfcglmkbfdfaeaaDoor
open Go.RowKit
set_option linter.unusedVariables false

/-- All but what lies from block lo on and ahead of block hi is as it was. -/
structure Out (lo hi : Nat) (w w' : World) : Prop where
  os : w'.os = w.os
  tape : w'.tape = w.tape
  output : w'.output = w.output
  size : w.heap.size ≤ w'.heap.size
  block : ∀ k, k < w.heap.size → (k < lo ∨ hi ≤ k) → w'.heap[k]? = w.heap[k]?
/-- The slice v holds slices, each in a block of its own; all blocks lie from lo on and ahead of hi. -/
def PR (w : World) (lo hi : Nat) (v : Value) (ps : List (List M.Cl)) : Prop :=
  (v = .slice none 0 0 ∧ ps = []) ∨ ∃ (g cap : Nat) (xs : List Value) (β γ : Nat → Nat), v = .slice (some ⟨g, 0, none⟩) ps.length cap ∧ ps.length ≤ cap ∧ lo ≤ g ∧ g < hi ∧ Own w g 24 xs ∧
    (∀ i, i < ps.length → xs[i]? = some (.slice (some ⟨β i, 0, none⟩) (ps.getD i []).length (γ i)) ∧ (ps.getD i []).length ≤ γ i ∧ lo ≤ β i ∧ β i < hi ∧ β i ≠ g ∧ OwnG w (β i) 43 (ps.getD i [])) ∧
    ∀ i j, i < j → j < ps.length → β i ≠ β j
/-- The same, without a word of what is shared. -/
def PS (w : World) (lo hi : Nat) (v : Value) (ps : List (List M.Cl)) : Prop :=
  (v = .slice none 0 0 ∧ ps = []) ∨ ∃ (g cap : Nat) (xs : List Value) (β γ : Nat → Nat), v = .slice (some ⟨g, 0, none⟩) ps.length cap ∧ ps.length ≤ cap ∧ lo ≤ g ∧ g < hi ∧ Own w g 24 xs ∧
    (∀ i, i < ps.length → xs[i]? = some (.slice (some ⟨β i, 0, none⟩) (ps.getD i []).length (γ i)) ∧ (ps.getD i []).length ≤ γ i ∧ lo ≤ β i ∧ β i < hi ∧ OwnG w (β i) 43 (ps.getD i []))
theorem PR.ps {w : World} {lo hi : Nat} {v : Value} {ps : List (List M.Cl)} (h : PR w lo hi v ps) : PS w lo hi v ps := by
  rcases h with h | ⟨g, cap, xs, β, γ, h1, h2, h3, h4, h5, h6, _⟩
  · exact .inl h
  · exact .inr ⟨g, cap, xs, β, γ, h1, h2, h3, h4, h5, fun i hi => ⟨(h6 i hi).1, (h6 i hi).2.1, (h6 i hi).2.2.1, (h6 i hi).2.2.2.1, (h6 i hi).2.2.2.2.2⟩⟩
theorem OwnG.keep {w w' : World} {b : Nat} {t : TypeId} {l : List M.Cl} (h : OwnG w b t l) (hk : w'.heap[b]? = w.heap[b]?) : OwnG w' b t l := by
  obtain ⟨xs, ⟨c, h1, h2⟩, h3⟩ := h; exact ⟨xs, ⟨c, hk.trans h1, h2⟩, h3⟩
theorem Own.keep {w w' : World} {b : Nat} {t : TypeId} {xs : List Value} (h : Own w b t xs) (hk : w'.heap[b]? = w.heap[b]?) : Own w' b t xs := by
  obtain ⟨c, h1, h2⟩ := h; exact ⟨c, hk.trans h1, h2⟩
theorem PR.keep {w w' : World} {lo hi : Nat} {v : Value} {ps : List (List M.Cl)} (h : PR w lo hi v ps) (hk : ∀ k, lo ≤ k → k < hi → k < w.heap.size → w'.heap[k]? = w.heap[k]?) : PR w' lo hi v ps := by
  rcases h with h | ⟨g, cap, xs, β, γ, h1, h2, h3, h4, h5, h6, h7⟩
  · exact .inl h
  · exact .inr ⟨g, cap, xs, β, γ, h1, h2, h3, h4, h5.keep (hk g h3 h4 h5.lt), fun i hi => ⟨(h6 i hi).1, (h6 i hi).2.1, (h6 i hi).2.2.1, (h6 i hi).2.2.2.1, (h6 i hi).2.2.2.2.1, (h6 i hi).2.2.2.2.2.keep (hk _ (h6 i hi).2.2.1 (h6 i hi).2.2.2.1 (h6 i hi).2.2.2.2.2.lt)⟩, h7⟩
theorem PS.keep {w w' : World} {lo hi : Nat} {v : Value} {ps : List (List M.Cl)} (h : PS w lo hi v ps) (hk : ∀ k, lo ≤ k → k < hi → k < w.heap.size → w'.heap[k]? = w.heap[k]?) : PS w' lo hi v ps := by
  rcases h with h | ⟨g, cap, xs, β, γ, h1, h2, h3, h4, h5, h6⟩
  · exact .inl h
  · exact .inr ⟨g, cap, xs, β, γ, h1, h2, h3, h4, h5.keep (hk g h3 h4 h5.lt), fun i hi => ⟨(h6 i hi).1, (h6 i hi).2.1, (h6 i hi).2.2.1, (h6 i hi).2.2.2.1, (h6 i hi).2.2.2.2.keep (hk _ (h6 i hi).2.2.1 (h6 i hi).2.2.2.1 (h6 i hi).2.2.2.2.lt)⟩⟩
theorem PR.below {w w' : World} {lo hi : Nat} {v : Value} {ps : List (List M.Cl)} (h : PR w lo hi v ps) (hb : Below w.heap.size w w') : PR w' lo hi v ps := h.keep fun k _ _ hk => hb.block k hk
theorem PS.below {w w' : World} {lo hi : Nat} {v : Value} {ps : List (List M.Cl)} (h : PS w lo hi v ps) (hb : Below w.heap.size w w') : PS w' lo hi v ps := h.keep fun k _ _ hk => hb.block k hk
theorem PS.shape {w : World} {lo hi : Nat} {v : Value} {ps : List (List M.Cl)} (h : PS w lo hi v ps) : ∃ a n c, v = .slice a n c := by
  rcases h with ⟨rfl, _⟩ | ⟨g, cap, xs, β, γ, rfl, _⟩
  · exact ⟨_, _, _, rfl⟩
  · exact ⟨_, _, _, rfl⟩
theorem PS.mono {w : World} {lo hi lo' hi' : Nat} {v : Value} {ps : List (List M.Cl)} (h : PS w lo hi v ps) (h1 : lo' ≤ lo) (h2 : hi ≤ hi') : PS w lo' hi' v ps := by
  rcases h with h | ⟨g, cap, xs, β, γ, q1, q2, q3, q4, q5, q6⟩
  · exact .inl h
  · exact .inr ⟨g, cap, xs, β, γ, q1, q2, by omega, by omega, q5, fun i hi => ⟨(q6 i hi).1, (q6 i hi).2.1, by have := (q6 i hi).2.2.1; omega, by have := (q6 i hi).2.2.2.1; omega, (q6 i hi).2.2.2.2⟩⟩

theorem SS.ps {w : World} {B : Nat} {v : Value} {ps : List (List M.Cl)} (h : SS w B v ps) (hne : ∀ i, i < ps.length → ps.getD i [] ≠ []) : PS w B w.heap.size v ps := by
  obtain ⟨ss, hl, ho, hr⟩ := h
  obtain ⟨_, ⟨rfl, h0⟩ | ⟨g, cap, cur, rfl, hg, hh, hnc, hcm, hcs, ht⟩⟩ := ho
  · exact .inl ⟨rfl, List.length_eq_zero_iff.1 h0⟩
  · haveI : Inhabited (Nat × Nat) := ⟨(0, 0)⟩
    obtain ⟨σ, hσ⟩ := Go.Deep.choose_lt (n := ps.length) (p := fun i (t : Nat × Nat) => ss.getD i (.slice none 0 0) = .slice (some ⟨t.1, 0, none⟩) (ps.getD i []).length t.2 ∧ (ps.getD i []).length ≤ t.2 ∧ B ≤ t.1 ∧ OwnG w t.1 43 (ps.getD i [])) (fun i hi => by
      obtain ⟨_, ⟨_, e⟩ | ⟨b, c, h1, h2, h3, h4⟩⟩ := hr i hi
      · exact absurd e (hne i hi)
      · exact ⟨(b, c), h1, h3, h2, h4⟩)
    refine .inr ⟨g, cap, cur.toList, fun i => (σ i).1, fun i => (σ i).2, rfl, hnc, hg, (Array.getElem?_eq_some_iff.1 hh).1, ⟨cur, hh, rfl⟩, fun i hi => ⟨?_, (hσ i hi).2.1, (hσ i hi).2.2.1, (hσ i hi).2.2.2.lt, (hσ i hi).2.2.2⟩⟩
    have h3 : cur.toList[i]? = ss[i]? := by rw [← ht, List.getElem?_take, if_pos (by omega)]
    have e := (hσ i hi).1
    rw [List.getD_eq_getElem?_getD, List.getElem?_eq_getElem (by omega)] at e
    simp only [Option.getD_some] at e
    rw [h3, List.getElem?_eq_getElem (by omega), e]
end Go.Proofs.YtfcglmkbfdfaeaaDoor

namespace Go.Proofs.YtfcglmkbfdfaeaaDoor
open Go.RowKit
set_option linter.unusedVariables false

/-- The call told the code and the lists of out. -/
def AnsS (w : World) (out : Int × List (List M.Cl)) (e : Ending) (w' : World) : Prop := ∃ s, e = .returned (.agg #[.int .i64 out.1, s]) ∧ PS w' w.heap.size w'.heap.size s out.2 ∧ Below w.heap.size w w'
theorem ansS_of {w w' : World} {out : Int × List (List M.Cl)} {c : Int} {s : Value} {l : List (List M.Cl)} (fin : out = (c, l)) (hr : PS w' w.heap.size w'.heap.size s l) (hb : Below w.heap.size w w') : AnsS w out (.returned (.agg #[.int .i64 c, s])) w' := by
  subst fin; exact ⟨s, rfl, hr, hb⟩
theorem size_setCell2 (w : World) (p q : Addr) (x y : Value) : ((w.setCell p x).setCell q y).heap.size = w.heap.size := by simp
theorem heap_setCell2 (w : World) (b : Nat) (x y : Value) (k : Nat) (hk : k ≠ b) : ((w.setCell ⟨b, 0, none⟩ x).setCell ⟨b, 1, none⟩ y).heap[k]? = w.heap[k]? := (heap_setCell_other _ ⟨b, 1, none⟩ k y hk).trans (heap_setCell_other _ ⟨b, 0, none⟩ k x hk)
theorem PR.mono {w : World} {lo hi lo' hi' : Nat} {v : Value} {ps : List (List M.Cl)} (h : PR w lo hi v ps) (h1 : lo' ≤ lo) (h2 : hi ≤ hi') : PR w lo' hi' v ps := by
  rcases h with h | ⟨g, cap, xs, β, γ, q1, q2, q3, q4, q5, q6, q7⟩
  · exact .inl h
  · exact .inr ⟨g, cap, xs, β, γ, q1, q2, by omega, by omega, q5, fun i hi => ⟨(q6 i hi).1, (q6 i hi).2.1, by have := (q6 i hi).2.2.1; omega, by have := (q6 i hi).2.2.2.1; omega, (q6 i hi).2.2.2.2⟩, q7⟩
end Go.Proofs.YtfcglmkbfdfaeaaDoor

namespace Go.Proofs.YtfcglmkbfdfaeaaDoor
open Go.RowKit
set_option linter.unusedVariables false

/-- What PartAt answers. -/
def partOut (v : List M.Cl) (at' : Int) : Int × List M.Cl := if asked v at' ≠ 0 then (asked v at', []) else (0, part v at'.toNat)
theorem part_bad {v : List M.Cl} {at' : Int} (h : asked v at' ≠ 0) : partOut v at' = (asked v at', []) := by unfold partOut; rw [if_pos h]
theorem part_ok {v : List M.Cl} {at' : Int} (h : asked v at' = 0) : partOut v at' = (0, part v at'.toNat) := by unfold partOut; rw [if_neg (by simp [h])]

set_option maxHeartbeats 1000000 in
theorem implPartAt_any (v : List M.Cl) (b off cap : Nat) (at' : Int) (w : World) (hrow : Row w b off v) (hb : b < w.heap.size) (hn : v.length ≤ 1048576) (hcap : v.length ≤ cap) (hok : ∀ c ∈ v, c.ok) :
    Calls Tryd.prog 11 #[.slice (some ⟨b, off, none⟩) v.length cap, .int .i64 at'] w fun e w' => ∃ s, e = .returned (.agg #[.int .i64 (partOut v at').1, s]) ∧ Res w' w.heap.size s (partOut v at').2 ∧ Below w.heap.size w w' := by
  have OK := hide hok
  clear hok
  have B0 : ∀ o, Below w.heap.size w (w.alloc o) := fun o => (Below.refl _ _).alloc (Nat.le_refl _) _
  have HB0 := hide B0
  clear B0
  go_enter Tryd.func11, Tryd.ntmps11
  go_wp2_with fail
  refine (placeFault_any v b off cap at' _ (hrow.below ((unhide HB0) _) hb) (by simp; omega) hn hcap (unhide OK)).mono ?_
  rintro e1 w1 ⟨rfl, hb1⟩
  have hR : Own w1 w.heap.size 31 [.int .i64 0, .slice none 0 0] := Own.below ⟨_, heap_alloc_new _ _, rfl⟩ hb1 (by simp)
  have B1 : Below w.heap.size w w1 := ((unhide HB0) _).trans (hb1.mono (by simp))
  generalize hq : asked v at' = q
  by_cases hz : q = 0
  · subst hz
    have fin := hide (part_ok hq)
    obtain ⟨hv, a0, a1⟩ := asked_zero hq
    have HV := hide hv
    clear hq
    obtain ⟨a, rfl⟩ := Int.eq_ofNat_of_zero_le a0
    rw [Int.toNat_natCast] at fin
    have hrow1 := hrow.below B1 hb
    have hb1' : b < w1.heap.size := Nat.lt_of_lt_of_le hb B1.size
    clear hv
    go_wp2_with fail
    refine (partOf_any v b off cap a _ (unhide HV) (by omega) hrow1 hb1' hcap).mono ?_
    rintro e3 w3 ⟨s, rfl, hr2, hb2⟩
    have hR2 := hR.below hb2 hR.lt
    have B2 : Below w.heap.size w w3 := B1.trans (hb2.mono B1.size)
    have r0 := hR2.cell 0
    have r1 := hR2.cell 1
    have z0 := hR2.frozen 0
    have z1 := hR2.frozen 1
    simp only [List.getElem?_cons_zero, List.getElem?_cons_succ] at r0 r1
    have hne : ∀ b, s.ownBlock = some b → b ≠ w.heap.size := fun b h => by have := hr2.base b h; have := hR.lt; omega
    have hr3 : ∀ x y, Res ((w3.setCell ⟨w.heap.size, 0, none⟩ x).setCell ⟨w.heap.size, 1, none⟩ y) w.heap.size s (part v a) := fun x y => ((hr2.mono B1.size).setOther _ _ hne).setOther _ _ hne
    have HR3 := hide hr3
    have hsh := hr2.shape
    obtain ⟨a1, m1, c1, rfl⟩ := hsh
    clear hr2 hr3 hb2 hne
    go_wp2_with fail
    refine bodyPost_ret (v := .agg #[.int .i64 0, .slice a1 m1 c1]) (by simp [results, Tryd.results11, go_sem, r0, r1]) rfl ⟨.slice a1 m1 c1, by rw [unhide fin], ?_, ?_⟩
    · rw [unhide fin]; exact (unhide HR3) _ _
    · exact (B2.setCell (Nat.le_refl _) _).setCell (Nat.le_refl _) _
  · have fin := hide ((part_bad (v := v) (at' := at') (by rw [hq]; exact hz)).trans (by rw [hq]))
    have hz' : (q == 0) = false := by simp [hz]
    have r0 := hR.cell 0
    have r1 := hR.cell 1
    have z0 := hR.frozen 0
    have z1 := hR.frozen 1
    simp only [List.getElem?_cons_zero, List.getElem?_cons_succ] at r0 r1
    clear hq
    go_wp2_with fail
    refine bodyPost_ret (v := .agg #[.int .i64 q, .slice none 0 0]) (by simp [results, Tryd.results11, go_sem, r0, r1]) rfl ⟨.slice none 0 0, by rw [unhide fin], ?_, ?_⟩
    · rw [unhide fin]; exact ⟨by simp, .inl ⟨rfl, rfl⟩⟩
    · exact (B1.setCell (Nat.le_refl _) _).setCell (Nat.le_refl _) _

end Go.Proofs.YtfcglmkbfdfaeaaDoor
