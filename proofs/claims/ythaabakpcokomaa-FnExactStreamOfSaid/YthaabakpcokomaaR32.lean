/-
  An answer that holds lists of cells: what the laws' helpers find, mark and find again in it.
  spec.EachOf and impl.EachOf.
-/
import Derived.Test.YthaabakpcokomaaR07
import Derived.Test.YthaabakpcokomaaR19
import Derived.Test.YthaabakpcokomaaR23
import Derived.Deep.RegionHeld
import Derived.Deep.Slices
namespace Go.Proofs.Ythaabakpcokomaa
open Go.RowKit
set_option linter.unusedVariables false

/-- All but what lies from block lo on and ahead of block hi is as it was. -/
structure Out (lo hi : Nat) (w w' : World) : Prop where
  os : w'.os = w.os
  tape : w'.tape = w.tape
  output : w'.output = w.output
  size : w.heap.size ≤ w'.heap.size
  block : ∀ k, k < w.heap.size → (k < lo ∨ hi ≤ k) → w'.heap[k]? = w.heap[k]?
theorem Out.refl (lo hi : Nat) (w : World) : Out lo hi w w := ⟨rfl, rfl, rfl, Nat.le_refl _, fun _ _ _ => rfl⟩
theorem Out.but {lo hi b : Nat} {u v w : World} (h : Out lo hi u v) (k : But v.heap.size b v w) (h1 : lo ≤ b) (h2 : b < hi) : Out lo hi u w :=
  ⟨k.os.trans h.os, k.tape.trans h.tape, k.output.trans h.output, Nat.le_trans h.size k.size, fun i h3 h4 => (k.block i (Nat.lt_of_lt_of_le h3 h.size) (by omega)).trans (h.block i h3 h4)⟩
theorem Out.below {lo hi B : Nat} {w w' : World} (h : Out lo hi w w') (h1 : B ≤ lo) (h2 : B ≤ w.heap.size) : Below B w w' :=
  ⟨h.os, h.tape, h.output, h.size, fun k hk => h.block k (by omega) (by omega)⟩
theorem Out.own {lo hi : Nat} {w w' : World} (h : Out lo hi w w') {c : Nat} {t : TypeId} {xs : List Value} (ho : Own w c t xs) (hc : c < lo ∨ hi ≤ c) : Own w' c t xs := by
  have hl := ho.lt
  obtain ⟨r, h1, h2⟩ := ho
  exact ⟨r, (h.block c hl hc).trans h1, h2⟩

/-- The slice v holds slices, each in a block of its own; all blocks lie from lo on and ahead of hi. -/
def PR (w : World) (lo hi : Nat) (v : Value) (ps : List (List M.Cl)) : Prop :=
  (v = .slice none 0 0 ∧ ps = []) ∨ ∃ (g cap : Nat) (xs : List Value) (β γ : Nat → Nat), v = .slice (some ⟨g, 0, none⟩) ps.length cap ∧ ps.length ≤ cap ∧ lo ≤ g ∧ g < hi ∧ Own w g 28 xs ∧
    (∀ i, i < ps.length → xs[i]? = some (.slice (some ⟨β i, 0, none⟩) (ps.getD i []).length (γ i)) ∧ (ps.getD i []).length ≤ γ i ∧ lo ≤ β i ∧ β i < hi ∧ β i ≠ g ∧ OwnG w (β i) 67 (ps.getD i [])) ∧
    ∀ i j, i < j → j < ps.length → β i ≠ β j
/-- The same, without a word of what is shared. -/
def PS (w : World) (lo hi : Nat) (v : Value) (ps : List (List M.Cl)) : Prop :=
  (v = .slice none 0 0 ∧ ps = []) ∨ ∃ (g cap : Nat) (xs : List Value) (β γ : Nat → Nat), v = .slice (some ⟨g, 0, none⟩) ps.length cap ∧ ps.length ≤ cap ∧ lo ≤ g ∧ g < hi ∧ Own w g 28 xs ∧
    (∀ i, i < ps.length → xs[i]? = some (.slice (some ⟨β i, 0, none⟩) (ps.getD i []).length (γ i)) ∧ (ps.getD i []).length ≤ γ i ∧ lo ≤ β i ∧ β i < hi ∧ OwnG w (β i) 67 (ps.getD i []))
theorem PR.ps {w : World} {lo hi : Nat} {v : Value} {ps : List (List M.Cl)} (h : PR w lo hi v ps) : PS w lo hi v ps := by
  rcases h with h | ⟨g, cap, xs, β, γ, h1, h2, h3, h4, h5, h6, _⟩
  · exact .inl h
  · exact .inr ⟨g, cap, xs, β, γ, h1, h2, h3, h4, h5, fun i hi => ⟨(h6 i hi).1, (h6 i hi).2.1, (h6 i hi).2.2.1, (h6 i hi).2.2.2.1, (h6 i hi).2.2.2.2.2⟩⟩
theorem OwnG.keep {w w' : World} {b : Nat} {t : TypeId} {l : List M.Cl} (h : OwnG w b t l) (hk : w'.heap[b]? = w.heap[b]?) : OwnG w' b t l := by
  obtain ⟨xs, ⟨c, h1, h2⟩, h3⟩ := h; exact ⟨xs, ⟨c, hk.trans h1, h2⟩, h3⟩
theorem Own.keep {w w' : World} {b : Nat} {t : TypeId} {xs : List Value} (h : Own w b t xs) (hk : w'.heap[b]? = w.heap[b]?) : Own w' b t xs := by
  obtain ⟨c, h1, h2⟩ := h; exact ⟨c, hk.trans h1, h2⟩
theorem PR.keep {w w' : World} {lo hi : Nat} {v : Value} {ps : List (List M.Cl)} (h : PR w lo hi v ps) (hk : ∀ k, lo ≤ k → k < hi → k < w.heap.size → w'.heap[k]? = w.heap[k]?) : PR w' lo hi v ps := by
  rcases h with h | ⟨g, cap, xs, β, γ, h1, h2, h3, h4, h5, h6, h7⟩
  · exact .inl h
  · exact .inr ⟨g, cap, xs, β, γ, h1, h2, h3, h4, h5.keep (hk g h3 h4 h5.lt), fun i hi => ⟨(h6 i hi).1, (h6 i hi).2.1, (h6 i hi).2.2.1, (h6 i hi).2.2.2.1, (h6 i hi).2.2.2.2.1, (h6 i hi).2.2.2.2.2.keep (hk _ (h6 i hi).2.2.1 (h6 i hi).2.2.2.1 (h6 i hi).2.2.2.2.2.lt)⟩, h7⟩
theorem PS.keep {w w' : World} {lo hi : Nat} {v : Value} {ps : List (List M.Cl)} (h : PS w lo hi v ps) (hk : ∀ k, lo ≤ k → k < hi → k < w.heap.size → w'.heap[k]? = w.heap[k]?) : PS w' lo hi v ps := by
  rcases h with h | ⟨g, cap, xs, β, γ, h1, h2, h3, h4, h5, h6⟩
  · exact .inl h
  · exact .inr ⟨g, cap, xs, β, γ, h1, h2, h3, h4, h5.keep (hk g h3 h4 h5.lt), fun i hi => ⟨(h6 i hi).1, (h6 i hi).2.1, (h6 i hi).2.2.1, (h6 i hi).2.2.2.1, (h6 i hi).2.2.2.2.keep (hk _ (h6 i hi).2.2.1 (h6 i hi).2.2.2.1 (h6 i hi).2.2.2.2.lt)⟩⟩
theorem PR.below {w w' : World} {lo hi : Nat} {v : Value} {ps : List (List M.Cl)} (h : PR w lo hi v ps) (hb : Below w.heap.size w w') : PR w' lo hi v ps := h.keep fun k _ _ hk => hb.block k hk
theorem PS.below {w w' : World} {lo hi : Nat} {v : Value} {ps : List (List M.Cl)} (h : PS w lo hi v ps) (hb : Below w.heap.size w w') : PS w' lo hi v ps := h.keep fun k _ _ hk => hb.block k hk
theorem PR.alloc {w : World} {lo hi : Nat} {v : Value} {ps : List (List M.Cl)} (h : PR w lo hi v ps) (o : Obj) : PR (w.alloc o) lo hi v ps := h.below ((Below.refl _ _).alloc (Nat.le_refl _) o)
theorem PS.alloc {w : World} {lo hi : Nat} {v : Value} {ps : List (List M.Cl)} (h : PS w lo hi v ps) (o : Obj) : PS (w.alloc o) lo hi v ps := h.below ((Below.refl _ _).alloc (Nat.le_refl _) o)
theorem PS.shape {w : World} {lo hi : Nat} {v : Value} {ps : List (List M.Cl)} (h : PS w lo hi v ps) : ∃ a n c, v = .slice a n c := by
  rcases h with ⟨rfl, _⟩ | ⟨g, cap, xs, β, γ, rfl, _⟩
  · exact ⟨_, _, _, rfl⟩
  · exact ⟨_, _, _, rfl⟩
theorem PS.mono {w : World} {lo hi lo' hi' : Nat} {v : Value} {ps : List (List M.Cl)} (h : PS w lo hi v ps) (h1 : lo' ≤ lo) (h2 : hi ≤ hi') : PS w lo' hi' v ps := by
  rcases h with h | ⟨g, cap, xs, β, γ, q1, q2, q3, q4, q5, q6⟩
  · exact .inl h
  · exact .inr ⟨g, cap, xs, β, γ, q1, q2, by omega, by omega, q5, fun i hi => ⟨(q6 i hi).1, (q6 i hi).2.1, by have := (q6 i hi).2.2.1; omega, by have := (q6 i hi).2.2.2.1; omega, (q6 i hi).2.2.2.2⟩⟩

theorem SS.ps {w : World} {B : Nat} {v : Value} {ps : List (List M.Cl)} (h : SS w B v ps) (hne : ∀ i, i < ps.length → ps.getD i [] ≠ []) : PS w B w.heap.size v ps := by
  obtain ⟨ss, hl, ho, hr⟩ := h
  obtain ⟨_, ⟨rfl, h0⟩ | ⟨g, cap, cur, rfl, hg, hh, hnc, hcm, hcs, ht⟩⟩ := ho
  · exact .inl ⟨rfl, List.length_eq_zero_iff.1 h0⟩
  · haveI : Inhabited (Nat × Nat) := ⟨(0, 0)⟩
    obtain ⟨σ, hσ⟩ := Go.Deep.choose_lt (n := ps.length) (p := fun i (t : Nat × Nat) => ss.getD i (.slice none 0 0) = .slice (some ⟨t.1, 0, none⟩) (ps.getD i []).length t.2 ∧ (ps.getD i []).length ≤ t.2 ∧ B ≤ t.1 ∧ OwnG w t.1 67 (ps.getD i [])) (fun i hi => by
      obtain ⟨_, ⟨_, e⟩ | ⟨b, c, h1, h2, h3, h4⟩⟩ := hr i hi
      · exact absurd e (hne i hi)
      · exact ⟨(b, c), h1, h3, h2, h4⟩)
    refine .inr ⟨g, cap, cur.toList, fun i => (σ i).1, fun i => (σ i).2, rfl, hnc, hg, (Array.getElem?_eq_some_iff.1 hh).1, ⟨cur, hh, rfl⟩, fun i hi => ⟨?_, (hσ i hi).2.1, (hσ i hi).2.2.1, (hσ i hi).2.2.2.lt, (hσ i hi).2.2.2⟩⟩
    have h3 : cur.toList[i]? = ss[i]? := by rw [← ht, List.getElem?_take, if_pos (by omega)]
    have e := (hσ i hi).1
    rw [List.getD_eq_getElem?_getD, List.getElem?_eq_getElem (by omega)] at e
    simp only [Option.getD_some] at e
    rw [h3, List.getElem?_eq_getElem (by omega), e]
theorem SD.pr {w : World} {B : Nat} {v : Value} {ps : List (List M.Cl)} (h : SD w B v ps) (hne : ∀ i, i < ps.length → ps.getD i [] ≠ []) : PR w B w.heap.size v ps := by
  obtain ⟨ss, hl, ho, hr, hd⟩ := h
  obtain ⟨_, ⟨rfl, h0⟩ | ⟨g, cap, cur, rfl, hg, hh, hnc, hcm, hcs, ht⟩⟩ := ho
  · exact .inl ⟨rfl, List.length_eq_zero_iff.1 h0⟩
  · haveI : Inhabited (Nat × Nat) := ⟨(0, 0)⟩
    obtain ⟨σ, hσ⟩ := Go.Deep.choose_lt (n := ps.length) (p := fun i (t : Nat × Nat) => ss.getD i (.slice none 0 0) = .slice (some ⟨t.1, 0, none⟩) (ps.getD i []).length t.2 ∧ (ps.getD i []).length ≤ t.2 ∧ B ≤ t.1 ∧ OwnG w t.1 67 (ps.getD i [])) (fun i hi => by
      obtain ⟨_, ⟨_, e⟩ | ⟨b, c, h1, h2, h3, h4⟩⟩ := hr i hi
      · exact absurd e (hne i hi)
      · exact ⟨(b, c), h1, h3, h2, h4⟩)
    refine .inr ⟨g, cap, cur.toList, fun i => (σ i).1, fun i => (σ i).2, rfl, hnc, hg, (Array.getElem?_eq_some_iff.1 hh).1, ⟨cur, hh, rfl⟩, fun i hi => ⟨?_, (hσ i hi).2.1, (hσ i hi).2.2.1, (hσ i hi).2.2.2.lt, ?_, (hσ i hi).2.2.2⟩, fun i j h1 h2 => ?_⟩
    · have h3 : cur.toList[i]? = ss[i]? := by rw [← ht, List.getElem?_take, if_pos (by omega)]
      have e := (hσ i hi).1
      rw [List.getD_eq_getElem?_getD, List.getElem?_eq_getElem (by omega)] at e
      simp only [Option.getD_some] at e
      rw [h3, List.getElem?_eq_getElem (by omega), e]
    · obtain ⟨ys, ⟨c, hc, _⟩, _⟩ := (hσ i hi).2.2.2
      intro e
      simp only at e
      rw [e, hh] at hc
      simp only [Option.some.injEq, Obj.cells.injEq] at hc
      exact absurd hc.2.1 (by decide)
    · have e1 := (hσ i (by omega)).1
      have e2 := (hσ j h2).1
      have := hd i j h1 h2 (σ i).1 (by rw [e1]; rfl)
      rw [e2] at this
      intro e
      simp only at e
      exact this (by rw [e]; rfl)

/-- The told numbers, list by list. -/
def mkAll (ps : List (List M.Cl)) (k : Int) : List (List M.Cl) := (List.range ps.length).map fun (i : Nat) => marked (ps.getD i []).length (k + 5 * (tot ps i : Int))
theorem mkAll_length (ps : List (List M.Cl)) (k : Int) : (mkAll ps k).length = ps.length := by simp [mkAll]
theorem mkAll_getD (ps : List (List M.Cl)) (k : Int) (i : Nat) (hi : i < ps.length) : (mkAll ps k).getD i [] = marked (ps.getD i []).length (k + 5 * (tot ps i : Int)) := by simp [mkAll, List.getD_eq_getElem?_getD, hi]

set_option maxHeartbeats 1000000 in
theorem eqCellSS_none (a a' : Option Addr) (cap cap' : Nat) (w : World) :
    Calls Try.prog 39 #[.slice a 0 cap, .slice a' 0 cap'] w fun e w' => e = .returned (.bool true) ∧ Below w.heap.size w w' := by
  go_enter Try.func39, Try.ntmps39
  go_wp2_with fail
  refine wp_loop_rounds 1 ?_
  rw [rounds_succ]
  go_wp2_with fail
  go_ret
  exact ⟨rfl, Below.refl _ _⟩

set_option maxHeartbeats 2000000 in
theorem eqCellSS_ps (v v' : Value) (lo hi lo' hi' : Nat) (ps : List (List M.Cl)) (w : World) (h : PS w lo hi v ps) (h' : PS w lo' hi' v' ps) (hn : ps.length ≤ 4096) (hln : ∀ i, i < ps.length → (ps.getD i []).length ≤ 1048576) :
    Calls Try.prog 39 #[v, v'] w fun e w' => e = .returned (.bool true) ∧ Below w.heap.size w w' := by
  rcases h with ⟨rfl, rfl⟩ | ⟨g, cap, xs, β, γ, rfl, hcap, _, _, ho, hp⟩
  · rcases h' with ⟨rfl, _⟩ | ⟨g', cap', xs', β', γ', rfl, _⟩
    · exact eqCellSS_none _ _ _ _ _
    · exact eqCellSS_none _ _ _ _ _
  rcases h' with ⟨rfl, rfl⟩ | ⟨g', cap', xs', β', γ', rfl, hcap', _, _, ho', hp'⟩
  · exact eqCellSS_none _ _ _ _ _
  have HP := hide hp
  have HP' := hide hp'
  have HO := hide ho
  have HO' := hide ho'
  have HN := hide hln
  clear hp hp' ho ho' hln
  go_enter Try.func39, Try.ntmps39
  go_wp2_with fail
  go_loopg [5] ps.length (fun gh i wr => ∃ k : Nat, Hid (gh = ps.length - k) ∧ k ≤ ps.length ∧ i = .int .i64 k ∧ Below w.heap.size w wr)
  case atStart => exact ⟨0, rfl, by omega, rfl, Below.refl _ _⟩
  case round =>
    obtain ⟨k, hg, hk, rfl, hbel⟩ := hrel
    by_cases hlt : k < ps.length
    · obtain ⟨q1, q2, _, _, q3⟩ := (unhide HP) k hlt
      obtain ⟨q1', q2', _, _, q3'⟩ := (unhide HP') k hlt
      have f0 := (((unhide HO).below hbel (unhide HO).lt).cell k).trans q1
      have f0' := (((unhide HO').below hbel (unhide HO').lt).cell k).trans q1'
      have q4 := q3.below hbel q3.lt
      have q4' := q3'.below hbel q3'.lt
      have hb := q4.lt
      have hb' := q4'.lt
      have HR := hide q4.row
      have HR' := hide q4'.row
      have hq := (unhide HN) k hlt
      clear q1 q1' q3 q3' q4 q4'
      generalize ps.getD k [] = p at *
      go_wp2_with fail
      go_region_with (go_at_call 15; refine (eqCellS_same (β k) 0 (γ k) (β' k) 0 (γ' k) p wr.drew (by exact unhide HR) (by exact hb) (by exact unhide HR') (by exact hb') hq q2 q2').mono ?_; rintro e w1 ⟨rfl, hb1⟩)
      all_goals
        go_wp2_with fail
        go_roundg (ps.length - (k + 1))
        case rel => exact ⟨k + 1, rfl, by omega, by go_num, hbel.drew.trans (hb1.mono (by exact hbel.size))⟩
        case measure => have := hg.out; omega
    · go_wp2_with fail
      go_ret
      exact ⟨rfl, hbel⟩

set_option maxHeartbeats 1000000 in
theorem markCellSS_none (q : Int) (w : World) :
    Calls Try.prog 40 #[.slice none 0 0, .int .i64 q] w fun e w' => e = .returned (.int .i64 q) ∧ w' = w := by
  go_enter Try.func40, Try.ntmps40
  go_wp2_with fail
  refine wp_loop_rounds 1 ?_
  rw [rounds_succ]
  go_wp2_with fail
  go_ret
  exact ⟨rfl, rfl⟩
set_option maxHeartbeats 1000000 in
theorem heldCellSS_none (q : Int) (w : World) :
    Calls Try.prog 52 #[.slice none 0 0, .int .i64 q] w fun e w' => e = .returned (.int .i64 q) ∧ w' = w := by
  go_enter Try.func52, Try.ntmps52
  go_wp2_with fail
  refine wp_loop_rounds 1 ?_
  rw [rounds_succ]
  go_wp2_with fail
  go_ret
  exact ⟨rfl, rfl⟩

set_option maxHeartbeats 2000000 in
theorem markCellSS_pr (v : Value) (lo hi : Nat) (ps : List (List M.Cl)) (q : Int) (w : World) (h : PR w lo hi v ps) (hn : ps.length ≤ 4096) (hln : tot ps ps.length ≤ 1048576) (q0 : 0 ≤ q) (q1 : q ≤ 10000000000) :
    Calls Try.prog 40 #[v, .int .i64 q] w fun e w' => e = .returned (.int .i64 (q + 5 * (tot ps ps.length : Int))) ∧ PR w' lo hi v (mkAll ps q) ∧ Out lo hi w w' := by
  rcases h with ⟨rfl, rfl⟩ | ⟨g, cap, xs, β, γ, rfl, hcap, hlo, hhi, ho, hp, hd⟩
  · refine (markCellSS_none q w).mono ?_
    rintro e w' ⟨rfl, rfl⟩
    exact ⟨by rw [List.length_nil, tot_zero]; simp, .inl ⟨rfl, rfl⟩, Out.refl _ _ _⟩
  have HP := hide hp
  have HD := hide hd
  have HO := hide ho
  have HN := hide hln
  clear hp hd ho hln
  go_enter Try.func40, Try.ntmps40
  go_wp2_with fail
  go_loopg [1, 5] ps.length (fun gh s1 s5 wr => ∃ (k : Nat) (r : Int), Hid (gh = ps.length - k) ∧ s5 = .int .i64 k ∧ s1 = .int .i64 r ∧ k ≤ ps.length ∧ 0 ≤ r ∧ Hid (r = q + 5 * (tot ps k : Int)) ∧ Own wr g 28 xs ∧ Hid (∀ i, k ≤ i → i < ps.length → OwnG wr (β i) 67 (ps.getD i [])) ∧ Hid (∀ i, i < k → OwnG wr (β i) 67 (marked (ps.getD i []).length (q + 5 * (tot ps i : Int)))) ∧ Out lo hi w wr)
  case atStart => exact ⟨0, q, rfl, rfl, rfl, by omega, q0, by rw [tot_zero]; show _ = _; omega, unhide HO, fun i _ hi => ((unhide HP) i hi).2.2.2.2.2, fun i hi => absurd hi (by omega), Out.refl _ _ _⟩
  case round =>
    obtain ⟨k, r, hg, rfl, rfl, hk, r0, hr, hog, hrows, hdone, hout⟩ := hrel
    by_cases hlt : k < ps.length
    · obtain ⟨p1, p2, p3, p4, p5, _⟩ := (unhide HP) k hlt
      have f0 := (hog.cell k).trans p1
      have ho := hide (hrows.out k (Nat.le_refl _) hlt)
      have hln := Nat.le_trans (len_le ps k hlt) (unhide HN)
      have hts := tot_succ ps k hlt
      have htl := tot_le ps ps.length (k + 1) (by omega) (Nat.le_refl _)
      have hbig : r + 5 * ((ps.getD k []).length : Int) = q + 5 * (tot ps (k + 1) : Int) := by have := hr.out; omega
      have hr1 : r ≤ 100000000000 := by have h1 := hr.out; have h2 := unhide HN; omega
      have HBIG := hide hbig
      have hrest := hide (fun w1 (hbt : But wr.heap.size (β k) wr w1) i (h5 : k + 1 ≤ i) (h6 : i < ps.length) => hbt.ownG (hrows.out i (by omega) h6) (hrows.out i (by omega) h6).lt (Ne.symm ((unhide HD) k i (by omega) h6)))
      have hdn := hide (fun w1 (hbt : But wr.heap.size (β k) wr w1) (hnew : OwnG w1 (β k) 67 (marked (ps.getD k []).length r)) i (h5 : i < k + 1) => show OwnG w1 (β i) 67 (marked (ps.getD i []).length (q + 5 * (tot ps i : Int))) by
        by_cases e : i = k
        · subst e; rw [← hr.out]; exact hnew
        · exact hbt.ownG (hdone.out i (by omega)) (hdone.out i (by omega)).lt ((unhide HD) i k (by omega) hlt))
      have hogb := hide (fun w1 (hbt : But wr.heap.size (β k) wr w1) => hbt.own hog hog.lt (Ne.symm p5))
      clear hts htl hbig p1
      generalize ps.getD k [] = p at *
      go_wp2_with fail
      refine (markCellS_any (β k) (γ k) p r _ (unhide ho) hln p2 r0 hr1).mono ?_
      rintro e w1 ⟨rfl, hnew, hbt⟩
      have HR := hide ((unhide hrest) w1 hbt)
      have HDN := hide ((unhide hdn) w1 hbt hnew)
      have HOG := hide ((unhide hogb) w1 hbt)
      have HOU := hide (hout.but hbt p3 p4)
      clear f0 ho hrest hdn hogb hbt hout hnew hog
      go_wp2_with fail
      go_roundg (ps.length - (k + 1))
      case rel => exact ⟨k + 1, _, rfl, by go_num, rfl, by omega, by omega, unhide HBIG, unhide HOG, unhide HR, unhide HDN, unhide HOU⟩
      case measure => have := hg.out; omega
    · have hke : k = ps.length := by omega
      have fin := hide (show r = q + 5 * (tot ps ps.length : Int) by rw [← hke]; exact hr.out)
      have fin2 := hide (show PR wr lo hi (.slice (some ⟨g, 0, none⟩) ps.length cap) (mkAll ps q) by
        refine .inr ⟨g, cap, xs, β, γ, by rw [mkAll_length], by rw [mkAll_length]; exact hcap, hlo, hhi, hog, fun i hi' => ?_, fun i j h1 h2 => (unhide HD) i j h1 (by rwa [mkAll_length] at h2)⟩
        rw [mkAll_length] at hi'
        obtain ⟨p1, p2, p3, p4, p5, _⟩ := (unhide HP) i hi'
        rw [mkAll_getD ps q i hi', marked_length]
        exact ⟨p1, p2, p3, p4, p5, hdone.out i (by omega)⟩)
      clear hke
      go_wp2_with fail
      go_ret
      exact ⟨ret_int (unhide fin), unhide fin2, hout⟩

set_option maxHeartbeats 2000000 in
theorem heldCellSS_pr (v : Value) (lo hi : Nat) (ps : List (List M.Cl)) (q : Int) (w : World) (h : PR w lo hi v (mkAll ps q)) (hn : ps.length ≤ 4096) (hln : tot ps ps.length ≤ 1048576) (q0 : 0 ≤ q) (q1 : q ≤ 10000000000) :
    Calls Try.prog 52 #[v, .int .i64 q] w fun e w' => e = .returned (.int .i64 (q + 5 * (tot ps ps.length : Int))) ∧ Below w.heap.size w w' := by
  rcases h with ⟨rfl, h0⟩ | ⟨g, cap, xs, β, γ, rfl, hcap, hlo, hhi, ho, hp, hd⟩
  · have : ps = [] := List.length_eq_zero_iff.1 (by rw [← mkAll_length ps q, h0]; rfl)
    subst this
    refine (heldCellSS_none q w).mono ?_
    rintro e w' ⟨rfl, rfl⟩
    exact ⟨by rw [List.length_nil, tot_zero]; simp, Below.refl _ _⟩
  rw [mkAll_length] at hcap hp ⊢
  have HP := hide hp
  have HO := hide ho
  have HN := hide hln
  clear hp hd ho hln
  go_enter Try.func52, Try.ntmps52
  go_wp2_with fail
  go_loopg [1, 5] ps.length (fun gh s1 s5 wr => ∃ (k : Nat) (r : Int), Hid (gh = ps.length - k) ∧ s5 = .int .i64 k ∧ s1 = .int .i64 r ∧ k ≤ ps.length ∧ 0 ≤ r ∧ Hid (r = q + 5 * (tot ps k : Int)) ∧ Below w.heap.size w wr)
  case atStart => exact ⟨0, q, rfl, rfl, rfl, by omega, q0, by rw [tot_zero]; show _ = _; omega, Below.refl _ _⟩
  case round =>
    obtain ⟨k, r, hg, rfl, rfl, hk, r0, hr, hbel⟩ := hrel
    by_cases hlt : k < ps.length
    · obtain ⟨p1, p2, p3, p4, p5, p6⟩ := (unhide HP) k hlt
      rw [mkAll_getD ps q k hlt] at p1 p2 p6
      rw [marked_length] at p1 p2
      have f0 := (((unhide HO).below hbel (unhide HO).lt).cell k).trans p1
      have p7 := p6.below hbel p6.lt
      have hln := Nat.le_trans (len_le ps k hlt) (unhide HN)
      have hts := tot_succ ps k hlt
      have htl := tot_le ps ps.length (k + 1) (by omega) (Nat.le_refl _)
      have hbig : r + 5 * ((ps.getD k []).length : Int) = q + 5 * (tot ps (k + 1) : Int) := by have := hr.out; omega
      have hr1 : r ≤ 100000000000 := by have h1 := hr.out; have h2 := unhide HN; omega
      rw [← hr.out] at p7
      have hblt := p7.lt
      have HROW := hide p7.row
      have HBIG := hide hbig
      clear hts htl hbig p1 p6 p7
      generalize (ps.getD k []).length = pn at *
      have d1 : decide (r + 5 * (pn : Int) < 0) = false := decide_eq_false (by omega)
      go_wp2_with fail
      refine (heldCellS_any (β k) (γ k) pn r _ (unhide HROW) hblt hln p2 r0 hr1).mono ?_
      rintro e w1 ⟨rfl, hb1⟩
      have B1 : Below w.heap.size w w1 := hbel.trans (hb1.mono hbel.size)
      clear f0 hb1 hbel HROW
      go_wp2_with fail
      go_roundg (ps.length - (k + 1))
      case rel => exact ⟨k + 1, _, rfl, by go_num, rfl, by omega, by omega, unhide HBIG, B1⟩
      case measure => have := hg.out; omega
    · have hke : k = ps.length := by omega
      have fin := hide (show r = q + 5 * (tot ps ps.length : Int) by rw [← hke]; exact hr.out)
      clear hke
      go_wp2_with fail
      go_ret
      exact ⟨ret_int (unhide fin), hbel⟩

set_option maxHeartbeats 1000000 in
theorem eqPartsResult_any (code : Int) (s s' : Value) (lo hi lo' hi' : Nat) (l : List (List M.Cl)) (w : World) (h : PS w lo hi s l) (h' : PS w lo' hi' s' l) (hn : l.length ≤ 4096) (hln : ∀ i, i < l.length → (l.getD i []).length ≤ 1048576) :
    Calls Try.prog 31 #[.agg #[.int .i64 code, s], .agg #[.int .i64 code, s']] w fun e w' => e = .returned (.bool true) ∧ Below w.heap.size w w' := by
  have HB : ∀ o o', Below w.heap.size w ((w.alloc o).alloc o') := fun o o' => ((Below.refl _ _).alloc (Nat.le_refl _) _).alloc (by simp) _
  have H := hide (fun o o' => eqCellSS_ps s s' lo hi lo' hi' l ((w.alloc o).alloc o') ((h.alloc o).alloc o') ((h'.alloc o).alloc o') hn hln)
  obtain ⟨a, n, cap, rfl⟩ := h.shape
  obtain ⟨a', n', cap', rfl⟩ := h'.shape
  clear h h'
  have HB' := hide HB
  clear HB hln
  go_enter Try.func31, Try.ntmps31
  go_wp2_with fail
  refine ((unhide H) _ _).mono ?_
  rintro e w1 ⟨rfl, hb1⟩
  go_wp2_with fail
  go_ret
  exact ⟨rfl, ((unhide HB') _ _).trans (hb1.mono (by simp <;> omega))⟩

theorem Out.alloc {lo hi : Nat} {w w' : World} {o : Obj} (h : Out lo hi (w.alloc o) w') : Out lo hi w w' :=
  ⟨h.os, h.tape, h.output, by have := h.size; simp at this; omega, fun k hk hh => (h.block k (by simp; omega) hh).trans (Below.heap_alloc _ _ _ hk)⟩

set_option maxHeartbeats 1000000 in
theorem markPartsResult_any (code : Int) (s : Value) (lo hi : Nat) (l : List (List M.Cl)) (k : Int) (w : World) (h : PR w lo hi s l) (hn : l.length ≤ 4096) (hln : tot l l.length ≤ 1048576) (k0 : 0 ≤ k) (k1 : k ≤ 10000000000) :
    Calls Try.prog 32 #[.agg #[.int .i64 code, s], .int .i64 k] w fun e w' => e = .returned (.int .i64 (k + 5 * (tot l l.length : Int))) ∧ PR w' lo hi s (mkAll l k) ∧ Out lo hi w w' := by
  have H := hide (fun o => markCellSS_pr s lo hi l k (w.alloc o) (h.alloc o) hn hln k0 k1)
  obtain ⟨a, n, cap, rfl⟩ := h.ps.shape
  clear h
  go_enter Try.func32, Try.ntmps32
  go_wp2_with fail
  refine ((unhide H) _).mono ?_
  rintro e w1 ⟨rfl, hr, hb⟩
  go_wp2_with fail
  go_ret
  exact ⟨rfl, hr, hb.alloc⟩

set_option maxHeartbeats 1000000 in
theorem heldPartsResult_any (code : Int) (s : Value) (lo hi : Nat) (l : List (List M.Cl)) (k : Int) (w : World) (h : PR w lo hi s (mkAll l k)) (hn : l.length ≤ 4096) (hln : tot l l.length ≤ 1048576) (k0 : 0 ≤ k) (k1 : k ≤ 10000000000) :
    Calls Try.prog 33 #[.agg #[.int .i64 code, s], .int .i64 k] w fun e w' => e = .returned (.int .i64 (k + 5 * (tot l l.length : Int))) ∧ Below w.heap.size w w' := by
  have H := hide (fun o => heldCellSS_pr s lo hi l k (w.alloc o) (h.alloc o) hn hln k0 k1)
  have d1 : decide (k + 5 * (tot l l.length : Int) < 0) = false := decide_eq_false (by omega)
  obtain ⟨a, n, cap, rfl⟩ := h.ps.shape
  clear h
  go_enter Try.func33, Try.ntmps33
  go_wp2_with fail
  refine ((unhide H) _).mono ?_
  rintro e w1 ⟨rfl, hb⟩
  go_wp2_with fail
  go_ret
  exact ⟨rfl, ((Below.refl _ _).alloc (Nat.le_refl _) _).trans (hb.mono (by simp))⟩

end Go.Proofs.Ythaabakpcokomaa

namespace Go.Proofs.Ythaabakpcokomaa
open Go.RowKit
set_option linter.unusedVariables false

/-- The call told the code and the lists of out. -/
def AnsS (w : World) (out : Int × List (List M.Cl)) (e : Ending) (w' : World) : Prop := ∃ s, e = .returned (.agg #[.int .i64 out.1, s]) ∧ PS w' w.heap.size w'.heap.size s out.2 ∧ Below w.heap.size w w'
def AnsR (w : World) (out : Int × List (List M.Cl)) (e : Ending) (w' : World) : Prop := ∃ s, e = .returned (.agg #[.int .i64 out.1, s]) ∧ PR w' w.heap.size w'.heap.size s out.2 ∧ Below w.heap.size w w'
theorem ansS_of {w w' : World} {out : Int × List (List M.Cl)} {c : Int} {s : Value} {l : List (List M.Cl)} (fin : out = (c, l)) (hr : PS w' w.heap.size w'.heap.size s l) (hb : Below w.heap.size w w') : AnsS w out (.returned (.agg #[.int .i64 c, s])) w' := by
  subst fin; exact ⟨s, rfl, hr, hb⟩
theorem ansR_of {w w' : World} {out : Int × List (List M.Cl)} {c : Int} {s : Value} {l : List (List M.Cl)} (fin : out = (c, l)) (hr : PR w' w.heap.size w'.heap.size s l) (hb : Below w.heap.size w w') : AnsR w out (.returned (.agg #[.int .i64 c, s])) w' := by
  subst fin; exact ⟨s, rfl, hr, hb⟩
theorem size_setCell2 (w : World) (p q : Addr) (x y : Value) : ((w.setCell p x).setCell q y).heap.size = w.heap.size := by simp
theorem heap_setCell2 (w : World) (b : Nat) (x y : Value) (k : Nat) (hk : k ≠ b) : ((w.setCell ⟨b, 0, none⟩ x).setCell ⟨b, 1, none⟩ y).heap[k]? = w.heap[k]? := (heap_setCell_other _ ⟨b, 1, none⟩ k y hk).trans (heap_setCell_other _ ⟨b, 0, none⟩ k x hk)
theorem PS.stored {w w1 w2 : World} {s : Value} {l : List (List M.Cl)} (hr : PS w2 w1.heap.size w2.heap.size s l) (B1 : Below w.heap.size w w1) (hsz : w.heap.size < w1.heap.size) (hb : Below w1.heap.size w1 w2) (x y : Value) :
    PS ((w2.setCell ⟨w.heap.size, 0, none⟩ x).setCell ⟨w.heap.size, 1, none⟩ y) w.heap.size ((w2.setCell ⟨w.heap.size, 0, none⟩ x).setCell ⟨w.heap.size, 1, none⟩ y).heap.size s l ∧ Below w.heap.size w ((w2.setCell ⟨w.heap.size, 0, none⟩ x).setCell ⟨w.heap.size, 1, none⟩ y) := by
  refine ⟨?_, ((B1.trans (hb.mono B1.size)).setCell (Nat.le_refl _) _).setCell (Nat.le_refl _) _⟩
  rw [size_setCell2]
  exact (hr.keep fun k h1 _ _ => heap_setCell2 w2 _ x y k (by omega)).mono (by omega) (Nat.le_refl _)
theorem PR.mono {w : World} {lo hi lo' hi' : Nat} {v : Value} {ps : List (List M.Cl)} (h : PR w lo hi v ps) (h1 : lo' ≤ lo) (h2 : hi ≤ hi') : PR w lo' hi' v ps := by
  rcases h with h | ⟨g, cap, xs, β, γ, q1, q2, q3, q4, q5, q6, q7⟩
  · exact .inl h
  · exact .inr ⟨g, cap, xs, β, γ, q1, q2, by omega, by omega, q5, fun i hi => ⟨(q6 i hi).1, (q6 i hi).2.1, by have := (q6 i hi).2.2.1; omega, by have := (q6 i hi).2.2.2.1; omega, (q6 i hi).2.2.2.2⟩, q7⟩
theorem PR.stored {w w1 w2 : World} {s : Value} {l : List (List M.Cl)} (hr : PR w2 w1.heap.size w2.heap.size s l) (B1 : Below w.heap.size w w1) (hsz : w.heap.size < w1.heap.size) (hb : Below w1.heap.size w1 w2) (x y : Value) :
    PR ((w2.setCell ⟨w.heap.size, 0, none⟩ x).setCell ⟨w.heap.size, 1, none⟩ y) w.heap.size ((w2.setCell ⟨w.heap.size, 0, none⟩ x).setCell ⟨w.heap.size, 1, none⟩ y).heap.size s l ∧ Below w.heap.size w ((w2.setCell ⟨w.heap.size, 0, none⟩ x).setCell ⟨w.heap.size, 1, none⟩ y) := by
  refine ⟨?_, ((B1.trans (hb.mono B1.size)).setCell (Nat.le_refl _) _).setCell (Nat.le_refl _) _⟩
  rw [size_setCell2]
  exact (hr.keep fun k h1 _ _ => heap_setCell2 w2 _ x y k (by omega)).mono (by omega) (Nat.le_refl _)

end Go.Proofs.Ythaabakpcokomaa
