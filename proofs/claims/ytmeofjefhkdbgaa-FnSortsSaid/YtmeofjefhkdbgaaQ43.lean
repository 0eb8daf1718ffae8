/-
  spec.EachOf and impl.EachOf.
  Words for spec.l3Sort and impl.SortOf: lists in a row, each in a block of its own.
-/
import Derived.Test.YtmeofjefhkdbgaaQ06
import Derived.Test.YtmeofjefhkdbgaaQ23
import Derived.Test.YtmeofjefhkdbgaaQ25
import Derived.Test.YtmeofjefhkdbgaaQ27
import Derived.Test.YtmeofjefhkdbgaaQ41
import Derived.Test.YtmeofjefhkdbgaaQ42
import Derived.BigRegion
import Derived.Deep.DeepCutAuto
import Derived.Deep.LoopGhost
import Derived.Deep.RegionHeld3
import Derived.Deep.Slices
import Derived.RegionTactic
namespace Go.Proofs.Ytmeofjefhkdbgaa
open Go.RowKit
set_option linter.unusedVariables false

def eachOut (v : List M.Cl) : Int × List (List M.Cl) := if M.valueFault v ≠ 0 then (M.valueFault v, []) else if (v.getD 0 M.zero).kind = 5 ∨ (v.getD 0 M.zero).kind = 6 then (0, subs v 0) else (6, [])
theorem each_bad {v : List M.Cl} (h : M.valueFault v ≠ 0) : eachOut v = (M.valueFault v, []) := if_pos h
theorem each_ok {v : List M.Cl} (h : M.valueFault v = 0) (hk : (v.getD 0 M.zero).kind = 5 ∨ (v.getD 0 M.zero).kind = 6) : eachOut v = (0, subs v 0) := by unfold eachOut; rw [if_neg (by simp [h]), if_pos hk]
theorem each_no {v : List M.Cl} (h : M.valueFault v = 0) (hk : ¬ ((v.getD 0 M.zero).kind = 5 ∨ (v.getD 0 M.zero).kind = 6)) : eachOut v = (6, []) := by unfold eachOut; rw [if_neg (by simp [h]), if_neg hk]
def AnsR (w : World) (out : Int × List (List M.Cl)) (e : Ending) (w' : World) : Prop := ∃ s, e = .returned (.agg #[.int .i64 out.1, s]) ∧ PR w' w.heap.size w'.heap.size s out.2 ∧ Below w.heap.size w w'
theorem ansR_of {w w' : World} {out : Int × List (List M.Cl)} {c : Int} {s : Value} {l : List (List M.Cl)} (fin : out = (c, l)) (hr : PR w' w.heap.size w'.heap.size s l) (hb : Below w.heap.size w w') : AnsR w out (.returned (.agg #[.int .i64 c, s])) w' := by
  subst fin; exact ⟨s, rfl, hr, hb⟩
theorem size_setCell2 (w : World) (p q : Addr) (x y : Value) : ((w.setCell p x).setCell q y).heap.size = w.heap.size := by simp
theorem heap_setCell2 (w : World) (b : Nat) (x y : Value) (k : Nat) (hk : k ≠ b) : ((w.setCell ⟨b, 0, none⟩ x).setCell ⟨b, 1, none⟩ y).heap[k]? = w.heap[k]? := (heap_setCell_other _ ⟨b, 1, none⟩ k y hk).trans (heap_setCell_other _ ⟨b, 0, none⟩ k x hk)
theorem PS.stored {w w1 w2 : World} {s : Value} {l : List (List M.Cl)} (hr : PS w2 w1.heap.size w2.heap.size s l) (B1 : Below w.heap.size w w1) (hsz : w.heap.size < w1.heap.size) (hb : Below w1.heap.size w1 w2) (x y : Value) :
    PS ((w2.setCell ⟨w.heap.size, 0, none⟩ x).setCell ⟨w.heap.size, 1, none⟩ y) w.heap.size ((w2.setCell ⟨w.heap.size, 0, none⟩ x).setCell ⟨w.heap.size, 1, none⟩ y).heap.size s l ∧ Below w.heap.size w ((w2.setCell ⟨w.heap.size, 0, none⟩ x).setCell ⟨w.heap.size, 1, none⟩ y) := by
  refine ⟨?_, ((B1.trans (hb.mono B1.size)).setCell (Nat.le_refl _) _).setCell (Nat.le_refl _) _⟩
  rw [size_setCell2]
  exact (hr.keep fun k h1 _ _ => heap_setCell2 w2 _ x y k (by omega)).mono (by omega) (Nat.le_refl _)
theorem PR.mono {w : World} {lo hi lo' hi' : Nat} {v : Value} {ps : List (List M.Cl)} (h : PR w lo hi v ps) (h1 : lo' ≤ lo) (h2 : hi ≤ hi') : PR w lo' hi' v ps := by
  rcases h with h | ⟨g, cap, xs, β, γ, q1, q2, q3, q4, q5, q6, q7⟩
  · exact .inl h
  · exact .inr ⟨g, cap, xs, β, γ, q1, q2, by omega, by omega, q5, fun i hi => ⟨(q6 i hi).1, (q6 i hi).2.1, by have := (q6 i hi).2.2.1; omega, by have := (q6 i hi).2.2.2.1; omega, (q6 i hi).2.2.2.2⟩, q7⟩
theorem PR.stored {w w1 w2 : World} {s : Value} {l : List (List M.Cl)} (hr : PR w2 w1.heap.size w2.heap.size s l) (B1 : Below w.heap.size w w1) (hsz : w.heap.size < w1.heap.size) (hb : Below w1.heap.size w1 w2) (x y : Value) :
    PR ((w2.setCell ⟨w.heap.size, 0, none⟩ x).setCell ⟨w.heap.size, 1, none⟩ y) w.heap.size ((w2.setCell ⟨w.heap.size, 0, none⟩ x).setCell ⟨w.heap.size, 1, none⟩ y).heap.size s l ∧ Below w.heap.size w ((w2.setCell ⟨w.heap.size, 0, none⟩ x).setCell ⟨w.heap.size, 1, none⟩ y) := by
  refine ⟨?_, ((B1.trans (hb.mono B1.size)).setCell (Nat.le_refl _) _).setCell (Nat.le_refl _) _⟩
  rw [size_setCell2]
  exact (hr.keep fun k h1 _ _ => heap_setCell2 w2 _ x y k (by omega)).mono (by omega) (Nat.le_refl _)

set_option maxRecDepth 100000 in
set_option maxHeartbeats 2000000 in
theorem implEachOf_any (v : List M.Cl) (b off cap : Nat) (w : World) (hrow : Row w b off v) (hb : b < w.heap.size) (hn : v.length ≤ 1048576) (hcap : v.length ≤ cap) (hok : ∀ c ∈ v, c.ok) :
    Calls Try.prog 9 #[.slice (some ⟨b, off, none⟩) v.length cap] w (AnsR w (eachOut v)) := by
  have OK := hide hok
  have B0 : ∀ o, Below w.heap.size w (w.alloc o) := fun o => (Below.refl _ _).alloc (Nat.le_refl _) o
  have HB0 := hide B0
  clear B0
  clear hok
  go_enter Try.func9, Try.ntmps9
  go_wp2_with fail
  refine (implFault_any v b off cap _ (hrow.below ((unhide HB0) _) hb) (by simp; omega) hn hcap (unhide OK)).mono ?_
  rintro e1 w1 ⟨rfl, hb1⟩
  have hR : Own w1 w.heap.size 31 [.int .i64 0, .slice none 0 0] := Own.below ⟨_, heap_alloc_new _ _, rfl⟩ hb1 (by simp)
  have B1 : Below w.heap.size w w1 := ((unhide HB0) _).trans (hb1.mono (by simp))
  have hrow1 := hrow.below B1 hb
  have hb1' : b < w1.heap.size := Nat.lt_of_lt_of_le hb B1.size
  clear hb1
  by_cases hv : M.valueFault v = 0
  · rw [hv]
    have HV := hide hv
    have hl1 := (M.fault_zero hv).1
    have HNE := hide (subs_all hv (unhide OK)).2.2.2
    obtain ⟨f0, f1, f2, f3, f4⟩ := hrow1 0 (by omega)
    simp only [Nat.zero_mul, Nat.add_zero] at f0 f1 f2 f3 f4
    have hsz1 := hR.lt
    by_cases kk : (v.getD 0 M.zero).kind = 5 ∨ (v.getD 0 M.zero).kind = 6
    · have fin := hide (each_ok hv kk)
      generalize v.getD 0 M.zero = c at *
      clear hv
      have hrowX := hrow1
      have hbX := hb1'
      have hRX := hR
      have BX' := B1
      rcases kk with kk | kk
      all_goals
        rw [kk] at f0
        clear kk
        go_wp2_with fail
        refine (partsOf_any v b off cap _ (unhide HV) hrowX hbX hcap).mono ?_
        rintro e3 w3 ⟨s3, rfl, hs3, hb3⟩
        have hp3 := hs3.pr (unhide HNE)
        have hR3 := hRX.below hb3 hRX.lt
        have r0 := hR3.cell 0
        have r1 := hR3.cell 1
        have z0 := hR3.frozen 0
        have z1 := hR3.frozen 1
        simp only [List.getElem?_cons_zero, List.getElem?_cons_succ] at r0 r1
        have HE := hide (PR.stored hp3 BX' hRX.lt hb3)
        obtain ⟨ac, mc, cc, rfl⟩ := hp3.ps.shape
        clear hs3 hp3 hb3 f0 f1 f2 f3 f4
        go_wp2_with fail
        refine bodyPost_ret (v := .agg #[.int .i64 0, .slice ac mc cc]) (by simp [results, Try.results9, go_sem, r0, r1]) rfl (ansR_of (unhide fin) ((unhide HE) _ _).1 ((unhide HE) _ _).2)
    · have fin := hide (each_no hv kk)
      generalize v.getD 0 M.zero = c at *
      clear hv
      have h5 : c.kind ≠ 5 := fun e => kk (.inl e)
      have h6 : c.kind ≠ 6 := fun e => kk (.inr e)
      have n5 : (c.kind != 5) = true := by simp [h5]
      have n6 : (c.kind != 6) = true := by simp [h6]
      have r0 := hR.cell 0
      have r1 := hR.cell 1
      have z0 := hR.frozen 0
      have z1 := hR.frozen 1
      simp only [List.getElem?_cons_zero, List.getElem?_cons_succ] at r0 r1
      clear h5 h6 kk
      go_wp2_with fail
      refine bodyPost_ret (v := .agg #[.int .i64 6, .slice none 0 0]) (by simp [results, Try.results9, go_sem, r0, r1]) rfl (ansR_of (unhide fin) (.inl ⟨rfl, rfl⟩) (store_below B1 _ _))
  · have fin := hide (each_bad hv)
    generalize M.valueFault v = q at *
    have hz' : (q == 0) = false := by simp [hv]
    have r0 := hR.cell 0
    have r1 := hR.cell 1
    have z0 := hR.frozen 0
    have z1 := hR.frozen 1
    simp only [List.getElem?_cons_zero, List.getElem?_cons_succ] at r0 r1
    clear hv
    go_wp2_with fail
    refine bodyPost_ret (v := .agg #[.int .i64 q, .slice none 0 0]) (by simp [results, Try.results9, go_sem, r0, r1]) rfl (ansR_of (unhide fin) (.inl ⟨rfl, rfl⟩) (store_below B1 _ _))

end Go.Proofs.Ytmeofjefhkdbgaa

namespace Go.Proofs.Ytmeofjefhkdbgaa
open Go.RowKit Go.WideShapes
set_option linter.unusedVariables false

/-- A row of lists opened: where each lies. -/
theorem SS.opened {w : World} {B : Nat} {s : Value} {ps : List (List M.Cl)} (h : SS w B s ps) (hne : ∀ i, i < ps.length → ps.getD i [] ≠ []) :
    ∃ (a : Option Addr) (c : Nat) (β γ : Nat → Nat), s = .slice a ps.length c ∧ ps.length ≤ c ∧ ∀ i, i < ps.length → ∃ g, a = some ⟨g, 0, none⟩ ∧ B ≤ g ∧ g < w.heap.size ∧ w.cell? ⟨g, i, none⟩ = some (.slice (some ⟨β i, 0, none⟩) (ps.getD i []).length (γ i)) ∧ β i < w.heap.size ∧ β i ≠ g ∧ (ps.getD i []).length ≤ γ i ∧ Row w (β i) 0 (ps.getD i []) := by
  have hat : ∀ i, i < ps.length → ∃ t : Nat × Nat, ∃ g cap, s = .slice (some ⟨g, 0, none⟩) ps.length cap ∧ ps.length ≤ cap ∧ B ≤ g ∧ g < w.heap.size ∧ w.cell? ⟨g, i, none⟩ = some (.slice (some ⟨t.1, 0, none⟩) (ps.getD i []).length t.2) ∧ t.1 < w.heap.size ∧ t.1 ≠ g ∧ (ps.getD i []).length ≤ t.2 ∧ Row w t.1 0 (ps.getD i []) := by
    intro i hi
    obtain ⟨g, cap, s', e, hc, f, hr⟩ := h.at hi
    obtain ⟨xs, hxs⟩ : ∃ xs, w.ownsRow B 24 1 s ps.length xs := by obtain ⟨ss, _, h2, _⟩ := h; exact ⟨ss, h2⟩
    have hg := hxs.lt g (by rw [e]; rfl)
    obtain ⟨_, ⟨_, h2⟩ | ⟨c, cc, h3, h4, h5, h6⟩⟩ := hr
    · exact absurd h2 (hne i hi)
    · refine ⟨(c, cc), g, cap, e, hc, hg.1, hg.2, by rw [f, h3], h6.lt, ?_, h5, h6.row⟩
      obtain ⟨ys, hy1, hy2⟩ := h6
      intro e2
      subst e2
      exact other_block hxs hy1 (by decide) (by rw [e]; rfl)
  haveI : Inhabited (Nat × Nat) := ⟨(0, 0)⟩
  obtain ⟨σ, hσ⟩ := Go.Deep.choose_lt (n := ps.length) hat
  by_cases h0 : ps.length = 0
  · obtain ⟨a, c, e, hc, _⟩ := h.lv hne
    exact ⟨a, c, fun i => (σ i).1, fun i => (σ i).2, e, hc, fun i hi => by omega⟩
  · obtain ⟨g, cap, e, hc, _⟩ := hσ 0 (by omega)
    refine ⟨some ⟨g, 0, none⟩, cap, fun i => (σ i).1, fun i => (σ i).2, e, hc, fun i hi => ?_⟩
    obtain ⟨g', cap', e', _, q⟩ := hσ i hi
    rw [e] at e'
    cases e'
    exact ⟨g, rfl, q⟩

/-- What the loops of l3Sort hold: the row of what is put in so far. -/
structure Sl (wp wr : World) (lv : Nat → Value) (L : List Nat) (s4 : Value) (vb vc : Nat) : Prop where
  e4 : s4 = .slice (some ⟨vb, 0, none⟩) L.length vc
  v : wr.ownsRow wp.heap.size 24 1 (.slice (some ⟨vb, 0, none⟩) L.length vc) L.length (valsV lv L)
  b : Below wp.heap.size wp wr
theorem Sl.below {wp wr w' : World} {lv : Nat → Value} {L : List Nat} {s4 : Value} {vb vc : Nat} (h : Sl wp wr lv L s4 vb vc) (hb : Below wr.heap.size wr w') : Sl wp w' lv L s4 vb vc := ⟨h.e4, owns_below h.v hb, h.b.trans (hb.mono h.b.size)⟩
theorem Sl.drew {wp wr : World} {lv : Nat → Value} {L : List Nat} {s4 : Value} {vb vc : Nat} (h : Sl wp wr lv L s4 vb vc) : Sl wp wr.drew lv L s4 vb vc := ⟨h.e4, h.v, h.b.drew⟩
theorem Sl.drewN {wp wr : World} {lv : Nat → Value} {L : List Nat} {s4 : Value} {vb vc : Nat} (h : Sl wp wr lv L s4 vb vc) (q : Nat) : Sl wp (wr.drewN q) lv L s4 vb vc := ⟨h.e4, h.v, below_drewN h.b q⟩

theorem Good_new {ps : List (List M.Cl)} {i k : Nat} {L S : List Nat} (h : St.Good ps i L) (hS : St.Good ps (i + 1) S) (hk : k ≤ L.length) (hR : ∀ j, k ≤ j → j < L.length → 0 < St.cmpV ps (L.getD j 0) i) (hst : k = 0 ∨ ¬ 0 < St.cmpV ps (L.getD (k - 1) 0) i) : L.take k ++ [i] ++ L.drop k = S := (h.step hk hR hst).unique hS

end Go.Proofs.Ytmeofjefhkdbgaa
