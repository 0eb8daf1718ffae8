/-
  impl.nodeFault tells the code of a node.
  impl.depthOfLast: how deep the last node is.
  spec.l5Order: the nodes below one in their order, cut where there are too many.
  spec.l5Deep: how deep the deepest node is.
  impl.TreeFault and spec.TreeFault tell the same plain code.
-/
import Derived.Test.YtbaanpgbfncdnaaGreatQ00
import Derived.Test.YtbaanpgbfncdnaaGreatQ01
import Derived.Test.YtbaanpgbfncdnaaGreatQ12
import Derived.Test.YtbaanpgbfncdnaaGreatQ14
import Derived.Test.YtbaanpgbfncdnaaGreatQ18
import Derived.Deep.LoopGhost
import Derived.Deep.RegionHeld3
import Derived.Laws.EntriesVeiled
namespace Go.Proofs.YtbaanpgbfncdnaaGreat
open Go.RowKit
set_option linter.unusedVariables false
set_option linter.unusedSimpArgs false

theorem linksFit_any (n : Nd) (at_ ks : Nat) (hk : ks ≤ 3) (lo hi : Int) (fv : Value) (hfv : fv.oneCell' = true) (w : World) : Calls Tryz.prog 102 #[.agg #[.int .i64 ks, .int .i64 lo, .int .i64 hi, fv], .agg #[.int .i64 n.a, .int .i64 n.b, .int .i64 n.c], .int .i64 at_] w fun e w' => e = .returned (.bool (Tr.linksOk ks n.a n.b n.c at_)) ∧ Below w.heap.size w w' := by
  match ks, hk with
  | 0, _ =>
    by_cases p0 : n.a = 0
    case neg =>
      have e : Tr.linksOk 0 n.a n.b n.c at_ = false := by simp [Tr.linksOk, Tr.one] <;> omega
      rw [e]; exact links_0_0_zero n at_ lo hi fv hfv w  p0
    case pos =>
      by_cases p1 : n.b = 0
      case neg =>
        have e : Tr.linksOk 0 n.a n.b n.c at_ = false := by simp [Tr.linksOk, Tr.one] <;> omega
        rw [e]; exact links_0_1_zero n at_ lo hi fv hfv w p0 p1
      case pos =>
        by_cases p2 : n.c = 0
        case neg =>
          have e : Tr.linksOk 0 n.a n.b n.c at_ = false := by simp [Tr.linksOk, Tr.one] <;> omega
          rw [e]; exact links_0_2_zero n at_ lo hi fv hfv w p0 p1 p2
        case pos =>
          have e : Tr.linksOk 0 n.a n.b n.c at_ = true := by simp [Tr.linksOk, Tr.one] <;> omega
          rw [e]; exact links_0_3_ok n at_ lo hi fv hfv w p0 p1 p2
  | 1, _ =>
    by_cases p0 : n.a < 0
    · have e : Tr.linksOk 1 n.a n.b n.c at_ = false := by simp [Tr.linksOk, Tr.one] <;> omega
      rw [e]; exact links_1_0_low n at_ lo hi fv hfv w  p0
    by_cases q0 : (at_ : Int) ≤ n.a
    · have e : Tr.linksOk 1 n.a n.b n.c at_ = false := by simp [Tr.linksOk, Tr.one] <;> omega
      rw [e]; exact links_1_0_high n at_ lo hi fv hfv w  (by omega) q0
    by_cases p1 : n.b = 0
    case neg =>
      have e : Tr.linksOk 1 n.a n.b n.c at_ = false := by simp [Tr.linksOk, Tr.one] <;> omega
      rw [e]; exact links_1_1_zero n at_ lo hi fv hfv w (by omega) (by omega) p1
    case pos =>
      by_cases p2 : n.c = 0
      case neg =>
        have e : Tr.linksOk 1 n.a n.b n.c at_ = false := by simp [Tr.linksOk, Tr.one] <;> omega
        rw [e]; exact links_1_2_zero n at_ lo hi fv hfv w (by omega) (by omega) p1 p2
      case pos =>
        have e : Tr.linksOk 1 n.a n.b n.c at_ = true := by simp [Tr.linksOk, Tr.one] <;> omega
        rw [e]; exact links_1_3_ok n at_ lo hi fv hfv w (by omega) (by omega) p1 p2
  | 2, _ =>
    by_cases p0 : n.a < 0
    · have e : Tr.linksOk 2 n.a n.b n.c at_ = false := by simp [Tr.linksOk, Tr.one] <;> omega
      rw [e]; exact links_2_0_low n at_ lo hi fv hfv w  p0
    by_cases q0 : (at_ : Int) ≤ n.a
    · have e : Tr.linksOk 2 n.a n.b n.c at_ = false := by simp [Tr.linksOk, Tr.one] <;> omega
      rw [e]; exact links_2_0_high n at_ lo hi fv hfv w  (by omega) q0
    by_cases p1 : n.b < 0
    · have e : Tr.linksOk 2 n.a n.b n.c at_ = false := by simp [Tr.linksOk, Tr.one] <;> omega
      rw [e]; exact links_2_1_low n at_ lo hi fv hfv w (by omega) (by omega) p1
    by_cases q1 : (at_ : Int) ≤ n.b
    · have e : Tr.linksOk 2 n.a n.b n.c at_ = false := by simp [Tr.linksOk, Tr.one] <;> omega
      rw [e]; exact links_2_1_high n at_ lo hi fv hfv w (by omega) (by omega) (by omega) q1
    by_cases p2 : n.c = 0
    case neg =>
      have e : Tr.linksOk 2 n.a n.b n.c at_ = false := by simp [Tr.linksOk, Tr.one] <;> omega
      rw [e]; exact links_2_2_zero n at_ lo hi fv hfv w (by omega) (by omega) (by omega) (by omega) p2
    case pos =>
      have e : Tr.linksOk 2 n.a n.b n.c at_ = true := by simp [Tr.linksOk, Tr.one] <;> omega
      rw [e]; exact links_2_3_ok n at_ lo hi fv hfv w (by omega) (by omega) (by omega) (by omega) p2
  | 3, _ =>
    by_cases p0 : n.a < 0
    · have e : Tr.linksOk 3 n.a n.b n.c at_ = false := by simp [Tr.linksOk, Tr.one] <;> omega
      rw [e]; exact links_3_0_low n at_ lo hi fv hfv w  p0
    by_cases q0 : (at_ : Int) ≤ n.a
    · have e : Tr.linksOk 3 n.a n.b n.c at_ = false := by simp [Tr.linksOk, Tr.one] <;> omega
      rw [e]; exact links_3_0_high n at_ lo hi fv hfv w  (by omega) q0
    by_cases p1 : n.b < 0
    · have e : Tr.linksOk 3 n.a n.b n.c at_ = false := by simp [Tr.linksOk, Tr.one] <;> omega
      rw [e]; exact links_3_1_low n at_ lo hi fv hfv w (by omega) (by omega) p1
    by_cases q1 : (at_ : Int) ≤ n.b
    · have e : Tr.linksOk 3 n.a n.b n.c at_ = false := by simp [Tr.linksOk, Tr.one] <;> omega
      rw [e]; exact links_3_1_high n at_ lo hi fv hfv w (by omega) (by omega) (by omega) q1
    by_cases p2 : n.c < 0
    · have e : Tr.linksOk 3 n.a n.b n.c at_ = false := by simp [Tr.linksOk, Tr.one] <;> omega
      rw [e]; exact links_3_2_low n at_ lo hi fv hfv w (by omega) (by omega) (by omega) (by omega) p2
    by_cases q2 : (at_ : Int) ≤ n.c
    · have e : Tr.linksOk 3 n.a n.b n.c at_ = false := by simp [Tr.linksOk, Tr.one] <;> omega
      rw [e]; exact links_3_2_high n at_ lo hi fv hfv w (by omega) (by omega) (by omega) (by omega) (by omega) q2
    have e : Tr.linksOk 3 n.a n.b n.c at_ = true := by simp [Tr.linksOk, Tr.one] <;> omega
    rw [e]; exact links_3_3_ok n at_ lo hi fv hfv w (by omega) (by omega) (by omega) (by omega) (by omega) (by omega)

end Go.Proofs.YtbaanpgbfncdnaaGreat

namespace Go.Proofs.YtbaanpgbfncdnaaGreat
open Go.RowKit
set_option linter.unusedVariables false

namespace Tr
/-- The deepest of the first j that a node names. -/
def depK (l : List Nd) (n : Nd) (j : Nat) : Nat := ((links n).take j).foldl (fun d x => max d (dep l x.toNat)) 0
theorem depK_zero (l : List Nd) (n : Nd) : depK l n 0 = 0 := rfl
theorem depK_succ (l : List Nd) (n : Nd) (j : Nat) (hj : j < kids n.op) : depK l n (j + 1) = max (depK l n j) (dep l (kidAt n j).toNat) := by
  unfold depK
  have h : j < (links n).length := by rw [links_length]; exact hj
  rw [List.take_succ_eq_append_getElem h, List.foldl_append]
  have e : (links n)[j] = kidAt n j := by
    have := links_getD n j hj
    rw [List.getD_eq_getElem?_getD, List.getElem?_eq_getElem h] at this
    exact this
  simp [e]
theorem depK_all {l : List Nd} (hf : Fine l) (i : Nat) (hi : i < l.length) : dep l i = depK l (l.getD i Nd.zero) (kids (l.getD i Nd.zero).op) + 1 := by
  rw [dep_eq hf i hi]
  unfold depK
  rw [List.take_of_length_le (by rw [links_length]; exact Nat.le_refl _)]
theorem depK_le {l : List Nd} (hf : Fine l) (i : Nat) (hi : i < l.length) (j : Nat) : depK l (l.getD i Nd.zero) j ≤ 200 ∨ 200 < l.length := by
  by_cases h : 200 < l.length
  · exact .inr h
  · left
    unfold depK
    refine foldl_max_le (fun x => dep l x.toNat) _ 200 (fun x hx => ?_) 0 (by omega)
    have := hf i hi x (List.mem_of_mem_take hx)
    have := dep_le hf x.toNat (by omega)
    omega
theorem kid_fine {l : List Nd} (hf : Fine l) (i : Nat) (hi : i < l.length) (j : Nat) (hj : j < kids (l.getD i Nd.zero).op) : 0 ≤ kidAt (l.getD i Nd.zero) j ∧ kidAt (l.getD i Nd.zero) j < i := by
  refine hf i hi _ ?_
  rw [links_kidAt]
  exact List.mem_map.2 ⟨j, List.mem_range.2 hj, rfl⟩
/-- The depths of the first k. -/
def Deps (l : List Nd) (xs : List Value) (k : Nat) : Prop := xs.length = l.length ∧ ∀ j, j < k → xs[j]? = some (.int .i64 (dep l j))
theorem Deps.step {l : List Nd} {xs : List Value} {k : Nat} (h : Deps l xs k) (hk : k < l.length) (d : Int) (hd : d = dep l k) : Deps l (xs.set k (.int .i64 d)) (k + 1) := by
  subst hd
  refine ⟨by rw [List.length_set]; exact h.1, fun j hj => ?_⟩
  by_cases e : j = k
  · subst e; rw [List.getElem?_set_self (by rw [h.1]; exact hk)]
  · rw [List.getElem?_set_ne (by omega)]; exact h.2 j (by omega)
theorem make_ints (n : Nat) (hn : n ≤ 1048576) (w : World) :
    (Instr.makeSlice 34 (.int .i64 (n : Int)) (.int .i64 (n : Int))).run Tryz.prog w = .ok (.slice (some ⟨w.heap.size, 0, none⟩) n n) (w.alloc (.cells (madeCells #[.int .i64 0] (n * 1)) 2)) := by
  obtain ⟨i, hi, hz⟩ := Option.map_eq_some_iff.1 infoI
  simp only [Prod.mk.injEq] at hz
  obtain ⟨h1, h2, h3⟩ := hz
  have := run_make (P := Tryz.prog) w 34 2 i _ Tryz.underlying34 hi h1 .i64 .i64 (n : Int) (n : Int) (by omega) (by omega) (by rw [h3]; omega) (by omega)
  rw [this, h2]
  simp only [Int.toNat_natCast]
  rfl
theorem made_length (n : Nat) : (madeCells #[.int .i64 0] n).toList.length = n := by simp [size_madeCells]
end Tr

set_option maxRecDepth 100000 in
set_option maxHeartbeats 2000000 in
theorem depthOfLast_big (B g cap : Nat) (gs : List Nat) (l : List Nd) (w : World) (hnp : Tr.NP w B (.slice (some ⟨g, 0, none⟩) l.length cap) l gs) (hgl : gs.length = l.length) (hcap : l.length ≤ cap) (hg0 : g < w.heap.size) (h200 : l.length ≤ 1000) (h0 : 0 < l.length) (hf : Tr.Fine l) :
    Calls Tryz.prog 79 #[.slice (some ⟨g, 0, none⟩) l.length cap] w fun e w' => e = .returned (.int .i64 (Tr.dep l (l.length - 1))) ∧ Below w.heap.size w w' := by
  have HNP := hide hnp
  have HGL := hide hgl
  have HF := hide hf
  clear hnp hgl hf
  have hmk := Tr.make_ints l.length (by omega)
  go_enter Tryz.func79, Tryz.ntmps79
  go_wp2_with fail
  go_loopg [3, 14] l.length (fun gh s3 s14 wr => ∃ (k : Nat) (d : Int) (xs : List Value), Hid (gh = l.length - k) ∧ s14 = .int .i64 k ∧ k ≤ l.length ∧ s3 = .int .i64 d ∧ Hid (0 < k → d = Tr.dep l (k - 1)) ∧ Own wr w.heap.size 2 xs ∧ Hid (Tr.Deps l xs k) ∧ Below w.heap.size w wr)
  case atStart => exact ⟨0, 0, _, rfl, rfl, by omega, rfl, fun h => absurd h (by omega), ⟨_, heap_alloc_new _ _, rfl⟩, ⟨Tr.made_length _, fun j hj => absurd hj (by omega)⟩, (Below.refl _ _).alloc (Nat.le_refl _) _⟩
  case round =>
    clear hmk
    obtain ⟨k, d, xs, hg, rfl, hk, rfl, hd, hown, hdeps, hbel⟩ := hrel
    by_cases hlt : k < l.length
    · have hltI : (k : Int) < (l.length : Int) := by omega
      have hkg : k < gs.length := by rw [unhide HGL]; exact hlt
      have f0 := (hbel.cell (by exact hg0)).trans (Tr.np_cell (unhide HNP) k hkg)
      have hog := ((unhide HNP).2 k hkg).2
      have hog2 := hog.below hbel hog.lt
      have hgne : gs.getD k 0 < w.heap.size := hog.lt
      have hkl := Tr.kids_le (l.getD k Nd.zero).op
      have hall := hide (Tr.depK_all (unhide HF) k hlt)
      have hle := hide (fun j => Tr.depK_le (unhide HF) k hlt j)
      have hfin := hide (fun j hj => Tr.kid_fine (unhide HF) k hlt j hj)
      have hsucc := hide (fun j hj => Tr.depK_succ l (l.getD k Nd.zero) j hj)
      have hz := hide (Tr.depK_zero l (l.getD k Nd.zero))
      have habc := hide (fun j hj => (hog2.cell j).trans (Tr.abc_get (l.getD k Nd.zero) j hj))
      clear hog hog2 hkg
      generalize l.getD k Nd.zero = n at *
      generalize gs.getD k 0 = gk' at *
      obtain ⟨ks, hks⟩ : ∃ ks, ks = Tr.kids n.op := ⟨_, rfl⟩
      rw [← hks] at f0 hkl hall hfin hsucc
      clear hks
      go_wp2_with fail
      go_loopg [3, 21] ks (fun gh s3 s21 w2 => ∃ (j : Nat) (q : Nat), Hid (gh = ks - j) ∧ s21 = .int .i64 j ∧ j ≤ ks ∧ s3 = .int .i64 ((q : Int) + 1) ∧ q ≤ 1000 ∧ Hid (q = Tr.depK l n j) ∧ w2 = wr)
      case atStart => exact ⟨0, 0, rfl, rfl, by omega, rfl, by omega, (unhide hz).symm, rfl⟩
      case round =>
        obtain ⟨j, q, hgj, rfl, hj, rfl, hq, hqd, rfl⟩ := hrel
        by_cases hjl : j < ks
        · have hjI : (j : Int) < (ks : Int) := by omega
          have f1 := (unhide habc) j (by omega)
          have hb1 := (unhide hfin) j hjl
          have hs1 := hide ((unhide hsucc) j hjl)
          obtain ⟨x, hx⟩ : ∃ x : Nat, Tr.kidAt n j = x := ⟨(Tr.kidAt n j).toNat, by omega⟩
          rw [hx] at f1 hb1 hs1
          have hxk : x < k := by omega
          have hxI : (x : Int) < (l.length : Int) := by omega
          have hx0 : (0 : Int) ≤ (x : Int) := by omega
          have f2 := (hown.cell x).trans (hdeps.out.2 x hxk)
          have hdl := Tr.dep_le (unhide HF) x (by omega)
          simp only [Int.toNat_natCast] at hs1
          generalize Tr.dep l x = dx at f2 hs1 hdl
          clear hx hb1 hjl
          rcases Nat.lt_or_ge q dx with hm | hm
          · have hmI : ((q : Int) + 1) < ((dx : Int) + 1) := by omega
            go_wp2_with fail
            go_roundg (ks - (j + 1))
            case rel =>
              refine ⟨j + 1, dx, rfl, by go_num, by omega, ?_, by omega, ?_, rfl⟩
              · first | rfl | go_num | (simp; omega)
              · show dx = _; rw [unhide hs1, ← hqd.out]; omega
            case measure => have := hgj.out; omega
          · have hmI : ¬ ((q : Int) + 1) < ((dx : Int) + 1) := by omega
            have hmN : ¬ q < dx := by omega
            go_wp2_with fail
            go_roundg (ks - (j + 1))
            case rel =>
              refine ⟨j + 1, q, rfl, by go_num, by omega, ?_, by omega, ?_, rfl⟩
              · first | rfl | go_num | (simp; omega)
              · show q = _; rw [unhide hs1, ← hqd.out]; omega
            case measure => have := hgj.out; omega
        · have hje : j = ks := by omega
          have hdq : (q : Int) + 1 = Tr.dep l k := by rw [unhide hall, hqd.out, hje]; omega
          have HDQ := hide hdq
          obtain ⟨v0, g0⟩ : ∃ v, xs[k]? = some v := ⟨xs[k]'(by rw [hdeps.out.1]; exact hlt), List.getElem?_eq_getElem (by rw [hdeps.out.1]; exact hlt)⟩
          have i0 := (hown.cell k).trans g0
          have z0 := hown.frozen k
          have hst := hide (hdeps.out.step hlt ((q : Int) + 1) hdq)
          have G0 := hide g0
          clear hje hdq g0
          go_wp2_with fail
          go_roundg (l.length - (k + 1))
          case rel => exact ⟨k + 1, _, _, rfl, by go_num, by omega, rfl, fun _ => (unhide HDQ), hown.set k _, unhide hst, hbel.setCell (Nat.le_refl _) _⟩
          case measure => have := hg.out; omega
    · have hke : k = l.length := by omega
      have fin := hide (show d = Tr.dep l (l.length - 1) by rw [hd.out (by omega), hke])
      clear hke
      go_wp2_with fail
      go_ret
      exact ⟨ret_int (unhide fin), hbel⟩
end Go.Proofs.YtbaanpgbfncdnaaGreat

namespace Go.Proofs.YtbaanpgbfncdnaaGreat
open Go.RowKit
set_option linter.unusedVariables false

namespace Tr
/-- The order so far, behind the first j that a node names. -/
def cutK (f : Nat) (l : List Nd) (n : Nd) (out : List Int) (j : Nat) : List Int := ((links n).take j).foldl (fun o x => if o.length ≤ l.length then cutF f l o x.toNat else o) out
theorem cutK_zero (f : Nat) (l : List Nd) (n : Nd) (out : List Int) : cutK f l n out 0 = out := rfl
theorem cutK_succ (f : Nat) (l : List Nd) (n : Nd) (out : List Int) (j : Nat) (hj : j < kids n.op) : cutK f l n out (j + 1) = if (cutK f l n out j).length ≤ l.length then cutF f l (cutK f l n out j) (kidAt n j).toNat else cutK f l n out j := by
  unfold cutK
  have h : j < (links n).length := by rw [links_length]; exact hj
  have e : (links n)[j] = kidAt n j := by
    have := links_getD n j hj
    rw [List.getD_eq_getElem?_getD, List.getElem?_eq_getElem h] at this
    exact this
  rw [List.take_succ_eq_append_getElem h, List.foldl_append, e]
  rfl
theorem cutK_stop (f : Nat) (l : List Nd) (n : Nd) (out : List Int) (j m : Nat) (hj : ¬ (cutK f l n out j).length ≤ l.length) (hm : j ≤ m) (hk : m ≤ kids n.op) : cutK f l n out m = cutK f l n out j := by
  induction m with
  | zero => have : j = 0 := by omega
            rw [this]
  | succ m ih =>
    by_cases e : j = m + 1
    · rw [e]
    · rw [cutK_succ f l n out m (by omega), ih (by omega) (by omega), if_neg hj]
theorem cutK_all (f : Nat) (l : List Nd) (out : List Int) (i : Nat) : cutF (f + 1) l out i = cutK f l (l.getD i Nd.zero) out (kids (l.getD i Nd.zero).op) ++ [(i : Int)] := by
  rw [cutF]
  unfold cutK
  rw [List.take_of_length_le (by rw [links_length]; exact Nat.le_refl _)]
theorem cutK_le (f : Nat) (l : List Nd) (n : Nd) (out : List Int) (m : Nat) (ho : out.length ≤ m + f) (hl : l.length ≤ m) (j : Nat) : (cutK f l n out j).length ≤ m + f := by
  have key : ∀ (ls out : List Int), out.length ≤ m + f → (ls.foldl (fun o x => if o.length ≤ l.length then cutF f l o x.toNat else o) out).length ≤ m + f := by
    intro ls
    induction ls with
    | nil => intro o h; exact h
    | cons x xs ih2 =>
      intro o h
      rw [List.foldl_cons]
      refine ih2 _ ?_
      split
      · rename_i h3; exact cutF_le f l o _ m (by omega) hl
      · exact h
  exact key _ out ho
/-- The blocks below a base are kept, and of the others that were there all but rows of numbers. -/
def Kp (B : Nat) (w w' : World) : Prop := Below B w w' ∧ ∀ b, b < w.heap.size → (∀ c fz, w.heap[b]? ≠ some (.cells c 2 fz)) → w'.heap[b]? = w.heap[b]?
theorem Kp.refl (B : Nat) (w : World) : Kp B w w := ⟨Below.refl _ _, fun _ _ _ => rfl⟩
theorem Kp.trans {B : Nat} {w w1 w2 : World} (h : Kp B w w1) (h' : Kp B w1 w2) : Kp B w w2 := by
  refine ⟨h.1.trans h'.1, fun b hb hn => ?_⟩
  have e := h.2 b hb hn
  rw [← e]
  refine h'.2 b (Nat.lt_of_lt_of_le hb h.1.size) ?_
  rw [e]; exact hn
theorem Kp.of_below {B : Nat} {w w' : World} (h : Below w.heap.size w w') (hB : B ≤ w.heap.size) : Kp B w w' := ⟨h.mono hB, fun b hb _ => h.block b hb⟩
theorem Kp.grown {B : Nat} {w w' : World} {v : Value} {n : Nat} {xs : List Value} (ho : w.ownsRow B 2 1 v n xs) (hg : w.grownBy w' v.ownBlock) (hB : B ≤ w.heap.size) : Kp B w w' := by
  refine ⟨(Below.refl _ _).grown hg hB (owns_base ho), fun b hb hn => ?_⟩
  refine hg.block b hb fun e => ?_
  obtain ⟨_, ⟨rfl, _⟩ | ⟨g, cap, cur, rfl, _, hh, _⟩⟩ := ho
  · simp [Value.ownBlock] at e
  · simp only [Value.ownBlock, Option.some.injEq] at e
    subst e
    exact hn _ _ hh
theorem Kp.own {B b : Nat} {w w' : World} {t : TypeId} {xs : List Value} (h : Kp B w w') (ho : Own w b t xs) (ht : t ≠ 2) : Own w' b t xs := by
  obtain ⟨c, hc, e⟩ := ho
  refine ⟨c, (h.2 b (Array.getElem?_eq_some_iff.1 hc).1 ?_).trans hc, e⟩
  intro c' fz hcc
  rw [hc] at hcc
  simp only [Option.some.injEq, Obj.cells.injEq] at hcc
  exact ht hcc.2.1
theorem owns_slice {w : World} {base : Nat} {e : TypeId} {size : Nat} {v : Value} {n : Nat} {xs : List Value} (h : w.ownsRow base e size v n xs) : ∃ a c, v = .slice a n c := by
  obtain ⟨_, ⟨rfl, rfl⟩ | ⟨g, cap, cur, rfl, _⟩⟩ := h
  · exact ⟨_, _, rfl⟩
  · exact ⟨_, _, rfl⟩
end Tr

end Go.Proofs.YtbaanpgbfncdnaaGreat

namespace Go.Proofs.YtbaanpgbfncdnaaGreat
open Go.RowKit
set_option linter.unusedVariables false

theorem l1Max_tr (a b : Int) (w : World) : Calls Tryz.prog 55 #[.int .i64 a, .int .i64 b] w fun e w' => e = .returned (.int .i64 (max a b)) ∧ w' = w := by
  by_cases h : a > b
  · have e : max a b = a := by omega
    rw [e]
    go_enter Tryz.func55, Tryz.ntmps55
    go_wp2
    go_ret
    exact ⟨rfl, rfl⟩
  · have e : max a b = b := by omega
    rw [e]
    go_enter Tryz.func55, Tryz.ntmps55
    go_wp2
    go_ret
    exact ⟨rfl, rfl⟩
namespace Tr
/-- The depths of the first k, and what is in the next place so far; the rest is 0. -/
def DepsK (l : List Nd) (xs : List Value) (k : Nat) (q : Int) : Prop := xs.length = l.length ∧ (∀ j, j < k → xs[j]? = some (.int .i64 (dep l j))) ∧ (k < l.length → xs[k]? = some (.int .i64 q)) ∧ ∀ j, k < j → j < l.length → xs[j]? = some (.int .i64 0)
theorem DepsK.put {l : List Nd} {xs : List Value} {k : Nat} {q : Int} (h : DepsK l xs k q) (hk : k < l.length) (q' : Int) : DepsK l (xs.set k (.int .i64 q')) k q' := by
  obtain ⟨h1, h2, h3, h4⟩ := h
  refine ⟨by rw [List.length_set]; exact h1, fun j hj => ?_, fun _ => ?_, fun j hj hl => ?_⟩
  · rw [List.getElem?_set_ne (by omega)]; exact h2 j hj
  · rw [List.getElem?_set_self (by omega)]
  · rw [List.getElem?_set_ne (by omega)]; exact h4 j hj hl
theorem DepsK.next {l : List Nd} {xs : List Value} {k : Nat} {q : Int} (h : DepsK l xs k q) (hk : k < l.length) (hq : q = dep l k) : DepsK l xs (k + 1) 0 := by
  obtain ⟨h1, h2, h3, h4⟩ := h
  refine ⟨h1, fun j hj => ?_, fun h => h4 _ (by omega) h, fun j hj hl => h4 j (by omega) hl⟩
  by_cases e : j = k
  · subst e; rw [h3 hk, hq]
  · exact h2 j (by omega)
theorem DepsK.zero (l : List Nd) : DepsK l (madeCells #[.int .i64 0] l.length).toList 0 0 := by
  have key : ∀ j, j < l.length → (madeCells #[.int .i64 0] l.length).toList[j]? = some (.int .i64 0) := by
    intro j hj
    rw [toList_madeCells_one, List.getElem?_replicate, if_pos hj]
  exact ⟨made_length _, fun j hj => absurd hj (by omega), fun h => key 0 h, fun j _ hl => key j hl⟩
end Tr

end Go.Proofs.YtbaanpgbfncdnaaGreat

namespace Go.Proofs.YtbaanpgbfncdnaaGreat
open Go.RowKit
set_option linter.unusedVariables false

namespace Tr
theorem up_getD (n i : Nat) (h : i < n) : (up 0 n).getD i 0 = (i : Int) := by
  rw [List.getD_eq_getElem?_getD, up_get 0 n i h]; simp
end Tr

end Go.Proofs.YtbaanpgbfncdnaaGreat
