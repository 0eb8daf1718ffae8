/-
  impl.depthOfLast: how deep the last node is.
-/
import Derived.Test.YtkjmnkbiflkpdaaTreP
namespace Go.Proofs.Ytkjmnkbiflkpdaa
open Go.RowKit
set_option linter.unusedVariables false

namespace Tr
/-- The deepest of the first j that a node names. -/
def depK (l : List Nd) (n : Nd) (j : Nat) : Nat := ((links n).take j).foldl (fun d x => max d (dep l x.toNat)) 0
theorem depK_zero (l : List Nd) (n : Nd) : depK l n 0 = 0 := rfl
theorem depK_succ (l : List Nd) (n : Nd) (j : Nat) (hj : j < kids n.op) : depK l n (j + 1) = max (depK l n j) (dep l (kidAt n j).toNat) := by
  unfold depK
  have h : j < (links n).length := by rw [links_length]; exact hj
  rw [List.take_succ_eq_append_getElem h, List.foldl_append]
  have e : (links n)[j] = kidAt n j := by
    have := links_getD n j hj
    rw [List.getD_eq_getElem?_getD, List.getElem?_eq_getElem h] at this
    exact this
  simp [e]
theorem depK_all {l : List Nd} (hf : Fine l) (i : Nat) (hi : i < l.length) : dep l i = depK l (l.getD i Nd.zero) (kids (l.getD i Nd.zero).op) + 1 := by
  rw [dep_eq hf i hi]
  unfold depK
  rw [List.take_of_length_le (by rw [links_length]; exact Nat.le_refl _)]
theorem depK_le {l : List Nd} (hf : Fine l) (i : Nat) (hi : i < l.length) (j : Nat) : depK l (l.getD i Nd.zero) j ≤ 200 ∨ 200 < l.length := by
  by_cases h : 200 < l.length
  · exact .inr h
  · left
    unfold depK
    refine foldl_max_le (fun x => dep l x.toNat) _ 200 (fun x hx => ?_) 0 (by omega)
    have := hf i hi x (List.mem_of_mem_take hx)
    have := dep_le hf x.toNat (by omega)
    omega
theorem kid_fine {l : List Nd} (hf : Fine l) (i : Nat) (hi : i < l.length) (j : Nat) (hj : j < kids (l.getD i Nd.zero).op) : 0 ≤ kidAt (l.getD i Nd.zero) j ∧ kidAt (l.getD i Nd.zero) j < i := by
  refine hf i hi _ ?_
  rw [links_kidAt]
  exact List.mem_map.2 ⟨j, List.mem_range.2 hj, rfl⟩
/-- The depths of the first k. -/
def Deps (l : List Nd) (xs : List Value) (k : Nat) : Prop := xs.length = l.length ∧ ∀ j, j < k → xs[j]? = some (.int .i64 (dep l j))
theorem Deps.step {l : List Nd} {xs : List Value} {k : Nat} (h : Deps l xs k) (hk : k < l.length) (d : Int) (hd : d = dep l k) : Deps l (xs.set k (.int .i64 d)) (k + 1) := by
  subst hd
  refine ⟨by rw [List.length_set]; exact h.1, fun j hj => ?_⟩
  by_cases e : j = k
  · subst e; rw [List.getElem?_set_self (by rw [h.1]; exact hk)]
  · rw [List.getElem?_set_ne (by omega)]; exact h.2 j (by omega)
theorem make_ints (n : Nat) (hn : n ≤ 1048576) (w : World) :
    (Instr.makeSlice 32 (.int .i64 (n : Int)) (.int .i64 (n : Int))).run Try.prog w = .ok (.slice (some ⟨w.heap.size, 0, none⟩) n n) (w.alloc (.cells (madeCells #[.int .i64 0] (n * 1)) 2)) := by
  obtain ⟨i, hi, hz⟩ := Option.map_eq_some_iff.1 infoI
  simp only [Prod.mk.injEq] at hz
  obtain ⟨h1, h2, h3⟩ := hz
  have := run_make (P := Try.prog) w 32 2 i _ Try.underlying32 hi h1 .i64 .i64 (n : Int) (n : Int) (by omega) (by omega) (by rw [h3]; omega) (by omega)
  rw [this, h2]
  simp only [Int.toNat_natCast]
  rfl
theorem made_length (n : Nat) : (madeCells #[.int .i64 0] n).toList.length = n := by simp [size_madeCells]
end Tr

set_option maxRecDepth 100000 in
set_option maxHeartbeats 2000000 in
theorem depthOfLast_big (B g cap : Nat) (gs : List Nat) (l : List Nd) (w : World) (hnp : Tr.NP w B (.slice (some ⟨g, 0, none⟩) l.length cap) l gs) (hgl : gs.length = l.length) (hcap : l.length ≤ cap) (hg0 : g < w.heap.size) (h200 : l.length ≤ 1000) (h0 : 0 < l.length) (hf : Tr.Fine l) :
    Calls Try.prog 50 #[.slice (some ⟨g, 0, none⟩) l.length cap] w fun e w' => e = .returned (.int .i64 (Tr.dep l (l.length - 1))) ∧ Below w.heap.size w w' := by
  have HNP := hide hnp
  have HGL := hide hgl
  have HF := hide hf
  clear hnp hgl hf
  have hmk := Tr.make_ints l.length (by omega)
  go_enter Try.func50, Try.ntmps50
  go_wp2_with fail
  go_loopg [3, 14] l.length (fun gh s3 s14 wr => ∃ (k : Nat) (d : Int) (xs : List Value), Hid (gh = l.length - k) ∧ s14 = .int .i64 k ∧ k ≤ l.length ∧ s3 = .int .i64 d ∧ Hid (0 < k → d = Tr.dep l (k - 1)) ∧ Own wr w.heap.size 2 xs ∧ Hid (Tr.Deps l xs k) ∧ Below w.heap.size w wr)
  case atStart => exact ⟨0, 0, _, rfl, rfl, by omega, rfl, fun h => absurd h (by omega), ⟨_, heap_alloc_new _ _, rfl⟩, ⟨Tr.made_length _, fun j hj => absurd hj (by omega)⟩, (Below.refl _ _).alloc (Nat.le_refl _) _⟩
  case round =>
    clear hmk
    obtain ⟨k, d, xs, hg, rfl, hk, rfl, hd, hown, hdeps, hbel⟩ := hrel
    by_cases hlt : k < l.length
    · have hltI : (k : Int) < (l.length : Int) := by omega
      have hkg : k < gs.length := by rw [unhide HGL]; exact hlt
      have f0 := (hbel.cell (by exact hg0)).trans (Tr.np_cell (unhide HNP) k hkg)
      have hog := ((unhide HNP).2 k hkg).2
      have hog2 := hog.below hbel hog.lt
      have hgne : gs.getD k 0 < w.heap.size := hog.lt
      have hkl := Tr.kids_le (l.getD k Nd.zero).op
      have hall := hide (Tr.depK_all (unhide HF) k hlt)
      have hle := hide (fun j => Tr.depK_le (unhide HF) k hlt j)
      have hfin := hide (fun j hj => Tr.kid_fine (unhide HF) k hlt j hj)
      have hsucc := hide (fun j hj => Tr.depK_succ l (l.getD k Nd.zero) j hj)
      have hz := hide (Tr.depK_zero l (l.getD k Nd.zero))
      have habc := hide (fun j hj => (hog2.cell j).trans (Tr.abc_get (l.getD k Nd.zero) j hj))
      clear hog hog2 hkg
      generalize l.getD k Nd.zero = n at *
      generalize gs.getD k 0 = gk' at *
      obtain ⟨ks, hks⟩ : ∃ ks, ks = Tr.kids n.op := ⟨_, rfl⟩
      rw [← hks] at f0 hkl hall hfin hsucc
      clear hks
      go_wp2_with fail
      go_loopg [3, 21] ks (fun gh s3 s21 w2 => ∃ (j : Nat) (q : Nat), Hid (gh = ks - j) ∧ s21 = .int .i64 j ∧ j ≤ ks ∧ s3 = .int .i64 ((q : Int) + 1) ∧ q ≤ 1000 ∧ Hid (q = Tr.depK l n j) ∧ w2 = wr)
      case atStart => exact ⟨0, 0, rfl, rfl, by omega, rfl, by omega, (unhide hz).symm, rfl⟩
      case round =>
        obtain ⟨j, q, hgj, rfl, hj, rfl, hq, hqd, rfl⟩ := hrel
        by_cases hjl : j < ks
        · have hjI : (j : Int) < (ks : Int) := by omega
          have f1 := (unhide habc) j (by omega)
          have hb1 := (unhide hfin) j hjl
          have hs1 := hide ((unhide hsucc) j hjl)
          obtain ⟨x, hx⟩ : ∃ x : Nat, Tr.kidAt n j = x := ⟨(Tr.kidAt n j).toNat, by omega⟩
          rw [hx] at f1 hb1 hs1
          have hxk : x < k := by omega
          have hxI : (x : Int) < (l.length : Int) := by omega
          have hx0 : (0 : Int) ≤ (x : Int) := by omega
          have f2 := (hown.cell x).trans (hdeps.out.2 x hxk)
          have hdl := Tr.dep_le (unhide HF) x (by omega)
          simp only [Int.toNat_natCast] at hs1
          generalize Tr.dep l x = dx at f2 hs1 hdl
          clear hx hb1 hjl
          rcases Nat.lt_or_ge q dx with hm | hm
          · have hmI : ((q : Int) + 1) < ((dx : Int) + 1) := by omega
            go_wp2_with fail
            go_roundg (ks - (j + 1))
            case rel =>
              refine ⟨j + 1, dx, rfl, by go_num, by omega, ?_, by omega, ?_, rfl⟩
              · first | rfl | go_num | (simp; omega)
              · show dx = _; rw [unhide hs1, ← hqd.out]; omega
            case measure => have := hgj.out; omega
          · have hmI : ¬ ((q : Int) + 1) < ((dx : Int) + 1) := by omega
            have hmN : ¬ q < dx := by omega
            go_wp2_with fail
            go_roundg (ks - (j + 1))
            case rel =>
              refine ⟨j + 1, q, rfl, by go_num, by omega, ?_, by omega, ?_, rfl⟩
              · first | rfl | go_num | (simp; omega)
              · show q = _; rw [unhide hs1, ← hqd.out]; omega
            case measure => have := hgj.out; omega
        · have hje : j = ks := by omega
          have hdq : (q : Int) + 1 = Tr.dep l k := by rw [unhide hall, hqd.out, hje]; omega
          have HDQ := hide hdq
          obtain ⟨v0, g0⟩ : ∃ v, xs[k]? = some v := ⟨xs[k]'(by rw [hdeps.out.1]; exact hlt), List.getElem?_eq_getElem (by rw [hdeps.out.1]; exact hlt)⟩
          have i0 := (hown.cell k).trans g0
          have z0 := hown.frozen k
          have hst := hide (hdeps.out.step hlt ((q : Int) + 1) hdq)
          have G0 := hide g0
          clear hje hdq g0
          go_wp2_with fail
          go_roundg (l.length - (k + 1))
          case rel => exact ⟨k + 1, _, _, rfl, by go_num, by omega, rfl, fun _ => (unhide HDQ), hown.set k _, unhide hst, hbel.setCell (Nat.le_refl _) _⟩
          case measure => have := hg.out; omega
    · have hke : k = l.length := by omega
      have fin := hide (show d = Tr.dep l (l.length - 1) by rw [hd.out (by omega), hke])
      clear hke
      go_wp2_with fail
      go_ret
      exact ⟨ret_int (unhide fin), hbel⟩
theorem depthOfLast_any (B g cap : Nat) (gs : List Nat) (l : List Nd) (w : World) (hnp : Tr.NP w B (.slice (some ⟨g, 0, none⟩) l.length cap) l gs) (hgl : gs.length = l.length) (hcap : l.length ≤ cap) (hg0 : g < w.heap.size) (h200 : l.length ≤ 200) (h0 : 0 < l.length) (hf : Tr.Fine l) :
    Calls Try.prog 50 #[.slice (some ⟨g, 0, none⟩) l.length cap] w fun e w' => e = .returned (.int .i64 (Tr.dep l (l.length - 1))) ∧ Below w.heap.size w w' := depthOfLast_big B g cap gs l w hnp hgl hcap hg0 (by omega) h0 hf


end Go.Proofs.Ytkjmnkbiflkpdaa
