/-
  A pass through a tree in memory: the parts that went through it already stand ahead.
-/
import Derived.Test.YtbaanpgbfncdnaaGreatQ34
namespace Go.Proofs.YtbaanpgbfncdnaaGreat
open Go.RowKit
set_option linter.unusedVariables false
set_option linter.unusedSimpArgs false
namespace Ste
theorem getD_set_same {α : Type} (l : List α) (i : Nat) (x d : α) (h : i < l.length) : (l.set i x).getD i d = x := by
  rw [List.getD_eq_getElem?_getD, List.getElem?_set_self h]; rfl
theorem getD_set_ne {α : Type} (l : List α) (i j : Nat) (x d : α) (h : i ≠ j) : (l.set i x).getD j d = l.getD j d := by
  rw [List.getD_eq_getElem?_getD, List.getElem?_set_ne h, ← List.getD_eq_getElem?_getD]
/-- Which part stands at j, when i went through the pass. -/
def cur (p : Int) (L : List Ste) (i j : Nat) : Ste := if j < i then (pass p (g L j)).1 else g L j
/-- The parts ahead of i went through the pass. -/
structure Tl (pid : Int) (w wr : World) (p : Nat) (s : Ste) (Rs0 : List (List Nat)) (r : List Nat) (i : Nat) (P : List Nat) (Rs : List (List Nat)) : Prop where
  hP : P.length = s.ks.length
  hR : Rs.length = s.ks.length
  hN : Nd wr p s.hd P r
  hS : ∀ j, j < s.ks.length → Sh wr (cur pid s.ks i j) (P.getD j 0) (Rs.getD j [])
  sub : ∀ j, j < s.ks.length → ∀ k ∈ Rs.getD j [], k ∈ Rs0.getD j []
  fr : Fr (r ++ Rs0.flatten) w wr
theorem flat_disj {r : List Nat} {Rs : List (List Nat)} (hd : (r ++ Rs.flatten).Nodup) {i j k : Nat} (hij : i ≠ j) (hi : k ∈ Rs.getD i []) (hj : k ∈ Rs.getD j []) : False := by
  have h2 := (List.nodup_append.1 hd).2.1
  have hil : i < Rs.length := by
    rcases Nat.lt_or_ge i Rs.length with q | q
    · exact q
    · rw [List.getD_eq_getElem?_getD, List.getElem?_eq_none q] at hi; cases hi
  have hjl : j < Rs.length := by
    rcases Nat.lt_or_ge j Rs.length with q | q
    · exact q
    · rw [List.getD_eq_getElem?_getD, List.getElem?_eq_none q] at hj; cases hj
  rw [List.getD_eq_getElem?_getD, List.getElem?_eq_getElem hil, Option.getD_some] at hi
  rw [List.getD_eq_getElem?_getD, List.getElem?_eq_getElem hjl, Option.getD_some] at hj
  have h3 := (List.pairwise_iff_getElem.1 (List.pairwise_flatten.1 h2).2)
  rcases Nat.lt_or_gt_of_ne hij with q | q
  · exact h3 i j hil hjl q k hi k hj rfl
  · exact h3 j i hjl hil q k hj k hi rfl
theorem row_disj {r : List Nat} {Rs : List (List Nat)} (hd : (r ++ Rs.flatten).Nodup) {i k : Nat} (hk : k ∈ r) (hi : k ∈ Rs.getD i []) : False :=
  (List.nodup_append.1 hd).2.2 k hk k (mem_flat hi) rfl
theorem Tl.start {pid : Int} {w : World} {p : Nat} {s : Ste} {P : List Nat} {Rs : List (List Nat)} {r : List Nat} (hP : P.length = s.ks.length) (hR : Rs.length = s.ks.length) (hN : Nd w p s.hd P r) (hS : ∀ i, i < s.ks.length → Sh w (g s.ks i) (P.getD i 0) (Rs.getD i [])) : Tl pid w w p s Rs r 0 P Rs :=
  ⟨hP, hR, hN, fun j hj => by unfold cur; rw [if_neg (by omega)]; exact hS j hj, fun j _ k hk => hk, Fr.refl _ _⟩
/-- A part went through, and is stored. -/
theorem Tl.step {pid : Int} {w wr w1 : World} {p : Nat} {s : Ste} {Rs0 Rs : List (List Nat)} {r P : List Nat} {i p' : Nat} {R' : List Nat} (T : Tl pid w wr p s Rs0 r i P Rs) (hd : (r ++ Rs0.flatten).Nodup) (h0 : Rs0.length = s.ks.length) (hi : i < s.ks.length) (hs : Sh w1 (pass pid (g s.ks i)).1 p' R') (hsub : ∀ k ∈ R', k ∈ Rs.getD i []) (hf : Fr (Rs.getD i []) wr w1) :
    ∃ q, r = [q] ∧ (∃ cap, w1.cell? ⟨p, 6, none⟩ = some (.slice (some ⟨q, 0, none⟩) s.ks.length cap)) ∧ (∃ u, w1.cell? ⟨q, i, none⟩ = some u) ∧ w1.frozen? ⟨q, i, none⟩ = false ∧ Tl pid w (w1.setCell ⟨q, i, none⟩ (.pointer (some ⟨p', 0, none⟩))) p s Rs0 r (i + 1) (P.set i p') (Rs.set i R') := by
  have hty : ∀ k ∈ Rs.getD i [], ∃ xs, Own wr k 57 xs := (T.hS i hi).typed
  -- the stem itself is kept
  have hrr : ∀ k ∈ r, k ∉ Rs.getD i [] := fun k hk hq => row_disj hd hk (T.sub i hi k hq)
  have N1 : Nd w1 p s.hd P r := (hf.kr (R' := r) hty hrr).nd T.hN (fun _ q => q)
  obtain ⟨a, b, c, vv, pv, o1, hv, hp⟩ := N1
  have hPl := T.hP
  rcases hp with ⟨_, e, _⟩ | ⟨q, cap, xs, e1, e2, e3, e4, e5⟩
  · rw [e] at hPl; simp at hPl; omega
  have hxl : i < xs.length := by
    have := e5 i (by omega)
    rw [List.getElem?_eq_some_iff] at this
    exact this.1
  have hq1 : ∀ j, j < s.ks.length → q ∉ Rs.getD j [] := fun j hj hk => row_disj hd (by rw [e3]; simp) (T.sub j hj q hk)
  have hpq : p ≠ q := fun e => by
    obtain ⟨c1, u1, _⟩ := o1
    obtain ⟨c2, u2, _⟩ := e4
    rw [e, u2] at u1
    simp only [Option.some.injEq, Obj.cells.injEq] at u1
    exact absurd u1.2.1 (by decide)
  have c6 := o1.cell 6
  rw [e1, hPl] at c6
  refine ⟨q, e3, ⟨cap, c6⟩, ⟨_, (e4.cell i).trans (e5 i (by omega))⟩, e4.frozen i, ⟨by rw [List.length_set]; exact hPl, by rw [List.length_set]; exact T.hR, ?_, ?_, ?_, ?_⟩⟩
  · -- the stem with its row set anew
    have hother : ∀ (k : Nat) (cc : Array Value) (t : TypeId), w1.heap[k]? = some (Obj.cells cc t (0, 0)) → t ≠ 57 → (w1.setCell ⟨q, i, none⟩ (.pointer (some ⟨p', 0, none⟩))).heap[k]? = w1.heap[k]? := fun k cc t h1 h2 => by
      refine heap_setCell_other _ ⟨q, i, none⟩ k _ (fun e => ?_)
      obtain ⟨c2, u2, _⟩ := e4
      have e : k = q := e
      rw [e, u2] at h1
      simp only [Option.some.injEq, Obj.cells.injEq] at h1
      exact h2 h1.2.1.symm
    refine ⟨a, b, c, vv, pv, o1.setOther _ _ (fun e => hpq e), ?_, .inr ⟨q, cap, xs.set i (.pointer (some ⟨p', 0, none⟩)), by rw [List.length_set]; exact e1, by rw [List.length_set]; exact e2, e3, e4.set i _, fun j hj => ?_⟩⟩
    · obtain ⟨hn, u | ⟨bb, cc, u1, u2, u3, ys, ⟨arr, v1, v2⟩, u5⟩⟩ := hv
      · exact ⟨hn, .inl u⟩
      · exact ⟨hn, .inr ⟨bb, cc, u1, u2, u3, ys, ⟨arr, (hother bb arr _ v1 (by decide)).trans v1, v2⟩, u5⟩⟩
    · rw [List.length_set] at hj
      by_cases e : i = j
      · subst e
        rw [List.getElem?_set_self hxl, getD_set_same _ _ _ _ (by omega)]
      · rw [List.getElem?_set_ne e, getD_set_ne _ _ _ _ _ e]
        exact e5 j hj
  · intro j hj
    have hset : ∀ {u : Ste} {pp : Nat} {RR : List Nat}, Sh w1 u pp RR → q ∉ RR → Sh (w1.setCell ⟨q, i, none⟩ (.pointer (some ⟨p', 0, none⟩))) u pp RR := fun hh hnq => hh.keep (fun k cc t h1 h2 => by
      refine heap_setCell_other _ ⟨q, i, none⟩ k _ (fun e => ?_)
      have e : k = q := e
      obtain ⟨c2, u2, _⟩ := e4
      rcases h2 with h2 | h2 | h2
      · rw [e, u2] at h1
        simp only [Option.some.injEq, Obj.cells.injEq] at h1
        rw [h2] at h1
        exact absurd h1.2.1 (by decide)
      · rw [e, u2] at h1
        simp only [Option.some.injEq, Obj.cells.injEq] at h1
        rw [h2] at h1
        exact absurd h1.2.1 (by decide)
      · rw [e] at h2; exact hnq h2)
    by_cases e : i = j
    · subst e
      rw [getD_set_same _ _ _ _ (by omega), getD_set_same _ _ _ _ (by have := T.hR; omega)]
      unfold cur
      rw [if_pos (by omega)]
      exact hset hs (fun hk => hq1 i hj (hsub q hk))
    · rw [getD_set_ne _ _ _ _ _ e, getD_set_ne _ _ _ _ _ e]
      have hc : cur pid s.ks (i + 1) j = cur pid s.ks i j := by
        unfold cur
        by_cases q1 : j < i
        · rw [if_pos q1, if_pos (by omega)]
        · rw [if_neg q1, if_neg (by omega)]
      rw [hc]
      exact hset ((T.hS j hj).keep (hf.kr hty (fun k hk hk2 => flat_disj hd e (T.sub i hi k hk2) (T.sub j hj k hk)))) (hq1 j hj)
  · intro j hj k hk
    by_cases e : i = j
    · subst e
      rw [getD_set_same _ _ _ _ (by have := T.hR; omega)] at hk
      exact T.sub i hj k (hsub k hk)
    · rw [getD_set_ne _ _ _ _ _ e] at hk
      exact T.sub j hj k hk
  · have f1 : Fr (r ++ Rs0.flatten) wr w1 := hf.sub (fun k hk => List.mem_append_right _ (mem_flat (T.sub i hi k hk)))
    have f2 : Fr (r ++ Rs0.flatten) w1 (w1.setCell ⟨q, i, none⟩ (.pointer (some ⟨p', 0, none⟩))) :=
      ⟨rfl, rfl, rfl, by simp, fun k _ hk => heap_setCell_other _ ⟨q, i, none⟩ k _ (fun e => hk (by have e : k = q := e; rw [e, e3]; simp))⟩
    exact (T.fr.trans f1).trans f2
/-- All parts went through. -/
theorem Tl.done {pid : Int} {w wr : World} {p : Nat} {s : Ste} {Rs0 Rs : List (List Nat)} {r P : List Nat} (T : Tl pid w wr p s Rs0 r s.ks.length P Rs) (hO : ∀ k ∈ s.ks, Ok k) (hF : Fit s.hd s.ks.length) : Rd wr p s.hd (s.ks.map fun k => (pass pid k).1) P Rs r := by
  have hl : (s.ks.map fun k => (pass pid k).1).length = s.ks.length := List.length_map _
  refine ⟨by rw [hl]; exact T.hP, by rw [hl]; exact T.hR, T.hN, fun i hi => ?_, by rw [hl]; exact hF, fun k hk => ?_⟩
  · rw [hl] at hi
    have := T.hS i hi
    unfold cur at this
    rw [if_pos hi] at this
    have e : g (s.ks.map fun k => (pass pid k).1) i = (pass pid (g s.ks i)).1 := by
      unfold g
      rw [List.getD_eq_getElem?_getD, List.getElem?_map, List.getElem?_eq_getElem hi, List.getD_eq_getElem?_getD, List.getElem?_eq_getElem hi]
      rfl
    rw [e]; exact this
  · obtain ⟨t, ht, rfl⟩ := List.mem_map.1 hk
    exact (pass_ok pid t (hO t ht)).1
/-- The stem whose parts all went through, as a tree. -/
theorem Tl.whole {pid : Int} {w wr : World} {p : Nat} {s : Ste} {Rs0 Rs : List (List Nat)} {r P : List Nat} (T : Tl pid w wr p s Rs0 r s.ks.length P Rs) (hO : ∀ k ∈ s.ks, Ok k) (hF : Fit s.hd s.ks.length) (hd : (r ++ Rs0.flatten).Nodup) (h0 : Rs0.length = s.ks.length) : Sh wr (Ste.mk s.hd (s.ks.map fun k => (pass pid k).1)) p (r ++ Rs.flatten) ∧ ∀ k ∈ Rs.flatten, k ∈ Rs0.flatten := by
  have D := T.done hO hF
  have hl : (s.ks.map fun k => (pass pid k).1).length = s.ks.length := List.length_map _
  have h3 : (s.ks.map fun k => (pass pid k).1).length ≤ 3 := by rw [hl]; exact ks_le s
  have hsubf : ∀ k ∈ Rs.flatten, k ∈ Rs0.flatten := fun k hk => by
    obtain ⟨l, hl2, hkl⟩ := List.mem_flatten.1 hk
    obtain ⟨i, hi, e⟩ := List.mem_iff_getElem.1 hl2
    have hi2 : i < s.ks.length := by have := T.hR; omega
    exact mem_flat (T.sub i hi2 k (by rw [List.getD_eq_getElem?_getD, List.getElem?_eq_getElem hi, Option.getD_some, e]; exact hkl))
  refine ⟨.mk (P := P) (Rs := Rs) (r := r) (by rw [ks_mk _ _ h3]; exact D.hP) (by rw [ks_mk _ _ h3]; exact D.hR) (by rw [hd_mk]; exact D.hN) (by rw [ks_mk _ _ h3]; exact D.hS) rfl ?_, hsubf⟩
  obtain ⟨n1, n2, n3⟩ := List.nodup_append.1 hd
  refine List.nodup_append.2 ⟨n1, List.pairwise_flatten.2 ⟨fun l hl2 => ?_, List.pairwise_iff_getElem.2 fun i j hi hj hij k hk1 k2 hk2 e => ?_⟩, fun a ha b hb => n3 a ha b (hsubf b hb)⟩
  · obtain ⟨i, hi, e⟩ := List.mem_iff_getElem.1 hl2
    have := (T.hS i (by have := T.hR; omega)).nodup
    rw [List.getD_eq_getElem?_getD, List.getElem?_eq_getElem hi, Option.getD_some, e] at this
    exact this
  · subst e
    have q1 := T.sub i (by have := T.hR; omega) k (by rw [List.getD_eq_getElem?_getD, List.getElem?_eq_getElem hi]; exact hk1)
    have q2 := T.sub j (by have := T.hR; omega) k (by rw [List.getD_eq_getElem?_getD, List.getElem?_eq_getElem hj]; exact hk2)
    exact flat_disj hd (by omega) q1 q2
end Ste
end Go.Proofs.YtbaanpgbfncdnaaGreat
