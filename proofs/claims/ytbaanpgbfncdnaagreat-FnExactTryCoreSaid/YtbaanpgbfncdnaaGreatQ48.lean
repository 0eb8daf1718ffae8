/-
  spec.l10One: what comes in place of a node, by the pass.
  spec.l10Go: how the work lies, what is kept, what was gone through so far.
-/
import Derived.Test.YtbaanpgbfncdnaaGreatQ21
import Derived.Test.YtbaanpgbfncdnaaGreatQ38
import Derived.Test.YtbaanpgbfncdnaaGreatQ46
import Derived.Test.YtbaanpgbfncdnaaGreatQ47
namespace Go.Proofs.YtbaanpgbfncdnaaGreat
open Go.RowKit
set_option linter.unusedVariables false
set_option linter.unusedSimpArgs false

/-- What l10One tells at the pass p. -/
def Ste.OneSays (p : Int) : Prop := ∀ (h : Hd) (va : Option Addr) (vn vc q cap : Nat) (L : List Ste) (w : World), Ste.Ps w q h L → 0 < L.length → Res w 0 (.slice va vn vc) h.val →
    Calls Tryz.prog 68 #[.int .i64 p, .agg #[.int .i64 h.op, .int .i64 0, .int .i64 0, .int .i64 0, .int .i64 h.num, .slice va vn vc], .slice (some ⟨q, 0, none⟩) L.length cap] w (Ste.Ons w (Ste.one p h L))
set_option maxRecDepth 100000 in
set_option maxHeartbeats 4000000 in
theorem specl10One_3 : Ste.OneSays 3 := by
  intro h va vn vc q cap L w H hL hr
  obtain ⟨w0, hw0⟩ : ∃ w0, w0 = w.alloc (.cells #[.int .i64 h.op, .int .i64 0, .int .i64 0, .int .i64 0, .int .i64 h.num, .slice va vn vc] 47) := ⟨_, rfl⟩
  have B0 : Below w.heap.size w w0 := by rw [hw0]; exact (Below.refl _ _).alloc (Nat.le_refl _) _
  have O0 : Own w0 w.heap.size 47 [.int .i64 h.op, .int .i64 0, .int .i64 0, .int .i64 0, .int .i64 h.num, .slice va vn vc] := by rw [hw0]; exact ⟨_, heap_alloc_new _ _, rfl⟩
  obtain ⟨c0, c1, c2, c3, c4, c5⟩ := Ste.six_co O0
  have HC := hide (specl10Dead_any h 0 0 0 va vn vc q cap L w0 (H.below B0) hL)
  have FIN := hide (show Ste.one 3 h L = Ste.dead h L from rfl)
  rw [unhide FIN]
  generalize Ste.dead h L = o at *
  clear O0 H FIN
  go_enter Tryz.func68, Tryz.ntmps68
  go_upto_region 1 with fail
  rw [← hw0]
  clear hw0
  go_wp2_with fail
  refine (unhide HC).mono ?_
  rintro e w1 hons
  have HO := hide (hons.ahead B0)
  obtain ⟨mv, rfl, _, _, za, zn, zc, rfl⟩ := hons
  clear HC
  go_wp2_with fail
  ((try simp only [Exit.inBlock, Exit.then]); refine bodyPost_ret (results_tmp2 rfl _ _ _) rfl ?_)
  exact unhide HO
set_option maxRecDepth 100000 in
set_option maxHeartbeats 4000000 in
theorem specl10One_4 : Ste.OneSays 4 := by
  intro h va vn vc q cap L w H hL hr
  obtain ⟨w0, hw0⟩ : ∃ w0, w0 = w.alloc (.cells #[.int .i64 h.op, .int .i64 0, .int .i64 0, .int .i64 0, .int .i64 h.num, .slice va vn vc] 47) := ⟨_, rfl⟩
  have B0 : Below w.heap.size w w0 := by rw [hw0]; exact (Below.refl _ _).alloc (Nat.le_refl _) _
  have O0 : Own w0 w.heap.size 47 [.int .i64 h.op, .int .i64 0, .int .i64 0, .int .i64 0, .int .i64 h.num, .slice va vn vc] := by rw [hw0]; exact ⟨_, heap_alloc_new _ _, rfl⟩
  obtain ⟨c0, c1, c2, c3, c4, c5⟩ := Ste.six_co O0
  have HC := hide (specl10Try_any h 0 0 0 va vn vc q cap L w0 (H.below B0))
  have FIN := hide (show Ste.one 4 h L = Ste.tried h L from rfl)
  rw [unhide FIN]
  generalize Ste.tried h L = o at *
  clear O0 H FIN
  go_enter Tryz.func68, Tryz.ntmps68
  go_upto_region 1 with fail
  rw [← hw0]
  clear hw0
  go_wp2_with fail
  refine (unhide HC).mono ?_
  rintro e w1 hons
  have HO := hide (hons.ahead B0)
  obtain ⟨mv, rfl, _, _, za, zn, zc, rfl⟩ := hons
  clear HC
  go_wp2_with fail
  ((try simp only [Exit.inBlock, Exit.then]); refine bodyPost_ret (results_tmp2 rfl _ _ _) rfl ?_)
  exact unhide HO

end Go.Proofs.YtbaanpgbfncdnaaGreat

namespace Go.Proofs.YtbaanpgbfncdnaaGreat
open Go.RowKit
set_option linter.unusedVariables false
set_option linter.unusedSimpArgs false
namespace Ste
/-- A core that is gone through: its nodes, its values. -/
structure Cc (w : World) (b : Nat) (l : List Co) : Prop where
  own : ∃ xs, Own w b 47 xs
  at' : ∀ k, k < l.length → w.cell? ⟨b, k * 6, none⟩ = some (.int .i64 (l.getD k Co.zero).op) ∧ w.cell? ⟨b, k * 6 + 1, none⟩ = some (.int .i64 (l.getD k Co.zero).a) ∧ w.cell? ⟨b, k * 6 + 2, none⟩ = some (.int .i64 (l.getD k Co.zero).b) ∧ w.cell? ⟨b, k * 6 + 3, none⟩ = some (.int .i64 (l.getD k Co.zero).c) ∧ w.cell? ⟨b, k * 6 + 4, none⟩ = some (.int .i64 (l.getD k Co.zero).num) ∧ ∃ g, w.cell? ⟨b, k * 6 + 5, none⟩ = some (.slice (some ⟨g, 0, none⟩) (l.getD k Co.zero).val.length (l.getD k Co.zero).val.length) ∧ Res w 0 (.slice (some ⟨g, 0, none⟩) (l.getD k Co.zero).val.length (l.getD k Co.zero).val.length) (l.getD k Co.zero).val
theorem Cc.of {w : World} {b E : Nat} {l : List Co} (h : Co.LaidRow w b E l) (hf : Co.fault l = 0) : Cc w b l := ⟨by obtain ⟨xs, o, _⟩ := h; exact ⟨xs, o⟩, fun k hk => core_cells h hf hk⟩
/-- All blocks that were there but P are kept. -/
def Gf (P : Nat) (w w' : World) : Prop := But w.heap.size P w w'
theorem Gf.refl (P : Nat) (w : World) : Gf P w w := But.refl _ _ _
theorem Gf.trans {P : Nat} {w w1 w2 : World} (h : Gf P w w1) (k : Gf P w1 w2) : Gf P w w2 :=
  ⟨k.os.trans h.os, k.tape.trans h.tape, k.output.trans h.output, Nat.le_trans h.size k.size, fun i h1 h2 => (k.block i (Nat.lt_of_lt_of_le h1 h.size) h2).trans (h.block i h1 h2)⟩
theorem Gf.of {P : Nat} {w w' : World} (h : Below w.heap.size w w') : Gf P w w' := But.ofBelow h
theorem Gf.keep {P : Nat} {w w' : World} (h : Gf P w w') {ys : List Value} (hP : Own w P 65 ys) {k : Nat} {c : Array Value} {t : TypeId} (hk : w.heap[k]? = some (Obj.cells c t (0, 0))) (ht : t ≠ 65) : w'.heap[k]? = w.heap[k]? := by
  refine h.block k (Array.getElem?_eq_some_iff.1 hk).1 (fun e => ?_)
  subst e
  obtain ⟨c', q, _⟩ := hP
  rw [hk] at q
  simp only [Option.some.injEq, Obj.cells.injEq] at q
  exact ht q.2.1
theorem Gf.own {P : Nat} {w w' : World} (h : Gf P w w') {ys : List Value} (hP : Own w P 65 ys) {k : Nat} {t : TypeId} {xs : List Value} (ho : Own w k t xs) (ht : t ≠ 65) : Own w' k t xs := by
  obtain ⟨c, q1, q2⟩ := ho
  exact ⟨c, (h.keep hP q1 ht).trans q1, q2⟩
theorem Gf.pt {P : Nat} {w w' : World} (h : Gf P w w') {ys : List Value} (hP : Own w P 65 ys) {v : Value} {s : Ste} (hp : Pt w v s) : Pt w' v s := hp.keep fun k c t h1 h2 => h.keep hP h1 (by rcases h2 with e | e <;> rw [e] <;> decide)
theorem Gf.res {P : Nat} {w w' : World} (h : Gf P w w') {ys : List Value} (hP : Own w P 65 ys) {B : Nat} {v : Value} {s : List M.Cl} (hp : Res w B v s) : Res w' B v s := Lw.res_keep hp fun b hb => by
  obtain ⟨c, q⟩ := Lw.res_typed hp hb
  exact h.keep hP q (by decide)
theorem Gf.row {P : Nat} {w w' : World} (h : Gf P w w') {ys : List Value} (hP : Own w P 65 ys) {B k n : Nat} {t : TypeId} {v : Value} {xs : List Value} (hp : w.ownsRow B t k v n xs) (ht : t ≠ 65) : w'.ownsRow B t k v n xs := owns_keep hp fun b hb => by
  obtain ⟨_, c, q⟩ := owns_typed hp hb
  exact h.keep hP q ht
theorem Cc.keepT {w w' : World} {b : Nat} {l : List Co} (H : Cc w b l) (hk : ∀ (k : Nat) (c : Array Value) (t : TypeId), w.heap[k]? = some (Obj.cells c t (0, 0)) → t = 47 ∨ t = 71 → w'.heap[k]? = w.heap[k]?) : Cc w' b l := by
  obtain ⟨xs, ho⟩ := H.own
  have hb : ∀ j, w'.cell? ⟨b, j, none⟩ = w.cell? ⟨b, j, none⟩ := fun j => by
    obtain ⟨c, q, _⟩ := ho
    simp only [World.cell?, hk b c _ q (.inl rfl)]
  refine ⟨⟨xs, ?_⟩, fun k hkl => ?_⟩
  · obtain ⟨c, q1, q2⟩ := ho
    exact ⟨c, (hk b c _ q1 (.inl rfl)).trans q1, q2⟩
  obtain ⟨c0, c1, c2, c3, c4, g, c5, hr⟩ := H.at' k hkl
  exact ⟨(hb _).trans c0, (hb _).trans c1, (hb _).trans c2, (hb _).trans c3, (hb _).trans c4, g, (hb _).trans c5, Lw.res_keep hr fun b' hb' => by
    obtain ⟨c, q⟩ := Lw.res_typed hr hb'
    exact hk b' c _ q (.inr rfl)⟩
theorem Cc.keep {w w' : World} {b : Nat} {l : List Co} (H : Cc w b l) {P : Nat} (h : Gf P w w') {ys : List Value} (hP : Own w P 65 ys) : Cc w' b l := H.keepT fun k c t q1 q2 => h.keep hP q1 (by rcases q2 with e | e <;> rw [e] <;> decide)
theorem Cc.below {w w' : World} {b : Nat} {l : List Co} (H : Cc w b l) (h : Below w.heap.size w w') : Cc w' b l := H.keepT fun k c t q1 _ => h.block k (Array.getElem?_eq_some_iff.1 q1).1
/-- The m-th part that a node names, as l6Kid tells it. -/
theorem kid_is {l : List Co} (hf : Tr.Fine (Co.tree l)) {k m : Nat} (hk : k < l.length) (hm : m < (lks (l.getD k Co.zero)).length) : Tr.kidAt (Co.nd (l.getD k Co.zero)) m = ((lks (l.getD k Co.zero)).getD m 0 : Int) := by
  have h := link_at hf hk hm
  have hl := lks_len (l.getD k Co.zero)
  have h3 := Co.kids_le (l.getD k Co.zero).op
  have : m = 0 ∨ m = 1 ∨ m = 2 := by omega
  rcases this with rfl | rfl | rfl
  · simpa [Tr.kidAt, Co.nd] using h
  · simpa [Tr.kidAt, Co.nd] using h
  · simpa [Tr.kidAt, Co.nd] using h
theorem nat_mem {K : List Nat} {m : Nat} (hm : m < K.length) : K.getD m 0 ∈ K := by
  rw [List.getD_eq_getElem?_getD, List.getElem?_eq_getElem hm]
  exact List.getElem_mem hm
theorem kid_mem {l : List Co} {k m : Nat} (hm : m < (lks (l.getD k Co.zero)).length) : (lks (l.getD k Co.zero)).getD m 0 ∈ lks (l.getD k Co.zero) := nat_mem hm
/-- What was gone through so far: the first j parts. -/
structure Gl (p : Int) (b P nb B : Nat) (l : List Co) (K : List Nat) (d : Nat) (w wr : World) (ns : List Value) (j : Nat) (v : Value) (vs : List Value) : Prop where
  row : wr.ownsRow B 24 1 v j vs
  non : ∃ q cap, v = .slice (some ⟨q, 0, none⟩) j cap
  pts : ∀ t, t < j → Pt wr (vs.getD t .nilFunc) (pass p (tre l (K.getD t 0))).1
  wk : Own wr P 65 [.slice (some ⟨b, 0, none⟩) l.length l.length, .slice none 0 0, .int .i64 p, .int .i64 ((d + didL p ((K.map (tre l)).take j) : Nat) : Int)]
  nd : Own wr nb 47 ns
  fr : Gf P w wr
  cc : Cc wr b l
/-- The next part was gone through. -/
theorem Gl.step {p : Int} {b P nb B : Nat} {l : List Co} {K : List Nat} {d : Nat} {w wr w1 w2 wA : World} {ns : List Value} {j : Nat} {v v' x : Value} {vs : List Value}
    (G : Gl p b P nb B l K d w wr ns j v vs) (hj : j < K.length) (h1 : Below wr.heap.size wr w1) (h2 : Gf P w1 w2)
    (hx : Pt w2 x (pass p (tre l (K.getD j 0))).1) (hw : Own w2 P 65 [.slice (some ⟨b, 0, none⟩) l.length l.length, .slice none 0 0, .int .i64 p, .int .i64 (((d + didL p ((K.map (tre l)).take j)) + (pass p (tre l (K.getD j 0))).2 : Nat) : Int)])
    (W : World) (hW : Below w2.heap.size w2 W) (ho : wA.ownsRow B 24 1 v' (j + 1) (vs ++ [x])) (hg : W.grownBy wA v.ownBlock) (hBw : w.heap.size ≤ B) : Gl p b P nb B l K d w wA ns (j + 1) v' (vs ++ [x]) := by
  have g1 : Gf P wr w1 := Gf.of h1
  have g2 : Gf P wr w2 := g1.trans h2
  have g3 : Gf P wr W := g2.trans (Gf.of hW)
  have rW : W.ownsRow B 24 1 v j vs := g3.row G.wk G.row (by decide)
  have gA : ∀ k c t, W.heap[k]? = some (Obj.cells c t (0, 0)) → t ≠ 24 → wA.heap[k]? = W.heap[k]? := fun k c t hk ht => hg.block k (Array.getElem?_eq_some_iff.1 hk).1 (fun e => by
    obtain ⟨_, c', q⟩ := owns_typed rW e.symm
    rw [hk] at q
    simp only [Option.some.injEq, Obj.cells.injEq] at q
    exact ht q.2.1)
  have oA : ∀ {k : Nat} {t : TypeId} {xs : List Value}, Own W k t xs → t ≠ 24 → Own wA k t xs := fun ho ht => by
    obtain ⟨c, q1, q2⟩ := ho
    exact ⟨c, (gA _ c _ q1 ht).trans q1, q2⟩
  have pA : ∀ {u : Value} {s : Ste}, Pt W u s → Pt wA u s := fun hp => hp.keep fun k c t q1 q2 => gA k c t q1 (by rcases q2 with e | e <;> rw [e] <;> decide)
  have hvl : vs.length = j := by have := G.row.1; omega
  refine ⟨ho, ?_, fun t ht => ?_, ?_, oA (g3.own G.wk G.nd (by decide)) (by decide), ?_, ?_⟩
  · obtain ⟨g, cap, e, _⟩ := owns_at ho (by omega)
    exact ⟨g, cap, e⟩
  · by_cases e : t < j
    · rw [List.getD_eq_getElem?_getD, List.getElem?_append_left (by omega), ← List.getD_eq_getElem?_getD]
      exact pA (g3.pt G.wk (G.pts t e))
    · have e2 : t = j := by omega
      subst e2
      rw [List.getD_eq_getElem?_getD, List.getElem?_append_right (by omega), hvl, Nat.sub_self]
      exact pA (hx.below hW)
  · have hK : j < (K.map (tre l)).length := by rw [List.length_map]; exact hj
    rw [didL_take_succ p _ j hK, ← Nat.add_assoc]
    have e : (K.map (tre l)).getD j z = tre l (K.getD j 0) := by
      rw [List.getD_eq_getElem?_getD, List.getD_eq_getElem?_getD, List.getElem?_map, List.getElem?_eq_getElem hj]; rfl
    rw [e]
    exact oA (hw.below hW hw.lt) (by decide)
  · exact ⟨hg.os.trans (g3.os.trans G.fr.os), hg.tape.trans (g3.tape.trans G.fr.tape), hg.output.trans (g3.output.trans G.fr.output), Nat.le_trans G.fr.size (Nat.le_trans g3.size hg.size), fun k hk hne => (hg.block k (Nat.lt_of_lt_of_le hk (Nat.le_trans G.fr.size g3.size)) (fun e => by have := (owns_typed rW e.symm).1; omega)).trans ((g3.block k (Nat.lt_of_lt_of_le hk G.fr.size) hne).trans (G.fr.block k hk hne))⟩
  · exact (G.cc.keep g3 G.wk).keepT fun k c t q1 q2 => gA k c t q1 (by rcases q2 with e | e <;> rw [e] <;> decide)
end Ste
end Go.Proofs.YtbaanpgbfncdnaaGreat
