/-
  impl.setSteps, impl.setMember and impl.setElement.
  impl.setElement.
-/
import Derived.Test.YthaabakpcokomaaPthG
import Derived.Test.YthaabakpcokomaaSetI
import Derived.Test.YthaabakpcokomaaBld
import Derived.Test.YthaabakpcokomaaPrtI
namespace Go.Proofs.Ythaabakpcokomaa
open Go.RowKit
set_option linter.unusedVariables false

/-- What SetPath tells of a string and the steps behind it. -/
def Pth.memOut (v : List M.Cl) (key : ByteArray) (cs x : List M.Cl) : Int × List M.Cl :=
  if (getOut v key).1 = 0 then (if (Pth.setS (getOut v key).2 cs x).1 = 0 then setOut v key (Pth.setS (getOut v key).2 cs x).2 else Pth.setS (getOut v key).2 cs x) else getOut v key
theorem Pth.mem_no {v : List M.Cl} {key : ByteArray} {cs x : List M.Cl} {R : Int × List M.Cl} (h : getOut v key = R) (hz : R.1 ≠ 0) : Pth.memOut v key cs x = R := by unfold Pth.memOut; rw [h, if_neg hz]
theorem Pth.mem_in {v : List M.Cl} {key : ByteArray} {cs x l : List M.Cl} {R : Int × List M.Cl} (h : getOut v key = (0, l)) (h2 : Pth.setS l cs x = R) (hz : R.1 ≠ 0) : Pth.memOut v key cs x = R := by unfold Pth.memOut; rw [h]; simp only [if_pos, h2]; rw [if_neg hz]
theorem Pth.mem_ok {v : List M.Cl} {key : ByteArray} {cs x l l2 : List M.Cl} (h : getOut v key = (0, l)) (h2 : Pth.setS l cs x = (0, l2)) : Pth.memOut v key cs x = setOut v key l2 := by unfold Pth.memOut; rw [h]; simp only [if_pos, h2]
/-- What was told lies behind the answer's own block: it is put there. -/
theorem Pth.ret {w W : World} {s : Value} {l : List M.Cl} (hr : Res W (w.heap.size + 1) s l) (B : Below w.heap.size w W) (x y : Value) :
    Res ((W.setCell ⟨w.heap.size, 0, none⟩ x).setCell ⟨w.heap.size, 1, none⟩ y) w.heap.size s l ∧ Below w.heap.size w ((W.setCell ⟨w.heap.size, 0, none⟩ x).setCell ⟨w.heap.size, 1, none⟩ y) := by
  have hne : ∀ b, s.ownBlock = some b → b ≠ w.heap.size := fun b h => by have := hr.base b h; omega
  exact ⟨((hr.mono (by omega)).setOther _ _ hne).setOther _ _ hne, (B.setCell (Nat.le_refl _) _).setCell (Nat.le_refl _) _⟩

end Go.Proofs.Ythaabakpcokomaa

namespace Go.Proofs.Ythaabakpcokomaa
open Go.RowKit
set_option linter.unusedVariables false
set_option linter.unusedSimpArgs false

theorem Pth.els_subs {v : List M.Cl} (hv : M.valueFault v = 0) (hk : (v.getD 0 M.zero).kind = 5 ∨ (v.getD 0 M.zero).kind = 0) : Pth.els v = subs v 0 ∧ (v.getD 0 M.zero).n = ((Pth.els v).length : Int) := by
  have hcd := Pth.cell_code hv (i := 0) (by have := (Pth.lens hv).1; omega)
  have hb := code_bd hcd
  have hsl := subs_length v 0
  unfold M.arity at hsl
  unfold Pth.els
  rcases hk with hk | hk
  · rw [if_pos hk]
    exact ⟨rfl, by rw [hsl]; omega⟩
  · have hn : (v.getD 0 M.zero).n = 0 := by
      unfold M.cellCode at hcd
      split at hcd
      · cases hcd
      split at hcd
      · cases hcd
      rename_i h2
      by_cases e : (v.getD 0 M.zero).n = 0
      · exact e
      · exact absurd (.inr (.inr ⟨e, by omega, by omega⟩)) h2
    rw [if_neg (by omega)]
    rw [hn] at hsl
    have h0 : (subs v 0).length = 0 := by simpa using hsl
    exact ⟨(List.length_eq_zero_iff.1 h0).symm, by rw [hn]; rfl⟩
/-- What SetPath tells of a number and the steps behind it. -/
def Pth.elOut (v : List M.Cl) (n : Int) (cs x : List M.Cl) : Int × List M.Cl :=
  if (v.getD 0 M.zero).kind ≠ 5 ∧ (v.getD 0 M.zero).kind ≠ 0 then (6, [])
  else if Pth.idx n (Pth.els v).length < 0 then (3, [])
  else if 200 ≤ Pth.idx n (Pth.els v).length then (2, [])
  else
    (if (Pth.setS ((Pth.pad (Pth.els v) ((Pth.idx n (Pth.els v).length).toNat + 1)).getD (Pth.idx n (Pth.els v).length).toNat []) cs x).1 = 0 then
      told (arrV ((Pth.pad (Pth.els v) ((Pth.idx n (Pth.els v).length).toNat + 1)).set (Pth.idx n (Pth.els v).length).toNat (Pth.setS ((Pth.pad (Pth.els v) ((Pth.idx n (Pth.els v).length).toNat + 1)).getD (Pth.idx n (Pth.els v).length).toNat []) cs x).2))
    else Pth.setS ((Pth.pad (Pth.els v) ((Pth.idx n (Pth.els v).length).toNat + 1)).getD (Pth.idx n (Pth.els v).length).toNat []) cs x)
theorem Pth.setS_3 {v : List M.Cl} {c : M.Cl} {cs x : List M.Cl} (h : c.kind ≠ 4) : Pth.setS v (c :: cs) x = Pth.elOut v c.num cs x := by rw [Pth.setS, if_neg h]; rfl
theorem Pth.setS_4 {v : List M.Cl} {c : M.Cl} {cs x : List M.Cl} (h : c.kind = 4) : Pth.setS v (c :: cs) x = Pth.memOut v c.text cs x := by rw [Pth.setS, if_pos h]; rfl
theorem Pth.el_kind {v : List M.Cl} {n : Int} {cs x : List M.Cl} (h5 : (v.getD 0 M.zero).kind ≠ 5) (h0 : (v.getD 0 M.zero).kind ≠ 0) : Pth.elOut v n cs x = (6, []) := if_pos ⟨h5, h0⟩
theorem Pth.el_low {v : List M.Cl} {n : Int} {cs x : List M.Cl} (hk : (v.getD 0 M.zero).kind = 5 ∨ (v.getD 0 M.zero).kind = 0) {q : Int} (hq : Pth.idx n (Pth.els v).length = q) (h : q < 0) : Pth.elOut v n cs x = (3, []) := by
  unfold Pth.elOut; rw [if_neg (by omega), hq, if_pos h]
theorem Pth.el_many {v : List M.Cl} {n : Int} {cs x : List M.Cl} (hk : (v.getD 0 M.zero).kind = 5 ∨ (v.getD 0 M.zero).kind = 0) {q : Int} (hq : Pth.idx n (Pth.els v).length = q) (h0 : ¬ q < 0) (h : 200 ≤ q) : Pth.elOut v n cs x = (2, []) := by
  unfold Pth.elOut; rw [if_neg (by omega), hq, if_neg h0, if_pos h]
theorem Pth.el_in {v : List M.Cl} {n : Int} {cs x : List M.Cl} (hk : (v.getD 0 M.zero).kind = 5 ∨ (v.getD 0 M.zero).kind = 0) {k : Nat} (hq : Pth.idx n (Pth.els v).length = (k : Int)) (h : k < 200) {R : Int × List M.Cl} (hR : Pth.setS ((Pth.pad (Pth.els v) (k + 1)).getD k []) cs x = R) : Pth.elOut v n cs x = if R.1 = 0 then told (arrV ((Pth.pad (Pth.els v) (k + 1)).set k R.2)) else R := by
  unfold Pth.elOut; rw [if_neg (by omega), hq, if_neg (by omega), if_neg (by omega), Int.toNat_natCast, hR]

theorem SS.put {w : World} {B g cap j : Nat} {ps : List (List M.Cl)} {s2 : Value} {x : List M.Cl} (h : SS w B (.slice (some ⟨g, 0, none⟩) ps.length cap) ps) (hj : j < ps.length) (hne : ∀ i, i < ps.length → ps.getD i [] ≠ []) (hr : Res w B s2 x) (hx : x ≠ []) : SS (w.setCell ⟨g, j, none⟩ s2) B (.slice (some ⟨g, 0, none⟩) ps.length cap) (ps.set j x) := by
  obtain ⟨ss, h1, h2, h3⟩ := h
  have far : ∀ (s : Value) (l : List M.Cl), Res w B s l → l ≠ [] → Res (w.setCell ⟨g, j, none⟩ s2) B s l := by
    intro s l hs hl
    refine hs.setOther _ _ (fun b hb e => ?_)
    obtain ⟨_, ⟨_, q2⟩ | ⟨c, cc, q3, q4, q5, ⟨xs, q6, _⟩⟩⟩ := hs
    · exact hl q2
    · rw [q3] at hb
      simp only [Value.ownBlock, Option.some.injEq] at hb
      have hcg : c = g := by rw [hb]; exact e
      obtain ⟨_, ⟨r2, _⟩ | ⟨g', cap', cur, r2, r4, r5, _⟩⟩ := h2
      · cases r2
      · simp only [Value.slice.injEq, Option.some.injEq, Addr.mk.injEq, and_true, true_and] at r2
        rw [← r2.1, ← hcg] at r5
        obtain ⟨c2, q7, _⟩ := q6
        rw [r5] at q7
        simp at q7
  refine ⟨ss.set j s2, by rw [List.length_set, List.length_set, h1], ?_, fun i hi => ?_⟩
  · rw [List.length_set]
    exact (h2.stored j s2).1
  · rw [List.length_set] at hi
    rw [List.getD_eq_getElem?_getD, List.getElem?_set, List.getD_eq_getElem?_getD, List.getElem?_set]
    by_cases e : j = i
    · rw [if_pos e, if_pos e, if_pos (by omega), if_pos (by omega)]
      exact far _ _ hr hx
    · rw [if_neg e, if_neg e, ← List.getD_eq_getElem?_getD, ← List.getD_eq_getElem?_getD]
      exact far _ _ (h3 i hi) (hne i hi)

end Go.Proofs.Ythaabakpcokomaa
