/-
  Bytes that are appended to; what the laws over drawn values call; values have one order.
-/
import Derived.Test.YthbiclpifeobkaaQ43
import Derived.Test.YthbiclpifeobkaaQ49
import Derived.Test.YthbiclpifeobkaaQ50
import Derived.Laws.AppendOwnNone
namespace Go.Proofs.Ythbiclpifeobkaa
open Go.RowKit Go.ChangeShapes Go.WideShapes
set_option linter.unusedVariables false
set_option linter.unusedSimpArgs false

/-- What the walks are told of a slice of bytes that is appended. -/
def BytR (w : World) (a : Option Addr) (len cap : Nat) : Prop := Byts w a len cap ∧ (a = none → cap = 0)
theorem BytR.below {w w' : World} {a : Option Addr} {len cap : Nat} (h : BytR w a len cap) (hb : Below w.heap.size w w') : BytR w' a len cap :=
  ⟨⟨h.1.1, fun i hi => by
    obtain ⟨b, off, c, h1, h2, h3, h4⟩ := h.1.2 i hi
    refine ⟨b, off, c, h1, Nat.lt_of_lt_of_le h2 hb.size, h3, ?_⟩
    rw [← h4]
    exact World.cell?_of_block (hb.block b h2)⟩, h.2⟩
section
variable {H : Type} {enc : TypeId × Value → H} {w : World} {base : Nat} {spare : Nat → Bool} {held : Bool}
theorem open_bytR {a : Option Addr} {len cap fuel : Nat} {x : DataW H × List MemPlace} (h : DataW.trod enc Try.prog w base spare held fuel 22 [.slice a len cap] = some x) : BytR w a len cap := by
  refine ⟨open_byts h, fun ha => ?_⟩
  rcases Go.Deep.open_slice Try.underlying22 h with ⟨hcs, _⟩ | ⟨ad, len', cap', m, n, D, Pl, hcs, _⟩
  · simp only [List.cons.injEq, Value.slice.injEq, and_true] at hcs
    exact hcs.2.2
  · simp only [List.cons.injEq, Value.slice.injEq, and_true] at hcs
    rw [hcs.1] at ha
    cases ha
end
theorem infoByte : (Try.prog.info? 5).map (fun i => (i.zero, i.size, i.bytes)) = some (some (.int .u8 0), 1, 1) := by kernel_rfl
/-- Bytes are appended to a row of the call's own. -/
theorem append_byts {P : Program} {w : World} {ops : Array Oper} {rest : List Oper} {o : Oper} {a : Act} {Q : Exit → Act → World → Prop} (hgd : o.guard = none) (s x : Operand) (t : TypeId)
    (ho : o.op = .call { callee := .builtin .append, args := #[s, x], argTypes := #[t, t] })
    (base : Nat) (e : TypeId) (i : TypeInfo) (z : Value) (bytes : Nat) (ht : P.underlying t = some (.slice e)) (hi : P.info? e = some i) (hz : i.zero = some z)
    (hsize : i.size = 1) (hby : i.bytes = bytes) (hzs : z.cells.size = 1)
    (v : Value) (n : Nat) (xs : List Value) (hs : a.eval s = v) (hown : w.ownsRow base e 1 v n xs) (hv : v ≠ .slice none 0 0)
    (ad : Option Addr) (m c : Nat) (hx : a.eval x = .slice ad m c) (hB : BytR w ad m c)
    (h63 : n + m ≤ maxLen) (hbytes : (n + m) * bytes ≤ 140737488355328) (hbase : base ≤ w.heap.size)
    (h : ∀ v' w' ys, (∀ u ∈ ys, ∃ k : Nat, k ≤ 255 ∧ u = .int .u8 k) → w'.ownsRow base e 1 v' (n + m) (xs ++ ys) → w.grownBy w' v.ownBlock → v' ≠ .slice none 0 0 → wpList P ops Q rest (a.put o.dst v') w') : wpList P ops Q (o :: rest) a w := by
  cases ad with
  | none =>
    have hc := hB.2 rfl
    have hm : m = 0 := by have := hB.1.1; omega
    subst hc
    subst hm
    exact wpList_append_own_none hgd s x t ho base e i 1 ht hi v n xs hs hown hx (h v w [] (fun u hu => by cases hu) (by simpa using hown) ⟨rfl, rfl, rfl, Nat.le_refl _, fun _ _ _ => rfl⟩ hv)
  | some ad =>
    have hget : ∀ j, j < m → ∃ k : Nat, k ≤ 255 ∧ w.cell? (ad.add j) = some (.int .u8 (k : Int)) := by
      intro j hj
      obtain ⟨b, off, k, h1, _, h3, h4⟩ := hB.1.2 j hj
      cases h1
      rw [add_plain]
      exact ⟨k, h3, h4⟩
    have hnew : ∀ j u, ((List.range m).map fun j => (w.cell? (ad.add j)).getD (.bool false))[j]? = some u → ∃ k : Nat, k ≤ 255 ∧ u = .int .u8 (k : Int) ∧ w.cell? (ad.add j) = some u := by
      intro j u hu
      obtain ⟨hj, hu⟩ := List.getElem?_eq_some_iff.1 hu
      have hjm : j < m := by simpa using hj
      obtain ⟨k, hk, hck⟩ := hget j hjm
      simp [hck] at hu
      exact ⟨k, hk, hu.symm, by rw [hck, hu]⟩
    have hmem : ∀ u ∈ (List.range m).map fun j => (w.cell? (ad.add j)).getD (.bool false), ∃ k : Nat, k ≤ 255 ∧ u = .int .u8 (k : Int) := by
      intro u hu
      obtain ⟨j, hj⟩ := List.getElem?_of_mem hu
      obtain ⟨k, h1, h2, _⟩ := hnew j u hj
      exact ⟨k, h1, h2⟩
    refine wpList_append_own w hgd s x t ho base e i z 1 bytes ht hi hz hsize hby hzs (by decide) v n xs hs hown ad m c ((List.range m).map fun j => (w.cell? (ad.add j)).getD (.bool false)) hx (by simp) (fun j u hu => (hnew j u hu).elim fun _ q => q.2.2) (fun u hu => by obtain ⟨k, _, rfl⟩ := hmem u hu; rfl) h63 hbytes hbase ?_
    intro v' w' q1 q2 q3
    exact h v' w' _ hmem q1 q2 (fun e => hv (q3.1 e).1)
/-- A row of bytes of the call's own, as an argument. -/
theorem byts_of_own {w : World} {base n : Nat} {e : TypeId} {v : Value} {xs : List Value} (h : w.ownsRow base e 1 v n xs) (hu : ∀ u ∈ xs, ∃ k : Nat, k ≤ 255 ∧ u = .int .u8 k) (hne : v ≠ .slice none 0 0) : ∃ g cap, v = .slice (some ⟨g, 0, none⟩) n cap ∧ Byts w (some ⟨g, 0, none⟩) n cap := by
  have h' := h
  obtain ⟨hl, ⟨h1, _⟩ | ⟨g, cap, cur, rfl, hg, hh, hnc, _⟩⟩ := h
  · exact absurd h1 hne
  refine ⟨g, cap, rfl, hnc, fun i hi => ?_⟩
  have hi' : i < xs.length := by omega
  obtain ⟨k, hk, hke⟩ := hu xs[i] (List.getElem_mem hi')
  refine ⟨g, 0, k, rfl, (Array.getElem?_eq_some_iff.1 hh).1, hk, ?_⟩
  rw [Nat.zero_add, h'.cellAt i (by omega), List.getElem?_eq_getElem hi', hke]
namespace Dv
section
variable {W V : World} {B B' : Nat} {s s' : Value} {l l' : List M.Cl}
theorem spf (G : Got W B s l) (hV : Below W.heap.size W V) {q : Int} (hq : M.valueFault l = q) : Calls Try.prog 11 #[s] V fun e V' => e = .returned (.int .i64 q) ∧ Below W.heap.size W V' := by
  subst hq
  obtain ⟨g, gc, rfl, hg, hc, hr⟩ := G.at
  exact (specFault_any l g 0 gc V (hr.below hV hg) (Nat.lt_of_lt_of_le hg hV.size) (by have := G.2.2.1; omega) hc G.2.2.2).mono fun e V' h => ⟨h.1, hV.trans (h.2.mono hV.size)⟩
theorem imf (G : Got W B s l) (hV : Below W.heap.size W V) {q : Int} (hq : M.valueFault l = q) : Calls Try.prog 12 #[s] V fun e V' => e = .returned (.int .i64 q) ∧ Below W.heap.size W V' := by
  subst hq
  obtain ⟨g, gc, rfl, hg, hc, hr⟩ := G.at
  exact (implFault_any l g 0 gc V (hr.below hV hg) (Nat.lt_of_lt_of_le hg hV.size) (by have := G.2.2.1; omega) hc G.2.2.2).mono fun e V' h => ⟨h.1, hV.trans (h.2.mono hV.size)⟩
theorem imc (G : Got W B s l) (G' : Got W B' s' l') (hV : Below W.heap.size W V) {q : Int} (hq : cmpOut l l' = q) : Calls Try.prog 13 #[s, s'] V fun e V' => e = .returned (.int .i64 q) ∧ Below W.heap.size W V' := by
  subst hq
  obtain ⟨g, gc, rfl, hg, hc, hr⟩ := G.at
  obtain ⟨g', gc', rfl, hg', hc', hr'⟩ := G'.at
  exact (implCompare_any l l' g 0 gc g' 0 gc' V (hr.below hV hg) (Nat.lt_of_lt_of_le hg hV.size) (by have := G.2.2.1; omega) hc G.2.2.2 (hr'.below hV hg') (Nat.lt_of_lt_of_le hg' hV.size) (by have := G'.2.2.1; omega) hc' G'.2.2.2).mono fun e V' h => ⟨h.1, hV.trans (h.2.mono hV.size)⟩
theorem ims (G : Got W B s l) (G' : Got W B' s' l') (hV : Below W.heap.size W V) {q : Bool} (hq : sameOut l l' = q) : Calls Try.prog 14 #[s, s'] V fun e V' => e = .returned (.bool q) ∧ Below W.heap.size W V' := by
  subst hq
  obtain ⟨g, gc, rfl, hg, hc, hr⟩ := G.at
  obtain ⟨g', gc', rfl, hg', hc', hr'⟩ := G'.at
  exact (implSame_any l l' g 0 gc g' 0 gc' V (hr.below hV hg) (Nat.lt_of_lt_of_le hg hV.size) (by have := G.2.2.1; omega) hc G.2.2.2 (hr'.below hV hg') (Nat.lt_of_lt_of_le hg' hV.size) (by have := G'.2.2.1; omega) hc' G'.2.2.2).mono fun e V' h => ⟨h.1, hV.trans (h.2.mono hV.size)⟩
end
end Dv
namespace Od
def Lo1 (x : Int) : Prop := -1 ≤ x ∧ x ≤ 1
theorem lex_b1 {α : Type} {c : α → α → Int} (h : ∀ a b, Lo1 (c a b)) : ∀ A C : List α, Lo1 (lex c A C)
  | [], [] => by unfold lex Lo1; omega
  | [], _ :: _ => by unfold lex Lo1; omega
  | _ :: _, [] => by unfold lex Lo1; omega
  | x :: xs, y :: ys => by
    rw [lex]
    split
    · exact h x y
    · exact lex_b1 h xs ys
theorem sgn_b1 (a b : Int) : Lo1 (sgn a b) := by unfold sgn Lo1; split <;> (try split) <;> omega
theorem cmpK_b1 (a b : ByteArray) : Lo1 (cmpK a b) := by unfold cmpK Lo1; split <;> (try split) <;> omega
theorem cmpL_b1 : ∀ (f : Nat) (P Q : List M.Cl), Lo1 (cmpL f P Q) := by
  intro f
  induction f with
  | zero => intro P Q; unfold cmpL Lo1; omega
  | succ f ih =>
    intro P Q
    rw [cmpL_step]
    split
    · exact sgn_b1 _ _
    split
    · exact sgn_b1 _ _
    split
    · exact cmpK_b1 _ _
    split
    · exact lex_b1 ih _ _
    split
    · split
      · exact lex_b1 cmpK_b1 _ _
      · exact lex_b1 ih _ _
    · exact ⟨by decide, by decide⟩
variable {A C D : List M.Cl}
theorem out_eq (hA : M.valueFault A = 0) (hC : M.valueFault C = 0) {f : Nat} (hf : A.length ≤ f) : cmpOut A C = cmpL f A C := by
  unfold cmpOut
  rw [if_pos ⟨hA, hC⟩]
  exact cmpL_fuel _ _ _ _ hA (Nat.le_refl _) hf
theorem out_b1 (A C : List M.Cl) : Lo1 (cmpOut A C) := by
  unfold cmpOut
  split
  · exact cmpL_b1 _ _ _
  · exact ⟨by decide, by decide⟩
theorem out_three (A C : List M.Cl) : cmpOut A C = -1 ∨ cmpOut A C = 0 ∨ cmpOut A C = 1 := by
  have h := out_b1 A C
  unfold Lo1 at h
  omega
theorem out_neg (hA : M.valueFault A = 0) (hC : M.valueFault C = 0) : cmpOut C A = - cmpOut A C := by
  rw [out_eq hA hC (f := A.length + C.length) (by omega), out_eq hC hA (f := A.length + C.length) (by omega)]
  exact cmpL_neg _ _ _ hC hA (by omega) (by omega)
theorem out_self (hA : M.valueFault A = 0) : cmpOut A A = 0 := by
  have := out_neg hA hA
  omega
theorem out_TT (hA : M.valueFault A = 0) (hC : M.valueFault C = 0) (hD : M.valueFault D = 0) (h1 : cmpOut A C ≤ 0) (h2 : cmpOut C D ≤ 0) : cmpOut A D ≤ 0 := by
  rw [out_eq hA hC (f := A.length + C.length + D.length) (by omega)] at h1
  rw [out_eq hC hD (f := A.length + C.length + D.length) (by omega)] at h2
  rw [out_eq hA hD (f := A.length + C.length + D.length) (by omega)]
  exact (cmpL_TT _ _ _ _ hA hC hD (by omega) (by omega) (by omega) h1 h2).1
theorem same_eq (hA : M.valueFault A = 0) (hC : M.valueFault C = 0) : sameOut A C = (cmpOut A C == 0) := by
  unfold sameOut cmpOut
  rw [if_pos ⟨hA, hC⟩]
  by_cases h : cmpL A.length A C = 0
  · simp [hA, hC, h]
  · simp [hA, hC, h]
end Od

end Go.Proofs.Ythbiclpifeobkaa
