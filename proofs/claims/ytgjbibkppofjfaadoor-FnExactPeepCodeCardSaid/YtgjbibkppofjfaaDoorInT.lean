/-
  What the row's condition gives the walks: the program's table of shapes.
-/
import Derived.Test.YtgjbibkppofjfaaDoorInC
import Derived.Test.YtgjbibkppofjfaaDoorRows
import Derived.LaidLaws
import Derived.ChangeArms
import Derived.Lib.LaidTab
import Derived.LaidMore
namespace Go.Proofs.YtgjbibkppofjfaaDoor
open Go.RowKit
set_option linter.unusedVariables false
set_option linter.unusedSimpArgs false


namespace Ic
/-- A shape as a row lists it, and as it lies. -/
def shapeD {H : Type} (o : Nat) : DataW H := .agg [.lit (.string (Ic.word o).data.toList), .lit (.int .i64 (Ic.argK (o : Int))), .lit (.bool (Ic.holds (o : Int))), .lit (.int .i64 (Ic.takes (o : Int))), .lit (.int .i64 (Ic.lays (o : Int))), .lit (.bool (Ic.ends (o : Int)))]
def inShapeV (o : Nat) : List Value := [.string (Ic.word o), .int .i64 (Ic.argK (o : Int)), .bool (Ic.holds (o : Int)), .int .i64 (Ic.takes (o : Int)), .int .i64 (Ic.lays (o : Int)), .bool (Ic.ends (o : Int))]
theorem shapes_are : (Rows.laid_loop_example_g00166_impl_inShapes : DataW Unit) = .agg ((List.range 20).map shapeD) := by kernel_rfl
theorem cellsS : Tryd.prog.cellsOf 51 = 6 := by kernel_rfl
theorem cellsA : Tryd.prog.cellsOf 52 = 120 := by kernel_rfl
theorem cells1 : Tryd.prog.cellsOf 9 = 1 := by kernel_rfl
theorem cells2 : Tryd.prog.cellsOf 2 = 1 := by kernel_rfl
theorem cells3 : Tryd.prog.cellsOf 4 = 1 := by kernel_rfl
section
variable {enc : TypeId × Value → Unit} {w : World} {base : Nat} {sp : Nat → Bool} {held : Bool}
set_option maxRecDepth 100000 in
theorem shape_cells {fuel o : Nat} {cs : List Value} {p : List MemPlace} (h : DataW.trod enc Tryd.prog w base sp held fuel 51 cs = some (shapeD o, p)) : cs = inShapeV o := by
  obtain ⟨xs, m, _, hx, hl, hlen, hf⟩ := DataW.trod_struct Tryd.underlying51 h
  rw [cellsS] at hl
  match cs, hl, xs, hlen with
  | [c0, c1, c2, c3, c4, c5], _, [y0, y1, y2, y3, y4, y5], _ =>
    have a0 : DataW.trod enc Tryd.prog w base sp held m 9 (([c0, c1, c2, c3, c4, c5].drop 0).take (Tryd.prog.cellsOf 9)) = some y0 := hf 0 _ rfl
    rw [cells1] at a0
    have h0 : DataW.trod enc Tryd.prog w base sp held m 9 [c0] = some y0 := a0
    have a1 : DataW.trod enc Tryd.prog w base sp held m 2 (([c0, c1, c2, c3, c4, c5].drop 1).take (Tryd.prog.cellsOf 2)) = some y1 := hf 1 _ rfl
    rw [cells2] at a1
    have h1 : DataW.trod enc Tryd.prog w base sp held m 2 [c1] = some y1 := a1
    have a2 : DataW.trod enc Tryd.prog w base sp held m 4 (([c0, c1, c2, c3, c4, c5].drop 2).take (Tryd.prog.cellsOf 4)) = some y2 := hf 2 _ rfl
    rw [cells3] at a2
    have h2 : DataW.trod enc Tryd.prog w base sp held m 4 [c2] = some y2 := a2
    have a3 : DataW.trod enc Tryd.prog w base sp held m 2 (([c0, c1, c2, c3, c4, c5].drop 3).take (Tryd.prog.cellsOf 2)) = some y3 := hf 3 _ rfl
    rw [cells2] at a3
    have h3 : DataW.trod enc Tryd.prog w base sp held m 2 [c3] = some y3 := a3
    have a4 : DataW.trod enc Tryd.prog w base sp held m 2 (([c0, c1, c2, c3, c4, c5].drop 4).take (Tryd.prog.cellsOf 2)) = some y4 := hf 4 _ rfl
    rw [cells2] at a4
    have h4 : DataW.trod enc Tryd.prog w base sp held m 2 [c4] = some y4 := a4
    have a5 : DataW.trod enc Tryd.prog w base sp held m 4 (([c0, c1, c2, c3, c4, c5].drop 5).take (Tryd.prog.cellsOf 4)) = some y5 := hf 5 _ rfl
    rw [cells3] at a5
    have h5 : DataW.trod enc Tryd.prog w base sp held m 4 [c5] = some y5 := a5
    obtain ⟨n0, e0, k0, _⟩ := DataW.trod_string Tryd.underlying9 h0
    obtain ⟨n1, e1, k1, _⟩ := DataW.trod_int Tryd.underlying2 h1
    obtain ⟨n2, e2, k2⟩ := DataW.trod_bool Tryd.underlying4 h2
    obtain ⟨n3, e3, k3, _⟩ := DataW.trod_int Tryd.underlying2 h3
    obtain ⟨n4, e4, k4, _⟩ := DataW.trod_int Tryd.underlying2 h4
    obtain ⟨n5, e5, k5⟩ := DataW.trod_bool Tryd.underlying4 h5
    simp only [List.cons.injEq, and_true] at e0 e1 e2 e3 e4 e5
    subst e0 e1 e2 e3 e4 e5 k0 k1 k2 k3 k4 k5
    simp only [shapeD, List.map_cons, List.map_nil, Prod.mk.injEq, DataW.agg.injEq, List.cons.injEq, DataW.lit.injEq, Lit.string.injEq, Lit.int.injEq, Lit.bool.injEq, true_and, and_true] at hx
    obtain ⟨⟨q0, q1, q2, q3, q4, q5⟩, _⟩ := hx
    have q0 : n0 = word o := by
      have := Array.toList_inj.1 q0.symm
      cases n0; cases hw : word o; rw [hw] at this; simp only at this; rw [this]
    rw [q0, ← q1, ← q2, ← q3, ← q4, ← q5]
    rfl
set_option maxRecDepth 100000 in
theorem table_cells {fuel : Nat} {cs : List Value} {p : List MemPlace} (h : DataW.trod enc Tryd.prog w base sp held fuel 52 cs = some (.agg ((List.range 20).map shapeD), p)) : ∀ o, o < 20 → (cs.drop (o * 6)).take 6 = inShapeV o := by
  cases fuel with
  | zero => simp [DataW.trod] at h
  | succ fuel =>
    simp only [DataW.trod, Tryd.underlying52, cellsS, cellsA] at h
    split at h
    · rename_i hl
      obtain ⟨xs, hm, hx⟩ := Option.map_eq_some_iff.1 h
      have hxs : xs.map (·.1) = (List.range 20).map shapeD := by
        have := congrArg Prod.fst hx
        simpa using this
      intro o ho
      obtain ⟨b, hb, hf⟩ := Lib.mapM_at hm o o (by simp [ho])
      have h2 : (xs.map (·.1))[o]? = some b.1 := by simp [hb]
      rw [hxs, List.getElem?_map, List.getElem?_range ho] at h2
      have h3 : shapeD o = b.1 := by simpa using h2
      have hf2 : DataW.trod enc Tryd.prog w base sp held fuel 51 ((cs.drop (o * 6)).take 6) = some (shapeD o, b.2) := by rw [h3]; exact hf
      exact shape_cells hf2
    · cases h
end
theorem gSh : Tryd.prog.globalNamed "loop.example/g00166/impl.inShapes" = some 0 := by kernel_rfl
theorem gShType : (Tryd.prog.globals[0]?).map (·.type) = some 52 := by kernel_rfl
/-- The table lies as the condition says. -/
theorem shp_of {W : World} {rest : List (String × DataW Unit)} (h : laidMet Tryd.prog (("loop.example/g00166/impl.inShapes", Rows.laid_loop_example_g00166_impl_inShapes) :: rest) W) : Shp W := by
  obtain ⟨ps, ⟨g', t', cs, fuel, p, q, hg', ht', hvar, hd, _, _⟩, _⟩ := h
  obtain rfl := Option.some.inj (gSh.symm.trans hg')
  obtain rfl := Option.some.inj (gShType.symm.trans ht')
  rw [shapes_are] at hd
  have key := table_cells hd
  have cell : ∀ i, W.cell? ⟨0, i, none⟩ = cs[i]? := fun i => by
    have := World.var?_cell gSh hvar i
    simpa using this
  have at_ : ∀ o, o < 20 → ∀ j, j < 6 → W.cell? ⟨0, o * 6 + j, none⟩ = (inShapeV o)[j]? := fun o ho j hj => by
    rw [cell, ← key o ho, List.getElem?_take_of_lt hj, List.getElem?_drop, Array.getElem?_toList]
  refine ⟨?_, fun o ho => ⟨at_ o ho 0 (by omega), at_ o ho 1 (by omega), at_ o ho 2 (by omega), at_ o ho 3 (by omega), at_ o ho 4 (by omega), at_ o ho 5 (by omega)⟩⟩
  have h0 := at_ 0 (by omega) 0 (by omega)
  by_cases hlt : 0 < W.heap.size
  · exact hlt
  · have hnone : W.heap[0]? = none := Array.getElem?_eq_none (by omega)
    simp [World.cell?, hnone, inShapeV] at h0
end Ic

end Go.Proofs.YtgjbibkppofjfaaDoor
