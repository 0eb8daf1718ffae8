/-
  A slice of instructions that came in as an argument; laws.sz.., to.., eq.. over it.
-/
import Derived.Test.YtodpmonbfecfdaaInM
import Derived.Test.YtodpmonbfecfdaaArg
import Derived.Deep.LoopGhost
import Derived.Deep.QuietTactic
import Derived.BigQuiet
import Derived.RegionTactic
import Derived.BigRegion
import Derived.ProofKit
import Derived.OpenShut
import Derived.Deep.Slices
import Derived.Deep.RegionWith
namespace Go.Proofs.Ytodpmonbfecfdaa
open Go.RowKit Go.ChangeShapes Go.WideShapes
set_option linter.unusedVariables false
set_option linter.unusedSimpArgs false


namespace Ic
def ArgAt (w : World) (b o : Nat) (c : Ic) : Prop := w.cell? ⟨b, o, none⟩ = some (.int .i64 c.op) ∧ w.cell? ⟨b, o + 1, none⟩ = some (.int .i64 c.arg) ∧ ∃ (va : Option Addr) (vc : Nat), w.cell? ⟨b, o + 2, none⟩ = some (.slice va c.val.length vc) ∧ Cells w va vc c.val
def Arg (w : World) (a : Option Addr) (cap : Nat) (l : List Ic) : Prop :=
  cap ≤ 9223372036854775807 ∧ l.length ≤ cap ∧ (∀ c ∈ l, c.ok) ∧ (l = [] ∨ ∃ b off, a = some ⟨b, off, none⟩ ∧ b < w.heap.size ∧ ∀ i, i < l.length → ArgAt w b (off + i * 3) (l.getD i zero))
theorem own_far {w : World} {b c j : Nat} {t : TypeId} {xs : List Value} (h : Own w b t xs) (hne : b ≠ c) (x : Value) : Own (w.setCell ⟨c, j, none⟩ x) b t xs := by
  obtain ⟨r, h1, h2⟩ := h
  exact ⟨r, (heap_setCell_other _ ⟨c, j, none⟩ b x hne).trans h1, h2⟩
theorem Arg.below {w w' : World} {a : Option Addr} {cap : Nat} {l : List Ic} (h : Arg w a cap l) (hb : Below w.heap.size w w') : Arg w' a cap l := by
  obtain ⟨h1, h2, h3, h4⟩ := h
  refine ⟨h1, h2, h3, ?_⟩
  rcases h4 with h4 | ⟨b, off, e, hlt, hr⟩
  · exact .inl h4
  · refine .inr ⟨b, off, e, Nat.lt_of_lt_of_le hlt hb.size, fun i hi => ?_⟩
    obtain ⟨f0, f1, va, vc, f2, hc⟩ := hr i hi
    exact ⟨(hb.cell hlt).trans f0, (hb.cell hlt).trans f1, va, vc, (hb.cell hlt).trans f2, hc.below hb⟩

theorem OwnRow.far {w : World} {b c j : Nat} {t : TypeId} {l : List M.Cl} (h : OwnRow w b t l) (hne : b ≠ c) (x : Value) : OwnRow (w.setCell ⟨c, j, none⟩ x) b t l := by
  obtain ⟨xs, h1, h2⟩ := h
  exact ⟨xs, own_far h1 hne x, h2⟩
/-- The first k nodes lie in the words xs, each with a row of its own behind the block B. -/
def Laid (w : World) (B : Nat) (xs : List Value) (l : List Ic) (k : Nat) : Prop := ∀ i, i < k → ∃ g : Nat, xs[i * 3]? = some (.int .i64 (l.getD i zero).op) ∧ xs[i * 3 + 1]? = some (.int .i64 (l.getD i zero).arg) ∧ xs[i * 3 + 2]? = some (.slice (some ⟨g, 0, none⟩) (l.getD i zero).val.length (l.getD i zero).val.length) ∧ B < g ∧ OwnRow w g 84 (l.getD i zero).val
theorem Laid.below {w w' : World} {B : Nat} {xs : List Value} {l : List Ic} {k : Nat} (h : Laid w B xs l k) (hb : Below w.heap.size w w') : Laid w' B xs l k := fun i hi => by
  obtain ⟨g, h0, h1, h2, hg, ho⟩ := h i hi
  exact ⟨g, h0, h1, h2, hg, ho.below hb ho.lt⟩
theorem Laid.far {w : World} {B j : Nat} {xs : List Value} {l : List Ic} {k : Nat} (h : Laid w B xs l k) (x : Value) : Laid (w.setCell ⟨B, j, none⟩ x) B xs l k := fun i hi => by
  obtain ⟨g, h0, h1, h2, hg, ho⟩ := h i hi
  exact ⟨g, h0, h1, h2, hg, OwnRow.far ho (by omega) x⟩
theorem Laid.step {w : World} {B : Nat} {xs : List Value} {l : List Ic} {k : Nat} (h : Laid w B xs l k) (hl : xs.length = l.length * 3) (hk : k < l.length) (n : Ic) (hn : n = l.getD k zero) (g : Nat) (hg : B < g) (ho : OwnRow w g 84 n.val) : Laid w B (((xs.set (k * 3) (.int .i64 n.op)).set (k * 3 + 1) (.int .i64 n.arg)).set (k * 3 + 2) (.slice (some ⟨g, 0, none⟩) n.val.length n.val.length)) l (k + 1) := by
  intro i hi
  by_cases e : i = k
  · subst e
    refine ⟨g, ?_, ?_, ?_, hg, by rw [← hn]; exact ho⟩
    all_goals rw [← hn]
    all_goals simp only [List.getElem?_set, List.length_set]
    all_goals simp
    all_goals omega
  · obtain ⟨g', h0, h1, h2, hg', ho'⟩ := h i (by omega)
    refine ⟨g', ?_, ?_, ?_, hg', ho'⟩
    · rw [List.getElem?_set_ne (by omega), List.getElem?_set_ne (by omega), List.getElem?_set_ne (by omega)]; exact h0
    · rw [List.getElem?_set_ne (by omega), List.getElem?_set_ne (by omega), List.getElem?_set_ne (by omega)]; exact h1
    · rw [List.getElem?_set_ne (by omega), List.getElem?_set_ne (by omega), List.getElem?_set_ne (by omega)]; exact h2
theorem Laid.row {w : World} {B : Nat} {xs : List Value} {l : List Ic} (h : Laid w B xs l l.length) (ho : Own w B 56 xs) : Row w B l := fun i hi => by
  obtain ⟨g, h0, h1, h2, hg, hr⟩ := h i hi
  exact ⟨(ho.cell _).trans h0, (ho.cell _).trans h1, g, (ho.cell _).trans h2, hr.lt, hr.row⟩
theorem info : (Try.prog.info? 56).map (fun i => (i.zero, i.size, i.bytes)) = some (some (.agg #[.int .i64 0, .int .i64 0, .slice none 0 0]), 3, 40) := by kernel_rfl
def mkW (m : Nat) : Array Value := madeCells #[.int .i64 0, .int .i64 0, .slice none 0 0] (m * 3)
theorem size_mk (m : Nat) : (mkW m).size = m * 3 := by simp [mkW, size_madeCells]
theorem make_run (n : Nat) (hn : n ≤ 1048576) (w : World) :
    (Instr.makeSlice 24 (.int .i64 (n : Int)) (.int .i64 (n : Int))).run Try.prog w = .ok (.slice (some ⟨w.heap.size, 0, none⟩) n n) (w.alloc (.cells (mkW n) 56)) := by
  obtain ⟨i, hi, hz⟩ := Option.map_eq_some_iff.1 info
  simp only [Prod.mk.injEq] at hz
  obtain ⟨h1, h2, h3⟩ := hz
  have := run_make (P := Try.prog) w 24 56 i _ Try.underlying24 hi h1 .i64 .i64 (n : Int) (n : Int) (by omega) (by omega) (by rw [h3]; omega) (by omega)
  rw [this, h2]
  simp only [Int.toNat_natCast]
  rfl

set_option maxHeartbeats 1000000 in
theorem eq_same (n : Ic) (g g' : Nat) (w : World) (hr : _root_.Go.Proofs.Ytodpmonbfecfdaa.Row w g 0 n.val) (hg : g < w.heap.size) (hr' : _root_.Go.Proofs.Ytodpmonbfecfdaa.Row w g' 0 n.val) (hg' : g' < w.heap.size) (hn : n.val.length ≤ 1048576) :
    Calls Try.prog 58 #[.agg #[.int .i64 n.op, .int .i64 n.arg, .slice (some ⟨g, 0, none⟩) n.val.length n.val.length], .agg #[.int .i64 n.op, .int .i64 n.arg, .slice (some ⟨g', 0, none⟩) n.val.length n.val.length]] w fun e w' => e = .returned (.bool true) ∧ Below w.heap.size w w' := by
  have HB := hide (fun o o' => ((Below.refl w.heap.size w).alloc (Nat.le_refl _) o).alloc (by simp) o')
  have H := hide (fun o o' => eqCellS_same g 0 n.val.length g' 0 n.val.length n.val ((w.alloc o).alloc o') (hr.below ((unhide HB) o o') hg) (by simp; omega) (hr'.below ((unhide HB) o o') hg') (by simp; omega) hn (Nat.le_refl _) (Nat.le_refl _))
  clear hr hr'
  go_enter Try.func58, Try.ntmps58
  go_wp2_with fail
  refine ((unhide H) _ _).mono ?_
  rintro e w1 ⟨rfl, hb1⟩
  go_wp2_with fail
  go_ret
  exact ⟨rfl, ((unhide HB) _ _).trans (hb1.mono (by simp <;> omega))⟩

set_option maxHeartbeats 2000000 in
theorem eqS_same (b b' : Nat) (l : List Ic) (w : World) (hrow : Row w b l) (hb : b < w.heap.size) (hrow' : Row w b' l) (hb' : b' < w.heap.size) (hn : l.length ≤ 1048576) (hv : ∀ i, i < l.length → (l.getD i zero).val.length ≤ 1048576) :
    Calls Try.prog 21 #[.slice (some ⟨b, 0, none⟩) l.length l.length, .slice (some ⟨b', 0, none⟩) l.length l.length] w fun e w' => e = .returned (.bool true) ∧ Below w.heap.size w w' := by
  have HR := hide hrow
  have HR' := hide hrow'
  have HV := hide hv
  clear hrow hrow' hv
  go_enter Try.func21, Try.ntmps21
  go_wp2_with fail
  go_loopg [5] l.length (fun gh s5 wr => ∃ k : Nat, Hid (gh = l.length - k) ∧ s5 = .int .i64 k ∧ k ≤ l.length ∧ Below w.heap.size w wr)
  case atStart => exact ⟨0, rfl, rfl, by omega, Below.refl _ _⟩
  case round =>
    obtain ⟨k, hg, rfl, hk, hbel⟩ := hrel
    by_cases hlt : k < l.length
    · have hltI : (k : Int) < (l.length : Int) := by omega
      obtain ⟨f0, f1, vg, f2, hvg, hvr⟩ := ((unhide HR).below hbel hb) k hlt
      obtain ⟨g0, g1, vg', g2, hvg', hvr'⟩ := ((unhide HR').below hbel hb') k hlt
      have HQ := hide (fun W (hW : Below wr.heap.size wr W) => eq_same (l.getD k zero) vg vg' W (hvr.below hW hvg) (Nat.lt_of_lt_of_le hvg hW.size) (hvr'.below hW hvg') (Nat.lt_of_lt_of_le hvg' hW.size) ((unhide HV) k hlt))
      have BD : Below wr.heap.size wr wr.drew := (Below.refl _ _).drew
      clear hvr hvr' hlt
      generalize l.getD k zero = n at *
      go_wp2_with fail
      go_region_with (go_at_call 58; refine ((unhide HQ) _ BD).mono ?_; rintro e w1 ⟨rfl, hb1⟩)
      all_goals
        go_wp2_with fail
        go_roundg (l.length - (k + 1))
        case rel => exact ⟨k + 1, rfl, by go_num, by omega, hbel.drew.trans (hb1.mono (by exact hbel.size))⟩
        case measure => have := hg.out; omega
    · go_wp2_with fail
      go_ret
      exact ⟨rfl, hbel⟩

theorem cellsI : Try.prog.cellsOf 2 = 1 := by kernel_rfl
theorem cellsV : Try.prog.cellsOf 36 = 1 := by kernel_rfl
section
variable {H : Type} {enc : TypeId × Value → H} {w : World} {base : Nat} {spare : Nat → Bool} {held : Bool}
end
end Ic

end Go.Proofs.Ytodpmonbfecfdaa
