/-
  The laws' own helpers over cells: what they measure, copy and compare, each by its contract.
  laws.toCellS copies a list of cells into a row of its own; laws.eqCell and laws.eqCellS tell whether cells are alike.
  laws.eqCell and laws.eqCellS: cells that are alike are told alike.
  The laws' marks: laws.markText, laws.markCellS write told numbers into a row of the call's own; laws.heldCellS finds them there.
  laws.markCellS writes told numbers into a row of the call's own, and laws.heldCellS finds them there.
  laws.heldCellS finds the told numbers in a row that holds them.
  An answer that holds a list of cells: what it is that it lies in memory of its own, and what the laws' helpers find, mark and find again in it.
  Proved: at every argument impl.Truthy answers as spec.Truthy and writes nothing into its argument (laws.FnExactTruthy returns true). No condition.
-/
import Derived.Test.YtemehbjlfiebdaaGreatX00
import Derived.Test.YtemehbjlfiebdaaGreatX01
import Derived.Test.YtemehbjlfiebdaaGreatX04
import Derived.Test.YtemehbjlfiebdaaGreatX07
import Derived.ChangeOld
import Derived.Deep.LoopGhost
import Derived.Deep.RegionWith
import Derived.Deep.Slices
import Derived.Laws.IdiomStrings
import Derived.OpenShut
import Derived.ProofKit
import Derived.ShutString
namespace Go.Proofs.YtemehbjlfiebdaaGreat
open Go.RowKit
set_option linter.unusedVariables false

end Go.Proofs.YtemehbjlfiebdaaGreat

namespace Go.Proofs.YtemehbjlfiebdaaGreat
open Go.RowKit
set_option linter.unusedVariables false

theorem Tryz.info33 : (Tryz.prog.info? 33).map (fun i => (i.zero, i.size, i.bytes)) = some (some (.agg #[.int .i64 0, .int .i64 0, .string ByteArray.empty, .string ByteArray.empty, .int .i64 0]), 5, 56) := by kernel_rfl
theorem Tryz.info24 : (Tryz.prog.info? 24).map (fun i => (i.zero, i.size, i.bytes)) = some (some (.slice none 0 0), 1, 24) := by kernel_rfl
theorem Tryz.info9 : (Tryz.prog.info? 9).map (fun i => (i.zero, i.size, i.bytes)) = some (some (.string ByteArray.empty), 1, 16) := by kernel_rfl

/-- What make lays for n cells. -/
def mk5 (n : Nat) : Array Value := madeCells #[.int .i64 0, .int .i64 0, .string ByteArray.empty, .string ByteArray.empty, .int .i64 0] (n * 5)
theorem size_mk5 (n : Nat) : (mk5 n).size = n * 5 := by simp [mk5, size_madeCells]

theorem make_cells (n : Nat) (hn : n ≤ 1048576) (w : World) :
    (Instr.makeSlice 24 (.int .i64 (n : Int)) (.int .i64 (n : Int))).run Tryz.prog w = .ok (.slice (some ⟨w.heap.size, 0, none⟩) n n) (w.alloc (.cells (mk5 n) 33)) := by
  obtain ⟨i, hi, hz⟩ := Option.map_eq_some_iff.1 Tryz.info33
  simp only [Prod.mk.injEq] at hz
  obtain ⟨h1, h2, h3⟩ := hz
  have := run_make (P := Tryz.prog) w 24 33 i _ Tryz.underlying24 hi h1 .i64 .i64 (n : Int) (n : Int) (by omega) (by omega) (by rw [h3]; omega) (by omega)
  rw [this, h2]
  simp only [Int.toNat_natCast]
  rfl

theorem some_of_lt {xs : List Value} {j : Nat} (h : j < xs.length) : ∃ v, xs[j]? = some v := ⟨xs[j], List.getElem?_eq_getElem h⟩

end Go.Proofs.YtemehbjlfiebdaaGreat

namespace Go.Proofs.YtemehbjlfiebdaaGreat
open Go.RowKit
set_option linter.unusedVariables false

end Go.Proofs.YtemehbjlfiebdaaGreat

namespace Go.Proofs.YtemehbjlfiebdaaGreat
open Go.RowKit
set_option linter.unusedVariables false

end Go.Proofs.YtemehbjlfiebdaaGreat

namespace Go.Proofs.YtemehbjlfiebdaaGreat
open Go.RowKit
set_option linter.unusedVariables false

/-- Below block number B all but block b is as it was. -/
structure But (B b : Nat) (w w' : World) : Prop where
  os : w'.os = w.os
  tape : w'.tape = w.tape
  output : w'.output = w.output
  size : w.heap.size ≤ w'.heap.size
  block : ∀ k, k < B → k ≠ b → w'.heap[k]? = w.heap[k]?

theorem But.refl (B b : Nat) (w : World) : But B b w w := ⟨rfl, rfl, rfl, Nat.le_refl _, fun _ _ _ => rfl⟩
theorem But.trans {B b : Nat} {u v w : World} (h : But B b u v) (k : But B b v w) : But B b u w :=
  ⟨k.os.trans h.os, k.tape.trans h.tape, k.output.trans h.output, Nat.le_trans h.size k.size, fun i h1 h2 => (k.block i h1 h2).trans (h.block i h1 h2)⟩
theorem But.ofBelow {B b : Nat} {w w' : World} (h : Below B w w') : But B b w w' := ⟨h.os, h.tape, h.output, h.size, fun k hk _ => h.block k hk⟩
theorem But.set (B b j : Nat) (w : World) (u : Value) : But B b w (w.setCell ⟨b, j, none⟩ u) :=
  ⟨rfl, rfl, rfl, by simp [World.setCell], fun k _ hk => Below.heap_setCell _ _ _ _ (by simpa using hk)⟩
theorem But.below {B B' b : Nat} {w w' : World} (h : But B b w w') (h1 : B' ≤ B) (h2 : B' ≤ b) : Below B' w w' :=
  ⟨h.os, h.tape, h.output, h.size, fun k hk => h.block k (by omega) (by omega)⟩
theorem But.mono {B B' b : Nat} {w w' : World} (h : But B b w w') (h1 : B' ≤ B) : But B' b w w' := ⟨h.os, h.tape, h.output, h.size, fun k hk hn => h.block k (by omega) hn⟩
/-- As Words, where the row may be longer. -/
def WordsG (xs : List Value) (l : List M.Cl) (k : Nat) : Prop :=
  l.length * 5 ≤ xs.length ∧ ∀ i, i < k → xs[i * 5]? = some (.int .i64 (l.getD i M.zero).kind) ∧ xs[i * 5 + 1]? = some (.int .i64 (l.getD i M.zero).num) ∧ xs[i * 5 + 2]? = some (.string (l.getD i M.zero).text) ∧ xs[i * 5 + 3]? = some (.string (l.getD i M.zero).key) ∧ xs[i * 5 + 4]? = some (.int .i64 (l.getD i M.zero).n)

/-- A row of the call's own that begins with the cells of l. -/
def OwnG (w : World) (b : Nat) (t : TypeId) (l : List M.Cl) : Prop := ∃ xs, Own w b t xs ∧ WordsG xs l l.length
theorem OwnG.row {w : World} {b : Nat} {t : TypeId} {l : List M.Cl} (h : OwnG w b t l) : Row w b 0 l := by
  obtain ⟨xs, ho, _, hw⟩ := h
  intro i hi
  obtain ⟨h0, h1, h2, h3, h4⟩ := hw i hi
  simp only [Nat.zero_add]
  exact ⟨(ho.cell _).trans h0, (ho.cell _).trans h1, (ho.cell _).trans h2, (ho.cell _).trans h3, (ho.cell _).trans h4⟩
theorem OwnG.lt {w : World} {b : Nat} {t : TypeId} {l : List M.Cl} (h : OwnG w b t l) : b < w.heap.size := by obtain ⟨xs, ho, _⟩ := h; exact ho.lt
theorem OwnG.below {B : Nat} {w w' : World} {b : Nat} {t : TypeId} {l : List M.Cl} (h : OwnG w b t l) (hb : Below B w w') (hB : b < B) : OwnG w' b t l := by
  obtain ⟨xs, ho, hw⟩ := h; exact ⟨xs, ho.below hb hB, hw⟩
end Go.Proofs.YtemehbjlfiebdaaGreat

namespace Go.Proofs.YtemehbjlfiebdaaGreat
open Go.RowKit
set_option linter.unusedVariables false

end Go.Proofs.YtemehbjlfiebdaaGreat

namespace Go.Proofs.YtemehbjlfiebdaaGreat
open Go.RowKit
set_option linter.unusedVariables false

/-- The slice value s holds the cells l, in a block of its own from number B on; or it is nil and there are none. -/
def Res (w : World) (B : Nat) (s : Value) (l : List M.Cl) : Prop :=
  l.length ≤ 1048576 ∧ ((s = .slice none 0 0 ∧ l = []) ∨ ∃ b cap, s = .slice (some ⟨b, 0, none⟩) l.length cap ∧ B ≤ b ∧ l.length ≤ cap ∧ OwnG w b 33 l)

theorem Res.below {w w' : World} {B : Nat} {s : Value} {l : List M.Cl} (h : Res w B s l) (hb : Below w.heap.size w w') : Res w' B s l := by
  obtain ⟨hn, h | ⟨b, cap, h1, h2, h3, h4⟩⟩ := h
  · exact ⟨hn, .inl h⟩
  · exact ⟨hn, .inr ⟨b, cap, h1, h2, h3, h4.below hb h4.lt⟩⟩
theorem Res.alloc {w : World} {B : Nat} {s : Value} {l : List M.Cl} (h : Res w B s l) (o : Obj) : Res (w.alloc o) B s l := h.below ((Below.refl _ _).alloc (Nat.le_refl _) o)
theorem Res.mono {w : World} {B B' : Nat} {s : Value} {l : List M.Cl} (h : Res w B s l) (hB : B' ≤ B) : Res w B' s l := by
  obtain ⟨hn, h | ⟨b, cap, h1, h2, h3, h4⟩⟩ := h
  · exact ⟨hn, .inl h⟩
  · exact ⟨hn, .inr ⟨b, cap, h1, by omega, h3, h4⟩⟩

theorem Res.base {w : World} {B : Nat} {s : Value} {l : List M.Cl} (h : Res w B s l) : ∀ b, s.ownBlock = some b → B ≤ b := by
  obtain ⟨hn, ⟨rfl, _⟩ | ⟨b, cap, rfl, h2, h3, h4⟩⟩ := h
  · intro b hb; simp [Value.ownBlock] at hb
  · intro c hc; simp only [Value.ownBlock, Option.some.injEq] at hc; omega
theorem Res.lt {w : World} {B : Nat} {s : Value} {l : List M.Cl} (h : Res w B s l) : ∀ b, s.ownBlock = some b → b < w.heap.size := by
  obtain ⟨hn, ⟨rfl, _⟩ | ⟨b, cap, rfl, h2, h3, h4⟩⟩ := h
  · intro b hb; simp [Value.ownBlock] at hb
  · intro c hc; simp only [Value.ownBlock, Option.some.injEq] at hc; have := h4.lt; omega
/-- The shape of an answer's slice: the walk wants to see it. -/
theorem Res.shape {w : World} {B : Nat} {s : Value} {l : List M.Cl} (h : Res w B s l) : ∃ a n cap, s = .slice a n cap := by
  obtain ⟨_, ⟨rfl, _⟩ | ⟨b, cap, rfl, _⟩⟩ := h
  · exact ⟨_, _, _, rfl⟩
  · exact ⟨_, _, _, rfl⟩

theorem ownsRow_base {w : World} {base : Nat} {e : TypeId} {size : Nat} {v : Value} {n : Nat} {xs : List Value} (h : w.ownsRow base e size v n xs) : ∀ k, v.ownBlock = some k → base ≤ k := by
  obtain ⟨_, ⟨rfl, _⟩ | ⟨g, cap, cur, rfl, hg, _⟩⟩ := h
  · intro k hk; simp [Value.ownBlock] at hk
  · intro k hk; simp only [Value.ownBlock, Option.some.injEq] at hk; omega
theorem OwnG.setOther {w : World} {b : Nat} {t : TypeId} {l : List M.Cl} (h : OwnG w b t l) (p : Addr) (u : Value) (hp : b ≠ p.block) : OwnG (w.setCell p u) b t l := by
  obtain ⟨xs, h1, h2⟩ := h; exact ⟨xs, h1.setOther p u hp, h2⟩
theorem Res.setOther {w : World} {B : Nat} {s : Value} {l : List M.Cl} (h : Res w B s l) (p : Addr) (u : Value) (hp : ∀ b, s.ownBlock = some b → b ≠ p.block) : Res (w.setCell p u) B s l := by
  obtain ⟨hn, h | ⟨b, cap, rfl, h2, h3, h4⟩⟩ := h
  · exact ⟨hn, .inl h⟩
  · exact ⟨hn, .inr ⟨b, cap, rfl, h2, h3, h4.setOther p u (hp b rfl)⟩⟩

end Go.Proofs.YtemehbjlfiebdaaGreat

namespace Go.Proofs.YtemehbjlfiebdaaGreat
open Go.ChangeShapes Go.WideShapes Go.ChangeAt Go.RowKit
set_option linter.unusedVariables false

def truthy (v : List M.Cl) : Bool := decide (M.valueFault v = 0) && decide (1 < (v.getD 0 M.zero).kind)

theorem truthy_bad {v : List M.Cl} (h : M.valueFault v ≠ 0) : truthy v = false := by simp [truthy, h]
theorem truthy_ok {v : List M.Cl} (h : M.valueFault v = 0) : truthy v = decide (1 < (v.getD 0 M.zero).kind) := by simp only [truthy, h]; simp

theorem kind_ge {v : List M.Cl} (h : M.valueFault v = 0) : 0 ≤ (v.getD 0 M.zero).kind := by
  obtain ⟨h1, _, h2, _⟩ := M.fault_zero h
  have := M.first_zero h2 _ (getD_mem v 0 (by omega))
  unfold M.cellCode at this
  split at this
  · cases this
  · omega

set_option maxHeartbeats 1000000 in
theorem implTruthy_any (v : List M.Cl) (b off cap : Nat) (w : World) (hrow : Row w b off v) (hb : b < w.heap.size) (hn : v.length ≤ 1048576) (hcap : v.length ≤ cap) (hok : ∀ c ∈ v, c.ok) :
    Calls Tryz.prog 12 #[.slice (some ⟨b, off, none⟩) v.length cap] w fun e w' => e = .returned (.bool (truthy v)) ∧ Below w.heap.size w w' := by
  have OK := hide hok
  clear hok
  go_enter Tryz.func12, Tryz.ntmps12
  go_wp2_with fail
  refine (implFault_any v b off cap _ hrow hb hn hcap (unhide OK)).mono ?_
  rintro e1 w1 ⟨rfl, hb1⟩
  have hr := hrow.below hb1 hb
  generalize hq : M.valueFault v = q
  by_cases hz : q = 0
  · subst hz
    have fin := hide (truthy_ok hq)
    have hl := (M.fault_zero hq).1
    have hk := kind_ge hq
    clear hq
    have g := hr 0 (by omega)
    have g0 := g.1
    simp only [Nat.zero_mul, Nat.add_zero] at g0
    clear g
    generalize v.getD 0 M.zero = c at *
    by_cases k0 : c.kind = 0
    · rw [k0] at g0
      have K0 := hide k0
      clear k0 hk
      go_wp2_with fail
      go_ret
      refine ⟨ret_bool ?_, hb1⟩
      rw [unhide fin, unhide K0]; rfl
    · by_cases k1 : c.kind = 1
      · rw [k1] at g0
        have K1 := hide k1
        clear k1 k0 hk
        go_wp2_with fail
        go_ret
        refine ⟨ret_bool ?_, hb1⟩
        rw [unhide fin, unhide K1]; rfl
      · have e0 : (c.kind == 0) = false := by simp [k0]
        have e1 : (c.kind == 1) = false := by simp [k1]
        have e2 : decide (1 < c.kind) = true := decide_eq_true (by omega)
        go_wp2_with fail
        go_ret
        refine ⟨ret_bool ?_, hb1⟩
        rw [unhide fin, e2]
        simp [bne, e0, e1]
  · have fin := hide (truthy_bad (by rw [hq]; exact hz))
    have hz' : (q == 0) = false := by simp [hz]
    clear hq
    go_wp2_with fail
    go_ret
    exact ⟨ret_bool (unhide fin).symm, hb1⟩

end Go.Proofs.YtemehbjlfiebdaaGreat
