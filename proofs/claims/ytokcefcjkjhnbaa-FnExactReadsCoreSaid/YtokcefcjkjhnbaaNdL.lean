/-
  The laws' own helpers over Nodes: toNode, szNode, eqNode, and the same over a slice; a slice that came in, opened.
-/
import Derived.Test.YtokcefcjkjhnbaaNdM
import Derived.Test.YtokcefcjkjhnbaaText
import Derived.Deep.RegionWith
import Derived.ProofKit
import Derived.Deep.Slices
import Derived.OpenShut
namespace Go.Proofs.Ytokcefcjkjhnbaa
open Go.RowKit Go.ChangeShapes Go.WideShapes
set_option linter.unusedVariables false
set_option linter.unusedSimpArgs false

namespace Nd
set_option maxHeartbeats 1000000 in
theorem to_any (op_ : Int) (a_ : Int) (b_ : Int) (c_ : Int) (num_ : Int) (text_ : ByteArray) (w : World) :
    Calls Try.prog 43 #[.agg #[.int .i64 op_, .int .i64 a_, .int .i64 b_, .int .i64 c_, .int .i64 num_, .string text_]] w fun e w' => e = .returned (.agg #[.int .i64 op_, .int .i64 a_, .int .i64 b_, .int .i64 c_, .int .i64 num_, .string text_]) ∧ Below w.heap.size w w' := by
  have B0 : Hid (∀ o, Below w.heap.size w (w.alloc o)) := fun o => (Below.refl _ _).alloc (Nat.le_refl _) o
  go_enter Try.func43, Try.ntmps43
  go_wp2_with fail
  refine bodyPost_ret (v := .agg #[.int .i64 op_, .int .i64 a_, .int .i64 b_, .int .i64 c_, .int .i64 num_, .string text_]) (by simp [results, Try.results43, go_sem]) rfl ⟨rfl, ?_⟩
  repeat (first | exact B0.out _ | exact Below.refl _ _ | refine Below.setCell ?_ (by simp <;> omega) _ | refine Below.alloc ?_ (by simp <;> omega) _)

set_option maxHeartbeats 1000000 in
theorem sz_any (op_ : Int) (a_ : Int) (b_ : Int) (c_ : Int) (num_ : Int) (text_ : ByteArray) (left : Int) (w : World) (h0 : 0 ≤ left) (h1 : left ≤ 1048576) (hs : text_.size ≤ 9223372036854775807) :
    Calls Try.prog 40 #[.agg #[.int .i64 op_, .int .i64 a_, .int .i64 b_, .int .i64 c_, .int .i64 num_, .string text_], .int .i64 left] w fun e w' => ∃ r : Int, e = .returned (.int .i64 r) ∧ (r = -1 ∨ (0 ≤ r ∧ r = left - text_.size)) ∧ Below w.heap.size w w' := by
  by_cases c1 : left - text_.size < 0
  · go_enter Try.func40, Try.ntmps40
    go_wp2_with fail
    go_ret
    exact ⟨_, rfl, .inl rfl, (Below.refl _ _).alloc (Nat.le_refl _) _⟩
  · go_enter Try.func40, Try.ntmps40
    go_wp2_with fail
    go_ret
    exact ⟨_, rfl, .inr ⟨by omega, rfl⟩, (Below.refl _ _).alloc (Nat.le_refl _) _⟩

set_option maxHeartbeats 1000000 in
theorem szS_any (b off cap : Nat) (l : List Nd) (left : Int) (w : World) (hrow : Row w b off l) (hb : b < w.heap.size) (hcap : cap ≤ 9223372036854775807) (hl : l.length ≤ cap) (hok : ∀ c ∈ l, c.ok) (h0 : 0 ≤ left) (h1 : left ≤ 1048576) :
    Calls Try.prog 9 #[.slice (some ⟨b, off, none⟩) l.length cap, .int .i64 left] w fun e w' => ∃ r : Int, e = .returned (.int .i64 r) ∧ ((r < 0) ∨ (0 ≤ r ∧ r = left - l.length - szAll l)) ∧ Below w.heap.size w w' := by
  by_cases c1 : left - l.length < 0
  · go_enter Try.func9, Try.ntmps9
    go_wp2
    go_ret
    exact ⟨_, rfl, .inl (by decide), Below.refl _ _⟩
  have c2 : (l.length : Int) ≤ left := by omega
  go_enter Try.func9, Try.ntmps9
  go_wp2_with fail
  go_loopw [1, 5] (fun u i wr => ∃ (k : Nat) (q : Int), k ≤ l.length ∧ i = .int .i64 k ∧ u = .int .i64 q ∧ 0 ≤ q ∧ q ≤ 1048576 ∧ Hid (q = left - l.length - szAll (l.take k)) ∧ Below w.heap.size w wr) (fun _ i _ => l.length - (intOf i).toNat)
  case atStart => exact ⟨0, _, by omega, rfl, rfl, by omega, by omega, by simp [Hid, szAll], Below.refl _ _⟩
  case round =>
    obtain ⟨k, q, hk, rfl, rfl, hq0, hq1, hq, hbel⟩ := hrel
    by_cases hlt : k < l.length
    · obtain ⟨c, hc⟩ : ∃ c, c = l.getD k zero := ⟨_, rfl⟩
      have hco := hok _ (getD_mem l k hlt)
      obtain ⟨f0, f1, f2, f3, f4, f5⟩ := (hrow.below hbel hb) k hlt
      have hst := hide (szAll_take l k hlt)
      rw [← hc] at hco f0 f1 f2 f3 f4 f5 hst
      have hsz1 : c.text.size ≤ 9223372036854775807 := by unfold ok at hco; omega
      clear hco
      have HC := hide hc
      clear hc
      go_wp2_with fail
      refine (sz_any c.op c.a c.b c.c c.num c.text q _ hq0 hq1 hsz1).mono ?_
      rintro e w1 ⟨r, rfl, hr, hb1⟩
      have hb2 : Below w.heap.size w w1 := hbel.trans (hb1.mono (by exact hbel.size))
      rcases hr with rfl | ⟨hr0, hr1⟩
      · go_wp2_with fail
        go_ret
        exact ⟨_, rfl, .inl (by decide), hb2⟩
      · have hr2 : r ≤ 1048576 := by omega
        have HR := hide hr1
        clear hr1
        go_wp2_with fail
        go_roundw
        case rel =>
          refine ⟨k + 1, r, by omega, by go_num, rfl, hr0, hr2, ?_, hb2⟩
          have e1 := unhide hst
          have e2 := unhide HR
          have e3 := hq.out
          show r = _
          rw [e1]; omega
        case measure => simp [intOf]; omega
    · have hke : k = l.length := by omega
      have e3 := hq
      rw [hke, List.take_length] at e3
      clear hq hke
      go_wp2_with fail
      go_ret
      exact ⟨_, rfl, .inr ⟨hq0, e3.out⟩, hbel⟩

set_option maxHeartbeats 400000 in
theorem szS_none (a : Option Addr) (cap : Nat) (left : Int) (w : World) (hcap : cap ≤ 9223372036854775807) (h0 : 0 ≤ left) (h1 : left ≤ 1048576) :
    Calls Try.prog 9 #[.slice a 0 cap, .int .i64 left] w fun e w' => e = .returned (.int .i64 left) ∧ Below w.heap.size w w' := by
  go_enter Try.func9, Try.ntmps9
  go_wp2_with fail
  refine wp_loop_rounds 1 ?_
  rw [rounds_succ]
  go_wp2_with fail
  go_ret
  exact ⟨by simp, Below.refl _ _⟩

theorem info : (Try.prog.info? 71).map (fun i => (i.zero, i.size, i.bytes)) = some (some (.agg #[.int .i64 0, .int .i64 0, .int .i64 0, .int .i64 0, .int .i64 0, .string ByteArray.empty]), 6, 56) := by kernel_rfl
/-- What make lays for m of them. -/
def mkW (m : Nat) : Array Value := madeCells #[.int .i64 0, .int .i64 0, .int .i64 0, .int .i64 0, .int .i64 0, .string ByteArray.empty] (m * 6)
theorem size_mk (m : Nat) : (mkW m).size = m * 6 := by simp [mkW, size_madeCells]
theorem make_run (n : Nat) (hn : n ≤ 1048576) (w : World) :
    (Instr.makeSlice 28 (.int .i64 (n : Int)) (.int .i64 (n : Int))).run Try.prog w = .ok (.slice (some ⟨w.heap.size, 0, none⟩) n n) (w.alloc (.cells (mkW n) 71)) := by
  obtain ⟨i, hi, hz⟩ := Option.map_eq_some_iff.1 info
  simp only [Prod.mk.injEq] at hz
  obtain ⟨h1, h2, h3⟩ := hz
  have := run_make (P := Try.prog) w 28 71 i _ Try.underlying28 hi h1 .i64 .i64 (n : Int) (n : Int) (by omega) (by omega) (by rw [h3]; omega) (by omega)
  rw [this, h2]
  simp only [Int.toNat_natCast]
  rfl
theorem some_lt {xs : List Value} {j : Nat} (h : j < xs.length) : ∃ v, xs[j]? = some v := ⟨xs[j], List.getElem?_eq_getElem h⟩

set_option maxHeartbeats 1000000 in
theorem toS_any (b off cap : Nat) (l : List Nd) (w : World) (hrow : Row w b off l) (hb : b < w.heap.size) (hcap : cap ≤ 9223372036854775807) (hl : l.length ≤ cap) (hn : l.length ≤ 1048576) :
    Calls Try.prog 11 #[.slice (some ⟨b, off, none⟩) l.length cap] w fun e w' => e = .returned (.slice (some ⟨w.heap.size, 0, none⟩) l.length l.length) ∧ OwnRow w' w.heap.size 71 l ∧ Below w.heap.size w w' := by
  have hmk := make_run l.length hn
  go_enter Try.func11, Try.ntmps11
  go_wp2_with fail
  go_loopw [4] (fun i wr => ∃ (k : Nat) (xs : List Value), k ≤ l.length ∧ i = .int .i64 k ∧ Own wr w.heap.size 71 xs ∧ Words xs l k ∧ Below w.heap.size w wr) (fun i _ => l.length - (intOf i).toNat)
  case atStart => exact ⟨0, (mkW l.length).toList, by omega, rfl, ⟨_, heap_alloc_new _ _, rfl⟩, ⟨by simp [size_mk], fun i hi => absurd hi (by omega)⟩, (Below.refl _ _).alloc (Nat.le_refl _) _⟩
  case round =>
    obtain ⟨k, xs, hk, rfl, hown, hwords, hbel⟩ := hrel
    clear hmk
    by_cases hlt : k < l.length
    · obtain ⟨c, hc⟩ : ∃ c, c = l.getD k zero := ⟨_, rfl⟩
      obtain ⟨f0, f1, f2, f3, f4, f5⟩ := (hrow.below hbel hb) k hlt
      rw [← hc] at f0 f1 f2 f3 f4 f5
      have HC := hide hc
      clear hc
      go_wp2_with fail
      refine (to_any c.op c.a c.b c.c c.num c.text _).mono ?_
      rintro e w1 ⟨rfl, hb1⟩
      have hown1 := hown.below hb1 hown.lt
      have hlen : l.length * 6 = xs.length := hwords.1.symm
      obtain ⟨v0, g0⟩ := some_lt (xs := xs) (j := k * 6) (by omega)
      obtain ⟨v1, g1⟩ := some_lt (xs := xs) (j := k * 6 + 1) (by omega)
      obtain ⟨v2, g2⟩ := some_lt (xs := xs) (j := k * 6 + 2) (by omega)
      obtain ⟨v3, g3⟩ := some_lt (xs := xs) (j := k * 6 + 3) (by omega)
      obtain ⟨v4, g4⟩ := some_lt (xs := xs) (j := k * 6 + 4) (by omega)
      obtain ⟨v5, g5⟩ := some_lt (xs := xs) (j := k * 6 + 5) (by omega)
      have i0 := (hown1.cell (k * 6)).trans g0
      have i1 := (hown1.cell (k * 6 + 1)).trans g1
      have i2 := (hown1.cell (k * 6 + 2)).trans g2
      have i3 := (hown1.cell (k * 6 + 3)).trans g3
      have i4 := (hown1.cell (k * 6 + 4)).trans g4
      have i5 := (hown1.cell (k * 6 + 5)).trans g5
      have z0 := hown1.frozen (k * 6)
      have z1 := hown1.frozen (k * 6 + 1)
      have z2 := hown1.frozen (k * 6 + 2)
      have z3 := hown1.frozen (k * 6 + 3)
      have z4 := hown1.frozen (k * 6 + 4)
      have z5 := hown1.frozen (k * 6 + 5)
      have HL := hide hlen
      clear hlen g0 g1 g2 g3 g4 g5 f0 f1 f2 f3 f4 f5
      go_wp2_with fail
      go_roundw
      case rel =>
        refine ⟨k + 1, _, by omega, by go_num, (((((hown1.set _ _).set _ _).set _ _).set _ _).set _ _).set _ _, hwords.step hlt c (unhide HC), ?_⟩
        exact ((((((hbel.trans (hb1.mono hbel.size)).setCell (Nat.le_refl _) _).setCell (Nat.le_refl _) _).setCell (Nat.le_refl _) _).setCell (Nat.le_refl _) _).setCell (Nat.le_refl _) _).setCell (Nat.le_refl _) _
      case measure => simp [intOf]; omega
    · have hke : k = l.length := by omega
      have hfin : OwnRow wr w.heap.size 71 l := ⟨xs, hown, hke ▸ hwords⟩
      clear hke
      go_wp2_with fail
      go_ret
      exact ⟨rfl, hfin, hbel⟩

set_option maxHeartbeats 400000 in
theorem toS_none (a : Option Addr) (cap : Nat) (w : World) (hcap : cap ≤ 9223372036854775807) :
    Calls Try.prog 11 #[.slice a 0 cap] w fun e w' => e = .returned (.slice (some ⟨w.heap.size, 0, none⟩) 0 0) ∧ OwnRow w' w.heap.size 71 [] ∧ Below w.heap.size w w' := by
  have hmk : ∀ w, (Instr.makeSlice 28 (.int .i64 0) (.int .i64 0)).run Try.prog w = .ok (.slice (some ⟨w.heap.size, 0, none⟩) 0 0) (w.alloc (.cells (mkW 0) 71)) := make_run 0 (by omega)
  go_enter Try.func11, Try.ntmps11
  go_wp2_with fail
  refine wp_loop_rounds 1 ?_
  rw [rounds_succ]
  go_wp2_with fail
  go_ret
  exact ⟨rfl, ⟨(mkW 0).toList, ⟨_, heap_alloc_new _ _, rfl⟩, ⟨by simp [size_mk], fun i hi => absurd hi (by simp)⟩⟩, (Below.refl _ _).alloc (Nat.le_refl _) _⟩

set_option maxHeartbeats 1000000 in
theorem eq_same (op_ : Int) (a_ : Int) (b_ : Int) (c_ : Int) (num_ : Int) (text_ : ByteArray) (w : World) :
    Calls Try.prog 47 #[.agg #[.int .i64 op_, .int .i64 a_, .int .i64 b_, .int .i64 c_, .int .i64 num_, .string text_], .agg #[.int .i64 op_, .int .i64 a_, .int .i64 b_, .int .i64 c_, .int .i64 num_, .string text_]] w fun e w' => e = .returned (.bool true) ∧ Below w.heap.size w w' := by
  go_enter Try.func47, Try.ntmps47
  go_wp2
  go_ret
  exact ⟨rfl, ((Below.refl _ _).alloc (Nat.le_refl _) _).alloc (by simp) _⟩

set_option maxHeartbeats 2000000 in
theorem eqS_same (b off cap b' off' cap' : Nat) (l : List Nd) (w : World) (hrow : Row w b off l) (hb : b < w.heap.size) (hrow' : Row w b' off' l) (hb' : b' < w.heap.size) (hcap : l.length ≤ 1048576) (h1 : l.length ≤ cap) (h2 : l.length ≤ cap') :
    Calls Try.prog 14 #[.slice (some ⟨b, off, none⟩) l.length cap, .slice (some ⟨b', off', none⟩) l.length cap'] w fun e w' => e = .returned (.bool true) ∧ Below w.heap.size w w' := by
  go_enter Try.func14, Try.ntmps14
  go_wp2_with fail
  go_loopw [5] (fun i wr => ∃ k : Nat, k ≤ l.length ∧ i = .int .i64 k ∧ Below w.heap.size w wr) (fun i _ => l.length - (intOf i).toNat)
  case atStart => exact ⟨0, by omega, rfl, Below.refl _ _⟩
  case round =>
    obtain ⟨k, hk, rfl, hbel⟩ := hrel
    by_cases hlt : k < l.length
    · obtain ⟨c, hc⟩ : ∃ c, c = l.getD k zero := ⟨_, rfl⟩
      obtain ⟨f0, f1, f2, f3, f4, f5⟩ := (hrow.below hbel hb) k hlt
      obtain ⟨g0, g1, g2, g3, g4, g5⟩ := (hrow'.below hbel hb') k hlt
      rw [← hc] at f0 f1 f2 f3 f4 f5 g0 g1 g2 g3 g4 g5
      clear hc
      go_wp2_with fail
      go_region_with (go_at_call 47; refine (eq_same c.op c.a c.b c.c c.num c.text _).mono ?_; rintro e w1 ⟨rfl, hb1⟩)
      all_goals
        go_wp2_with fail
        go_roundw
        case rel => exact ⟨k + 1, by omega, by go_num, hbel.drew.trans (hb1.mono (by exact hbel.size))⟩
        case measure => simp [intOf]; omega
    · go_wp2_with fail
      go_ret
      exact ⟨rfl, hbel⟩

/-- What the walks are told of a slice that came in: a its head, cap its capacity, l its elements. -/
def Arg (w : World) (a : Option Addr) (cap : Nat) (l : List Nd) : Prop :=
  cap ≤ 9223372036854775807 ∧ l.length ≤ cap ∧ (∀ c ∈ l, c.ok) ∧ (l = [] ∨ ∃ b off, a = some ⟨b, off, none⟩ ∧ b < w.heap.size ∧ Row w b off l)
theorem Arg.below {w w' : World} {a : Option Addr} {cap : Nat} {l : List Nd} (h : Arg w a cap l) (hb : Below w.heap.size w w') : Arg w' a cap l := by
  obtain ⟨h1, h2, h3, h4⟩ := h
  refine ⟨h1, h2, h3, ?_⟩
  rcases h4 with h4 | ⟨b, off, e, hlt, hr⟩
  · exact .inl h4
  · exact .inr ⟨b, off, e, Nat.lt_of_lt_of_le hlt hb.size, hr.below hb hlt⟩
theorem sz_arg (a : Option Addr) (cap : Nat) (l : List Nd) (left : Int) (w : World) (h : Arg w a cap l) (h0 : 0 ≤ left) (h1 : left ≤ 1048576) :
    Calls Try.prog 9 #[.slice a l.length cap, .int .i64 left] w fun e w' => ∃ r : Int, e = .returned (.int .i64 r) ∧ ((r < 0) ∨ (0 ≤ r ∧ r = left - l.length - szAll l)) ∧ Below w.heap.size w w' := by
  obtain ⟨c1, c2, c3, rfl | ⟨b, off, rfl, hb, hr⟩⟩ := h
  · refine (szS_none a cap left w c1 h0 h1).mono ?_
    rintro e w' ⟨rfl, hb⟩
    exact ⟨_, rfl, .inr ⟨h0, by simp [szAll]⟩, hb⟩
  · exact szS_any b off cap l left w hr hb c1 c2 c3 h0 h1
theorem to_arg (a : Option Addr) (cap : Nat) (l : List Nd) (w : World) (h : Arg w a cap l) (hn : l.length ≤ 1048576) :
    Calls Try.prog 11 #[.slice a l.length cap] w fun e w' => e = .returned (.slice (some ⟨w.heap.size, 0, none⟩) l.length l.length) ∧ OwnRow w' w.heap.size 71 l ∧ Below w.heap.size w w' := by
  obtain ⟨c1, c2, c3, rfl | ⟨b, off, rfl, hb, hr⟩⟩ := h
  · exact toS_none a cap w c1
  · exact toS_any b off cap l w hr hb c1 c2 hn

theorem cellsOf_ : Try.prog.cellsOf 69 = 6 := by kernel_rfl
theorem cellsI : Try.prog.cellsOf 2 = 1 := by kernel_rfl
theorem cellsS : Try.prog.cellsOf 9 = 1 := by kernel_rfl
section
variable {H : Type} {enc : TypeId × Value → H} {w : World} {base : Nat} {spare : Nat → Bool} {held : Bool}
set_option maxRecDepth 100000 in
theorem open_one {n : Nat} {cs : List Value} {x : DataW H × List MemPlace} (h : DataW.trod enc Try.prog w base spare held n 69 cs = some x) :
    ∃ c : Nd, cs = c.vals ∧ c.ok := by
  obtain ⟨xs, m, _, _, hl, hlen, hf⟩ := DataW.trod_struct Try.underlying69 h
  rw [cellsOf_] at hl
  match cs, hl, xs, hlen with
  | [c0, c1, c2, c3, c4, c5], _, [y0, y1, y2, y3, y4, y5], _ =>
    have a0 : DataW.trod enc Try.prog w base spare held m 2 (([c0, c1, c2, c3, c4, c5].drop 0).take (Try.prog.cellsOf 2)) = some y0 := hf 0 _ rfl
    rw [cellsI] at a0
    have h0 : DataW.trod enc Try.prog w base spare held m 2 [c0] = some y0 := a0
    have a1 : DataW.trod enc Try.prog w base spare held m 2 (([c0, c1, c2, c3, c4, c5].drop 1).take (Try.prog.cellsOf 2)) = some y1 := hf 1 _ rfl
    rw [cellsI] at a1
    have h1 : DataW.trod enc Try.prog w base spare held m 2 [c1] = some y1 := a1
    have a2 : DataW.trod enc Try.prog w base spare held m 2 (([c0, c1, c2, c3, c4, c5].drop 2).take (Try.prog.cellsOf 2)) = some y2 := hf 2 _ rfl
    rw [cellsI] at a2
    have h2 : DataW.trod enc Try.prog w base spare held m 2 [c2] = some y2 := a2
    have a3 : DataW.trod enc Try.prog w base spare held m 2 (([c0, c1, c2, c3, c4, c5].drop 3).take (Try.prog.cellsOf 2)) = some y3 := hf 3 _ rfl
    rw [cellsI] at a3
    have h3 : DataW.trod enc Try.prog w base spare held m 2 [c3] = some y3 := a3
    have a4 : DataW.trod enc Try.prog w base spare held m 2 (([c0, c1, c2, c3, c4, c5].drop 4).take (Try.prog.cellsOf 2)) = some y4 := hf 4 _ rfl
    rw [cellsI] at a4
    have h4 : DataW.trod enc Try.prog w base spare held m 2 [c4] = some y4 := a4
    have a5 : DataW.trod enc Try.prog w base spare held m 9 (([c0, c1, c2, c3, c4, c5].drop 5).take (Try.prog.cellsOf 9)) = some y5 := hf 5 _ rfl
    rw [cellsS] at a5
    have h5 : DataW.trod enc Try.prog w base spare held m 9 [c5] = some y5 := a5
    obtain ⟨n0, e0, _, w0⟩ := DataW.trod_int Try.underlying2 h0
    obtain ⟨n1, e1, _, w1⟩ := DataW.trod_int Try.underlying2 h1
    obtain ⟨n2, e2, _, w2⟩ := DataW.trod_int Try.underlying2 h2
    obtain ⟨n3, e3, _, w3⟩ := DataW.trod_int Try.underlying2 h3
    obtain ⟨n4, e4, _, w4⟩ := DataW.trod_int Try.underlying2 h4
    obtain ⟨n5, e5, _, w5⟩ := DataW.trod_string Try.underlying9 h5
    simp only [List.cons.injEq, and_true] at e0 e1 e2 e3 e4 e5
    subst e0 e1 e2 e3 e4 e5
    unfold maxLen at w5
    exact ⟨⟨n0, n1, n2, n3, n4, n5⟩, rfl, bounds_i64 w0, bounds_i64 w1, bounds_i64 w2, bounds_i64 w3, bounds_i64 w4, w5⟩

set_option maxRecDepth 100000 in
theorem open_arg {a : Option Addr} {len cap fuel : Nat} {x : DataW H × List MemPlace} (h : DataW.trod enc Try.prog w base spare held fuel 22 [.slice a len cap] = some x) :
    ∃ l : List Nd, l.length = len ∧ Arg w a cap l := by
  rcases Go.Deep.open_slice Try.underlying22 h with ⟨hcs, _⟩ | ⟨ad, len', cap', m, n, D, Pl, hcs, _, hl, hm, hmm, hx, hel⟩
  · simp only [List.cons.injEq, Value.slice.injEq, and_true] at hcs
    obtain ⟨rfl, rfl, rfl⟩ := hcs
    exact ⟨[], rfl, by omega, by simp, by simp, .inl rfl⟩
  · simp only [List.cons.injEq, Value.slice.injEq, and_true] at hcs
    obtain ⟨rfl, rfl, rfl⟩ := hcs
    unfold maxLen at hm
    rw [cellsOf_] at hel
    have hlm : len ≤ m := by rw [hmm]; split <;> omega
    have key : ∀ i, i < len → ∃ c : Nd, w.cells? base (ad.add (i * 6)) 6 = some c.vals ∧ c.ok := by
      intro i hi
      obtain ⟨cs', h1, h2⟩ := hel i (by omega)
      obtain ⟨c, rfl, ho⟩ := open_one h2
      exact ⟨c, h1, ho⟩
    haveI : Inhabited Nd := ⟨zero⟩
    obtain ⟨C, hC⟩ := Go.Deep.choose_lt key
    refine ⟨(List.range len).map C, by simp, hm, by simpa using hl, ?_, ?_⟩
    · intro c hc
      simp only [List.mem_map, List.mem_range] at hc
      obtain ⟨i, hi, rfl⟩ := hc
      exact (hC i hi).2
    · by_cases h0 : len = 0
      · left; subst h0; rfl
      · right
        obtain ⟨b, off, spot⟩ := ad
        have c0 := (World.cells?_some (hC 0 (by omega)).1).2.2 0 (by omega)
        have hs : spot = none := by
          have := World.cell?_spot (c0.trans rfl)
          simpa [Addr.add] using this
        subst hs
        have hblk : b < w.heap.size := by
          have := block_lt_of_cell (c0.trans rfl)
          rw [add_plain, add_plain] at this
          exact this
        refine ⟨b, off, rfl, hblk, ?_⟩
        intro i hi
        have hi' : i < len := by simpa using hi
        have e : ((List.range len).map C).getD i zero = C i := by simp [List.getD_eq_getElem?_getD, hi']
        rw [e]
        have cc := (World.cells?_some (hC i hi').1).2.2
        simp only [add_plain] at cc
        exact ⟨cc 0 (by omega), cc 1 (by omega), cc 2 (by omega), cc 3 (by omega), cc 4 (by omega), cc 5 (by omega)⟩
end
end Nd

end Go.Proofs.Ytokcefcjkjhnbaa
