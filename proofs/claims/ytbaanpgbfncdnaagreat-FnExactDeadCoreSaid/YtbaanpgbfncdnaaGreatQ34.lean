/-
  Stems in memory: a tree of structs whose parts lie in rows of pointers; what a pass may turn: these rows alone.
  Stems that are asked: is, isTrue; constantOf, ifEmpty.
  A stem whose parts went through a pass; impl.untried, impl.alive.
-/
import Derived.Test.YtbaanpgbfncdnaaGreatQ09
import Derived.Test.YtbaanpgbfncdnaaGreatQ10
import Derived.Test.YtbaanpgbfncdnaaGreatQ11
import Derived.Test.YtbaanpgbfncdnaaGreatQ30
import Derived.BigQuiet
import Derived.Deep.QuietTactic
namespace Go.Proofs.YtbaanpgbfncdnaaGreat
open Go.RowKit
set_option linter.unusedVariables false
set_option linter.unusedSimpArgs false
namespace Ste
/-- A row of pointers. -/
def Pw (w : World) (pv : Value) (P r : List Nat) : Prop := (pv = .slice none 0 0 ∧ P = [] ∧ r = []) ∨ ∃ q cap xs, pv = .slice (some ⟨q, 0, none⟩) P.length cap ∧ P.length ≤ cap ∧ r = [q] ∧ Own w q 57 xs ∧ ∀ i, i < P.length → xs[i]? = some (.pointer (some ⟨P.getD i 0, 0, none⟩))
/-- A stem by itself: its node, and the row of its parts. -/
def Nd (w : World) (p : Nat) (h : Hd) (P r : List Nat) : Prop := ∃ (a b c : Int) (vv pv : Value), Own w p 81 [.int .i64 h.op, .int .i64 a, .int .i64 b, .int .i64 c, .int .i64 h.num, vv, pv] ∧ Res w 0 vv h.val ∧ Pw w pv P r
/-- The tree s lies at p; R: the rows of its stems. -/
inductive Sh (w : World) : Ste → Nat → List Nat → Prop
  | mk {s : Ste} {p : Nat} {P : List Nat} {Rs : List (List Nat)} {r R : List Nat} (hP : P.length = s.ks.length) (hR : Rs.length = s.ks.length) (hN : Nd w p s.hd P r) (hS : ∀ i, i < s.ks.length → Sh w (g s.ks i) (P.getD i 0) (Rs.getD i [])) (hE : R = r ++ Rs.flatten) (hD : R.Nodup) : Sh w s p R
/-- Blocks that are kept: of the stems' and the values' kind, and those rows. -/
def Kr (R : List Nat) (w w' : World) : Prop := ∀ (k : Nat) (c : Array Value) (t : TypeId), w.heap[k]? = some (Obj.cells c t (0, 0)) → t = 81 ∨ t = 71 ∨ k ∈ R → w'.heap[k]? = w.heap[k]?
theorem Kr.sub {R R' : List Nat} {w w' : World} (h : Kr R w w') (hs : ∀ k ∈ R', k ∈ R) : Kr R' w w' := fun k c t h1 h2 => h k c t h1 (by rcases h2 with h2 | h2 | h2 <;> simp_all)
theorem Kr.own {R : List Nat} {w w' : World} (h : Kr R w w') {b : Nat} {t : TypeId} {xs : List Value} (ho : Own w b t xs) (ht : t = 81 ∨ t = 71 ∨ b ∈ R) : Own w' b t xs := by
  obtain ⟨c, q1, q2⟩ := ho
  exact ⟨c, (h b c t q1 ht).trans q1, q2⟩
theorem Kr.res {R : List Nat} {w w' : World} (h : Kr R w w') {B : Nat} {s : Value} {l : List M.Cl} (hr : Res w B s l) : Res w' B s l := by
  obtain ⟨hn, q | ⟨b, cap, h1, h2, h3, xs, h4, h5⟩⟩ := hr
  · exact ⟨hn, .inl q⟩
  · exact ⟨hn, .inr ⟨b, cap, h1, h2, h3, xs, h.own h4 (.inr (.inl rfl)), h5⟩⟩
theorem Kr.nd {R : List Nat} {w w' : World} (h : Kr R w w') {p : Nat} {hd : Hd} {P r : List Nat} (hN : Nd w p hd P r) (hr : ∀ k ∈ r, k ∈ R) : Nd w' p hd P r := by
  obtain ⟨a, b, c, vv, pv, h1, h2, h3⟩ := hN
  refine ⟨a, b, c, vv, pv, h.own h1 (.inl rfl), h.res h2, ?_⟩
  rcases h3 with h3 | ⟨q, cap, xs, e1, e2, e3, e4, e5⟩
  · exact .inl h3
  · exact .inr ⟨q, cap, xs, e1, e2, e3, h.own e4 (.inr (.inr (hr q (by rw [e3]; simp)))), e5⟩
theorem mem_flat {Rs : List (List Nat)} {i k : Nat} (h : k ∈ Rs.getD i []) : k ∈ Rs.flatten := by
  by_cases hi : i < Rs.length
  · rw [List.getD_eq_getElem?_getD, List.getElem?_eq_getElem hi] at h
    exact List.mem_flatten.2 ⟨_, List.getElem_mem hi, h⟩
  · rw [List.getD_eq_getElem?_getD, List.getElem?_eq_none (by omega)] at h
    cases h
theorem Sh.keep {R : List Nat} {w w' : World} {s : Ste} {p : Nat} (h : Sh w s p R) (hk : Kr R w w') : Sh w' s p R := by
  induction h with
  | mk hP hR hN hS hE hD ih =>
    subst hE
    exact .mk hP hR (hk.nd hN (fun k q => List.mem_append_left _ q)) (fun i hi => ih i hi (hk.sub fun k q => List.mem_append_right _ (mem_flat q))) rfl hD
theorem Kr.below {R : List Nat} {w w' : World} (h : Below w.heap.size w w') : Kr R w w' := fun k c t h1 _ => h.block k (Array.getElem?_eq_some_iff.1 h1).1
theorem Sh.lower {R : List Nat} {w w' : World} {s : Ste} {p : Nat} (h : Sh w s p R) (hb : Below w.heap.size w w') : Sh w' s p R := h.keep (Kr.below hb)
theorem Nd.typed {w : World} {p : Nat} {h : Hd} {P r : List Nat} (hN : Nd w p h P r) : ∀ k ∈ r, ∃ xs, Own w k 57 xs := by
  obtain ⟨_, _, _, _, _, _, _, h3⟩ := hN
  rcases h3 with ⟨_, _, rfl⟩ | ⟨q, cap, xs, _, _, rfl, e4, _⟩
  · intro k hk; cases hk
  · intro k hk; simp only [List.mem_singleton] at hk; subst hk; exact ⟨xs, e4⟩
/-- The rows of a tree are rows of pointers. -/
theorem Sh.typed {R : List Nat} {w : World} {s : Ste} {p : Nat} (h : Sh w s p R) : ∀ k ∈ R, ∃ xs, Own w k 57 xs := by
  induction h with
  | mk hP hR hN hS hE hD ih =>
    subst hE
    intro k hk
    rcases List.mem_append.1 hk with hk | hk
    · exact hN.typed k hk
    · obtain ⟨l, hl, hkl⟩ := List.mem_flatten.1 hk
      obtain ⟨i, hi, e⟩ := List.mem_iff_getElem.1 hl
      refine ih i (by omega) k ?_
      rw [List.getD_eq_getElem?_getD, List.getElem?_eq_getElem hi, Option.getD_some, e]
      exact hkl
theorem Sh.nodup {R : List Nat} {w : World} {s : Ste} {p : Nat} (h : Sh w s p R) : R.Nodup := by cases h; assumption
theorem Sh.lt {R : List Nat} {w : World} {s : Ste} {p : Nat} (h : Sh w s p R) : p < w.heap.size ∧ ∀ k ∈ R, k < w.heap.size := by
  refine ⟨?_, fun k hk => by obtain ⟨xs, o⟩ := h.typed k hk; exact o.lt⟩
  cases h with
  | mk hP hR hN hS hE hD => obtain ⟨a, b, c, vv, pv, h1, _⟩ := hN; exact h1.lt
/-- What a pass over a tree with the rows R leaves. -/
structure Fr (R : List Nat) (w w' : World) : Prop where
  os : w'.os = w.os
  tape : w'.tape = w.tape
  output : w'.output = w.output
  size : w.heap.size ≤ w'.heap.size
  block : ∀ k, k < w.heap.size → k ∉ R → w'.heap[k]? = w.heap[k]?
theorem Fr.refl (R : List Nat) (w : World) : Fr R w w := ⟨rfl, rfl, rfl, Nat.le_refl _, fun _ _ _ => rfl⟩
theorem Fr.trans {R : List Nat} {w w1 w2 : World} (h : Fr R w w1) (k : Fr R w1 w2) : Fr R w w2 :=
  ⟨k.os.trans h.os, k.tape.trans h.tape, k.output.trans h.output, Nat.le_trans h.size k.size, fun i h1 h2 => (k.block i (Nat.lt_of_lt_of_le h1 h.size) h2).trans (h.block i h1 h2)⟩
theorem Fr.sub {R R' : List Nat} {w w' : World} (h : Fr R w w') (hs : ∀ k ∈ R, k ∈ R') : Fr R' w w' := ⟨h.os, h.tape, h.output, h.size, fun i h1 h2 => h.block i h1 (fun q => h2 (hs i q))⟩
theorem Fr.ofBelow {R : List Nat} {w w' : World} (h : Below w.heap.size w w') : Fr R w w' := ⟨h.os, h.tape, h.output, h.size, fun i h1 _ => h.block i h1⟩
theorem Fr.below {R : List Nat} {w w' : World} {B : Nat} (h : Fr R w w') (hR : ∀ k ∈ R, B ≤ k) (hB : B ≤ w.heap.size) : Below B w w' := ⟨h.os, h.tape, h.output, h.size, fun i h1 => h.block i (by omega) (fun q => by have := hR i q; omega)⟩
/-- Blocks of another kind than rows of pointers are not among R. -/
theorem not_row {R : List Nat} {w : World} (hR : ∀ k ∈ R, ∃ xs, Own w k 57 xs) {b : Nat} {c : Array Value} {t : TypeId} (hb : w.heap[b]? = some (Obj.cells c t (0, 0))) (ht : t ≠ 57) : b ∉ R := by
  intro q
  obtain ⟨xs, c', q1, _⟩ := hR b q
  rw [hb] at q1
  simp only [Option.some.injEq, Obj.cells.injEq] at q1
  exact ht q1.2.1
theorem Fr.kr {R R' : List Nat} {w w' : World} (h : Fr R w w') (hR : ∀ k ∈ R, ∃ xs, Own w k 57 xs) (hd : ∀ k ∈ R', k ∉ R) : Kr R' w w' := fun k c t h1 h2 => by
  refine h.block k (Array.getElem?_eq_some_iff.1 h1).1 ?_
  rcases h2 with h2 | h2 | h2
  · exact not_row hR h1 (by rw [h2]; decide)
  · exact not_row hR h1 (by rw [h2]; decide)
  · exact hd k h2
end Ste
end Go.Proofs.YtbaanpgbfncdnaaGreat

namespace Go.Proofs.YtbaanpgbfncdnaaGreat
open Go.RowKit
set_option linter.unusedVariables false
set_option linter.unusedSimpArgs false

namespace Ste
theorem Nd.own {w : World} {p : Nat} {h : Hd} {P r : List Nat} (hN : Nd w p h P r) : ∃ (a b c : Int) (vv pv : Value), Own w p 81 [.int .i64 h.op, .int .i64 a, .int .i64 b, .int .i64 c, .int .i64 h.num, vv, pv] ∧ Res w 0 vv h.val ∧ Pw w pv P r := hN
theorem Nd.op {w : World} {p : Nat} {h : Hd} {P r : List Nat} (hN : Nd w p h P r) : w.cell? ⟨p, 0, none⟩ = some (.int .i64 h.op) := by obtain ⟨a, b, c, vv, pv, h1, _⟩ := hN; exact h1.cell 0
theorem Nd.num {w : World} {p : Nat} {h : Hd} {P r : List Nat} (hN : Nd w p h P r) : w.cell? ⟨p, 4, none⟩ = some (.int .i64 h.num) := by obtain ⟨a, b, c, vv, pv, h1, _⟩ := hN; exact h1.cell 4
theorem Nd.val {w : World} {p : Nat} {h : Hd} {P r : List Nat} (hN : Nd w p h P r) : ∃ vv, w.cell? ⟨p, 5, none⟩ = some vv ∧ Res w 0 vv h.val := by obtain ⟨a, b, c, vv, pv, h1, h2, _⟩ := hN; exact ⟨vv, h1.cell 5, h2⟩
theorem Sh.nd {w : World} {s : Ste} {p : Nat} {R : List Nat} (h : Sh w s p R) : ∃ P r, Nd w p s.hd P r := by cases h with | mk hP hR hN hS hE hD => exact ⟨_, _, hN⟩
/-- A value that is told lies at a place. -/
theorem val_at {w : World} {B : Nat} {vv : Value} {l : List M.Cl} (h : Res w B vv l) (hl : 1 ≤ l.length) : ∃ g cap, vv = .slice (some ⟨g, 0, none⟩) l.length cap ∧ g < w.heap.size ∧ Row w g 0 l ∧ l.length ≤ cap ∧ l.length ≤ 1048576 := by
  obtain ⟨hn, ⟨_, h2⟩ | ⟨b, cap, h1, h2, h3, h4⟩⟩ := h
  · rw [h2] at hl; simp at hl
  · exact ⟨b, cap, h1, h4.lt, h4.row, h3, hn⟩
end Ste
set_option maxHeartbeats 1000000 in
theorem stemIs_any (p : Nat) (op x : Int) (w : World) (h : w.cell? ⟨p, 0, none⟩ = some (.int .i64 op)) : Calls Tryz.prog 59 #[.pointer (some ⟨p, 0, none⟩), .int .i64 x] w fun e w' => e = .returned (.bool (op == x)) ∧ w' = w := by
  go_enter Tryz.func59, Tryz.ntmps59
  go_wp2_with fail
  go_ret
  exact ⟨rfl, rfl⟩
set_option maxHeartbeats 1000000 in
theorem stemTrue_any (p : Nat) (vv : Value) (l : List M.Cl) (w : World) (h : w.cell? ⟨p, 5, none⟩ = some vv) (hr : Res w 0 vv l) (hv : M.valueFault l = 0) : Calls Tryz.prog 60 #[.pointer (some ⟨p, 0, none⟩)] w fun e w' => e = .returned (.bool (truthy l)) ∧ Below w.heap.size w w' := by
  obtain ⟨g, cap, rfl, hg, hrow, hcap, hn⟩ := Ste.val_at hr (len_of_valid hv).1
  have HC := hide (implTruthy_any l g 0 cap w hrow hg hn hcap (ok_of_valid hv))
  clear hr hrow hv
  go_enter Tryz.func60, Tryz.ntmps60
  go_wp2_with fail
  refine (unhide HC).mono ?_
  rintro e w1 ⟨rfl, hb⟩
  go_wp2_with fail
  go_ret
  exact ⟨rfl, hb⟩
set_option maxHeartbeats 1000000 in
theorem stemEmpty_any (p : Nat) (op : Int) (q : Option Addr) (w : World) (h : w.cell? ⟨p, 0, none⟩ = some (.int .i64 op)) : Calls Tryz.prog 64 #[.pointer (some ⟨p, 0, none⟩), .pointer q] w fun e w' => e = .returned (.pointer (if op = 17 then q else none)) ∧ w' = w := by
  obtain ⟨Q, hQ⟩ : ∃ Q, Q = (if op = 17 then q else none) := ⟨_, rfl⟩
  rw [← hQ]
  by_cases ho : op = 17
  · have g1 : (op == 17) = true := by simpa using ho
    have fin := hide (show Q = q by rw [hQ, if_pos ho])
    clear ho hQ
    go_enter Tryz.func64, Tryz.ntmps64
    go_wp2_with fail
    refine (stemIs_any p op 17 w h).mono ?_
    rintro e w1 ⟨rfl, hw1⟩
    rw [hw1]
    clear hw1
    go_wp2_with fail
    go_ret
    exact ⟨by rw [unhide fin] <;> rfl, rfl⟩
  · have g1 : (op == 17) = false := by simpa using ho
    have fin := hide (show Q = none by rw [hQ, if_neg ho])
    clear ho hQ
    go_enter Tryz.func64, Tryz.ntmps64
    go_wp2_with fail
    refine (stemIs_any p op 17 w h).mono ?_
    rintro e w1 ⟨rfl, hw1⟩
    rw [hw1]
    clear hw1
    go_wp2_with fail
    go_ret
    exact ⟨by rw [unhide fin] <;> rfl, rfl⟩
namespace Ste
/-- What is told in place of a stem with the rows R. -/
def Told (w : World) (R : List Nat) (o : Option Ste) (e : Ending) (w' : World) : Prop := Below w.heap.size w w' ∧ match o with
  | none => e = .returned (.pointer none)
  | some s => ∃ p R', e = .returned (.pointer (some ⟨p, 0, none⟩)) ∧ Sh w' s p R' ∧ ∀ k ∈ R', k ∈ R
theorem Told.no {w w' : World} {R : List Nat} {o : Option Ste} (h : o = none) (hb : Below w.heap.size w w') : Told w R o (.returned (.pointer none)) w' := ⟨hb, by rw [h]⟩
theorem Told.yes {w w' : World} {R R' : List Nat} {o : Option Ste} {s : Ste} {p : Nat} (h : o = some s) (hb : Below w.heap.size w w') (hs : Sh w' s p R') (hr : ∀ k ∈ R', k ∈ R) : Told w R o (.returned (.pointer (some ⟨p, 0, none⟩))) w' := ⟨hb, by rw [h]; exact ⟨p, R', rfl, hs, hr⟩⟩
end Ste
end Go.Proofs.YtbaanpgbfncdnaaGreat

namespace Go.Proofs.YtbaanpgbfncdnaaGreat
open Go.RowKit
set_option linter.unusedVariables false
set_option linter.unusedSimpArgs false

namespace Ste
/-- A stem whose parts lie as trees. -/
structure Rd (w : World) (p : Nat) (h : Hd) (L : List Ste) (P : List Nat) (Rs : List (List Nat)) (r : List Nat) : Prop where
  hP : P.length = L.length
  hR : Rs.length = L.length
  hN : Nd w p h P r
  hS : ∀ i, i < L.length → Sh w (g L i) (P.getD i 0) (Rs.getD i [])
  hF : Fit h L.length
  hO : ∀ k ∈ L, Ok k
theorem Rd.parts {w : World} {p : Nat} {h : Hd} {L : List Ste} {P : List Nat} {Rs : List (List Nat)} {r : List Nat} (H : Rd w p h L P Rs r) (hl : 0 < L.length) : ∃ q cap, w.cell? ⟨p, 6, none⟩ = some (.slice (some ⟨q, 0, none⟩) L.length cap) ∧ ∀ i, i < L.length → w.cell? ⟨q, i, none⟩ = some (.pointer (some ⟨P.getD i 0, 0, none⟩)) := by
  obtain ⟨a, b, c, vv, pv, h1, _, h3⟩ := H.hN
  have hP := H.hP
  rcases h3 with ⟨_, e, _⟩ | ⟨q, cap, xs, e1, e2, e3, e4, e5⟩
  · rw [e] at hP; simp at hP; omega
  · refine ⟨q, cap, ?_, fun i hi => (e4.cell i).trans (e5 i (by omega))⟩
    have := h1.cell 6
    rw [e1, hP] at this
    exact this
theorem Rd.kid {w : World} {p : Nat} {h : Hd} {L : List Ste} {P : List Nat} {Rs : List (List Nat)} {r : List Nat} (H : Rd w p h L P Rs r) (i : Nat) (hi : i < L.length) : w.cell? ⟨P.getD i 0, 0, none⟩ = some (.int .i64 (g L i).hd.op) ∧ w.cell? ⟨P.getD i 0, 4, none⟩ = some (.int .i64 (g L i).hd.num) ∧ ∃ vv, w.cell? ⟨P.getD i 0, 5, none⟩ = some vv ∧ Res w 0 vv (g L i).hd.val := by
  obtain ⟨P', r', hN⟩ := (H.hS i hi).nd
  exact ⟨hN.op, hN.num, hN.val⟩
theorem Rd.two {w : World} {p : Nat} {h : Hd} {L : List Ste} {P : List Nat} {Rs : List (List Nat)} {r : List Nat} (H : Rd w p h L P Rs r) {k n : Nat} (ho : Co.kids h.op = n) : L.length = n := by rw [← H.hF.kid, ho]
/-- A part is told. -/
theorem Rd.tell {w w' : World} {p : Nat} {h : Hd} {L : List Ste} {P : List Nat} {Rs : List (List Nat)} {r : List Nat} (H : Rd w p h L P Rs r) {o : Option Ste} (i : Nat) (hi : i < L.length) (ho : o = some (g L i)) (hb : Below w.heap.size w w') : Told w Rs.flatten o (.returned (.pointer (some ⟨P.getD i 0, 0, none⟩))) w' :=
  Told.yes ho hb ((H.hS i hi).lower hb) (fun k hk => mem_flat hk)
theorem dN (w : World) (n : Nat) : Below w.heap.size w (w.drewN n) := below_drewN (Below.refl _ _) n
end Ste
theorem emptyYes (p : Nat) (q : Option Addr) (w : World) (h : w.cell? ⟨p, 0, none⟩ = some (.int .i64 17)) : Calls Tryz.prog 64 #[.pointer (some ⟨p, 0, none⟩), .pointer q] w fun e w' => e = .returned (.pointer q) ∧ w' = w := by
  refine (stemEmpty_any p 17 q w h).mono ?_
  rintro e w' ⟨h1, h2⟩
  rw [if_pos rfl] at h1
  exact ⟨h1, h2⟩
theorem emptyNo (p : Nat) (op : Int) (q : Option Addr) (w : World) (h : w.cell? ⟨p, 0, none⟩ = some (.int .i64 op)) (ho : op ≠ 17) : Calls Tryz.prog 64 #[.pointer (some ⟨p, 0, none⟩), .pointer q] w fun e w' => e = .returned (.pointer none) ∧ w' = w := by
  refine (stemEmpty_any p op q w h).mono ?_
  rintro e w' ⟨h1, h2⟩
  rw [if_neg ho] at h1
  exact ⟨h1, h2⟩
set_option maxRecDepth 100000 in
set_option maxHeartbeats 2000000 in
theorem untried_9 (p : Nat) (h : Hd) (L : List Ste) (P : List Nat) (Rs : List (List Nat)) (r : List Nat) (w : World) (H : Ste.Rd w p h L P Rs r) (hop : h.op = 9) : Calls Tryz.prog 41 #[.pointer (some ⟨p, 0, none⟩)] w (Ste.Told w Rs.flatten (Ste.one 4 h L)) := by
  have hl : L.length = 1 := H.two (k := 0) (by rw [hop]; rfl)
  have f0 := H.hN.op
  rw [hop] at f0
  obtain ⟨q, cap, c6, cq⟩ := H.parts (by omega)
  rw [hl] at c6
  have d0 := cq 0 (by omega)
  obtain ⟨k0, _, _⟩ := H.kid 0 (by omega)
  clear cq
  generalize hp0 : P.getD 0 0 = p0 at d0 k0
  have HT := hide (fun ho => H.tell (w' := w) (o := Ste.one 4 h L) 0 (by omega) ho (Below.refl _ _))
  rw [hp0] at HT
  have HNO := hide (fun (ho : Ste.one 4 h L = none) => Ste.Told.no (R := Rs.flatten) ho (Below.refl w.heap.size w))
  have HY := hide (show ∀ x : Int, (Ste.g L 0).hd.op = x → x = 2 ∨ x = 1 ∨ x = 15 ∨ x = 17 ∨ x = 9 → Ste.one 4 h L = some (Ste.g L 0) from fun x e hx => by
    unfold Ste.one Ste.tried; rw [if_neg (by decide), if_neg (by decide), if_neg (by decide), if_pos hop, if_pos (by rw [e]; exact hx)])
  have HN := hide (show ∀ x : Int, (Ste.g L 0).hd.op = x → ¬ (x = 2 ∨ x = 1 ∨ x = 15 ∨ x = 17 ∨ x = 9) → Ste.one 4 h L = none from fun x e hx => by
    unfold Ste.one Ste.tried; rw [if_neg (by decide), if_neg (by decide), if_neg (by decide), if_pos hop, if_neg (by rw [e]; exact hx)])
  generalize hx : (Ste.g L 0).hd.op = x at k0
  have HIS := hide (stemIs_any p 9 9 w f0)
  clear H
  by_cases hq : x = 2 ∨ x = 1 ∨ x = 15 ∨ x = 17 ∨ x = 9
  · have FIN := hide ((unhide HT) ((unhide HY) x hx hq))
    clear HT HNO HY HN hx
    rcases hq with rfl | rfl | rfl | rfl | rfl
    all_goals
      go_enter Tryz.func41, Tryz.ntmps41
      go_wp2_with fail
      refine (unhide HIS).mono ?_
      rintro e w1 ⟨rfl, hw1⟩
      rw [hw1]
      clear hw1
      go_wp2_with fail
      go_ret
      exact unhide FIN
  · have FIN := hide ((unhide HNO) ((unhide HN) x hx hq))
    have e2 : (x == 2) = false := beq_eq_false_iff_ne.2 (fun e => hq (by simp [e]))
    have e1 : (x == 1) = false := beq_eq_false_iff_ne.2 (fun e => hq (by simp [e]))
    have e15 : (x == 15) = false := beq_eq_false_iff_ne.2 (fun e => hq (by simp [e]))
    have e17 : (x == 17) = false := beq_eq_false_iff_ne.2 (fun e => hq (by simp [e]))
    have e9 : (x == 9) = false := beq_eq_false_iff_ne.2 (fun e => hq (by simp [e]))
    clear HT HNO HY HN hx hq
    go_enter Tryz.func41, Tryz.ntmps41
    go_wp2_with fail
    refine (unhide HIS).mono ?_
    rintro e w1 ⟨rfl, hw1⟩
    rw [hw1]
    clear hw1
    go_wp2_with fail
    go_ret
    exact unhide FIN
set_option maxRecDepth 100000 in
set_option maxHeartbeats 2000000 in
theorem untried_no (p : Nat) (h : Hd) (L : List Ste) (P : List Nat) (Rs : List (List Nat)) (r : List Nat) (w : World) (H : Ste.Rd w p h L P Rs r) (hop : h.op ≠ 9) : Calls Tryz.prog 41 #[.pointer (some ⟨p, 0, none⟩)] w (Ste.Told w Rs.flatten (Ste.one 4 h L)) := by
  have f0 := H.hN.op
  have FIN := hide (Ste.Told.no (R := Rs.flatten) (o := Ste.one 4 h L) (by unfold Ste.one Ste.tried; rw [if_neg (by decide), if_neg (by decide), if_neg (by decide), if_neg hop]) (Below.refl w.heap.size w))
  have HIS := hide (stemIs_any p h.op 9 w f0)
  have e9 : (h.op == 9) = false := beq_eq_false_iff_ne.2 hop
  generalize h.op = x at *
  clear H hop
  go_enter Tryz.func41, Tryz.ntmps41
  go_wp2_with fail
  refine (unhide HIS).mono ?_
  rintro e w1 ⟨rfl, hw1⟩
  rw [hw1]
  clear hw1
  go_wp2_with fail
  go_ret
  exact unhide FIN
theorem untried_any (p : Nat) (h : Hd) (L : List Ste) (P : List Nat) (Rs : List (List Nat)) (r : List Nat) (w : World) (H : Ste.Rd w p h L P Rs r) : Calls Tryz.prog 41 #[.pointer (some ⟨p, 0, none⟩)] w (Ste.Told w Rs.flatten (Ste.one 4 h L)) := by
  by_cases hop : h.op = 9
  · exact untried_9 p h L P Rs r w H hop
  · exact untried_no p h L P Rs r w H hop

end Go.Proofs.YtbaanpgbfncdnaaGreat
