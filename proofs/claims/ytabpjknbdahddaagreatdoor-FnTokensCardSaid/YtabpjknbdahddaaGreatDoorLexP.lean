/-
  impl: one token of a program.
-/
import Derived.Test.YtabpjknbdahddaaGreatDoorLexO
import Derived.Test.YtabpjknbdahddaaGreatDoorWhoI
import Derived.Test.YtabpjknbdahddaaGreatDoorRdT
import Derived.Test.YtabpjknbdahddaaGreatDoorDrwT
namespace Go.Proofs.YtabpjknbdahddaaGreatDoor
open Go.RowKit
set_option linter.unusedVariables false
set_option linter.unusedSimpArgs false


/-- The lexer stands at place k; the answer and the token that is made lie in the first two new blocks. -/
structure Tq (w wr : World) (b mb : Nat) (s : ByteArray) (k : Nat) (zs xs : List Value) : Prop where
  lx : Lx w wr b mb s k
  own : Own wr w.heap.size 33 zs
  var : Own wr (w.heap.size + 1) 33 xs
  hb : b < w.heap.size
  hm : mb < w.heap.size
theorem Tq.start {w : World} {b mb : Nat} {s : ByteArray} {k : Nat} (h : Lx w w b mb s k) : Tq w ((w.alloc (.cells #[.int .i64 0, .int .i64 0, .int .i64 0, .string ⟨#[]⟩] 33)).alloc (.cells #[.int .i64 0, .int .i64 (k : Int), .int .i64 0, .string ⟨#[]⟩] 33)) b mb s k [.int .i64 0, .int .i64 0, .int .i64 0, .string ⟨#[]⟩] [.int .i64 0, .int .i64 (k : Int), .int .i64 0, .string ⟨#[]⟩] := by
  have h1 : Own (w.alloc (.cells #[.int .i64 0, .int .i64 0, .int .i64 0, .string ⟨#[]⟩] 33)) w.heap.size 33 [.int .i64 0, .int .i64 0, .int .i64 0, .string ⟨#[]⟩] := ⟨_, heap_alloc_new _ _, rfl⟩
  have h2 : Own ((w.alloc (.cells #[.int .i64 0, .int .i64 0, .int .i64 0, .string ⟨#[]⟩] 33)).alloc (.cells #[.int .i64 0, .int .i64 (k : Int), .int .i64 0, .string ⟨#[]⟩] 33)) (w.alloc (.cells #[.int .i64 0, .int .i64 0, .int .i64 0, .string ⟨#[]⟩] 33)).heap.size 33 [.int .i64 0, .int .i64 (k : Int), .int .i64 0, .string ⟨#[]⟩] := ⟨_, heap_alloc_new _ _, rfl⟩
  rw [show (w.alloc (.cells #[.int .i64 0, .int .i64 0, .int .i64 0, .string ⟨#[]⟩] 33)).heap.size = w.heap.size + 1 by simp] at h2
  exact ⟨h.below (((Below.refl _ _).alloc (Nat.le_refl _) _).alloc (by simp) _), h1.alloc _, h2, Own.lt h.rd, h.map.lt⟩
theorem Tq.drewN {w wr : World} {b mb : Nat} {s : ByteArray} {k : Nat} {zs xs : List Value} (h : Tq w wr b mb s k zs xs) (q : Nat) : Tq w (wr.drewN q) b mb s k zs xs := ⟨h.lx.drewN q, h.own, h.var, h.hb, h.hm⟩
theorem Tq.setZ {w wr : World} {b mb : Nat} {s : ByteArray} {k : Nat} {zs xs : List Value} (h : Tq w wr b mb s k zs xs) (j : Nat) (u : Value) : Tq w (wr.setCell ⟨w.heap.size, j, none⟩ u) b mb s k (zs.set j u) xs := by
  have h1 := h.hb
  have h2 := h.hm
  have hn := fun (q : Nat) (hq : q ≠ w.heap.size) => heap_setCell_other wr ⟨w.heap.size, j, none⟩ q u hq
  exact ⟨⟨Own.setOther h.lx.rd _ _ (by show b ≠ w.heap.size; omega), ⟨h.lx.tch.os, h.lx.tch.tape, h.lx.tch.output, by have := h.lx.tch.size; simpa [World.setCell] using this, fun q hq hb => (hn q (by omega)).trans (h.lx.tch.block q hq hb)⟩, map_keep h.lx.map (hn mb (by omega)), h.lx.ne⟩, h.own.set j u, Own.setOther h.var _ _ (by show w.heap.size + 1 ≠ w.heap.size; omega), h1, h2⟩
theorem Tq.setV {w wr : World} {b mb : Nat} {s : ByteArray} {k : Nat} {zs xs : List Value} (h : Tq w wr b mb s k zs xs) (j : Nat) (u : Value) : Tq w (wr.setCell ⟨w.heap.size + 1, j, none⟩ u) b mb s k zs (xs.set j u) := by
  have h1 := h.hb
  have h2 := h.hm
  have hn := fun (q : Nat) (hq : q ≠ w.heap.size + 1) => heap_setCell_other wr ⟨w.heap.size + 1, j, none⟩ q u hq
  exact ⟨⟨Own.setOther h.lx.rd _ _ (by show b ≠ w.heap.size + 1; omega), ⟨h.lx.tch.os, h.lx.tch.tape, h.lx.tch.output, by have := h.lx.tch.size; simpa [World.setCell] using this, fun q hq hb => (hn q (by omega)).trans (h.lx.tch.block q hq hb)⟩, map_keep h.lx.map (hn mb (by omega)), h.lx.ne⟩, Own.setOther h.own _ _ (by show w.heap.size ≠ w.heap.size + 1; omega), h.var.set j u, h1, h2⟩
theorem Tq.go {w wr w2 : World} {b mb : Nat} {s : ByteArray} {k k2 : Nat} {zs xs : List Value} (h : Tq w wr b mb s k zs xs) (hr : Rd w2 b 56 s k2 [.map (some mb)]) (ht : Tch wr.heap.size b wr w2) : Tq w w2 b mb s k2 zs xs :=
  ⟨h.lx.go hr ht, ht.own h.own (Own.lt h.own) (by have := h.hb; omega), ht.own h.var (Own.lt h.var) (by have := h.hb; omega), h.hb, h.hm⟩
theorem Tq.lxgo {w wr w2 : World} {b mb : Nat} {s : ByteArray} {k k2 : Nat} {zs xs : List Value} (h : Tq w wr b mb s k zs xs) (h2 : Lx wr w2 b mb s k2) : Tq w w2 b mb s k2 zs xs := h.go h2.rd h2.tch
theorem Lx.self {w wr : World} {b mb : Nat} {s : ByteArray} {k : Nat} (h : Lx w wr b mb s k) : Lx wr wr b mb s k := ⟨h.rd, Tch.refl _ _ _, h.map, h.ne⟩

set_option maxRecDepth 100000 in
set_option maxHeartbeats 4000000 in
theorem token_nom (b mb : Nat) (s : ByteArray) (k m : Nat) (kd : Int) (tx : ByteArray) (w : World) (h : Lx w w b mb s k) (hk : k ≤ s.size) (hs : s.size ≤ 4000)
    (hd : (decide (48 ≤ J.peek s k) && decide (J.peek s k ≤ 57)) = false) (hq : J.peek s k ≠ 34)
    (HN : ∀ w1, Lx w1 w1 b mb s k → Calls Tryz.prog 98 #[.pointer (some ⟨b, 0, none⟩)] w1 fun e w' => e = .returned (.tuple #[.int .i64 kd, .string tx, .nilIface]) ∧ Lx w1 w' b mb s m) :
    Calls Tryz.prog 49 #[.pointer (some ⟨b, 0, none⟩)] w fun e w' => e = .returned (.tuple #[.agg #[.int .i64 kd, .int .i64 (k : Int), .int .i64 0, .string tx], .nilIface]) ∧ Lx w w' b mb s m := by
  have T0 := hide (fun q => (Tq.start h).drewN q)
  have HPK := hide (peek_any b _ s k _ ((w.alloc (.cells #[.int .i64 0, .int .i64 0, .int .i64 0, .string ⟨#[]⟩] 33)).alloc (.cells #[.int .i64 0, .int .i64 (k : Int), .int .i64 0, .string ⟨#[]⟩] 33)) (Tq.start h).lx.rd hk (by omega))
  have c1p : (w.alloc (.cells #[.int .i64 0, .int .i64 0, .int .i64 0, .string ⟨#[]⟩] 33)).cell? ⟨b, 1, none⟩ = some (.int .i64 (k : Int)) := (h.below ((Below.refl _ _).alloc (Nat.le_refl _) _)).rd.cell 1
  have HN := hide HN
  clear h
  go_enter Tryz.func49, Tryz.ntmps49
  go_wp2_with fail
  refine (unhide HPK).mono ?_
  rintro e w1 ⟨rfl, q1, hw1⟩
  have T1 := (unhide T0) q1
  rw [← hw1] at T1
  clear T0 HPK hw1 c1p
  generalize J.peek s k = pk at *
  go_wp2_with fail
  refine (isDigit_any _ _).mono ?_
  rintro e w2 ⟨rfl, hw2⟩
  rw [hw2]
  first | rw [hd] | rw [show (decide ((48 : Int) ≤ 34) && decide ((34 : Int) ≤ 57)) = false from by decide]
  clear hw2
  go_wp2_with fail
  refine ((unhide HN) _ T1.lx.self).mono ?_
  rintro e w2 ⟨rfl, hl⟩
  have T2 := T1.lxgo hl
  have u0 := T2.own.cell 0
  have u1 := T2.own.cell 1
  have u2 := T2.own.cell 2
  have u3 := T2.own.cell 3
  have v0 := T2.var.cell 0
  have v1 := T2.var.cell 1
  have v2 := T2.var.cell 2
  have v3 := T2.var.cell 3
  have y0 := T2.var.frozen 0
  have y2 := T2.var.frozen 2
  have y3 := T2.var.frozen 3
  have z0 := T2.own.frozen 0
  have z1 := T2.own.frozen 1
  have z2 := T2.own.frozen 2
  have z3 := T2.own.frozen 3
  simp only [List.getElem?_cons_zero, List.getElem?_cons_succ] at u0 u1 u2 u3 v0 v1 v2 v3
  have T3 := hide T2
  clear T1 T2 HN hl
  go_wp2_with fail
  refine bodyPost_ret (v := .tuple #[.agg #[.int .i64 kd, .int .i64 (k : Int), .int .i64 0, .string tx], .nilIface]) (by simp [results, Tryz.results49, go_sem, u0, u1, u2, u3]) rfl ⟨rfl, (((((((unhide T3).setV 0 _).setV 3 _).setZ 0 _).setZ 1 _).setZ 2 _).setZ 3 _).lx⟩

set_option maxRecDepth 100000 in
set_option maxHeartbeats 4000000 in
theorem token_num (b mb : Nat) (s : ByteArray) (k m : Nat) (c : Int) (w : World) (h : Lx w w b mb s k) (hk : k ≤ s.size) (hs : s.size ≤ 4000)
    (hd : (decide (48 ≤ J.peek s k) && decide (J.peek s k ≤ 57)) = true) (hR : J.wholeR s k = .inr (c, m))
    (ev : Value) (hev : ev = .nilIface ∨ ∃ te pe, ev = .iface te pe) (hG : 6 < w.heap.size) (hGb : 6 ≠ b) (hv : w.cell? ⟨6, 0, none⟩ = some ev) :
    Calls Tryz.prog 49 #[.pointer (some ⟨b, 0, none⟩)] w fun e w' => e = .returned (.tuple #[.agg #[.int .i64 1, .int .i64 (k : Int), .int .i64 c, .string ⟨#[]⟩], .nilIface]) ∧ Lx w w' b mb s m := by
  have T0 := hide (fun q => (Tq.start h).drewN q)
  have HPK := hide (peek_any b _ s k _ ((w.alloc (.cells #[.int .i64 0, .int .i64 0, .int .i64 0, .string ⟨#[]⟩] 33)).alloc (.cells #[.int .i64 0, .int .i64 (k : Int), .int .i64 0, .string ⟨#[]⟩] 33)) (Tq.start h).lx.rd hk (by omega))
  have c1p : (w.alloc (.cells #[.int .i64 0, .int .i64 0, .int .i64 0, .string ⟨#[]⟩] 33)).cell? ⟨b, 1, none⟩ = some (.int .i64 (k : Int)) := (h.below ((Below.refl _ _).alloc (Nat.le_refl _) _)).rd.cell 1
  have hR := hide hR
  have HN := hide (fun (wq : World) (xs : List Value) (T : Tq w wq b mb s k [.int .i64 0, .int .i64 0, .int .i64 0, .string ⟨#[]⟩] xs) => wholeNumber_any b _ s k _ wq T.lx.rd hk (by omega) ev hev (Nat.lt_of_lt_of_le hG T.lx.tch.size) hGb ((T.lx.tch.cell _ 0 hG hGb).trans hv))
  clear hev hG hGb hv
  clear h
  go_enter Tryz.func49, Tryz.ntmps49
  go_wp2_with fail
  refine (unhide HPK).mono ?_
  rintro e w1 ⟨rfl, q1, hw1⟩
  have T1 := (unhide T0) q1
  rw [← hw1] at T1
  clear T0 HPK hw1 c1p
  generalize J.peek s k = pk at *
  go_wp2_with fail
  refine (isDigit_any _ _).mono ?_
  rintro e w2 ⟨rfl, hw2⟩
  rw [hw2]
  first | rw [hd] | rw [show (decide ((48 : Int) ≤ 34) && decide ((34 : Int) ≤ 57)) = false from by decide]
  clear hw2
  have v0 := T1.var.cell 0
  have y0 := T1.var.frozen 0
  simp only [List.getElem?_cons_zero] at v0
  go_wp2_with fail
  refine ((unhide HN) _ _ (T1.setV 0 _)).mono ?_
  rintro e w2 ⟨hleft, ht2⟩
  obtain ⟨rfl, hr, hm⟩ : e = .returned (.tuple #[.int .i64 c, .nilIface]) ∧ Rd w2 b 56 s m [.map (some mb)] ∧ m ≤ s.size := by
    rcases hleft with ⟨c', m', hE, he, hm, hr⟩ | ⟨c', m', q, hE, _⟩
    · rw [unhide hR] at hE
      cases hE
      exact ⟨he, hr, hm⟩
    · rw [unhide hR] at hE
      cases hE
  have T2 := (T1.setV 0 (.int .i64 1)).go hr ht2
  have u0 := T2.own.cell 0
  have u1 := T2.own.cell 1
  have u2 := T2.own.cell 2
  have u3 := T2.own.cell 3
  have v0 := T2.var.cell 0
  have v1 := T2.var.cell 1
  have v2 := T2.var.cell 2
  have v3 := T2.var.cell 3
  have y0 := T2.var.frozen 0
  have y2 := T2.var.frozen 2
  have y3 := T2.var.frozen 3
  have z0 := T2.own.frozen 0
  have z1 := T2.own.frozen 1
  have z2 := T2.own.frozen 2
  have z3 := T2.own.frozen 3
  simp only [List.getElem?_cons_zero, List.getElem?_cons_succ] at u0 u1 u2 u3 v0 v1 v2 v3
  have T3 := hide T2
  clear T1 T2 HN ht2 hr hm hR hleft
  go_wp2_with fail
  refine bodyPost_ret (v := .tuple #[.agg #[.int .i64 1, .int .i64 (k : Int), .int .i64 c, .string ⟨#[]⟩], .nilIface]) (by simp [results, Tryz.results49, go_sem, u0, u1, u2, u3]) rfl ⟨rfl, ((((((unhide T3).setV 2 _).setZ 0 _).setZ 1 _).setZ 2 _).setZ 3 _).lx⟩

set_option maxRecDepth 100000 in
set_option maxHeartbeats 4000000 in
theorem token_str (b mb : Nat) (s : ByteArray) (k m : Nat) (l : List UInt8) (w : World) (h : Lx w w b mb s k) (hk : k ≤ s.size) (hs : s.size ≤ 4000)
    (hq : J.peek s k = 34) (hR : J.quotR s k = .inr (l, m)) :
    Calls Tryz.prog 49 #[.pointer (some ⟨b, 0, none⟩)] w fun e w' => e = .returned (.tuple #[.agg #[.int .i64 2, .int .i64 (k : Int), .int .i64 0, .string (J.bytes l)], .nilIface]) ∧ Lx w w' b mb s m := by
  have hd : (decide (48 ≤ J.peek s k) && decide (J.peek s k ≤ 57)) = false := by rw [hq]; rfl
  have T0 := hide (fun q => (Tq.start h).drewN q)
  have HPK := hide (peek_any b _ s k _ ((w.alloc (.cells #[.int .i64 0, .int .i64 0, .int .i64 0, .string ⟨#[]⟩] 33)).alloc (.cells #[.int .i64 0, .int .i64 (k : Int), .int .i64 0, .string ⟨#[]⟩] 33)) (Tq.start h).lx.rd hk (by omega))
  have c1p : (w.alloc (.cells #[.int .i64 0, .int .i64 0, .int .i64 0, .string ⟨#[]⟩] 33)).cell? ⟨b, 1, none⟩ = some (.int .i64 (k : Int)) := (h.below ((Below.refl _ _).alloc (Nat.le_refl _) _)).rd.cell 1
  have hR := hide hR
  have HN := hide (fun (wq : World) (xs : List Value) (T : Tq w wq b mb s k [.int .i64 0, .int .i64 0, .int .i64 0, .string ⟨#[]⟩] xs) => quoted_any b _ s k _ wq T.lx.rd hk (by omega))
  clear h
  go_enter Tryz.func49, Tryz.ntmps49
  go_wp2_with fail
  refine (unhide HPK).mono ?_
  rintro e w1 ⟨rfl, q1, hw1⟩
  have T1 := (unhide T0) q1
  rw [← hw1] at T1
  clear T0 HPK hw1 c1p
  generalize J.peek s k = pk at *
  go_wp2_with fail
  refine (isDigit_any _ _).mono ?_
  rintro e w2 ⟨rfl, hw2⟩
  rw [hw2]
  first | rw [hd] | rw [show (decide ((48 : Int) ≤ 34) && decide ((34 : Int) ≤ 57)) = false from by decide]
  clear hw2
  have v0 := T1.var.cell 0
  have y0 := T1.var.frozen 0
  simp only [List.getElem?_cons_zero] at v0
  go_wp2_with fail
  refine ((unhide HN) _ _ (T1.setV 0 _)).mono ?_
  rintro e w2 ⟨hleft, ht2⟩
  obtain ⟨rfl, hr, hm⟩ : e = .returned (.tuple #[.string (J.bytes l), .nilIface]) ∧ Rd w2 b 56 s m [.map (some mb)] ∧ m ≤ s.size := by
    rcases hleft with ⟨l', m', hE, he, hm, hr⟩ | ⟨c', m', q, hE, _⟩
    · rw [unhide hR] at hE
      cases hE
      exact ⟨he, hr, hm⟩
    · rw [unhide hR] at hE
      cases hE
  have T2 := (T1.setV 0 (.int .i64 2)).go hr ht2
  have u0 := T2.own.cell 0
  have u1 := T2.own.cell 1
  have u2 := T2.own.cell 2
  have u3 := T2.own.cell 3
  have v0 := T2.var.cell 0
  have v1 := T2.var.cell 1
  have v2 := T2.var.cell 2
  have v3 := T2.var.cell 3
  have y0 := T2.var.frozen 0
  have y2 := T2.var.frozen 2
  have y3 := T2.var.frozen 3
  have z0 := T2.own.frozen 0
  have z1 := T2.own.frozen 1
  have z2 := T2.own.frozen 2
  have z3 := T2.own.frozen 3
  simp only [List.getElem?_cons_zero, List.getElem?_cons_succ] at u0 u1 u2 u3 v0 v1 v2 v3
  have T3 := hide T2
  clear T1 T2 HN ht2 hr hm hR hleft
  go_wp2_with fail
  refine bodyPost_ret (v := .tuple #[.agg #[.int .i64 2, .int .i64 (k : Int), .int .i64 0, .string (J.bytes l)], .nilIface]) (by simp [results, Tryz.results49, go_sem, u0, u1, u2, u3]) rfl ⟨rfl, ((((((unhide T3).setV 3 _).setZ 0 _).setZ 1 _).setZ 2 _).setZ 3 _).lx⟩

end Go.Proofs.YtabpjknbdahddaaGreatDoor
