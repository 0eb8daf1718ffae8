/-
  impl.alive: what a pass leaves out that makes nothing.
-/
import Derived.Test.YtbaanpgbfncdnaaGreatQ34
namespace Go.Proofs.YtbaanpgbfncdnaaGreat
open Go.RowKit
set_option linter.unusedVariables false
set_option linter.unusedSimpArgs false

set_option maxRecDepth 100000 in
set_option maxHeartbeats 2000000 in
theorem alive_3 (p : Nat) (h : Hd) (L : List Ste) (P : List Nat) (Rs : List (List Nat)) (r : List Nat) (w : World) (H : Ste.Rd w p h L P Rs r) (hop : h.op = 3) : Calls Tryz.prog 40 #[.pointer (some ⟨p, 0, none⟩)] w (Ste.Told w Rs.flatten (Ste.one 3 h L)) := by
  have hl : L.length = 2 := H.two (k := 0) (by rw [hop]; rfl)
  have f0 := H.hN.op
  rw [hop] at f0
  obtain ⟨q, cap, c6, cq⟩ := H.parts (by omega)
  rw [hl] at c6
  have d0 := cq 0 (by omega)
  obtain ⟨k0, _, _⟩ := H.kid 0 (by omega)
  have d1 := cq 1 (by omega)
  obtain ⟨k1, _, _⟩ := H.kid 1 (by omega)
  clear cq
  generalize hp0 : P.getD 0 0 = p0 at d0 k0
  generalize hp1 : P.getD 1 0 = p1 at d1 k1
  have HT0 := hide (fun W (hb : Below w.heap.size w W) ho => H.tell (w' := W) (o := Ste.one 3 h L) 0 (by omega) ho hb)
  rw [hp0] at HT0
  have HNO := hide (fun W (hb : Below w.heap.size w W) (ho : Ste.one 3 h L = none) => Ste.Told.no (R := Rs.flatten) ho hb)
  have HDN := hide (Ste.dN w)
  by_cases h17 : (Ste.g L 0).hd.op = 17
  · have FIN := hide (fun W hb => (unhide HT0) W hb (show Ste.one 3 h L = some (Ste.g L 0) by simp [Ste.one, Ste.dead, hop, h17]))
    rw [h17] at k0
    have HE := hide (fun n => emptyYes p0 (some ⟨p0, 0, none⟩) (w.drewN n) k0)
    clear H HNO
    have f0q := fun n => show (w.drewN n).cell? _ = _ from f0
    have c6q := fun n => show (w.drewN n).cell? _ = _ from c6
    have d0q := fun n => show (w.drewN n).cell? _ = _ from d0
    have d1q := fun n => show (w.drewN n).cell? _ = _ from d1
    go_enter Tryz.func40, Tryz.ntmps40
    go_wp2_with fail
    go_quiet (first | (go_at_call 64; exact Calls.quiet_of_same ((unhide HE) _)))
    go_wp2_with fail
    go_ret
    exact (unhide FIN) _ ((unhide HDN) _)
  · have FIN := hide (fun W hb => (unhide HNO) W hb (show Ste.one 3 h L = none by simp [Ste.one, Ste.dead, hop, h17]))
    generalize (Ste.g L 0).hd.op = x at *
    have HE := hide (fun n => emptyNo p0 x (some ⟨p0, 0, none⟩) (w.drewN n) k0 h17)
    clear H HNO h17
    have f0q := fun n => show (w.drewN n).cell? _ = _ from f0
    have c6q := fun n => show (w.drewN n).cell? _ = _ from c6
    have d0q := fun n => show (w.drewN n).cell? _ = _ from d0
    have d1q := fun n => show (w.drewN n).cell? _ = _ from d1
    go_enter Tryz.func40, Tryz.ntmps40
    go_wp2_with fail
    go_quiet (first | (go_at_call 64; exact Calls.quiet_of_same ((unhide HE) _)))
    go_wp2_with fail
    go_ret
    exact (unhide FIN) _ ((unhide HDN) _)
set_option maxRecDepth 100000 in
set_option maxHeartbeats 2000000 in
theorem alive_7 (p : Nat) (h : Hd) (L : List Ste) (P : List Nat) (Rs : List (List Nat)) (r : List Nat) (w : World) (H : Ste.Rd w p h L P Rs r) (hop : h.op = 7) : Calls Tryz.prog 40 #[.pointer (some ⟨p, 0, none⟩)] w (Ste.Told w Rs.flatten (Ste.one 3 h L)) := by
  have hl : L.length = 2 := H.two (k := 0) (by rw [hop]; rfl)
  have f0 := H.hN.op
  rw [hop] at f0
  obtain ⟨q, cap, c6, cq⟩ := H.parts (by omega)
  rw [hl] at c6
  have d0 := cq 0 (by omega)
  obtain ⟨k0, _, _⟩ := H.kid 0 (by omega)
  have d1 := cq 1 (by omega)
  obtain ⟨k1, _, _⟩ := H.kid 1 (by omega)
  clear cq
  generalize hp0 : P.getD 0 0 = p0 at d0 k0
  generalize hp1 : P.getD 1 0 = p1 at d1 k1
  have HT0 := hide (fun W (hb : Below w.heap.size w W) ho => H.tell (w' := W) (o := Ste.one 3 h L) 0 (by omega) ho hb)
  rw [hp0] at HT0
  have HNO := hide (fun W (hb : Below w.heap.size w W) (ho : Ste.one 3 h L = none) => Ste.Told.no (R := Rs.flatten) ho hb)
  have HDN := hide (Ste.dN w)
  by_cases h17 : (Ste.g L 0).hd.op = 17
  · have FIN := hide (fun W hb => (unhide HT0) W hb (show Ste.one 3 h L = some (Ste.g L 0) by simp [Ste.one, Ste.dead, hop, h17]))
    rw [h17] at k0
    have HE := hide (fun n => emptyYes p0 (some ⟨p0, 0, none⟩) (w.drewN n) k0)
    clear H HNO
    have f0q := fun n => show (w.drewN n).cell? _ = _ from f0
    have c6q := fun n => show (w.drewN n).cell? _ = _ from c6
    have d0q := fun n => show (w.drewN n).cell? _ = _ from d0
    have d1q := fun n => show (w.drewN n).cell? _ = _ from d1
    go_enter Tryz.func40, Tryz.ntmps40
    go_wp2_with fail
    go_quiet (first | (go_at_call 64; exact Calls.quiet_of_same ((unhide HE) _)))
    go_wp2_with fail
    go_ret
    exact (unhide FIN) _ ((unhide HDN) _)
  · have FIN := hide (fun W hb => (unhide HNO) W hb (show Ste.one 3 h L = none by simp [Ste.one, Ste.dead, hop, h17]))
    generalize (Ste.g L 0).hd.op = x at *
    have HE := hide (fun n => emptyNo p0 x (some ⟨p0, 0, none⟩) (w.drewN n) k0 h17)
    clear H HNO h17
    have f0q := fun n => show (w.drewN n).cell? _ = _ from f0
    have c6q := fun n => show (w.drewN n).cell? _ = _ from c6
    have d0q := fun n => show (w.drewN n).cell? _ = _ from d0
    have d1q := fun n => show (w.drewN n).cell? _ = _ from d1
    go_enter Tryz.func40, Tryz.ntmps40
    go_wp2_with fail
    go_quiet (first | (go_at_call 64; exact Calls.quiet_of_same ((unhide HE) _)))
    go_wp2_with fail
    go_ret
    exact (unhide FIN) _ ((unhide HDN) _)
set_option maxRecDepth 100000 in
set_option maxHeartbeats 2000000 in
theorem alive_11 (p : Nat) (h : Hd) (L : List Ste) (P : List Nat) (Rs : List (List Nat)) (r : List Nat) (w : World) (H : Ste.Rd w p h L P Rs r) (hop : h.op = 11) : Calls Tryz.prog 40 #[.pointer (some ⟨p, 0, none⟩)] w (Ste.Told w Rs.flatten (Ste.one 3 h L)) := by
  have hl : L.length = 2 := H.two (k := 0) (by rw [hop]; rfl)
  have f0 := H.hN.op
  rw [hop] at f0
  obtain ⟨q, cap, c6, cq⟩ := H.parts (by omega)
  rw [hl] at c6
  have d0 := cq 0 (by omega)
  obtain ⟨k0, _, _⟩ := H.kid 0 (by omega)
  have d1 := cq 1 (by omega)
  obtain ⟨k1, _, _⟩ := H.kid 1 (by omega)
  clear cq
  generalize hp0 : P.getD 0 0 = p0 at d0 k0
  generalize hp1 : P.getD 1 0 = p1 at d1 k1
  have HT0 := hide (fun W (hb : Below w.heap.size w W) ho => H.tell (w' := W) (o := Ste.one 3 h L) 0 (by omega) ho hb)
  rw [hp0] at HT0
  have HNO := hide (fun W (hb : Below w.heap.size w W) (ho : Ste.one 3 h L = none) => Ste.Told.no (R := Rs.flatten) ho hb)
  have HDN := hide (Ste.dN w)
  by_cases h17 : (Ste.g L 0).hd.op = 17
  · have FIN := hide (fun W hb => (unhide HT0) W hb (show Ste.one 3 h L = some (Ste.g L 0) by simp [Ste.one, Ste.dead, hop, h17]))
    rw [h17] at k0
    have HE := hide (fun n => emptyYes p0 (some ⟨p0, 0, none⟩) (w.drewN n) k0)
    clear H HNO
    have f0q := fun n => show (w.drewN n).cell? _ = _ from f0
    have c6q := fun n => show (w.drewN n).cell? _ = _ from c6
    have d0q := fun n => show (w.drewN n).cell? _ = _ from d0
    have d1q := fun n => show (w.drewN n).cell? _ = _ from d1
    go_enter Tryz.func40, Tryz.ntmps40
    go_wp2_with fail
    go_quiet (first | (go_at_call 64; exact Calls.quiet_of_same ((unhide HE) _)))
    go_wp2_with fail
    go_ret
    exact (unhide FIN) _ ((unhide HDN) _)
  · have FIN := hide (fun W hb => (unhide HNO) W hb (show Ste.one 3 h L = none by simp [Ste.one, Ste.dead, hop, h17]))
    generalize (Ste.g L 0).hd.op = x at *
    have HE := hide (fun n => emptyNo p0 x (some ⟨p0, 0, none⟩) (w.drewN n) k0 h17)
    clear H HNO h17
    have f0q := fun n => show (w.drewN n).cell? _ = _ from f0
    have c6q := fun n => show (w.drewN n).cell? _ = _ from c6
    have d0q := fun n => show (w.drewN n).cell? _ = _ from d0
    have d1q := fun n => show (w.drewN n).cell? _ = _ from d1
    go_enter Tryz.func40, Tryz.ntmps40
    go_wp2_with fail
    go_quiet (first | (go_at_call 64; exact Calls.quiet_of_same ((unhide HE) _)))
    go_wp2_with fail
    go_ret
    exact (unhide FIN) _ ((unhide HDN) _)
set_option maxRecDepth 100000 in
set_option maxHeartbeats 2000000 in
theorem alive_14 (p : Nat) (h : Hd) (L : List Ste) (P : List Nat) (Rs : List (List Nat)) (r : List Nat) (w : World) (H : Ste.Rd w p h L P Rs r) (hop : h.op = 14) : Calls Tryz.prog 40 #[.pointer (some ⟨p, 0, none⟩)] w (Ste.Told w Rs.flatten (Ste.one 3 h L)) := by
  have hl : L.length = 2 := H.two (k := 0) (by rw [hop]; rfl)
  have f0 := H.hN.op
  rw [hop] at f0
  obtain ⟨q, cap, c6, cq⟩ := H.parts (by omega)
  rw [hl] at c6
  have d0 := cq 0 (by omega)
  obtain ⟨k0, _, _⟩ := H.kid 0 (by omega)
  have d1 := cq 1 (by omega)
  obtain ⟨k1, _, _⟩ := H.kid 1 (by omega)
  clear cq
  generalize hp0 : P.getD 0 0 = p0 at d0 k0
  generalize hp1 : P.getD 1 0 = p1 at d1 k1
  have HT0 := hide (fun W (hb : Below w.heap.size w W) ho => H.tell (w' := W) (o := Ste.one 3 h L) 0 (by omega) ho hb)
  rw [hp0] at HT0
  have HNO := hide (fun W (hb : Below w.heap.size w W) (ho : Ste.one 3 h L = none) => Ste.Told.no (R := Rs.flatten) ho hb)
  have HDN := hide (Ste.dN w)
  by_cases h17 : (Ste.g L 0).hd.op = 17
  · have FIN := hide (fun W hb => (unhide HT0) W hb (show Ste.one 3 h L = some (Ste.g L 0) by simp [Ste.one, Ste.dead, hop, h17]))
    rw [h17] at k0
    have HE := hide (fun n => emptyYes p0 (some ⟨p0, 0, none⟩) (w.drewN n) k0)
    clear H HNO
    have f0q := fun n => show (w.drewN n).cell? _ = _ from f0
    have c6q := fun n => show (w.drewN n).cell? _ = _ from c6
    have d0q := fun n => show (w.drewN n).cell? _ = _ from d0
    have d1q := fun n => show (w.drewN n).cell? _ = _ from d1
    go_enter Tryz.func40, Tryz.ntmps40
    go_wp2_with fail
    go_quiet (first | (go_at_call 64; exact Calls.quiet_of_same ((unhide HE) _)))
    go_wp2_with fail
    go_ret
    exact (unhide FIN) _ ((unhide HDN) _)
  · have FIN := hide (fun W hb => (unhide HNO) W hb (show Ste.one 3 h L = none by simp [Ste.one, Ste.dead, hop, h17]))
    generalize (Ste.g L 0).hd.op = x at *
    have HE := hide (fun n => emptyNo p0 x (some ⟨p0, 0, none⟩) (w.drewN n) k0 h17)
    clear H HNO h17
    have f0q := fun n => show (w.drewN n).cell? _ = _ from f0
    have c6q := fun n => show (w.drewN n).cell? _ = _ from c6
    have d0q := fun n => show (w.drewN n).cell? _ = _ from d0
    have d1q := fun n => show (w.drewN n).cell? _ = _ from d1
    go_enter Tryz.func40, Tryz.ntmps40
    go_wp2_with fail
    go_quiet (first | (go_at_call 64; exact Calls.quiet_of_same ((unhide HE) _)))
    go_wp2_with fail
    go_ret
    exact (unhide FIN) _ ((unhide HDN) _)
set_option maxRecDepth 100000 in
set_option maxHeartbeats 2000000 in
theorem alive_8 (p : Nat) (h : Hd) (L : List Ste) (P : List Nat) (Rs : List (List Nat)) (r : List Nat) (w : World) (H : Ste.Rd w p h L P Rs r) (hop : h.op = 8) : Calls Tryz.prog 40 #[.pointer (some ⟨p, 0, none⟩)] w (Ste.Told w Rs.flatten (Ste.one 3 h L)) := by
  have hl : L.length = 1 := H.two (k := 0) (by rw [hop]; rfl)
  have f0 := H.hN.op
  rw [hop] at f0
  obtain ⟨q, cap, c6, cq⟩ := H.parts (by omega)
  rw [hl] at c6
  have d0 := cq 0 (by omega)
  obtain ⟨k0, _, _⟩ := H.kid 0 (by omega)
  clear cq
  generalize hp0 : P.getD 0 0 = p0 at d0 k0
  have HT0 := hide (fun W (hb : Below w.heap.size w W) ho => H.tell (w' := W) (o := Ste.one 3 h L) 0 (by omega) ho hb)
  rw [hp0] at HT0
  have HNO := hide (fun W (hb : Below w.heap.size w W) (ho : Ste.one 3 h L = none) => Ste.Told.no (R := Rs.flatten) ho hb)
  have HDN := hide (Ste.dN w)
  by_cases h17 : (Ste.g L 0).hd.op = 17
  · have FIN := hide (fun W hb => (unhide HT0) W hb (show Ste.one 3 h L = some (Ste.g L 0) by simp [Ste.one, Ste.dead, hop, h17]))
    rw [h17] at k0
    have HE := hide (fun n => emptyYes p0 (some ⟨p0, 0, none⟩) (w.drewN n) k0)
    clear H HNO
    have f0q := fun n => show (w.drewN n).cell? _ = _ from f0
    have c6q := fun n => show (w.drewN n).cell? _ = _ from c6
    have d0q := fun n => show (w.drewN n).cell? _ = _ from d0
    go_enter Tryz.func40, Tryz.ntmps40
    go_wp2_with fail
    go_quiet (first | (go_at_call 64; exact Calls.quiet_of_same ((unhide HE) _)))
    go_wp2_with fail
    go_ret
    exact (unhide FIN) _ ((unhide HDN) _)
  · have FIN := hide (fun W hb => (unhide HNO) W hb (show Ste.one 3 h L = none by simp [Ste.one, Ste.dead, hop, h17]))
    generalize (Ste.g L 0).hd.op = x at *
    have HE := hide (fun n => emptyNo p0 x (some ⟨p0, 0, none⟩) (w.drewN n) k0 h17)
    clear H HNO h17
    have f0q := fun n => show (w.drewN n).cell? _ = _ from f0
    have c6q := fun n => show (w.drewN n).cell? _ = _ from c6
    have d0q := fun n => show (w.drewN n).cell? _ = _ from d0
    go_enter Tryz.func40, Tryz.ntmps40
    go_wp2_with fail
    go_quiet (first | (go_at_call 64; exact Calls.quiet_of_same ((unhide HE) _)))
    go_wp2_with fail
    go_ret
    exact (unhide FIN) _ ((unhide HDN) _)
set_option maxRecDepth 100000 in
set_option maxHeartbeats 2000000 in
theorem alive_9 (p : Nat) (h : Hd) (L : List Ste) (P : List Nat) (Rs : List (List Nat)) (r : List Nat) (w : World) (H : Ste.Rd w p h L P Rs r) (hop : h.op = 9) : Calls Tryz.prog 40 #[.pointer (some ⟨p, 0, none⟩)] w (Ste.Told w Rs.flatten (Ste.one 3 h L)) := by
  have hl : L.length = 1 := H.two (k := 0) (by rw [hop]; rfl)
  have f0 := H.hN.op
  rw [hop] at f0
  obtain ⟨q, cap, c6, cq⟩ := H.parts (by omega)
  rw [hl] at c6
  have d0 := cq 0 (by omega)
  obtain ⟨k0, _, _⟩ := H.kid 0 (by omega)
  clear cq
  generalize hp0 : P.getD 0 0 = p0 at d0 k0
  have HT0 := hide (fun W (hb : Below w.heap.size w W) ho => H.tell (w' := W) (o := Ste.one 3 h L) 0 (by omega) ho hb)
  rw [hp0] at HT0
  have HNO := hide (fun W (hb : Below w.heap.size w W) (ho : Ste.one 3 h L = none) => Ste.Told.no (R := Rs.flatten) ho hb)
  have HDN := hide (Ste.dN w)
  by_cases h17 : (Ste.g L 0).hd.op = 17
  · have FIN := hide (fun W hb => (unhide HT0) W hb (show Ste.one 3 h L = some (Ste.g L 0) by simp [Ste.one, Ste.dead, hop, h17]))
    rw [h17] at k0
    have HE := hide (fun n => emptyYes p0 (some ⟨p0, 0, none⟩) (w.drewN n) k0)
    clear H HNO
    have f0q := fun n => show (w.drewN n).cell? _ = _ from f0
    have c6q := fun n => show (w.drewN n).cell? _ = _ from c6
    have d0q := fun n => show (w.drewN n).cell? _ = _ from d0
    go_enter Tryz.func40, Tryz.ntmps40
    go_wp2_with fail
    go_quiet (first | (go_at_call 64; exact Calls.quiet_of_same ((unhide HE) _)))
    go_wp2_with fail
    go_ret
    exact (unhide FIN) _ ((unhide HDN) _)
  · have FIN := hide (fun W hb => (unhide HNO) W hb (show Ste.one 3 h L = none by simp [Ste.one, Ste.dead, hop, h17]))
    generalize (Ste.g L 0).hd.op = x at *
    have HE := hide (fun n => emptyNo p0 x (some ⟨p0, 0, none⟩) (w.drewN n) k0 h17)
    clear H HNO h17
    have f0q := fun n => show (w.drewN n).cell? _ = _ from f0
    have c6q := fun n => show (w.drewN n).cell? _ = _ from c6
    have d0q := fun n => show (w.drewN n).cell? _ = _ from d0
    go_enter Tryz.func40, Tryz.ntmps40
    go_wp2_with fail
    go_quiet (first | (go_at_call 64; exact Calls.quiet_of_same ((unhide HE) _)))
    go_wp2_with fail
    go_ret
    exact (unhide FIN) _ ((unhide HDN) _)
set_option maxRecDepth 100000 in
set_option maxHeartbeats 2000000 in
theorem alive_12 (p : Nat) (h : Hd) (L : List Ste) (P : List Nat) (Rs : List (List Nat)) (r : List Nat) (w : World) (H : Ste.Rd w p h L P Rs r) (hop : h.op = 12) : Calls Tryz.prog 40 #[.pointer (some ⟨p, 0, none⟩)] w (Ste.Told w Rs.flatten (Ste.one 3 h L)) := by
  have hl : L.length = 3 := H.two (k := 0) (by rw [hop]; rfl)
  have f0 := H.hN.op
  rw [hop] at f0
  obtain ⟨q, cap, c6, cq⟩ := H.parts (by omega)
  rw [hl] at c6
  have d0 := cq 0 (by omega)
  obtain ⟨k0, _, _⟩ := H.kid 0 (by omega)
  have d1 := cq 1 (by omega)
  obtain ⟨k1, _, _⟩ := H.kid 1 (by omega)
  have d2 := cq 2 (by omega)
  obtain ⟨k2, _, _⟩ := H.kid 2 (by omega)
  clear cq
  generalize hp0 : P.getD 0 0 = p0 at d0 k0
  generalize hp1 : P.getD 1 0 = p1 at d1 k1
  generalize hp2 : P.getD 2 0 = p2 at d2 k2
  have HT0 := hide (fun W (hb : Below w.heap.size w W) ho => H.tell (w' := W) (o := Ste.one 3 h L) 0 (by omega) ho hb)
  rw [hp0] at HT0
  have HNO := hide (fun W (hb : Below w.heap.size w W) (ho : Ste.one 3 h L = none) => Ste.Told.no (R := Rs.flatten) ho hb)
  have HDN := hide (Ste.dN w)
  by_cases h17 : (Ste.g L 0).hd.op = 17
  · have FIN := hide (fun W hb => (unhide HT0) W hb (show Ste.one 3 h L = some (Ste.g L 0) by simp [Ste.one, Ste.dead, hop, h17]))
    rw [h17] at k0
    have HE := hide (fun n => emptyYes p0 (some ⟨p0, 0, none⟩) (w.drewN n) k0)
    clear H HNO
    have f0q := fun n => show (w.drewN n).cell? _ = _ from f0
    have c6q := fun n => show (w.drewN n).cell? _ = _ from c6
    have d0q := fun n => show (w.drewN n).cell? _ = _ from d0
    have d1q := fun n => show (w.drewN n).cell? _ = _ from d1
    have d2q := fun n => show (w.drewN n).cell? _ = _ from d2
    go_enter Tryz.func40, Tryz.ntmps40
    go_wp2_with fail
    go_quiet (first | (go_at_call 64; exact Calls.quiet_of_same ((unhide HE) _)))
    go_wp2_with fail
    go_ret
    exact (unhide FIN) _ ((unhide HDN) _)
  · have FIN := hide (fun W hb => (unhide HNO) W hb (show Ste.one 3 h L = none by simp [Ste.one, Ste.dead, hop, h17]))
    generalize (Ste.g L 0).hd.op = x at *
    have HE := hide (fun n => emptyNo p0 x (some ⟨p0, 0, none⟩) (w.drewN n) k0 h17)
    clear H HNO h17
    have f0q := fun n => show (w.drewN n).cell? _ = _ from f0
    have c6q := fun n => show (w.drewN n).cell? _ = _ from c6
    have d0q := fun n => show (w.drewN n).cell? _ = _ from d0
    have d1q := fun n => show (w.drewN n).cell? _ = _ from d1
    have d2q := fun n => show (w.drewN n).cell? _ = _ from d2
    go_enter Tryz.func40, Tryz.ntmps40
    go_wp2_with fail
    go_quiet (first | (go_at_call 64; exact Calls.quiet_of_same ((unhide HE) _)))
    go_wp2_with fail
    go_ret
    exact (unhide FIN) _ ((unhide HDN) _)
set_option maxRecDepth 100000 in
set_option maxHeartbeats 2000000 in
theorem alive_6 (p : Nat) (h : Hd) (L : List Ste) (P : List Nat) (Rs : List (List Nat)) (r : List Nat) (w : World) (H : Ste.Rd w p h L P Rs r) (hop : h.op = 6) : Calls Tryz.prog 40 #[.pointer (some ⟨p, 0, none⟩)] w (Ste.Told w Rs.flatten (Ste.one 3 h L)) := by
  have hl : L.length = 2 := H.two (k := 0) (by rw [hop]; rfl)
  have f0 := H.hN.op
  rw [hop] at f0
  obtain ⟨q, cap, c6, cq⟩ := H.parts (by omega)
  rw [hl] at c6
  have d0 := cq 0 (by omega)
  obtain ⟨k0, _, _⟩ := H.kid 0 (by omega)
  have d1 := cq 1 (by omega)
  obtain ⟨k1, _, _⟩ := H.kid 1 (by omega)
  clear cq
  generalize hp0 : P.getD 0 0 = p0 at d0 k0
  generalize hp1 : P.getD 1 0 = p1 at d1 k1
  have HT1 := hide (fun W (hb : Below w.heap.size w W) ho => H.tell (w' := W) (o := Ste.one 3 h L) 1 (by omega) ho hb)
  rw [hp1] at HT1
  have HNO := hide (fun W (hb : Below w.heap.size w W) (ho : Ste.one 3 h L = none) => Ste.Told.no (R := Rs.flatten) ho hb)
  have HDN := hide (Ste.dN w)
  by_cases h17 : (Ste.g L 1).hd.op = 17
  · have FIN := hide (fun W hb => (unhide HT1) W hb (show Ste.one 3 h L = some (Ste.g L 1) by simp [Ste.one, Ste.dead, hop, h17]))
    rw [h17] at k1
    have HE := hide (fun n => emptyYes p1 (some ⟨p1, 0, none⟩) (w.drewN n) k1)
    clear H HNO
    have f0q := fun n => show (w.drewN n).cell? _ = _ from f0
    have c6q := fun n => show (w.drewN n).cell? _ = _ from c6
    have d0q := fun n => show (w.drewN n).cell? _ = _ from d0
    have d1q := fun n => show (w.drewN n).cell? _ = _ from d1
    go_enter Tryz.func40, Tryz.ntmps40
    go_wp2_with fail
    go_quiet (first | (go_at_call 64; exact Calls.quiet_of_same ((unhide HE) _)))
    go_wp2_with fail
    go_ret
    exact (unhide FIN) _ ((unhide HDN) _)
  · have FIN := hide (fun W hb => (unhide HNO) W hb (show Ste.one 3 h L = none by simp [Ste.one, Ste.dead, hop, h17]))
    generalize (Ste.g L 1).hd.op = x at *
    have HE := hide (fun n => emptyNo p1 x (some ⟨p1, 0, none⟩) (w.drewN n) k1 h17)
    clear H HNO h17
    have f0q := fun n => show (w.drewN n).cell? _ = _ from f0
    have c6q := fun n => show (w.drewN n).cell? _ = _ from c6
    have d0q := fun n => show (w.drewN n).cell? _ = _ from d0
    have d1q := fun n => show (w.drewN n).cell? _ = _ from d1
    go_enter Tryz.func40, Tryz.ntmps40
    go_wp2_with fail
    go_quiet (first | (go_at_call 64; exact Calls.quiet_of_same ((unhide HE) _)))
    go_wp2_with fail
    go_ret
    exact (unhide FIN) _ ((unhide HDN) _)
set_option maxRecDepth 100000 in
set_option maxHeartbeats 2000000 in
theorem alive_13 (p : Nat) (h : Hd) (L : List Ste) (P : List Nat) (Rs : List (List Nat)) (r : List Nat) (w : World) (H : Ste.Rd w p h L P Rs r) (hop : h.op = 13) : Calls Tryz.prog 40 #[.pointer (some ⟨p, 0, none⟩)] w (Ste.Told w Rs.flatten (Ste.one 3 h L)) := by
  have hl : L.length = 3 := H.two (k := 0) (by rw [hop]; rfl)
  have f0 := H.hN.op
  rw [hop] at f0
  obtain ⟨q, cap, c6, cq⟩ := H.parts (by omega)
  rw [hl] at c6
  have d0 := cq 0 (by omega)
  obtain ⟨k0, _, _⟩ := H.kid 0 (by omega)
  have d1 := cq 1 (by omega)
  obtain ⟨k1, _, _⟩ := H.kid 1 (by omega)
  have d2 := cq 2 (by omega)
  obtain ⟨k2, _, _⟩ := H.kid 2 (by omega)
  clear cq
  generalize hp0 : P.getD 0 0 = p0 at d0 k0
  generalize hp1 : P.getD 1 0 = p1 at d1 k1
  generalize hp2 : P.getD 2 0 = p2 at d2 k2
  have HT1 := hide (fun W (hb : Below w.heap.size w W) ho => H.tell (w' := W) (o := Ste.one 3 h L) 1 (by omega) ho hb)
  rw [hp1] at HT1
  have HNO := hide (fun W (hb : Below w.heap.size w W) (ho : Ste.one 3 h L = none) => Ste.Told.no (R := Rs.flatten) ho hb)
  have HDN := hide (Ste.dN w)
  by_cases h17 : (Ste.g L 1).hd.op = 17
  · have FIN := hide (fun W hb => (unhide HT1) W hb (show Ste.one 3 h L = some (Ste.g L 1) by simp [Ste.one, Ste.dead, hop, h17]))
    rw [h17] at k1
    have HE := hide (fun n => emptyYes p1 (some ⟨p1, 0, none⟩) (w.drewN n) k1)
    clear H HNO
    have f0q := fun n => show (w.drewN n).cell? _ = _ from f0
    have c6q := fun n => show (w.drewN n).cell? _ = _ from c6
    have d0q := fun n => show (w.drewN n).cell? _ = _ from d0
    have d1q := fun n => show (w.drewN n).cell? _ = _ from d1
    have d2q := fun n => show (w.drewN n).cell? _ = _ from d2
    go_enter Tryz.func40, Tryz.ntmps40
    go_wp2_with fail
    go_quiet (first | (go_at_call 64; exact Calls.quiet_of_same ((unhide HE) _)))
    go_wp2_with fail
    go_ret
    exact (unhide FIN) _ ((unhide HDN) _)
  · have FIN := hide (fun W hb => (unhide HNO) W hb (show Ste.one 3 h L = none by simp [Ste.one, Ste.dead, hop, h17]))
    generalize (Ste.g L 1).hd.op = x at *
    have HE := hide (fun n => emptyNo p1 x (some ⟨p1, 0, none⟩) (w.drewN n) k1 h17)
    clear H HNO h17
    have f0q := fun n => show (w.drewN n).cell? _ = _ from f0
    have c6q := fun n => show (w.drewN n).cell? _ = _ from c6
    have d0q := fun n => show (w.drewN n).cell? _ = _ from d0
    have d1q := fun n => show (w.drewN n).cell? _ = _ from d1
    have d2q := fun n => show (w.drewN n).cell? _ = _ from d2
    go_enter Tryz.func40, Tryz.ntmps40
    go_wp2_with fail
    go_quiet (first | (go_at_call 64; exact Calls.quiet_of_same ((unhide HE) _)))
    go_wp2_with fail
    go_ret
    exact (unhide FIN) _ ((unhide HDN) _)
set_option maxRecDepth 100000 in
set_option maxHeartbeats 2000000 in
theorem alive_4 (p : Nat) (h : Hd) (L : List Ste) (P : List Nat) (Rs : List (List Nat)) (r : List Nat) (w : World) (H : Ste.Rd w p h L P Rs r) (hop : h.op = 4) : Calls Tryz.prog 40 #[.pointer (some ⟨p, 0, none⟩)] w (Ste.Told w Rs.flatten (Ste.one 3 h L)) := by
  have hl : L.length = 2 := H.two (k := 0) (by rw [hop]; rfl)
  have f0 := H.hN.op
  rw [hop] at f0
  obtain ⟨q, cap, c6, cq⟩ := H.parts (by omega)
  rw [hl] at c6
  have d0 := cq 0 (by omega)
  obtain ⟨k0, _, _⟩ := H.kid 0 (by omega)
  have d1 := cq 1 (by omega)
  obtain ⟨k1, _, _⟩ := H.kid 1 (by omega)
  clear cq
  generalize hp0 : P.getD 0 0 = p0 at d0 k0
  generalize hp1 : P.getD 1 0 = p1 at d1 k1
  have HT0 := hide (fun W (hb : Below w.heap.size w W) ho => H.tell (w' := W) (o := Ste.one 3 h L) 0 (by omega) ho hb)
  have HT1 := hide (fun W (hb : Below w.heap.size w W) ho => H.tell (w' := W) (o := Ste.one 3 h L) 1 (by omega) ho hb)
  rw [hp0] at HT0
  rw [hp1] at HT1
  have HNO := hide (fun W (hb : Below w.heap.size w W) (ho : Ste.one 3 h L = none) => Ste.Told.no (R := Rs.flatten) ho hb)
  have HDN := hide (Ste.dN w)
  have HDD := hide (fun m n => (Ste.dN w m).trans ((Ste.dN (w.drewN m) n).mono (Ste.dN w m).size))
  by_cases h17 : (Ste.g L 0).hd.op = 17
  · have FIN := hide (fun W hb => (unhide HT1) W hb (show Ste.one 3 h L = some (Ste.g L 1) by simp [Ste.one, Ste.dead, hop, h17]))
    rw [h17] at k0
    have HE := hide (fun n => emptyYes p0 (some ⟨p1, 0, none⟩) (w.drewN n) k0)
    clear H HNO
    have f0q := fun n => show (w.drewN n).cell? _ = _ from f0
    have c6q := fun n => show (w.drewN n).cell? _ = _ from c6
    have d0q := fun n => show (w.drewN n).cell? _ = _ from d0
    have d1q := fun n => show (w.drewN n).cell? _ = _ from d1
    go_enter Tryz.func40, Tryz.ntmps40
    go_wp2_with fail
    go_quiet (first | (go_at_call 64; exact Calls.quiet_of_same ((unhide HE) _)))
    go_wp2_with fail
    go_ret
    exact (unhide FIN) _ ((unhide HDN) _)
  · by_cases g17 : (Ste.g L 1).hd.op = 17
    · have FIN := hide (fun W hb => (unhide HT0) W hb (show Ste.one 3 h L = some (Ste.g L 0) by simp [Ste.one, Ste.dead, hop, h17, g17]))
      rw [g17] at k1
      generalize (Ste.g L 0).hd.op = x at *
      have HE := hide (fun n => emptyNo p0 x (some ⟨p1, 0, none⟩) (w.drewN n) k0 h17)
      have HE1 := hide (fun (W : World) (h : W.cell? ⟨p1, 0, none⟩ = some (.int .i64 17)) => emptyYes p1 (some ⟨p0, 0, none⟩) W h)
      clear H HNO h17
      have f0q := fun n => show (w.drewN n).cell? _ = _ from f0
      have c6q := fun n => show (w.drewN n).cell? _ = _ from c6
      have d0q := fun n => show (w.drewN n).cell? _ = _ from d0
      have d1q := fun n => show (w.drewN n).cell? _ = _ from d1
      have k1q := fun n => show (w.drewN n).cell? _ = _ from k1
      go_enter Tryz.func40, Tryz.ntmps40
      go_wp2_with fail
      go_quiet (first | (go_at_call 64; exact Calls.quiet_of_same ((unhide HE) _)))
      obtain ⟨w9, hw9⟩ : ∃ w9, w9 = w.drewN nq := ⟨_, rfl⟩
      have B9 : Below w.heap.size w w9 := by rw [hw9]; exact (unhide HDN) nq
      have c69 := c6q nq
      have d09 := d0q nq
      have d19 := d1q nq
      have k19 := k1q nq
      rw [← hw9] at c69 d09 d19 k19
      have c6z := fun n => show (w9.drewN n).cell? _ = _ from c69
      have d0z := fun n => show (w9.drewN n).cell? _ = _ from d09
      have d1z := fun n => show (w9.drewN n).cell? _ = _ from d19
      have HE9 := hide (fun n => (unhide HE1) (w9.drewN n) k19)
      have HB9 := hide (fun n => B9.trans ((Ste.dN w9 n).mono B9.size))
      rw [← hw9]
      clear hw9
      go_wp2_with fail
      go_quiet (first | (go_at_call 64; exact Calls.quiet_of_same ((unhide HE9) _)))
      go_wp2_with fail
      go_ret
      exact (unhide FIN) _ ((unhide HB9) _)
    · have FIN := hide (fun W hb => (unhide HNO) W hb (show Ste.one 3 h L = none by simp [Ste.one, Ste.dead, hop, h17, g17]))
      generalize (Ste.g L 0).hd.op = x at *
      generalize (Ste.g L 1).hd.op = x1 at *
      have HE := hide (fun n => emptyNo p0 x (some ⟨p1, 0, none⟩) (w.drewN n) k0 h17)
      have HE1 := hide (fun (W : World) (h : W.cell? ⟨p1, 0, none⟩ = some (.int .i64 x1)) => emptyNo p1 x1 (some ⟨p0, 0, none⟩) W h g17)
      clear H HNO h17 g17
      have f0q := fun n => show (w.drewN n).cell? _ = _ from f0
      have c6q := fun n => show (w.drewN n).cell? _ = _ from c6
      have d0q := fun n => show (w.drewN n).cell? _ = _ from d0
      have d1q := fun n => show (w.drewN n).cell? _ = _ from d1
      have k1q := fun n => show (w.drewN n).cell? _ = _ from k1
      go_enter Tryz.func40, Tryz.ntmps40
      go_wp2_with fail
      go_quiet (first | (go_at_call 64; exact Calls.quiet_of_same ((unhide HE) _)))
      obtain ⟨w9, hw9⟩ : ∃ w9, w9 = w.drewN nq := ⟨_, rfl⟩
      have B9 : Below w.heap.size w w9 := by rw [hw9]; exact (unhide HDN) nq
      have c69 := c6q nq
      have d09 := d0q nq
      have d19 := d1q nq
      have k19 := k1q nq
      rw [← hw9] at c69 d09 d19 k19
      have c6z := fun n => show (w9.drewN n).cell? _ = _ from c69
      have d0z := fun n => show (w9.drewN n).cell? _ = _ from d09
      have d1z := fun n => show (w9.drewN n).cell? _ = _ from d19
      have HE9 := hide (fun n => (unhide HE1) (w9.drewN n) k19)
      have HB9 := hide (fun n => B9.trans ((Ste.dN w9 n).mono B9.size))
      rw [← hw9]
      clear hw9
      go_wp2_with fail
      go_quiet (first | (go_at_call 64; exact Calls.quiet_of_same ((unhide HE9) _)))
      go_wp2_with fail
      go_ret
      exact (unhide FIN) _ ((unhide HB9) _)
set_option maxRecDepth 100000 in
set_option maxHeartbeats 2000000 in
theorem alive_5 (p : Nat) (h : Hd) (L : List Ste) (P : List Nat) (Rs : List (List Nat)) (r : List Nat) (w : World) (H : Ste.Rd w p h L P Rs r) (hop : h.op = 5) : Calls Tryz.prog 40 #[.pointer (some ⟨p, 0, none⟩)] w (Ste.Told w Rs.flatten (Ste.one 3 h L)) := by
  have hl : L.length = 2 := H.two (k := 0) (by rw [hop]; rfl)
  have f0 := H.hN.op
  rw [hop] at f0
  obtain ⟨q, cap, c6, cq⟩ := H.parts (by omega)
  rw [hl] at c6
  have d0 := cq 0 (by omega)
  obtain ⟨k0, _, _⟩ := H.kid 0 (by omega)
  have d1 := cq 1 (by omega)
  obtain ⟨k1, _, _⟩ := H.kid 1 (by omega)
  clear cq
  generalize hp0 : P.getD 0 0 = p0 at d0 k0
  generalize hp1 : P.getD 1 0 = p1 at d1 k1
  obtain ⟨_, _, vv, kv, kr⟩ := H.kid 0 (by omega)
  rw [hp0] at kv
  have HT0 := hide (fun W (hb : Below w.heap.size w W) ho => H.tell (w' := W) (o := Ste.one 3 h L) 0 (by omega) ho hb)
  have HT1 := hide (fun W (hb : Below w.heap.size w W) ho => H.tell (w' := W) (o := Ste.one 3 h L) 1 (by omega) ho hb)
  rw [hp0] at HT0
  rw [hp1] at HT1
  have HNO := hide (fun W (hb : Below w.heap.size w W) (ho : Ste.one 3 h L = none) => Ste.Told.no (R := Rs.flatten) ho hb)
  have HDN := hide (Ste.dN w)
  have HVAL := hide (fun (h2 : (Ste.g L 0).hd.op = 2) => ((Ste.ok_iff _).1 (H.hO _ (Ste.g_mem (i := 0) (by omega)))).1.val (by rw [h2]; rfl))
  have HIS := hide (stemIs_any p0 _ 2 w k0)
  by_cases h2 : (Ste.g L 0).hd.op = 2
  · have hv := (unhide HVAL) h2
    have HTR := hide (stemTrue_any p0 vv _ w kv kr hv)
    have C6 := hide (fun W (hb : Below w.heap.size w W) => (hb.cell (by exact (H.hN.own).elim fun a h => by obtain ⟨b, c, v1, v2, o, _⟩ := h; exact o.lt)).trans c6)
    have HQL : q < w.heap.size := by
      rcases Nat.lt_or_ge q w.heap.size with hq | hq
      · exact hq
      · have hnone : w.heap[q]? = none := Array.getElem?_eq_none hq
        simp [World.cell?, hnone] at d0
    have D0 := hide (fun W (hb : Below w.heap.size w W) => (hb.cell (by exact HQL)).trans d0)
    have D1 := hide (fun W (hb : Below w.heap.size w W) => (hb.cell (by exact HQL)).trans d1)
    cases htr : truthy (Ste.g L 0).hd.val with
    | true =>
      have FIN := hide (fun W hb => (unhide HT0) W hb (show Ste.one 3 h L = some (Ste.g L 0) by simp [Ste.one, Ste.dead, hop, h2, htr]))
      rw [htr] at HTR
      rw [h2] at HIS
      clear H HNO HVAL kr kv k0 k1 htr h2
      go_enter Tryz.func40, Tryz.ntmps40
      go_wp2_with fail
      refine (unhide HIS).mono ?_
      rintro e w1 ⟨rfl, hw1⟩
      rw [hw1]
      clear hw1
      go_wp2_with fail
      refine (unhide HTR).mono ?_
      rintro e w2 ⟨rfl, hb2⟩
      have c6b := (unhide C6) w2 hb2
      have d0b := (unhide D0) w2 hb2
      go_wp2_with fail
      go_ret
      exact (unhide FIN) _ hb2
    | false =>
      have FIN := hide (fun W hb => (unhide HT1) W hb (show Ste.one 3 h L = some (Ste.g L 1) by simp [Ste.one, Ste.dead, hop, h2, htr]))
      rw [htr] at HTR
      rw [h2] at HIS
      clear H HNO HVAL kr kv k0 k1 htr h2
      go_enter Tryz.func40, Tryz.ntmps40
      go_wp2_with fail
      refine (unhide HIS).mono ?_
      rintro e w1 ⟨rfl, hw1⟩
      rw [hw1]
      clear hw1
      go_wp2_with fail
      refine (unhide HTR).mono ?_
      rintro e w2 ⟨rfl, hb2⟩
      have c6b := (unhide C6) w2 hb2
      have d1b := (unhide D1) w2 hb2
      go_wp2_with fail
      go_ret
      exact (unhide FIN) _ hb2
  · by_cases h17 : (Ste.g L 0).hd.op = 17
    · have FIN := hide (fun W hb => (unhide HT1) W hb (show Ste.one 3 h L = some (Ste.g L 1) by simp [Ste.one, Ste.dead, hop, h2, h17]))
      rw [h17] at k0 HIS
      have HE := hide (fun n => emptyYes p0 (some ⟨p1, 0, none⟩) (w.drewN n) k0)
      clear H HNO HVAL kr kv
      have f0q := fun n => show (w.drewN n).cell? _ = _ from f0
      have c6q := fun n => show (w.drewN n).cell? _ = _ from c6
      have d0q := fun n => show (w.drewN n).cell? _ = _ from d0
      have d1q := fun n => show (w.drewN n).cell? _ = _ from d1
      go_enter Tryz.func40, Tryz.ntmps40
      go_wp2_with fail
      refine (unhide HIS).mono ?_
      rintro e w1 ⟨rfl, hw1⟩
      rw [hw1]
      clear hw1
      go_wp2_with fail
      go_quiet (first | (go_at_call 64; exact Calls.quiet_of_same ((unhide HE) _)))
      go_wp2_with fail
      go_ret
      exact (unhide FIN) _ ((unhide HDN) _)
    · have FIN := hide (fun W hb => (unhide HNO) W hb (show Ste.one 3 h L = none by simp [Ste.one, Ste.dead, hop, h2, h17]))
      clear HVAL kr
      generalize (Ste.g L 0).hd.op = x at *
      have HE := hide (fun n => emptyNo p0 x (some ⟨p1, 0, none⟩) (w.drewN n) k0 h17)
      have g2 : (x == 2) = false := beq_eq_false_iff_ne.2 h2
      clear H HNO kv h2 h17
      have f0q := fun n => show (w.drewN n).cell? _ = _ from f0
      have c6q := fun n => show (w.drewN n).cell? _ = _ from c6
      have d0q := fun n => show (w.drewN n).cell? _ = _ from d0
      have d1q := fun n => show (w.drewN n).cell? _ = _ from d1
      go_enter Tryz.func40, Tryz.ntmps40
      go_wp2_with fail
      refine (unhide HIS).mono ?_
      rintro e w1 ⟨rfl, hw1⟩
      rw [hw1]
      clear hw1
      go_wp2_with fail
      go_quiet (first | (go_at_call 64; exact Calls.quiet_of_same ((unhide HE) _)))
      go_wp2_with fail
      go_ret
      exact (unhide FIN) _ ((unhide HDN) _)
set_option maxRecDepth 100000 in
set_option maxHeartbeats 2000000 in
theorem alive_no (p : Nat) (h : Hd) (L : List Ste) (P : List Nat) (Rs : List (List Nat)) (r : List Nat) (w : World) (H : Ste.Rd w p h L P Rs r) (hop : h.op = 1 ∨ h.op = 2 ∨ h.op = 10 ∨ h.op = 15 ∨ h.op = 16 ∨ h.op = 17) : Calls Tryz.prog 40 #[.pointer (some ⟨p, 0, none⟩)] w (Ste.Told w Rs.flatten (Ste.one 3 h L)) := by
  have f0 := H.hN.op
  have FIN := hide (Ste.Told.no (R := Rs.flatten) (o := Ste.one 3 h L) (by rcases hop with e | e | e | e | e | e <;> simp [Ste.one, Ste.dead, e]) (Below.refl w.heap.size w))
  clear H
  generalize h.op = x at *
  rcases hop with rfl | rfl | rfl | rfl | rfl | rfl
  all_goals
    go_enter Tryz.func40, Tryz.ntmps40
    go_wp2_with fail
    go_ret
    exact unhide FIN
theorem alive_any (p : Nat) (h : Hd) (L : List Ste) (P : List Nat) (Rs : List (List Nat)) (r : List Nat) (w : World) (H : Ste.Rd w p h L P Rs r) : Calls Tryz.prog 40 #[.pointer (some ⟨p, 0, none⟩)] w (Ste.Told w Rs.flatten (Ste.one 3 h L)) := by
  have ho := H.hF.op
  by_cases e : h.op = 1 ∨ h.op = 2 ∨ h.op = 10 ∨ h.op = 15 ∨ h.op = 16 ∨ h.op = 17
  · exact alive_no p h L P Rs r w H e
  have h2 : h.op = 3 ∨ h.op = 4 ∨ h.op = 5 ∨ h.op = 6 ∨ h.op = 7 ∨ h.op = 8 ∨ h.op = 9 ∨ h.op = 11 ∨ h.op = 12 ∨ h.op = 13 ∨ h.op = 14 := by omega
  rcases h2 with e | e | e | e | e | e | e | e | e | e | e
  · exact alive_3 p h L P Rs r w H e
  · exact alive_4 p h L P Rs r w H e
  · exact alive_5 p h L P Rs r w H e
  · exact alive_6 p h L P Rs r w H e
  · exact alive_7 p h L P Rs r w H e
  · exact alive_8 p h L P Rs r w H e
  · exact alive_9 p h L P Rs r w H e
  · exact alive_11 p h L P Rs r w H e
  · exact alive_12 p h L P Rs r w H e
  · exact alive_13 p h L P Rs r w H e
  · exact alive_14 p h L P Rs r w H e

end Go.Proofs.YtbaanpgbfncdnaaGreat
