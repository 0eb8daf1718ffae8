/-
  impl: the name with which a text begins; a name or a mark of a program.
-/
import Derived.Test.YtabpjknbdahddaaGreatDoorNamT
import Derived.Test.YtabpjknbdahddaaGreatDoorMrkT
import Derived.Test.YtabpjknbdahddaaGreatDoorTokI
import Derived.Test.YtabpjknbdahddaaGreatDoorNumI
import Derived.Test.YtabpjknbdahddaaGreatDoorShelfC
import Derived.Maps.Own
namespace Go.Proofs.YtabpjknbdahddaaGreatDoor
open Go.RowKit
set_option linter.unusedVariables false
set_option linter.unusedSimpArgs false


/-- The name with which a text begins, or nothing. -/
def J.leadP (s : ByteArray) : ByteArray := if J.isName (s.extract 0 (J.nrun s 0)) = true then s.extract 0 (J.nrun s 0) else ByteArray.empty
set_option maxHeartbeats 1000000 in
theorem leadingName_any (s : ByteArray) (w : World) (hs : s.size ≤ 1048576) : Calls Tryz.prog 137 #[.string s] w fun e w' => e = .returned (.string (J.leadP s)) ∧ Below w.heap.size w w' := by
  have hn := (J.nrun_le s 0 (Nat.zero_le _)).2
  have hnz : (J.nrun s 0 : Int) ≤ (s.size : Int) := by omega
  have hsz : (s.extract 0 (J.nrun s 0)).size ≤ 1048576 := by rw [ByteArray.size_extract]; omega
  have HI := hide (fun w => implIsName_any (s.extract 0 (J.nrun s 0)) w hsz)
  go_enter Tryz.func137, Tryz.ntmps137
  go_wp2_with fail
  refine (nameRun_any s _ hs).mono ?_
  rintro e w1 ⟨rfl, hb1⟩
  go_wp2_with fail
  refine ((unhide HI) _).mono ?_
  rintro e w2 ⟨rfl, hb2⟩
  have B2 := hb1.trans (hb2.mono hb1.size)
  clear HI hb1 hb2
  cases hN : J.isName (s.extract 0 (J.nrun s 0)) with
  | true =>
    have fin := hide (show J.leadP s = s.extract 0 (J.nrun s 0) by unfold J.leadP; rw [if_pos hN])
    clear hN
    go_wp2_with fail
    go_ret
    exact ⟨by rw [unhide fin]; rfl, B2⟩
  | false =>
    have fin := hide (show J.leadP s = ByteArray.empty by unfold J.leadP; rw [if_neg (by simp [hN])])
    clear hN
    go_wp2_with fail
    go_ret
    exact ⟨by rw [unhide fin]; rfl, B2⟩
/-- The lexer stands at place k; its marks lie elsewhere. -/
structure Lx (w wr : World) (b mb : Nat) (s : ByteArray) (k : Nat) : Prop where
  rd : Rd wr b 56 s k [.map (some mb)]
  tch : Tch w.heap.size b w wr
  map : wr.ownsMap Tryz.prog 9 (plainElem (H := Unit) Tryz.prog 2) mb 25 (mapD 25)
  ne : mb ≠ b
theorem map_keep {w w' : World} {mb : Nat} (h : w.ownsMap Tryz.prog 9 (plainElem (H := Unit) Tryz.prog 2) mb 25 (mapD 25)) (hk : w'.heap[mb]? = w.heap[mb]?) : w'.ownsMap Tryz.prog 9 (plainElem (H := Unit) Tryz.prog 2) mb 25 (mapD 25) := by
  obtain ⟨es, clock, h1, h2⟩ := h; exact ⟨es, clock, hk.trans h1, h2⟩
theorem Lx.go {w wr w2 : World} {b mb : Nat} {s : ByteArray} {k k2 : Nat} (h : Lx w wr b mb s k) (hr : Rd w2 b 56 s k2 [.map (some mb)]) (ht : Tch wr.heap.size b wr w2) : Lx w w2 b mb s k2 := ⟨hr, h.tch.trans (ht.mono h.tch.size), map_keep h.map (ht.block mb h.map.lt h.ne), h.ne⟩
theorem Lx.below {w wr w2 : World} {b mb : Nat} {s : ByteArray} {k : Nat} (h : Lx w wr b mb s k) (hb : Below wr.heap.size wr w2) : Lx w w2 b mb s k := h.go (Own.below h.rd hb (Own.lt h.rd)) ⟨hb.os, hb.tape, hb.output, hb.size, fun k hk _ => hb.block k hk⟩
theorem Lx.drewN {w wr : World} {b mb : Nat} {s : ByteArray} {k : Nat} (h : Lx w wr b mb s k) (q : Nat) : Lx w (wr.drewN q) b mb s k := ⟨h.rd.drewN q, h.tch.drewN q, h.map, h.ne⟩
theorem Lx.move {w wr : World} {b mb : Nat} {s : ByteArray} {k : Nat} (h : Lx w wr b mb s k) (k2 : Nat) : Lx w (wr.setCell ⟨b, 1, none⟩ (.int .i64 (k2 : Int))) b mb s k2 := h.go (Own.set h.rd 1 _) (Tch.set _ _ _ _ _)
theorem idx0 (w : World) : (Instr.index 180 (.agg #[.int .i64 3, .int .i64 4, .int .i64 5]) (.int .i64 0)).run Tryz.prog w = .ok (.int .i64 3) w := by kernel_rfl
theorem idx1 (w : World) : (Instr.index 180 (.agg #[.int .i64 3, .int .i64 4, .int .i64 5]) (.int .i64 1)).run Tryz.prog w = .ok (.int .i64 4) w := by kernel_rfl
theorem idx2 (w : World) : (Instr.index 180 (.agg #[.int .i64 3, .int .i64 4, .int .i64 5]) (.int .i64 2)).run Tryz.prog w = .ok (.int .i64 5) w := by kernel_rfl
theorem leadP_size (s : ByteArray) : (J.leadP s).size ≤ s.size := by
  unfold J.leadP
  split
  · rw [ByteArray.size_extract]; omega
  · show (0 : Nat) ≤ _; omega
theorem cut_none (s : ByteArray) : Lib.trimPrefix s.data.toList ByteArray.empty.data.toList = s.data.toList ∧ Lib.hasPrefix s.data.toList ByteArray.empty.data.toList = true := by
  constructor <;> rfl

set_option maxRecDepth 100000 in
set_option maxHeartbeats 4000000 in
theorem nom_3 (b mb : Nat) (s : ByteArray) (k : Nat) (w : World) (h : Lx w w b mb s k) (hk : k ≤ s.size) (hs : s.size ≤ 4000) (hl : (J.leadP (s.extract k s.size)).size ≠ 0) :
    Calls Tryz.prog 98 #[.pointer (some ⟨b, 0, none⟩)] w fun e w' => e = .returned (.tuple #[.int .i64 3, .string (J.leadP (s.extract k s.size)), .nilIface]) ∧ Lx w w' b mb s (k + (J.leadP (s.extract k s.size)).size) := by
  have c0 : ∀ q, (w.drewN q).cell? ⟨b, 0, none⟩ = some (.string s) := fun q => h.rd.cell 0
  have c1 : ∀ q, (w.drewN q).cell? ⟨b, 1, none⟩ = some (.int .i64 (k : Int)) := fun q => h.rd.cell 1
  have hk0 : (0 : Int) ≤ (k : Int) := by omega
  have hkz : (k : Int) ≤ (s.size : Int) := by omega
  have hsz : (s.extract k s.size).size ≤ 1048576 := by rw [ByteArray.size_extract]; omega
  have i0 := idx0
  have i1 := idx1
  have i2 := idx2
  have HD := hide (fun q => h.drewN q)
  obtain ⟨rest, hrest⟩ : ∃ r, r = s.extract k s.size := ⟨_, rfl⟩
  rw [← hrest] at hsz hl ⊢
  have hrs : rest.size ≤ s.size := by rw [hrest, ByteArray.size_extract]; omega
  have HL := hide (fun w => leadingName_any rest w hsz)
  have HC := hide (fun w => Tryz.strings_CutPrefix rest ByteArray.empty w)
  have hne : ((J.leadP rest).toList == []) = false := by
    rw [beq_eq_false_iff_ne]
    intro e
    apply hl
    rw [Lib.toList_data] at e
    have := congrArg List.length e
    rw [Array.length_toList] at this
    exact this
  have hpl : (J.leadP rest).size ≤ rest.size := leadP_size rest
  generalize J.leadP rest = nm at *
  go_enter Tryz.func98, Tryz.ntmps98
  go_wp2_with fail
  go_quiet (fail)
  rw [← hrest]
  clear hrest
  go_wp2_with fail
  refine wp_loop_rounds 4 ?_
  rw [rounds_succ]
  go_wp2_with fail
  refine (nameSign_3 _).mono ?_
  rintro e w1 ⟨rfl, hw1⟩
  rw [hw1]
  clear hw1
  go_wp2_with fail
  refine ((unhide HC) _).mono ?_
  rintro e w1 ⟨rfl, hw1⟩
  rw [hw1, (cut_none rest).1, (cut_none rest).2, show (⟨rest.data.toList.toArray⟩ : ByteArray) = rest from rfl]
  clear hw1
  go_wp2_with fail
  refine ((unhide HL) _).mono ?_
  rintro e w2 ⟨rfl, hb2⟩
  have L2 := ((unhide HD) _).below hb2
  have d1 : w2.cell? ⟨b, 1, none⟩ = some (.int .i64 (k : Int)) := L2.rd.cell 1
  have z1 := Own.frozen L2.rd 1
  have wr1 : IntKind.i64.wrap (0 + (nm.size : Int)) = (nm.size : Int) := by rw [Int.zero_add]; exact IntWalk.i64_in _ ⟨by omega, by omega⟩
  have wr2 : IntKind.i64.wrap ((k : Int) + (nm.size : Int)) = ((k + nm.size : Nat) : Int) := by rw [IntWalk.i64_in _ ⟨by omega, by omega⟩]; simp
  have L3 := L2.move (k + nm.size)
  clear HL HC HD hb2 L2
  go_wp2_with fail
  go_ret3
  exact ⟨rfl, L3⟩

end Go.Proofs.YtabpjknbdahddaaGreatDoor
