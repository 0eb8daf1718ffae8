/-
  impl: nameOrMark: a field, a variable.
-/
import Derived.Test.YtabpjknbdahddaaGreatDoorLexN
namespace Go.Proofs.YtabpjknbdahddaaGreatDoor
open Go.RowKit
set_option linter.unusedVariables false
set_option linter.unusedSimpArgs false


theorem ne_of_size (nm : ByteArray) (hl : nm.size ≠ 0) : (nm.toList == []) = false := by
  rw [beq_eq_false_iff_ne]
  intro e
  apply hl
  rw [Lib.toList_data] at e
  have := congrArg List.length e
  rw [Array.length_toList] at this
  exact this
theorem empty_eq : (ByteArray.empty.toList == []) = true := by rw [Lib.toList_data]; rfl
/-- A text without its first byte. -/
def J.behind (s : ByteArray) : ByteArray := ⟨(s.data.toList.drop 1).toArray⟩
theorem behind_size (s : ByteArray) : (J.behind s).size ≤ s.size := by
  show (s.data.toList.drop 1).toArray.size ≤ s.data.size
  simp
theorem cut_sign (s : ByteArray) (c : UInt8) (h : Lib.hasPrefix s.data.toList [c] = true) : Lib.trimPrefix s.data.toList [c] = s.data.toList.drop 1 := by
  unfold Lib.trimPrefix; rw [if_pos h]; rfl
theorem cut_other (s : ByteArray) (c : UInt8) (h : Lib.hasPrefix s.data.toList [c] = false) : Lib.trimPrefix s.data.toList [c] = s.data.toList := by
  unfold Lib.trimPrefix; rw [if_neg (by simp [h])]

set_option maxRecDepth 100000 in
set_option maxHeartbeats 4000000 in
theorem nom_4 (b mb : Nat) (s : ByteArray) (k : Nat) (w : World) (h : Lx w w b mb s k) (hk : k ≤ s.size) (hs : s.size ≤ 4000) (h0 : J.leadP (s.extract k s.size) = ByteArray.empty) (hp : Lib.hasPrefix (s.extract k s.size).data.toList [46] = true) (hl : (J.leadP (J.behind (s.extract k s.size))).size ≠ 0) :
    Calls Tryz.prog 98 #[.pointer (some ⟨b, 0, none⟩)] w fun e w' => e = .returned (.tuple #[.int .i64 4, .string (J.leadP (J.behind (s.extract k s.size))), .nilIface]) ∧ Lx w w' b mb s (k + (1 + (J.leadP (J.behind (s.extract k s.size))).size)) := by
  have c0 : ∀ q, (w.drewN q).cell? ⟨b, 0, none⟩ = some (.string s) := fun q => h.rd.cell 0
  have c1 : ∀ q, (w.drewN q).cell? ⟨b, 1, none⟩ = some (.int .i64 (k : Int)) := fun q => h.rd.cell 1
  have hk0 : (0 : Int) ≤ (k : Int) := by omega
  have hkz : (k : Int) ≤ (s.size : Int) := by omega
  have hsz : (s.extract k s.size).size ≤ 1048576 := by rw [ByteArray.size_extract]; omega
  have i0 := idx0
  have i1 := idx1
  have i2 := idx2
  have e0 := empty_eq
  have HD := hide (fun q => h.drewN q)
  obtain ⟨rest, hrest⟩ : ∃ r, r = s.extract k s.size := ⟨_, rfl⟩
  rw [← hrest] at hsz hl h0 hp ⊢
  have hrs : rest.size ≤ s.size := by rw [hrest, ByteArray.size_extract]; omega
  have hbs := behind_size rest
  have HL := hide (fun w => leadingName_any rest w hsz)
  rw [h0] at HL
  have HB := hide (fun w => leadingName_any (J.behind rest) w (by omega))
  have HC := hide (fun w => Tryz.strings_CutPrefix rest ByteArray.empty w)
  have HP := hide (fun w => Tryz.strings_CutPrefix rest ⟨#[46]⟩ w)
  have hpl := leadP_size (J.behind rest)
  have hne := ne_of_size _ hl
  have hct := hide (cut_sign rest 46 hp)
  have hp := hide hp
  clear h0
  generalize J.leadP (J.behind rest) = nm at *
  go_enter Tryz.func98, Tryz.ntmps98
  go_wp2_with fail
  go_quiet (fail)
  rw [← hrest]
  clear hrest
  go_wp2_with fail
  refine wp_loop_rounds 4 ?_
  rw [rounds_succ]
  go_wp2_with fail
  refine (nameSign_3 _).mono ?_
  rintro e w1 ⟨rfl, hw1⟩
  rw [hw1]
  clear hw1
  go_wp2_with fail
  refine ((unhide HC) _).mono ?_
  rintro e w1 ⟨rfl, hw1⟩
  rw [hw1, (cut_none rest).1, (cut_none rest).2, show (⟨rest.data.toList.toArray⟩ : ByteArray) = rest from rfl]
  clear hw1
  go_wp2_with fail
  refine ((unhide HL) _).mono ?_
  rintro e w2 ⟨rfl, hb⟩
  have L2 := ((unhide HD) _).below hb
  clear hb
  go_wp2_with fail
  rw [rounds_succ]
  go_wp2_with fail
  refine (nameSign_4 _).mono ?_
  rintro e w1 ⟨rfl, hw1⟩
  rw [hw1]
  clear hw1
  go_wp2_with fail
  refine ((unhide HP) _).mono ?_
  rintro e w1 ⟨rfl, hw1⟩
  rw [hw1, show Lib.trimPrefix rest.data.toList (⟨#[46]⟩ : ByteArray).data.toList = rest.data.toList.drop 1 from unhide hct, show Lib.hasPrefix rest.data.toList (⟨#[46]⟩ : ByteArray).data.toList = true from unhide hp, show (⟨(rest.data.toList.drop 1).toArray⟩ : ByteArray) = J.behind rest from rfl]
  clear hw1
  go_wp2_with fail
  refine ((unhide HB) _).mono ?_
  rintro e w3 ⟨rfl, hb⟩
  have L3 := L2.below hb
  have d1 : w3.cell? ⟨b, 1, none⟩ = some (.int .i64 (k : Int)) := L3.rd.cell 1
  have z1 := Own.frozen L3.rd 1
  have wr1 : IntKind.i64.wrap (1 + (nm.size : Int)) = ((1 + nm.size : Nat) : Int) := by rw [IntWalk.i64_in _ ⟨by omega, by omega⟩]; simp
  have wr2 : IntKind.i64.wrap ((k : Int) + ((1 + nm.size : Nat) : Int)) = ((k + (1 + nm.size) : Nat) : Int) := by rw [IntWalk.i64_in _ ⟨by omega, by omega⟩]; simp
  have L4 := L3.move (k + (1 + nm.size))
  clear HL HB HC HP HD hb L2 L3
  go_wp2_with fail
  go_ret3
  exact ⟨rfl, L4⟩


set_option maxRecDepth 100000 in
set_option maxHeartbeats 4000000 in
theorem nom_5 (b mb : Nat) (s : ByteArray) (k : Nat) (w : World) (h : Lx w w b mb s k) (hk : k ≤ s.size) (hs : s.size ≤ 4000) (h0 : J.leadP (s.extract k s.size) = ByteArray.empty) (hp46 : Lib.hasPrefix (s.extract k s.size).data.toList [46] = false) (hp36 : Lib.hasPrefix (s.extract k s.size).data.toList [36] = true) (hl : (J.leadP (J.behind (s.extract k s.size))).size ≠ 0) :
    Calls Tryz.prog 98 #[.pointer (some ⟨b, 0, none⟩)] w fun e w' => e = .returned (.tuple #[.int .i64 5, .string (J.leadP (J.behind (s.extract k s.size))), .nilIface]) ∧ Lx w w' b mb s (k + (1 + (J.leadP (J.behind (s.extract k s.size))).size)) := by
  have c0 : ∀ q, (w.drewN q).cell? ⟨b, 0, none⟩ = some (.string s) := fun q => h.rd.cell 0
  have c1 : ∀ q, (w.drewN q).cell? ⟨b, 1, none⟩ = some (.int .i64 (k : Int)) := fun q => h.rd.cell 1
  have hk0 : (0 : Int) ≤ (k : Int) := by omega
  have hkz : (k : Int) ≤ (s.size : Int) := by omega
  have hsz : (s.extract k s.size).size ≤ 1048576 := by rw [ByteArray.size_extract]; omega
  have i0 := idx0
  have i1 := idx1
  have i2 := idx2
  have e0 := empty_eq
  have HD := hide (fun q => h.drewN q)
  obtain ⟨rest, hrest⟩ : ∃ r, r = s.extract k s.size := ⟨_, rfl⟩
  rw [← hrest] at hsz hl h0 hp46 hp36 ⊢
  have hrs : rest.size ≤ s.size := by rw [hrest, ByteArray.size_extract]; omega
  have hbs := behind_size rest
  have HL := hide (fun w => leadingName_any rest w hsz)
  rw [h0] at HL
  have HB := hide (fun w => leadingName_any (J.behind rest) w (by omega))
  have HC := hide (fun w => Tryz.strings_CutPrefix rest ByteArray.empty w)
  have hpl := leadP_size (J.behind rest)
  have hne := ne_of_size _ hl
  have HP46 := hide (fun w => Tryz.strings_CutPrefix rest ⟨#[46]⟩ w)
  have hct46 := hide (cut_other rest 46 hp46)
  have hp46 := hide hp46
  have HP36 := hide (fun w => Tryz.strings_CutPrefix rest ⟨#[36]⟩ w)
  have hct36 := hide (cut_sign rest 36 hp36)
  have hp36 := hide hp36
  clear h0
  generalize J.leadP (J.behind rest) = nm at *
  go_enter Tryz.func98, Tryz.ntmps98
  go_wp2_with fail
  go_quiet (fail)
  rw [← hrest]
  clear hrest
  go_wp2_with fail
  refine wp_loop_rounds 4 ?_
  rw [rounds_succ]
  go_wp2_with fail
  refine (nameSign_3 _).mono ?_
  rintro e w1 ⟨rfl, hw1⟩
  rw [hw1]
  clear hw1
  go_wp2_with fail
  refine ((unhide HC) _).mono ?_
  rintro e w1 ⟨rfl, hw1⟩
  rw [hw1, (cut_none rest).1, (cut_none rest).2, show (⟨rest.data.toList.toArray⟩ : ByteArray) = rest from rfl]
  clear hw1
  go_wp2_with fail
  refine ((unhide HL) _).mono ?_
  rintro e w2 ⟨rfl, hb⟩
  have L2 := ((unhide HD) _).below hb
  clear hb
  go_wp2_with fail
  rw [rounds_succ]
  go_wp2_with fail
  refine (nameSign_4 _).mono ?_
  rintro e w1 ⟨rfl, hw1⟩
  rw [hw1]
  clear hw1
  go_wp2_with fail
  refine ((unhide HP46) _).mono ?_
  rintro e w1 ⟨rfl, hw1⟩
  rw [hw1, show Lib.trimPrefix rest.data.toList (⟨#[46]⟩ : ByteArray).data.toList = rest.data.toList from unhide hct46, show Lib.hasPrefix rest.data.toList (⟨#[46]⟩ : ByteArray).data.toList = false from unhide hp46, show (⟨rest.data.toList.toArray⟩ : ByteArray) = rest from rfl]
  clear hw1
  go_wp2_with fail
  refine ((unhide HL) _).mono ?_
  rintro e w4 ⟨rfl, hb⟩
  have L4 := L2.below hb
  clear hb
  go_wp2_with fail
  rw [rounds_succ]
  go_wp2_with fail
  refine (nameSign_5 _).mono ?_
  rintro e w1 ⟨rfl, hw1⟩
  rw [hw1]
  clear hw1
  go_wp2_with fail
  refine ((unhide HP36) _).mono ?_
  rintro e w1 ⟨rfl, hw1⟩
  rw [hw1, show Lib.trimPrefix rest.data.toList (⟨#[36]⟩ : ByteArray).data.toList = rest.data.toList.drop 1 from unhide hct36, show Lib.hasPrefix rest.data.toList (⟨#[36]⟩ : ByteArray).data.toList = true from unhide hp36, show (⟨(rest.data.toList.drop 1).toArray⟩ : ByteArray) = J.behind rest from rfl]
  clear hw1
  go_wp2_with fail
  refine ((unhide HB) _).mono ?_
  rintro e w3 ⟨rfl, hb⟩
  have L3 := L4.below hb
  have d1 : w3.cell? ⟨b, 1, none⟩ = some (.int .i64 (k : Int)) := L3.rd.cell 1
  have z1 := Own.frozen L3.rd 1
  have wr1 : IntKind.i64.wrap (1 + (nm.size : Int)) = ((1 + nm.size : Nat) : Int) := by rw [IntWalk.i64_in _ ⟨by omega, by omega⟩]; simp
  have wr2 : IntKind.i64.wrap ((k : Int) + ((1 + nm.size : Nat) : Int)) = ((k + (1 + nm.size) : Nat) : Int) := by rw [IntWalk.i64_in _ ⟨by omega, by omega⟩]; simp
  have L5 := L3.move (k + (1 + nm.size))
  clear HL HB HC HP46 HP36 HD hb L2 L4 L3
  go_wp2_with fail
  go_ret3
  exact ⟨rfl, L5⟩


set_option maxRecDepth 100000 in
set_option maxHeartbeats 4000000 in
theorem nom_m_two_0 (b mb : Nat) (s : ByteArray) (k : Nat) (w : World) (h : Lx w w b mb s k) (hk : k ≤ s.size) (hs : s.size ≤ 4000) (h0 : J.leadP (s.extract k s.size) = ByteArray.empty) (hp46 : Lib.hasPrefix (s.extract k s.size).data.toList [46] = false) (hp36 : Lib.hasPrefix (s.extract k s.size).data.toList [36] = false) (h2 : 2 ≤ (s.extract k s.size).size) (hm : oneOf theMarks ((s.extract k s.size).extract 0 2) = true) :
    Calls Tryz.prog 98 #[.pointer (some ⟨b, 0, none⟩)] w fun e w' => e = .returned (.tuple #[.int .i64 6, .string ((s.extract k s.size).extract 0 2), .nilIface]) ∧ Lx w w' b mb s (k + 2) := by
  have c0 : ∀ q, (w.drewN q).cell? ⟨b, 0, none⟩ = some (.string s) := fun q => h.rd.cell 0
  have c1 : ∀ q, (w.drewN q).cell? ⟨b, 1, none⟩ = some (.int .i64 (k : Int)) := fun q => h.rd.cell 1
  have hk0 : (0 : Int) ≤ (k : Int) := by omega
  have hkz : (k : Int) ≤ (s.size : Int) := by omega
  have hsz : (s.extract k s.size).size ≤ 1048576 := by rw [ByteArray.size_extract]; omega
  have i0 := idx0
  have i1 := idx1
  have i2 := idx2
  have e0 := empty_eq
  have HD := hide (fun q => h.drewN q)
  obtain ⟨rest, hrest⟩ : ∃ r, r = s.extract k s.size := ⟨_, rfl⟩
  rw [← hrest] at hsz h0 hp46 hp36 h2 hm ⊢
  have hrs : rest.size ≤ s.size := by rw [hrest, ByteArray.size_extract]; omega
  have hbs := behind_size rest
  have HL := hide (fun w => leadingName_any rest w hsz)
  rw [h0] at HL
  have HB := hide (fun w => leadingName_any (J.behind rest) w (by omega))
  have HC := hide (fun w => Tryz.strings_CutPrefix rest ByteArray.empty w)
  have HP46 := hide (fun w => Tryz.strings_CutPrefix rest ⟨#[46]⟩ w)
  have hct46 := hide (cut_other rest 46 hp46)
  have hp46 := hide hp46
  have HP36 := hide (fun w => Tryz.strings_CutPrefix rest ⟨#[36]⟩ w)
  have hct36 := hide (cut_other rest 36 hp36)
  have hp36 := hide hp36
  clear h0
  have hm := hide hm
  have h2i : (2 : Int) ≤ (rest.size : Int) := by omega
  go_enter Tryz.func98, Tryz.ntmps98
  go_wp2_with fail
  go_quiet (fail)
  rw [← hrest]
  clear hrest
  go_wp2_with fail
  refine wp_loop_rounds 4 ?_
  rw [rounds_succ]
  go_wp2_with fail
  refine (nameSign_3 _).mono ?_
  rintro e w1 ⟨rfl, hw1⟩
  rw [hw1]
  clear hw1
  go_wp2_with fail
  refine ((unhide HC) _).mono ?_
  rintro e w1 ⟨rfl, hw1⟩
  rw [hw1, (cut_none rest).1, (cut_none rest).2, show (⟨rest.data.toList.toArray⟩ : ByteArray) = rest from rfl]
  clear hw1
  go_wp2_with fail
  refine ((unhide HL) _).mono ?_
  rintro e w2 ⟨rfl, hb⟩
  have L2 := ((unhide HD) _).below hb
  clear hb
  go_wp2_with fail
  rw [rounds_succ]
  go_wp2_with fail
  refine (nameSign_4 _).mono ?_
  rintro e w1 ⟨rfl, hw1⟩
  rw [hw1]
  clear hw1
  go_wp2_with fail
  refine ((unhide HP46) _).mono ?_
  rintro e w1 ⟨rfl, hw1⟩
  rw [hw1, show Lib.trimPrefix rest.data.toList (⟨#[46]⟩ : ByteArray).data.toList = rest.data.toList from unhide hct46, show Lib.hasPrefix rest.data.toList (⟨#[46]⟩ : ByteArray).data.toList = false from unhide hp46, show (⟨rest.data.toList.toArray⟩ : ByteArray) = rest from rfl]
  clear hw1
  go_wp2_with fail
  refine ((unhide HL) _).mono ?_
  rintro e w4 ⟨rfl, hb⟩
  have L4 := L2.below hb
  clear hb
  go_wp2_with fail
  rw [rounds_succ]
  go_wp2_with fail
  refine (nameSign_5 _).mono ?_
  rintro e w1 ⟨rfl, hw1⟩
  rw [hw1]
  clear hw1
  go_wp2_with fail
  refine ((unhide HP36) _).mono ?_
  rintro e w1 ⟨rfl, hw1⟩
  rw [hw1, show Lib.trimPrefix rest.data.toList (⟨#[36]⟩ : ByteArray).data.toList = rest.data.toList from unhide hct36, show Lib.hasPrefix rest.data.toList (⟨#[36]⟩ : ByteArray).data.toList = false from unhide hp36, show (⟨rest.data.toList.toArray⟩ : ByteArray) = rest from rfl]
  clear hw1
  go_wp2_with fail
  refine ((unhide HL) _).mono ?_
  rintro e w3 ⟨rfl, hb⟩
  have L3 := L4.below hb
  clear hb
  go_wp2_with fail
  rw [rounds_succ]
  go_wp2_with fail
  rw [show min (2 : Int) (rest.size : Int) = 2 from by omega]
  have d2 : w3.cell? ⟨b, 2, none⟩ = some (.map (some mb)) := L3.rd.cell 2
  have d1 : w3.cell? ⟨b, 1, none⟩ = some (.int .i64 (k : Int)) := L3.rd.cell 1
  have z1 := Own.frozen L3.rd 1
  have wr2 : IntKind.i64.wrap ((k : Int) + 2) = ((k + 2 : Nat) : Int) := by rw [IntWalk.i64_in _ ⟨by omega, by omega⟩]; simp
  obtain ⟨c2, hr2, hc2⟩ := mark_look (rest.extract 0 2) (by rw [ByteArray.size_extract]; unfold maxLen; omega) mb w3 L3.map
  rw [unhide hm] at hc2
  have L6 := L3.move (k + 2)
  clear HL HB HC HP46 HP36 HD L2 L3 L4 hp46 hp36 hct46 hct36
  refine wp_loop_rounds 3 ?_
  rw [rounds_succ]
  go_wp2_with fail
  go_ret3
  exact ⟨rfl, L6⟩

set_option maxRecDepth 100000 in
set_option maxHeartbeats 4000000 in
theorem nom_m_one_0 (b mb : Nat) (s : ByteArray) (k : Nat) (w : World) (h : Lx w w b mb s k) (hk : k ≤ s.size) (hs : s.size ≤ 4000) (h0 : J.leadP (s.extract k s.size) = ByteArray.empty) (hp46 : Lib.hasPrefix (s.extract k s.size).data.toList [46] = false) (hp36 : Lib.hasPrefix (s.extract k s.size).data.toList [36] = false) (h2 : 2 ≤ (s.extract k s.size).size) (hn : oneOf theMarks ((s.extract k s.size).extract 0 2) = false) (hm : oneOf theMarks ((s.extract k s.size).extract 0 1) = true) :
    Calls Tryz.prog 98 #[.pointer (some ⟨b, 0, none⟩)] w fun e w' => e = .returned (.tuple #[.int .i64 6, .string ((s.extract k s.size).extract 0 1), .nilIface]) ∧ Lx w w' b mb s (k + 1) := by
  have c0 : ∀ q, (w.drewN q).cell? ⟨b, 0, none⟩ = some (.string s) := fun q => h.rd.cell 0
  have c1 : ∀ q, (w.drewN q).cell? ⟨b, 1, none⟩ = some (.int .i64 (k : Int)) := fun q => h.rd.cell 1
  have hk0 : (0 : Int) ≤ (k : Int) := by omega
  have hkz : (k : Int) ≤ (s.size : Int) := by omega
  have hsz : (s.extract k s.size).size ≤ 1048576 := by rw [ByteArray.size_extract]; omega
  have i0 := idx0
  have i1 := idx1
  have i2 := idx2
  have e0 := empty_eq
  have HD := hide (fun q => h.drewN q)
  obtain ⟨rest, hrest⟩ : ∃ r, r = s.extract k s.size := ⟨_, rfl⟩
  rw [← hrest] at hsz h0 hp46 hp36 h2 hm hn ⊢
  have hrs : rest.size ≤ s.size := by rw [hrest, ByteArray.size_extract]; omega
  have hbs := behind_size rest
  have HL := hide (fun w => leadingName_any rest w hsz)
  rw [h0] at HL
  have HB := hide (fun w => leadingName_any (J.behind rest) w (by omega))
  have HC := hide (fun w => Tryz.strings_CutPrefix rest ByteArray.empty w)
  have HP46 := hide (fun w => Tryz.strings_CutPrefix rest ⟨#[46]⟩ w)
  have hct46 := hide (cut_other rest 46 hp46)
  have hp46 := hide hp46
  have HP36 := hide (fun w => Tryz.strings_CutPrefix rest ⟨#[36]⟩ w)
  have hct36 := hide (cut_other rest 36 hp36)
  have hp36 := hide hp36
  clear h0
  have hm := hide hm
  have hn := hide hn
  have h2i : (2 : Int) ≤ (rest.size : Int) := by omega
  go_enter Tryz.func98, Tryz.ntmps98
  go_wp2_with fail
  go_quiet (fail)
  rw [← hrest]
  clear hrest
  go_wp2_with fail
  refine wp_loop_rounds 4 ?_
  rw [rounds_succ]
  go_wp2_with fail
  refine (nameSign_3 _).mono ?_
  rintro e w1 ⟨rfl, hw1⟩
  rw [hw1]
  clear hw1
  go_wp2_with fail
  refine ((unhide HC) _).mono ?_
  rintro e w1 ⟨rfl, hw1⟩
  rw [hw1, (cut_none rest).1, (cut_none rest).2, show (⟨rest.data.toList.toArray⟩ : ByteArray) = rest from rfl]
  clear hw1
  go_wp2_with fail
  refine ((unhide HL) _).mono ?_
  rintro e w2 ⟨rfl, hb⟩
  have L2 := ((unhide HD) _).below hb
  clear hb
  go_wp2_with fail
  rw [rounds_succ]
  go_wp2_with fail
  refine (nameSign_4 _).mono ?_
  rintro e w1 ⟨rfl, hw1⟩
  rw [hw1]
  clear hw1
  go_wp2_with fail
  refine ((unhide HP46) _).mono ?_
  rintro e w1 ⟨rfl, hw1⟩
  rw [hw1, show Lib.trimPrefix rest.data.toList (⟨#[46]⟩ : ByteArray).data.toList = rest.data.toList from unhide hct46, show Lib.hasPrefix rest.data.toList (⟨#[46]⟩ : ByteArray).data.toList = false from unhide hp46, show (⟨rest.data.toList.toArray⟩ : ByteArray) = rest from rfl]
  clear hw1
  go_wp2_with fail
  refine ((unhide HL) _).mono ?_
  rintro e w4 ⟨rfl, hb⟩
  have L4 := L2.below hb
  clear hb
  go_wp2_with fail
  rw [rounds_succ]
  go_wp2_with fail
  refine (nameSign_5 _).mono ?_
  rintro e w1 ⟨rfl, hw1⟩
  rw [hw1]
  clear hw1
  go_wp2_with fail
  refine ((unhide HP36) _).mono ?_
  rintro e w1 ⟨rfl, hw1⟩
  rw [hw1, show Lib.trimPrefix rest.data.toList (⟨#[36]⟩ : ByteArray).data.toList = rest.data.toList from unhide hct36, show Lib.hasPrefix rest.data.toList (⟨#[36]⟩ : ByteArray).data.toList = false from unhide hp36, show (⟨rest.data.toList.toArray⟩ : ByteArray) = rest from rfl]
  clear hw1
  go_wp2_with fail
  refine ((unhide HL) _).mono ?_
  rintro e w3 ⟨rfl, hb⟩
  have L3 := L4.below hb
  clear hb
  go_wp2_with fail
  rw [rounds_succ]
  go_wp2_with fail
  rw [show min (2 : Int) (rest.size : Int) = 2 from by omega]
  have d2 : w3.cell? ⟨b, 2, none⟩ = some (.map (some mb)) := L3.rd.cell 2
  have d1 : w3.cell? ⟨b, 1, none⟩ = some (.int .i64 (k : Int)) := L3.rd.cell 1
  have z1 := Own.frozen L3.rd 1
  have wr2 : IntKind.i64.wrap ((k : Int) + 1) = ((k + 1 : Nat) : Int) := by rw [IntWalk.i64_in _ ⟨by omega, by omega⟩]; simp
  obtain ⟨c2, hr2, hc2⟩ := mark_look (rest.extract 0 2) (by rw [ByteArray.size_extract]; unfold maxLen; omega) mb w3 L3.map
  rw [unhide hn] at hc2
  obtain ⟨c1, hr1, hc1⟩ := mark_look (rest.extract 0 1) (by rw [ByteArray.size_extract]; unfold maxLen; omega) mb w3 L3.map
  rw [unhide hm] at hc1
  have L6 := L3.move (k + 1)
  clear HL HB HC HP46 HP36 HD L2 L3 L4 hp46 hp36 hct46 hct36
  refine wp_loop_rounds 3 ?_
  rw [rounds_succ]
  go_wp2_with fail
  rw [rounds_succ]
  go_wp2_with fail
  go_ret3
  exact ⟨rfl, L6⟩

set_option maxRecDepth 100000 in
set_option maxHeartbeats 4000000 in
theorem nom_m_alone_0 (b mb : Nat) (s : ByteArray) (k : Nat) (w : World) (h : Lx w w b mb s k) (hk : k ≤ s.size) (hs : s.size ≤ 4000) (h0 : J.leadP (s.extract k s.size) = ByteArray.empty) (hp46 : Lib.hasPrefix (s.extract k s.size).data.toList [46] = false) (hp36 : Lib.hasPrefix (s.extract k s.size).data.toList [36] = false) (h2 : (s.extract k s.size).size = 1) (hm : oneOf theMarks ((s.extract k s.size).extract 0 1) = true) :
    Calls Tryz.prog 98 #[.pointer (some ⟨b, 0, none⟩)] w fun e w' => e = .returned (.tuple #[.int .i64 6, .string ((s.extract k s.size).extract 0 1), .nilIface]) ∧ Lx w w' b mb s (k + 1) := by
  have c0 : ∀ q, (w.drewN q).cell? ⟨b, 0, none⟩ = some (.string s) := fun q => h.rd.cell 0
  have c1 : ∀ q, (w.drewN q).cell? ⟨b, 1, none⟩ = some (.int .i64 (k : Int)) := fun q => h.rd.cell 1
  have hk0 : (0 : Int) ≤ (k : Int) := by omega
  have hkz : (k : Int) ≤ (s.size : Int) := by omega
  have hsz : (s.extract k s.size).size ≤ 1048576 := by rw [ByteArray.size_extract]; omega
  have i0 := idx0
  have i1 := idx1
  have i2 := idx2
  have e0 := empty_eq
  have HD := hide (fun q => h.drewN q)
  obtain ⟨rest, hrest⟩ : ∃ r, r = s.extract k s.size := ⟨_, rfl⟩
  rw [← hrest] at hsz h0 hp46 hp36 h2 hm ⊢
  have hrs : rest.size ≤ s.size := by rw [hrest, ByteArray.size_extract]; omega
  have hbs := behind_size rest
  have HL := hide (fun w => leadingName_any rest w hsz)
  rw [h0] at HL
  have HB := hide (fun w => leadingName_any (J.behind rest) w (by omega))
  have HC := hide (fun w => Tryz.strings_CutPrefix rest ByteArray.empty w)
  have HP46 := hide (fun w => Tryz.strings_CutPrefix rest ⟨#[46]⟩ w)
  have hct46 := hide (cut_other rest 46 hp46)
  have hp46 := hide hp46
  have HP36 := hide (fun w => Tryz.strings_CutPrefix rest ⟨#[36]⟩ w)
  have hct36 := hide (cut_other rest 36 hp36)
  have hp36 := hide hp36
  clear h0
  have hm := hide hm
  have h2i : (rest.size : Int) = 1 := by omega
  go_enter Tryz.func98, Tryz.ntmps98
  go_wp2_with fail
  go_quiet (fail)
  rw [← hrest]
  clear hrest
  go_wp2_with fail
  refine wp_loop_rounds 4 ?_
  rw [rounds_succ]
  go_wp2_with fail
  refine (nameSign_3 _).mono ?_
  rintro e w1 ⟨rfl, hw1⟩
  rw [hw1]
  clear hw1
  go_wp2_with fail
  refine ((unhide HC) _).mono ?_
  rintro e w1 ⟨rfl, hw1⟩
  rw [hw1, (cut_none rest).1, (cut_none rest).2, show (⟨rest.data.toList.toArray⟩ : ByteArray) = rest from rfl]
  clear hw1
  go_wp2_with fail
  refine ((unhide HL) _).mono ?_
  rintro e w2 ⟨rfl, hb⟩
  have L2 := ((unhide HD) _).below hb
  clear hb
  go_wp2_with fail
  rw [rounds_succ]
  go_wp2_with fail
  refine (nameSign_4 _).mono ?_
  rintro e w1 ⟨rfl, hw1⟩
  rw [hw1]
  clear hw1
  go_wp2_with fail
  refine ((unhide HP46) _).mono ?_
  rintro e w1 ⟨rfl, hw1⟩
  rw [hw1, show Lib.trimPrefix rest.data.toList (⟨#[46]⟩ : ByteArray).data.toList = rest.data.toList from unhide hct46, show Lib.hasPrefix rest.data.toList (⟨#[46]⟩ : ByteArray).data.toList = false from unhide hp46, show (⟨rest.data.toList.toArray⟩ : ByteArray) = rest from rfl]
  clear hw1
  go_wp2_with fail
  refine ((unhide HL) _).mono ?_
  rintro e w4 ⟨rfl, hb⟩
  have L4 := L2.below hb
  clear hb
  go_wp2_with fail
  rw [rounds_succ]
  go_wp2_with fail
  refine (nameSign_5 _).mono ?_
  rintro e w1 ⟨rfl, hw1⟩
  rw [hw1]
  clear hw1
  go_wp2_with fail
  refine ((unhide HP36) _).mono ?_
  rintro e w1 ⟨rfl, hw1⟩
  rw [hw1, show Lib.trimPrefix rest.data.toList (⟨#[36]⟩ : ByteArray).data.toList = rest.data.toList from unhide hct36, show Lib.hasPrefix rest.data.toList (⟨#[36]⟩ : ByteArray).data.toList = false from unhide hp36, show (⟨rest.data.toList.toArray⟩ : ByteArray) = rest from rfl]
  clear hw1
  go_wp2_with fail
  refine ((unhide HL) _).mono ?_
  rintro e w3 ⟨rfl, hb⟩
  have L3 := L4.below hb
  clear hb
  go_wp2_with fail
  rw [rounds_succ]
  go_wp2_with fail
  first | rw [show min (2 : Int) 1 = 1 from by decide] | skip
  have d2 : w3.cell? ⟨b, 2, none⟩ = some (.map (some mb)) := L3.rd.cell 2
  have d1 : w3.cell? ⟨b, 1, none⟩ = some (.int .i64 (k : Int)) := L3.rd.cell 1
  have z1 := Own.frozen L3.rd 1
  have wr2 : IntKind.i64.wrap ((k : Int) + 1) = ((k + 1 : Nat) : Int) := by rw [IntWalk.i64_in _ ⟨by omega, by omega⟩]; simp
  obtain ⟨c1, hr1, hc1⟩ := mark_look (rest.extract 0 1) (by rw [ByteArray.size_extract]; unfold maxLen; omega) mb w3 L3.map
  rw [unhide hm] at hc1
  have L6 := L3.move (k + 1)
  clear HL HB HC HP46 HP36 HD L2 L3 L4 hp46 hp36 hct46 hct36
  refine wp_loop_rounds 3 ?_
  rw [rounds_succ]
  go_wp2_with fail
  go_ret3
  exact ⟨rfl, L6⟩

set_option maxRecDepth 100000 in
set_option maxHeartbeats 4000000 in
theorem nom_m_two_1 (b mb : Nat) (s : ByteArray) (k : Nat) (w : World) (h : Lx w w b mb s k) (hk : k ≤ s.size) (hs : s.size ≤ 4000) (h0 : J.leadP (s.extract k s.size) = ByteArray.empty) (hp46 : Lib.hasPrefix (s.extract k s.size).data.toList [46] = true) (hd : J.leadP (J.behind (s.extract k s.size)) = ByteArray.empty) (hp36 : Lib.hasPrefix (s.extract k s.size).data.toList [36] = false) (h2 : 2 ≤ (s.extract k s.size).size) (hm : oneOf theMarks ((s.extract k s.size).extract 0 2) = true) :
    Calls Tryz.prog 98 #[.pointer (some ⟨b, 0, none⟩)] w fun e w' => e = .returned (.tuple #[.int .i64 6, .string ((s.extract k s.size).extract 0 2), .nilIface]) ∧ Lx w w' b mb s (k + 2) := by
  have c0 : ∀ q, (w.drewN q).cell? ⟨b, 0, none⟩ = some (.string s) := fun q => h.rd.cell 0
  have c1 : ∀ q, (w.drewN q).cell? ⟨b, 1, none⟩ = some (.int .i64 (k : Int)) := fun q => h.rd.cell 1
  have hk0 : (0 : Int) ≤ (k : Int) := by omega
  have hkz : (k : Int) ≤ (s.size : Int) := by omega
  have hsz : (s.extract k s.size).size ≤ 1048576 := by rw [ByteArray.size_extract]; omega
  have i0 := idx0
  have i1 := idx1
  have i2 := idx2
  have e0 := empty_eq
  have HD := hide (fun q => h.drewN q)
  obtain ⟨rest, hrest⟩ : ∃ r, r = s.extract k s.size := ⟨_, rfl⟩
  rw [← hrest] at hsz h0 hp46 hp36 h2 hm hd ⊢
  have hrs : rest.size ≤ s.size := by rw [hrest, ByteArray.size_extract]; omega
  have hbs := behind_size rest
  have HL := hide (fun w => leadingName_any rest w hsz)
  rw [h0] at HL
  have HB := hide (fun w => leadingName_any (J.behind rest) w (by omega))
  rw [hd] at HB
  have HC := hide (fun w => Tryz.strings_CutPrefix rest ByteArray.empty w)
  have HP46 := hide (fun w => Tryz.strings_CutPrefix rest ⟨#[46]⟩ w)
  have hct46 := hide (cut_sign rest 46 hp46)
  have hp46 := hide hp46
  have HP36 := hide (fun w => Tryz.strings_CutPrefix rest ⟨#[36]⟩ w)
  have hct36 := hide (cut_other rest 36 hp36)
  have hp36 := hide hp36
  clear h0
  have hm := hide hm
  have h2i : (2 : Int) ≤ (rest.size : Int) := by omega
  go_enter Tryz.func98, Tryz.ntmps98
  go_wp2_with fail
  go_quiet (fail)
  rw [← hrest]
  clear hrest
  go_wp2_with fail
  refine wp_loop_rounds 4 ?_
  rw [rounds_succ]
  go_wp2_with fail
  refine (nameSign_3 _).mono ?_
  rintro e w1 ⟨rfl, hw1⟩
  rw [hw1]
  clear hw1
  go_wp2_with fail
  refine ((unhide HC) _).mono ?_
  rintro e w1 ⟨rfl, hw1⟩
  rw [hw1, (cut_none rest).1, (cut_none rest).2, show (⟨rest.data.toList.toArray⟩ : ByteArray) = rest from rfl]
  clear hw1
  go_wp2_with fail
  refine ((unhide HL) _).mono ?_
  rintro e w2 ⟨rfl, hb⟩
  have L2 := ((unhide HD) _).below hb
  clear hb
  go_wp2_with fail
  rw [rounds_succ]
  go_wp2_with fail
  refine (nameSign_4 _).mono ?_
  rintro e w1 ⟨rfl, hw1⟩
  rw [hw1]
  clear hw1
  go_wp2_with fail
  refine ((unhide HP46) _).mono ?_
  rintro e w1 ⟨rfl, hw1⟩
  rw [hw1, show Lib.trimPrefix rest.data.toList (⟨#[46]⟩ : ByteArray).data.toList = rest.data.toList.drop 1 from unhide hct46, show Lib.hasPrefix rest.data.toList (⟨#[46]⟩ : ByteArray).data.toList = true from unhide hp46, show (⟨(rest.data.toList.drop 1).toArray⟩ : ByteArray) = J.behind rest from rfl]
  clear hw1
  go_wp2_with fail
  refine ((unhide HB) _).mono ?_
  rintro e w4 ⟨rfl, hb⟩
  have L4 := L2.below hb
  clear hb
  go_wp2_with fail
  rw [rounds_succ]
  go_wp2_with fail
  refine (nameSign_5 _).mono ?_
  rintro e w1 ⟨rfl, hw1⟩
  rw [hw1]
  clear hw1
  go_wp2_with fail
  refine ((unhide HP36) _).mono ?_
  rintro e w1 ⟨rfl, hw1⟩
  rw [hw1, show Lib.trimPrefix rest.data.toList (⟨#[36]⟩ : ByteArray).data.toList = rest.data.toList from unhide hct36, show Lib.hasPrefix rest.data.toList (⟨#[36]⟩ : ByteArray).data.toList = false from unhide hp36, show (⟨rest.data.toList.toArray⟩ : ByteArray) = rest from rfl]
  clear hw1
  go_wp2_with fail
  refine ((unhide HL) _).mono ?_
  rintro e w3 ⟨rfl, hb⟩
  have L3 := L4.below hb
  clear hb
  go_wp2_with fail
  rw [rounds_succ]
  go_wp2_with fail
  rw [show min (2 : Int) (rest.size : Int) = 2 from by omega]
  have d2 : w3.cell? ⟨b, 2, none⟩ = some (.map (some mb)) := L3.rd.cell 2
  have d1 : w3.cell? ⟨b, 1, none⟩ = some (.int .i64 (k : Int)) := L3.rd.cell 1
  have z1 := Own.frozen L3.rd 1
  have wr2 : IntKind.i64.wrap ((k : Int) + 2) = ((k + 2 : Nat) : Int) := by rw [IntWalk.i64_in _ ⟨by omega, by omega⟩]; simp
  obtain ⟨c2, hr2, hc2⟩ := mark_look (rest.extract 0 2) (by rw [ByteArray.size_extract]; unfold maxLen; omega) mb w3 L3.map
  rw [unhide hm] at hc2
  have L6 := L3.move (k + 2)
  clear HL HB HC HP46 HP36 HD L2 L3 L4 hp46 hp36 hct46 hct36
  refine wp_loop_rounds 3 ?_
  rw [rounds_succ]
  go_wp2_with fail
  go_ret3
  exact ⟨rfl, L6⟩

set_option maxRecDepth 100000 in
set_option maxHeartbeats 4000000 in
theorem nom_m_one_1 (b mb : Nat) (s : ByteArray) (k : Nat) (w : World) (h : Lx w w b mb s k) (hk : k ≤ s.size) (hs : s.size ≤ 4000) (h0 : J.leadP (s.extract k s.size) = ByteArray.empty) (hp46 : Lib.hasPrefix (s.extract k s.size).data.toList [46] = true) (hd : J.leadP (J.behind (s.extract k s.size)) = ByteArray.empty) (hp36 : Lib.hasPrefix (s.extract k s.size).data.toList [36] = false) (h2 : 2 ≤ (s.extract k s.size).size) (hn : oneOf theMarks ((s.extract k s.size).extract 0 2) = false) (hm : oneOf theMarks ((s.extract k s.size).extract 0 1) = true) :
    Calls Tryz.prog 98 #[.pointer (some ⟨b, 0, none⟩)] w fun e w' => e = .returned (.tuple #[.int .i64 6, .string ((s.extract k s.size).extract 0 1), .nilIface]) ∧ Lx w w' b mb s (k + 1) := by
  have c0 : ∀ q, (w.drewN q).cell? ⟨b, 0, none⟩ = some (.string s) := fun q => h.rd.cell 0
  have c1 : ∀ q, (w.drewN q).cell? ⟨b, 1, none⟩ = some (.int .i64 (k : Int)) := fun q => h.rd.cell 1
  have hk0 : (0 : Int) ≤ (k : Int) := by omega
  have hkz : (k : Int) ≤ (s.size : Int) := by omega
  have hsz : (s.extract k s.size).size ≤ 1048576 := by rw [ByteArray.size_extract]; omega
  have i0 := idx0
  have i1 := idx1
  have i2 := idx2
  have e0 := empty_eq
  have HD := hide (fun q => h.drewN q)
  obtain ⟨rest, hrest⟩ : ∃ r, r = s.extract k s.size := ⟨_, rfl⟩
  rw [← hrest] at hsz h0 hp46 hp36 h2 hm hn hd ⊢
  have hrs : rest.size ≤ s.size := by rw [hrest, ByteArray.size_extract]; omega
  have hbs := behind_size rest
  have HL := hide (fun w => leadingName_any rest w hsz)
  rw [h0] at HL
  have HB := hide (fun w => leadingName_any (J.behind rest) w (by omega))
  rw [hd] at HB
  have HC := hide (fun w => Tryz.strings_CutPrefix rest ByteArray.empty w)
  have HP46 := hide (fun w => Tryz.strings_CutPrefix rest ⟨#[46]⟩ w)
  have hct46 := hide (cut_sign rest 46 hp46)
  have hp46 := hide hp46
  have HP36 := hide (fun w => Tryz.strings_CutPrefix rest ⟨#[36]⟩ w)
  have hct36 := hide (cut_other rest 36 hp36)
  have hp36 := hide hp36
  clear h0
  have hm := hide hm
  have hn := hide hn
  have h2i : (2 : Int) ≤ (rest.size : Int) := by omega
  go_enter Tryz.func98, Tryz.ntmps98
  go_wp2_with fail
  go_quiet (fail)
  rw [← hrest]
  clear hrest
  go_wp2_with fail
  refine wp_loop_rounds 4 ?_
  rw [rounds_succ]
  go_wp2_with fail
  refine (nameSign_3 _).mono ?_
  rintro e w1 ⟨rfl, hw1⟩
  rw [hw1]
  clear hw1
  go_wp2_with fail
  refine ((unhide HC) _).mono ?_
  rintro e w1 ⟨rfl, hw1⟩
  rw [hw1, (cut_none rest).1, (cut_none rest).2, show (⟨rest.data.toList.toArray⟩ : ByteArray) = rest from rfl]
  clear hw1
  go_wp2_with fail
  refine ((unhide HL) _).mono ?_
  rintro e w2 ⟨rfl, hb⟩
  have L2 := ((unhide HD) _).below hb
  clear hb
  go_wp2_with fail
  rw [rounds_succ]
  go_wp2_with fail
  refine (nameSign_4 _).mono ?_
  rintro e w1 ⟨rfl, hw1⟩
  rw [hw1]
  clear hw1
  go_wp2_with fail
  refine ((unhide HP46) _).mono ?_
  rintro e w1 ⟨rfl, hw1⟩
  rw [hw1, show Lib.trimPrefix rest.data.toList (⟨#[46]⟩ : ByteArray).data.toList = rest.data.toList.drop 1 from unhide hct46, show Lib.hasPrefix rest.data.toList (⟨#[46]⟩ : ByteArray).data.toList = true from unhide hp46, show (⟨(rest.data.toList.drop 1).toArray⟩ : ByteArray) = J.behind rest from rfl]
  clear hw1
  go_wp2_with fail
  refine ((unhide HB) _).mono ?_
  rintro e w4 ⟨rfl, hb⟩
  have L4 := L2.below hb
  clear hb
  go_wp2_with fail
  rw [rounds_succ]
  go_wp2_with fail
  refine (nameSign_5 _).mono ?_
  rintro e w1 ⟨rfl, hw1⟩
  rw [hw1]
  clear hw1
  go_wp2_with fail
  refine ((unhide HP36) _).mono ?_
  rintro e w1 ⟨rfl, hw1⟩
  rw [hw1, show Lib.trimPrefix rest.data.toList (⟨#[36]⟩ : ByteArray).data.toList = rest.data.toList from unhide hct36, show Lib.hasPrefix rest.data.toList (⟨#[36]⟩ : ByteArray).data.toList = false from unhide hp36, show (⟨rest.data.toList.toArray⟩ : ByteArray) = rest from rfl]
  clear hw1
  go_wp2_with fail
  refine ((unhide HL) _).mono ?_
  rintro e w3 ⟨rfl, hb⟩
  have L3 := L4.below hb
  clear hb
  go_wp2_with fail
  rw [rounds_succ]
  go_wp2_with fail
  rw [show min (2 : Int) (rest.size : Int) = 2 from by omega]
  have d2 : w3.cell? ⟨b, 2, none⟩ = some (.map (some mb)) := L3.rd.cell 2
  have d1 : w3.cell? ⟨b, 1, none⟩ = some (.int .i64 (k : Int)) := L3.rd.cell 1
  have z1 := Own.frozen L3.rd 1
  have wr2 : IntKind.i64.wrap ((k : Int) + 1) = ((k + 1 : Nat) : Int) := by rw [IntWalk.i64_in _ ⟨by omega, by omega⟩]; simp
  obtain ⟨c2, hr2, hc2⟩ := mark_look (rest.extract 0 2) (by rw [ByteArray.size_extract]; unfold maxLen; omega) mb w3 L3.map
  rw [unhide hn] at hc2
  obtain ⟨c1, hr1, hc1⟩ := mark_look (rest.extract 0 1) (by rw [ByteArray.size_extract]; unfold maxLen; omega) mb w3 L3.map
  rw [unhide hm] at hc1
  have L6 := L3.move (k + 1)
  clear HL HB HC HP46 HP36 HD L2 L3 L4 hp46 hp36 hct46 hct36
  refine wp_loop_rounds 3 ?_
  rw [rounds_succ]
  go_wp2_with fail
  rw [rounds_succ]
  go_wp2_with fail
  go_ret3
  exact ⟨rfl, L6⟩

set_option maxRecDepth 100000 in
set_option maxHeartbeats 4000000 in
theorem nom_m_alone_1 (b mb : Nat) (s : ByteArray) (k : Nat) (w : World) (h : Lx w w b mb s k) (hk : k ≤ s.size) (hs : s.size ≤ 4000) (h0 : J.leadP (s.extract k s.size) = ByteArray.empty) (hp46 : Lib.hasPrefix (s.extract k s.size).data.toList [46] = true) (hd : J.leadP (J.behind (s.extract k s.size)) = ByteArray.empty) (hp36 : Lib.hasPrefix (s.extract k s.size).data.toList [36] = false) (h2 : (s.extract k s.size).size = 1) (hm : oneOf theMarks ((s.extract k s.size).extract 0 1) = true) :
    Calls Tryz.prog 98 #[.pointer (some ⟨b, 0, none⟩)] w fun e w' => e = .returned (.tuple #[.int .i64 6, .string ((s.extract k s.size).extract 0 1), .nilIface]) ∧ Lx w w' b mb s (k + 1) := by
  have c0 : ∀ q, (w.drewN q).cell? ⟨b, 0, none⟩ = some (.string s) := fun q => h.rd.cell 0
  have c1 : ∀ q, (w.drewN q).cell? ⟨b, 1, none⟩ = some (.int .i64 (k : Int)) := fun q => h.rd.cell 1
  have hk0 : (0 : Int) ≤ (k : Int) := by omega
  have hkz : (k : Int) ≤ (s.size : Int) := by omega
  have hsz : (s.extract k s.size).size ≤ 1048576 := by rw [ByteArray.size_extract]; omega
  have i0 := idx0
  have i1 := idx1
  have i2 := idx2
  have e0 := empty_eq
  have HD := hide (fun q => h.drewN q)
  obtain ⟨rest, hrest⟩ : ∃ r, r = s.extract k s.size := ⟨_, rfl⟩
  rw [← hrest] at hsz h0 hp46 hp36 h2 hm hd ⊢
  have hrs : rest.size ≤ s.size := by rw [hrest, ByteArray.size_extract]; omega
  have hbs := behind_size rest
  have HL := hide (fun w => leadingName_any rest w hsz)
  rw [h0] at HL
  have HB := hide (fun w => leadingName_any (J.behind rest) w (by omega))
  rw [hd] at HB
  have HC := hide (fun w => Tryz.strings_CutPrefix rest ByteArray.empty w)
  have HP46 := hide (fun w => Tryz.strings_CutPrefix rest ⟨#[46]⟩ w)
  have hct46 := hide (cut_sign rest 46 hp46)
  have hp46 := hide hp46
  have HP36 := hide (fun w => Tryz.strings_CutPrefix rest ⟨#[36]⟩ w)
  have hct36 := hide (cut_other rest 36 hp36)
  have hp36 := hide hp36
  clear h0
  have hm := hide hm
  have h2i : (rest.size : Int) = 1 := by omega
  go_enter Tryz.func98, Tryz.ntmps98
  go_wp2_with fail
  go_quiet (fail)
  rw [← hrest]
  clear hrest
  go_wp2_with fail
  refine wp_loop_rounds 4 ?_
  rw [rounds_succ]
  go_wp2_with fail
  refine (nameSign_3 _).mono ?_
  rintro e w1 ⟨rfl, hw1⟩
  rw [hw1]
  clear hw1
  go_wp2_with fail
  refine ((unhide HC) _).mono ?_
  rintro e w1 ⟨rfl, hw1⟩
  rw [hw1, (cut_none rest).1, (cut_none rest).2, show (⟨rest.data.toList.toArray⟩ : ByteArray) = rest from rfl]
  clear hw1
  go_wp2_with fail
  refine ((unhide HL) _).mono ?_
  rintro e w2 ⟨rfl, hb⟩
  have L2 := ((unhide HD) _).below hb
  clear hb
  go_wp2_with fail
  rw [rounds_succ]
  go_wp2_with fail
  refine (nameSign_4 _).mono ?_
  rintro e w1 ⟨rfl, hw1⟩
  rw [hw1]
  clear hw1
  go_wp2_with fail
  refine ((unhide HP46) _).mono ?_
  rintro e w1 ⟨rfl, hw1⟩
  rw [hw1, show Lib.trimPrefix rest.data.toList (⟨#[46]⟩ : ByteArray).data.toList = rest.data.toList.drop 1 from unhide hct46, show Lib.hasPrefix rest.data.toList (⟨#[46]⟩ : ByteArray).data.toList = true from unhide hp46, show (⟨(rest.data.toList.drop 1).toArray⟩ : ByteArray) = J.behind rest from rfl]
  clear hw1
  go_wp2_with fail
  refine ((unhide HB) _).mono ?_
  rintro e w4 ⟨rfl, hb⟩
  have L4 := L2.below hb
  clear hb
  go_wp2_with fail
  rw [rounds_succ]
  go_wp2_with fail
  refine (nameSign_5 _).mono ?_
  rintro e w1 ⟨rfl, hw1⟩
  rw [hw1]
  clear hw1
  go_wp2_with fail
  refine ((unhide HP36) _).mono ?_
  rintro e w1 ⟨rfl, hw1⟩
  rw [hw1, show Lib.trimPrefix rest.data.toList (⟨#[36]⟩ : ByteArray).data.toList = rest.data.toList from unhide hct36, show Lib.hasPrefix rest.data.toList (⟨#[36]⟩ : ByteArray).data.toList = false from unhide hp36, show (⟨rest.data.toList.toArray⟩ : ByteArray) = rest from rfl]
  clear hw1
  go_wp2_with fail
  refine ((unhide HL) _).mono ?_
  rintro e w3 ⟨rfl, hb⟩
  have L3 := L4.below hb
  clear hb
  go_wp2_with fail
  rw [rounds_succ]
  go_wp2_with fail
  first | rw [show min (2 : Int) 1 = 1 from by decide] | skip
  have d2 : w3.cell? ⟨b, 2, none⟩ = some (.map (some mb)) := L3.rd.cell 2
  have d1 : w3.cell? ⟨b, 1, none⟩ = some (.int .i64 (k : Int)) := L3.rd.cell 1
  have z1 := Own.frozen L3.rd 1
  have wr2 : IntKind.i64.wrap ((k : Int) + 1) = ((k + 1 : Nat) : Int) := by rw [IntWalk.i64_in _ ⟨by omega, by omega⟩]; simp
  obtain ⟨c1, hr1, hc1⟩ := mark_look (rest.extract 0 1) (by rw [ByteArray.size_extract]; unfold maxLen; omega) mb w3 L3.map
  rw [unhide hm] at hc1
  have L6 := L3.move (k + 1)
  clear HL HB HC HP46 HP36 HD L2 L3 L4 hp46 hp36 hct46 hct36
  refine wp_loop_rounds 3 ?_
  rw [rounds_succ]
  go_wp2_with fail
  go_ret3
  exact ⟨rfl, L6⟩

end Go.Proofs.YtabpjknbdahddaaGreatDoor
