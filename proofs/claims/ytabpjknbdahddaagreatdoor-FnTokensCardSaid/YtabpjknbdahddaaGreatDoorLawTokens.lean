/-
  Proved: whatever bytes the tokens are drawn of, tokens that are joined by impl.JoinTokens are read by impl.LexProgram as the same tokens (laws.FnTokens returns true), where the library's listed variables hold what the program's text lays in them (the card ties that). No other condition.
-/
import Derived.Test.YtabpjknbdahddaaGreatDoorLexT
import Derived.Test.YtabpjknbdahddaaGreatDoorTie
import Derived.Test.YtabpjknbdahddaaGreatDoorCards
import Derived.ProofKit
import Derived.OpenShut
import Derived.ShutString
import Derived.ChangeOld
import Derived.LaidMore
import Derived.Stop.Joined
import Derived.Stop.LaidErr
import Derived.MakeChecks
import Derived.LaidHandle
import Derived.LaidLaws
import Derived.SevenTiedAt
import Derived.Lib.SmallJoins
import Derived.Lib.AppendIntMem
import Derived.Lib.LaidTab
import Derived.BigRegion
import Derived.BigQuiet
import Derived.RegionTactic
import Derived.Deep.QuietTactic
namespace Go.Proofs.YtabpjknbdahddaaGreatDoor
open Go.ChangeShapes Go.WideShapes Go.ChangeAt Go.RowKit
open Go.ChangeMaps (open_string shut_string)
set_option linter.unusedVariables false
set_option linter.unusedSimpArgs false


theorem fld_code (x : Int) (y : ByteArray) (w : World) : (Instr.field 27 (.agg #[.int .i64 x, .string y]) 0).run Tryz.prog w = .ok (.int .i64 x) w := by kernel_rfl
theorem join_nil : J.joinOut [] = (0, ByteArray.empty) := rfl
theorem join_zero {l : List Tk} (h : (J.joinOut l).1 = 0) : l.length ≤ 300 ∧ J.badAt l = 0 ∧ J.joinOut l = (0, J.joinK l l.length) := by
  by_cases h1 : 300 < l.length
  · rw [J.join_many h1] at h; cases h
  · by_cases h2 : J.badAt l = 0
    · exact ⟨by omega, h2, J.join_ok h1 h2⟩
    · rw [J.join_bad h1 h2] at h; exact absurd h h2
theorem join_calls {w1 : World} {B : Nat} {v : Value} {l : List Tk} (row1 : w1.ownsRow B 33 4 v l.length (tkFlat l)) (hl : l.length ≤ 1048576) (hsz : ∀ i, i < l.length → (l.getD i Tk.zero).text.size ≤ 1048576) (htab : Lib.TabBelow Tryz.prog w1.heap.size w1 "internal/strconv.uint64pow10" .u64 Lib.pow10Tab) :
    Calls Tryz.prog 7 #[v] w1 fun e w' => e = .returned (.agg #[.int .i64 (J.joinOut l).1, .string (J.joinOut l).2]) ∧ Below w1.heap.size w1 w' := by
  rcases row_tokens row1 with ⟨rfl, rfl⟩ | ⟨g, c, rfl, hc, hg, hlt, hrow⟩
  · rw [join_nil]; exact implJoin_none w1
  · exact implJoin_any g c l w1 hrow hlt hc hl hsz htab
theorem sjoin_calls {w1 : World} {B : Nat} {v : Value} {l : List Tk} (row1 : w1.ownsRow B 33 4 v l.length (tkFlat l)) (hl : l.length ≤ 1048576) (hsz : ∀ i, i < l.length → (l.getD i Tk.zero).text.size ≤ 1048576) (hne : (J.joinOut l).1 ≠ 0) (W : World) (hW : Below w1.heap.size w1 W) :
    Calls Tryz.prog 8 #[v] W fun e w' => e = .returned (.agg #[.int .i64 (J.joinOut l).1, .string (J.joinOut l).2]) ∧ Below W.heap.size W w' := by
  rcases row_tokens row1 with ⟨rfl, rfl⟩ | ⟨g, c, rfl, hc, hg, hlt, hrow⟩
  · rw [join_nil] at hne; exact absurd rfl hne
  · exact specJoin_any g c l W (hrow.below hW hlt) (Nat.lt_of_lt_of_le hlt hW.size) hc hl hsz
/-- What the loop over the tokens holds. -/
structure Lv (w wr : World) (R : Nat) (a1 a2 : Option Addr) (c1 c2 : Nat) (l ts : List Tk) : Prop where
  r1 : wr.ownsRow w.heap.size 33 4 (.slice a1 l.length c1) l.length (tkFlat l)
  r2 : wr.ownsRow w.heap.size 33 4 (.slice a2 ts.length c2) ts.length (tkFlat ts)
  res : Own wr R 30 [.int .i64 0, .int .i64 0, .slice a2 ts.length c2]
  bel : Below w.heap.size w wr
theorem Lv.drewN {w wr : World} {R : Nat} {a1 a2 : Option Addr} {c1 c2 : Nat} {l ts : List Tk} (h : Lv w wr R a1 a2 c1 c2 l ts) (q : Nat) : Lv w (wr.drewN q) R a1 a2 c1 c2 l ts := ⟨h.r1, h.r2, h.res, ⟨h.bel.os, h.bel.tape, h.bel.output, h.bel.size, h.bel.block⟩⟩
/-- The cells of the two tokens at a place. -/
theorem Lv.at {w wr : World} {R : Nat} {a1 a2 : Option Addr} {c1 c2 : Nat} {l ts : List Tk} (h : Lv w wr R a1 a2 c1 c2 l ts) (hs : SameL ts l) (k : Nat) (hk : k < l.length) :
    ∃ (g1 g2 : Nat) (kd nu : Int) (tx : ByteArray), a1 = some ⟨g1, 0, none⟩ ∧ a2 = some ⟨g2, 0, none⟩ ∧ l.length ≤ c1 ∧ ts.length ≤ c2 ∧
      (wr.cell? ⟨g1, k * 4, none⟩ = some (.int .i64 kd) ∧ wr.cell? ⟨g1, k * 4 + 2, none⟩ = some (.int .i64 nu) ∧ wr.cell? ⟨g1, k * 4 + 3, none⟩ = some (.string tx)) ∧
      (wr.cell? ⟨g2, k * 4, none⟩ = some (.int .i64 kd) ∧ wr.cell? ⟨g2, k * 4 + 2, none⟩ = some (.int .i64 nu) ∧ wr.cell? ⟨g2, k * 4 + 3, none⟩ = some (.string tx)) := by
  have hk2 : k < ts.length := by have := hs.1; omega
  obtain ⟨s1, s2, s3⟩ := hs.2 k hk2
  rcases row_tokens h.r1 with ⟨_, e⟩ | ⟨g1, d1, e1, hc1, _, _, row1⟩
  · subst e; simp at hk
  rcases row_tokens h.r2 with ⟨_, e⟩ | ⟨g2, d2, e2, hc2, _, _, row2⟩
  · subst e; simp at hk2
  injection e1 with e1 _ e1c
  injection e2 with e2 _ e2c
  obtain ⟨p0, _, p2, p3⟩ := row1 k hk
  obtain ⟨q0, _, q2, q3⟩ := row2 k hk2
  simp only [Nat.zero_add] at p0 p2 p3 q0 q2 q3
  rw [s1] at q0
  rw [s2] at q2
  rw [s3] at q3
  exact ⟨g1, g2, _, _, _, e1, e2, by omega, by omega, ⟨p0, p2, p3⟩, ⟨q0, q2, q3⟩⟩
set_option maxRecDepth 100000 in
set_option maxHeartbeats 800000 in
theorem lawTokens_walk (a : Option Addr) (len cap : Nat) (w : World) (hB : Byts w a len cap) (hE : GErr w) (hT : Lib.TabIs Tryz.prog w "internal/strconv.uint64pow10" .u64 Lib.pow10Tab) :
    Calls Tryz.prog 3 #[.slice a len cap] w fun e w' => e = .returned (.bool true) ∧ Below w.heap.size w w' := by
  by_cases hbig : 1048576 < len
  · go_enter Tryz.func3, Tryz.ntmps3
    go_wp2_with fail
    refine (lwBig_any a len cap _).mono ?_
    rintro e w1 ⟨rfl, hw1⟩
    rw [hw1, decide_eq_true hbig]
    clear hw1
    go_wp2_with fail
    go_ret
    exact ⟨rfl, Below.refl _ _⟩
  have HD := hide (drawJoinTokens_any a len cap w hB.2 hB.1 (by omega))
  have HTB := hide (Lib.tabBelow_of_tabIs hT)
  have HE := hide hE
  clear hB hE hT
  go_enter Tryz.func3, Tryz.ntmps3
  go_wp2_with fail
  refine (lwBig_any a len cap _).mono ?_
  rintro e w1 ⟨rfl, hw1⟩
  rw [hw1, decide_eq_false hbig]
  clear hw1 hbig
  go_wp2_with fail
  refine (unhide HD).mono ?_
  rintro e w1 ⟨v, l, rfl, row1, hl, hsm, B1⟩
  have hsz : ∀ i, i < l.length → (l.getD i Tk.zero).text.size ≤ 1048576 := fun i hi => by
    have := hsm _ (show l.getD i Tk.zero ∈ l by rw [List.getD_eq_getElem?_getD, List.getElem?_eq_getElem hi]; exact List.getElem_mem hi)
    omega
  have HJ := hide (join_calls row1 (by omega) hsz (fun w' hb' => (unhide HTB) w' (B1.trans (hb'.mono B1.size))))
  have HSJ := hide (fun hne W hW => sjoin_calls row1 (by omega) hsz hne W hW)
  have ROW := hide row1
  obtain ⟨a1, c1, rfl⟩ := row_shape row1
  obtain ⟨x, y, hxy⟩ : ∃ x y, J.joinOut l = (x, y) := ⟨_, _, rfl⟩
  rw [hxy] at HJ HSJ
  have HXY := hide hxy
  clear hxy
  clear HD hsz hsm row1
  go_wp2_with fail
  refine (unhide HJ).mono ?_
  rintro e w2 ⟨rfl, hb2⟩
  have B2 : Below w.heap.size w w2 := B1.trans (hb2.mono B1.size)
  clear HJ
  obtain ⟨w3, hw3⟩ : ∃ w3, w3 = w2.alloc (.cells #[.int .i64 x, .string y] 27) := ⟨_, rfl⟩
  have O3 : Own w3 w2.heap.size 27 [.int .i64 x, .string y] := by rw [hw3]; exact ⟨_, heap_alloc_new _ _, rfl⟩
  have B13 : Below w1.heap.size w1 w3 := by rw [hw3]; exact hb2.alloc hb2.size _
  have B3 : Below w.heap.size w w3 := by rw [hw3]; exact B2.alloc B2.size _
  have c0 := O3.cell 0
  have c1' := O3.cell 1
  simp only [List.getElem?_cons_zero, List.getElem?_cons_succ] at c0 c1'
  by_cases hx : x = 0
  · obtain ⟨hn, hbad, hj⟩ := join_zero (l := l) (by rw [unhide HXY]; exact hx)
    have hy : y = J.joinK l l.length := by have := (unhide HXY).symm.trans hj; injection this
    have HR : Hid (∃ ts, Reads y (J.skip y 0) ts ∧ SameL ts l) := by rw [hy]; exact reads_joinK hbad
    have ROW3 := hide (row_keep (unhide ROW) (Nat.le_refl _) (fun g _ h2 => B13.block g h2))
    subst hx
    clear HSJ HXY hj hy hbad ROW
    go_wp2_with fail
    rw [← hw3]
    clear hw3
    by_cases hbig : 4000 < y.size
    · refine (lexProgram_big y _ hbig).mono ?_
      rintro e w4 ⟨rfl, hb4⟩
      have B4 : Below w.heap.size w w4 := B3.trans (hb4.mono B3.size)
      have c4 : ∀ o, (w4.alloc o).cell? ⟨w2.heap.size, 1, none⟩ = some (.string y) := fun o => by
        have := ((O3.below hb4 O3.lt).alloc o).cell 1
        simpa only [List.getElem?_cons_zero, List.getElem?_cons_succ] using this
      have B5 := hide (fun o => B4.alloc B4.size o)
      have hbz : (4000 : Int) < (y.size : Int) := by omega
      clear hbig hb4 B4 O3 c0 c1'
      go_wp2_with fail
      go_ret
      exact ⟨rfl, (unhide B5) _⟩
    · obtain ⟨ts, hrd, hsame⟩ := unhide HR
      have hlen := hsame.1
      refine (lexProgram_any y ts _ (by omega) ?_ (by omega) hrd).mono ?_
      · obtain ⟨ev, h1, h2, h3⟩ := unhide HE
        exact ⟨ev, h1, Nat.lt_of_lt_of_le h2 B3.size, (B3.cell (p := ⟨6, 0, none⟩) h2).trans h3⟩
      rintro e w4 ⟨v2, rfl, row4, hb4⟩
      obtain ⟨a2, c2, rfl⟩ := row_shape row4
      have B4 : Below w.heap.size w w4 := B3.trans (hb4.mono B3.size)
      obtain ⟨w5, hw5⟩ : ∃ w5, w5 = w4.alloc (.cells #[.int .i64 0, .int .i64 0, .slice a2 ts.length c2] 30) := ⟨_, rfl⟩
      have L5 : Lv w w5 w4.heap.size a1 a2 c1 c2 l ts := by
        refine ⟨?_, ?_, ?_, ?_⟩
        · rw [hw5]; exact World.ownsRow.alloc (row_keep (unhide ROW3) (Nat.le_refl _) (fun g _ h2 => hb4.block g h2)) _
        · rw [hw5]; exact World.ownsRow.alloc (row_keep row4 B3.size (fun g _ _ => rfl)) _
        · rw [hw5]; exact ⟨_, heap_alloc_new _ _, rfl⟩
        · rw [hw5]; exact B4.alloc B4.size _
      have c4 : w5.cell? ⟨w2.heap.size, 1, none⟩ = some (.string y) := by
        have := ((O3.below hb4 O3.lt).alloc (.cells #[.int .i64 0, .int .i64 0, .slice a2 ts.length c2] 30)).cell 1
        rw [hw5]
        simpa only [List.getElem?_cons_zero, List.getElem?_cons_succ] using this
      have HL5 := hide L5
      have HSM := hide hsame
      have hbz : ¬ (4000 : Int) < (y.size : Int) := by omega
      have HLN := hide hlen
      have r0 := L5.res.cell 0
      have r2 := L5.res.cell 2
      simp only [List.getElem?_cons_zero, List.getElem?_cons_succ] at r0 r2
      rw [hw5] at r0 r2 c4
      have hne : ((ts.length : Int) != (l.length : Int)) = false := by rw [hlen]; simp
      clear hbig hb4 B4 O3 c0 c1' row4 L5 hsame hlen hrd B3 B13 ROW3 HR
      go_wp2_with fail
      rw [← hw5]
      clear hw5 r0 r2 c4 hne hbz
      go_loopg [6] l.length (fun gh s6 wr => ∃ k : Nat, Hid (gh = l.length - k) ∧ s6 = .int .i64 (k : Int) ∧ k ≤ l.length ∧ Hid (Lv w wr w4.heap.size a1 a2 c1 c2 l ts))
      case atStart => exact ⟨0, rfl, rfl, by omega, unhide HL5⟩
      case round =>
        obtain ⟨k, hg, rfl, hk, HL⟩ := hrel
        clear HL5
        by_cases hlt : k < l.length
        · have hltI : (k : Int) < (l.length : Int) := by omega
          have hltT : (k : Int) < (ts.length : Int) := by have := unhide HLN; omega
          obtain ⟨g1, g2, kd, nu, tx, rfl, rfl, hc1, hc2, ⟨p0, p2, p3⟩, ⟨q0, q2, q3⟩⟩ := (unhide HL).at (unhide HSM) k hlt
          have R2 := (unhide HL).res.cell 2
          simp only [List.getElem?_cons_zero, List.getElem?_cons_succ] at R2
          have hk0 : (0 : Int) ≤ (k : Int) := by omega
          have HLQ := hide (fun q => (unhide HL).drewN q)
          have hh := hide hlt
          clear hlt HL
          go_wp2_with fail
          go_quiet (fail)
          have hkw : IntKind.i64.wrap ((k : Int) + 1) = ((k + 1 : Nat) : Int) := by rw [IntWalk.i64_in _ ⟨by omega, by omega⟩]; simp
          go_wp2_with fail
          go_roundg (l.length - (k + 1))
          case rel => exact ⟨k + 1, rfl, by go_num, by omega, (unhide HLQ) _⟩
          case measure => have := hg.out; have := unhide hh; omega
        · have hltI : ¬ (k : Int) < (l.length : Int) := by omega
          go_wp2_with fail
          go_ret
          exact ⟨rfl, (unhide HL).bel⟩
  · have g0 : (x != 0) = true := by simpa using hx
    have HS := hide ((unhide HSJ) hx)
    clear HSJ hx
    have hf0 := fun W => fld_code x y W
    go_wp2_with fail
    rw [← hw3]
    clear hw3
    go_region_with (go_at_call 8; refine ((unhide HS) _ B13.drew).mono ?_; rintro e w4 ⟨rfl, hb4⟩; have c4 := ((show Own w3.drew w2.heap.size 27 [.int .i64 x, .string y] from O3).below hb4 O3.lt).cell 0; simp only [List.getElem?_cons_zero] at c4)
    all_goals
      go_wp2_with fail
      go_ret
      exact ⟨ret_bool (by simp), B3.drew.trans (hb4.mono B3.size)⟩

namespace lawTokens
theorem own : ownKnob Tryz.prog.godebug = none := by kernel_rfl
theorem laidOut : laidOutB Tryz.prog = true := by kernel_rfl
theorem gER : Tryz.prog.globalNamed "strconv.ErrRange" = some 6 := by kernel_rfl
theorem gERType : (Tryz.prog.globals[6]?).map (·.type) = some 58 := by kernel_rfl
theorem cellsE : Tryz.prog.cellsOf 252 = 1 := by kernel_rfl
theorem cellsS : Tryz.prog.cellsOf 9 = 1 := by kernel_rfl
theorem star : "*" ++ "errors.errorString" = "*errors.errorString" := by decide
theorem rowE (u : TypeId) (h : Tryz.prog.typeName? 3 u = some "*errors.errorString") : u = 250 :=
  typeName_ptr_named (nm := "errors.errorString") (by rw [star]; kernel_rfl) (by kernel_rfl) (by decide) u (by rw [star]; exact h)
theorem et : Tryz.prog.globalNamed "errors.errorType" = some 0 := by kernel_rfl
theorem rt : (Tryz.prog.cutTypes.find? (·.1 == "internal/reflectlite.rtype")).map (·.2) = some 162 := by kernel_rfl
theorem oneRow : ((List.range 287).filter fun t => Tryz.prog.rowNamed t [101, 114, 114, 111, 114]) = [58] := by kernel_rfl
theorem size : Tryz.prog.types.size = 287 := by kernel_rfl
theorem handle : typeHandle Tryz.prog 58 = .pointer (some ⟨7, 58, none⟩) := by kernel_rfl
/-- The condition's two parts. -/
theorem parts {W : World} (h : laidMetH Tryz.prog Rows.fnTokensRow.laid W) : laidMet Tryz.prog (Rows.fnTokensRow.laid.filter fun x => x.2.handleName?.isNone) W ∧ handlesMet Tryz.prog (Rows.fnTokensRow.laid.filter fun x => x.2.handleName?.isSome) W := by
  unfold laidMetH at h
  have e : (Rows.fnTokensRow.laid.filter fun x => x.2.handleName?.isSome) = [("errors.errorType", Rows.laid_errors_errorType)] := by kernel_rfl
  rw [e] at h ⊢
  exact h
theorem plain : (Rows.fnTokensRow.laid.filter fun x => x.2.handleName?.isNone) = [("math/bits.deBruijn32tab", Rows.laid_math_bits_deBruijn32tab), ("math/bits.deBruijn64tab", Rows.laid_math_bits_deBruijn64tab), ("internal/strconv.uint64pow10", Rows.laid_internal_strconv_uint64pow10), ("strconv.ErrRange", Rows.laid_strconv_ErrRange), ("strconv.ErrSyntax", Rows.laid_strconv_ErrSyntax)] := by kernel_rfl
theorem lt_of_cell {W : World} {g : Nat} {v : Value} (hc : W.cell? ⟨g, 0, none⟩ = some v) : g < W.heap.size := by
  by_cases hlt : g < W.heap.size
  · exact hlt
  · have hnone : W.heap[g]? = none := Array.getElem?_eq_none (by omega)
    simp [World.cell?, hnone] at hc
theorem gTab : Tryz.prog.globalNamed "internal/strconv.uint64pow10" = some 1 := by kernel_rfl
theorem gTabType : (Tryz.prog.globals[1]?).map (·.type) = some 224 := by kernel_rfl
theorem tabData_is : (Rows.laid_internal_strconv_uint64pow10 : DataW Unit) = Lib.tabData .u64 Lib.pow10Tab := by kernel_rfl
/-- What the condition gives the walk: the error's cell, and the table. -/
theorem of_laid {W : World} (h : laidMetH Tryz.prog Rows.fnTokensRow.laid W) : GErr W ∧ Lib.TabIs Tryz.prog W "internal/strconv.uint64pow10" .u64 Lib.pow10Tab := by
  obtain ⟨h1, h2⟩ := parts h
  rw [plain] at h1
  have h3 := laidMet.tail (laidMet.tail (laidMet.tail h1))
  obtain ⟨a0, s0, hv0, -, -, -⟩ := laid_sentinel h3 gER gERType Tryz.underlying58 rowE Tryz.underlying250 Tryz.underlying252 rfl rfl Tryz.underlying9 cellsE cellsS
  have h0 := World.var?_cell gER hv0 0
  have hc : W.cell? ⟨6, 0, none⟩ = some (.iface 250 (.pointer (some a0))) := by simpa using h0
  have h4 := laidMet.tail (laidMet.tail h1)
  rw [tabData_is] at h4
  exact ⟨⟨_, .inr ⟨_, _, rfl⟩, lt_of_cell hc, hc⟩, Lib.tabIs_of_head gTab gTabType Tryz.underlying224 Tryz.underlying198 (by kernel_rfl) (by kernel_rfl) h4⟩

/-- The door's own heap meets the condition. -/
theorem door_met (os : Os) (args : Array Value) : laidMetH Tryz.prog Rows.fnTokensRow.laid ((World.doorLaid Tryz.prog 400 os).forCall (fun _ _ => 0) ⟨#[], args, []⟩).memory :=
  laidMetH_of_parts3 (fuel := 8) (laidMet_of_run' 8 (by kernel_rfl) (by kernel_rfl)) (by kernel_rfl) (by kernel_rfl)

set_option maxRecDepth 100000 in
theorem lifted (os : Os) (started : os.Started) (H : Type) (enc : TypeId × Value → H) :
    ReturnsInHanded {} Tryz.checked os 3 .any (fun w args => (Rows.fnTokensSpec.pre enc Tryz.prog Tryz.f3 [] false w args ∧ laidMetH Tryz.prog Rows.fnTokensRow.laid w) ∧ sizedMet enc Tryz.prog Tryz.f3 (OpenSpec.ofChange Rows.fnTokensSpec) false w args)
      (Rows.fnTokensSpec.post enc Tryz.prog Tryz.f3 false true false false) := by
  refine returnsInHanded_of_change_and (C := Tryz.checked) (X := fun w _ => laidMetH Tryz.prog Rows.fnTokensRow.laid w) (fun _ _ _ hh h => h.of_heap hh) own started (by kernel_rfl) Tryz.func3
    (ChangeSpec.witness_shaped (enc := enc) (C := Tryz.checked) (os := os) (X := fun w _ => laidMetH Tryz.prog Rows.fnTokensRow.laid w) false (World.doorLaid Tryz.prog 400 os) #[.slice none 0 0] 8 rfl (World.shaped_of_RefB (by kernel_rfl) (by kernel_rfl)) (by kernel_rfl) (by kernel_rfl) (by kernel_rfl) (door_met os _)) ?_
  intro W base args ds gs before hval0 hW _ _ hL _
  have hval : ∀ (j : Nat) t v, Tryz.f3.params[j]? = some t → args[j]? = some v → Value.okWide Tryz.prog W .any base t v := hval0
  have hW' := hW
  obtain ⟨p, q, hA0, hV, rfl, hfz, hnd⟩ := hW
  have hA : DataW.TrodAll enc Tryz.prog W 0 (fun _ => true) true Tryz.f3.params.toList args.toList ds p := hA0
  rw [Tryz.params3] at hA hval
  obtain ⟨v0, vs0, d0, ds0, p0, q0, hargs, rfl, rfl, h0, r0⟩ := trodAll_cons hA
  obtain ⟨rfl, rfl, rfl⟩ := trodAll_nil r0
  obtain rfl : args = #[v0] := by cases args; simp_all
  obtain ⟨rfl, rfl⟩ := trodVars_none hV
  obtain ⟨a0, len0, cap0, rfl⟩ := okWide_slice Tryz.underlying22 (hval 0 22 v0 rfl rfl)
  have k0 := h0
  have lt0 : ∀ x ∈ p0, x.block < W.heap.size := by obtain ⟨m, hm⟩ := k0; exact DataW.trod_lt m _ _ _ hm
  have w0 : Byts W a0 len0 cap0 := by
    obtain ⟨fuel, hf⟩ := h0
    exact open_byts hf
  obtain ⟨hE, hT⟩ := of_laid hL
  clear hA0 hval0
  refine (lawTokens_walk a0 len0 cap0 W w0 hE hT).mono fun e W' ⟨he, bel⟩ => ?_
  subst he
  exact ⟨_, rfl, _, _, _, [], _, [], hW', trodAll_mk1 (shut_bool Tryz.underlying4 _), (trodAll_cons_mk (Below.trod laidOut (by kernel_rfl) (of_decide_eq_true (by kernel_rfl)) k0 bel lt0) trodAll_mk0), rfl, bel.frame _, fun h => by cases h⟩

theorem over : Rows.FnTokensSaid :=
  OpenClaim.holds_of_wide 3 Tryz.f3 rfl rfl rfl rfl rfl rfl rfl ⟨rfl, rfl, rfl, rfl, rfl⟩ rfl rfl rfl rfl rfl (by kernel_rfl) Tryz.func3 (by kernel_rfl)
    (of_decide_eq_true (by kernel_rfl)) (by unfold Func.isWrapper; first | (rw [if_pos (by decide +kernel)]; kernel_rfl) | (rw [if_neg (by decide +kernel)]; exact ⟨rfl, rfl⟩))
    (fun os started H enc _ => lifted os started H enc)
end lawTokens

/-- The card. -/
theorem lawTokens_holds : Rows.FnTokensCardSaid :=
  Claim7.holds_tied_plain_at .later [] [.data, .data, .data, .handle, .sentinel, .sentinel] true (true, "33c6a59c5eb3951ccbbbecd31a94fd20a08bc57e0c9c20eb8c18a96b5e1a082d") true
    lawTokens.over (fun _ h => by cases h) (by kernel_rfl) (fun _ h => by cases h) fnTokens_row_tie rfl ⟨rfl, rfl⟩ (by kernel_rfl) rfl
    (fun f fn hf hfn => by
      obtain rfl : f = 3 := Option.some.inj ((show Tryz.prog.funcNamed Rows.fnTokensRow.func = some 3 by kernel_rfl).symm.trans hf) |>.symm
      obtain rfl : fn = Tryz.f3 := (Option.some.inj (Tryz.func3.symm.trans hfn)).symm
      exact ⟨by kernel_rfl, fun j t ht => by
        rw [Tryz.params3] at ht
        have hm : t ∈ [22] := by simpa using Array.mem_of_getElem? ht
        have hall : ([22].all fun u => !Tryz.prog.wantsStandIn u) = true := by kernel_rfl
        exact (show Tryz.prog.wantsStandIn t = false by simpa using List.all_eq_true.1 hall t hm)⟩)
    (by kernel_rfl)
#print axioms lawTokens_holds
end Go.Proofs.YtabpjknbdahddaaGreatDoor
