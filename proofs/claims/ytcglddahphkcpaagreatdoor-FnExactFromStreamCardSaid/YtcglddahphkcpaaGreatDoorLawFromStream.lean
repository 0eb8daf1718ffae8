/-
  Proved: at every argument impl.FromStream answers as spec.FromStream, every field, and writes nothing into its argument; its answer owns its memory (laws.FnExactFromStream returns true), where the library's listed tables hold what the program's text lays in them (the card ties that). No other condition.
-/
import Derived.Test.YtcglddahphkcpaaGreatDoorV07
import Derived.Test.YtcglddahphkcpaaGreatDoorV17
import Derived.Test.YtcglddahphkcpaaGreatDoorV47
import Derived.Test.YtcglddahphkcpaaGreatDoorV48
import Derived.Test.YtcglddahphkcpaaGreatDoorV49
import Derived.ChangeOld
import Derived.LaidMore
import Derived.Lib.AppendIntMem
import Derived.Lib.LaidTab
import Derived.Lib.SmallJoins
import Derived.MakeChecks
import Derived.OpenShut
import Derived.ProofKit
import Derived.SevenTiedAt
import Derived.ShutString
import Derived.Stop.Joined
import Derived.Stop.LaidErr
import Derived.Test.YtcglddahphkcpaaGreatDoorCards
import Derived.Test.YtcglddahphkcpaaGreatDoorTie
namespace Go.Proofs.YtcglddahphkcpaaGreatDoor
open Go.ChangeShapes Go.WideShapes Go.ChangeAt Go.RowKit
open Go.ChangeMaps (open_string shut_string)
set_option linter.unusedVariables false

theorem rowAlloc {w : World} {b : Nat} {t : TypeId} {l : List M.Cl} (h : OwnRow w b t l) (o : Obj) : OwnRow (w.alloc o) b t l := by
  obtain ⟨xs, p1, p2⟩ := h
  exact ⟨xs, p1.alloc _, p2⟩
theorem ownKeep {w w' : World} {b : Nat} {t : TypeId} {xs : List Value} (h : Own w b t xs) (hk : w'.heap[b]? = w.heap[b]?) : Own w' b t xs := by
  obtain ⟨c, h1, h2⟩ := h; exact ⟨c, hk.trans h1, h2⟩
theorem rowKeep {w w' : World} {b : Nat} {t : TypeId} {l : List M.Cl} (h : OwnRow w b t l) (hk : w'.heap[b]? = w.heap[b]?) : OwnRow w' b t l := by
  obtain ⟨xs, h1, h2⟩ := h; exact ⟨xs, ownKeep h1 hk, h2⟩
theorem resKeep {w w' : World} {C : Nat} {s : Value} {l : List M.Cl} (hr : Res w C s l) (h : ∀ b, s.ownBlock = some b → w'.heap[b]? = w.heap[b]?) : Res w' C s l := by
  obtain ⟨q1, q2 | ⟨c, cc, q3, q4, q5, xs, ⟨z, h1, h2⟩, h3⟩⟩ := hr
  · exact ⟨q1, .inl q2⟩
  · exact ⟨q1, .inr ⟨c, cc, q3, q4, q5, xs, ⟨z, (h c (by rw [q3]; rfl)).trans h1, h2⟩, h3⟩⟩
theorem lists_ok {w : World} {a : Option Addr} {cap : Nat} {es : List Ar} (h : Lists w a cap es) : OkS (lists es) := by
  intro i hi c hc
  rw [lists_length] at hi
  rw [lists_getD] at hc
  exact (h.2.2.1 _ (ar_mem hi)).2.2.1 c hc
theorem toSS (a : Option Addr) (cap : Nat) (es : List Ar) (w : World) (h : Lists w a cap es) (hn : es.length ≤ 1048576) (hln : tot (lists es) (lists es).length ≤ 1048576) :
    Calls Tryz.prog 9 #[.slice a es.length cap] w fun e w' => e = .returned (.slice (some ⟨w.heap.size, 0, none⟩) (lists es).length (lists es).length) ∧ LH w' w.heap.size w'.heap.size (lists es) ∧ Below w.heap.size w w' := by
  refine (toCellSS_any a cap es w h hn hln).mono ?_
  rintro e w' ⟨rfl, h1, h2⟩
  exact ⟨by rw [lists_length], h1.lh, h2⟩
theorem LH.lt {w : World} {g hi : Nat} {ps : List (List M.Cl)} (h : LH w g hi ps) : g < w.heap.size := h.row.1
theorem LH.alloc {w : World} {g hi : Nat} {ps : List (List M.Cl)} (h : LH w g hi ps) (o : Obj) : LH (w.alloc o) g hi ps := h.below ((Below.refl _ _).alloc (Nat.le_refl _) o)

set_option maxRecDepth 100000 in
set_option maxHeartbeats 8000000 in
theorem lawFromStream_walk (a0 : Option Addr) (cap0 : Nat) (l0 : List Ar) (w : World) (hA0 : Lists w a0 cap0 l0) (htab : Lib.TabIs Tryz.prog w "internal/strconv.uint64pow10" .u64 Lib.pow10Tab) :
    Calls Tryz.prog 3 #[.slice a0 l0.length cap0] w fun e w' => e = .returned (.bool true) ∧ Below w.heap.size w w' := by
  have HA0 := hide hA0
  have HT := hide (Lib.tabBelow_of_tabIs htab)
  clear htab
  have hok0 := hide (lists_ok hA0)
  clear hA0
  go_enter Tryz.func3, Tryz.ntmps3
  go_wp2_with fail
  refine (szCellSS_any a0 cap0 l0 _ _ (unhide HA0) (by decide) (by decide)).mono ?_
  rintro e w1 ⟨r0, rfl, hr, hb⟩
  have B1 : Below w.heap.size w w1 := hb
  clear hb
  rcases hr with hr | ⟨hr00, hr1, hn0, htot0⟩
  · go_wp2_with fail
    go_ret
    exact ⟨rfl, B1⟩
  have hr02 : r0 ≤ 1048576 := by omega
  clear hr1
  have TO0 := hide (fun w' (hb : Below w.heap.size w w') => toSS a0 cap0 l0 w' ((unhide HA0).below hb) hn0 htot0)
  rw [← lists_length l0] at hn0
  clear HA0
  generalize lists l0 = l0 at *
  go_wp2_with fail
  refine ((unhide TO0) _ B1).mono ?_
  rintro e w2 ⟨rfl, s0_2, hb⟩
  have B2 : Below w.heap.size w w2 := B1.trans (hb.mono B1.size)
  have hsz2 : w1.heap.size < w2.heap.size := s0_2.lt
  clear  B1 hb
  go_wp2_with fail
  refine (Sev.specFrom_any w1.heap.size l0 _ s0_2.row hn0 htot0 (unhide hok0)).mono ?_
  rintro e w3 ⟨s, rfl, hrs, hb⟩
  have B3 : Below w.heap.size w w3 := B2.trans (hb.mono B2.size)
  have hszS : w2.heap.size ≤ w3.heap.size := hb.size
  have hr_3 : Res w3 w.heap.size s (Sev.fromOut l0).2.2 := hrs.mono B2.size
  clear s0_2 B2 hb hrs
  generalize hR : Sev.fromOut l0 = R at *
  obtain ⟨code, at_, rl⟩ := R
  simp only at hr_3 ⊢
  have HR := hide hR
  clear hR
  have hlt1 : ∀ b, s.ownBlock = some b → b < w3.heap.size := hr_3.lt
  have hs5 : w.heap.size ≤ w3.heap.size := B3.size
  obtain ⟨z1, m1, c1, rfl⟩ := hr_3.shape
  obtain ⟨w4, hW⟩ : ∃ W, W = w3.alloc (.cells #[.int .i64 code, .int .i64 at_, .slice z1 m1 c1] 26) := ⟨_, rfl⟩
  have B4 : Below w.heap.size w w4 := by rw [hW]; exact B3.alloc B3.size _
  have hX_4 : Own w4 w3.heap.size 26 [.int .i64 code, .int .i64 at_, .slice z1 m1 c1] := by rw [hW]; exact ⟨_, heap_alloc_new _ _, rfl⟩
  have hr_4 : Res w4 w.heap.size (.slice z1 m1 c1) rl := by rw [hW]; exact hr_3.alloc _
  have hsz4 : w3.heap.size < w4.heap.size := by rw [hW]; simp
  clear hr_3 B3
  go_wp2_with fail
  rw [← hW]
  clear hW
  refine ((unhide TO0) _ B4).mono ?_
  rintro e w5 ⟨rfl, x0_5, hb⟩
  have B5 : Below w.heap.size w w5 := B4.trans (hb.mono B4.size)
  have hsz5 : w4.heap.size < w5.heap.size := x0_5.lt
  have hX_5 := hX_4.below hb hX_4.lt
  have hr_5 := hr_4.below hb
  clear hX_4 hr_4 B4 hb
  go_wp2_with fail
  refine (Sev.implFromV_any (some ⟨w4.heap.size, 0, none⟩) l0.length l0 _ x0_5.row.lv hn0 htot0 (unhide hok0) (fun w' hb' => (unhide HT) w' (B5.trans (hb'.mono B5.size)))).mono ?_
  rintro e w6 ⟨s2, rfl, hg_6, hb⟩
  rw [unhide HR] at hg_6 ⊢
  simp only at hg_6 ⊢
  have hge2 : ∀ b, s2.ownBlock = some b → w5.heap.size ≤ b := hg_6.base
  have hlt2 : ∀ b, s2.ownBlock = some b → b < w6.heap.size := hg_6.lt
  have B6 : Below w.heap.size w w6 := B5.trans (hb.mono B5.size)
  have hsz6 : w5.heap.size ≤ w6.heap.size := hb.size
  have hX_6 := hX_5.below hb hX_5.lt
  have hr_6 := hr_5.below hb
  have x0_6 := x0_5.below hb
  clear hX_5 hr_5 x0_5 B5 hb
  obtain ⟨z2, m2, c2, rfl⟩ := hg_6.shape
  have x0 : ∀ o, (w6.alloc o).cell? ⟨w3.heap.size, 0, none⟩ = some (.int .i64 code) := fun o => (hX_6.alloc o).cell 0
  have x1 : ∀ o, (w6.alloc o).cell? ⟨w3.heap.size, 1, none⟩ = some (.int .i64 at_) := fun o => (hX_6.alloc o).cell 1
  have x2 : ∀ o, (w6.alloc o).cell? ⟨w3.heap.size, 2, none⟩ = some (.slice z1 m1 c1) := fun o => (hX_6.alloc o).cell 2
  go_wp2_with fail
  refine (eqReadResult_any code at_ (.slice z2 m2 c2) (.slice z1 m1 c1) _ _ rl _ (hg_6.alloc _) (hr_6.alloc _)).mono ?_
  rintro e w7 ⟨rfl, hb⟩
  have hX_7 := (hX_6.alloc _).below hb (by have := hX_6.lt; simp; omega)
  have hr_7 := (hr_6.alloc _).below hb
  have x0_7 := (x0_6.alloc _).below hb
  have hg_7 := (hg_6.alloc _).below hb
  have hY_7 : Own w7 w6.heap.size 26 [.int .i64 code, .int .i64 at_, .slice z2 m2 c2] := Own.below ⟨_, heap_alloc_new _ _, rfl⟩ hb (by simp)
  have B7 : Below w.heap.size w w7 := (B6.alloc B6.size _).trans (hb.mono (by simp; have := B6.size; omega))
  have hsz7 : w6.heap.size < w7.heap.size := hY_7.lt
  clear hX_6 hr_6 x0_6 hg_6 B6 hb x0 x1 x2
  go_wp2_with fail
  refine ((unhide TO0) _ B7).mono ?_
  rintro e w8 ⟨rfl, q0_8, hb⟩
  have B8 : Below w.heap.size w w8 := B7.trans (hb.mono B7.size)
  have hsz8 : w7.heap.size < w8.heap.size := q0_8.lt
  have hX_8 := hX_7.below hb hX_7.lt
  have hr_8 := hr_7.below hb
  have x0_8 := x0_7.below hb
  have hg_8 := hg_7.below hb
  have hY_8 := hY_7.below hb hY_7.lt
  clear hX_7 hr_7 x0_7 hg_7 hY_7 B7 hb
  go_wp2_with fail
  refine (eqCellSS_same w4.heap.size w7.heap.size l0 _ x0_8.row q0_8.row hn0 htot0).mono ?_
  rintro e w9 ⟨rfl, hb⟩
  have B9 : Below w.heap.size w w9 := B8.trans (hb.mono B8.size)
  have hX_9 := hX_8.below hb hX_8.lt
  have hr_9 := hr_8.below hb
  have x0_9 := x0_8.below hb
  have hg_9 := hg_8.below hb
  have hY_9 := hY_8.below hb hY_8.lt
  clear hX_8 hr_8 x0_8 hg_8 hY_8 B8 hb q0_8
  go_wp2_with fail
  refine (markCellSS_any w4.heap.size w5.heap.size l0 1 _ x0_9 hn0 htot0 (by decide) (by decide)).mono ?_
  rintro e w10 ⟨rfl, hm⟩
  have HK : ∀ k, k < w9.heap.size → (k < w4.heap.size + 1 ∨ w5.heap.size ≤ k) → w10.heap[k]? = w9.heap[k]? := fun k h1 h2 => hm.block k h1 h2
  have hX_10 : Own w10 w3.heap.size 26 [.int .i64 code, .int .i64 at_, .slice z1 m1 c1] := ownKeep hX_9 (HK _ hX_9.lt (by omega))
  have hY_10 : Own w10 w6.heap.size 26 [.int .i64 code, .int .i64 at_, .slice z2 m2 c2] := ownKeep hY_9 (HK _ hY_9.lt (by omega))
  have hr_10 : Res w10 w.heap.size (.slice z1 m1 c1) rl := resKeep hr_9 (fun b e => HK b (by have := hr_9.lt b e; omega) (by have := hlt1 b e; omega))
  have hg_10 : Res w10 w5.heap.size (.slice z2 m2 c2) rl := resKeep hg_9 (fun b e => HK b (by have := hg_9.lt b e; omega) (by have := hge2 b e; omega))
  have B10 : Below w.heap.size w w10 := B9.trans (hm.below (by omega) B9.size)
  clear hX_9 hr_9 hg_9 hY_9 B9 hm HK x0_9
  have x0 := hX_10.cell 0
  have x1 := hX_10.cell 1
  have x2 := hX_10.cell 2
  have y0 := hY_10.cell 0
  have y1 := hY_10.cell 1
  have y2 := hY_10.cell 2
  simp only [List.getElem?_cons_zero, List.getElem?_cons_succ] at x0 x1 x2 y0 y1 y2
  have d15 : decide ((1 : Int) + 5 * (tot l0 l0.length : Int) < 0) = false := decide_eq_false (by omega)
  go_wp2_with fail
  refine (eqReadResult_any code at_ (.slice z2 m2 c2) (.slice z1 m1 c1) _ _ rl _ hg_10 hr_10).mono ?_
  rintro e w11 ⟨rfl, hb⟩
  have B11 : Below w.heap.size w w11 := B10.trans (hb.mono B10.size)
  have hX_11 := hX_10.below hb hX_10.lt
  have hr_11 := hr_10.below hb
  have hg_11 := hg_10.below hb
  have hY_11 := hY_10.below hb hY_10.lt
  clear hX_10 hr_10 hg_10 hY_10 B10 hb x0 x1 x2 y0 y1 y2 d15
  have y0 := hY_11.cell 0
  have y1 := hY_11.cell 1
  have y2 := hY_11.cell 2
  simp only [List.getElem?_cons_zero, List.getElem?_cons_succ] at y0 y1 y2
  go_wp2_with fail
  refine (markReadResult_any code at_ (.slice z2 m2 c2) _ rl 1 _ hg_11 (by decide) (by decide)).mono ?_
  rintro e w12 ⟨rfl, hm_12, hv⟩
  have hX_12 : Own w12 w3.heap.size 26 [.int .i64 code, .int .i64 at_, .slice z1 m1 c1] := hv.own hX_11 (fun e => by have := hge2 _ e; omega)
  have hY_12 : Own w12 w6.heap.size 26 [.int .i64 code, .int .i64 at_, .slice z2 m2 c2] := hv.own hY_11 (fun e => by have := hlt2 _ e; omega)
  have hr_12 : Res w12 w.heap.size (.slice z1 m1 c1) rl := hv.res hr_11 (fun b h1 h2 => by have := hge2 _ h1; have := hlt1 _ h2; omega)
  have B12 : Below w.heap.size w w12 := B11.trans (hv.below B11.size (fun b hb => by have := hge2 b hb; omega))
  clear hX_11 hr_11 hg_11 hY_11 B11 hv y0 y1 y2
  have hln := hm_12.1
  rw [marked_length] at hln
  have y0 := hY_12.cell 0
  have y1 := hY_12.cell 1
  have y2 := hY_12.cell 2
  simp only [List.getElem?_cons_zero, List.getElem?_cons_succ] at y0 y1 y2
  go_wp2_with fail
  refine (heldReadResult_any code at_ (.slice z2 m2 c2) _ rl.length 1 _ hm_12 (by decide) (by decide) hln).mono ?_
  rintro e w13 ⟨rfl, hb⟩
  have B13 : Below w.heap.size w w13 := B12.trans (hb.mono B12.size)
  have hX_13 := hX_12.below hb hX_12.lt
  have hY_13 := hY_12.below hb hY_12.lt
  have hr_13 := hr_12.below hb
  have hm_13 := hm_12.below hb
  clear hX_12 hY_12 hr_12 hm_12 B12 hb y0 y1 y2
  go_wp2_with fail
  refine ((unhide TO0) _ B13).mono ?_
  rintro e w14 ⟨rfl, t0_14, hb⟩
  have B14 : Below w.heap.size w w14 := B13.trans (hb.mono B13.size)
  have hsz14 : w13.heap.size < w14.heap.size := t0_14.lt
  have hX_14 := hX_13.below hb hX_13.lt
  have hY_14 := hY_13.below hb hY_13.lt
  have hr_14 := hr_13.below hb
  have hm_14 := hm_13.below hb
  clear hX_13 hY_13 hr_13 hm_13 B13 hb
  go_wp2_with fail
  refine (Sev.implFromV_any (some ⟨w13.heap.size, 0, none⟩) l0.length l0 _ t0_14.row.lv hn0 htot0 (unhide hok0) (fun w' hb' => (unhide HT) w' (B14.trans (hb'.mono B14.size)))).mono ?_
  rintro e w15 ⟨s3, rfl, hh, hb⟩
  rw [unhide HR] at hh ⊢
  simp only at hh ⊢
  have B15 : Below w.heap.size w w15 := B14.trans (hb.mono B14.size)
  have hX_15 := hX_14.below hb hX_14.lt
  have hY_15 := hY_14.below hb hY_14.lt
  have hr_15 := hr_14.below hb
  have hm_15 := hm_14.below hb
  clear hX_14 hY_14 hr_14 hm_14 B14 hb t0_14
  obtain ⟨z3, m3, c3, rfl⟩ := hh.shape
  have x0 : ∀ o, (w15.alloc o).cell? ⟨w3.heap.size, 0, none⟩ = some (.int .i64 code) := fun o => (hX_15.alloc o).cell 0
  have x1 : ∀ o, (w15.alloc o).cell? ⟨w3.heap.size, 1, none⟩ = some (.int .i64 at_) := fun o => (hX_15.alloc o).cell 1
  have x2 : ∀ o, (w15.alloc o).cell? ⟨w3.heap.size, 2, none⟩ = some (.slice z1 m1 c1) := fun o => (hX_15.alloc o).cell 2
  go_wp2_with fail
  refine (eqReadResult_any code at_ (.slice z3 m3 c3) (.slice z1 m1 c1) _ _ rl _ (hh.alloc _) (hr_15.alloc _)).mono ?_
  rintro e w16 ⟨rfl, hb⟩
  have hY_16 := (hY_15.alloc _).below hb (by have := hY_15.lt; simp; omega)
  have hm_16 := (hm_15.alloc _).below hb
  have B16 : Below w.heap.size w w16 := (B15.alloc B15.size _).trans (hb.mono (by simp; have := B15.size; omega))
  clear hX_15 hY_15 hr_15 hm_15 B15 hb hh x0 x1 x2
  have y0 := hY_16.cell 0
  have y1 := hY_16.cell 1
  have y2 := hY_16.cell 2
  simp only [List.getElem?_cons_zero, List.getElem?_cons_succ] at y0 y1 y2
  go_wp2_with fail
  refine (heldReadResult_any code at_ (.slice z2 m2 c2) _ rl.length 1 _ hm_16 (by decide) (by decide) hln).mono ?_
  rintro e w17 ⟨rfl, hb⟩
  have B17 : Below w.heap.size w w17 := B16.trans (hb.mono B16.size)
  go_wp2_with fail
  go_ret
  exact ⟨rfl, B17⟩

namespace lawFromStream
theorem own : ownKnob Tryz.prog.godebug = none := by kernel_rfl
theorem laidOut : laidOutB Tryz.prog = true := by kernel_rfl
theorem gTab : Tryz.prog.globalNamed "internal/strconv.uint64pow10" = some 2 := by kernel_rfl
theorem gTabType : (Tryz.prog.globals[2]?).map (·.type) = some 255 := by kernel_rfl
theorem tabData_is : (Rows.laid_internal_strconv_uint64pow10 : DataW Unit) = Lib.tabData .u64 Lib.pow10Tab := by kernel_rfl
/-- What the condition gives the walk: the table. -/
theorem of_laid {W : World} (h : laidMetH Tryz.prog Rows.fnExactFromStreamRow.laid W) : Lib.TabIs Tryz.prog W "internal/strconv.uint64pow10" .u64 Lib.pow10Tab := by
  rw [MakeChecks.laidMetH_plain _ _ _ (by kernel_rfl)] at h
  have h3 : laidMet Tryz.prog [("internal/strconv.uint64pow10", Lib.tabData .u64 Lib.pow10Tab)] W := by rw [← tabData_is]; exact (laidMet.tail (laidMet.tail h))
  exact Lib.tabIs_of_head gTab gTabType Tryz.underlying255 Tryz.underlying85 (by kernel_rfl) (by kernel_rfl) h3

/-- The door's own heap meets the condition. -/
theorem door_met (os : Os) (args : Array Value) : laidMetH Tryz.prog Rows.fnExactFromStreamRow.laid ((World.doorLaid Tryz.prog 400 os).forCall (fun _ _ => 0) ⟨#[], args, []⟩).memory :=
  laidMetH_of_parts3 (fuel := 8) (laidMet_of_run' 8 (by kernel_rfl) (by kernel_rfl)) (by kernel_rfl) (by kernel_rfl)

set_option maxRecDepth 100000 in
theorem lifted (os : Os) (started : os.Started) (H : Type) (enc : TypeId × Value → H) :
    ReturnsInHanded {} Tryz.checked os 3 .any (fun w args => (Rows.fnExactFromStreamSpec.pre enc Tryz.prog Tryz.f3 [] false w args ∧ laidMetH Tryz.prog Rows.fnExactFromStreamRow.laid w) ∧ sizedMet enc Tryz.prog Tryz.f3 (OpenSpec.ofChange Rows.fnExactFromStreamSpec) false w args)
      (Rows.fnExactFromStreamSpec.post enc Tryz.prog Tryz.f3 false true false false) := by
  refine returnsInHanded_of_change_and (C := Tryz.checked) (X := fun w _ => laidMetH Tryz.prog Rows.fnExactFromStreamRow.laid w) (fun _ _ _ hh h => h.of_heap hh) own started (by kernel_rfl) Tryz.func3
    (ChangeSpec.witness_shaped (enc := enc) (C := Tryz.checked) (os := os) (X := fun w _ => laidMetH Tryz.prog Rows.fnExactFromStreamRow.laid w) false (World.doorLaid Tryz.prog 400 os) #[.slice none 0 0] 8 rfl (World.shaped_of_RefB (by kernel_rfl) (by kernel_rfl)) (by kernel_rfl) (by kernel_rfl) (by kernel_rfl) (door_met os _)) ?_
  intro W base args ds gs before hval0 hW _ _ hL _
  have hval : ∀ (j : Nat) t v, Tryz.f3.params[j]? = some t → args[j]? = some v → Value.okWide Tryz.prog W .any base t v := hval0
  have hW' := hW
  obtain ⟨p, q, hA0, hV, rfl, hfz, hnd⟩ := hW
  have hA : DataW.TrodAll enc Tryz.prog W 0 (fun _ => true) true Tryz.f3.params.toList args.toList ds p := hA0
  rw [Tryz.params3] at hA hval
  obtain ⟨v0, vs0, d0, ds0, p0, q0, hargs, rfl, rfl, h0, r0⟩ := trodAll_cons hA
  obtain ⟨rfl, rfl, rfl⟩ := trodAll_nil r0
  obtain rfl : args = #[v0] := by cases args; simp_all
  obtain ⟨rfl, rfl⟩ := trodVars_none hV
  obtain ⟨a0, len0, cap0, rfl⟩ := okWide_slice Tryz.underlying22 (hval 0 22 v0 rfl rfl)
  have k0 := h0
  have lt0 : ∀ x ∈ p0, x.block < W.heap.size := by obtain ⟨m, hm⟩ := k0; exact DataW.trod_lt m _ _ _ hm
  obtain ⟨l0, hl0, w0⟩ : ∃ es : List Ar, es.length = len0 ∧ Lists W a0 cap0 es := by
    obtain ⟨fuel, hf⟩ := h0
    exact open_lists hf
  subst hl0
  have hT := of_laid hL
  clear hA0 hval0
  refine (lawFromStream_walk a0 cap0 l0 W w0 hT).mono fun e W' ⟨he, bel⟩ => ?_
  subst he
  exact ⟨_, rfl, _, _, _, [], _, [], hW', trodAll_mk1 (shut_bool Tryz.underlying4 _), (trodAll_cons_mk (Below.trod laidOut (by kernel_rfl) (of_decide_eq_true (by kernel_rfl)) k0 bel lt0) trodAll_mk0), rfl, bel.frame _, fun h => by cases h⟩

theorem over : Rows.FnExactFromStreamSaid :=
  OpenClaim.holds_of_wide 3 Tryz.f3 rfl rfl rfl rfl rfl rfl rfl ⟨rfl, rfl, rfl, rfl, rfl⟩ rfl rfl rfl rfl rfl (by kernel_rfl) Tryz.func3 (by kernel_rfl)
    (of_decide_eq_true (by kernel_rfl)) (by unfold Func.isWrapper; first | (rw [if_pos (by decide +kernel)]; kernel_rfl) | (rw [if_neg (by decide +kernel)]; exact ⟨rfl, rfl⟩))
    (fun os started H enc _ => lifted os started H enc)
end lawFromStream

/-- The card. -/
theorem lawFromStream_holds : Rows.FnExactFromStreamCardSaid :=
  Claim7.holds_tied_plain_at .later [] [.data, .data, .data] true (true, "bd17397b3ea2f8008802a652cbba58bc667a2297c0ee9e53990c82e3fe901202") true
    lawFromStream.over (fun _ h => by cases h) (by kernel_rfl) (fun _ h => by cases h) fnExactFromStream_row_tie rfl ⟨rfl, rfl⟩ (by kernel_rfl) rfl
    (fun f fn hf hfn => by
      obtain rfl : f = 3 := Option.some.inj ((show Tryz.prog.funcNamed Rows.fnExactFromStreamRow.func = some 3 by kernel_rfl).symm.trans hf) |>.symm
      obtain rfl : fn = Tryz.f3 := (Option.some.inj (Tryz.func3.symm.trans hfn)).symm
      exact ⟨by kernel_rfl, fun j t ht => by
        rw [Tryz.params3] at ht
        have hm : t ∈ [22] := by simpa using Array.mem_of_getElem? ht
        have hall : ([22].all fun u => !Tryz.prog.wantsStandIn u) = true := by kernel_rfl
        exact (show Tryz.prog.wantsStandIn t = false by simpa using List.all_eq_true.1 hall t hm)⟩)
    (by kernel_rfl)
#print axioms lawFromStream_holds
end Go.Proofs.YtcglddahphkcpaaGreatDoor
