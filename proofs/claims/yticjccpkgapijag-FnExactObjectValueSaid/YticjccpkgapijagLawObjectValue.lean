/-
  Proved: at every argument impl.ObjectValue answers as spec.ObjectValue, every field, writes nothing into its arguments, and its answer owns its memory (laws.FnExactObjectValue returns true). No condition.
-/
import Derived.Test.YticjccpkgapijagObjT
import Derived.Test.YticjccpkgapijagObjJ
import Derived.ShutString
import Derived.ChangeOld
namespace Go.Proofs.Yticjccpkgapijag
open Go.ChangeShapes Go.WideShapes Go.ChangeAt Go.RowKit
open Go.ChangeMaps (open_string shut_string)
set_option linter.unusedVariables false

theorem lists_ok {w : World} {a : Option Addr} {cap : Nat} {es : List Ar} (h : Lists w a cap es) : OkS (lists es) := by
  intro i hi c hc
  rw [lists_length] at hi
  rw [lists_getD] at hc
  exact (h.2.2.1 _ (ar_mem hi)).2.2.1 c hc
theorem toSS (a : Option Addr) (cap : Nat) (es : List Ar) (w : World) (h : Lists w a cap es) (hn : es.length ≤ 1048576) (hln : tot (lists es) (lists es).length ≤ 1048576) :
    Calls Try.prog 9 #[.slice a es.length cap] w fun e w' => e = .returned (.slice (some ⟨w.heap.size, 0, none⟩) (lists es).length (lists es).length) ∧ LH w' w.heap.size w'.heap.size (lists es) ∧ Below w.heap.size w w' := by
  refine (toCellSS_any a cap es w h hn hln).mono ?_
  rintro e w' ⟨rfl, h1, h2⟩
  exact ⟨by rw [lists_length], h1.lh, h2⟩
theorem LH.lt {w : World} {g hi : Nat} {ps : List (List M.Cl)} (h : LH w g hi ps) : g < w.heap.size := h.row.1
theorem LH.alloc {w : World} {g hi : Nat} {ps : List (List M.Cl)} (h : LH w g hi ps) (o : Obj) : LH (w.alloc o) g hi ps := h.below ((Below.refl _ _).alloc (Nat.le_refl _) o)

theorem LH.but {w w' : World} {g hi B b : Nat} {ps : List (List M.Cl)} (h : LH w g hi ps) (hb : But B b w w') (hB : w.heap.size ≤ B) (hbg : b < g) : LH w' g hi ps := by
  obtain ⟨xs, β, ⟨h1, h2, h3⟩, h4⟩ := h
  have l1 := h1.lt
  refine ⟨xs, β, ⟨hb.own h1 (by omega) (by omega), h2, fun i hi => ?_⟩, h4⟩
  obtain ⟨g1, g2, g3, g5⟩ := h3 i hi
  have l2 := g3.lt
  exact ⟨g1, g2, hb.ownRow g3 (by omega) (by omega), g5⟩

set_option maxRecDepth 100000 in
set_option maxHeartbeats 8000000 in
theorem lawObjectValue_walk (a0 : Option Addr) (cap0 : Nat) (ks : List ByteArray) (a : Option Addr) (cap : Nat) (es : List Ar) (w : World) (hT : Strs w a0 cap0 ks) (hA : Lists w a cap es) :
    Calls Try.prog 4 #[.slice a0 ks.length cap0, .slice a es.length cap] w fun e w' => e = .returned (.bool true) ∧ Below w.heap.size w w' := by
  have HA := hide hA
  have HT := hide hT
  have hok := hide (lists_ok hA)
  clear hA hT
  go_enter Try.func4, Try.ntmps4
  go_wp2_with fail
  refine (szStringS_any a0 cap0 ks _ _ (unhide HT) (by decide) (by decide)).mono ?_
  rintro e ws ⟨r0, rfl, hr0, hbs⟩
  rcases hr0 with hr0 | ⟨hr00, hr01, hnk, hsm⟩
  · go_wp2_with fail
    go_ret
    exact ⟨rfl, hbs⟩
  go_wp2_with fail
  refine (szCellSS_any a cap es _ _ ((unhide HA).below hbs) hr00 hr01).mono ?_
  rintro e w1 ⟨r, rfl, hr, hb1'⟩
  have hb1 : Below w.heap.size w w1 := hbs.trans (hb1'.mono hbs.size)
  clear hb1' hbs
  rcases hr with hr | ⟨hr0, hr1, hn, htot⟩
  · go_wp2_with fail
    go_ret
    exact ⟨rfl, hb1⟩
  have SM := hide hsm
  have TT := hide (fun w' (hb : Below w.heap.size w w') => toStringS_any a0 cap0 ks w' ((unhide HT).below hb) hnk)
  clear HT hsm
  have TO := hide (fun w' (hb : Below w.heap.size w w') => toSS a cap es w' ((unhide HA).below hb) hn htot)
  rw [← lists_length es] at hn
  clear hr1 HA
  generalize lists es = l at *
  go_wp2_with fail
  refine ((unhide TT) _ hb1).mono ?_
  rintro e wa ⟨rfl, hoa, hba⟩
  have Ba : Below w.heap.size w wa := hb1.trans (hba.mono hb1.size)
  go_wp2_with fail
  refine ((unhide TO) _ Ba).mono ?_
  rintro e w2 ⟨rfl, ho2, hb2⟩
  have B2 : Below w.heap.size w w2 := Ba.trans (hb2.mono Ba.size)
  have hoa2 := hoa.below hb2 hoa.lt
  go_wp2_with fail
  refine (specObject_any w1.heap.size wa.heap.size ks l _ hoa2 ho2.row hnk hn (unhide SM) htot (unhide hok)).mono ?_
  rintro e w3 ⟨s, rfl, hr1, hb3⟩
  have B3 : Below w.heap.size w w3 := B2.trans (hb3.mono B2.size)
  have hs3 : w.heap.size ≤ w3.heap.size := B3.size
  have hr13 : Res w3 w.heap.size s (objOut ks l).2 := hr1.mono B2.size
  clear hb1 hb2 hb3 ho2 B2 hr1 hba hoa hoa2 Ba
  generalize hR : objOut ks l = R at *
  obtain ⟨code, rl⟩ := R
  simp only at hr13 ⊢
  have HR := hide hR
  clear hR
  have hlt1 : ∀ b, s.ownBlock = some b → b < w3.heap.size := hr13.lt
  obtain ⟨a1, m1, c1, rfl⟩ := hr13.shape
  go_wp2_with fail
  have B3' : Below w.heap.size w (w3.alloc (.cells #[.int .i64 code, .slice a1 m1 c1] 26)) := B3.alloc B3.size _
  have hX3 : Own (w3.alloc (.cells #[.int .i64 code, .slice a1 m1 c1] 26)) w3.heap.size 26 [.int .i64 code, .slice a1 m1 c1] := ⟨_, heap_alloc_new _ _, rfl⟩
  refine ((unhide TT) _ B3').mono ?_
  rintro e wb ⟨rfl, hob, hbb⟩
  have hXb := hX3.below hbb (by simp)
  have hrb := (hr13.alloc _).below hbb
  have Bb : Below w.heap.size w wb := B3'.trans (hbb.mono (by simp; omega))
  clear B3' hX3 hbb hr13 B3
  simp only [World.size_alloc] at hob ⊢
  have hxb : w3.heap.size + 1 < wb.heap.size := hob.lt
  go_wp2_with fail
  refine ((unhide TO) _ Bb).mono ?_
  rintro e w4 ⟨rfl, ho4, hb4⟩
  have hX4 := hXb.below hb4 hXb.lt
  have hr14 := hrb.below hb4
  have ht4 := hob.below hb4 hob.lt
  have B4 : Below w.heap.size w w4 := Bb.trans (hb4.mono Bb.size)
  have hX4lt := hX4.lt
  have hs4 := hb4.size
  clear hXb hrb hob hb4 Bb
  go_wp2_with fail
  refine (implObject_any (w3.heap.size + 1) wb.heap.size ks l _ ht4 ho4.row hnk hn (unhide SM) htot (unhide hok)).mono ?_
  rintro e w5 ⟨s2, rfl, hr25, hb5⟩
  rw [unhide HR] at hr25 ⊢
  simp only at hr25 ⊢
  have hlt4 := ho4.lt
  have hge2 : ∀ b, s2.ownBlock = some b → w3.heap.size + 2 ≤ b := fun b hb => by have := hr25.base b hb; have := ho4.lt; omega
  have hlt2 : ∀ b, s2.ownBlock = some b → b < w5.heap.size := hr25.lt
  have hX5 := hX4.below hb5 hX4.lt
  have ho5 := ho4.below hb5
  have ht5 := ht4.below hb5 ht4.lt
  have hge3 : ∀ b, s2.ownBlock = some b → w4.heap.size ≤ b := hr25.base
  have hr15 := hr14.below hb5
  have B5 : Below w.heap.size w w5 := B4.trans (hb5.mono B4.size)
  have h45 := hb5.size
  clear hb5 hX4 ho4 hr14 B4 ht4
  obtain ⟨a2, m2, c2, rfl⟩ := hr25.shape
  have x0 : ∀ o, (w5.alloc o).cell? ⟨w3.heap.size, 0, none⟩ = some (.int .i64 code) := fun o => (hX5.alloc o).cell 0
  have x1 : ∀ o, (w5.alloc o).cell? ⟨w3.heap.size, 1, none⟩ = some (.slice a1 m1 c1) := fun o => (hX5.alloc o).cell 1
  go_wp2_with fail
  refine (eqValueResult_any code (.slice a2 m2 c2) (.slice a1 m1 c1) _ _ rl _ (hr25.alloc _) (hr15.alloc _)).mono ?_
  rintro e w6 ⟨rfl, hb6⟩
  have hX6 : Own w6 w3.heap.size 26 [.int .i64 code, .slice a1 m1 c1] := (hX5.alloc _).below hb6 (by have := hX5.lt; simp; omega)
  have hY6 : Own w6 w5.heap.size 26 [.int .i64 code, .slice a2 m2 c2] := Own.below ⟨_, heap_alloc_new _ _, rfl⟩ hb6 (by simp)
  have ho6 := (ho5.alloc _).below hb6
  have ht6 : OwnT w6 (w3.heap.size + 1) ks := (ht5.below ((Below.refl _ _).alloc (Nat.le_refl _) _) ht5.lt).below hb6 (by have := ht5.lt; simp; omega)
  have hr16 := (hr15.alloc _).below hb6
  have hr26 := (hr25.alloc _).below hb6
  have B6 : Below w.heap.size w w6 := (B5.alloc B5.size _).trans (hb6.mono (by simp; have := B5.size; omega))
  clear x0 x1 hb6 hX5 ho5 hr15 hr25 B5 ht5
  go_wp2_with fail
  refine ((unhide TT) _ B6).mono ?_
  rintro e wc ⟨rfl, hoc, hbc⟩
  have hXc := hX6.below hbc hX6.lt
  have hYc := hY6.below hbc hY6.lt
  have hlc := ho6.below hbc
  have htc := ht6.below hbc ht6.lt
  have hr1c := hr16.below hbc
  have hr2c := hr26.below hbc
  have Bc : Below w.heap.size w wc := B6.trans (hbc.mono B6.size)
  clear hbc hX6 hY6 ho6 ht6 hr16 hr26 B6
  go_wp2_with fail
  refine (eqStringS_same (w3.heap.size + 1) w6.heap.size ks _ htc hoc hnk).mono ?_
  rintro e wd ⟨rfl, hbd⟩
  have hXd := hXc.below hbd hXc.lt
  have hYd := hYc.below hbd hYc.lt
  have hld := hlc.below hbd
  have htd := htc.below hbd htc.lt
  have hr1d := hr1c.below hbd
  have hr2d := hr2c.below hbd
  have Bd : Below w.heap.size w wd := Bc.trans (hbd.mono Bc.size)
  clear hbd hXc hYc hlc htc hoc hr1c hr2c Bc
  go_wp2_with fail
  refine ((unhide TO) _ Bd).mono ?_
  rintro e w7 ⟨rfl, ho7, hb7⟩
  have hX7 := hXd.below hb7 hXd.lt
  have hY7 := hYd.below hb7 hYd.lt
  have ho7' := hld.below hb7
  have ht7 := htd.below hb7 htd.lt
  have hr17 := hr1d.below hb7
  have hr27 := hr2d.below hb7
  have B7 : Below w.heap.size w w7 := Bd.trans (hb7.mono Bd.size)
  clear hb7 hXd hYd hld htd hr1d hr2d Bd
  go_wp2_with fail
  refine (eqCellSS_same wb.heap.size wd.heap.size l _ ho7'.row ho7.row hn htot).mono ?_
  rintro e w8 ⟨rfl, hb8⟩
  have hX8 := hX7.below hb8 hX7.lt
  have hY8 := hY7.below hb8 hY7.lt
  have ho8 := ho7'.below hb8
  have ht8 := ht7.below hb8 ht7.lt
  have hr18 := hr17.below hb8
  have hr28 := hr27.below hb8
  have B8 : Below w.heap.size w w8 := B7.trans (hb8.mono B7.size)
  clear hb8 hX7 hY7 ho7 ho7' hr17 hr27 B7 ht7
  go_wp2_with fail
  refine (markStringS_any (w3.heap.size + 1) ks 1 _ ht8 hnk (by decide) (by decide)).mono ?_
  rintro e we ⟨rfl, hme⟩
  have hXe : Own we w3.heap.size 26 [.int .i64 code, .slice a1 m1 c1] := hme.own hX8 hX8.lt (by omega)
  have hYe : Own we w5.heap.size 26 [.int .i64 code, .slice a2 m2 c2] := hme.own hY8 hY8.lt (by omega)
  have hle := ho8.but hme (Nat.le_refl _) hxb
  have hr1e : Res we w.heap.size (.slice a1 m1 c1) rl := by
    obtain ⟨q1, q2 | ⟨b, cc, q3, q4, q5, q6⟩⟩ := hr18
    · exact ⟨q1, .inl q2⟩
    · exact ⟨q1, .inr ⟨b, cc, q3, q4, q5, hme.ownG q6 q6.lt (by have := hlt1 b (by rw [q3]; rfl); omega)⟩⟩
  have hr2e : Res we w4.heap.size (.slice a2 m2 c2) rl := by
    obtain ⟨q1, q2 | ⟨b, cc, q3, q4, q5, q6⟩⟩ := hr28
    · exact ⟨q1, .inl q2⟩
    · exact ⟨q1, .inr ⟨b, cc, q3, q4, q5, hme.ownG q6 q6.lt (by have := hge3 b (by rw [q3]; rfl); omega)⟩⟩
  have Be : Below w.heap.size w we := B8.trans (hme.below B8.size (by omega))
  clear hme hX8 hY8 ho8 ht8 hr18 hr28 B8
  go_wp2_with fail
  refine (markCellSS_any wb.heap.size w4.heap.size l (1 + (ks.length : Int)) _ hle hn htot (by omega) (by omega)).mono ?_
  rintro e w9 ⟨rfl, hm9⟩
  have hX9 : Own w9 w3.heap.size 26 [.int .i64 code, .slice a1 m1 c1] := hm9.own hXe (by omega)
  have hY9 : Own w9 w5.heap.size 26 [.int .i64 code, .slice a2 m2 c2] := hm9.own hYe (by omega)
  have hr19 : Res w9 w.heap.size (.slice a1 m1 c1) rl := by
    obtain ⟨q1, q2 | ⟨b, cc, q3, q4, q5, q6⟩⟩ := hr1e
    · exact ⟨q1, .inl q2⟩
    · exact ⟨q1, .inr ⟨b, cc, q3, q4, q5, hm9.ownG q6 (by have := hlt1 b (by rw [q3]; rfl); omega)⟩⟩
  have hr29 : Res w9 w4.heap.size (.slice a2 m2 c2) rl := by
    obtain ⟨q1, q2 | ⟨b, cc, q3, q4, q5, q6⟩⟩ := hr2e
    · exact ⟨q1, .inl q2⟩
    · exact ⟨q1, .inr ⟨b, cc, q3, q4, q5, hm9.ownG q6 (by have := hge3 b (by rw [q3]; rfl); omega)⟩⟩
  have B9 : Below w.heap.size w w9 := Be.trans (hm9.below (by omega) Be.size)
  clear hm9 hXe hYe hle hr1e hr2e Be
  have x0 := hX9.cell 0
  have x1 := hX9.cell 1
  have y0 := hY9.cell 0
  have y1 := hY9.cell 1
  simp only [List.getElem?_cons_zero, List.getElem?_cons_succ] at x0 x1 y0 y1
  have d9 : decide ((1 : Int) + (ks.length : Int) + 5 * (tot l l.length : Int) < 0) = false := decide_eq_false (by omega)
  go_wp2_with fail
  refine (eqValueResult_any code (.slice a2 m2 c2) (.slice a1 m1 c1) _ _ rl _ hr29 hr19).mono ?_
  rintro e w10 ⟨rfl, hb10⟩
  have hX10 := hX9.below hb10 hX9.lt
  have hY10 := hY9.below hb10 hY9.lt
  have hr110 := hr19.below hb10
  have hr210 := hr29.below hb10
  have B10 : Below w.heap.size w w10 := B9.trans (hb10.mono B9.size)
  clear x0 x1 y0 y1 d9 hb10 hX9 hY9 hr19 hr29 B9
  have y0 := hY10.cell 0
  have y1 := hY10.cell 1
  simp only [List.getElem?_cons_zero, List.getElem?_cons_succ] at y0 y1
  go_wp2_with fail
  refine (markValueResult_any code (.slice a2 m2 c2) _ rl 1 _ hr210 (by decide) (by decide)).mono ?_
  rintro e w11 ⟨rfl, hm11, hv11⟩
  have hX11 : Own w11 w3.heap.size 26 [.int .i64 code, .slice a1 m1 c1] := hv11.own hX10 (fun e => by have := hge2 _ e; omega)
  have hY11 : Own w11 w5.heap.size 26 [.int .i64 code, .slice a2 m2 c2] := hv11.own hY10 (fun e => by have := hlt2 _ e; omega)
  have hr111 : Res w11 w.heap.size (.slice a1 m1 c1) rl := hv11.res hr110 (fun b h1 h2 => by have := hge2 _ h1; have := hlt1 _ h2; omega)
  have B11 : Below w.heap.size w w11 := B10.trans (hv11.below B10.size (fun b hb => by have := hge2 b hb; omega))
  clear y0 y1 hX10 hY10 hr110 hr210 hv11 B10
  have hln := hm11.1
  rw [marked_length] at hln
  have y0 := hY11.cell 0
  have y1 := hY11.cell 1
  simp only [List.getElem?_cons_zero, List.getElem?_cons_succ] at y0 y1
  go_wp2_with fail
  refine (heldValueResult_any code (.slice a2 m2 c2) _ rl.length 1 _ hm11 (by decide) (by decide) hln).mono ?_
  rintro e w12 ⟨rfl, hb12⟩
  have hX12 := hX11.below hb12 hX11.lt
  have hY12 := hY11.below hb12 hY11.lt
  have hr112 := hr111.below hb12
  have hm12 := hm11.below hb12
  have B12 : Below w.heap.size w w12 := B11.trans (hb12.mono B11.size)
  clear y0 y1 hX11 hY11 hr111 hm11 hb12 B11
  go_wp2_with fail
  refine ((unhide TT) _ B12).mono ?_
  rintro e wf ⟨rfl, hof, hbf⟩
  have hXf := hX12.below hbf hX12.lt
  have hYf := hY12.below hbf hY12.lt
  have hrf := hr112.below hbf
  have hmf := hm12.below hbf
  have Bf : Below w.heap.size w wf := B12.trans (hbf.mono B12.size)
  clear hbf hX12 hY12 hr112 hm12 B12
  go_wp2_with fail
  refine ((unhide TO) _ Bf).mono ?_
  rintro e w13 ⟨rfl, ho13, hb13⟩
  have hX13 := hXf.below hb13 hXf.lt
  have hY13 := hYf.below hb13 hYf.lt
  have hr113 := hrf.below hb13
  have hm13 := hmf.below hb13
  have ht13 := hof.below hb13 hof.lt
  have B13 : Below w.heap.size w w13 := Bf.trans (hb13.mono Bf.size)
  clear hb13 hXf hYf hrf hmf hof Bf
  go_wp2_with fail
  refine (implObject_any w12.heap.size wf.heap.size ks l _ ht13 ho13.row hnk hn (unhide SM) htot (unhide hok)).mono ?_
  rintro e w14 ⟨s3, rfl, hr314, hb14⟩
  rw [unhide HR] at hr314 ⊢
  simp only at hr314 ⊢
  have hX14 := hX13.below hb14 hX13.lt
  have hY14 := hY13.below hb14 hY13.lt
  have hr114 := hr113.below hb14
  have hm14 := hm13.below hb14
  have B14 : Below w.heap.size w w14 := B13.trans (hb14.mono B13.size)
  clear hb14 hX13 hY13 ho13 hr113 hm13 B13 ht13
  obtain ⟨a3, m3, c3, rfl⟩ := hr314.shape
  have x0 : ∀ o, (w14.alloc o).cell? ⟨w3.heap.size, 0, none⟩ = some (.int .i64 code) := fun o => (hX14.alloc o).cell 0
  have x1 : ∀ o, (w14.alloc o).cell? ⟨w3.heap.size, 1, none⟩ = some (.slice a1 m1 c1) := fun o => (hX14.alloc o).cell 1
  go_wp2_with fail
  refine (eqValueResult_any code (.slice a3 m3 c3) (.slice a1 m1 c1) _ _ rl _ (hr314.alloc _) (hr114.alloc _)).mono ?_
  rintro e w15 ⟨rfl, hb15⟩
  have hY15 := (hY14.alloc _).below hb15 (by have := hY14.lt; simp; omega)
  have hm15 := (hm14.alloc _).below hb15
  have B15 : Below w.heap.size w w15 := (B14.alloc B14.size _).trans (hb15.mono (by simp; have := B14.size; omega))
  clear x0 x1 hX14 hY14 hr114 hm14 hr314 hb15 B14
  have y0 := hY15.cell 0
  have y1 := hY15.cell 1
  simp only [List.getElem?_cons_zero, List.getElem?_cons_succ] at y0 y1
  go_wp2_with fail
  refine (heldValueResult_any code (.slice a2 m2 c2) _ rl.length 1 _ hm15 (by decide) (by decide) hln).mono ?_
  rintro e w16 ⟨rfl, hb16⟩
  have B16 : Below w.heap.size w w16 := B15.trans (hb16.mono B15.size)
  clear y0 y1 hY15 hm15 hb16 B15
  go_wp2_with fail
  go_ret
  exact ⟨rfl, B16⟩

namespace lawObjectValue
theorem own : ownKnob Try.prog.godebug = none := by kernel_rfl
theorem laidOut : laidOutB Try.prog = true := by kernel_rfl

set_option maxRecDepth 100000 in
theorem lifted (os : Os) (started : os.Started) (H : Type) (enc : TypeId × Value → H) :
    ReturnsInHanded {} Try.checked os 4 .any (Rows.fnExactObjectValueSpec.pre6 enc Try.prog Try.f4 Rows.fnExactObjectValueRow.domain false) (Rows.fnExactObjectValueSpec.post enc Try.prog Try.f4 false true false false) := by
  refine returnsInHanded_of_change (C := Try.checked) own started (by kernel_rfl) Try.func4
    (ChangeSpec.witness6 (enc := enc) (C := Try.checked) false ⟨#[], #[.slice none 0 0, .slice none 0 0], []⟩ 8 (by kernel_rfl) (by kernel_rfl) (by kernel_rfl) (by kernel_rfl)) ?_
  intro W base args ds gs before hval0 hW hcnd _
  have hval : ∀ (j : Nat) t v, Try.f4.params[j]? = some t → args[j]? = some v → Value.okWide Try.prog W .any base t v := hval0
  have hW' := hW
  obtain ⟨p, q, hA0, hV, rfl, hfz, hnd⟩ := hW
  have hA : DataW.TrodAll enc Try.prog W 0 (fun _ => true) true Try.f4.params.toList args.toList ds p := hA0
  rw [Try.params4] at hA hval
  obtain ⟨v0, vs0, d0, ds0, p0, q0, hargs, rfl, rfl, h0, r0⟩ := trodAll_cons hA
  obtain ⟨v1, vs1, d1, ds1, p1, q1, rfl, rfl, rfl, h1, r1⟩ := trodAll_cons r0
  obtain ⟨rfl, rfl, rfl⟩ := trodAll_nil r1
  obtain rfl : args = #[v0, v1] := by cases args; simp_all
  obtain ⟨rfl, rfl⟩ := trodVars_none hV
  obtain ⟨a0, len0, cap0, rfl⟩ := okWide_slice Try.underlying35 (hval 0 35 v0 rfl rfl)
  have k0 := h0
  have lt0 : ∀ x ∈ p0, x.block < W.heap.size := by obtain ⟨m, hm⟩ := k0; exact DataW.trod_lt m _ _ _ hm
  obtain ⟨l0, hl0, w0⟩ : ∃ ss : List ByteArray, ss.length = len0 ∧ Strs W a0 cap0 ss := by
    obtain ⟨fuel, hf⟩ := h0
    exact open_strs hf
  subst hl0
  obtain ⟨a1, len1, cap1, rfl⟩ := okWide_slice Try.underlying22 (hval 1 22 v1 rfl rfl)
  have k1 := h1
  have lt1 : ∀ x ∈ p1, x.block < W.heap.size := by obtain ⟨m, hm⟩ := k1; exact DataW.trod_lt m _ _ _ hm
  obtain ⟨l1, hl1, w1⟩ : ∃ es : List Ar, es.length = len1 ∧ Lists W a1 cap1 es := by
    obtain ⟨fuel, hf⟩ := h1
    exact open_lists hf
  subst hl1
  clear hA0 hval0
  refine (lawObjectValue_walk a0 cap0 l0 a1 cap1 l1 W w0 w1).mono fun e W' ⟨he, bel⟩ => ?_
  subst he
  exact ⟨_, rfl, _, _, _, [], _, [], hW', trodAll_mk1 (shut_bool Try.underlying4 _), (trodAll_cons_mk (Below.trod laidOut (by kernel_rfl) (of_decide_eq_true (by kernel_rfl)) k0 bel lt0) (trodAll_cons_mk (Below.trod laidOut (by kernel_rfl) (of_decide_eq_true (by kernel_rfl)) k1 bel lt1) trodAll_mk0)), rfl, bel.frame _, fun h => by cases h⟩

theorem over : Rows.fnExactObjectValueRow.holds Try.pinned (OpenSpec.ofChange Rows.fnExactObjectValueSpec) :=
  OpenClaim.holds_of_wide 4 Try.f4 rfl rfl rfl rfl rfl rfl rfl ⟨rfl, rfl, rfl, rfl, rfl⟩ rfl rfl rfl rfl rfl (by kernel_rfl) Try.func4 (by kernel_rfl)
    (of_decide_eq_true (by kernel_rfl)) (by unfold Func.isWrapper; first | (rw [if_pos (by decide +kernel)]; kernel_rfl) | (rw [if_neg (by decide +kernel)]; exact ⟨rfl, rfl⟩))
    (fun os started H enc _ => lifted os started H enc)
end lawObjectValue

/-- The statement. -/
theorem lawObjectValue_holds : Rows.FnExactObjectValueSaid := lawObjectValue.over
#print axioms lawObjectValue_holds
end Go.Proofs.Yticjccpkgapijag
