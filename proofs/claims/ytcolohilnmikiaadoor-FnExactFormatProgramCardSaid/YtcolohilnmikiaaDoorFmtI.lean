/-
  The text of a node, the program's side: quotedText, memberText, leafText, joints, nodeText.
-/
import Derived.Test.YtcolohilnmikiaaDoorFmtM
import Derived.Test.YtcolohilnmikiaaDoorTreA
import Derived.Test.YtcolohilnmikiaaDoorShelfG
import Derived.Test.YtcolohilnmikiaaDoorDigT
import Derived.Lib.LaidTab
import Derived.Deep.RegionWith
namespace Go.Proofs.YtcolohilnmikiaaDoor
open Go.RowKit
set_option linter.unusedVariables false
set_option linter.unusedSimpArgs false

theorem grown_below (w : World) (q : Nat) (os : Array Obj) : Below w.heap.size w (Sort.grow (w.drewN q) os) :=
  ⟨rfl, rfl, rfl, by first | (simp [Sort.grow]; done) | (simp [Sort.grow]; omega), fun i hi => by
    simp [Sort.grow, Array.getElem?_append, hi]⟩
set_option maxHeartbeats 1000000 in
theorem quotedText_any (s : ByteArray) (w : World) (hs : s.size ≤ 60) : Calls Tryd.prog 75 #[.string s] w fun e w' => e = .returned (.string (Tr.qt s)) ∧ Below w.heap.size w w' := by
  have hql := J.quote_length s
  unfold Tr.qt
  go_enter Tryd.func75, Tryd.ntmps75
  go_wp2_with fail
  refine (appendQuoted_any w.heap.size (.slice none 0 0) [] s _ (World.ownsRow_nil _ _ _ _) hs (by simp) (Nat.le_refl _)).mono ?_
  rintro e w1 ⟨v, rfl, ho1, hb1k⟩
  have hb1 := hb1k.1
  clear hb1k
  rw [List.nil_append] at ho1
  rcases ho1.2 with ⟨_, h0⟩ | ⟨g, cap, cur, rfl, hgb, _⟩
  · exact absurd h0 (by unfold J.quote; simp)
  have hcv := fun W (hW : W = w1) => show (convert 62 9 (.slice (some ⟨g, 0, none⟩) (J.quote s).length cap)).run Tryd.prog W = .ok (.string (J.bytes (J.quote s))) W by
    subst hW
    exact run_convert_bytes_back _ _ _ 5 _ cap _ Tryd.underlying62 Tryd.underlying5 Tryd.underlying9 (J.owns_cells ho1)
  have hcv1 := hcv w1 rfl
  clear hcv ho1
  generalize (J.quote s).length = n at *
  generalize hq : J.bytes (J.quote s) = q at *
  have HQ := hide hq
  clear hq
  go_wp2_with fail
  go_ret
  exact ⟨ret_string (unhide HQ).symm, hb1⟩

set_option maxRecDepth 100000 in
set_option maxHeartbeats 1000000 in
theorem joints_any (w : World) : Calls Tryd.prog 44 #[] w fun e w' => e = .returned (.slice (some ⟨w.heap.size, 0, none⟩) 16 16) ∧ Own w' w.heap.size 79 Tr.jvals ∧ Below w.heap.size w w' := by
  go_enter Tryd.func44, Tryd.ntmps44
  go_wp2_with fail
  go_ret
  exact ⟨rfl, ⟨_, heap_alloc_new _ _, rfl⟩, (Below.refl _ _).alloc (Nat.le_refl _) _⟩

set_option maxHeartbeats 1000000 in
theorem leafText_1 (a_ b_ c_ num_ : Int) (text_ : ByteArray) (w : World) : Calls Tryd.prog 45 #[.agg #[.int .i64 1, .int .i64 a_, .int .i64 b_, .int .i64 c_, .int .i64 num_, .string text_]] w fun e w' => e = .returned (.string ⟨#[46]⟩) ∧ Below w.heap.size w w' := by
  have HB : Hid (∀ o, Below w.heap.size w (w.alloc o)) := fun o => (Below.refl _ _).alloc (Nat.le_refl _) o
  go_enter Tryd.func45, Tryd.ntmps45
  go_wp2_with fail
  go_ret
  exact ⟨rfl, HB.out _⟩

set_option maxHeartbeats 1000000 in
theorem leafText_24 (a_ b_ c_ num_ : Int) (text_ : ByteArray) (w : World) : Calls Tryd.prog 45 #[.agg #[.int .i64 24, .int .i64 a_, .int .i64 b_, .int .i64 c_, .int .i64 num_, .string text_]] w fun e w' => e = .returned (.string ⟨#[46, 46]⟩) ∧ Below w.heap.size w w' := by
  have HB : Hid (∀ o, Below w.heap.size w (w.alloc o)) := fun o => (Below.refl _ _).alloc (Nat.le_refl _) o
  go_enter Tryd.func45, Tryd.ntmps45
  go_wp2_with fail
  go_ret
  exact ⟨rfl, HB.out _⟩

set_option maxHeartbeats 1000000 in
theorem leafText_15 (a_ b_ c_ num_ : Int) (text_ : ByteArray) (w : World) : Calls Tryd.prog 45 #[.agg #[.int .i64 15, .int .i64 a_, .int .i64 b_, .int .i64 c_, .int .i64 num_, .string text_]] w fun e w' => e = .returned (.string ⟨#[91, 93]⟩) ∧ Below w.heap.size w w' := by
  have HB : Hid (∀ o, Below w.heap.size w (w.alloc o)) := fun o => (Below.refl _ _).alloc (Nat.le_refl _) o
  go_enter Tryd.func45, Tryd.ntmps45
  go_wp2_with fail
  go_ret
  exact ⟨rfl, HB.out _⟩

set_option maxHeartbeats 1000000 in
theorem leafText_16 (a_ b_ c_ num_ : Int) (text_ : ByteArray) (w : World) : Calls Tryd.prog 45 #[.agg #[.int .i64 16, .int .i64 a_, .int .i64 b_, .int .i64 c_, .int .i64 num_, .string text_]] w fun e w' => e = .returned (.string ⟨#[123, 125]⟩) ∧ Below w.heap.size w w' := by
  have HB : Hid (∀ o, Below w.heap.size w (w.alloc o)) := fun o => (Below.refl _ _).alloc (Nat.le_refl _) o
  go_enter Tryd.func45, Tryd.ntmps45
  go_wp2_with fail
  go_ret
  exact ⟨rfl, HB.out _⟩

set_option maxHeartbeats 1000000 in
theorem leafText_2 (a_ b_ c_ num_ : Int) (text_ : ByteArray) (w : World) (h0 : 0 ≤ num_) (h1 : num_ ≤ 1000000000000000) (htab : ∀ wq, Below w.heap.size w wq → Lib.TabIs Tryd.prog wq "internal/strconv.uint64pow10" .u64 Lib.pow10Tab) : Calls Tryd.prog 45 #[.agg #[.int .i64 2, .int .i64 a_, .int .i64 b_, .int .i64 c_, .int .i64 num_, .string text_]] w fun e w' => e = .returned (.string ⟨(Lib.decDigits num_.toNat).toArray⟩) ∧ Below w.heap.size w w' := by
  have HB : Hid (∀ o, Below w.heap.size w (w.alloc o)) := fun o => (Below.refl _ _).alloc (Nat.le_refl _) o
  have e : Lib.itoa num_ = Lib.decDigits num_.toNat := by unfold Lib.itoa; rw [if_neg (by omega)]
  have HI := hide (fun (wq : World) (hb : Below w.heap.size w wq) => Tryd.strconv_FormatInt_10 num_ (by omega) (by omega) wq (htab wq hb))
  rw [e] at HI
  clear e htab
  go_enter Tryd.func45, Tryd.ntmps45
  go_wp2_with fail
  refine ((unhide HI) _ (HB.out _)).mono ?_
  rintro e w4 ⟨rfl, kk, os, hw4⟩
  have B4 : Below w.heap.size w w4 := by rw [hw4]; exact (HB.out _).trans ((grown_below _ _ _).mono (HB.out _).size)
  clear hw4
  go_wp2_with fail
  go_ret
  exact ⟨rfl, B4⟩

set_option maxHeartbeats 1000000 in
theorem leafText_3 (a_ b_ c_ num_ : Int) (text_ : ByteArray) (w : World) (hs : text_.size ≤ 60) : Calls Tryd.prog 45 #[.agg #[.int .i64 3, .int .i64 a_, .int .i64 b_, .int .i64 c_, .int .i64 num_, .string text_]] w fun e w' => e = .returned (.string (Tr.qt text_)) ∧ Below w.heap.size w w' := by
  have HB : Hid (∀ o, Below w.heap.size w (w.alloc o)) := fun o => (Below.refl _ _).alloc (Nat.le_refl _) o
  go_enter Tryd.func45, Tryd.ntmps45
  go_wp2_with fail
  refine (quotedText_any text_ _ hs).mono ?_
  rintro e w4 ⟨rfl, hb4⟩
  have B4 : Below w.heap.size w w4 := (HB.out _).trans (hb4.mono (HB.out _).size)
  go_wp2_with fail
  go_ret
  exact ⟨rfl, B4⟩

set_option maxHeartbeats 1000000 in
theorem leafText_21 (a_ b_ c_ num_ : Int) (text_ : ByteArray) (w : World) (hs : text_.size ≤ 60) : Calls Tryd.prog 45 #[.agg #[.int .i64 21, .int .i64 a_, .int .i64 b_, .int .i64 c_, .int .i64 num_, .string text_]] w fun e w' => e = .returned (.string (⟨#[36]⟩ ++ text_)) ∧ Below w.heap.size w w' := by
  have HB : Hid (∀ o, Below w.heap.size w (w.alloc o)) := fun o => (Below.refl _ _).alloc (Nat.le_refl _) o
  go_enter Tryd.func45, Tryd.ntmps45
  go_wp2_with fail
  go_ret
  exact ⟨rfl, HB.out _⟩

set_option maxHeartbeats 1000000 in
theorem leafText_22 (a_ b_ c_ num_ : Int) (text_ : ByteArray) (w : World) : Calls Tryd.prog 45 #[.agg #[.int .i64 22, .int .i64 a_, .int .i64 b_, .int .i64 c_, .int .i64 num_, .string text_]] w fun e w' => e = .returned (.string text_) ∧ Below w.heap.size w w' := by
  have HB : Hid (∀ o, Below w.heap.size w (w.alloc o)) := fun o => (Below.refl _ _).alloc (Nat.le_refl _) o
  go_enter Tryd.func45, Tryd.ntmps45
  go_wp2_with fail
  go_ret
  exact ⟨rfl, HB.out _⟩

theorem valueWords_own (w : World) : Calls Tryd.prog 77 #[] w fun e w' => e = .returned (.slice (some ⟨w.heap.size, 0, none⟩) 3 3) ∧ Own w' w.heap.size 9 [.string (Tr.word3 0), .string (Tr.word3 1), .string (Tr.word3 2)] ∧ Below w.heap.size w w' := by
  go_enter Tryd.func77, Tryd.ntmps77
  go_wp2_with fail
  go_ret
  exact ⟨rfl, ⟨_, heap_alloc_new _ _, rfl⟩, (Below.refl _ _).alloc (Nat.le_refl _) _⟩

set_option maxRecDepth 100000 in
set_option maxHeartbeats 1000000 in
theorem leafText_4_0 (a_ b_ c_ : Int) (text_ : ByteArray) (w : World) : Calls Tryd.prog 45 #[.agg #[.int .i64 4, .int .i64 a_, .int .i64 b_, .int .i64 c_, .int .i64 0, .string text_]] w fun e w' => e = .returned (.string (Tr.word3 0)) ∧ Below w.heap.size w w' := by
  obtain ⟨w0, hw0⟩ : ∃ w0, w0 = w.alloc (.cells #[.int .i64 4, .int .i64 a_, .int .i64 b_, .int .i64 c_, .int .i64 0, .string text_] 44) := ⟨_, rfl⟩
  have B0 : Below w.heap.size w w0 := by rw [hw0]; exact (Below.refl _ _).alloc (Nat.le_refl _) _
  have N0 : Own w0 w.heap.size 44 [.int .i64 4, .int .i64 a_, .int .i64 b_, .int .i64 c_, .int .i64 0, .string text_] := by rw [hw0]; exact ⟨_, heap_alloc_new _ _, rfl⟩
  have c4 := N0.cell 4
  simp only [List.getElem?_cons_zero, List.getElem?_cons_succ] at c4
  go_enter Tryd.func45, Tryd.ntmps45
  go_wp2_with fail
  rw [← hw0]
  clear hw0
  go_region_with (go_at_call 77; refine (valueWords_own _).mono ?_; rintro e w7 ⟨rfl, hO7, hb7⟩; have e0 : w7.cell? ⟨w0.heap.size, 0, none⟩ = some (.string (Tr.word3 0)) := hO7.cell 0; have e1 : w7.cell? ⟨w0.heap.size, 1, none⟩ = some (.string (Tr.word3 1)) := hO7.cell 1; have e2 : w7.cell? ⟨w0.heap.size, 2, none⟩ = some (.string (Tr.word3 2)) := hO7.cell 2; have c4' := (hb7.cell (by exact N0.lt)).trans c4; have hB7 : Below w.heap.size w w7 := B0.trans (((Below.refl w0.heap.size w0).drew.trans hb7).mono B0.size))
  all_goals (go_wp2_with fail; go_ret; exact ⟨rfl, hB7⟩)

set_option maxRecDepth 100000 in
set_option maxHeartbeats 1000000 in
theorem leafText_4_1 (a_ b_ c_ : Int) (text_ : ByteArray) (w : World) : Calls Tryd.prog 45 #[.agg #[.int .i64 4, .int .i64 a_, .int .i64 b_, .int .i64 c_, .int .i64 1, .string text_]] w fun e w' => e = .returned (.string (Tr.word3 1)) ∧ Below w.heap.size w w' := by
  obtain ⟨w0, hw0⟩ : ∃ w0, w0 = w.alloc (.cells #[.int .i64 4, .int .i64 a_, .int .i64 b_, .int .i64 c_, .int .i64 1, .string text_] 44) := ⟨_, rfl⟩
  have B0 : Below w.heap.size w w0 := by rw [hw0]; exact (Below.refl _ _).alloc (Nat.le_refl _) _
  have N0 : Own w0 w.heap.size 44 [.int .i64 4, .int .i64 a_, .int .i64 b_, .int .i64 c_, .int .i64 1, .string text_] := by rw [hw0]; exact ⟨_, heap_alloc_new _ _, rfl⟩
  have c4 := N0.cell 4
  simp only [List.getElem?_cons_zero, List.getElem?_cons_succ] at c4
  go_enter Tryd.func45, Tryd.ntmps45
  go_wp2_with fail
  rw [← hw0]
  clear hw0
  go_region_with (go_at_call 77; refine (valueWords_own _).mono ?_; rintro e w7 ⟨rfl, hO7, hb7⟩; have e0 : w7.cell? ⟨w0.heap.size, 0, none⟩ = some (.string (Tr.word3 0)) := hO7.cell 0; have e1 : w7.cell? ⟨w0.heap.size, 1, none⟩ = some (.string (Tr.word3 1)) := hO7.cell 1; have e2 : w7.cell? ⟨w0.heap.size, 2, none⟩ = some (.string (Tr.word3 2)) := hO7.cell 2; have c4' := (hb7.cell (by exact N0.lt)).trans c4; have hB7 : Below w.heap.size w w7 := B0.trans (((Below.refl w0.heap.size w0).drew.trans hb7).mono B0.size))
  all_goals (go_wp2_with fail; go_ret; exact ⟨rfl, hB7⟩)

set_option maxRecDepth 100000 in
set_option maxHeartbeats 1000000 in
theorem leafText_4_2 (a_ b_ c_ : Int) (text_ : ByteArray) (w : World) : Calls Tryd.prog 45 #[.agg #[.int .i64 4, .int .i64 a_, .int .i64 b_, .int .i64 c_, .int .i64 2, .string text_]] w fun e w' => e = .returned (.string (Tr.word3 2)) ∧ Below w.heap.size w w' := by
  obtain ⟨w0, hw0⟩ : ∃ w0, w0 = w.alloc (.cells #[.int .i64 4, .int .i64 a_, .int .i64 b_, .int .i64 c_, .int .i64 2, .string text_] 44) := ⟨_, rfl⟩
  have B0 : Below w.heap.size w w0 := by rw [hw0]; exact (Below.refl _ _).alloc (Nat.le_refl _) _
  have N0 : Own w0 w.heap.size 44 [.int .i64 4, .int .i64 a_, .int .i64 b_, .int .i64 c_, .int .i64 2, .string text_] := by rw [hw0]; exact ⟨_, heap_alloc_new _ _, rfl⟩
  have c4 := N0.cell 4
  simp only [List.getElem?_cons_zero, List.getElem?_cons_succ] at c4
  go_enter Tryd.func45, Tryd.ntmps45
  go_wp2_with fail
  rw [← hw0]
  clear hw0
  go_region_with (go_at_call 77; refine (valueWords_own _).mono ?_; rintro e w7 ⟨rfl, hO7, hb7⟩; have e0 : w7.cell? ⟨w0.heap.size, 0, none⟩ = some (.string (Tr.word3 0)) := hO7.cell 0; have e1 : w7.cell? ⟨w0.heap.size, 1, none⟩ = some (.string (Tr.word3 1)) := hO7.cell 1; have e2 : w7.cell? ⟨w0.heap.size, 2, none⟩ = some (.string (Tr.word3 2)) := hO7.cell 2; have c4' := (hb7.cell (by exact N0.lt)).trans c4; have hB7 : Below w.heap.size w w7 := B0.trans (((Below.refl w0.heap.size w0).drew.trans hb7).mono B0.size))
  all_goals (go_wp2_with fail; go_ret; exact ⟨rfl, hB7⟩)

theorem leafText_any (n : Nd) (w : World) (h : n.op = 1 ∨ n.op = 2 ∨ n.op = 3 ∨ n.op = 4 ∨ n.op = 15 ∨ n.op = 16 ∨ n.op = 21 ∨ n.op = 22 ∨ n.op = 24) (hs : n.text.size ≤ 60) (h0 : 0 ≤ n.num) (h1 : n.num ≤ Tr.high n.op ∨ Tr.high n.op = 0) (htab : ∀ wq, Below w.heap.size w wq → Lib.TabIs Tryd.prog wq "internal/strconv.uint64pow10" .u64 Lib.pow10Tab) : Calls Tryd.prog 45 #[n.agg] w fun e w' => e = .returned (.string (Tr.leafT n)) ∧ Below w.heap.size w w' := by
  obtain ⟨op, a_, b_, c_, num_, text_⟩ := n
  unfold Nd.agg
  simp only at h hs h0 h1
  rcases h with rfl | rfl | rfl | rfl | rfl | rfl | rfl | rfl | rfl
  · exact leafText_1 a_ b_ c_ num_ text_ w
  · have e : Tr.high 2 = 1000000000000000 := by decide
    rw [e] at h1
    exact leafText_2 a_ b_ c_ num_ text_ w h0 (by omega) htab
  · exact leafText_3 a_ b_ c_ num_ text_ w hs
  · have e : Tr.high 4 = 2 := by decide
    rw [e] at h1
    have hh : num_ = 0 ∨ num_ = 1 ∨ num_ = 2 := by omega
    rcases hh with rfl | rfl | rfl
    · exact leafText_4_0 a_ b_ c_ text_ w
    · exact leafText_4_1 a_ b_ c_ text_ w
    · exact leafText_4_2 a_ b_ c_ text_ w
  · exact leafText_15 a_ b_ c_ num_ text_ w
  · exact leafText_16 a_ b_ c_ num_ text_ w
  · exact leafText_21 a_ b_ c_ num_ text_ w hs
  · exact leafText_22 a_ b_ c_ num_ text_ w
  · exact leafText_24 a_ b_ c_ num_ text_ w

set_option maxRecDepth 100000 in
set_option maxHeartbeats 2000000 in
theorem memberText_any (a_ b_ c_ num_ : Int) (text_ a b : ByteArray) (w : World) (ht : text_.size ≤ 60) (ha : a.size ≤ 100000) (hb : b.size ≤ 100000) : Calls Tryd.prog 43 #[.agg #[.int .i64 17, .int .i64 a_, .int .i64 b_, .int .i64 c_, .int .i64 num_, .string text_], .string a, .string b] w fun e w' => e = .returned (.string (Tr.memT ⟨17, a_, b_, c_, num_, text_⟩ (Tr.trimB a) b)) ∧ Below w.heap.size w w' := by
  have HB : Hid (∀ o, Below w.heap.size w (w.alloc o)) := fun o => (Below.refl _ _).alloc (Nat.le_refl _) o
  have HT := hide (fun wq => show Calls Tryd.prog 74 #[.string a, .string ⟨#[125]⟩] wq fun e w' => e = .returned (.string (Tr.trimB a)) ∧ w' = wq from Tryd.strings_TrimSuffix a ⟨#[125]⟩ wq (by omega))
  have hos := Tr.trimB_size a
  have HQ : Hid ((Tr.qt text_).size ≤ 122) := by
    show (J.bytes (J.quote text_)).size ≤ 122
    rw [J.bytes_size]; have := J.quote_length text_; omega
  have fin : Hid (Tr.memT ⟨17, a_, b_, c_, num_, text_⟩ (Tr.trimB a) b = ((((if (Tr.trimB a).toList = [123] then Tr.trimB a else Tr.trimB a ++ ⟨#[44]⟩) ++ Tr.qt text_) ++ ⟨#[58]⟩) ++ b) ++ ⟨#[125]⟩) := rfl
  go_enter Tryd.func43, Tryd.ntmps43
  go_wp2_with fail
  refine ((unhide HT) _).mono ?_
  rintro e w1 ⟨rfl, hw1⟩
  subst w1
  generalize ho : Tr.trimB a = o at *
  have HO := hide ho
  clear ho
  clear HT
  by_cases h1 : o.toList = [123]
  · rw [if_pos h1] at fin
    have g1 : (o.toList == [123]) = true := by rw [h1]; exact beq_self_eq_true _
    have g2 : (o.toList != [123]) = false := by rw [bne, g1]; rfl
    clear h1
    
    go_wp2_with fail
    refine (quotedText_any text_ _ ht).mono ?_
    rintro e w2 ⟨rfl, hb2⟩
    have B2 : Below w.heap.size w w2 := (HB.out _).trans (hb2.mono (HB.out _).size)
    have hqs := unhide HQ
    generalize Tr.qt text_ = q at *
    have z0 : ((o ++ q) : ByteArray).size ≤ 500000 := by simp only [ByteArray.size_append, Tr.sz_mk]; first | omega | (simp; omega)
    have z1 : (((o ++ q) ++ (⟨#[58]⟩ : ByteArray)) : ByteArray).size ≤ 500000 := by simp only [ByteArray.size_append, Tr.sz_mk]; first | omega | (simp; omega)
    have z2 : ((((o ++ q) ++ (⟨#[58]⟩ : ByteArray)) ++ b) : ByteArray).size ≤ 500000 := by simp only [ByteArray.size_append, Tr.sz_mk]; first | omega | (simp; omega)
    go_wp2_with fail
    go_ret
    exact ⟨ret_string (by rw [unhide HO]; exact (unhide fin).symm), B2⟩
  · rw [if_neg h1] at fin
    have g1 : (o.toList == [123]) = false := beq_eq_false_iff_ne.2 h1
    have g2 : (o.toList != [123]) = true := by rw [bne, g1]; rfl
    clear h1
    have zz : (o ++ (⟨#[44]⟩ : ByteArray)).size ≤ 400001 := by simp only [ByteArray.size_append, Tr.sz_mk]; simp; omega
    go_wp2_with fail
    refine (quotedText_any text_ _ ht).mono ?_
    rintro e w2 ⟨rfl, hb2⟩
    have B2 : Below w.heap.size w w2 := (HB.out _).trans (hb2.mono (HB.out _).size)
    have hqs := unhide HQ
    generalize Tr.qt text_ = q at *
    have z0 : (((o ++ ⟨#[44]⟩) ++ q) : ByteArray).size ≤ 500000 := by simp only [ByteArray.size_append, Tr.sz_mk]; first | omega | (simp; omega)
    have z1 : ((((o ++ ⟨#[44]⟩) ++ q) ++ (⟨#[58]⟩ : ByteArray)) : ByteArray).size ≤ 500000 := by simp only [ByteArray.size_append, Tr.sz_mk]; first | omega | (simp; omega)
    have z2 : (((((o ++ ⟨#[44]⟩) ++ q) ++ (⟨#[58]⟩ : ByteArray)) ++ b) : ByteArray).size ≤ 500000 := by simp only [ByteArray.size_append, Tr.sz_mk]; first | omega | (simp; omega)
    go_wp2_with fail
    go_ret
    exact ⟨ret_string (by rw [unhide HO]; exact (unhide fin).symm), B2⟩

set_option maxRecDepth 100000 in
set_option maxHeartbeats 1000000 in
theorem nodeText_11 (a_ b_ c_ num_ : Int) (text_ a b c : ByteArray) (w : World) (ht : text_.size ≤ 60) (ha : a.size ≤ 100000) (hb : b.size ≤ 100000) (hc : c.size ≤ 100000) : Calls Tryd.prog 21 #[.agg #[.int .i64 11, .int .i64 a_, .int .i64 b_, .int .i64 c_, .int .i64 num_, .string text_], .string a, .string b, .string c] w fun e w' => e = .returned (.string (((a ++ (⟨#[91]⟩ : ByteArray)) ++ b) ++ (⟨#[93]⟩ : ByteArray))) ∧ Below w.heap.size w w' := by
  have HB : Hid (∀ o, Below w.heap.size w (w.alloc o)) := fun o => (Below.refl _ _).alloc (Nat.le_refl _) o
  have z0 : ((a ++ (⟨#[91]⟩ : ByteArray)) : ByteArray).size ≤ 500000 := by simp only [ByteArray.size_append, Tr.sz_mk]; first | omega | (simp; omega)
  have z1 : (((a ++ (⟨#[91]⟩ : ByteArray)) ++ b) : ByteArray).size ≤ 500000 := by simp only [ByteArray.size_append, Tr.sz_mk]; first | omega | (simp; omega)
  go_enter Tryd.func21, Tryd.ntmps21
  go_wp2_with fail
  go_ret
  exact ⟨rfl, HB.out _⟩

set_option maxRecDepth 100000 in
set_option maxHeartbeats 1000000 in
theorem nodeText_12 (a_ b_ c_ num_ : Int) (text_ a b c : ByteArray) (w : World) (ht : text_.size ≤ 60) (ha : a.size ≤ 100000) (hb : b.size ≤ 100000) (hc : c.size ≤ 100000) : Calls Tryd.prog 21 #[.agg #[.int .i64 12, .int .i64 a_, .int .i64 b_, .int .i64 c_, .int .i64 num_, .string text_], .string a, .string b, .string c] w fun e w' => e = .returned (.string (a ++ (⟨#[91, 93]⟩ : ByteArray))) ∧ Below w.heap.size w w' := by
  have HB : Hid (∀ o, Below w.heap.size w (w.alloc o)) := fun o => (Below.refl _ _).alloc (Nat.le_refl _) o
  go_enter Tryd.func21, Tryd.ntmps21
  go_wp2_with fail
  go_ret
  exact ⟨rfl, HB.out _⟩

set_option maxRecDepth 100000 in
set_option maxHeartbeats 1000000 in
theorem nodeText_13 (a_ b_ c_ num_ : Int) (text_ a b c : ByteArray) (w : World) (ht : text_.size ≤ 60) (ha : a.size ≤ 100000) (hb : b.size ≤ 100000) (hc : c.size ≤ 100000) : Calls Tryd.prog 21 #[.agg #[.int .i64 13, .int .i64 a_, .int .i64 b_, .int .i64 c_, .int .i64 num_, .string text_], .string a, .string b, .string c] w fun e w' => e = .returned (.string (((⟨#[40, 116, 114, 121, 32]⟩ : ByteArray) ++ a) ++ (⟨#[41]⟩ : ByteArray))) ∧ Below w.heap.size w w' := by
  have HB : Hid (∀ o, Below w.heap.size w (w.alloc o)) := fun o => (Below.refl _ _).alloc (Nat.le_refl _) o
  have z0 : (((⟨#[40, 116, 114, 121, 32]⟩ : ByteArray) ++ a) : ByteArray).size ≤ 500000 := by simp only [ByteArray.size_append, Tr.sz_mk]; first | omega | (simp; omega)
  go_enter Tryd.func21, Tryd.ntmps21
  go_wp2_with fail
  go_ret
  exact ⟨rfl, HB.out _⟩

set_option maxRecDepth 100000 in
set_option maxHeartbeats 1000000 in
theorem nodeText_14 (a_ b_ c_ num_ : Int) (text_ a b c : ByteArray) (w : World) (ht : text_.size ≤ 60) (ha : a.size ≤ 100000) (hb : b.size ≤ 100000) (hc : c.size ≤ 100000) : Calls Tryd.prog 21 #[.agg #[.int .i64 14, .int .i64 a_, .int .i64 b_, .int .i64 c_, .int .i64 num_, .string text_], .string a, .string b, .string c] w fun e w' => e = .returned (.string (((⟨#[91]⟩ : ByteArray) ++ a) ++ (⟨#[93]⟩ : ByteArray))) ∧ Below w.heap.size w w' := by
  have HB : Hid (∀ o, Below w.heap.size w (w.alloc o)) := fun o => (Below.refl _ _).alloc (Nat.le_refl _) o
  have z0 : (((⟨#[91]⟩ : ByteArray) ++ a) : ByteArray).size ≤ 500000 := by simp only [ByteArray.size_append, Tr.sz_mk]; first | omega | (simp; omega)
  go_enter Tryd.func21, Tryd.ntmps21
  go_wp2_with fail
  go_ret
  exact ⟨rfl, HB.out _⟩

set_option maxRecDepth 100000 in
set_option maxHeartbeats 1000000 in
theorem nodeText_18 (a_ b_ c_ num_ : Int) (text_ a b c : ByteArray) (w : World) (ht : text_.size ≤ 60) (ha : a.size ≤ 100000) (hb : b.size ≤ 100000) (hc : c.size ≤ 100000) : Calls Tryd.prog 21 #[.agg #[.int .i64 18, .int .i64 a_, .int .i64 b_, .int .i64 c_, .int .i64 num_, .string text_], .string a, .string b, .string c] w fun e w' => e = .returned (.string (((((((⟨#[40, 105, 102, 32]⟩ : ByteArray) ++ a) ++ (⟨#[32, 116, 104, 101, 110, 32]⟩ : ByteArray)) ++ b) ++ (⟨#[32, 101, 108, 115, 101, 32]⟩ : ByteArray)) ++ c) ++ (⟨#[32, 101, 110, 100, 41]⟩ : ByteArray))) ∧ Below w.heap.size w w' := by
  have HB : Hid (∀ o, Below w.heap.size w (w.alloc o)) := fun o => (Below.refl _ _).alloc (Nat.le_refl _) o
  have z0 : (((⟨#[40, 105, 102, 32]⟩ : ByteArray) ++ a) : ByteArray).size ≤ 500000 := by simp only [ByteArray.size_append, Tr.sz_mk]; first | omega | (simp; omega)
  have z1 : ((((⟨#[40, 105, 102, 32]⟩ : ByteArray) ++ a) ++ (⟨#[32, 116, 104, 101, 110, 32]⟩ : ByteArray)) : ByteArray).size ≤ 500000 := by simp only [ByteArray.size_append, Tr.sz_mk]; first | omega | (simp; omega)
  have z2 : (((((⟨#[40, 105, 102, 32]⟩ : ByteArray) ++ a) ++ (⟨#[32, 116, 104, 101, 110, 32]⟩ : ByteArray)) ++ b) : ByteArray).size ≤ 500000 := by simp only [ByteArray.size_append, Tr.sz_mk]; first | omega | (simp; omega)
  have z3 : ((((((⟨#[40, 105, 102, 32]⟩ : ByteArray) ++ a) ++ (⟨#[32, 116, 104, 101, 110, 32]⟩ : ByteArray)) ++ b) ++ (⟨#[32, 101, 108, 115, 101, 32]⟩ : ByteArray)) : ByteArray).size ≤ 500000 := by simp only [ByteArray.size_append, Tr.sz_mk]; first | omega | (simp; omega)
  have z4 : (((((((⟨#[40, 105, 102, 32]⟩ : ByteArray) ++ a) ++ (⟨#[32, 116, 104, 101, 110, 32]⟩ : ByteArray)) ++ b) ++ (⟨#[32, 101, 108, 115, 101, 32]⟩ : ByteArray)) ++ c) : ByteArray).size ≤ 500000 := by simp only [ByteArray.size_append, Tr.sz_mk]; first | omega | (simp; omega)
  go_enter Tryd.func21, Tryd.ntmps21
  go_wp2_with fail
  go_ret
  exact ⟨rfl, HB.out _⟩

set_option maxRecDepth 100000 in
set_option maxHeartbeats 1000000 in
theorem nodeText_19 (a_ b_ c_ num_ : Int) (text_ a b c : ByteArray) (w : World) (ht : text_.size ≤ 60) (ha : a.size ≤ 100000) (hb : b.size ≤ 100000) (hc : c.size ≤ 100000) : Calls Tryd.prog 21 #[.agg #[.int .i64 19, .int .i64 a_, .int .i64 b_, .int .i64 c_, .int .i64 num_, .string text_], .string a, .string b, .string c] w fun e w' => e = .returned (.string (((((((((⟨#[40, 114, 101, 100, 117, 99, 101, 32]⟩ : ByteArray) ++ a) ++ (⟨#[32, 97, 115, 32, 36]⟩ : ByteArray)) ++ text_) ++ (⟨#[32, 40]⟩ : ByteArray)) ++ b) ++ (⟨#[32, 59, 32]⟩ : ByteArray)) ++ c) ++ (⟨#[41, 41]⟩ : ByteArray))) ∧ Below w.heap.size w w' := by
  have HB : Hid (∀ o, Below w.heap.size w (w.alloc o)) := fun o => (Below.refl _ _).alloc (Nat.le_refl _) o
  have z0 : (((⟨#[40, 114, 101, 100, 117, 99, 101, 32]⟩ : ByteArray) ++ a) : ByteArray).size ≤ 500000 := by simp only [ByteArray.size_append, Tr.sz_mk]; first | omega | (simp; omega)
  have z1 : ((((⟨#[40, 114, 101, 100, 117, 99, 101, 32]⟩ : ByteArray) ++ a) ++ (⟨#[32, 97, 115, 32, 36]⟩ : ByteArray)) : ByteArray).size ≤ 500000 := by simp only [ByteArray.size_append, Tr.sz_mk]; first | omega | (simp; omega)
  have z2 : (((((⟨#[40, 114, 101, 100, 117, 99, 101, 32]⟩ : ByteArray) ++ a) ++ (⟨#[32, 97, 115, 32, 36]⟩ : ByteArray)) ++ text_) : ByteArray).size ≤ 500000 := by simp only [ByteArray.size_append, Tr.sz_mk]; first | omega | (simp; omega)
  have z3 : ((((((⟨#[40, 114, 101, 100, 117, 99, 101, 32]⟩ : ByteArray) ++ a) ++ (⟨#[32, 97, 115, 32, 36]⟩ : ByteArray)) ++ text_) ++ (⟨#[32, 40]⟩ : ByteArray)) : ByteArray).size ≤ 500000 := by simp only [ByteArray.size_append, Tr.sz_mk]; first | omega | (simp; omega)
  have z4 : (((((((⟨#[40, 114, 101, 100, 117, 99, 101, 32]⟩ : ByteArray) ++ a) ++ (⟨#[32, 97, 115, 32, 36]⟩ : ByteArray)) ++ text_) ++ (⟨#[32, 40]⟩ : ByteArray)) ++ b) : ByteArray).size ≤ 500000 := by simp only [ByteArray.size_append, Tr.sz_mk]; first | omega | (simp; omega)
  have z5 : ((((((((⟨#[40, 114, 101, 100, 117, 99, 101, 32]⟩ : ByteArray) ++ a) ++ (⟨#[32, 97, 115, 32, 36]⟩ : ByteArray)) ++ text_) ++ (⟨#[32, 40]⟩ : ByteArray)) ++ b) ++ (⟨#[32, 59, 32]⟩ : ByteArray)) : ByteArray).size ≤ 500000 := by simp only [ByteArray.size_append, Tr.sz_mk]; first | omega | (simp; omega)
  have z6 : (((((((((⟨#[40, 114, 101, 100, 117, 99, 101, 32]⟩ : ByteArray) ++ a) ++ (⟨#[32, 97, 115, 32, 36]⟩ : ByteArray)) ++ text_) ++ (⟨#[32, 40]⟩ : ByteArray)) ++ b) ++ (⟨#[32, 59, 32]⟩ : ByteArray)) ++ c) : ByteArray).size ≤ 500000 := by simp only [ByteArray.size_append, Tr.sz_mk]; first | omega | (simp; omega)
  go_enter Tryd.func21, Tryd.ntmps21
  go_wp2_with fail
  go_ret
  exact ⟨rfl, HB.out _⟩

set_option maxRecDepth 100000 in
set_option maxHeartbeats 1000000 in
theorem nodeText_20 (a_ b_ c_ num_ : Int) (text_ a b c : ByteArray) (w : World) (ht : text_.size ≤ 60) (ha : a.size ≤ 100000) (hb : b.size ≤ 100000) (hc : c.size ≤ 100000) : Calls Tryd.prog 21 #[.agg #[.int .i64 20, .int .i64 a_, .int .i64 b_, .int .i64 c_, .int .i64 num_, .string text_], .string a, .string b, .string c] w fun e w' => e = .returned (.string (((((((⟨#[40]⟩ : ByteArray) ++ a) ++ (⟨#[32, 97, 115, 32, 36]⟩ : ByteArray)) ++ text_) ++ (⟨#[32, 124, 32]⟩ : ByteArray)) ++ b) ++ (⟨#[41]⟩ : ByteArray))) ∧ Below w.heap.size w w' := by
  have HB : Hid (∀ o, Below w.heap.size w (w.alloc o)) := fun o => (Below.refl _ _).alloc (Nat.le_refl _) o
  have z0 : (((⟨#[40]⟩ : ByteArray) ++ a) : ByteArray).size ≤ 500000 := by simp only [ByteArray.size_append, Tr.sz_mk]; first | omega | (simp; omega)
  have z1 : ((((⟨#[40]⟩ : ByteArray) ++ a) ++ (⟨#[32, 97, 115, 32, 36]⟩ : ByteArray)) : ByteArray).size ≤ 500000 := by simp only [ByteArray.size_append, Tr.sz_mk]; first | omega | (simp; omega)
  have z2 : (((((⟨#[40]⟩ : ByteArray) ++ a) ++ (⟨#[32, 97, 115, 32, 36]⟩ : ByteArray)) ++ text_) : ByteArray).size ≤ 500000 := by simp only [ByteArray.size_append, Tr.sz_mk]; first | omega | (simp; omega)
  have z3 : ((((((⟨#[40]⟩ : ByteArray) ++ a) ++ (⟨#[32, 97, 115, 32, 36]⟩ : ByteArray)) ++ text_) ++ (⟨#[32, 124, 32]⟩ : ByteArray)) : ByteArray).size ≤ 500000 := by simp only [ByteArray.size_append, Tr.sz_mk]; first | omega | (simp; omega)
  have z4 : (((((((⟨#[40]⟩ : ByteArray) ++ a) ++ (⟨#[32, 97, 115, 32, 36]⟩ : ByteArray)) ++ text_) ++ (⟨#[32, 124, 32]⟩ : ByteArray)) ++ b) : ByteArray).size ≤ 500000 := by simp only [ByteArray.size_append, Tr.sz_mk]; first | omega | (simp; omega)
  go_enter Tryd.func21, Tryd.ntmps21
  go_wp2_with fail
  go_ret
  exact ⟨rfl, HB.out _⟩

set_option maxRecDepth 100000 in
set_option maxHeartbeats 1000000 in
theorem nodeText_23 (a_ b_ c_ num_ : Int) (text_ a b c : ByteArray) (w : World) (ht : text_.size ≤ 60) (ha : a.size ≤ 100000) (hb : b.size ≤ 100000) (hc : c.size ≤ 100000) : Calls Tryd.prog 21 #[.agg #[.int .i64 23, .int .i64 a_, .int .i64 b_, .int .i64 c_, .int .i64 num_, .string text_], .string a, .string b, .string c] w fun e w' => e = .returned (.string (((text_ ++ (⟨#[40]⟩ : ByteArray)) ++ a) ++ (⟨#[41]⟩ : ByteArray))) ∧ Below w.heap.size w w' := by
  have HB : Hid (∀ o, Below w.heap.size w (w.alloc o)) := fun o => (Below.refl _ _).alloc (Nat.le_refl _) o
  have z0 : ((text_ ++ (⟨#[40]⟩ : ByteArray)) : ByteArray).size ≤ 500000 := by simp only [ByteArray.size_append, Tr.sz_mk]; first | omega | (simp; omega)
  have z1 : (((text_ ++ (⟨#[40]⟩ : ByteArray)) ++ a) : ByteArray).size ≤ 500000 := by simp only [ByteArray.size_append, Tr.sz_mk]; first | omega | (simp; omega)
  go_enter Tryd.func21, Tryd.ntmps21
  go_wp2_with fail
  go_ret
  exact ⟨rfl, HB.out _⟩

set_option maxRecDepth 100000 in
set_option maxHeartbeats 1000000 in
theorem nodeText_17 (a_ b_ c_ num_ : Int) (text_ a b c : ByteArray) (w : World) (ht : text_.size ≤ 60) (ha : a.size ≤ 100000) (hb : b.size ≤ 100000) (hc : c.size ≤ 100000) : Calls Tryd.prog 21 #[.agg #[.int .i64 17, .int .i64 a_, .int .i64 b_, .int .i64 c_, .int .i64 num_, .string text_], .string a, .string b, .string c] w fun e w' => e = .returned (.string (Tr.memT ⟨17, a_, b_, c_, num_, text_⟩ (Tr.trimB a) b)) ∧ Below w.heap.size w w' := by
  have HB : Hid (∀ o, Below w.heap.size w (w.alloc o)) := fun o => (Below.refl _ _).alloc (Nat.le_refl _) o
  go_enter Tryd.func21, Tryd.ntmps21
  go_wp2_with fail
  refine (memberText_any a_ b_ c_ num_ text_ a b _ ht ha hb).mono ?_
  rintro e w1 ⟨rfl, hb1⟩
  have B1 : Below w.heap.size w w1 := (HB.out _).trans (hb1.mono (HB.out _).size)
  go_wp2_with fail
  go_ret
  exact ⟨rfl, B1⟩

set_option maxRecDepth 100000 in
set_option maxHeartbeats 2000000 in
theorem nodeText_rest (n : Nd) (a b c : ByteArray) (w : World) (ht : n.text.size ≤ 60) (ha : a.size ≤ 100000) (hb : b.size ≤ 100000) (hno : n.op ≠ 11 ∧ n.op ≠ 12 ∧ n.op ≠ 13 ∧ n.op ≠ 14 ∧ n.op ≠ 17 ∧ n.op ≠ 18 ∧ n.op ≠ 19 ∧ n.op ≠ 20 ∧ n.op ≠ 23) (hleaf : Tr.jsign n.op n.num = none → (n.op = 1 ∨ n.op = 2 ∨ n.op = 3 ∨ n.op = 4 ∨ n.op = 15 ∨ n.op = 16 ∨ n.op = 21 ∨ n.op = 22 ∨ n.op = 24)) (h0 : 0 ≤ n.num) (h1 : n.num ≤ Tr.high n.op ∨ Tr.high n.op = 0) (htab : ∀ wq, Below w.heap.size w wq → Lib.TabIs Tryd.prog wq "internal/strconv.uint64pow10" .u64 Lib.pow10Tab) :
    Calls Tryd.prog 21 #[n.agg, .string a, .string b, .string c] w fun e w' => e = .returned (.string (Tr.nodeT n a b c)) ∧ Below w.heap.size w w' := by
  have fin0 := hide (Tr.nodeT_rest (a := a) (b := b) (c := c) hno)
  have g11 : (n.op == 11) = false := beq_eq_false_iff_ne.2 hno.1
  have g12 : (n.op == 12) = false := beq_eq_false_iff_ne.2 hno.2.1
  have g13 : (n.op == 13) = false := beq_eq_false_iff_ne.2 hno.2.2.1
  have g14 : (n.op == 14) = false := beq_eq_false_iff_ne.2 hno.2.2.2.1
  have g17 : (n.op == 17) = false := beq_eq_false_iff_ne.2 hno.2.2.2.2.1
  have g18 : (n.op == 18) = false := beq_eq_false_iff_ne.2 hno.2.2.2.2.2.1
  have g19 : (n.op == 19) = false := beq_eq_false_iff_ne.2 hno.2.2.2.2.2.2.1
  have g20 : (n.op == 20) = false := beq_eq_false_iff_ne.2 hno.2.2.2.2.2.2.2.1
  have g23 : (n.op == 23) = false := beq_eq_false_iff_ne.2 hno.2.2.2.2.2.2.2.2
  obtain ⟨w0, hw0⟩ : ∃ w0, w0 = w.alloc (.cells #[.int .i64 n.op, .int .i64 n.a, .int .i64 n.b, .int .i64 n.c, .int .i64 n.num, .string n.text] 44) := ⟨_, rfl⟩
  have B0 : Below w.heap.size w w0 := by rw [hw0]; exact (Below.refl _ _).alloc (Nat.le_refl _) _
  have N0 : Own w0 w.heap.size 44 [.int .i64 n.op, .int .i64 n.a, .int .i64 n.b, .int .i64 n.c, .int .i64 n.num, .string n.text] := by rw [hw0]; exact ⟨_, heap_alloc_new _ _, rfl⟩
  have HLT := hide (fun (wq : World) (hq : Below w.heap.size w wq) (h : Tr.jsign n.op n.num = none) => leafText_any n wq (hleaf h) ht h0 h1 (fun w' hb' => htab w' (hq.trans (hb'.mono hq.size))))
  clear htab hleaf hno
  have HAG : Hid (n.agg = .agg #[.int .i64 n.op, .int .i64 n.a, .int .i64 n.b, .int .i64 n.c, .int .i64 n.num, .string n.text]) := rfl
  rw [HAG.out]
  go_enter Tryd.func21, Tryd.ntmps21
  go_wp2_with fail
  rw [← hw0]
  clear hw0
  refine (joints_any _).mono ?_
  rintro e w1 ⟨rfl, hO1, hb1⟩
  have B1 : Below w.heap.size w w1 := B0.trans (hb1.mono B0.size)
  have N1 := N0.below hb1 N0.lt
  generalize w0.heap.size = gj at *
  clear N0 B0 hb1
  go_wp2_with fail
  go_loopg [88] 16 (fun gh s88 wr => ∃ k : Nat, Hid (gh = 16 - k) ∧ s88 = .int .i64 k ∧ k ≤ 16 ∧ Hid (∀ j, j < k → Tr.jmatch n.op n.num (Tr.jointsT.getD j Tr.jd) = false) ∧ Below w1.heap.size w1 wr)
  case atStart => exact ⟨0, rfl, rfl, by omega, fun j hj => absurd hj (by omega), Below.refl _ _⟩
  case round =>
    obtain ⟨k, hg, rfl, hk, hall, hbel⟩ := hrel
    have BW : Below w.heap.size w wr := B1.trans (hbel.mono B1.size)
    have N2 := N1.below hbel N1.lt
    have O2 := hO1.below hbel hO1.lt
    have c0 := N2.cell 0
    have c1 := N2.cell 1
    have c2 := N2.cell 2
    have c3 := N2.cell 3
    have c4 := N2.cell 4
    have c5 := N2.cell 5
    simp only [List.getElem?_cons_zero, List.getElem?_cons_succ] at c0 c1 c2 c3 c4 c5
    by_cases hlt : k < 16
    · have hltI : (k : Int) < 16 := by omega
      obtain ⟨q0, q1, q2⟩ := Tr.jvals_get k hlt
      have f0 := (O2.cell _).trans q0
      have f1 := (O2.cell _).trans q1
      have f2 := (O2.cell _).trans q2
      have hyes := hide (fun h => Tr.jsign_first hlt hall.out h)
      have hnext : Hid (Tr.jmatch n.op n.num (Tr.jointsT.getD k Tr.jd) = false → ∀ j, j < k + 1 → Tr.jmatch n.op n.num (Tr.jointsT.getD j Tr.jd) = false) := fun h j hj => by
        by_cases e : j = k
        · subst e; exact h
        · exact hall.out j (by omega)
      have hjm : Hid (Tr.jmatch n.op n.num (Tr.jointsT.getD k Tr.jd) = ((Tr.jointsT.getD k Tr.jd).2.1 == n.op && (Tr.jointsT.getD k Tr.jd).2.2 == n.num)) := rfl
      have hss : (Tr.jointsT.getD k Tr.jd).1.size ≤ 3 := by
        have all : ∀ j, j < 16 → (Tr.jointsT.getD j Tr.jd).1.size ≤ 3 := by decide
        exact all k hlt
      have HB : Hid (∀ o, Below w1.heap.size w1 (wr.alloc o)) := fun o => hbel.alloc hbel.size o
      have HBW : Hid (∀ o, Below w.heap.size w (wr.alloc o)) := fun o => BW.alloc BW.size o
      have hwl : w.heap.size < wr.heap.size := N2.lt
      have d0 : ∀ o, (wr.alloc o).cell? ⟨w.heap.size, 0, none⟩ = some (.int .i64 n.op) := fun o => (((Below.refl wr.heap.size wr).alloc (Nat.le_refl _) o).cell (by exact hwl)).trans c0
      have d4 : ∀ o, (wr.alloc o).cell? ⟨w.heap.size, 4, none⟩ = some (.int .i64 n.num) := fun o => (((Below.refl wr.heap.size wr).alloc (Nat.le_refl _) o).cell (by exact hwl)).trans c4
      generalize Tr.jointsT.getD k Tr.jd = J0 at *
      obtain ⟨s, jo, jn⟩ := J0
      simp only at f0 f1 f2 hjm hyes hss
      clear hlt q0 q1 q2
      cases e1 : (jo == n.op) with
      | false =>
        have hn2 := hide (hnext.out (by rw [hjm.out, e1]; rfl))
        clear hyes hnext hjm
        go_wp2_with fail
        go_roundg (16 - (k + 1))
        case rel => exact ⟨k + 1, rfl, by go_num, by omega, unhide hn2, HB.out _⟩
        case measure => have := hg.out; omega
      | true =>
        cases e2 : (jn == n.num) with
        | false =>
          have hn2 := hide (hnext.out (by rw [hjm.out, e1, e2]; rfl))
          clear hyes hnext hjm
          go_wp2_with fail
          go_roundg (16 - (k + 1))
          case rel => exact ⟨k + 1, rfl, by go_num, by omega, unhide hn2, HB.out _⟩
          case measure => have := hg.out; omega
        | true =>
          have hsg := (unhide hyes) (by rw [hjm.out, e1, e2]; rfl)
          have fin := hide (show Tr.nodeT n a b c = Tr.joinT a s b by rw [unhide fin0, hsg])
          unfold Tr.joinT at fin
          clear hyes hnext hjm hsg fin0
          have z0 : (((⟨#[40]⟩ : ByteArray) ++ a) : ByteArray).size ≤ 500000 := by simp only [ByteArray.size_append, Tr.sz_mk]; first | omega | (simp; omega)
          have z1 : ((((⟨#[40]⟩ : ByteArray) ++ a) ++ (⟨#[32]⟩ : ByteArray)) : ByteArray).size ≤ 500000 := by simp only [ByteArray.size_append, Tr.sz_mk]; first | omega | (simp; omega)
          have z2 : (((((⟨#[40]⟩ : ByteArray) ++ a) ++ (⟨#[32]⟩ : ByteArray)) ++ s) : ByteArray).size ≤ 500000 := by simp only [ByteArray.size_append, Tr.sz_mk]; first | omega | (simp; omega)
          have z3 : ((((((⟨#[40]⟩ : ByteArray) ++ a) ++ (⟨#[32]⟩ : ByteArray)) ++ s) ++ (⟨#[32]⟩ : ByteArray)) : ByteArray).size ≤ 500000 := by simp only [ByteArray.size_append, Tr.sz_mk]; first | omega | (simp; omega)
          have z4 : (((((((⟨#[40]⟩ : ByteArray) ++ a) ++ (⟨#[32]⟩ : ByteArray)) ++ s) ++ (⟨#[32]⟩ : ByteArray)) ++ b) : ByteArray).size ≤ 500000 := by simp only [ByteArray.size_append, Tr.sz_mk]; first | omega | (simp; omega)
          go_wp2_with fail
          go_ret
          exact ⟨ret_string (unhide fin).symm, HBW.out _⟩
    · have hjn := Tr.jsign_all (op := n.op) (num := n.num) (fun j hj => hall.out j (by omega))
      have fin := hide (show Tr.nodeT n a b c = Tr.leafT n by rw [unhide fin0, hjn])
      have HL := hide (fun (wq : World) (hq : Below w.heap.size w wq) => (unhide HLT) wq hq hjn)
      have hke : k = 16 := by omega
      subst hke
      clear hjn HLT fin0
      go_wp2_with fail
      refine ((unhide HL) _ BW).mono ?_
      rintro e w3 ⟨rfl, hb3⟩
      have B3 : Below w.heap.size w w3 := BW.trans (hb3.mono BW.size)
      go_wp2_with fail
      go_ret
      exact ⟨ret_string (unhide fin).symm, B3⟩

theorem nodeText_any (n : Nd) (a b c : ByteArray) (w : World) (hop1 : 1 ≤ n.op) (hop2 : n.op ≤ 24) (ht : n.text.size ≤ 60) (ha : a.size ≤ 100000) (hb : b.size ≤ 100000) (hc : c.size ≤ 100000) (hl : Tr.low n.op ≤ n.num) (hh : n.num ≤ Tr.high n.op) (htab : ∀ wq, Below w.heap.size w wq → Lib.TabIs Tryd.prog wq "internal/strconv.uint64pow10" .u64 Lib.pow10Tab) :
    Calls Tryd.prog 21 #[n.agg, .string a, .string b, .string c] w fun e w' => e = .returned (.string (Tr.nodeT n a b c)) ∧ Below w.heap.size w w' := by
  by_cases hno : n.op ≠ 11 ∧ n.op ≠ 12 ∧ n.op ≠ 13 ∧ n.op ≠ 14 ∧ n.op ≠ 17 ∧ n.op ≠ 18 ∧ n.op ≠ 19 ∧ n.op ≠ 20 ∧ n.op ≠ 23
  · refine nodeText_rest n a b c w ht ha hb hno (fun hj => ?_) (by unfold Tr.low at hl; split at hl <;> omega) (.inl hh) htab
    obtain ⟨op, a_, b_, c_, num_, text_⟩ := n
    simp only at hop1 hop2 hj hl hh hno ⊢
    have hx : op ≠ 5 ∧ op ≠ 6 ∧ op ≠ 7 ∧ op ≠ 8 ∧ op ≠ 9 ∧ op ≠ 10 := by
      refine ⟨?_, ?_, ?_, ?_, ?_, ?_⟩ <;> rintro rfl
      all_goals
        have e1 : ∀ m : Int, Tr.high m = if m = 2 then 1000000000000000 else if m = 4 then 2 else if m = 10 then 11 else 0 := fun _ => rfl
        have e2 : ∀ m : Int, Tr.low m = if m = 10 then 1 else 0 := fun _ => rfl
        rw [e1] at hh
        rw [e2] at hl
        simp at hh hl
      · have : num_ = 0 := by omega
        subst this; exact absurd hj (by decide)
      · have : num_ = 0 := by omega
        subst this; exact absurd hj (by decide)
      · have : num_ = 0 := by omega
        subst this; exact absurd hj (by decide)
      · have : num_ = 0 := by omega
        subst this; exact absurd hj (by decide)
      · have : num_ = 0 := by omega
        subst this; exact absurd hj (by decide)
      · have : num_ = 1 ∨ num_ = 2 ∨ num_ = 3 ∨ num_ = 4 ∨ num_ = 5 ∨ num_ = 6 ∨ num_ = 7 ∨ num_ = 8 ∨ num_ = 9 ∨ num_ = 10 ∨ num_ = 11 := by omega
        rcases this with rfl | rfl | rfl | rfl | rfl | rfl | rfl | rfl | rfl | rfl | rfl <;> exact absurd hj (by decide)
    omega
  · obtain ⟨op, a_, b_, c_, num_, text_⟩ := n
    simp only at hop1 hop2 ht hno
    have hx : op = 11 ∨ op = 12 ∨ op = 13 ∨ op = 14 ∨ op = 17 ∨ op = 18 ∨ op = 19 ∨ op = 20 ∨ op = 23 := by omega
    unfold Nd.agg
    rcases hx with rfl | rfl | rfl | rfl | rfl | rfl | rfl | rfl | rfl
    · exact nodeText_11 a_ b_ c_ num_ text_ a b c w ht ha hb hc
    · exact nodeText_12 a_ b_ c_ num_ text_ a b c w ht ha hb hc
    · exact nodeText_13 a_ b_ c_ num_ text_ a b c w ht ha hb hc
    · exact nodeText_14 a_ b_ c_ num_ text_ a b c w ht ha hb hc
    · exact nodeText_17 a_ b_ c_ num_ text_ a b c w ht ha hb hc
    · exact nodeText_18 a_ b_ c_ num_ text_ a b c w ht ha hb hc
    · exact nodeText_19 a_ b_ c_ num_ text_ a b c w ht ha hb hc
    · exact nodeText_20 a_ b_ c_ num_ text_ a b c w ht ha hb hc
    · exact nodeText_23 a_ b_ c_ num_ text_ a b c w ht ha hb hc

end Go.Proofs.YtcolohilnmikiaaDoor
