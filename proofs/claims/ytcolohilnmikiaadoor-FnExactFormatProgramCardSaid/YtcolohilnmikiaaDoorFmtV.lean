/-
  l5Pairs, and what l5Text answers, by how deep they may call.
-/
import Derived.Test.YtcolohilnmikiaaDoorFmtU
import Derived.Test.YtcolohilnmikiaaDoorFmtN
namespace Go.Proofs.YtcolohilnmikiaaDoor
open Go.RowKit
set_option linter.unusedVariables false
set_option linter.unusedSimpArgs false


set_option maxRecDepth 100000 in
set_option maxHeartbeats 2000000 in
theorem l5Pairs_step (b i len x y : Nat) (c_ num_ ox : Int) (text_ t : ByteArray) (QA : ByteArray → Prop) (w : World) (hb : b < w.heap.size) (hiI : (i : Int) < (len : Int)) (hxI : (x : Int) < (len : Int)) (hlen : len ≤ 200) (f0 : w.cell? ⟨b, i * 6, none⟩ = some (.int .i64 17)) (f1 : w.cell? ⟨b, i * 6 + 1, none⟩ = some (.int .i64 x)) (f2 : w.cell? ⟨b, i * 6 + 2, none⟩ = some (.int .i64 y)) (f3 : w.cell? ⟨b, i * 6 + 3, none⟩ = some (.int .i64 c_)) (f4 : w.cell? ⟨b, i * 6 + 4, none⟩ = some (.int .i64 num_)) (f5 : w.cell? ⟨b, i * 6 + 5, none⟩ = some (.string text_)) (m0 : w.cell? ⟨b, x * 6, none⟩ = some (.int .i64 ox)) (ht : text_.size ≤ 60) (htt : t.size ≤ 100000)
    (HIH : Hid (∀ (W : World), Below w.heap.size w W → Calls Tryd.prog 18 #[.slice (some ⟨b, 0, none⟩) len len, .int .i64 y] W fun e w' => e = .returned (.string t) ∧ Below W.heap.size W w'))
    (HPH : Hid (ox ≠ 16 → ∀ (W : World), Below w.heap.size w W → Calls Tryd.prog 37 #[.slice (some ⟨b, 0, none⟩) len len, .int .i64 x] W fun e w' => ∃ P, e = .returned (.string P) ∧ QA P ∧ P.size ≤ 100000 ∧ Below W.heap.size W w')) :
    Calls Tryd.prog 37 #[.slice (some ⟨b, 0, none⟩) len len, .int .i64 i] w fun e w' => (∃ P, e = .returned (.string P) ∧ ((ox = 16 ∧ P = (Tr.qt text_ ++ ⟨#[58]⟩) ++ t) ∨ (ox ≠ 16 ∧ ∃ PA, QA PA ∧ P = (PA ++ ⟨#[44]⟩) ++ ((Tr.qt text_ ++ ⟨#[58]⟩) ++ t)))) ∧ Below w.heap.size w w' := by
  obtain ⟨w0, hw0⟩ : ∃ w0, w0 = w.alloc (.cells #[.int .i64 17, .int .i64 x, .int .i64 y, .int .i64 c_, .int .i64 num_, .string text_] 44) := ⟨_, rfl⟩
  have B0 : Below w.heap.size w w0 := by rw [hw0]; exact (Below.refl _ _).alloc (Nat.le_refl _) _
  have N0 : Own w0 w.heap.size 44 [.int .i64 17, .int .i64 x, .int .i64 y, .int .i64 c_, .int .i64 num_, .string text_] := by rw [hw0]; exact ⟨_, heap_alloc_new _ _, rfl⟩
  have hqs : (Tr.qt text_).size ≤ 122 := by
    show (J.bytes (J.quote text_)).size ≤ 122
    rw [J.bytes_size]; have := J.quote_length text_; omega
  have HQ := hide (fun wq => show Calls Tryd.prog 36 #[.string text_] wq fun e w' => e = .returned (.string (Tr.qt text_)) ∧ w' = wq from l2Quote_any text_ wq ht)
  obtain ⟨q, hq⟩ : ∃ q, q = Tr.qt text_ := ⟨_, rfl⟩
  rw [← hq] at hqs HQ
  have HQE := hide hq
  clear hq
  have z0 : (q ++ (⟨#[58]⟩ : ByteArray)).size ≤ 123 := by simp only [ByteArray.size_append, Tr.sz_mk]; first | omega | (simp; omega)
  have z1 : ((q ++ (⟨#[58]⟩ : ByteArray)) ++ t).size ≤ 100123 := by rw [ByteArray.size_append]; omega
  have c1 := N0.cell 1
  have c2 := N0.cell 2
  have c5 := N0.cell 5
  simp only [List.getElem?_cons_zero, List.getElem?_cons_succ] at c1 c2 c5
  have hwl : w.heap.size < w0.heap.size := N0.lt
  go_enter Tryd.func37, Tryd.ntmps37
  go_wp2_with fail
  rw [← hw0]
  clear hw0 f0 f1 f2 f3 f4 f5
  go_region_with (first | (go_at_call 36; refine ((unhide HQ) _).mono ?_; rintro e w6 ⟨rfl, hw6⟩; subst w6) | (go_at_call 18; refine (HIH.out _ B0.drew).mono ?_; rintro e w7 ⟨rfl, hb7⟩; have e5 := (hb7.cell (by exact hwl)).trans c5))
  all_goals
    have B7 : Below w.heap.size w w7 := B0.trans (((Below.refl w0.heap.size w0).drew.trans hb7).mono B0.size)
    have N7 := N0.drew.below hb7 N0.drew.lt
    have m7 := (B7.cell (by exact hb)).trans m0
    clear c1 c2 c5
    have c1 := N7.cell 1
    simp only [List.getElem?_cons_zero, List.getElem?_cons_succ] at c1
    have hx0 : (0 : Int) ≤ (x : Int) := by omega
    by_cases h16 : ox = 16
    · have g1 : (ox == 16) = true := by simp [h16]
      have fin := hide (show (q ++ (⟨#[58]⟩ : ByteArray)) ++ t = (Tr.qt text_ ++ ⟨#[58]⟩) ++ t by rw [unhide HQE])
      have H16 := hide h16
      clear h16
      go_wp2_with fail
      go_ret
      exact ⟨⟨_, rfl, .inl ⟨unhide H16, unhide fin⟩⟩, B7⟩
    · have g1 : (ox == 16) = false := by simpa using h16
      have HP := hide (HPH.out h16)
      have H16 := hide h16
      clear h16
      go_wp2_with fail
      refine ((unhide HP) _ B7).mono ?_
      rintro e w8 ⟨PA, rfl, hqa, hps, hb8⟩
      have B8 : Below w.heap.size w w8 := B7.trans (hb8.mono B7.size)
      have zz : (PA ++ (⟨#[44]⟩ : ByteArray)).size ≤ 100001 := by simp only [ByteArray.size_append, Tr.sz_mk]; first | omega | (simp; omega)
      have fin := hide (show (PA ++ (⟨#[44]⟩ : ByteArray)) ++ ((q ++ (⟨#[58]⟩ : ByteArray)) ++ t) = (PA ++ ⟨#[44]⟩) ++ ((Tr.qt text_ ++ ⟨#[58]⟩) ++ t) by rw [unhide HQE])
      have HQA := hide hqa
      clear hqa
      go_wp2_with fail
      go_ret
      exact ⟨⟨_, rfl, .inr ⟨unhide H16, PA, unhide HQA, unhide fin⟩⟩, B8⟩

set_option maxRecDepth 100000 in
set_option maxHeartbeats 1000000 in
theorem l5Text_17 (b i len : Nat) (a_ b_ c_ num_ : Int) (text_ : ByteArray) (QP : ByteArray → Prop) (w : World) (hiI : (i : Int) < (len : Int)) (hlen : len ≤ 200) (f0 : w.cell? ⟨b, i * 6, none⟩ = some (.int .i64 17)) (f1 : w.cell? ⟨b, i * 6 + 1, none⟩ = some (.int .i64 a_)) (f2 : w.cell? ⟨b, i * 6 + 2, none⟩ = some (.int .i64 b_)) (f3 : w.cell? ⟨b, i * 6 + 3, none⟩ = some (.int .i64 c_)) (f4 : w.cell? ⟨b, i * 6 + 4, none⟩ = some (.int .i64 num_)) (f5 : w.cell? ⟨b, i * 6 + 5, none⟩ = some (.string text_))
    (HPH : Hid (∀ (W : World), Below w.heap.size w W → Calls Tryd.prog 37 #[.slice (some ⟨b, 0, none⟩) len len, .int .i64 i] W fun e w' => ∃ P, e = .returned (.string P) ∧ QP P ∧ P.size ≤ 100000 ∧ Below W.heap.size W w')) :
    Calls Tryd.prog 18 #[.slice (some ⟨b, 0, none⟩) len len, .int .i64 i] w fun e w' => (∃ P, e = .returned (.string ((⟨#[123]⟩ ++ P) ++ ⟨#[125]⟩)) ∧ QP P) ∧ Below w.heap.size w w' := by
  have HB : Hid (∀ o, Below w.heap.size w (w.alloc o)) := fun o => (Below.refl _ _).alloc (Nat.le_refl _) o
  go_enter Tryd.func18, Tryd.ntmps18
  go_wp2_with fail
  refine (HPH.out _ (HB.out _)).mono ?_
  rintro e w1 ⟨P, rfl, hq, hps, hb1⟩
  have B1 : Below w.heap.size w w1 := (HB.out _).trans (hb1.mono (HB.out _).size)
  have z0 : ((⟨#[123]⟩ : ByteArray) ++ P).size ≤ 100001 := by simp only [ByteArray.size_append, Tr.sz_mk]; first | omega | (simp; omega)
  have HQ := hide hq
  clear hq
  go_wp2_with fail
  go_ret
  exact ⟨⟨P, rfl, unhide HQ⟩, B1⟩

/-- What holds of a tree whose texts are told. -/
structure Told (l : List Nd) : Prop where
  h200 : l.length ≤ 200
  fine : Tr.Fine l
  node : ∀ i, i < l.length → Tr.nodeF l i = 0
  text : ∀ i, i < l.length → (l.getD i Nd.zero).text.size ≤ 60
  size : ∀ i, i < l.length → (Tr.txt l i).size ≤ 40000
def TxtSays (b : Nat) (l : List Nd) (f : Nat) : Prop := ∀ (i : Nat) (w : World), i < l.length → i < f → Nd.Row w b 0 l → b < w.heap.size →
    Calls Tryd.prog 18 #[.slice (some ⟨b, 0, none⟩) l.length l.length, .int .i64 i] w fun e w' => e = .returned (.string (Tr.txt l i)) ∧ Below w.heap.size w w'
def PrsSays (b : Nat) (l : List Nd) (f : Nat) : Prop := ∀ (i : Nat) (w : World), i < l.length → i < f → (l.getD i Nd.zero).op = 17 → Nd.Row w b 0 l → b < w.heap.size →
    Calls Tryd.prog 37 #[.slice (some ⟨b, 0, none⟩) l.length l.length, .int .i64 i] w fun e w' => ∃ P, e = .returned (.string P) ∧ ((⟨#[123]⟩ ++ P) ++ ⟨#[125]⟩ = Tr.txt l i ∧ 0 < P.size) ∧ P.size ≤ 100000 ∧ Below w.heap.size w w'
theorem Told.kids {l : List Nd} (T : Told l) (i : Nat) (hi : i < l.length) : (0 < Tr.kids (l.getD i Nd.zero).op → 0 ≤ (l.getD i Nd.zero).a ∧ (l.getD i Nd.zero).a < i) ∧ (1 < Tr.kids (l.getD i Nd.zero).op → 0 ≤ (l.getD i Nd.zero).b ∧ (l.getD i Nd.zero).b < i) ∧ (2 < Tr.kids (l.getD i Nd.zero).op → 0 ≤ (l.getD i Nd.zero).c ∧ (l.getD i Nd.zero).c < i) := Tr.kid_fine' T.fine i hi
theorem Told.eq {l : List Nd} (T : Told l) (i : Nat) (hi : i < l.length) (a b c : ByteArray) (ha : 0 < Tr.kids (l.getD i Nd.zero).op → a = Tr.txt l (l.getD i Nd.zero).a.toNat) (hb : 1 < Tr.kids (l.getD i Nd.zero).op → b = Tr.txt l (l.getD i Nd.zero).b.toNat) (hc : 2 < Tr.kids (l.getD i Nd.zero).op → c = Tr.txt l (l.getD i Nd.zero).c.toNat) : Tr.nodeT (l.getD i Nd.zero) a b c = Tr.txt l i :=
  Tr.txt_eq T.fine i hi (Tr.node_parts (T.node i hi)).1.1 (Tr.node_parts (T.node i hi)).1.2 a b c ha hb hc

set_option maxHeartbeats 1000000 in
theorem prs_step (b : Nat) (l : List Nd) (f : Nat) (T : Told l) (iht : TxtSays b l f) (ihp : PrsSays b l f) : PrsSays b l (f + 1) := by
  intro i w hi hif hop hrow hb
  have heq := T.eq i hi
  obtain ⟨ka, kb, _⟩ := T.kids i hi
  have hk : Tr.kids (l.getD i Nd.zero).op = 2 := by rw [hop]; decide
  have hm := (Tr.node_parts (T.node i hi)).2.2.2.2.2 hop
  have htx := T.text i hi
  have ha := ka (by omega)
  have hbq := kb (by omega)
  obtain ⟨f0, f1, f2, f3, f4, f5⟩ := hrow i hi
  simp only [Nat.zero_add] at f0 f1 f2 f3 f4 f5
  have hsz := T.size i hi
  generalize hn : l.getD i Nd.zero = n at *
  obtain ⟨x, hx⟩ : ∃ x : Nat, n.a = x := ⟨n.a.toNat, by omega⟩
  obtain ⟨y, hy⟩ : ∃ y : Nat, n.b = y := ⟨n.b.toNat, by omega⟩
  rw [hx] at f1 ha hm
  rw [hy] at f2 hbq
  rw [hop] at f0
  simp only [Int.toNat_natCast] at hm
  obtain ⟨m0, _⟩ := hrow x (by omega)
  simp only [Nat.zero_add] at m0
  have hty := T.size y (by omega)
  have htx2 := T.size x (by omega)
  have hfirst := heq (Tr.txt l x) (Tr.txt l y) ByteArray.empty (fun _ => by rw [hx, Int.toNat_natCast]) (fun _ => by rw [hy, Int.toNat_natCast]) (fun h => by omega)
  have hnt : Tr.nodeT n (Tr.txt l x) (Tr.txt l y) ByteArray.empty = Tr.memT n (Tr.trimB (Tr.txt l x)) (Tr.txt l y) := by
    unfold Tr.nodeT; rw [hop]; rfl
  rw [hnt] at hfirst
  have hleaf : (l.getD x Nd.zero).op = 16 → Tr.txt l x = ⟨#[123, 125]⟩ := fun h => by
    have := T.eq x (by omega) ByteArray.empty ByteArray.empty ByteArray.empty (fun hk => by rw [h] at hk; exact absurd hk (by decide)) (fun hk => by rw [h] at hk; exact absurd hk (by decide)) (fun hk => by rw [h] at hk; exact absurd hk (by decide))
    rw [← this, Tr.nodeT_rest (by rw [h]; decide), h, Tr.jsign_none (by omega)]
    unfold Tr.leafT
    rw [h]; rfl
  refine (l5Pairs_step b i l.length x y n.c n.num (l.getD x Nd.zero).op n.text (Tr.txt l y) (fun P => (⟨#[123]⟩ ++ P) ++ ⟨#[125]⟩ = Tr.txt l x ∧ 0 < P.size) w hb (by omega) (by omega) T.h200 f0 f1 f2 f3 f4 f5 m0 htx (by omega)
    (fun W hW => iht y W (by omega) (by omega) (hrow.below hW hb) (Nat.lt_of_lt_of_le hb hW.size))
    (fun h16 W hW => (ihp x W (by omega) (by omega) (by rcases hm with h | h; exact absurd h h16; exact h) (hrow.below hW hb) (Nat.lt_of_lt_of_le hb hW.size)))).mono ?_
  rintro e w' ⟨⟨P, rfl, hP⟩, hbel⟩
  have key : (⟨#[123]⟩ ++ P) ++ ⟨#[125]⟩ = Tr.txt l i ∧ 0 < P.size := by
    rcases hP with ⟨h16, rfl⟩ | ⟨h16, PA, ⟨hPA, hpos⟩, rfl⟩
    · refine ⟨?_, ?_⟩
      · rw [← hfirst, hleaf h16, Tr.mem_first]
      · rw [ByteArray.size_append, ByteArray.size_append]
        have e : (⟨#[58]⟩ : ByteArray).size = 1 := rfl
        omega
    · refine ⟨?_, ?_⟩
      · rw [← hfirst, ← hPA, Tr.mem_next hpos]
      · rw [ByteArray.size_append, ByteArray.size_append]; omega
  refine ⟨P, rfl, key, ?_, hbel⟩
  have := congrArg ByteArray.size key.1
  rw [ByteArray.size_append, ByteArray.size_append] at this
  omega

set_option maxHeartbeats 2000000 in
theorem txt_step (b : Nat) (l : List Nd) (f : Nat) (T : Told l) (iht : TxtSays b l f) (ihp : PrsSays b l (f + 1)) : TxtSays b l (f + 1) := by
  intro i w hi hif hrow hb
  have heq := T.eq i hi
  obtain ⟨ka, kb, kc⟩ := T.kids i hi
  have hnp := Tr.node_parts (T.node i hi)
  have htx := T.text i hi
  obtain ⟨f0, f1, f2, f3, f4, f5⟩ := hrow i hi
  simp only [Nat.zero_add] at f0 f1 f2 f3 f4 f5
  have hiI : (i : Int) < (l.length : Int) := by omega
  have h200 := T.h200
  have hop : (l.getD i Nd.zero).op = 17 → PrsSays b l (f + 1) := fun _ => ihp
  have hps := ihp i
  have HIH : Hid (∀ (x : Nat) (W : World), x < i → Below w.heap.size w W → Calls Tryd.prog 18 #[.slice (some ⟨b, 0, none⟩) l.length l.length, .int .i64 x] W fun e w' => e = .returned (.string (Tr.txt l x)) ∧ Below W.heap.size W w') := fun x W hx hW => iht x W (by omega) (by omega) (hrow.below hW hb) (Nat.lt_of_lt_of_le hb hW.size)
  have hsz := fun x (hx : x < i) => Nat.le_trans (T.size x (by omega)) (show 40000 ≤ 100000 by omega)
  generalize l.getD i Nd.zero = n at *
  obtain ⟨op, a_, b_, c_, num_, text_⟩ := n
  simp only at heq ka kb kc hnp htx f0 f1 f2 f3 f4 f5 hps
  obtain ⟨⟨o1, o2⟩, _, _, _, ⟨l1, l2⟩, _⟩ := hnp
  have hh : op = 1 ∨ op = 2 ∨ op = 3 ∨ op = 4 ∨ op = 5 ∨ op = 6 ∨ op = 7 ∨ op = 8 ∨ op = 9 ∨ op = 10 ∨ op = 11 ∨ op = 12 ∨ op = 13 ∨ op = 14 ∨ op = 15 ∨ op = 16 ∨ op = 17 ∨ op = 18 ∨ op = 19 ∨ op = 20 ∨ op = 21 ∨ op = 22 ∨ op = 23 ∨ op = 24 := by omega
  rcases hh with rfl | rfl | rfl | rfl | rfl | rfl | rfl | rfl | rfl | rfl | rfl | rfl | rfl | rfl | rfl | rfl | rfl | rfl | rfl | rfl | rfl | rfl | rfl | rfl
  · rw [← heq ByteArray.empty ByteArray.empty ByteArray.empty (fun h => absurd h (by decide)) (fun h => absurd h (by decide)) (fun h => absurd h (by decide))]
    exact l5Text_1 b i l.length a_ b_ c_ num_ text_ w hiI h200 f0 f1 f2 f3 f4 f5 htx
  · rw [← heq ByteArray.empty ByteArray.empty ByteArray.empty (fun h => absurd h (by decide)) (fun h => absurd h (by decide)) (fun h => absurd h (by decide))]
    exact l5Text_2 b i l.length a_ b_ c_ num_ text_ w hiI h200 f0 f1 f2 f3 f4 f5 htx l1 l2
  · rw [← heq ByteArray.empty ByteArray.empty ByteArray.empty (fun h => absurd h (by decide)) (fun h => absurd h (by decide)) (fun h => absurd h (by decide))]
    exact l5Text_3 b i l.length a_ b_ c_ num_ text_ w hiI h200 f0 f1 f2 f3 f4 f5 htx
  · rw [← heq ByteArray.empty ByteArray.empty ByteArray.empty (fun h => absurd h (by decide)) (fun h => absurd h (by decide)) (fun h => absurd h (by decide))]
    have l1' : (0 : Int) ≤ num_ := l1
    have l2' : num_ ≤ 2 := l2
    have hn : num_ = 0 ∨ num_ = 1 ∨ num_ = 2 := by omega
    rcases hn with rfl | rfl | rfl
    · exact l5Text_4_0 b i l.length a_ b_ c_ text_ w hiI h200 f0 f1 f2 f3 f4 f5 htx
    · exact l5Text_4_1 b i l.length a_ b_ c_ text_ w hiI h200 f0 f1 f2 f3 f4 f5 htx
    · exact l5Text_4_2 b i l.length a_ b_ c_ text_ w hiI h200 f0 f1 f2 f3 f4 f5 htx
  · skip
    have qa := ka (by decide)
    obtain ⟨x, hx⟩ : ∃ x : Nat, a_ = x := ⟨a_.toNat, by omega⟩
    subst hx
    have qb := kb (by decide)
    obtain ⟨y, hy⟩ : ∃ y : Nat, b_ = y := ⟨b_.toNat, by omega⟩
    subst hy
    rw [← heq (Tr.txt l x) (Tr.txt l y) ByteArray.empty (fun _ => by rw [Int.toNat_natCast]) (fun _ => by rw [Int.toNat_natCast]) (fun h => absurd h (by decide))]
    have l1' : (0 : Int) ≤ num_ := l1
    have l2' : num_ ≤ 0 := l2
    have hn : num_ = 0 := by omega
    subst hn
    rw [show Tr.nodeT ⟨5, x, y, c_, 0, text_⟩ (Tr.txt l x) (Tr.txt l y) ByteArray.empty = Tr.joinT (Tr.txt l x) ⟨#[124]⟩ (Tr.txt l y) from rfl, ← Tr.join_lit (t := ⟨#[32, 124, 32]⟩) rfl]
    exact l5Text_5 b i l.length x y c_ 0 text_ (Tr.txt l) w hiI h200 f0 f1 f2 f3 f4 f5 htx HIH (by omega) (hsz x (by omega)) (by omega) (hsz y (by omega))
  · skip
    have qa := ka (by decide)
    obtain ⟨x, hx⟩ : ∃ x : Nat, a_ = x := ⟨a_.toNat, by omega⟩
    subst hx
    have qb := kb (by decide)
    obtain ⟨y, hy⟩ : ∃ y : Nat, b_ = y := ⟨b_.toNat, by omega⟩
    subst hy
    rw [← heq (Tr.txt l x) (Tr.txt l y) ByteArray.empty (fun _ => by rw [Int.toNat_natCast]) (fun _ => by rw [Int.toNat_natCast]) (fun h => absurd h (by decide))]
    have l1' : (0 : Int) ≤ num_ := l1
    have l2' : num_ ≤ 0 := l2
    have hn : num_ = 0 := by omega
    subst hn
    rw [show Tr.nodeT ⟨6, x, y, c_, 0, text_⟩ (Tr.txt l x) (Tr.txt l y) ByteArray.empty = Tr.joinT (Tr.txt l x) ⟨#[44]⟩ (Tr.txt l y) from rfl, ← Tr.join_lit (t := ⟨#[32, 44, 32]⟩) rfl]
    exact l5Text_6 b i l.length x y c_ 0 text_ (Tr.txt l) w hiI h200 f0 f1 f2 f3 f4 f5 htx HIH (by omega) (hsz x (by omega)) (by omega) (hsz y (by omega))
  · skip
    have qa := ka (by decide)
    obtain ⟨x, hx⟩ : ∃ x : Nat, a_ = x := ⟨a_.toNat, by omega⟩
    subst hx
    have qb := kb (by decide)
    obtain ⟨y, hy⟩ : ∃ y : Nat, b_ = y := ⟨b_.toNat, by omega⟩
    subst hy
    rw [← heq (Tr.txt l x) (Tr.txt l y) ByteArray.empty (fun _ => by rw [Int.toNat_natCast]) (fun _ => by rw [Int.toNat_natCast]) (fun h => absurd h (by decide))]
    have l1' : (0 : Int) ≤ num_ := l1
    have l2' : num_ ≤ 0 := l2
    have hn : num_ = 0 := by omega
    subst hn
    rw [show Tr.nodeT ⟨7, x, y, c_, 0, text_⟩ (Tr.txt l x) (Tr.txt l y) ByteArray.empty = Tr.joinT (Tr.txt l x) ⟨#[47, 47]⟩ (Tr.txt l y) from rfl, ← Tr.join_lit (t := ⟨#[32, 47, 47, 32]⟩) rfl]
    exact l5Text_7 b i l.length x y c_ 0 text_ (Tr.txt l) w hiI h200 f0 f1 f2 f3 f4 f5 htx HIH (by omega) (hsz x (by omega)) (by omega) (hsz y (by omega))
  · skip
    have qa := ka (by decide)
    obtain ⟨x, hx⟩ : ∃ x : Nat, a_ = x := ⟨a_.toNat, by omega⟩
    subst hx
    have qb := kb (by decide)
    obtain ⟨y, hy⟩ : ∃ y : Nat, b_ = y := ⟨b_.toNat, by omega⟩
    subst hy
    rw [← heq (Tr.txt l x) (Tr.txt l y) ByteArray.empty (fun _ => by rw [Int.toNat_natCast]) (fun _ => by rw [Int.toNat_natCast]) (fun h => absurd h (by decide))]
    have l1' : (0 : Int) ≤ num_ := l1
    have l2' : num_ ≤ 0 := l2
    have hn : num_ = 0 := by omega
    subst hn
    rw [show Tr.nodeT ⟨8, x, y, c_, 0, text_⟩ (Tr.txt l x) (Tr.txt l y) ByteArray.empty = Tr.joinT (Tr.txt l x) ⟨#[111, 114]⟩ (Tr.txt l y) from rfl, ← Tr.join_lit (t := ⟨#[32, 111, 114, 32]⟩) rfl]
    exact l5Text_8 b i l.length x y c_ 0 text_ (Tr.txt l) w hiI h200 f0 f1 f2 f3 f4 f5 htx HIH (by omega) (hsz x (by omega)) (by omega) (hsz y (by omega))
  · skip
    have qa := ka (by decide)
    obtain ⟨x, hx⟩ : ∃ x : Nat, a_ = x := ⟨a_.toNat, by omega⟩
    subst hx
    have qb := kb (by decide)
    obtain ⟨y, hy⟩ : ∃ y : Nat, b_ = y := ⟨b_.toNat, by omega⟩
    subst hy
    rw [← heq (Tr.txt l x) (Tr.txt l y) ByteArray.empty (fun _ => by rw [Int.toNat_natCast]) (fun _ => by rw [Int.toNat_natCast]) (fun h => absurd h (by decide))]
    have l1' : (0 : Int) ≤ num_ := l1
    have l2' : num_ ≤ 0 := l2
    have hn : num_ = 0 := by omega
    subst hn
    rw [show Tr.nodeT ⟨9, x, y, c_, 0, text_⟩ (Tr.txt l x) (Tr.txt l y) ByteArray.empty = Tr.joinT (Tr.txt l x) ⟨#[97, 110, 100]⟩ (Tr.txt l y) from rfl, ← Tr.join_lit (t := ⟨#[32, 97, 110, 100, 32]⟩) rfl]
    exact l5Text_9 b i l.length x y c_ 0 text_ (Tr.txt l) w hiI h200 f0 f1 f2 f3 f4 f5 htx HIH (by omega) (hsz x (by omega)) (by omega) (hsz y (by omega))
  · skip
    have qa := ka (by decide)
    obtain ⟨x, hx⟩ : ∃ x : Nat, a_ = x := ⟨a_.toNat, by omega⟩
    subst hx
    have qb := kb (by decide)
    obtain ⟨y, hy⟩ : ∃ y : Nat, b_ = y := ⟨b_.toNat, by omega⟩
    subst hy
    rw [← heq (Tr.txt l x) (Tr.txt l y) ByteArray.empty (fun _ => by rw [Int.toNat_natCast]) (fun _ => by rw [Int.toNat_natCast]) (fun h => absurd h (by decide))]
    have l1' : (1 : Int) ≤ num_ := l1
    have l2' : num_ ≤ 11 := l2
    obtain ⟨m, hm⟩ : ∃ m : Nat, num_ = m := ⟨num_.toNat, by omega⟩
    subst hm
    have hmm : m = 1 ∨ m = 2 ∨ m = 3 ∨ m = 4 ∨ m = 5 ∨ m = 6 ∨ m = 7 ∨ m = 8 ∨ m = 9 ∨ m = 10 ∨ m = 11 := by omega
    have hj : Tr.nodeT ⟨10, x, y, c_, m, text_⟩ (Tr.txt l x) (Tr.txt l y) ByteArray.empty = Tr.joinT (Tr.txt l x) (Tr.marksT.getD m ByteArray.empty) (Tr.txt l y) := by
      rcases hmm with rfl | rfl | rfl | rfl | rfl | rfl | rfl | rfl | rfl | rfl | rfl <;> rfl
    have sm : (Tr.marksT.getD m ByteArray.empty).size ≤ 3 := by
      rcases hmm with rfl | rfl | rfl | rfl | rfl | rfl | rfl | rfl | rfl | rfl | rfl <;> decide
    rw [hj]
    exact l5Text_10 b i l.length x y m c_ text_ (Tr.txt l) w hiI h200 f0 f1 f2 f3 f4 f5 htx HIH (by omega) (hsz x (by omega)) (by omega) (hsz y (by omega)) (by omega) sm
  · skip
    have qa := ka (by decide)
    obtain ⟨x, hx⟩ : ∃ x : Nat, a_ = x := ⟨a_.toNat, by omega⟩
    subst hx
    have qb := kb (by decide)
    obtain ⟨y, hy⟩ : ∃ y : Nat, b_ = y := ⟨b_.toNat, by omega⟩
    subst hy
    rw [← heq (Tr.txt l x) (Tr.txt l y) ByteArray.empty (fun _ => by rw [Int.toNat_natCast]) (fun _ => by rw [Int.toNat_natCast]) (fun h => absurd h (by decide))]
    exact l5Text_11 b i l.length x y c_ num_ text_ (Tr.txt l) w hiI h200 f0 f1 f2 f3 f4 f5 htx HIH (by omega) (hsz x (by omega)) (by omega) (hsz y (by omega))
  · skip
    have qa := ka (by decide)
    obtain ⟨x, hx⟩ : ∃ x : Nat, a_ = x := ⟨a_.toNat, by omega⟩
    subst hx
    rw [← heq (Tr.txt l x) ByteArray.empty ByteArray.empty (fun _ => by rw [Int.toNat_natCast]) (fun h => absurd h (by decide)) (fun h => absurd h (by decide))]
    exact l5Text_12 b i l.length x b_ c_ num_ text_ (Tr.txt l) w hiI h200 f0 f1 f2 f3 f4 f5 htx HIH (by omega) (hsz x (by omega))
  · skip
    have qa := ka (by decide)
    obtain ⟨x, hx⟩ : ∃ x : Nat, a_ = x := ⟨a_.toNat, by omega⟩
    subst hx
    rw [← heq (Tr.txt l x) ByteArray.empty ByteArray.empty (fun _ => by rw [Int.toNat_natCast]) (fun h => absurd h (by decide)) (fun h => absurd h (by decide))]
    exact l5Text_13 b i l.length x b_ c_ num_ text_ (Tr.txt l) w hiI h200 f0 f1 f2 f3 f4 f5 htx HIH (by omega) (hsz x (by omega))
  · skip
    have qa := ka (by decide)
    obtain ⟨x, hx⟩ : ∃ x : Nat, a_ = x := ⟨a_.toNat, by omega⟩
    subst hx
    rw [← heq (Tr.txt l x) ByteArray.empty ByteArray.empty (fun _ => by rw [Int.toNat_natCast]) (fun h => absurd h (by decide)) (fun h => absurd h (by decide))]
    exact l5Text_14 b i l.length x b_ c_ num_ text_ (Tr.txt l) w hiI h200 f0 f1 f2 f3 f4 f5 htx HIH (by omega) (hsz x (by omega))
  · rw [← heq ByteArray.empty ByteArray.empty ByteArray.empty (fun h => absurd h (by decide)) (fun h => absurd h (by decide)) (fun h => absurd h (by decide))]
    exact l5Text_15 b i l.length a_ b_ c_ num_ text_ w hiI h200 f0 f1 f2 f3 f4 f5 htx
  · rw [← heq ByteArray.empty ByteArray.empty ByteArray.empty (fun h => absurd h (by decide)) (fun h => absurd h (by decide)) (fun h => absurd h (by decide))]
    exact l5Text_16 b i l.length a_ b_ c_ num_ text_ w hiI h200 f0 f1 f2 f3 f4 f5 htx
  · refine (l5Text_17 b i l.length a_ b_ c_ num_ text_ (fun P => (⟨#[123]⟩ ++ P) ++ ⟨#[125]⟩ = Tr.txt l i ∧ 0 < P.size) w hiI h200 f0 f1 f2 f3 f4 f5 (fun W hW => hps W hi hif rfl (hrow.below hW hb) (Nat.lt_of_lt_of_le hb hW.size))).mono ?_
    rintro e w' ⟨⟨P, rfl, hP, _⟩, hbel⟩
    exact ⟨by rw [hP], hbel⟩
  · skip
    have qa := ka (by decide)
    obtain ⟨x, hx⟩ : ∃ x : Nat, a_ = x := ⟨a_.toNat, by omega⟩
    subst hx
    have qb := kb (by decide)
    obtain ⟨y, hy⟩ : ∃ y : Nat, b_ = y := ⟨b_.toNat, by omega⟩
    subst hy
    have qc := kc (by decide)
    obtain ⟨z, hz⟩ : ∃ z : Nat, c_ = z := ⟨c_.toNat, by omega⟩
    subst hz
    rw [← heq (Tr.txt l x) (Tr.txt l y) (Tr.txt l z) (fun _ => by rw [Int.toNat_natCast]) (fun _ => by rw [Int.toNat_natCast]) (fun _ => by rw [Int.toNat_natCast])]
    exact l5Text_18 b i l.length x y z  num_ text_ (Tr.txt l) w hiI h200 f0 f1 f2 f3 f4 f5 htx HIH (by omega) (hsz x (by omega)) (by omega) (hsz y (by omega)) (by omega) (hsz z (by omega))
  · skip
    have qa := ka (by decide)
    obtain ⟨x, hx⟩ : ∃ x : Nat, a_ = x := ⟨a_.toNat, by omega⟩
    subst hx
    have qb := kb (by decide)
    obtain ⟨y, hy⟩ : ∃ y : Nat, b_ = y := ⟨b_.toNat, by omega⟩
    subst hy
    have qc := kc (by decide)
    obtain ⟨z, hz⟩ : ∃ z : Nat, c_ = z := ⟨c_.toNat, by omega⟩
    subst hz
    rw [← heq (Tr.txt l x) (Tr.txt l y) (Tr.txt l z) (fun _ => by rw [Int.toNat_natCast]) (fun _ => by rw [Int.toNat_natCast]) (fun _ => by rw [Int.toNat_natCast])]
    exact l5Text_19 b i l.length x y z  num_ text_ (Tr.txt l) w hiI h200 f0 f1 f2 f3 f4 f5 htx HIH (by omega) (hsz x (by omega)) (by omega) (hsz y (by omega)) (by omega) (hsz z (by omega))
  · skip
    have qa := ka (by decide)
    obtain ⟨x, hx⟩ : ∃ x : Nat, a_ = x := ⟨a_.toNat, by omega⟩
    subst hx
    have qb := kb (by decide)
    obtain ⟨y, hy⟩ : ∃ y : Nat, b_ = y := ⟨b_.toNat, by omega⟩
    subst hy
    rw [← heq (Tr.txt l x) (Tr.txt l y) ByteArray.empty (fun _ => by rw [Int.toNat_natCast]) (fun _ => by rw [Int.toNat_natCast]) (fun h => absurd h (by decide))]
    exact l5Text_20 b i l.length x y c_ num_ text_ (Tr.txt l) w hiI h200 f0 f1 f2 f3 f4 f5 htx HIH (by omega) (hsz x (by omega)) (by omega) (hsz y (by omega))
  · rw [← heq ByteArray.empty ByteArray.empty ByteArray.empty (fun h => absurd h (by decide)) (fun h => absurd h (by decide)) (fun h => absurd h (by decide))]
    exact l5Text_21 b i l.length a_ b_ c_ num_ text_ w hiI h200 f0 f1 f2 f3 f4 f5 htx
  · rw [← heq ByteArray.empty ByteArray.empty ByteArray.empty (fun h => absurd h (by decide)) (fun h => absurd h (by decide)) (fun h => absurd h (by decide))]
    exact l5Text_22 b i l.length a_ b_ c_ num_ text_ w hiI h200 f0 f1 f2 f3 f4 f5 htx
  · skip
    have qa := ka (by decide)
    obtain ⟨x, hx⟩ : ∃ x : Nat, a_ = x := ⟨a_.toNat, by omega⟩
    subst hx
    rw [← heq (Tr.txt l x) ByteArray.empty ByteArray.empty (fun _ => by rw [Int.toNat_natCast]) (fun h => absurd h (by decide)) (fun h => absurd h (by decide))]
    exact l5Text_23 b i l.length x b_ c_ num_ text_ (Tr.txt l) w hiI h200 f0 f1 f2 f3 f4 f5 htx HIH (by omega) (hsz x (by omega))
  · rw [← heq ByteArray.empty ByteArray.empty ByteArray.empty (fun h => absurd h (by decide)) (fun h => absurd h (by decide)) (fun h => absurd h (by decide))]
    exact l5Text_24 b i l.length a_ b_ c_ num_ text_ w hiI h200 f0 f1 f2 f3 f4 f5 htx

theorem both_say (b : Nat) (l : List Nd) (T : Told l) (f : Nat) : TxtSays b l f ∧ PrsSays b l f := by
  induction f with
  | zero => exact ⟨fun i w hi hif => by omega, fun i w hi hif => by omega⟩
  | succ f ih =>
    have hp := prs_step b l f T ih.1 ih.2
    exact ⟨txt_step b l f T ih.1 hp, hp⟩

end Go.Proofs.YtcolohilnmikiaaDoor
