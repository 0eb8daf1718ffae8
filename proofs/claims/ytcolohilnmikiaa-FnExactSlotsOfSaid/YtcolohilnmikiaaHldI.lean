/-
  impl.isHeld, with the question that isBound asks.
-/
import Derived.Test.YtcolohilnmikiaaScoM
import Derived.Test.YtcolohilnmikiaaTreI
import Derived.Deep.QuietTactic
import Derived.BigQuiet
namespace Go.Proofs.Ytcolohilnmikiaa
open Go.RowKit
set_option linter.unusedVariables false
set_option linter.unusedSimpArgs false


set_option maxRecDepth 100000 in
set_option maxHeartbeats 2000000 in
theorem isHeld_tree (g k1 k2 : Nat) (l : List Nd) (t : ByteArray) (xs : List Value) (i : Nat) (w : World) (hown : Own w g 2 xs) (hh : Tr.Holds l xs (Tr.hold l)) (hi : i < l.length) (h1000 : l.length ≤ 1000) (hf : Tr.Fine l)
    (hc : ∀ (o x : Nat) (W : World), o < l.length → x < l.length → Below w.heap.size w W → Calls Try.prog 108 #[.int .i64 o, .int .i64 x, .pointer (some ⟨k1, 0, none⟩), .pointer (some ⟨k2, 0, none⟩)] W fun e w' => e = .returned (.bool (Tr.binds (l.getD o Nd.zero) x && ((l.getD o Nd.zero).text.toList == t.toList))) ∧ Below W.heap.size W w') :
    Calls Try.prog 107 #[.slice (some ⟨g, 0, none⟩) l.length l.length, .int .i64 i, .func (.func 108) #[] #[.pointer (some ⟨k1, 0, none⟩), .pointer (some ⟨k2, 0, none⟩)]] w fun e w' => e = .returned (.bool (Tr.bound l i t)) ∧ Below w.heap.size w w' := by
  have hiI : (i : Int) < (l.length : Int) := by omega
  have HH := hide hh
  have HF := hide hf
  have HC := hide hc
  have hgl := hown.lt
  have c0 := (hown.cell i).trans (hh.2 i hi)
  clear hh hf hc
  go_enter Try.func107, Try.ntmps107
  go_wp2_with fail
  go_loopg [7, 8] l.length (fun gh s7 s8 wr => ∃ x : Nat, Hid (l.length - x ≤ gh) ∧ x < l.length ∧ s7 = .int .i64 x ∧ s8 = .int .i64 (Tr.hold l x) ∧ Hid (Tr.bound l i t = Tr.bound l x t) ∧ Below w.heap.size w wr)
  case atStart => exact ⟨i, by (show _ ≤ _; omega), hi, rfl, rfl, rfl, Below.refl _ _⟩
  case round =>
    obtain ⟨x, hg, hx, rfl, rfl, hbd, hbel⟩ := hrel
    have hst := hide (Tr.bound_step (unhide HF) x hx t)
    have hup := Tr.hold_up (unhide HF) x hx
    by_cases hneg : Tr.hold l x < 0
    · have fin := hide (show Tr.bound l i t = false by rw [hbd.out, unhide hst, if_pos hneg])
      generalize Tr.hold l x = o at *
      have g1 : ¬ o ≥ 0 := by omega
      clear hup hneg hst
      go_wp2_with fail
      go_ret
      exact ⟨ret_bool (unhide fin).symm, hbel⟩
    · obtain ⟨o, ho⟩ : ∃ o : Nat, Tr.hold l x = o := ⟨(Tr.hold l x).toNat, by omega⟩
      rw [ho] at hst hup hneg ⊢
      rw [if_neg hneg] at hst
      simp only [Int.toNat_natCast] at hst
      have hol : o < l.length := by omega
      have hxo : x < o := by omega
      have hoI : (o : Int) < (l.length : Int) := by omega
      have ho0 : (0 : Int) ≤ (o : Int) := by omega
      have HQ := hide ((unhide HC) o x wr hol hx hbel)
      have hnext : Hid (((Tr.binds (l.getD o Nd.zero) x && ((l.getD o Nd.zero).text.toList == t.toList)) = true → Tr.bound l i t = true) ∧ ((Tr.binds (l.getD o Nd.zero) x && ((l.getD o Nd.zero).text.toList == t.toList)) = false → Tr.bound l i t = Tr.bound l o t)) := by
        refine ⟨fun h => ?_, fun h => ?_⟩
        · rw [hbd.out, unhide hst, if_pos h]
        · rw [hbd.out, unhide hst, if_neg (by rw [h]; decide)]
      clear hst hbd hneg ho hup
      generalize (Tr.binds (l.getD o Nd.zero) x && ((l.getD o Nd.zero).text.toList == t.toList)) = q at HQ hnext
      have c1 := fun W (hW : Below w.heap.size w W) => (((hown.below hW hgl).cell o)).trans ((unhide HH).2 o hol)
      have C1 := hide c1
      clear c1
      go_wp2_with fail
      refine (unhide HQ).mono ?_
      rintro e w2 ⟨rfl, hb2⟩
      have B2 : Below w.heap.size w w2 := hbel.trans (hb2.mono hbel.size)
      have c2 := (unhide C1) w2 B2
      clear HQ C1 hb2
      cases q with
      | true =>
        have fin := hide (hnext.out.1 rfl)
        clear hnext
        go_wp2_with fail
        go_ret
        exact ⟨ret_bool (unhide fin).symm, B2⟩
      | false =>
        have fin := hide (hnext.out.2 rfl)
        clear hnext
        go_wp2_with fail
        go_roundg (l.length - o)
        case rel => exact ⟨o, Nat.le_refl _, by omega, rfl, rfl, unhide fin, B2⟩
        case measure => have := hg.out; omega

set_option maxRecDepth 100000 in
set_option maxHeartbeats 2000000 in
theorem boundAsk_any (b k1 k2 : Nat) (l : List Nd) (i o x : Nat) (w : World) (hrow : Nd.Row w b 0 l) (hb : b < w.heap.size) (h1 : w.cell? ⟨k1, 0, none⟩ = some (.slice (some ⟨b, 0, none⟩) l.length l.length)) (h2 : w.cell? ⟨k2, 0, none⟩ = some (.int .i64 i)) (hk1 : k1 < w.heap.size) (hk2 : k2 < w.heap.size) (hi : i < l.length) (ho : o < l.length) (hx : x < l.length) (h1000 : l.length ≤ 1000) :
    Calls Try.prog 108 #[.int .i64 o, .int .i64 x, .pointer (some ⟨k1, 0, none⟩), .pointer (some ⟨k2, 0, none⟩)] w fun e w' => e = .returned (.bool (Tr.binds (l.getD o Nd.zero) x && ((l.getD o Nd.zero).text.toList == (l.getD i Nd.zero).text.toList))) ∧ Below w.heap.size w w' := by
  obtain ⟨f0, f1, f2, f3, f4, f5⟩ := hrow o ho
  have ft := (hrow i hi).2.2.2.2.2
  simp only [Nat.zero_add] at f0 f1 f2 f3 f4 f5 ft
  have hoI : (o : Int) < (l.length : Int) := by omega
  have hiI : (i : Int) < (l.length : Int) := by omega
  have hbne : b ≠ w.heap.size := by omega
  have hk1n : k1 ≠ w.heap.size := by omega
  have hk2n : k2 ≠ w.heap.size := by omega
  have HB : Hid (∀ q, Below w.heap.size w (w.alloc q)) := fun q => (Below.refl _ _).alloc (Nat.le_refl _) q
  have h1a : ∀ q, (w.alloc q).cell? ⟨k1, 0, none⟩ = some (.slice (some ⟨b, 0, none⟩) l.length l.length) := fun q => ((HB.out q).cell hk1).trans h1
  have h2a : ∀ q, (w.alloc q).cell? ⟨k2, 0, none⟩ = some (.int .i64 i) := fun q => ((HB.out q).cell hk2).trans h2
  have fta : ∀ q, (w.alloc q).cell? ⟨b, i * 6 + 5, none⟩ = some (.string (l.getD i Nd.zero).text) := fun q => ((HB.out q).cell hb).trans ft
  clear hrow ft
  generalize (l.getD i Nd.zero).text = t at *
  generalize l.getD o Nd.zero = n at *
  have hbs : Hid (Tr.binds n x = ((n.op == 20 && n.b == (x : Int)) || (n.op == 19 && n.c == (x : Int)))) := rfl
  by_cases h20 : n.op = 20
  · have g20 : (n.op == 20) = true := by simp [h20]
    have g19 : (n.op == 19) = false := by simp [h20]
    clear h20
    cases gb : (n.b == (x : Int)) with
    | true =>
      cases gt : (n.text.toList == t.toList) with
      | true =>
        have fin := hide (show (Tr.binds n x && true) = true by rw [hbs.out]; simp [g20, g19, gb])
        clear hbs
        go_enter Try.func108, Try.ntmps108
        go_wp2_with fail
        go_quiet (fail)
        go_wp2_with fail
        go_ret
        exact ⟨ret_bool (unhide fin).symm, below_drewN (HB.out _) _⟩
      | false =>
        have fin := hide (show (Tr.binds n x && false) = false by simp)
        clear hbs
        go_enter Try.func108, Try.ntmps108
        go_wp2_with fail
        go_quiet (fail)
        go_wp2_with fail
        go_ret
        exact ⟨ret_bool (unhide fin).symm, below_drewN (HB.out _) _⟩
    | false =>
      have fin := hide (show (Tr.binds n x && (n.text.toList == t.toList)) = false by rw [hbs.out]; simp [g20, g19, gb])
      clear hbs
      go_enter Try.func108, Try.ntmps108
      go_wp2_with fail
      go_quiet (fail)
      go_wp2_with fail
      go_ret
      exact ⟨ret_bool (unhide fin).symm, below_drewN (HB.out _) _⟩
  · have g20 : (n.op == 20) = false := by simpa using h20
    by_cases h19 : n.op = 19
    · have g19 : (n.op == 19) = true := by simp [h19]
      clear h20 h19
      cases gc : (n.c == (x : Int)) with
      | true =>
        cases gt : (n.text.toList == t.toList) with
        | true =>
          have fin := hide (show (Tr.binds n x && true) = true by rw [hbs.out]; simp [g20, g19, gc])
          clear hbs
          go_enter Try.func108, Try.ntmps108
          go_wp2_with fail
          go_quiet (fail)
          go_wp2_with fail
          go_ret
          exact ⟨ret_bool (unhide fin).symm, below_drewN (HB.out _) _⟩
        | false =>
          have fin := hide (show (Tr.binds n x && false) = false by simp)
          clear hbs
          go_enter Try.func108, Try.ntmps108
          go_wp2_with fail
          go_quiet (fail)
          go_wp2_with fail
          go_ret
          exact ⟨ret_bool (unhide fin).symm, below_drewN (HB.out _) _⟩
      | false =>
        have fin := hide (show (Tr.binds n x && (n.text.toList == t.toList)) = false by rw [hbs.out]; simp [g20, g19, gc])
        clear hbs
        go_enter Try.func108, Try.ntmps108
        go_wp2_with fail
        go_quiet (fail)
        go_wp2_with fail
        go_ret
        exact ⟨ret_bool (unhide fin).symm, below_drewN (HB.out _) _⟩
    · have g19 : (n.op == 19) = false := by simpa using h19
      clear h20 h19
      have fin := hide (show (Tr.binds n x && (n.text.toList == t.toList)) = false by rw [hbs.out]; simp [g20, g19])
      clear hbs
      go_enter Try.func108, Try.ntmps108
      go_wp2_with fail
      go_quiet (fail)
      go_wp2_with fail
      go_ret
      exact ⟨ret_bool (unhide fin).symm, below_drewN (HB.out _) _⟩

set_option maxRecDepth 100000 in
set_option maxHeartbeats 2000000 in
theorem isBound_any (b g : Nat) (l : List Nd) (xs : List Value) (i : Nat) (w : World) (hrow : Nd.Row w b 0 l) (hb : b < w.heap.size) (hown : Own w g 2 xs) (hh : Tr.Holds l xs (Tr.hold l)) (hi : i < l.length) (h200 : l.length ≤ 200) (hf : Tr.Fine l) :
    Calls Try.prog 61 #[.slice (some ⟨b, 0, none⟩) l.length l.length, .slice (some ⟨g, 0, none⟩) l.length l.length, .int .i64 i] w fun e w' => e = .returned (.bool (Tr.bound l i (l.getD i Nd.zero).text)) ∧ Below w.heap.size w w' := by
  obtain ⟨w2, hw2⟩ : ∃ w2, w2 = (w.alloc (.cells #[.slice (some ⟨b, 0, none⟩) l.length l.length] 25)).alloc (.cells #[.int .i64 i] 3) := ⟨_, rfl⟩
  have B2 : Below w.heap.size w w2 := by rw [hw2]; exact ((Below.refl _ _).alloc (Nat.le_refl _) _).alloc (by simp) _
  have O1 : Own w2 w.heap.size 25 [.slice (some ⟨b, 0, none⟩) l.length l.length] := by rw [hw2]; exact Own.alloc ⟨_, heap_alloc_new _ _, rfl⟩ _
  have O2 : Own w2 (w.heap.size + 1) 3 [.int .i64 i] := by rw [hw2]; exact ⟨_, by simpa using heap_alloc_new (w.alloc (.cells #[.slice (some ⟨b, 0, none⟩) l.length l.length] 25)) (.cells #[.int .i64 i] 3), rfl⟩
  have HQ := hide (isHeld_tree g w.heap.size (w.heap.size + 1) l (l.getD i Nd.zero).text xs i w2 (hown.below B2 hown.lt) hh hi (by omega) hf (fun o x W ho hx hW =>
    boundAsk_any b w.heap.size (w.heap.size + 1) l i o x W (hrow.below (B2.trans (hW.mono B2.size)) hb) (Nat.lt_of_lt_of_le hb (Nat.le_trans B2.size hW.size)) ((O1.below hW O1.lt).cell 0) ((O2.below hW O2.lt).cell 0) (Nat.lt_of_lt_of_le O1.lt hW.size) (Nat.lt_of_lt_of_le O2.lt hW.size) hi ho hx (by omega)))
  clear hrow hown hh hf O1 O2
  generalize Tr.bound l i (l.getD i Nd.zero).text = q at *
  go_enter Try.func61, Try.ntmps61
  go_wp2_with fail
  rw [← hw2]
  refine (unhide HQ).mono ?_
  rintro e w3 ⟨rfl, hb3⟩
  have B3 : Below w.heap.size w w3 := B2.trans (hb3.mono B2.size)
  clear hb3 HQ hw2
  go_wp2_with fail
  go_ret
  exact ⟨rfl, B3⟩

end Go.Proofs.Ytcolohilnmikiaa
