/-
  impl.isHeld, with the question that isBound asks.
  ScopeFault, the program's side: holderPlaces, isBound, isKnownCall.
-/
import Derived.Test.YtmbefapdckhjdaaScoM
import Derived.Test.YtmbefapdckhjdaaTreI
import Derived.Deep.QuietTactic
import Derived.BigQuiet
namespace Go.Proofs.Ytmbefapdckhjdaa
open Go.RowKit
set_option linter.unusedVariables false
set_option linter.unusedSimpArgs false


set_option maxRecDepth 100000 in
set_option maxHeartbeats 2000000 in
theorem isHeld_tree (g k1 k2 : Nat) (l : List Nd) (t : ByteArray) (xs : List Value) (i : Nat) (w : World) (hown : Own w g 2 xs) (hh : Tr.Holds l xs (Tr.hold l)) (hi : i < l.length) (h1000 : l.length ≤ 1000) (hf : Tr.Fine l)
    (hc : ∀ (o x : Nat) (W : World), o < l.length → x < l.length → Below w.heap.size w W → Calls Try.prog 82 #[.int .i64 o, .int .i64 x, .pointer (some ⟨k1, 0, none⟩), .pointer (some ⟨k2, 0, none⟩)] W fun e w' => e = .returned (.bool (Tr.binds (l.getD o Nd.zero) x && ((l.getD o Nd.zero).text.toList == t.toList))) ∧ Below W.heap.size W w') :
    Calls Try.prog 81 #[.slice (some ⟨g, 0, none⟩) l.length l.length, .int .i64 i, .func (.func 82) #[] #[.pointer (some ⟨k1, 0, none⟩), .pointer (some ⟨k2, 0, none⟩)]] w fun e w' => e = .returned (.bool (Tr.bound l i t)) ∧ Below w.heap.size w w' := by
  have hiI : (i : Int) < (l.length : Int) := by omega
  have HH := hide hh
  have HF := hide hf
  have HC := hide hc
  have hgl := hown.lt
  have c0 := (hown.cell i).trans (hh.2 i hi)
  clear hh hf hc
  go_enter Try.func81, Try.ntmps81
  go_wp2_with fail
  go_loopg [7, 8] l.length (fun gh s7 s8 wr => ∃ x : Nat, Hid (l.length - x ≤ gh) ∧ x < l.length ∧ s7 = .int .i64 x ∧ s8 = .int .i64 (Tr.hold l x) ∧ Hid (Tr.bound l i t = Tr.bound l x t) ∧ Below w.heap.size w wr)
  case atStart => exact ⟨i, by (show _ ≤ _; omega), hi, rfl, rfl, rfl, Below.refl _ _⟩
  case round =>
    obtain ⟨x, hg, hx, rfl, rfl, hbd, hbel⟩ := hrel
    have hst := hide (Tr.bound_step (unhide HF) x hx t)
    have hup := Tr.hold_up (unhide HF) x hx
    by_cases hneg : Tr.hold l x < 0
    · have fin := hide (show Tr.bound l i t = false by rw [hbd.out, unhide hst, if_pos hneg])
      generalize Tr.hold l x = o at *
      have g1 : ¬ o ≥ 0 := by omega
      clear hup hneg hst
      go_wp2_with fail
      go_ret
      exact ⟨ret_bool (unhide fin).symm, hbel⟩
    · obtain ⟨o, ho⟩ : ∃ o : Nat, Tr.hold l x = o := ⟨(Tr.hold l x).toNat, by omega⟩
      rw [ho] at hst hup hneg ⊢
      rw [if_neg hneg] at hst
      simp only [Int.toNat_natCast] at hst
      have hol : o < l.length := by omega
      have hxo : x < o := by omega
      have hoI : (o : Int) < (l.length : Int) := by omega
      have ho0 : (0 : Int) ≤ (o : Int) := by omega
      have HQ := hide ((unhide HC) o x wr hol hx hbel)
      have hnext : Hid (((Tr.binds (l.getD o Nd.zero) x && ((l.getD o Nd.zero).text.toList == t.toList)) = true → Tr.bound l i t = true) ∧ ((Tr.binds (l.getD o Nd.zero) x && ((l.getD o Nd.zero).text.toList == t.toList)) = false → Tr.bound l i t = Tr.bound l o t)) := by
        refine ⟨fun h => ?_, fun h => ?_⟩
        · rw [hbd.out, unhide hst, if_pos h]
        · rw [hbd.out, unhide hst, if_neg (by rw [h]; decide)]
      clear hst hbd hneg ho hup
      generalize (Tr.binds (l.getD o Nd.zero) x && ((l.getD o Nd.zero).text.toList == t.toList)) = q at HQ hnext
      have c1 := fun W (hW : Below w.heap.size w W) => (((hown.below hW hgl).cell o)).trans ((unhide HH).2 o hol)
      have C1 := hide c1
      clear c1
      go_wp2_with fail
      refine (unhide HQ).mono ?_
      rintro e w2 ⟨rfl, hb2⟩
      have B2 : Below w.heap.size w w2 := hbel.trans (hb2.mono hbel.size)
      have c2 := (unhide C1) w2 B2
      clear HQ C1 hb2
      cases q with
      | true =>
        have fin := hide (hnext.out.1 rfl)
        clear hnext
        go_wp2_with fail
        go_ret
        exact ⟨ret_bool (unhide fin).symm, B2⟩
      | false =>
        have fin := hide (hnext.out.2 rfl)
        clear hnext
        go_wp2_with fail
        go_roundg (l.length - o)
        case rel => exact ⟨o, Nat.le_refl _, by omega, rfl, rfl, unhide fin, B2⟩
        case measure => have := hg.out; omega

set_option maxRecDepth 100000 in
set_option maxHeartbeats 2000000 in
theorem boundAsk_any (b k1 k2 : Nat) (l : List Nd) (i o x : Nat) (w : World) (hrow : Nd.Row w b 0 l) (hb : b < w.heap.size) (h1 : w.cell? ⟨k1, 0, none⟩ = some (.slice (some ⟨b, 0, none⟩) l.length l.length)) (h2 : w.cell? ⟨k2, 0, none⟩ = some (.int .i64 i)) (hk1 : k1 < w.heap.size) (hk2 : k2 < w.heap.size) (hi : i < l.length) (ho : o < l.length) (hx : x < l.length) (h1000 : l.length ≤ 1000) :
    Calls Try.prog 82 #[.int .i64 o, .int .i64 x, .pointer (some ⟨k1, 0, none⟩), .pointer (some ⟨k2, 0, none⟩)] w fun e w' => e = .returned (.bool (Tr.binds (l.getD o Nd.zero) x && ((l.getD o Nd.zero).text.toList == (l.getD i Nd.zero).text.toList))) ∧ Below w.heap.size w w' := by
  obtain ⟨f0, f1, f2, f3, f4, f5⟩ := hrow o ho
  have ft := (hrow i hi).2.2.2.2.2
  simp only [Nat.zero_add] at f0 f1 f2 f3 f4 f5 ft
  have hoI : (o : Int) < (l.length : Int) := by omega
  have hiI : (i : Int) < (l.length : Int) := by omega
  have hbne : b ≠ w.heap.size := by omega
  have hk1n : k1 ≠ w.heap.size := by omega
  have hk2n : k2 ≠ w.heap.size := by omega
  have HB : Hid (∀ q, Below w.heap.size w (w.alloc q)) := fun q => (Below.refl _ _).alloc (Nat.le_refl _) q
  have h1a : ∀ q, (w.alloc q).cell? ⟨k1, 0, none⟩ = some (.slice (some ⟨b, 0, none⟩) l.length l.length) := fun q => ((HB.out q).cell hk1).trans h1
  have h2a : ∀ q, (w.alloc q).cell? ⟨k2, 0, none⟩ = some (.int .i64 i) := fun q => ((HB.out q).cell hk2).trans h2
  have fta : ∀ q, (w.alloc q).cell? ⟨b, i * 6 + 5, none⟩ = some (.string (l.getD i Nd.zero).text) := fun q => ((HB.out q).cell hb).trans ft
  clear hrow ft
  generalize (l.getD i Nd.zero).text = t at *
  generalize l.getD o Nd.zero = n at *
  have hbs : Hid (Tr.binds n x = ((n.op == 20 && n.b == (x : Int)) || (n.op == 19 && n.c == (x : Int)))) := rfl
  by_cases h20 : n.op = 20
  · have g20 : (n.op == 20) = true := by simp [h20]
    have g19 : (n.op == 19) = false := by simp [h20]
    clear h20
    cases gb : (n.b == (x : Int)) with
    | true =>
      cases gt : (n.text.toList == t.toList) with
      | true =>
        have fin := hide (show (Tr.binds n x && true) = true by rw [hbs.out]; simp [g20, g19, gb])
        clear hbs
        go_enter Try.func82, Try.ntmps82
        go_wp2_with fail
        go_quiet (fail)
        go_wp2_with fail
        go_ret
        exact ⟨ret_bool (unhide fin).symm, below_drewN (HB.out _) _⟩
      | false =>
        have fin := hide (show (Tr.binds n x && false) = false by simp)
        clear hbs
        go_enter Try.func82, Try.ntmps82
        go_wp2_with fail
        go_quiet (fail)
        go_wp2_with fail
        go_ret
        exact ⟨ret_bool (unhide fin).symm, below_drewN (HB.out _) _⟩
    | false =>
      have fin := hide (show (Tr.binds n x && (n.text.toList == t.toList)) = false by rw [hbs.out]; simp [g20, g19, gb])
      clear hbs
      go_enter Try.func82, Try.ntmps82
      go_wp2_with fail
      go_quiet (fail)
      go_wp2_with fail
      go_ret
      exact ⟨ret_bool (unhide fin).symm, below_drewN (HB.out _) _⟩
  · have g20 : (n.op == 20) = false := by simpa using h20
    by_cases h19 : n.op = 19
    · have g19 : (n.op == 19) = true := by simp [h19]
      clear h20 h19
      cases gc : (n.c == (x : Int)) with
      | true =>
        cases gt : (n.text.toList == t.toList) with
        | true =>
          have fin := hide (show (Tr.binds n x && true) = true by rw [hbs.out]; simp [g20, g19, gc])
          clear hbs
          go_enter Try.func82, Try.ntmps82
          go_wp2_with fail
          go_quiet (fail)
          go_wp2_with fail
          go_ret
          exact ⟨ret_bool (unhide fin).symm, below_drewN (HB.out _) _⟩
        | false =>
          have fin := hide (show (Tr.binds n x && false) = false by simp)
          clear hbs
          go_enter Try.func82, Try.ntmps82
          go_wp2_with fail
          go_quiet (fail)
          go_wp2_with fail
          go_ret
          exact ⟨ret_bool (unhide fin).symm, below_drewN (HB.out _) _⟩
      | false =>
        have fin := hide (show (Tr.binds n x && (n.text.toList == t.toList)) = false by rw [hbs.out]; simp [g20, g19, gc])
        clear hbs
        go_enter Try.func82, Try.ntmps82
        go_wp2_with fail
        go_quiet (fail)
        go_wp2_with fail
        go_ret
        exact ⟨ret_bool (unhide fin).symm, below_drewN (HB.out _) _⟩
    · have g19 : (n.op == 19) = false := by simpa using h19
      clear h20 h19
      have fin := hide (show (Tr.binds n x && (n.text.toList == t.toList)) = false by rw [hbs.out]; simp [g20, g19])
      clear hbs
      go_enter Try.func82, Try.ntmps82
      go_wp2_with fail
      go_quiet (fail)
      go_wp2_with fail
      go_ret
      exact ⟨ret_bool (unhide fin).symm, below_drewN (HB.out _) _⟩

set_option maxRecDepth 100000 in
set_option maxHeartbeats 2000000 in
theorem isBound_any (b g : Nat) (l : List Nd) (xs : List Value) (i : Nat) (w : World) (hrow : Nd.Row w b 0 l) (hb : b < w.heap.size) (hown : Own w g 2 xs) (hh : Tr.Holds l xs (Tr.hold l)) (hi : i < l.length) (h200 : l.length ≤ 200) (hf : Tr.Fine l) :
    Calls Try.prog 50 #[.slice (some ⟨b, 0, none⟩) l.length l.length, .slice (some ⟨g, 0, none⟩) l.length l.length, .int .i64 i] w fun e w' => e = .returned (.bool (Tr.bound l i (l.getD i Nd.zero).text)) ∧ Below w.heap.size w w' := by
  obtain ⟨w2, hw2⟩ : ∃ w2, w2 = (w.alloc (.cells #[.slice (some ⟨b, 0, none⟩) l.length l.length] 28)).alloc (.cells #[.int .i64 i] 3) := ⟨_, rfl⟩
  have B2 : Below w.heap.size w w2 := by rw [hw2]; exact ((Below.refl _ _).alloc (Nat.le_refl _) _).alloc (by simp) _
  have O1 : Own w2 w.heap.size 28 [.slice (some ⟨b, 0, none⟩) l.length l.length] := by rw [hw2]; exact Own.alloc ⟨_, heap_alloc_new _ _, rfl⟩ _
  have O2 : Own w2 (w.heap.size + 1) 3 [.int .i64 i] := by rw [hw2]; exact ⟨_, by simpa using heap_alloc_new (w.alloc (.cells #[.slice (some ⟨b, 0, none⟩) l.length l.length] 28)) (.cells #[.int .i64 i] 3), rfl⟩
  have HQ := hide (isHeld_tree g w.heap.size (w.heap.size + 1) l (l.getD i Nd.zero).text xs i w2 (hown.below B2 hown.lt) hh hi (by omega) hf (fun o x W ho hx hW =>
    boundAsk_any b w.heap.size (w.heap.size + 1) l i o x W (hrow.below (B2.trans (hW.mono B2.size)) hb) (Nat.lt_of_lt_of_le hb (Nat.le_trans B2.size hW.size)) ((O1.below hW O1.lt).cell 0) ((O2.below hW O2.lt).cell 0) (Nat.lt_of_lt_of_le O1.lt hW.size) (Nat.lt_of_lt_of_le O2.lt hW.size) hi ho hx (by omega)))
  clear hrow hown hh hf O1 O2
  generalize Tr.bound l i (l.getD i Nd.zero).text = q at *
  go_enter Try.func50, Try.ntmps50
  go_wp2_with fail
  rw [← hw2]
  refine (unhide HQ).mono ?_
  rintro e w3 ⟨rfl, hb3⟩
  have B3 : Below w.heap.size w w3 := B2.trans (hb3.mono B2.size)
  clear hb3 HQ hw2
  go_wp2_with fail
  go_ret
  exact ⟨rfl, B3⟩

end Go.Proofs.Ytmbefapdckhjdaa

namespace Go.Proofs.Ytmbefapdckhjdaa
open Go.RowKit
set_option linter.unusedVariables false
set_option linter.unusedSimpArgs false

set_option maxRecDepth 100000 in
set_option maxHeartbeats 2000000 in
theorem holderPlaces_big (B g cap : Nat) (gs : List Nat) (l : List Nd) (w : World) (hnp : Tr.NP w B (.slice (some ⟨g, 0, none⟩) l.length cap) l gs) (hgl : gs.length = l.length) (hcap : l.length ≤ cap) (hg0 : g < w.heap.size) (h200 : l.length ≤ 1000) (h0 : 0 < l.length) (hf : Tr.Fine l) :
    Calls Try.prog 47 #[.slice (some ⟨g, 0, none⟩) l.length cap] w fun e w' => e = .returned (.slice (some ⟨w.heap.size, 0, none⟩) l.length l.length) ∧ (∃ xs, Own w' w.heap.size 2 xs ∧ Tr.Holds l xs (Tr.hold l)) ∧ Below w.heap.size w w' := by
  have HNP := hide hnp
  have HGL := hide hgl
  have HF := hide hf
  clear hnp hgl hf
  have hmk := Tr.make_ints l.length (by omega)
  go_enter Try.func47, Try.ntmps47
  go_wp2_with fail
  go_loopg [13] l.length (fun gh s13 wr => ∃ (k : Nat) (xs : List Value), Hid (gh = l.length - k) ∧ s13 = .int .i64 k ∧ k ≤ l.length ∧ Own wr w.heap.size 2 xs ∧ Hid (Tr.Holds l xs (Tr.holdK l k)) ∧ Below w.heap.size w wr)
  case atStart =>
    refine ⟨0, _, rfl, rfl, by omega, ⟨_, heap_alloc_new _ _, rfl⟩, ?_, (Below.refl _ _).alloc (Nat.le_refl _) _⟩
    exact ⟨Tr.made_length _, fun j hj => by rw [toList_madeCells_one, List.getElem?_replicate, if_pos hj]; rfl⟩
  case round =>
    clear hmk
    obtain ⟨k, xs, hg, rfl, hk, hown, hh, hbel⟩ := hrel
    by_cases hlt : k < l.length
    · have hltI : (k : Int) < (l.length : Int) := by omega
      have hkg : k < gs.length := by rw [unhide HGL]; exact hlt
      have f0 := (hbel.cell (by exact hg0)).trans (Tr.np_cell (unhide HNP) k hkg)
      have hog := ((unhide HNP).2 k hkg).2
      have hgne : gs.getD k 0 < w.heap.size := hog.lt
      have hkl := Tr.kids_le (l.getD k Nd.zero).op
      have hfin := hide (fun j hj => Tr.kid_fine (unhide HF) k hlt j hj)
      have hsucc := hide (fun m hm x hx j => Tr.holdM_succ l k m hm x hx j)
      have hz := hide (fun j => Tr.holdM_zero l k j)
      have hall := hide (fun j => Tr.holdM_all l k j)
      have habc := hide (fun (W : World) (hW : Below w.heap.size w W) j hj => ((hog.below hW hog.lt).cell j).trans (Tr.abc_get (l.getD k Nd.zero) j hj))
      obtain ⟨v0, g0⟩ : ∃ v, xs[k]? = some v := ⟨_, hh.out.2 k hlt⟩
      have i0 := (hown.cell k).trans g0
      have z0 := hown.frozen k
      have G0 := hide g0
      clear hog hkg g0
      generalize l.getD k Nd.zero = n at *
      generalize gs.getD k 0 = gk' at *
      obtain ⟨ks, hks⟩ : ∃ ks, ks = Tr.kids n.op := ⟨_, rfl⟩
      rw [← hks] at f0 hkl hfin hsucc hall
      clear hks
      have hsb : Below w.heap.size w (wr.setCell ⟨w.heap.size, k, none⟩ (.int .i64 (-1))) := hbel.setCell (Nat.le_refl _) _
      have hso := hown.set k (.int .i64 (-1))
      have hsh := hide ((hh.out.put k (-1)).congr (h' := Tr.holdM l k 0) (fun j _ => by rw [(unhide hz) j]))
      go_wp2_with fail
      go_loopg [23] ks (fun gh s23 w2 => ∃ (m : Nat) (ys : List Value), Hid (gh = ks - m) ∧ s23 = .int .i64 m ∧ m ≤ ks ∧ Own w2 w.heap.size 2 ys ∧ Hid (Tr.Holds l ys (Tr.holdM l k m)) ∧ Below w.heap.size w w2)
      case atStart => exact ⟨0, _, rfl, rfl, by omega, hso, unhide hsh, hsb⟩
      case round =>
        obtain ⟨m, ys, hgm, rfl, hm, hown2, hh2, hbel2⟩ := hrel
        clear i0 z0 hso hsb
        by_cases hml : m < ks
        · have hmI : (m : Int) < (ks : Int) := by omega
          have f1 := (unhide habc) _ hbel2 m (by omega)
          have hb1 := (unhide hfin) m hml
          obtain ⟨x, hx⟩ : ∃ x : Nat, Tr.kidAt n m = x := ⟨(Tr.kidAt n m).toNat, by omega⟩
          have hs1 := hide (fun j => (unhide hsucc) m hml x hx j)
          rw [hx] at f1 hb1
          have hxk : x < k := by omega
          have hxI : (x : Int) < (l.length : Int) := by omega
          have hx0 : (0 : Int) ≤ (x : Int) := by omega
          obtain ⟨v1, g1⟩ : ∃ v, ys[x]? = some v := ⟨_, hh2.out.2 x (by omega)⟩
          have i1 := (hown2.cell x).trans g1
          have z1 := hown2.frozen x
          have hn2 := hide ((hh2.out.put x (k : Int)).congr (h' := Tr.holdM l k (m + 1)) (fun j _ => by rw [(unhide hs1) j]))
          have G1 := hide g1
          clear hx hb1 hml g1
          go_wp2_with fail
          go_roundg (ks - (m + 1))
          case rel => exact ⟨m + 1, _, rfl, by go_num, by omega, hown2.set x _, unhide hn2, hbel2.setCell (Nat.le_refl _) _⟩
          case measure => have := hgm.out; omega
        · have hme : m = ks := by omega
          have hn2 := hide (hh2.out.congr (h' := Tr.holdK l (k + 1)) (fun j _ => by rw [hme, (unhide hall) j]))
          clear hme
          go_wp2_with fail
          go_roundg (l.length - (k + 1))
          case rel => exact ⟨k + 1, _, rfl, by go_num, by omega, hown2, unhide hn2, hbel2⟩
          case measure => have := hg.out; omega
    · have hke : k = l.length := by omega
      have fin := hide (show Tr.Holds l xs (Tr.hold l) by have := hh.out; rw [hke] at this; exact this)
      clear hke
      go_wp2_with fail
      go_ret
      exact ⟨rfl, ⟨xs, hown, unhide fin⟩, hbel⟩
theorem holderPlaces_any (B g cap : Nat) (gs : List Nat) (l : List Nd) (w : World) (hnp : Tr.NP w B (.slice (some ⟨g, 0, none⟩) l.length cap) l gs) (hgl : gs.length = l.length) (hcap : l.length ≤ cap) (hg0 : g < w.heap.size) (h200 : l.length ≤ 200) (h0 : 0 < l.length) (hf : Tr.Fine l) :
    Calls Try.prog 47 #[.slice (some ⟨g, 0, none⟩) l.length cap] w fun e w' => e = .returned (.slice (some ⟨w.heap.size, 0, none⟩) l.length l.length) ∧ (∃ xs, Own w' w.heap.size 2 xs ∧ Tr.Holds l xs (Tr.hold l)) ∧ Below w.heap.size w w' := holderPlaces_big B g cap gs l w hnp hgl hcap hg0 (by omega) h0 hf
theorem calls_w0 : (Tr.theCalls.getD 0 ByteArray.empty).toList = [108, 101, 110, 103, 116, 104] := by first | rfl | decide | simp [Tr.theCalls] | simp [Tr.theCalls, go_sem]
theorem calls_w1 : (Tr.theCalls.getD 1 ByteArray.empty).toList = [107, 101, 121, 115] := by first | rfl | decide | simp [Tr.theCalls] | simp [Tr.theCalls, go_sem]
theorem calls_w2 : (Tr.theCalls.getD 2 ByteArray.empty).toList = [110, 111, 116] := by first | rfl | decide | simp [Tr.theCalls] | simp [Tr.theCalls, go_sem]
theorem calls_w3 : (Tr.theCalls.getD 3 ByteArray.empty).toList = [101, 109, 112, 116, 121] := by first | rfl | decide | simp [Tr.theCalls] | simp [Tr.theCalls, go_sem]
theorem calls_w4 : (Tr.theCalls.getD 4 ByteArray.empty).toList = [101, 114, 114, 111, 114] := by first | rfl | decide | simp [Tr.theCalls] | simp [Tr.theCalls, go_sem]
theorem calls_w5 : (Tr.theCalls.getD 5 ByteArray.empty).toList = [116, 121, 112, 101] := by first | rfl | decide | simp [Tr.theCalls] | simp [Tr.theCalls, go_sem]
theorem calls_w6 : (Tr.theCalls.getD 6 ByteArray.empty).toList = [115, 111, 114, 116] := by first | rfl | decide | simp [Tr.theCalls] | simp [Tr.theCalls, go_sem]
theorem calls_w7 : (Tr.theCalls.getD 7 ByteArray.empty).toList = [97, 100, 100] := by first | rfl | decide | simp [Tr.theCalls] | simp [Tr.theCalls, go_sem]

set_option maxRecDepth 100000 in
set_option maxHeartbeats 4000000 in
theorem isKnownCall_22 (a_ b_ c_ num_ : Int) (text_ : ByteArray) (w : World) : Calls Try.prog 49 #[.agg #[.int .i64 22, .int .i64 a_, .int .i64 b_, .int .i64 c_, .int .i64 num_, .string text_]] w fun e w' => e = .returned (.bool (oneOf Tr.theCalls text_)) ∧ Below w.heap.size w w' := by
  have HB : Hid (∀ o, Below w.heap.size w (w.alloc o)) := fun o => (Below.refl _ _).alloc (Nat.le_refl _) o
  by_cases h0 : text_.toList = [108, 101, 110, 103, 116, 104]
  · have fin := hide (oneOf_hit (ss := Tr.theCalls) (s := text_) (k := 0) (by decide) (by rw [calls_w0, h0]; exact beq_self_eq_true _))
    have g0 : (text_.toList == [108, 101, 110, 103, 116, 104]) = true := by rw [h0]; exact beq_self_eq_true _
    clear h0
    go_enter Try.func49, Try.ntmps49
    go_wp2_with fail
    go_ret
    exact ⟨ret_bool (unhide fin).symm, HB.out _⟩
  by_cases h1 : text_.toList = [107, 101, 121, 115]
  · have fin := hide (oneOf_hit (ss := Tr.theCalls) (s := text_) (k := 1) (by decide) (by rw [calls_w1, h1]; exact beq_self_eq_true _))
    have g0 : (text_.toList == [108, 101, 110, 103, 116, 104]) = false := beq_eq_false_iff_ne.2 h0
    have g1 : (text_.toList == [107, 101, 121, 115]) = true := by rw [h1]; exact beq_self_eq_true _
    clear h0 h1
    go_enter Try.func49, Try.ntmps49
    go_wp2_with fail
    go_ret
    exact ⟨ret_bool (unhide fin).symm, HB.out _⟩
  by_cases h2 : text_.toList = [110, 111, 116]
  · have fin := hide (oneOf_hit (ss := Tr.theCalls) (s := text_) (k := 2) (by decide) (by rw [calls_w2, h2]; exact beq_self_eq_true _))
    have g0 : (text_.toList == [108, 101, 110, 103, 116, 104]) = false := beq_eq_false_iff_ne.2 h0
    have g1 : (text_.toList == [107, 101, 121, 115]) = false := beq_eq_false_iff_ne.2 h1
    have g2 : (text_.toList == [110, 111, 116]) = true := by rw [h2]; exact beq_self_eq_true _
    clear h0 h1 h2
    go_enter Try.func49, Try.ntmps49
    go_wp2_with fail
    go_ret
    exact ⟨ret_bool (unhide fin).symm, HB.out _⟩
  by_cases h3 : text_.toList = [101, 109, 112, 116, 121]
  · have fin := hide (oneOf_hit (ss := Tr.theCalls) (s := text_) (k := 3) (by decide) (by rw [calls_w3, h3]; exact beq_self_eq_true _))
    have g0 : (text_.toList == [108, 101, 110, 103, 116, 104]) = false := beq_eq_false_iff_ne.2 h0
    have g1 : (text_.toList == [107, 101, 121, 115]) = false := beq_eq_false_iff_ne.2 h1
    have g2 : (text_.toList == [110, 111, 116]) = false := beq_eq_false_iff_ne.2 h2
    have g3 : (text_.toList == [101, 109, 112, 116, 121]) = true := by rw [h3]; exact beq_self_eq_true _
    clear h0 h1 h2 h3
    go_enter Try.func49, Try.ntmps49
    go_wp2_with fail
    go_ret
    exact ⟨ret_bool (unhide fin).symm, HB.out _⟩
  by_cases h4 : text_.toList = [101, 114, 114, 111, 114]
  · have fin := hide (oneOf_hit (ss := Tr.theCalls) (s := text_) (k := 4) (by decide) (by rw [calls_w4, h4]; exact beq_self_eq_true _))
    have g0 : (text_.toList == [108, 101, 110, 103, 116, 104]) = false := beq_eq_false_iff_ne.2 h0
    have g1 : (text_.toList == [107, 101, 121, 115]) = false := beq_eq_false_iff_ne.2 h1
    have g2 : (text_.toList == [110, 111, 116]) = false := beq_eq_false_iff_ne.2 h2
    have g3 : (text_.toList == [101, 109, 112, 116, 121]) = false := beq_eq_false_iff_ne.2 h3
    have g4 : (text_.toList == [101, 114, 114, 111, 114]) = true := by rw [h4]; exact beq_self_eq_true _
    clear h0 h1 h2 h3 h4
    go_enter Try.func49, Try.ntmps49
    go_wp2_with fail
    go_ret
    exact ⟨ret_bool (unhide fin).symm, HB.out _⟩
  by_cases h5 : text_.toList = [116, 121, 112, 101]
  · have fin := hide (oneOf_hit (ss := Tr.theCalls) (s := text_) (k := 5) (by decide) (by rw [calls_w5, h5]; exact beq_self_eq_true _))
    have g0 : (text_.toList == [108, 101, 110, 103, 116, 104]) = false := beq_eq_false_iff_ne.2 h0
    have g1 : (text_.toList == [107, 101, 121, 115]) = false := beq_eq_false_iff_ne.2 h1
    have g2 : (text_.toList == [110, 111, 116]) = false := beq_eq_false_iff_ne.2 h2
    have g3 : (text_.toList == [101, 109, 112, 116, 121]) = false := beq_eq_false_iff_ne.2 h3
    have g4 : (text_.toList == [101, 114, 114, 111, 114]) = false := beq_eq_false_iff_ne.2 h4
    have g5 : (text_.toList == [116, 121, 112, 101]) = true := by rw [h5]; exact beq_self_eq_true _
    clear h0 h1 h2 h3 h4 h5
    go_enter Try.func49, Try.ntmps49
    go_wp2_with fail
    go_ret
    exact ⟨ret_bool (unhide fin).symm, HB.out _⟩
  by_cases h6 : text_.toList = [115, 111, 114, 116]
  · have fin := hide (oneOf_hit (ss := Tr.theCalls) (s := text_) (k := 6) (by decide) (by rw [calls_w6, h6]; exact beq_self_eq_true _))
    have g0 : (text_.toList == [108, 101, 110, 103, 116, 104]) = false := beq_eq_false_iff_ne.2 h0
    have g1 : (text_.toList == [107, 101, 121, 115]) = false := beq_eq_false_iff_ne.2 h1
    have g2 : (text_.toList == [110, 111, 116]) = false := beq_eq_false_iff_ne.2 h2
    have g3 : (text_.toList == [101, 109, 112, 116, 121]) = false := beq_eq_false_iff_ne.2 h3
    have g4 : (text_.toList == [101, 114, 114, 111, 114]) = false := beq_eq_false_iff_ne.2 h4
    have g5 : (text_.toList == [116, 121, 112, 101]) = false := beq_eq_false_iff_ne.2 h5
    have g6 : (text_.toList == [115, 111, 114, 116]) = true := by rw [h6]; exact beq_self_eq_true _
    clear h0 h1 h2 h3 h4 h5 h6
    go_enter Try.func49, Try.ntmps49
    go_wp2_with fail
    go_ret
    exact ⟨ret_bool (unhide fin).symm, HB.out _⟩
  by_cases h7 : text_.toList = [97, 100, 100]
  · have fin := hide (oneOf_hit (ss := Tr.theCalls) (s := text_) (k := 7) (by decide) (by rw [calls_w7, h7]; exact beq_self_eq_true _))
    have g0 : (text_.toList == [108, 101, 110, 103, 116, 104]) = false := beq_eq_false_iff_ne.2 h0
    have g1 : (text_.toList == [107, 101, 121, 115]) = false := beq_eq_false_iff_ne.2 h1
    have g2 : (text_.toList == [110, 111, 116]) = false := beq_eq_false_iff_ne.2 h2
    have g3 : (text_.toList == [101, 109, 112, 116, 121]) = false := beq_eq_false_iff_ne.2 h3
    have g4 : (text_.toList == [101, 114, 114, 111, 114]) = false := beq_eq_false_iff_ne.2 h4
    have g5 : (text_.toList == [116, 121, 112, 101]) = false := beq_eq_false_iff_ne.2 h5
    have g6 : (text_.toList == [115, 111, 114, 116]) = false := beq_eq_false_iff_ne.2 h6
    have g7 : (text_.toList == [97, 100, 100]) = true := by rw [h7]; exact beq_self_eq_true _
    clear h0 h1 h2 h3 h4 h5 h6 h7
    go_enter Try.func49, Try.ntmps49
    go_wp2_with fail
    go_ret
    exact ⟨ret_bool (unhide fin).symm, HB.out _⟩
  have fin := hide (oneOf_none (ss := Tr.theCalls) (s := text_) (fun k hk => by
    have hk2 : k = 0 ∨ k = 1 ∨ k = 2 ∨ k = 3 ∨ k = 4 ∨ k = 5 ∨ k = 6 ∨ k = 7 := by have h : k < 8 := hk; omega
    rcases hk2 with rfl | rfl | rfl | rfl | rfl | rfl | rfl | rfl
    · rw [calls_w0]; exact beq_eq_false_iff_ne.2 (fun h => h0 h.symm)
    · rw [calls_w1]; exact beq_eq_false_iff_ne.2 (fun h => h1 h.symm)
    · rw [calls_w2]; exact beq_eq_false_iff_ne.2 (fun h => h2 h.symm)
    · rw [calls_w3]; exact beq_eq_false_iff_ne.2 (fun h => h3 h.symm)
    · rw [calls_w4]; exact beq_eq_false_iff_ne.2 (fun h => h4 h.symm)
    · rw [calls_w5]; exact beq_eq_false_iff_ne.2 (fun h => h5 h.symm)
    · rw [calls_w6]; exact beq_eq_false_iff_ne.2 (fun h => h6 h.symm)
    · rw [calls_w7]; exact beq_eq_false_iff_ne.2 (fun h => h7 h.symm)
    ))
  have g0 : (text_.toList == [108, 101, 110, 103, 116, 104]) = false := beq_eq_false_iff_ne.2 h0
  have g1 : (text_.toList == [107, 101, 121, 115]) = false := beq_eq_false_iff_ne.2 h1
  have g2 : (text_.toList == [110, 111, 116]) = false := beq_eq_false_iff_ne.2 h2
  have g3 : (text_.toList == [101, 109, 112, 116, 121]) = false := beq_eq_false_iff_ne.2 h3
  have g4 : (text_.toList == [101, 114, 114, 111, 114]) = false := beq_eq_false_iff_ne.2 h4
  have g5 : (text_.toList == [116, 121, 112, 101]) = false := beq_eq_false_iff_ne.2 h5
  have g6 : (text_.toList == [115, 111, 114, 116]) = false := beq_eq_false_iff_ne.2 h6
  have g7 : (text_.toList == [97, 100, 100]) = false := beq_eq_false_iff_ne.2 h7
  clear h0 h1 h2 h3 h4 h5 h6 h7
  go_enter Try.func49, Try.ntmps49
  go_wp2_with fail
  go_ret
  exact ⟨ret_bool (unhide fin).symm, HB.out _⟩
theorem ones_w0 : (Tr.theOnes.getD 0 ByteArray.empty).toList = [109, 97, 112] := by first | rfl | decide | simp [Tr.theOnes] | simp [Tr.theOnes, go_sem]
theorem ones_w1 : (Tr.theOnes.getD 1 ByteArray.empty).toList = [115, 101, 108, 101, 99, 116] := by first | rfl | decide | simp [Tr.theOnes] | simp [Tr.theOnes, go_sem]
theorem ones_w2 : (Tr.theOnes.getD 2 ByteArray.empty).toList = [114, 97, 110, 103, 101] := by first | rfl | decide | simp [Tr.theOnes] | simp [Tr.theOnes, go_sem]

set_option maxRecDepth 100000 in
set_option maxHeartbeats 4000000 in
theorem isKnownCall_23 (a_ b_ c_ num_ : Int) (text_ : ByteArray) (w : World) : Calls Try.prog 49 #[.agg #[.int .i64 23, .int .i64 a_, .int .i64 b_, .int .i64 c_, .int .i64 num_, .string text_]] w fun e w' => e = .returned (.bool (oneOf Tr.theOnes text_)) ∧ Below w.heap.size w w' := by
  have HB : Hid (∀ o, Below w.heap.size w (w.alloc o)) := fun o => (Below.refl _ _).alloc (Nat.le_refl _) o
  by_cases h0 : text_.toList = [109, 97, 112]
  · have fin := hide (oneOf_hit (ss := Tr.theOnes) (s := text_) (k := 0) (by decide) (by rw [ones_w0, h0]; exact beq_self_eq_true _))
    have g0 : (text_.toList == [109, 97, 112]) = true := by rw [h0]; exact beq_self_eq_true _
    clear h0
    go_enter Try.func49, Try.ntmps49
    go_wp2_with fail
    go_ret
    exact ⟨ret_bool (unhide fin).symm, HB.out _⟩
  by_cases h1 : text_.toList = [115, 101, 108, 101, 99, 116]
  · have fin := hide (oneOf_hit (ss := Tr.theOnes) (s := text_) (k := 1) (by decide) (by rw [ones_w1, h1]; exact beq_self_eq_true _))
    have g0 : (text_.toList == [109, 97, 112]) = false := beq_eq_false_iff_ne.2 h0
    have g1 : (text_.toList == [115, 101, 108, 101, 99, 116]) = true := by rw [h1]; exact beq_self_eq_true _
    clear h0 h1
    go_enter Try.func49, Try.ntmps49
    go_wp2_with fail
    go_ret
    exact ⟨ret_bool (unhide fin).symm, HB.out _⟩
  by_cases h2 : text_.toList = [114, 97, 110, 103, 101]
  · have fin := hide (oneOf_hit (ss := Tr.theOnes) (s := text_) (k := 2) (by decide) (by rw [ones_w2, h2]; exact beq_self_eq_true _))
    have g0 : (text_.toList == [109, 97, 112]) = false := beq_eq_false_iff_ne.2 h0
    have g1 : (text_.toList == [115, 101, 108, 101, 99, 116]) = false := beq_eq_false_iff_ne.2 h1
    have g2 : (text_.toList == [114, 97, 110, 103, 101]) = true := by rw [h2]; exact beq_self_eq_true _
    clear h0 h1 h2
    go_enter Try.func49, Try.ntmps49
    go_wp2_with fail
    go_ret
    exact ⟨ret_bool (unhide fin).symm, HB.out _⟩
  have fin := hide (oneOf_none (ss := Tr.theOnes) (s := text_) (fun k hk => by
    have hk2 : k = 0 ∨ k = 1 ∨ k = 2 := by have h : k < 3 := hk; omega
    rcases hk2 with rfl | rfl | rfl
    · rw [ones_w0]; exact beq_eq_false_iff_ne.2 (fun h => h0 h.symm)
    · rw [ones_w1]; exact beq_eq_false_iff_ne.2 (fun h => h1 h.symm)
    · rw [ones_w2]; exact beq_eq_false_iff_ne.2 (fun h => h2 h.symm)
    ))
  have g0 : (text_.toList == [109, 97, 112]) = false := beq_eq_false_iff_ne.2 h0
  have g1 : (text_.toList == [115, 101, 108, 101, 99, 116]) = false := beq_eq_false_iff_ne.2 h1
  have g2 : (text_.toList == [114, 97, 110, 103, 101]) = false := beq_eq_false_iff_ne.2 h2
  clear h0 h1 h2
  go_enter Try.func49, Try.ntmps49
  go_wp2_with fail
  go_ret
  exact ⟨ret_bool (unhide fin).symm, HB.out _⟩

set_option maxHeartbeats 1000000 in
theorem isKnownCall_any (n : Nd) (w : World) : Calls Try.prog 49 #[n.agg] w fun e w' => e = .returned (.bool (Tr.callOk n)) ∧ Below w.heap.size w w' := by
  obtain ⟨op, a_, b_, c_, num_, text_⟩ := n
  unfold Nd.agg Tr.callOk
  show Calls Try.prog 49 #[.agg #[.int .i64 op, .int .i64 a_, .int .i64 b_, .int .i64 c_, .int .i64 num_, .string text_]] w fun e w' => e = .returned (.bool (if op = 22 then oneOf Tr.theCalls text_ else if op = 23 then oneOf Tr.theOnes text_ else true)) ∧ Below w.heap.size w w'
  by_cases h22 : op = 22
  · subst h22; rw [if_pos rfl]; exact isKnownCall_22 a_ b_ c_ num_ text_ w
  by_cases h23 : op = 23
  · subst h23; rw [if_neg (by decide), if_pos rfl]; exact isKnownCall_23 a_ b_ c_ num_ text_ w
  rw [if_neg h22, if_neg h23]
  have g1 : (op == 22) = false := by simpa using h22
  have g2 : (op == 23) = false := by simpa using h23
  clear h22 h23
  go_enter Try.func49, Try.ntmps49
  go_wp2_with fail
  go_ret
  exact ⟨rfl, (Below.refl _ _).alloc (Nat.le_refl _) _⟩

end Go.Proofs.Ytmbefapdckhjdaa
