/-
  impl.corePlaces; whether slots are bound.
  impl.CoreFault answers the plain fault.
-/
import Derived.Test.YtkjmnkbiflkpdaaCorB
import Derived.Test.YtkjmnkbiflkpdaaTreO
import Derived.Test.YtkjmnkbiflkpdaaHldI
import Derived.Test.YtkjmnkbiflkpdaaTreP
import Derived.Test.YtkjmnkbiflkpdaaTreQ
import Derived.Test.YtkjmnkbiflkpdaaScoI
import Derived.Maps.AppendAt
namespace Go.Proofs.Ytkjmnkbiflkpdaa
open Go.RowKit
set_option linter.unusedVariables false
set_option linter.unusedSimpArgs false


set_option maxRecDepth 100000 in
set_option maxHeartbeats 1000000 in
theorem corePlaces_any (b : Nat) (l : List Co) (w : World) (hrow : Co.Row w b l) (hb : b < w.heap.size) (h900 : l.length ≤ 900) (hop : ∀ i, i < l.length → 1 ≤ (l.getD i Co.zero).op ∧ (l.getD i Co.zero).op ≤ 17) :
    Calls Try.prog 46 #[.slice (some ⟨b, 0, none⟩) l.length l.length] w fun e w' => ∃ v gs, e = .returned v ∧ gs.length = l.length ∧ Tr.NP w' w.heap.size v (Co.tree l) gs ∧ Below w.heap.size w w' := by
  have HR := hide hrow
  have HOP := hide hop
  clear hrow hop
  obtain ⟨i0, hi, hz0, hz1, hz2⟩ := info_parts Tr.infoS
  go_enter Try.func46, Try.ntmps46
  go_wp2_with fail
  go_loopg [3, 9] l.length (fun gh s3 s9 wr => ∃ (k : Nat) (gs : List Nat), Hid (gh = l.length - k) ∧ s9 = .int .i64 k ∧ k ≤ l.length ∧ Hid (gs.length = k) ∧ Tr.NP wr w.heap.size s3 (Co.tree l) gs ∧ Below w.heap.size w wr)
  case atStart => exact ⟨0, [], rfl, rfl, by omega, rfl, Tr.NP.nil _ _ _, Below.refl _ _⟩
  case round =>
    obtain ⟨k, gs, hg, rfl, hk, hgl, hnp, hbel⟩ := hrel
    by_cases hlt : k < l.length
    · have hltI : (k : Int) < (l.length : Int) := by omega
      have hopk := (unhide HOP) k hlt
      obtain ⟨f0, f1, f2, f3, f4, vg, f5, _, _⟩ := ((unhide HR).below hbel hb) k hlt
      obtain ⟨n, hn⟩ : ∃ n, n = l.getD k Co.zero := ⟨_, rfl⟩
      have hT := hide ((Co.tree_getD l hlt).trans (by rw [← hn]))
      rw [← hn] at f0 f1 f2 f3 f4 f5 hopk
      have HN := hide hn
      have HS := hide (fun wq => coreShape_any n.op wq hopk.1 hopk.2)
      have hkl := Co.kids_le n.op
      have hklI : (Co.kids n.op : Int) ≤ 3 := by omega
      have hkl0 : (0 : Int) ≤ (Co.kids n.op : Int) := by omega
      clear hn hlt hopk
      obtain ⟨w1, hw1⟩ : ∃ w1, w1 = (wr.alloc (.cells #[.int .i64 n.op, .int .i64 n.a, .int .i64 n.b, .int .i64 n.c, .int .i64 n.num, .slice (some ⟨vg, 0, none⟩) n.val.length n.val.length] 48)).alloc (.cells #[.int .i64 n.a, .int .i64 n.b, .int .i64 n.c] 2) := ⟨_, rfl⟩
      have B1 : Below wr.heap.size wr w1 := by rw [hw1]; exact ((Below.refl _ _).alloc (Nat.le_refl _) _).alloc (by simp <;> omega) _
      have O1 : Own w1 (wr.heap.size + 1) 2 [.int .i64 n.a, .int .i64 n.b, .int .i64 n.c] := by
        rw [hw1]
        have e : (wr.alloc (.cells #[.int .i64 n.op, .int .i64 n.a, .int .i64 n.b, .int .i64 n.c, .int .i64 n.num, .slice (some ⟨vg, 0, none⟩) n.val.length n.val.length] 48)).heap.size = wr.heap.size + 1 := by simp
        rw [← e]
        exact ⟨_, heap_alloc_new _ _, rfl⟩
      have HNP := hide hnp
      clear hnp
      go_wp2_with fail
      refine ((unhide HS) _).mono ?_
      rintro e w2 ⟨rfl, hb2⟩
      rw [← hw1] at hb2
      clear hw1 HS f0 f1 f2 f3 f4 f5
      have B2 : Below wr.heap.size wr w2 := B1.trans (hb2.mono B1.size)
      have O2 := O1.below hb2 O1.lt
      have hnp2 := (unhide HNP).below B2
      have hown' := hide (fun o => hnp2.1.alloc o)
      have hone := hide (Tr.one_slice w2 (some ⟨wr.heap.size + 1, 0, none⟩) (Co.kids n.op) 3)
      have honep := hide (Tr.one_slice_plain (some ⟨wr.heap.size + 1, 0, none⟩) (Co.kids n.op) 3)
      have hgl' := hgl.out
      have hb63 : gs.length + 1 ≤ maxLen := by unfold maxLen; omega
      have hby : (gs.length + 1) * 24 ≤ 140737488355328 := by omega
      have hbase : w.heap.size ≤ w2.heap.size + 1 := by have := hbel.size; have := B2.size; omega
      have hbse := hide (Tr.owns_base hnp2.1)
      have HN2 := hide hnp2
      have HO2 := hide O2
      clear hnp2 O2 hgl'
      unfold coreV
      have hfl := field_links (Co.kids n.op) (Co.low n.op) (Co.high n.op) .nilFunc
      go_wp2_with (at_builtin; refine wpList_append_own_at _ rfl (.tmp 20) (.tmp 27) 72 rfl w.heap.size 32 i0 (.slice none 0 0) 1 24 Try.underlying72 hi hz0 hz1 hz2 rfl (by decide) _ gs.length _ rfl ((unhide hown') _) ⟨w2.heap.size, 0, none⟩ 1 1 [.slice (some ⟨wr.heap.size + 1, 0, none⟩) (Co.kids n.op) 3] rfl rfl (unhide hone) (unhide honep) hb63 hby (by simpa using hbase) ?_)
      intro v' w3 ho3 hg3 _ _
      have B3 : Below w.heap.size w w3 := ((hbel.trans (B2.mono hbel.size)).alloc (by have := hbel.size; have := B2.size; omega) _).grown hg3 (by simpa using hbase) (unhide hbse)
      have hnp3 : Tr.NP w3 w.heap.size v' (Co.tree l) (gs ++ [wr.heap.size + 1]) := by
        have e := hgl.out
        refine Tr.NP.snoc ((unhide HN2).below ((Below.refl _ _).alloc (Nat.le_refl _) _)) (by have := hbel.size; omega) ?_ hg3 ?_
        · rw [e, unhide hT]; exact (unhide HO2).below ((Below.refl _ _).alloc (Nat.le_refl _) _) (unhide HO2).lt
        · rw [e, unhide hT]
          have e2 : Tr.npV (Co.nd n) (wr.heap.size + 1) = .slice (some ⟨wr.heap.size + 1, 0, none⟩) (Co.kids n.op) 3 := by
            unfold Tr.npV
            show Value.slice _ (Tr.kids (Co.ndOp n.op)) 3 = _
            rw [Co.nd_kids]
          rw [e2, ← e]; exact ho3
      clear ho3 hg3
      have HN3 := hide hnp3
      clear hnp3
      go_wp2_with fail
      go_roundg (l.length - (k + 1))
      case rel => exact ⟨k + 1, _, rfl, by go_num, by omega, by (show _ = _; rw [List.length_append, hgl.out]; rfl), unhide HN3, B3⟩
      case measure => have := hg.out; omega
    · have hke : k = l.length := by omega
      have HNP := hide hnp
      obtain ⟨xa, xc, hx⟩ := Tr.owns_slice hnp.1
      have HGL := hide (show gs.length = l.length by rw [hgl.out, hke])
      clear hnp hke
      subst hx
      go_wp2_with fail
      go_ret
      exact ⟨_, gs, rfl, unhide HGL, unhide HNP, hbel⟩

set_option maxRecDepth 100000 in
set_option maxHeartbeats 2000000 in
theorem isHeld_core (g k1 k2 : Nat) (l : List Nd) (t : ByteArray) (xs : List Value) (i : Nat) (w : World) (hown : Own w g 2 xs) (hh : Tr.Holds l xs (Tr.hold l)) (hi : i < l.length) (h1000 : l.length ≤ 1000) (hf : Tr.Fine l)
    (hc : ∀ (o x : Nat) (W : World), o < l.length → x < l.length → Below w.heap.size w W → Calls Try.prog 73 #[.int .i64 o, .int .i64 x, .pointer (some ⟨k1, 0, none⟩), .pointer (some ⟨k2, 0, none⟩)] W fun e w' => e = .returned (.bool (Tr.binds (l.getD o Nd.zero) x && ((l.getD o Nd.zero).text.toList == t.toList))) ∧ Below W.heap.size W w') :
    Calls Try.prog 72 #[.slice (some ⟨g, 0, none⟩) l.length l.length, .int .i64 i, .func (.func 73) #[] #[.pointer (some ⟨k1, 0, none⟩), .pointer (some ⟨k2, 0, none⟩)]] w fun e w' => e = .returned (.bool (Tr.bound l i t)) ∧ Below w.heap.size w w' := by
  have hiI : (i : Int) < (l.length : Int) := by omega
  have HH := hide hh
  have HF := hide hf
  have HC := hide hc
  have hgl := hown.lt
  have c0 := (hown.cell i).trans (hh.2 i hi)
  clear hh hf hc
  go_enter Try.func72, Try.ntmps72
  go_wp2_with fail
  go_loopg [7, 8] l.length (fun gh s7 s8 wr => ∃ x : Nat, Hid (l.length - x ≤ gh) ∧ x < l.length ∧ s7 = .int .i64 x ∧ s8 = .int .i64 (Tr.hold l x) ∧ Hid (Tr.bound l i t = Tr.bound l x t) ∧ Below w.heap.size w wr)
  case atStart => exact ⟨i, by (show _ ≤ _; omega), hi, rfl, rfl, rfl, Below.refl _ _⟩
  case round =>
    obtain ⟨x, hg, hx, rfl, rfl, hbd, hbel⟩ := hrel
    have hst := hide (Tr.bound_step (unhide HF) x hx t)
    have hup := Tr.hold_up (unhide HF) x hx
    by_cases hneg : Tr.hold l x < 0
    · have fin := hide (show Tr.bound l i t = false by rw [hbd.out, unhide hst, if_pos hneg])
      generalize Tr.hold l x = o at *
      have g1 : ¬ o ≥ 0 := by omega
      clear hup hneg hst
      go_wp2_with fail
      go_ret
      exact ⟨ret_bool (unhide fin).symm, hbel⟩
    · obtain ⟨o, ho⟩ : ∃ o : Nat, Tr.hold l x = o := ⟨(Tr.hold l x).toNat, by omega⟩
      rw [ho] at hst hup hneg ⊢
      rw [if_neg hneg] at hst
      simp only [Int.toNat_natCast] at hst
      have hol : o < l.length := by omega
      have hxo : x < o := by omega
      have hoI : (o : Int) < (l.length : Int) := by omega
      have ho0 : (0 : Int) ≤ (o : Int) := by omega
      have HQ := hide ((unhide HC) o x wr hol hx hbel)
      have hnext : Hid (((Tr.binds (l.getD o Nd.zero) x && ((l.getD o Nd.zero).text.toList == t.toList)) = true → Tr.bound l i t = true) ∧ ((Tr.binds (l.getD o Nd.zero) x && ((l.getD o Nd.zero).text.toList == t.toList)) = false → Tr.bound l i t = Tr.bound l o t)) := by
        refine ⟨fun h => ?_, fun h => ?_⟩
        · rw [hbd.out, unhide hst, if_pos h]
        · rw [hbd.out, unhide hst, if_neg (by rw [h]; decide)]
      clear hst hbd hneg ho hup
      generalize (Tr.binds (l.getD o Nd.zero) x && ((l.getD o Nd.zero).text.toList == t.toList)) = q at HQ hnext
      have c1 := fun W (hW : Below w.heap.size w W) => (((hown.below hW hgl).cell o)).trans ((unhide HH).2 o hol)
      have C1 := hide c1
      clear c1
      go_wp2_with fail
      refine (unhide HQ).mono ?_
      rintro e w2 ⟨rfl, hb2⟩
      have B2 : Below w.heap.size w w2 := hbel.trans (hb2.mono hbel.size)
      have c2 := (unhide C1) w2 B2
      clear HQ C1 hb2
      cases q with
      | true =>
        have fin := hide (hnext.out.1 rfl)
        clear hnext
        go_wp2_with fail
        go_ret
        exact ⟨ret_bool (unhide fin).symm, B2⟩
      | false =>
        have fin := hide (hnext.out.2 rfl)
        clear hnext
        go_wp2_with fail
        go_roundg (l.length - o)
        case rel => exact ⟨o, Nat.le_refl _, by omega, rfl, rfl, unhide fin, B2⟩
        case measure => have := hg.out; omega

set_option maxRecDepth 100000 in
set_option maxHeartbeats 2000000 in
theorem slotAsk_any (b k1 k2 : Nat) (l : List Co) (i o x : Nat) (w : World) (hrow : Co.Row w b l) (hb : b < w.heap.size) (h1 : w.cell? ⟨k1, 0, none⟩ = some (.slice (some ⟨b, 0, none⟩) l.length l.length)) (h2 : w.cell? ⟨k2, 0, none⟩ = some (.int .i64 i)) (hk1 : k1 < w.heap.size) (hk2 : k2 < w.heap.size) (hi : i < l.length) (ho : o < l.length) (hx : x < l.length) (h1000 : l.length ≤ 1000) (hni : 0 ≤ (l.getD i Co.zero).num) (hno : 0 ≤ (l.getD o Co.zero).num) :
    Calls Try.prog 73 #[.int .i64 o, .int .i64 x, .pointer (some ⟨k1, 0, none⟩), .pointer (some ⟨k2, 0, none⟩)] w fun e w' => e = .returned (.bool (Tr.binds ((Co.tree l).getD o Nd.zero) x && (((Co.tree l).getD o Nd.zero).text.toList == (Co.slotT (l.getD i Co.zero).num).toList))) ∧ Below w.heap.size w w' := by
  rw [Co.tree_getD l ho, Co.nd_binds, show (Co.nd (l.getD o Co.zero)).text = Co.slotT (l.getD o Co.zero).num from rfl, Co.slotT_eq hno hni]
  obtain ⟨f0, f1, f2, f3, f4, vg, f5, _, _⟩ := hrow o ho
  have ft := (hrow i hi).2.2.2.2.1
  have hoI : (o : Int) < (l.length : Int) := by omega
  have hiI : (i : Int) < (l.length : Int) := by omega
  have hbne : b ≠ w.heap.size := by omega
  have hk1n : k1 ≠ w.heap.size := by omega
  have hk2n : k2 ≠ w.heap.size := by omega
  have HB : Hid (∀ q, Below w.heap.size w (w.alloc q)) := fun q => (Below.refl _ _).alloc (Nat.le_refl _) q
  have h1a : ∀ q, (w.alloc q).cell? ⟨k1, 0, none⟩ = some (.slice (some ⟨b, 0, none⟩) l.length l.length) := fun q => ((HB.out q).cell hk1).trans h1
  have h2a : ∀ q, (w.alloc q).cell? ⟨k2, 0, none⟩ = some (.int .i64 i) := fun q => ((HB.out q).cell hk2).trans h2
  have fta : ∀ q, (w.alloc q).cell? ⟨b, i * 6 + 4, none⟩ = some (.int .i64 (l.getD i Co.zero).num) := fun q => ((HB.out q).cell hb).trans ft
  clear hrow ft hni hno
  generalize (l.getD i Co.zero).num = t at *
  generalize l.getD o Co.zero = n at *
  have hbs : Hid (Co.binds n x = ((n.op == 14 && n.b == (x : Int)) || (n.op == 13 && n.c == (x : Int)))) := rfl
  by_cases h20 : n.op = 14
  · have g20 : (n.op == 14) = true := by simp [h20]
    have g19 : (n.op == 13) = false := by simp [h20]
    clear h20
    cases gb : (n.b == (x : Int)) with
    | true =>
      cases gt : (n.num == t) with
      | true =>
        have fin := hide (show (Co.binds n x && true) = true by rw [hbs.out]; simp [g20, g19, gb])
        clear hbs
        go_enter Try.func73, Try.ntmps73
        go_wp2_with fail
        go_quiet (fail)
        go_wp2_with fail
        go_ret
        exact ⟨ret_bool (unhide fin).symm, below_drewN (HB.out _) _⟩
      | false =>
        have fin := hide (show (Co.binds n x && false) = false by simp)
        clear hbs
        go_enter Try.func73, Try.ntmps73
        go_wp2_with fail
        go_quiet (fail)
        go_wp2_with fail
        go_ret
        exact ⟨ret_bool (unhide fin).symm, below_drewN (HB.out _) _⟩
    | false =>
      have fin := hide (show (Co.binds n x && (n.num == t)) = false by rw [hbs.out]; simp [g20, g19, gb])
      clear hbs
      go_enter Try.func73, Try.ntmps73
      go_wp2_with fail
      go_quiet (fail)
      go_wp2_with fail
      go_ret
      exact ⟨ret_bool (unhide fin).symm, below_drewN (HB.out _) _⟩
  · have g20 : (n.op == 14) = false := by simpa using h20
    by_cases h19 : n.op = 13
    · have g19 : (n.op == 13) = true := by simp [h19]
      clear h20 h19
      cases gc : (n.c == (x : Int)) with
      | true =>
        cases gt : (n.num == t) with
        | true =>
          have fin := hide (show (Co.binds n x && true) = true by rw [hbs.out]; simp [g20, g19, gc])
          clear hbs
          go_enter Try.func73, Try.ntmps73
          go_wp2_with fail
          go_quiet (fail)
          go_wp2_with fail
          go_ret
          exact ⟨ret_bool (unhide fin).symm, below_drewN (HB.out _) _⟩
        | false =>
          have fin := hide (show (Co.binds n x && false) = false by simp)
          clear hbs
          go_enter Try.func73, Try.ntmps73
          go_wp2_with fail
          go_quiet (fail)
          go_wp2_with fail
          go_ret
          exact ⟨ret_bool (unhide fin).symm, below_drewN (HB.out _) _⟩
      | false =>
        have fin := hide (show (Co.binds n x && (n.num == t)) = false by rw [hbs.out]; simp [g20, g19, gc])
        clear hbs
        go_enter Try.func73, Try.ntmps73
        go_wp2_with fail
        go_quiet (fail)
        go_wp2_with fail
        go_ret
        exact ⟨ret_bool (unhide fin).symm, below_drewN (HB.out _) _⟩
    · have g19 : (n.op == 13) = false := by simpa using h19
      clear h20 h19
      have fin := hide (show (Co.binds n x && (n.num == t)) = false by rw [hbs.out]; simp [g20, g19])
      clear hbs
      go_enter Try.func73, Try.ntmps73
      go_wp2_with fail
      go_quiet (fail)
      go_wp2_with fail
      go_ret
      exact ⟨ret_bool (unhide fin).symm, below_drewN (HB.out _) _⟩

set_option maxRecDepth 100000 in
set_option maxHeartbeats 2000000 in
theorem isSlotBound_any (b g : Nat) (l : List Co) (xs : List Value) (i : Nat) (w : World) (hrow : Co.Row w b l) (hb : b < w.heap.size) (hown : Own w g 2 xs) (hh : Tr.Holds (Co.tree l) xs (Tr.hold (Co.tree l))) (hi : i < l.length) (h900 : l.length ≤ 900) (hf : Tr.Fine (Co.tree l)) (hnum : ∀ j, j < l.length → 0 ≤ (l.getD j Co.zero).num) :
    Calls Try.prog 63 #[.slice (some ⟨b, 0, none⟩) l.length l.length, .slice (some ⟨g, 0, none⟩) l.length l.length, .int .i64 i] w fun e w' => e = .returned (.bool (Tr.bound (Co.tree l) i (Co.slotT (l.getD i Co.zero).num))) ∧ Below w.heap.size w w' := by
  obtain ⟨w2, hw2⟩ : ∃ w2, w2 = (w.alloc (.cells #[.slice (some ⟨b, 0, none⟩) l.length l.length] 27)).alloc (.cells #[.int .i64 i] 2) := ⟨_, rfl⟩
  have B2 : Below w.heap.size w w2 := by rw [hw2]; exact ((Below.refl _ _).alloc (Nat.le_refl _) _).alloc (by simp) _
  have O1 : Own w2 w.heap.size 27 [.slice (some ⟨b, 0, none⟩) l.length l.length] := by rw [hw2]; exact Own.alloc ⟨_, heap_alloc_new _ _, rfl⟩ _
  have O2 : Own w2 (w.heap.size + 1) 2 [.int .i64 i] := by rw [hw2]; exact ⟨_, by simpa using heap_alloc_new (w.alloc (.cells #[.slice (some ⟨b, 0, none⟩) l.length l.length] 27)) (.cells #[.int .i64 i] 2), rfl⟩
  have hlt := Co.tree_length l
  have HQ := hide (isHeld_core g w.heap.size (w.heap.size + 1) (Co.tree l) (Co.slotT (l.getD i Co.zero).num) xs i w2 (hown.below B2 hown.lt) hh (by omega) (by omega) hf (fun o x W ho hx hW =>
    slotAsk_any b w.heap.size (w.heap.size + 1) l i o x W (hrow.below (B2.trans (hW.mono B2.size)) hb) (Nat.lt_of_lt_of_le hb (Nat.le_trans B2.size hW.size)) ((O1.below hW O1.lt).cell 0) ((O2.below hW O2.lt).cell 0) (Nat.lt_of_lt_of_le O1.lt hW.size) (Nat.lt_of_lt_of_le O2.lt hW.size) hi (by omega) (by omega) (by omega) (hnum i hi) (hnum o (by omega))))
  rw [hlt] at HQ
  clear hrow hown hh hf O1 O2 hnum
  generalize Tr.bound (Co.tree l) i (Co.slotT (l.getD i Co.zero).num) = q at *
  go_enter Try.func63, Try.ntmps63
  go_wp2_with fail
  rw [← hw2]
  refine (unhide HQ).mono ?_
  rintro e w3 ⟨rfl, hb3⟩
  have B3 : Below w.heap.size w w3 := B2.trans (hb3.mono B2.size)
  clear hb3 HQ hw2
  go_wp2_with fail
  go_ret
  exact ⟨rfl, B3⟩

theorem known_step (l : List Co) (k : Nat) : Co.known l (k + 1) = (Co.known l k && !Co.unk l k) := by
  unfold Co.known
  rw [List.range_succ, List.all_append]
  simp
theorem known_no {l : List Co} {k m : Nat} (h : Co.known l k = false) (hm : k ≤ m) : Co.known l m = false := by
  induction m with
  | zero => have : k = 0 := by omega
            subst this; exact h
  | succ m ih =>
    by_cases e : k = m + 1
    · subst e; exact h
    · rw [known_step, ih (by omega)]; rfl

set_option maxRecDepth 100000 in
set_option maxHeartbeats 2000000 in
theorem areSlotsBound_any (b g : Nat) (l : List Co) (xs : List Value) (w : World) (hrow : Co.Row w b l) (hb : b < w.heap.size) (hown : Own w g 2 xs) (hh : Tr.Holds (Co.tree l) xs (Tr.hold (Co.tree l))) (h900 : l.length ≤ 900) (hf : Tr.Fine (Co.tree l)) (hnum : ∀ j, j < l.length → 0 ≤ (l.getD j Co.zero).num) :
    Calls Try.prog 48 #[.slice (some ⟨b, 0, none⟩) l.length l.length, .slice (some ⟨g, 0, none⟩) l.length l.length] w fun e w' => e = .returned (.bool (Co.known l l.length)) ∧ Below w.heap.size w w' := by
  have HR := hide hrow
  have HQ := hide (fun i (hi : i < l.length) W (hW : Below w.heap.size w W) => isSlotBound_any b g l xs i W (hrow.below hW hb) (Nat.lt_of_lt_of_le hb hW.size) (hown.below hW hown.lt) hh hi h900 hf hnum)
  clear hrow hown hh hf hnum
  go_enter Try.func48, Try.ntmps48
  go_wp2_with fail
  go_loopg [9] l.length (fun gh s9 wr => ∃ k : Nat, Hid (gh = l.length - k) ∧ s9 = .int .i64 k ∧ k ≤ l.length ∧ Hid (Co.known l k = true) ∧ Below w.heap.size w wr)
  case atStart => exact ⟨0, rfl, rfl, by omega, rfl, Below.refl _ _⟩
  case round =>
    obtain ⟨k, hg, rfl, hk, hkn, hbel⟩ := hrel
    by_cases hlt : k < l.length
    · have hltI : (k : Int) < (l.length : Int) := by omega
      obtain ⟨f0, f1, f2, f3, f4, vg, f5, _, _⟩ := ((unhide HR).below hbel hb) k hlt
      have hstep := hide (known_step l k)
      have hunk := hide (show Co.unk l k = ((l.getD k Co.zero).op == 15 && !Tr.bound (Co.tree l) k (Co.slotT (l.getD k Co.zero).num)) from rfl)
      have HB : Hid (∀ o, Below w.heap.size w (wr.alloc o)) := fun o => hbel.alloc hbel.size o
      have HQ2 := hide (fun o => (unhide HQ) k hlt (wr.alloc o) (HB.out o))
      have hcn := hide (fun (h : Co.known l (k + 1) = false) => known_no h (show k + 1 ≤ l.length by omega))
      clear hlt
      generalize Tr.bound (Co.tree l) k (Co.slotT (l.getD k Co.zero).num) = q at *
      generalize l.getD k Co.zero = n at *
      by_cases h15 : n.op = 15
      · have g15 : (n.op == 15) = true := by simp [h15]
        clear h15
        go_wp2_with fail
        refine ((unhide HQ2) _).mono ?_
        rintro e w2 ⟨rfl, hb2⟩
        have B2 : Below w.heap.size w w2 := (HB.out _).trans (hb2.mono (HB.out _).size)
        clear HQ2 hb2
        cases q with
        | true =>
          have hn2 := hide (show Co.known l (k + 1) = true by rw [unhide hstep, hkn.out, unhide hunk]; simp)
          go_wp2_with fail
          go_roundg (l.length - (k + 1))
          case rel => exact ⟨k + 1, rfl, by go_num, by omega, unhide hn2, B2⟩
          case measure => have := hg.out; omega
        | false =>
          have fin := hide ((unhide hcn) (show Co.known l (k + 1) = false by rw [unhide hstep, hkn.out, unhide hunk, g15]; rfl))
          go_wp2_with fail
          go_ret
          exact ⟨ret_bool (unhide fin).symm, B2⟩
      · have g15 : (n.op == 15) = false := by simpa using h15
        have hn2 := hide (show Co.known l (k + 1) = true by rw [unhide hstep, hkn.out, unhide hunk, g15]; rfl)
        clear h15 HQ2
        go_wp2_with fail
        go_roundg (l.length - (k + 1))
        case rel => exact ⟨k + 1, rfl, by go_num, by omega, unhide hn2, HB.out _⟩
        case measure => have := hg.out; omega
    · have hke : k = l.length := by omega
      have fin := hide (show Co.known l l.length = true by rw [← hke]; exact hkn.out)
      clear hke
      go_wp2_with fail
      go_ret
      exact ⟨ret_bool (unhide fin).symm, hbel⟩

end Go.Proofs.Ytkjmnkbiflkpdaa

namespace Go.Proofs.Ytkjmnkbiflkpdaa
open Go.RowKit
set_option linter.unusedVariables false
set_option linter.unusedSimpArgs false


theorem co_mem (l : List Co) (k : Nat) (hk : k < l.length) : l.getD k Co.zero ∈ l := by
  rw [List.getD_eq_getElem?_getD, List.getElem?_eq_getElem hk]; exact List.getElem_mem hk
theorem co_ops {l : List Co} (h : Co.nf l l.length = 0) : ∀ i, i < l.length → 1 ≤ (l.getD i Co.zero).op ∧ (l.getD i Co.zero).op ≤ 17 := fun i hi => (Co.node_parts (Co.nf_all h i hi)).1
theorem co_nums {l : List Co} (h : Co.nf l l.length = 0) : ∀ i, i < l.length → 0 ≤ (l.getD i Co.zero).num := fun i hi => by
  have := (Co.node_parts (Co.nf_all h i hi)).2.2.2.1
  have h2 : 0 ≤ Co.low (l.getD i Co.zero).op := by unfold Co.low; split <;> omega
  omega
set_option maxRecDepth 100000 in
set_option maxHeartbeats 4000000 in
theorem implCoreFault_any (b : Nat) (l : List Co) (w : World) (hrow : Co.Row w b l) (hb : b < w.heap.size) (hn : l.length ≤ 1048576) (hsz : ∀ i, i < l.length → (l.getD i Co.zero).val.length ≤ 1048576) (hok : ∀ c ∈ l, c.ok) :
    Calls Try.prog 24 #[.slice (some ⟨b, 0, none⟩) l.length l.length] w fun e w' => e = .returned (.int .i64 (Co.fault l)) ∧ Below w.heap.size w w' := by
  by_cases hm : l.length < 1 ∨ 900 < l.length
  · have fin := hide (Co.fault_many hm)
    rcases hm with hm | hm
    · have h0 : l.length = 0 := by omega
      rw [h0]
      clear hrow hsz hn h0 hm hok
      go_enter Try.func24, Try.ntmps24
      go_wp2_with fail
      go_ret
      exact ⟨ret_int (unhide fin).symm, Below.refl _ _⟩
    · have h1 : ((l.length : Int) == 0) = false := beq_eq_false_iff_ne.2 (by omega)
      have h2 : (l.length : Int) > 900 := by omega
      clear hrow hsz hok
      go_enter Try.func24, Try.ntmps24
      go_wp2_with fail
      go_ret
      exact ⟨ret_int (unhide fin).symm, Below.refl _ _⟩
  have h1 : ((l.length : Int) == 0) = false := beq_eq_false_iff_ne.2 (by omega)
  have h2 : decide ((l.length : Int) > 900) = false := decide_eq_false (by omega)
  have h900 : l.length ≤ 900 := by omega
  have h0 : 0 < l.length := by omega
  have HM := hide hm
  have HR := hide hrow
  have HS := hide hsz
  have HK := hide hok
  clear hm hrow hsz hok
  go_enter Try.func24, Try.ntmps24
  go_wp2_with fail
  go_loopg [17] l.length (fun gh s17 wr => ∃ k : Nat, Hid (gh = l.length - k) ∧ s17 = .int .i64 k ∧ k ≤ l.length ∧ Hid (Co.nf l k = 0) ∧ Below w.heap.size w wr)
  case atStart => exact ⟨0, rfl, rfl, by omega, rfl, Below.refl _ _⟩
  case round =>
    obtain ⟨k, hg, rfl, hk, hnf, hbel⟩ := hrel
    by_cases hlt : k < l.length
    · have hltI : (k : Int) < (l.length : Int) := by omega
      obtain ⟨f0, f1, f2, f3, f4, vg, f5, hvg, hvr⟩ := ((unhide HR).below hbel hb) k hlt
      have HC := hide (fun o => coreNodeFault_any l k (l.getD k Co.zero) vg (wr.alloc o) rfl (hvr.below ((Below.refl wr.heap.size wr).alloc (Nat.le_refl _) o) hvg) (by simp; omega) ((unhide HS) k hlt) ((unhide HK) _ (co_mem l k hlt)).2.2.2.2.2 (by omega))
      have hstop := hide (fun h => Co.fault_node (unhide HM) hlt hnf.out h)
      have hnext := hide (fun h => Co.nf_next hnf.out h)
      have HB : Hid (∀ o, Below w.heap.size w (wr.alloc o)) := fun o => hbel.alloc hbel.size o
      generalize Co.nodeF l k = c at HC hstop hnext
      generalize l.getD k Co.zero = n at *
      clear hlt hvr
      go_wp2_with fail
      refine ((unhide HC) _).mono ?_
      rintro e w2 ⟨rfl, hb2⟩
      have B2 : Below w.heap.size w w2 := (HB.out _).trans (hb2.mono (HB.out _).size)
      by_cases hc : c = 0
      · have hn2 := hide ((unhide hnext) hc)
        have g1 : (c != 0) = false := by simp [hc]
        clear hc hnext hstop HC
        go_wp2_with fail
        go_roundg (l.length - (k + 1))
        case rel => exact ⟨k + 1, rfl, by go_num, by omega, unhide hn2, B2⟩
        case measure => have := hg.out; omega
      · have fin := hide ((unhide hstop) hc)
        have g1 : (c != 0) = true := by simpa using hc
        clear hc hnext hstop HC
        go_wp2_with fail
        go_ret
        exact ⟨ret_int (unhide fin).symm, B2⟩
    · have hke : k = l.length := by omega
      subst hke
      have HNF := hide hnf.out
      have HFI := hide (Co.fine_of hnf.out)
      have htl := Co.tree_length l
      have HTL := hide htl
      clear htl
      go_wp2_with fail
      refine (corePlaces_any b l wr ((unhide HR).below hbel hb) (Nat.lt_of_lt_of_le hb hbel.size) h900 (co_ops (unhide HNF))).mono ?_
      rintro e w2 ⟨v, gs, rfl, hgl, hnp, hb2⟩
      obtain ⟨g, cap, rfl, hcap, hg2⟩ := hnp.some (by omega)
      rw [hgl] at hcap hnp ⊢
      have HNP := hide (show Tr.NP w2 wr.heap.size (.slice (some ⟨g, 0, none⟩) (Co.tree l).length cap) (Co.tree l) gs by rw [unhide HTL]; exact hnp)
      have HGL := hide (hgl.trans (unhide HTL).symm)
      have HCA := hide (show (Co.tree l).length ≤ cap by rw [unhide HTL]; exact hcap)
      have HT0 := hide (show 0 < (Co.tree l).length by rw [unhide HTL]; exact h0)
      have HT1 := hide (show (Co.tree l).length ≤ 1000 by rw [unhide HTL]; omega)
      clear hnp hgl
      have B2 : Below w.heap.size w w2 := hbel.trans (hb2.mono hbel.size)
      have HST := hide (standInOrder_big _ g cap gs (Co.tree l) w2 (unhide HNP) (unhide HGL) (unhide HCA) hg2 (unhide HT1) (unhide HT0))
      rw [unhide HTL] at HST
      go_wp2_with fail
      refine (unhide HST).mono ?_
      rintro e w3 ⟨rfl, hb3⟩
      have B3 : Below w.heap.size w w3 := B2.trans (hb3.mono B2.size)
      clear HST
      cases ho : Tr.inOrder (Co.tree l) with
      | false =>
        have fin := hide (Co.fault_order (unhide HM) (unhide HNF) ho)
        go_wp2_with fail
        go_ret
        exact ⟨ret_int (unhide fin).symm, B3⟩
      | true =>
        have HO := hide ho
        clear ho
        have HNP3 := hide ((unhide HNP).below hb3)
        have hg3 := Nat.lt_of_lt_of_le hg2 hb3.size
        have HHP := hide (holderPlaces_big _ g cap gs (Co.tree l) w3 (unhide HNP3) (unhide HGL) (unhide HCA) hg3 (unhide HT1) (unhide HT0) (unhide HFI))
        rw [unhide HTL] at HHP
        go_wp2_with fail
        refine (unhide HHP).mono ?_
        rintro e w4 ⟨rfl, ⟨xs, hox, hhx⟩, hb4⟩
        have B4 : Below w.heap.size w w4 := B3.trans (hb4.mono B3.size)
        have HAB := hide (areSlotsBound_any b w3.heap.size l xs w4 ((unhide HR).below B4 hb) (Nat.lt_of_lt_of_le hb B4.size) hox hhx h900 (unhide HFI) (co_nums (unhide HNF)))
        have HNP4 := hide ((unhide HNP3).below hb4)
        have hg4 := Nat.lt_of_lt_of_le hg3 hb4.size
        clear HHP hox hhx hb4 HNP3
        go_wp2_with fail
        refine (unhide HAB).mono ?_
        rintro e w5 ⟨rfl, hb5⟩
        have B5 : Below w.heap.size w w5 := B4.trans (hb5.mono B4.size)
        cases hkn : Co.known l l.length with
        | false =>
          have fin := hide (Co.fault_known (unhide HM) (unhide HNF) (unhide HO) hkn)
          go_wp2_with fail
          go_ret
          exact ⟨ret_int (unhide fin).symm, B5⟩
        | true =>
          have HKN := hide hkn
          clear hkn HAB
          have HDL := hide (depthOfLast_big _ g cap gs (Co.tree l) w5 ((unhide HNP4).below hb5) (unhide HGL) (unhide HCA) (Nat.lt_of_lt_of_le hg4 hb5.size) (unhide HT1) (unhide HT0) (unhide HFI))
          rw [unhide HTL] at HDL
          go_wp2_with fail
          refine (unhide HDL).mono ?_
          rintro e w6 ⟨rfl, hb6⟩
          have B6 : Below w.heap.size w w6 := B5.trans (hb6.mono B5.size)
          have hd1 := hide (fun h => Co.fault_deep (unhide HM) (unhide HNF) (unhide HO) (unhide HKN) h)
          have hd2 := hide (fun h => Co.fault_ok (unhide HM) (unhide HNF) (unhide HO) (unhide HKN) h)
          clear HDL
          generalize Tr.dep (Co.tree l) (l.length - 1) = d at *
          by_cases hd : 120 < d
          · have fin := hide ((unhide hd1) hd)
            have g1 : (d : Int) > 120 := by omega
            go_wp2_with fail
            go_ret
            exact ⟨ret_int (unhide fin).symm, B6⟩
          · have fin := hide ((unhide hd2) hd)
            have g1 : ¬ (d : Int) > 120 := by omega
            go_wp2_with fail
            go_ret
            exact ⟨ret_int (unhide fin).symm, B6⟩

end Go.Proofs.Ytkjmnkbiflkpdaa
