/-
  Both SlotsOfs: one more than the greatest slot.
-/
import Derived.Test.YtcolohilnmikiaaCorG
import Derived.Test.YtcolohilnmikiaaCorF
import Derived.Test.YtcolohilnmikiaaTreH
namespace Go.Proofs.Ytcolohilnmikiaa
open Go.RowKit
set_option linter.unusedVariables false
set_option linter.unusedSimpArgs false


namespace Co
def binder (n : Co) : Bool := n.op == 14 || n.op == 13
def slots (l : List Co) : Nat → Int
  | 0 => 0
  | k + 1 => if binder (l.getD k zero) = true then max (slots l k) ((l.getD k zero).num + 1) else slots l k
def slotsOut (l : List Co) : Int × Int := if fault l ≠ 0 then (fault l, 0) else (0, slots l l.length)
theorem fault_parts {l : List Co} (h : fault l = 0) : l.length ≤ 900 ∧ nf l l.length = 0 := by
  unfold fault at h
  split at h
  · cases h
  split at h
  · rename_i h2; exact absurd h h2
  · rename_i h1 h2; exact ⟨by omega, by simpa using h2⟩
theorem num_bd {l : List Co} (h : nf l l.length = 0) {i : Nat} (hi : i < l.length) : 0 ≤ (l.getD i zero).num ∧ (l.getD i zero).num ≤ 59 := by
  have hp := (node_parts (nf_all h i hi)).2.2.2
  have h1 : 0 ≤ low (l.getD i zero).op := by unfold low; split <;> omega
  have h2 : high (l.getD i zero).op ≤ 59 := by unfold high; split <;> (try split) <;> (try split) <;> omega
  omega
end Co
theorem ires_co {w : World} {b : Nat} {x y : Int} (h : Own w b 30 [.int .i64 x, .int .i64 y]) : w.cell? ⟨b, 0, none⟩ = some (.int .i64 x) ∧ w.cell? ⟨b, 1, none⟩ = some (.int .i64 y) := ⟨h.cell 0, h.cell 1⟩

set_option maxRecDepth 100000 in
set_option maxHeartbeats 4000000 in
theorem specSlotsOf_any (b : Nat) (l : List Co) (w : World) (hrow : Co.Row w b l) (hb : b < w.heap.size) (hn : l.length ≤ 1048576) (hsz : ∀ i, i < l.length → (l.getD i Co.zero).val.length ≤ 1048576) (hok : ∀ c ∈ l, c.ok) :
    Calls Try.prog 46 #[.slice (some ⟨b, 0, none⟩) l.length l.length] w fun e w' => e = .returned (.agg #[.int .i64 (Co.slotsOut l).1, .int .i64 (Co.slotsOut l).2]) ∧ Below w.heap.size w w' := by
  have HR := hide hrow
  have HS := hide hsz
  have HK := hide hok
  clear hrow hsz hok
  obtain ⟨w0, hw0⟩ : ∃ w0, w0 = w.alloc (.cells #[.int .i64 0, .int .i64 0] 30) := ⟨_, rfl⟩
  have B0 : Below w.heap.size w w0 := by rw [hw0]; exact (Below.refl _ _).alloc (Nat.le_refl _) _
  have O0 : Own w0 w.heap.size 30 [.int .i64 0, .int .i64 0] := by rw [hw0]; exact ⟨_, heap_alloc_new _ _, rfl⟩
  have HC := hide (specCoreFault_any b l w0 ((unhide HR).below B0 hb) (Nat.lt_of_lt_of_le hb B0.size) hn (unhide HS) (unhide HK))
  go_enter Try.func46, Try.ntmps46
  go_wp2_with fail
  rw [← hw0]
  clear hw0
  refine (unhide HC).mono ?_
  rintro e w1 ⟨rfl, hb1⟩
  have B1 : Below w.heap.size w w1 := B0.trans (hb1.mono B0.size)
  have O1 := O0.below hb1 O0.lt
  clear O0 B0 hb1 HC
  by_cases hf : Co.fault l = 0
  case neg =>
    have fin := hide (show Co.slotsOut l = (Co.fault l, 0) by unfold Co.slotsOut; rw [if_pos hf])
    generalize Co.fault l = q at *
    have g1 : (q != 0) = true := by simpa using hf
    obtain ⟨c0, c1⟩ := ires_co O1
    have z0 := O1.frozen 0
    have z1 := O1.frozen 1
    have O2 := hide ((O1.set 0 (.int .i64 q)).set 1 (.int .i64 0))
    go_wp2_with fail
    obtain ⟨q0, q1⟩ := ires_co (x := q) (y := 0) (unhide O2)
    clear c0 c1 z0 z1 O2
    have B2 : Below w.heap.size w ((w1.setCell ⟨w.heap.size, 0, none⟩ (.int .i64 q)).setCell ⟨w.heap.size, 1, none⟩ (.int .i64 0)) := (B1.setCell (Nat.le_refl _) _).setCell (Nat.le_refl _) _
    generalize (w1.setCell ⟨w.heap.size, 0, none⟩ (.int .i64 q)).setCell ⟨w.heap.size, 1, none⟩ (.int .i64 0) = WW at *
    refine bodyPost_ret (v := .agg #[.int .i64 q, .int .i64 0]) (by simp [results, Try.results46, go_sem, q0, q1]; try rfl) rfl ⟨by rw [unhide fin], B2⟩
  case pos =>
  obtain ⟨h900, hnf⟩ := Co.fault_parts hf
  have HNB := hide (fun i (hi : i < l.length) => Co.num_bd hnf hi)
  have fin0 := hide (show Co.slotsOut l = (0, Co.slots l l.length) by unfold Co.slotsOut; rw [if_neg (by simpa using hf)])
  rw [hf]
  clear hf hnf
  go_wp2_with fail
  go_loopg [4, 5] l.length (fun gh s4 s5 wr => ∃ (k : Nat) (q : Int), Hid (gh = l.length - k) ∧ s5 = .int .i64 k ∧ k ≤ l.length ∧ s4 = .int .i64 q ∧ 0 ≤ q ∧ q ≤ 60 ∧ Hid (q = Co.slots l k) ∧ Below w1.heap.size w1 wr)
  case atStart => exact ⟨0, 0, rfl, rfl, by omega, rfl, by omega, by omega, rfl, Below.refl _ _⟩
  case round =>
    obtain ⟨k, q, hg, rfl, hk, rfl, hq0, hq1, hqd, hbel⟩ := hrel
    have BW : Below w.heap.size w wr := B1.trans (hbel.mono B1.size)
    by_cases hlt : k < l.length
    · have hltI : (k : Int) < (l.length : Int) := by omega
      obtain ⟨f0, f1, f2, f3, f4, vg, f5, _, _⟩ := ((unhide HR).below BW hb) k hlt
      have hnb := (unhide HNB) k hlt
      have hs := hide (show Co.slots l (k + 1) = if Co.binder (l.getD k Co.zero) = true then max (Co.slots l k) ((l.getD k Co.zero).num + 1) else Co.slots l k from rfl)
      have HB : Hid (∀ o, Below w1.heap.size w1 (wr.alloc o)) := fun o => hbel.alloc hbel.size o
      generalize l.getD k Co.zero = n at *
      clear hlt
      have hyes : Hid (Co.binder n = true → max q (n.num + 1) = Co.slots l (k + 1)) := fun h => by rw [unhide hs, if_pos h, hqd.out]
      have hnot : Hid (Co.binder n = false → q = Co.slots l (k + 1)) := fun h => by rw [unhide hs, if_neg (by rw [h]; decide), hqd.out]
      have hmb : 0 ≤ max q (n.num + 1) ∧ max q (n.num + 1) ≤ 60 := by omega
      clear hs
      by_cases h14 : n.op = 14
      · skip
        have hn2 := hide (hyes.out (by unfold Co.binder; rw [h14]; rfl))
        have g14 : (n.op == 14) = true := by simp [h14]
        clear h14
        clear hyes hnot
        generalize hM : max q (n.num + 1) = M at *
        go_wp2_with fail
        refine (l1Max_tr _ _ _).mono ?_
        rintro e w2 ⟨rfl, hw2⟩
        subst w2
        go_wp2_with fail
        go_roundg (l.length - (k + 1))
        case rel => exact ⟨k + 1, _, rfl, by go_num, by omega, rfl, hmb.1, hmb.2, unhide hn2, hbel⟩
        case measure => have := hg.out; omega
      · have g14 : (n.op == 14) = false := by simpa using h14
        by_cases h13 : n.op = 13
        · skip
          have hn2 := hide (hyes.out (by unfold Co.binder; rw [h13]; rfl))
          have g13 : (n.op == 13) = true := by simp [h13]
          clear h14 h13
          clear hyes hnot
          generalize hM : max q (n.num + 1) = M at *
          go_wp2_with fail
          refine (l1Max_tr _ _ _).mono ?_
          rintro e w2 ⟨rfl, hw2⟩
          subst w2
          go_wp2_with fail
          go_roundg (l.length - (k + 1))
          case rel => exact ⟨k + 1, _, rfl, by go_num, by omega, rfl, hmb.1, hmb.2, unhide hn2, hbel⟩
          case measure => have := hg.out; omega
        · have g13 : (n.op == 13) = false := by simpa using h13
          have hn2 := hide (hnot.out (by unfold Co.binder; rw [g14, g13]; rfl))
          clear h14 h13 hyes hnot
          go_wp2_with fail
          go_roundg (l.length - (k + 1))
          case rel => exact ⟨k + 1, q, rfl, by go_num, by omega, rfl, hq0, hq1, unhide hn2, hbel⟩
          case measure => have := hg.out; omega
    · have hke : k = l.length := by omega
      have fin := hide (show Co.slotsOut l = (0, q) by rw [unhide fin0, hqd.out, hke])
      have O3 := O1.below hbel O1.lt
      clear hke O1
      obtain ⟨c0, c1⟩ := ires_co O3
      have z0 := O3.frozen 0
      have z1 := O3.frozen 1
      have O2 := hide ((O3.set 0 (.int .i64 0)).set 1 (.int .i64 q))
      go_wp2_with fail
      obtain ⟨q0, q1⟩ := ires_co (x := 0) (y := q) (unhide O2)
      clear c0 c1 z0 z1 O2
      have B2 : Below w.heap.size w ((wr.setCell ⟨w.heap.size, 0, none⟩ (.int .i64 0)).setCell ⟨w.heap.size, 1, none⟩ (.int .i64 q)) := (BW.setCell (Nat.le_refl _) _).setCell (Nat.le_refl _) _
      generalize (wr.setCell ⟨w.heap.size, 0, none⟩ (.int .i64 0)).setCell ⟨w.heap.size, 1, none⟩ (.int .i64 q) = WW at *
      refine bodyPost_ret (v := .agg #[.int .i64 0, .int .i64 q]) (by simp [results, Try.results46, go_sem, q0, q1]; try rfl) rfl ⟨by rw [unhide fin], B2⟩

set_option maxRecDepth 100000 in
set_option maxHeartbeats 4000000 in
theorem implSlotsOf_any (b : Nat) (l : List Co) (w : World) (hrow : Co.Row w b l) (hb : b < w.heap.size) (hn : l.length ≤ 1048576) (hsz : ∀ i, i < l.length → (l.getD i Co.zero).val.length ≤ 1048576) (hok : ∀ c ∈ l, c.ok) :
    Calls Try.prog 47 #[.slice (some ⟨b, 0, none⟩) l.length l.length] w fun e w' => e = .returned (.agg #[.int .i64 (Co.slotsOut l).1, .int .i64 (Co.slotsOut l).2]) ∧ Below w.heap.size w w' := by
  have HR := hide hrow
  have HS := hide hsz
  have HK := hide hok
  clear hrow hsz hok
  obtain ⟨w0, hw0⟩ : ∃ w0, w0 = w.alloc (.cells #[.int .i64 0, .int .i64 0] 30) := ⟨_, rfl⟩
  have B0 : Below w.heap.size w w0 := by rw [hw0]; exact (Below.refl _ _).alloc (Nat.le_refl _) _
  have O0 : Own w0 w.heap.size 30 [.int .i64 0, .int .i64 0] := by rw [hw0]; exact ⟨_, heap_alloc_new _ _, rfl⟩
  have HC := hide (implCoreFault_any b l w0 ((unhide HR).below B0 hb) (Nat.lt_of_lt_of_le hb B0.size) hn (unhide HS) (unhide HK))
  go_enter Try.func47, Try.ntmps47
  go_wp2_with fail
  rw [← hw0]
  clear hw0
  refine (unhide HC).mono ?_
  rintro e w1 ⟨rfl, hb1⟩
  have B1 : Below w.heap.size w w1 := B0.trans (hb1.mono B0.size)
  have O1 := O0.below hb1 O0.lt
  clear O0 B0 hb1 HC
  by_cases hf : Co.fault l = 0
  case neg =>
    have fin := hide (show Co.slotsOut l = (Co.fault l, 0) by unfold Co.slotsOut; rw [if_pos hf])
    generalize Co.fault l = q at *
    have g1 : (q != 0) = true := by simpa using hf
    obtain ⟨c0, c1⟩ := ires_co O1
    have z0 := O1.frozen 0
    have z1 := O1.frozen 1
    have O2 := hide ((O1.set 0 (.int .i64 q)).set 1 (.int .i64 0))
    go_wp2_with fail
    obtain ⟨q0, q1⟩ := ires_co (x := q) (y := 0) (unhide O2)
    clear c0 c1 z0 z1 O2
    have B2 : Below w.heap.size w ((w1.setCell ⟨w.heap.size, 0, none⟩ (.int .i64 q)).setCell ⟨w.heap.size, 1, none⟩ (.int .i64 0)) := (B1.setCell (Nat.le_refl _) _).setCell (Nat.le_refl _) _
    generalize (w1.setCell ⟨w.heap.size, 0, none⟩ (.int .i64 q)).setCell ⟨w.heap.size, 1, none⟩ (.int .i64 0) = WW at *
    refine bodyPost_ret (v := .agg #[.int .i64 q, .int .i64 0]) (by simp [results, Try.results47, go_sem, q0, q1]; try rfl) rfl ⟨by rw [unhide fin], B2⟩
  case pos =>
  obtain ⟨h900, hnf⟩ := Co.fault_parts hf
  have HNB := hide (fun i (hi : i < l.length) => Co.num_bd hnf hi)
  have fin0 := hide (show Co.slotsOut l = (0, Co.slots l l.length) by unfold Co.slotsOut; rw [if_neg (by simpa using hf)])
  rw [hf]
  clear hf hnf
  go_wp2_with fail
  go_loopg [4, 15] l.length (fun gh s4 s15 wr => ∃ (k : Nat) (q : Int), Hid (gh = l.length - k) ∧ s15 = .int .i64 k ∧ k ≤ l.length ∧ s4 = .int .i64 q ∧ 0 ≤ q ∧ q ≤ 60 ∧ Hid (q = Co.slots l k) ∧ Below w1.heap.size w1 wr)
  case atStart => exact ⟨0, 0, rfl, rfl, by omega, rfl, by omega, by omega, rfl, Below.refl _ _⟩
  case round =>
    obtain ⟨k, q, hg, rfl, hk, rfl, hq0, hq1, hqd, hbel⟩ := hrel
    have BW : Below w.heap.size w wr := B1.trans (hbel.mono B1.size)
    by_cases hlt : k < l.length
    · have hltI : (k : Int) < (l.length : Int) := by omega
      obtain ⟨f0, f1, f2, f3, f4, vg, f5, _, _⟩ := ((unhide HR).below BW hb) k hlt
      have hnb := (unhide HNB) k hlt
      have hs := hide (show Co.slots l (k + 1) = if Co.binder (l.getD k Co.zero) = true then max (Co.slots l k) ((l.getD k Co.zero).num + 1) else Co.slots l k from rfl)
      have HB : Hid (∀ o, Below w1.heap.size w1 (wr.alloc o)) := fun o => hbel.alloc hbel.size o
      generalize l.getD k Co.zero = n at *
      clear hlt
      have hyes : Hid (Co.binder n = true → max q (n.num + 1) = Co.slots l (k + 1)) := fun h => by rw [unhide hs, if_pos h, hqd.out]
      have hnot : Hid (Co.binder n = false → q = Co.slots l (k + 1)) := fun h => by rw [unhide hs, if_neg (by rw [h]; decide), hqd.out]
      have hmb : 0 ≤ max q (n.num + 1) ∧ max q (n.num + 1) ≤ 60 := by omega
      clear hs
      by_cases h14 : n.op = 14
      · skip
        have hn2 := hide (hyes.out (by unfold Co.binder; rw [h14]; rfl))
        have g14 : (n.op == 14) = true := by simp [h14]
        clear h14
        clear hyes hnot
        go_wp2_with fail
        all_goals
          go_roundg (l.length - (k + 1))
          case rel => exact ⟨k + 1, _, rfl, by go_num, by omega, rfl, by omega, by omega, by (show _ = _; have := unhide hn2; omega), HB.out _⟩
          case measure => have := hg.out; omega
      · have g14 : (n.op == 14) = false := by simpa using h14
        by_cases h13 : n.op = 13
        · skip
          have hn2 := hide (hyes.out (by unfold Co.binder; rw [h13]; rfl))
          have g13 : (n.op == 13) = true := by simp [h13]
          clear h14 h13
          clear hyes hnot
          go_wp2_with fail
          all_goals
            go_roundg (l.length - (k + 1))
            case rel => exact ⟨k + 1, _, rfl, by go_num, by omega, rfl, by omega, by omega, by (show _ = _; have := unhide hn2; omega), HB.out _⟩
            case measure => have := hg.out; omega
        · have g13 : (n.op == 13) = false := by simpa using h13
          have hn2 := hide (hnot.out (by unfold Co.binder; rw [g14, g13]; rfl))
          clear h14 h13 hyes hnot
          go_wp2_with fail
          go_roundg (l.length - (k + 1))
          case rel => exact ⟨k + 1, q, rfl, by go_num, by omega, rfl, hq0, hq1, unhide hn2, HB.out _⟩
          case measure => have := hg.out; omega
    · have hke : k = l.length := by omega
      have fin := hide (show Co.slotsOut l = (0, q) by rw [unhide fin0, hqd.out, hke])
      have O3 := O1.below hbel O1.lt
      clear hke O1
      obtain ⟨c0, c1⟩ := ires_co O3
      have z0 := O3.frozen 0
      have z1 := O3.frozen 1
      have O2 := hide ((O3.set 0 (.int .i64 0)).set 1 (.int .i64 q))
      go_wp2_with fail
      obtain ⟨q0, q1⟩ := ires_co (x := 0) (y := q) (unhide O2)
      clear c0 c1 z0 z1 O2
      have B2 : Below w.heap.size w ((wr.setCell ⟨w.heap.size, 0, none⟩ (.int .i64 0)).setCell ⟨w.heap.size, 1, none⟩ (.int .i64 q)) := (BW.setCell (Nat.le_refl _) _).setCell (Nat.le_refl _) _
      generalize (wr.setCell ⟨w.heap.size, 0, none⟩ (.int .i64 0)).setCell ⟨w.heap.size, 1, none⟩ (.int .i64 q) = WW at *
      refine bodyPost_ret (v := .agg #[.int .i64 0, .int .i64 q]) (by simp [results, Try.results47, go_sem, q0, q1]; try rfl) rfl ⟨by rw [unhide fin], B2⟩

end Go.Proofs.Ytcolohilnmikiaa
