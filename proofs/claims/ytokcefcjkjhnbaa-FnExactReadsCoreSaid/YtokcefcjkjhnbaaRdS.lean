/-
  spec.ReadsCore: the keys that are read, in order.
-/
import Derived.Test.YtokcefcjkjhnbaaVarS
import Derived.Test.YtokcefcjkjhnbaaRdM
import Derived.Test.YtokcefcjkjhnbaaCorS
import Derived.Deep.RegionHeld3
namespace Go.Proofs.Ytokcefcjkjhnbaa
open Go.RowKit
set_option linter.unusedVariables false
set_option linter.unusedSimpArgs false

set_option maxRecDepth 100000 in
set_option maxHeartbeats 4000000 in
theorem specReadsCore_any (b : Nat) (l : List Co) (w : World) (hrow : Co.Row w b l) (hb : b < w.heap.size) (hn : l.length ≤ 1048576) (hsz : ∀ i, i < l.length → (l.getD i Co.zero).val.length ≤ 1048576) (hok : ∀ c ∈ l, c.ok) :
    Calls Try.prog 38 #[.slice (some ⟨b, 0, none⟩) l.length l.length] w fun e w' => ∃ v, e = .returned (.agg #[.int .i64 (Co.readsOut l).1, v]) ∧ w'.ownsRow (w.heap.size + 1) 9 1 v (Co.readsOut l).2.length ((Co.readsOut l).2.map Value.string) ∧ Below w.heap.size w w' := by
  have HR := hide hrow
  have HS := hide hsz
  have HK := hide hok
  clear hrow hsz hok
  obtain ⟨w0, hw0⟩ : ∃ w0, w0 = w.alloc (.cells #[.int .i64 0, .slice none 0 0] 26) := ⟨_, rfl⟩
  have B0 : Below w.heap.size w w0 := by rw [hw0]; exact (Below.refl _ _).alloc (Nat.le_refl _) _
  have O0 : Own w0 w.heap.size 26 [.int .i64 0, .slice none 0 0] := by rw [hw0]; exact ⟨_, heap_alloc_new _ _, rfl⟩
  have HC := hide (specCoreFault_any b l w0 ((unhide HR).below B0 hb) (Nat.lt_of_lt_of_le hb B0.size) hn (unhide HS) (unhide HK))
  go_enter Try.func38, Try.ntmps38
  go_wp2_with fail
  rw [← hw0]
  clear hw0
  refine (unhide HC).mono ?_
  rintro e w1 ⟨rfl, hb1⟩
  have B1 : Below w.heap.size w w1 := B0.trans (hb1.mono B0.size)
  have O1 := O0.below hb1 O0.lt
  clear O0 B0 hb1 HC
  by_cases hf : Co.fault l = 0
  case neg =>
    have fin := hide (show Co.readsOut l = (Co.fault l, []) by unfold Co.readsOut; rw [if_pos hf])
    generalize Co.fault l = q at *
    have g1 : (q != 0) = true := by simpa using hf
    have OX := O1
    clear hf O1
    obtain ⟨c0, c1⟩ := nres_of OX
    have z0 := OX.frozen 0
    have z1 := OX.frozen 1
    have O2 := hide ((OX.set 0 (.int .i64 q)).set 1 (.slice none 0 0))
    clear OX
    go_wp2_with fail
    obtain ⟨q0, q1⟩ := nres_of (x := q) (v := .slice none 0 0) (unhide O2)
    clear c0 c1 z0 z1 O2
    have B2 : Below w.heap.size w ((w1.setCell ⟨w.heap.size, 0, none⟩ (.int .i64 q)).setCell ⟨w.heap.size, 1, none⟩ (.slice none 0 0)) := (B1.setCell (Nat.le_refl _) _).setCell (Nat.le_refl _) _
    have HROW := World.ownsRow_nil ((w1.setCell ⟨w.heap.size, 0, none⟩ (.int .i64 q)).setCell ⟨w.heap.size, 1, none⟩ (.slice none 0 0)) (w.heap.size + 1) 9 1
    generalize (w1.setCell ⟨w.heap.size, 0, none⟩ (.int .i64 q)).setCell ⟨w.heap.size, 1, none⟩ (.slice none 0 0) = WW at *
    refine bodyPost_ret (v := .agg #[.int .i64 q, .slice none 0 0]) (by simp [results, Try.results38, go_sem, q0, q1]; try rfl) rfl ⟨_, by rw [unhide fin], by rw [unhide fin]; exact HROW, B2⟩
  case pos =>
  have h900 : l.length ≤ 900 := (Co.fault_parts hf).1
  have HNF := hide (Co.fault_parts hf).2
  have fin := hide (show Co.readsOut l = (0, Tr.varsK (Co.rt l) l.length) by unfold Co.readsOut; rw [if_neg (by simpa using hf)])
  rw [hf]
  clear hf
  obtain ⟨t0, ht0, hy0, hy1, hy2⟩ := info_parts Tr.infoT
  obtain ⟨w2, hw2⟩ : ∃ w2, w2 = w1.alloc (.cells #[.int .i64 0, .slice none 0 0] 26) := ⟨_, rfl⟩
  have N2 : Own w2 w1.heap.size 26 [.int .i64 0, .slice none 0 0] := by rw [hw2]; exact ⟨_, heap_alloc_new _ _, rfl⟩
  have B2 : Below w1.heap.size w1 w2 := by rw [hw2]; exact (Below.refl _ _).alloc (Nat.le_refl _) _
  have hlt1 := O1.lt
  go_wp2_with fail
  rw [← hw2]
  clear hw2
  go_loopg [5] l.length (fun gh s5 wr => ∃ (k : Nat) (v : Value) (L : List ByteArray), Hid (gh = l.length - k) ∧ s5 = .int .i64 k ∧ k ≤ l.length ∧ Hid (L = Tr.varsK (Co.rt l) k) ∧ L.length ≤ k ∧ Own wr w1.heap.size 26 [.int .i64 0, v] ∧ wr.ownsRow (w1.heap.size + 1) 9 1 v L.length (L.map Value.string) ∧ Below w1.heap.size w1 wr)
  case atStart => exact ⟨0, .slice none 0 0, [], rfl, rfl, by omega, rfl, by simp, N2, World.ownsRow_nil _ _ _ _, B2⟩
  case round =>
    clear N2 B2
    obtain ⟨k, v, L, hg, rfl, hk, hL, hLk, hN, hown, hbel⟩ := hrel
    have BW : Below w.heap.size w wr := B1.trans (hbel.mono B1.size)
    obtain ⟨va, vc, hv⟩ := Tr.owns_slice hown
    subst hv
    have HO := hide hown
    clear hown
    by_cases hlt : k < l.length
    · have hltI : (k : Int) < (l.length : Int) := by omega
      have hk0I : (0 : Int) ≤ (k : Int) := by omega
      obtain ⟨f0, f1, f2, f3, f4, vg, f5, _, _⟩ := ((unhide HR).below BW hb) k hlt
      have c1 := (nres_of hN).2
      have HVK := hide (Co.rd_vars l k hlt)
      rw [← hL.out] at HVK
      have hszr := hbel.size
      by_cases h7 : (l.getD k Co.zero).op = 7
      case neg =>
        have hn2 := hide (show L = Tr.varsK (Co.rt l) (k + 1) by rw [unhide HVK, if_neg (fun h => by have := h.1; unfold Co.rdr at this; rw [beq_eq_false_iff_ne.2 h7, Bool.false_and] at this; exact absurd this (by decide))])
        have g7 : ((l.getD k Co.zero).op != 7) = true := by simpa using h7
        generalize l.getD k Co.zero = n at *
        clear HVK h7
        go_wp2_with fail
        go_roundg (l.length - (k + 1))
        case rel => exact ⟨k + 1, _, L, rfl, by go_num, by omega, unhide hn2, by omega, hN, unhide HO, hbel⟩
        case measure => have := hg.out; omega
      case pos =>
      obtain ⟨j, hj, hjk⟩ := Co.snd_lt (unhide HNF) hlt h7
      have hjl : j < l.length := by omega
      have hjI : (j : Int) < (l.length : Int) := by omega
      have hj0 : (0 : Int) ≤ (j : Int) := by omega
      obtain ⟨e0, e1, e2, e3, e4, vq, e5, hvq, hrq⟩ := ((unhide HR).below BW hb) j hjl
      have hs2 : Co.snd2 l k = l.getD j Co.zero := by unfold Co.snd2; rw [hj]; rfl
      have HRD := hide (show Co.rdr l k = Co.isText (l.getD j Co.zero) by unfold Co.rdr; rw [h7, hs2]; rfl)
      have HRT := hide (show Co.rdT l k = ((l.getD j Co.zero).val.getD 0 M.zero).text by unfold Co.rdT; rw [hs2])
      have HTL := hide (fun h => Co.text_len (unhide HNF) hjl h)
      rw [h7] at f0
      rw [hj] at f2
      clear h7 hj hs2 f1 f3 f4 f5
      generalize l.getD j Co.zero = m at *
      obtain ⟨w3, hw3⟩ : ∃ w3, w3 = wr.alloc (.cells #[.int .i64 m.op, .int .i64 m.a, .int .i64 m.b, .int .i64 m.c, .int .i64 m.num, .slice (some ⟨vq, 0, none⟩) m.val.length m.val.length] 87) := ⟨_, rfl⟩
      have B3 : Below wr.heap.size wr w3 := by rw [hw3]; exact (Below.refl _ _).alloc (Nat.le_refl _) _
      have O3 : Own w3 wr.heap.size 87 [.int .i64 m.op, .int .i64 m.a, .int .i64 m.b, .int .i64 m.c, .int .i64 m.num, .slice (some ⟨vq, 0, none⟩) m.val.length m.val.length] := by rw [hw3]; exact ⟨_, heap_alloc_new _ _, rfl⟩
      have hN3 := hN.below B3 hN.lt
      have HO3 := hide (Tr.owns_below (unhide HO) B3)
      have hbel3 : Below w1.heap.size w1 w3 := hbel.trans (B3.mono hszr)
      have HRQ := hide (hrq.below B3 hvq)
      go_upto_region 10 with fail
      rw [← hw3]
      clear hw3 f0 f2 e0 e1 e2 e3 e4 e5 hrq B3 hN HO hbel c1 BW hvq
      have c1 := (nres_of hN3).2
      have d0 : w3.cell? ⟨wr.heap.size, 0, none⟩ = some (.int .i64 m.op) := O3.cell 0
      have d5 : w3.cell? ⟨wr.heap.size, 5, none⟩ = some (.slice (some ⟨vq, 0, none⟩) m.val.length m.val.length) := O3.cell 5
      have q0 := fun n => show (w3.drewN n).cell? _ = _ from d0
      have q5 := fun n => show (w3.drewN n).cell? _ = _ from d5
      have q1 := fun n => show (w3.drewN n).cell? _ = _ from c1
      have HDN := hide (fun n => show Below w3.heap.size w3 (w3.drewN n) from ⟨rfl, rfl, rfl, Nat.le_refl _, fun _ _ => rfl⟩)
      cases hit : Co.isText m with
      | false =>
        have hn2 := hide (show L = Tr.varsK (Co.rt l) (k + 1) by rw [unhide HVK, if_neg (fun h => by have := h.1; rw [unhide HRD, hit] at this; exact absurd this (by decide))])
        have HFN := hide (fun n => And.intro (hN3.below ((unhide HDN) n) hN3.lt) (And.intro (Tr.owns_below (unhide HO3) ((unhide HDN) n)) (hbel3.trans (((unhide HDN) n).mono hbel3.size))))
        by_cases h2 : m.op = 2
        · have hml : 0 < m.val.length := (unhide HTL) h2
          have hmI : (0 : Int) < (m.val.length : Int) := by omega
          have gg := ((unhide HRQ) 0 hml).1
          simp only [Nat.zero_mul, Nat.add_zero, Nat.zero_add] at gg
          have gq := fun n => show (w3.drewN n).cell? _ = _ from gg
          have hk4 : ((m.val.getD 0 M.zero).kind != 4) = true := by
            unfold Co.isText at hit
            rw [h2] at hit
            simpa using hit
          have h2n : (m.op != 2) = false := by simp [h2]
          clear HVK HRD HRT HTL hit h2 HRQ hN3 HO3 hbel3
          generalize (m.val.getD 0 M.zero) = cq at *
          generalize m.val.length = ml at *
          generalize m.op = mo at *
          go_quiet (fail)
          go_wp2_with fail
          go_roundg (l.length - (k + 1))
          case rel => exact ⟨k + 1, _, L, rfl, by go_num, by omega, unhide hn2, by omega, ((unhide HFN) _).1, ((unhide HFN) _).2.1, ((unhide HFN) _).2.2⟩
          case measure => have := hg.out; omega
        · have h2n : (m.op != 2) = true := by simpa using h2
          clear HVK HRD HRT HTL hit h2 HRQ hN3 HO3 hbel3
          generalize m.op = mo at *
          go_quiet (fail)
          go_wp2_with fail
          go_roundg (l.length - (k + 1))
          case rel => exact ⟨k + 1, _, L, rfl, by go_num, by omega, unhide hn2, by omega, ((unhide HFN) _).1, ((unhide HFN) _).2.1, ((unhide HFN) _).2.2⟩
          case measure => have := hg.out; omega
      | true =>
      have h2 : m.op = 2 := by unfold Co.isText at hit; rw [Bool.and_eq_true] at hit; simpa using hit.1
      have h4 : (m.val.getD 0 M.zero).kind = 4 := by unfold Co.isText at hit; rw [Bool.and_eq_true] at hit; simpa using hit.2
      have hml : 0 < m.val.length := (unhide HTL) h2
      have hmI : (0 : Int) < (m.val.length : Int) := by omega
      have gg := (unhide HRQ) 0 hml
      have g0 := gg.1
      have g2 := gg.2.2.1
      simp only [Nat.zero_mul, Nat.add_zero, Nat.zero_add] at g0 g2
      rw [h4] at g0
      rw [h2] at d0 q0
      have HHT := hide hit
      have HVL := hide (show Tr.varsK (Co.rt l) (k + 1) = if oneOf L (m.val.getD 0 M.zero).text = false then Tr.insV L (m.val.getD 0 M.zero).text else L by
        rw [unhide HVK, unhide HRD, hit, unhide HRT]; simp)
      clear gg hit h2 h4 HVK HRD HRT HTL HHT
      generalize (m.val.getD 0 M.zero).text = t at *
      generalize m.val.length = ml at *
      have gq0 := fun n => show (w3.drewN n).cell? _ = _ from g0
      have gq2 := fun n => show (w3.drewN n).cell? _ = _ from g2
      have HAM := hide (fun n => l4Among_row (w1.heap.size + 1) (.slice va L.length vc) L t (w3.drewN n) (by omega) (Tr.owns_below (unhide HO3) ((unhide HDN) n)))
      have HFN := hide (fun n => And.intro (hN3.below ((unhide HDN) n) hN3.lt) (And.intro (Tr.owns_below (unhide HO3) ((unhide HDN) n)) (And.intro (hbel3.trans (((unhide HDN) n).mono hbel3.size)) (And.intro (show (w3.drewN n).cell? ⟨wr.heap.size, 5, none⟩ = some (.slice (some ⟨vq, 0, none⟩) ml ml) from d5) (show (w3.drewN n).cell? ⟨vq, 2, none⟩ = some (.string t) from g2)))))
      clear hN3 HO3 hbel3 O3
      cases hoo : oneOf L t with
      | true =>
        have hn2 := hide (show L = Tr.varsK (Co.rt l) (k + 1) by rw [unhide HVL, hoo]; rfl)
        rw [hoo] at HAM
        clear HVL hoo
        go_quiet (first | (go_at_call 42; exact Calls.quiet_of_same ((unhide HAM) _)))
        go_wp2_with fail
        go_roundg (l.length - (k + 1))
        case rel => exact ⟨k + 1, _, L, rfl, by go_num, by omega, unhide hn2, by omega, ((unhide HFN) _).1, ((unhide HFN) _).2.1, ((unhide HFN) _).2.2.1⟩
        case measure => have := hg.out; omega
      | false =>
        have hn2 := hide (show Tr.insV L t = Tr.varsK (Co.rt l) (k + 1) by rw [unhide HVL, hoo]; rfl)
        rw [hoo] at HAM
        clear HVL hoo
        go_quiet (first | (go_at_call 42; exact Calls.quiet_of_same ((unhide HAM) _)))
        obtain ⟨hN, HO', hbel, d5', g2'⟩ := (unhide HFN) nq
        have HO := hide HO'
        clear HO' HFN HAM q0 q1 q5 gq0 gq2 d0 d5 g0 g2 c1 HDN HRQ
        generalize w3.drewN nq = wq at *
        have c1 := (nres_of hN).2
        skip
        · skip
          have hstop := hide (fun j hj h1 h2 => Tr.ahead_stop t L j hj h1 h2)
          have hcell := hide (fun (g cap : Nat) (h : wq.ownsRow (w1.heap.size + 1) 9 1 (.slice (some ⟨g, 0, none⟩) L.length cap) L.length (L.map Value.string)) (j : Nat) (hj : j < L.length) => (Tr.owns_cell h j hj).trans (Tr.str_get L j hj))
          go_wp2_with fail
          go_loopg [8] L.length (fun gh s7 w4 => ∃ j : Nat, Hid (gh = L.length - j) ∧ s7 = .int .i64 j ∧ j ≤ L.length ∧ Hid (∀ i, i < j → Tr.less (L.getD i ByteArray.empty) t = true) ∧ w4 = wq)
          case atStart => exact ⟨0, rfl, rfl, by omega, fun i hi => absurd hi (by omega), rfl⟩
          case round =>
            obtain ⟨j, hgj, rfl, hj, hless, rfl⟩ := hrel
            rcases Tr.owns_cases (unhide HO) with ⟨hnv, hn0⟩ | ⟨g, cap, hgv, hgb, hgc, hgm⟩
            · obtain ⟨rfl, hv0, rfl⟩ : va = none ∧ L.length = 0 ∧ vc = 0 := by simpa using hnv
              have hnil : L = [] := List.length_eq_zero_iff.1 hn0
              obtain rfl : j = 0 := by omega
              rw [show (((0 : Nat) : Int)) = 0 from rfl]
              rw [hn0]
              rw [hn0] at c1
              go_wp2_with fail
              refine Z.region 15 (fun w' => w'.cell? ⟨w1.heap.size, 1, none⟩ = some (.slice none 0 0) ∧ Below wr.heap.size wr w') (by kernel_rfl) ⟨c1, (Below.refl _ _).drew⟩ (fun hHeld => ?_)
              refine Z.take (i := 1) (d := 79) (v := .pointer (some ⟨w1.heap.size, 1, none⟩)) rfl rfl (by kernel_rfl) (by kernel_rfl) (by kernel_rfl) (by kernel_rfl) (fun _ _ _ h => h) (Or.inl ⟨by rfl, ?_⟩) hHeld ?_
              · intro w' hSw; obtain ⟨s1, _⟩ := hSw; go_simp
              simp only [Act.put, List.setIfInBounds_toArray, List.set_cons_zero, List.set_cons_succ]
              refine Z.take (i := 2) (d := 80) (v := .slice none 0 0) rfl rfl (by kernel_rfl) (by kernel_rfl) (by kernel_rfl) (by kernel_rfl) (fun _ _ _ h => h) (Or.inl ⟨by rfl, ?_⟩) hHeld ?_
              · intro w' hSw; obtain ⟨s1, _⟩ := hSw; go_simp
              simp only [Act.put, List.setIfInBounds_toArray, List.set_cons_zero, List.set_cons_succ]
              refine Z.take (i := 3) (d := 81) (v := .int .i64 0) rfl rfl (by kernel_rfl) (by kernel_rfl) (by kernel_rfl) (by kernel_rfl) (fun _ _ _ h => h) (Or.inl ⟨by rfl, ?_⟩) hHeld ?_
              · intro w' hSw; obtain ⟨s1, _⟩ := hSw; go_simp
              simp only [Act.put, List.setIfInBounds_toArray, List.set_cons_zero, List.set_cons_succ]
              refine Z.take (i := 4) (d := 82) (v := .slice none 0 0) rfl rfl (by kernel_rfl) (by kernel_rfl) (by kernel_rfl) (by kernel_rfl) (fun _ _ _ h => h) (Or.inl ⟨by rfl, ?_⟩) hHeld ?_
              · intro w' hSw; obtain ⟨s1, _⟩ := hSw; go_simp
              simp only [Act.put, List.setIfInBounds_toArray, List.set_cons_zero, List.set_cons_succ]
              refine Z.take (i := 6) (d := 84) (v := .string t) rfl rfl (by kernel_rfl) (by kernel_rfl) (by kernel_rfl) (by kernel_rfl) (fun _ _ _ h => h) (Or.inl ⟨by rfl, ?_⟩) hHeld ?_
              · intro w' hSw; obtain ⟨s1, _⟩ := hSw; go_simp
              simp only [Act.put, List.setIfInBounds_toArray, List.set_cons_zero, List.set_cons_succ]
              refine Z.take (i := 9) (d := 87) (v := .pointer (some ⟨w1.heap.size, 1, none⟩)) rfl rfl (by kernel_rfl) (by kernel_rfl) (by kernel_rfl) (by kernel_rfl) (fun _ _ _ h => h) (Or.inl ⟨by rfl, ?_⟩) hHeld ?_
              · intro w' hSw; obtain ⟨s1, _⟩ := hSw; go_simp
              simp only [Act.put, List.setIfInBounds_toArray, List.set_cons_zero, List.set_cons_succ]
              refine Z.take (i := 10) (d := 88) (v := .slice none 0 0) rfl rfl (by kernel_rfl) (by kernel_rfl) (by kernel_rfl) (by kernel_rfl) (fun _ _ _ h => h) (Or.inl ⟨by rfl, ?_⟩) hHeld ?_
              · intro w' hSw; obtain ⟨s1, _⟩ := hSw; go_simp
              simp only [Act.put, List.setIfInBounds_toArray, List.set_cons_zero, List.set_cons_succ]
              refine Z.take (i := 11) (d := 89) (v := .int .i64 0) rfl rfl (by kernel_rfl) (by kernel_rfl) (by kernel_rfl) (by kernel_rfl) (fun _ _ _ h => h) (Or.inl ⟨by rfl, ?_⟩) hHeld ?_
              · intro w' hSw; obtain ⟨s1, _⟩ := hSw; go_simp
              simp only [Act.put, List.setIfInBounds_toArray, List.set_cons_zero, List.set_cons_succ]
              refine Z.take (i := 12) (d := 90) (v := .slice none 0 0) rfl rfl (by kernel_rfl) (by kernel_rfl) (by kernel_rfl) (by kernel_rfl) (fun _ _ _ h => h) (Or.inl ⟨by rfl, ?_⟩) hHeld ?_
              · intro w' hSw; obtain ⟨s1, _⟩ := hSw; go_simp
              simp only [Act.put, List.setIfInBounds_toArray, List.set_cons_zero, List.set_cons_succ]
              refine Z.ready (rs := [0, 7]) (by kernel_rfl) (by simp) (Z.val_cons (i := 0) (d := 78) (v := .slice (some ⟨wr.heap.size, 0, none⟩) 0 0) (w' := (wr.alloc (.cells #[] 9)).drew) rfl (by rfl) ?_ (fun _ => ?_) ?_ (Z.val_cons (i := 7) (d := 85) (v := .slice (some ⟨wr.heap.size, 0, none⟩) 1 1) (w' := (wr.alloc (.cells #[.string t] 9)).drew) rfl (by rfl) ?_ (fun _ => ?_) ?_ Z.All.nil))
              · intro K hK
                go_simp
                exact hK.out
              · exact ⟨(((Below.refl wr.heap.size wr).alloc (by simp) _).drew.cell (by exact hN.lt)).trans c1, ((Below.refl wr.heap.size wr).alloc (by simp) _).drew⟩
              · simp only [Act.put, List.setIfInBounds_toArray, List.set_cons_zero, List.set_cons_succ]
                refine Z.ready (rs := [5, 7]) (by kernel_rfl) (by simp) (Z.All.cons rfl (fun K hK => ?_) (Z.val_cons (i := 7) (d := 85) (v := .slice (some ⟨wr.heap.size + 1, 0, none⟩) 1 1) (w' := ((wr.alloc (.cells #[] 9)).alloc (.cells #[.string t] 9)).drew) rfl (by rfl) ?_ (fun _ => ?_) ?_ Z.All.nil))
                · skip
                  have BLW : Below wr.heap.size wr ((wr.alloc (.cells #[] 9)).drew) := ((Below.refl wr.heap.size wr).alloc (by simp) _).drew
                  refine Ap.step_append_row ((wr.alloc (.cells #[] 9)).drew) rfl (.tmp 78) (.tmp 82) 24 rfl wr.heap.size 9 t0 (.string ByteArray.empty) 16 Try.underlying24 ht0 hy0 hy1 hy2 rfl (.slice (some ⟨wr.heap.size, 0, none⟩) 0 0) 0 [] rfl (Ap.owns_empty (by omega) (Ap.heapE _ _)) (w1.heap.size + 1) 9 (.slice none 0 0) 0 [] rfl (World.ownsRow_nil _ _ _ _) (fun u hu => by cases hu) (by unfold maxLen; omega) (by omega) BLW.size ?_
                  intro v1 wa ho1 hg1
                  have hB1 : Below wr.heap.size wr wa := Below.grown BLW hg1 BLW.size (by intro q hq; simp only [Value.ownBlock, Option.some.injEq] at hq; omega)
                  refine hK.out _ _ (fun _ => ⟨(hB1.cell (by exact hN.lt)).trans c1, hB1⟩) ?_
                  clear hK K
                  simp only [Act.put, List.setIfInBounds_toArray, List.set_cons_zero, List.set_cons_succ]
                  refine Z.ready (rs := [7]) (by kernel_rfl) (by simp) (Z.val_cons (i := 7) (d := 85) (v := .slice (some ⟨wa.heap.size, 0, none⟩) 1 1) (w' := wa.alloc (.cells #[.string t] 9)) rfl (by rfl) ?_ (fun _ => ?_) ?_ Z.All.nil)
                  · intro K hK
                    go_simp
                    exact hK.out
                  · exact ⟨((hB1.alloc hB1.size _).cell (by exact hN.lt)).trans c1, hB1.alloc hB1.size _⟩
                  · simp only [Act.put, List.setIfInBounds_toArray, List.set_cons_zero, List.set_cons_succ]
                    have HO1 := ho1.alloc (.cells #[.string t] 9)
                    have HB1 := hB1.alloc hB1.size (.cells #[.string t] 9)
                    refine Z.ready (rs := [8]) (by kernel_rfl) (by simp) (Z.All.cons rfl (fun K hK => ?_) Z.All.nil)
                    refine Ap.step_append_any (wa.alloc (.cells #[.string t] 9)) rfl (.tmp 83) (.tmp 85) 24 rfl wr.heap.size 9 t0 (.string ByteArray.empty) 1 16 Try.underlying24 ht0 hy0 hy1 hy2 rfl (by decide) v1 (0 + 0) _ rfl HO1 ⟨wa.heap.size, 0, none⟩ 1 1 [.string t] rfl rfl (Ap.one_of (World.cell?_alloc_mark wa #[.string t] 9 (0, 0) 0)) (by intro u hu; simp only [List.mem_cons, List.not_mem_nil, or_false] at hu; subst hu; rfl) (by unfold maxLen; omega) (by omega) HB1.size ?_
                    intro v2 wb ho2 hg2
                    have hB2 : Below wr.heap.size wr wb := Below.grown HB1 hg2 HB1.size (Tr.owns_base HO1)
                    refine hK.out _ _ (fun _ => ⟨(hB2.cell (by exact hN.lt)).trans c1, hB2⟩) ?_
                    clear hK K
                    simp only [Act.put, List.setIfInBounds_toArray, List.set_cons_zero, List.set_cons_succ]
                    refine Z.ready (rs := [13]) (by kernel_rfl) (by simp) (Z.All.cons rfl (fun K hK => ?_) Z.All.nil)
                    refine Ap.step_append_row wb rfl (.tmp 86) (.tmp 90) 24 rfl wr.heap.size 9 t0 (.string ByteArray.empty) 16 Try.underlying24 ht0 hy0 hy1 hy2 rfl v2 ((0 + 0) + 1) _ rfl ho2 (w1.heap.size + 1) 9 (.slice none 0 0) 0 [] rfl (World.ownsRow_nil _ _ _ _) (fun u hu => by cases hu) (by unfold maxLen; omega) (by omega) hB2.size ?_
                    intro v3 wc ho3 hg3
                    have hB3 : Below wr.heap.size wr wc := Below.grown hB2 hg3 hB2.size (Tr.owns_base ho2)
                    have hS3 : (fun w' => w'.cell? ⟨w1.heap.size, 1, none⟩ = some (.slice none 0 0) ∧ Below wr.heap.size wr w') wc := ⟨(hB3.cell (by exact hN.lt)).trans c1, hB3⟩
                    obtain ⟨xa, xc, hx3⟩ := Tr.owns_slice ho3
                    have HR3 := fun x => hide (Tr.names_in0 hnil ho3 hN.lt (i := 1) (x := x))
                    generalize hcnt : ((0 + 0) + 1 + 0) = cnt at hx3
                    clear hcnt
                    subst hx3
                    refine hK.out _ _ (fun _ => hS3) ?_
                    clear hK K
                    simp only [Act.put, List.setIfInBounds_toArray, List.set_cons_zero, List.set_cons_succ]
                    refine Z.take (i := 14) (d := 92) (v := .pointer (some ⟨w1.heap.size, 1, none⟩)) rfl rfl (by kernel_rfl) (by kernel_rfl) (by kernel_rfl) (by kernel_rfl) (fun _ _ _ h => h) (Or.inl ⟨by rfl, ?_⟩) hS3 ?_
                    · intro w' hSw; obtain ⟨s1, _⟩ := hSw; go_simp
                    simp only [Act.put, List.setIfInBounds_toArray, List.set_cons_zero, List.set_cons_succ]
                    have N3 := hN.below hB3 hN.lt
                    have n3 := (nres_of N3).2
                    have y3 := N3.frozen 1
                    refine Z.last_at (w' := wc.setCell ⟨w1.heap.size, 1, none⟩ (.slice xa cnt xc)) rfl (by kernel_rfl) (by rfl) (fun K hK => ?_) ?_
                    · go_simp
                      exact hK.out
                    refine Z.done (by kernel_rfl) ?_ _
                    have hB4 : Below w1.heap.size w1 (wc.setCell ⟨w1.heap.size, 1, none⟩ (.slice xa cnt xc)) := (hbel.trans (hB3.mono hbel.size)).setCell (Nat.le_refl _) _
                    have N4 := N3.set 1 (.slice xa cnt xc)
                    clear n3 y3 c1
                    go_wp2_with fail
                    go_roundg (l.length - (k + 1))
                    case rel => exact ⟨k + 1, _, Tr.insV L t, rfl, by go_num, by omega, unhide hn2, by rw [Tr.insV_length]; omega, N4, unhide (HR3 _), hB4⟩
                    case measure => have := hg.out; omega
                · intro K hK
                  go_simp
                  exact hK.out
                · exact ⟨((((Below.refl wr.heap.size wr).alloc (by simp) _).alloc (by simp) _).drew.cell (by exact hN.lt)).trans c1, (((Below.refl wr.heap.size wr).alloc (by simp) _).alloc (by simp) _).drew⟩
                · simp only [Act.put, List.setIfInBounds_toArray, List.set_cons_zero, List.set_cons_succ]
                  refine Z.ready (rs := [5]) (by kernel_rfl) (by simp) (Z.All.cons rfl (fun K hK => ?_) Z.All.nil)
                  have BLW : Below wr.heap.size wr (((wr.alloc (.cells #[] 9)).alloc (.cells #[.string t] 9)).drew) := (((Below.refl wr.heap.size wr).alloc (by simp) _).alloc (by simp) _).drew
                  refine Ap.step_append_row (((wr.alloc (.cells #[] 9)).alloc (.cells #[.string t] 9)).drew) rfl (.tmp 78) (.tmp 82) 24 rfl wr.heap.size 9 t0 (.string ByteArray.empty) 16 Try.underlying24 ht0 hy0 hy1 hy2 rfl (.slice (some ⟨wr.heap.size, 0, none⟩) 0 0) 0 [] rfl (Ap.owns_empty (by omega) (Ap.heapEK _ _ _)) (w1.heap.size + 1) 9 (.slice none 0 0) 0 [] rfl (World.ownsRow_nil _ _ _ _) (fun u hu => by cases hu) (by unfold maxLen; omega) (by omega) BLW.size ?_
                  intro v1 wa ho1 hg1
                  have hB1 : Below wr.heap.size wr wa := Below.grown BLW hg1 BLW.size (by intro q hq; simp only [Value.ownBlock, Option.some.injEq] at hq; omega)
                  have hk1 : wa.cell? ⟨wr.heap.size + 1, 0, none⟩ = some (.string t) := (World.grownBy.cell_far hg1 ⟨wr.heap.size + 1, 0, none⟩ (by simp) (Ap.ne_own (wr.heap.size + 1) wr.heap.size 0 0 (by omega))).trans (Ap.cellEK _ _ _)
                  refine hK.out _ _ (fun _ => ⟨(hB1.cell (by exact hN.lt)).trans c1, hB1⟩) ?_
                  clear hK K
                  simp only [Act.put, List.setIfInBounds_toArray, List.set_cons_zero, List.set_cons_succ]
                  have HO1 := ho1
                  have HB1 := hB1
                  refine Z.ready (rs := [8]) (by kernel_rfl) (by simp) (Z.All.cons rfl (fun K hK => ?_) Z.All.nil)
                  refine Ap.step_append_any (wa) rfl (.tmp 83) (.tmp 85) 24 rfl wr.heap.size 9 t0 (.string ByteArray.empty) 1 16 Try.underlying24 ht0 hy0 hy1 hy2 rfl (by decide) v1 (0 + 0) _ rfl HO1 ⟨wr.heap.size + 1, 0, none⟩ 1 1 [.string t] rfl rfl (Ap.one_of hk1) (by intro u hu; simp only [List.mem_cons, List.not_mem_nil, or_false] at hu; subst hu; rfl) (by unfold maxLen; omega) (by omega) HB1.size ?_
                  intro v2 wb ho2 hg2
                  have hB2 : Below wr.heap.size wr wb := Below.grown HB1 hg2 HB1.size (Tr.owns_base HO1)
                  refine hK.out _ _ (fun _ => ⟨(hB2.cell (by exact hN.lt)).trans c1, hB2⟩) ?_
                  clear hK K
                  simp only [Act.put, List.setIfInBounds_toArray, List.set_cons_zero, List.set_cons_succ]
                  refine Z.ready (rs := [13]) (by kernel_rfl) (by simp) (Z.All.cons rfl (fun K hK => ?_) Z.All.nil)
                  refine Ap.step_append_row wb rfl (.tmp 86) (.tmp 90) 24 rfl wr.heap.size 9 t0 (.string ByteArray.empty) 16 Try.underlying24 ht0 hy0 hy1 hy2 rfl v2 ((0 + 0) + 1) _ rfl ho2 (w1.heap.size + 1) 9 (.slice none 0 0) 0 [] rfl (World.ownsRow_nil _ _ _ _) (fun u hu => by cases hu) (by unfold maxLen; omega) (by omega) hB2.size ?_
                  intro v3 wc ho3 hg3
                  have hB3 : Below wr.heap.size wr wc := Below.grown hB2 hg3 hB2.size (Tr.owns_base ho2)
                  have hS3 : (fun w' => w'.cell? ⟨w1.heap.size, 1, none⟩ = some (.slice none 0 0) ∧ Below wr.heap.size wr w') wc := ⟨(hB3.cell (by exact hN.lt)).trans c1, hB3⟩
                  obtain ⟨xa, xc, hx3⟩ := Tr.owns_slice ho3
                  have HR3 := fun x => hide (Tr.names_in0 hnil ho3 hN.lt (i := 1) (x := x))
                  generalize hcnt : ((0 + 0) + 1 + 0) = cnt at hx3
                  clear hcnt
                  subst hx3
                  refine hK.out _ _ (fun _ => hS3) ?_
                  clear hK K
                  simp only [Act.put, List.setIfInBounds_toArray, List.set_cons_zero, List.set_cons_succ]
                  refine Z.take (i := 14) (d := 92) (v := .pointer (some ⟨w1.heap.size, 1, none⟩)) rfl rfl (by kernel_rfl) (by kernel_rfl) (by kernel_rfl) (by kernel_rfl) (fun _ _ _ h => h) (Or.inl ⟨by rfl, ?_⟩) hS3 ?_
                  · intro w' hSw; obtain ⟨s1, _⟩ := hSw; go_simp
                  simp only [Act.put, List.setIfInBounds_toArray, List.set_cons_zero, List.set_cons_succ]
                  have N3 := hN.below hB3 hN.lt
                  have n3 := (nres_of N3).2
                  have y3 := N3.frozen 1
                  refine Z.last_at (w' := wc.setCell ⟨w1.heap.size, 1, none⟩ (.slice xa cnt xc)) rfl (by kernel_rfl) (by rfl) (fun K hK => ?_) ?_
                  · go_simp
                    exact hK.out
                  refine Z.done (by kernel_rfl) ?_ _
                  have hB4 : Below w1.heap.size w1 (wc.setCell ⟨w1.heap.size, 1, none⟩ (.slice xa cnt xc)) := (hbel.trans (hB3.mono hbel.size)).setCell (Nat.le_refl _) _
                  have N4 := N3.set 1 (.slice xa cnt xc)
                  clear n3 y3 c1
                  go_wp2_with fail
                  go_roundg (l.length - (k + 1))
                  case rel => exact ⟨k + 1, _, Tr.insV L t, rfl, by go_num, by omega, unhide hn2, by rw [Tr.insV_length]; omega, N4, unhide (HR3 _), hB4⟩
                  case measure => have := hg.out; omega
              · intro K hK
                go_simp
                exact hK.out
              · exact ⟨(((Below.refl wr.heap.size wr).alloc (by simp) _).drew.cell (by exact hN.lt)).trans c1, ((Below.refl wr.heap.size wr).alloc (by simp) _).drew⟩
              · simp only [Act.put, List.setIfInBounds_toArray, List.set_cons_zero, List.set_cons_succ]
                refine Z.ready (rs := [0]) (by kernel_rfl) (by simp) (Z.val_cons (i := 0) (d := 78) (v := .slice (some ⟨wr.heap.size + 1, 0, none⟩) 0 0) (w' := ((wr.alloc (.cells #[.string t] 9)).alloc (.cells #[] 9)).drew) rfl (by rfl) ?_ (fun _ => ?_) ?_ Z.All.nil)
                · intro K hK
                  go_simp
                  exact hK.out
                · exact ⟨((((Below.refl wr.heap.size wr).alloc (by simp) _).alloc (by simp) _).drew.cell (by exact hN.lt)).trans c1, (((Below.refl wr.heap.size wr).alloc (by simp) _).alloc (by simp) _).drew⟩
                · simp only [Act.put, List.setIfInBounds_toArray, List.set_cons_zero, List.set_cons_succ]
                  refine Z.ready (rs := [5]) (by kernel_rfl) (by simp) (Z.All.cons rfl (fun K hK => ?_) Z.All.nil)
                  have BLW : Below wr.heap.size wr (((wr.alloc (.cells #[.string t] 9)).alloc (.cells #[] 9)).drew) := (((Below.refl wr.heap.size wr).alloc (by simp) _).alloc (by simp) _).drew
                  refine Ap.step_append_row (((wr.alloc (.cells #[.string t] 9)).alloc (.cells #[] 9)).drew) rfl (.tmp 78) (.tmp 82) 24 rfl wr.heap.size 9 t0 (.string ByteArray.empty) 16 Try.underlying24 ht0 hy0 hy1 hy2 rfl (.slice (some ⟨wr.heap.size + 1, 0, none⟩) 0 0) 0 [] rfl (Ap.owns_empty (by omega) (Ap.heapKE _ _ _)) (w1.heap.size + 1) 9 (.slice none 0 0) 0 [] rfl (World.ownsRow_nil _ _ _ _) (fun u hu => by cases hu) (by unfold maxLen; omega) (by omega) BLW.size ?_
                  intro v1 wa ho1 hg1
                  have hB1 : Below wr.heap.size wr wa := Below.grown BLW hg1 BLW.size (by intro q hq; simp only [Value.ownBlock, Option.some.injEq] at hq; omega)
                  have hk1 : wa.cell? ⟨wr.heap.size, 0, none⟩ = some (.string t) := (World.grownBy.cell_far hg1 ⟨wr.heap.size, 0, none⟩ (by simp <;> omega) (Ap.ne_own wr.heap.size (wr.heap.size + 1) 0 0 (by omega))).trans (Ap.cellKE _ _ _)
                  refine hK.out _ _ (fun _ => ⟨(hB1.cell (by exact hN.lt)).trans c1, hB1⟩) ?_
                  clear hK K
                  simp only [Act.put, List.setIfInBounds_toArray, List.set_cons_zero, List.set_cons_succ]
                  have HO1 := ho1
                  have HB1 := hB1
                  refine Z.ready (rs := [8]) (by kernel_rfl) (by simp) (Z.All.cons rfl (fun K hK => ?_) Z.All.nil)
                  refine Ap.step_append_any (wa) rfl (.tmp 83) (.tmp 85) 24 rfl wr.heap.size 9 t0 (.string ByteArray.empty) 1 16 Try.underlying24 ht0 hy0 hy1 hy2 rfl (by decide) v1 (0 + 0) _ rfl HO1 ⟨wr.heap.size, 0, none⟩ 1 1 [.string t] rfl rfl (Ap.one_of hk1) (by intro u hu; simp only [List.mem_cons, List.not_mem_nil, or_false] at hu; subst hu; rfl) (by unfold maxLen; omega) (by omega) HB1.size ?_
                  intro v2 wb ho2 hg2
                  have hB2 : Below wr.heap.size wr wb := Below.grown HB1 hg2 HB1.size (Tr.owns_base HO1)
                  refine hK.out _ _ (fun _ => ⟨(hB2.cell (by exact hN.lt)).trans c1, hB2⟩) ?_
                  clear hK K
                  simp only [Act.put, List.setIfInBounds_toArray, List.set_cons_zero, List.set_cons_succ]
                  refine Z.ready (rs := [13]) (by kernel_rfl) (by simp) (Z.All.cons rfl (fun K hK => ?_) Z.All.nil)
                  refine Ap.step_append_row wb rfl (.tmp 86) (.tmp 90) 24 rfl wr.heap.size 9 t0 (.string ByteArray.empty) 16 Try.underlying24 ht0 hy0 hy1 hy2 rfl v2 ((0 + 0) + 1) _ rfl ho2 (w1.heap.size + 1) 9 (.slice none 0 0) 0 [] rfl (World.ownsRow_nil _ _ _ _) (fun u hu => by cases hu) (by unfold maxLen; omega) (by omega) hB2.size ?_
                  intro v3 wc ho3 hg3
                  have hB3 : Below wr.heap.size wr wc := Below.grown hB2 hg3 hB2.size (Tr.owns_base ho2)
                  have hS3 : (fun w' => w'.cell? ⟨w1.heap.size, 1, none⟩ = some (.slice none 0 0) ∧ Below wr.heap.size wr w') wc := ⟨(hB3.cell (by exact hN.lt)).trans c1, hB3⟩
                  obtain ⟨xa, xc, hx3⟩ := Tr.owns_slice ho3
                  have HR3 := fun x => hide (Tr.names_in0 hnil ho3 hN.lt (i := 1) (x := x))
                  generalize hcnt : ((0 + 0) + 1 + 0) = cnt at hx3
                  clear hcnt
                  subst hx3
                  refine hK.out _ _ (fun _ => hS3) ?_
                  clear hK K
                  simp only [Act.put, List.setIfInBounds_toArray, List.set_cons_zero, List.set_cons_succ]
                  refine Z.take (i := 14) (d := 92) (v := .pointer (some ⟨w1.heap.size, 1, none⟩)) rfl rfl (by kernel_rfl) (by kernel_rfl) (by kernel_rfl) (by kernel_rfl) (fun _ _ _ h => h) (Or.inl ⟨by rfl, ?_⟩) hS3 ?_
                  · intro w' hSw; obtain ⟨s1, _⟩ := hSw; go_simp
                  simp only [Act.put, List.setIfInBounds_toArray, List.set_cons_zero, List.set_cons_succ]
                  have N3 := hN.below hB3 hN.lt
                  have n3 := (nres_of N3).2
                  have y3 := N3.frozen 1
                  refine Z.last_at (w' := wc.setCell ⟨w1.heap.size, 1, none⟩ (.slice xa cnt xc)) rfl (by kernel_rfl) (by rfl) (fun K hK => ?_) ?_
                  · go_simp
                    exact hK.out
                  refine Z.done (by kernel_rfl) ?_ _
                  have hB4 : Below w1.heap.size w1 (wc.setCell ⟨w1.heap.size, 1, none⟩ (.slice xa cnt xc)) := (hbel.trans (hB3.mono hbel.size)).setCell (Nat.le_refl _) _
                  have N4 := N3.set 1 (.slice xa cnt xc)
                  clear n3 y3 c1
                  go_wp2_with fail
                  go_roundg (l.length - (k + 1))
                  case rel => exact ⟨k + 1, _, Tr.insV L t, rfl, by go_num, by omega, unhide hn2, by rw [Tr.insV_length]; omega, N4, unhide (HR3 _), hB4⟩
                  case measure => have := hg.out; omega
            · obtain ⟨hva, hvc⟩ : va = some ⟨g, 0, none⟩ ∧ vc = cap := by simpa using hgv
              subst va vc
              clear hgv
              have hj0 : (0 : Int) ≤ (j : Int) := by omega
              have hjc : (j : Int) ≤ (cap : Int) := by omega
              have hLc : (L.length : Int) ≤ (cap : Int) := by omega
              by_cases hjl : j < L.length
              · have hjlI : (j : Int) < (L.length : Int) := by omega
                have m0 := (unhide hcell) g cap (unhide HO) j hjl
                cases hle : Tr.less (L.getD j ByteArray.empty) t with
                | true =>
                  have hbl : Op.bytesLess (L.getD j ByteArray.empty).toList t.toList = true := hle
                  have hle2 : Hid (∀ i, i < j + 1 → Tr.less (L.getD i ByteArray.empty) t = true) := fun i hi => by
                    rcases Nat.lt_or_ge i j with h | h
                    · exact hless.out i h
                    · have hij : i = j := by omega
                      rw [hij]; exact hle
                  generalize L.getD j ByteArray.empty = u at m0 hbl
                  clear hle
                  go_wp2_with fail
                  go_roundg (L.length - (j + 1))
                  case rel => exact ⟨j + 1, rfl, by go_num, by omega, unhide hle2, rfl⟩
                  case measure => have := hgj.out; omega
                | false =>
                  have hbl : Op.bytesLess (L.getD j ByteArray.empty).toList t.toList = false := hle
                  have hah := (unhide hstop) j (by omega) hless.out (.inr hle)
                  have hjL : j ≤ L.length := by omega
                  have hjLI : (j : Int) ≤ (L.length : Int) := by omega
                  have hcj : cap ≠ j := by omega
                  generalize L.getD j ByteArray.empty = u at m0 hbl
                  clear hle
                  go_wp2_with fail
                  refine Z.region 15 (fun w' => w'.cell? ⟨w1.heap.size, 1, none⟩ = some (.slice (some ⟨g, 0, none⟩) L.length cap) ∧ Below wr.heap.size wr w') (by kernel_rfl) ⟨c1, (Below.refl _ _).drew⟩ (fun hHeld => ?_)
                  refine Z.take (i := 1) (d := 79) (v := .pointer (some ⟨w1.heap.size, 1, none⟩)) rfl rfl (by kernel_rfl) (by kernel_rfl) (by kernel_rfl) (by kernel_rfl) (fun _ _ _ h => h) (Or.inl ⟨by rfl, ?_⟩) hHeld ?_
                  · intro w' hSw; obtain ⟨s1, _⟩ := hSw; go_simp
                  simp only [Act.put, List.setIfInBounds_toArray, List.set_cons_zero, List.set_cons_succ]
                  refine Z.take (i := 2) (d := 80) (v := .slice (some ⟨g, 0, none⟩) L.length cap) rfl rfl (by kernel_rfl) (by kernel_rfl) (by kernel_rfl) (by kernel_rfl) (fun _ _ _ h => h) (Or.inl ⟨by rfl, ?_⟩) hHeld ?_
                  · intro w' hSw; obtain ⟨s1, _⟩ := hSw; go_simp
                  simp only [Act.put, List.setIfInBounds_toArray, List.set_cons_zero, List.set_cons_succ]
                  refine Z.take (i := 3) (d := 81) (v := .int .i64 j) rfl rfl (by kernel_rfl) (by kernel_rfl) (by kernel_rfl) (by kernel_rfl) (fun _ _ _ h => h) (Or.inl ⟨by rfl, ?_⟩) hHeld ?_
                  · intro w' hSw; obtain ⟨s1, _⟩ := hSw; go_simp
                  simp only [Act.put, List.setIfInBounds_toArray, List.set_cons_zero, List.set_cons_succ]
                  refine Z.take (i := 4) (d := 82) (v := .slice (some ⟨g, 0, none⟩) j cap) rfl rfl (by kernel_rfl) (by kernel_rfl) (by kernel_rfl) (by kernel_rfl) (fun _ _ _ h => h) (Or.inl ⟨by rfl, ?_⟩) hHeld ?_
                  · intro w' hSw; obtain ⟨s1, _⟩ := hSw; go_simp
                  simp only [Act.put, List.setIfInBounds_toArray, List.set_cons_zero, List.set_cons_succ]
                  refine Z.take (i := 6) (d := 84) (v := .string t) rfl rfl (by kernel_rfl) (by kernel_rfl) (by kernel_rfl) (by kernel_rfl) (fun _ _ _ h => h) (Or.inl ⟨by rfl, ?_⟩) hHeld ?_
                  · intro w' hSw; obtain ⟨s1, _⟩ := hSw; go_simp
                  simp only [Act.put, List.setIfInBounds_toArray, List.set_cons_zero, List.set_cons_succ]
                  refine Z.take (i := 9) (d := 87) (v := .pointer (some ⟨w1.heap.size, 1, none⟩)) rfl rfl (by kernel_rfl) (by kernel_rfl) (by kernel_rfl) (by kernel_rfl) (fun _ _ _ h => h) (Or.inl ⟨by rfl, ?_⟩) hHeld ?_
                  · intro w' hSw; obtain ⟨s1, _⟩ := hSw; go_simp
                  simp only [Act.put, List.setIfInBounds_toArray, List.set_cons_zero, List.set_cons_succ]
                  refine Z.take (i := 10) (d := 88) (v := .slice (some ⟨g, 0, none⟩) L.length cap) rfl rfl (by kernel_rfl) (by kernel_rfl) (by kernel_rfl) (by kernel_rfl) (fun _ _ _ h => h) (Or.inl ⟨by rfl, ?_⟩) hHeld ?_
                  · intro w' hSw; obtain ⟨s1, _⟩ := hSw; go_simp
                  simp only [Act.put, List.setIfInBounds_toArray, List.set_cons_zero, List.set_cons_succ]
                  refine Z.take (i := 11) (d := 89) (v := .int .i64 j) rfl rfl (by kernel_rfl) (by kernel_rfl) (by kernel_rfl) (by kernel_rfl) (fun _ _ _ h => h) (Or.inl ⟨by rfl, ?_⟩) hHeld ?_
                  · intro w' hSw; obtain ⟨s1, _⟩ := hSw; go_simp
                  simp only [Act.put, List.setIfInBounds_toArray, List.set_cons_zero, List.set_cons_succ]
                  refine Z.take (i := 12) (d := 90) (v := .slice (some ⟨g, j, none⟩) (L.length - j) (cap - j)) rfl rfl (by kernel_rfl) (by kernel_rfl) (by kernel_rfl) (by kernel_rfl) (fun _ _ _ h => h) (Or.inl ⟨by rfl, ?_⟩) hHeld ?_
                  · intro w' hSw; obtain ⟨s1, _⟩ := hSw; go_simp
                  simp only [Act.put, List.setIfInBounds_toArray, List.set_cons_zero, List.set_cons_succ]
                  refine Z.ready (rs := [0, 7]) (by kernel_rfl) (by simp) (Z.val_cons (i := 0) (d := 78) (v := .slice (some ⟨wr.heap.size, 0, none⟩) 0 0) (w' := (wr.alloc (.cells #[] 9)).drew) rfl (by rfl) ?_ (fun _ => ?_) ?_ (Z.val_cons (i := 7) (d := 85) (v := .slice (some ⟨wr.heap.size, 0, none⟩) 1 1) (w' := (wr.alloc (.cells #[.string t] 9)).drew) rfl (by rfl) ?_ (fun _ => ?_) ?_ Z.All.nil))
                  · intro K hK
                    go_simp
                    exact hK.out
                  · exact ⟨(((Below.refl wr.heap.size wr).alloc (by simp) _).drew.cell (by exact hN.lt)).trans c1, ((Below.refl wr.heap.size wr).alloc (by simp) _).drew⟩
                  · simp only [Act.put, List.setIfInBounds_toArray, List.set_cons_zero, List.set_cons_succ]
                    refine Z.ready (rs := [5, 7]) (by kernel_rfl) (by simp) (Z.All.cons rfl (fun K hK => ?_) (Z.val_cons (i := 7) (d := 85) (v := .slice (some ⟨wr.heap.size + 1, 0, none⟩) 1 1) (w' := ((wr.alloc (.cells #[] 9)).alloc (.cells #[.string t] 9)).drew) rfl (by rfl) ?_ (fun _ => ?_) ?_ Z.All.nil))
                    · skip
                      have BLW : Below wr.heap.size wr ((wr.alloc (.cells #[] 9)).drew) := ((Below.refl wr.heap.size wr).alloc (by simp) _).drew
                      refine Ap.step_append_row ((wr.alloc (.cells #[] 9)).drew) rfl (.tmp 78) (.tmp 82) 24 rfl wr.heap.size 9 t0 (.string ByteArray.empty) 16 Try.underlying24 ht0 hy0 hy1 hy2 rfl (.slice (some ⟨wr.heap.size, 0, none⟩) 0 0) 0 [] rfl (Ap.owns_empty (by omega) (Ap.heapE _ _)) (w1.heap.size + 1) 9 (.slice (some ⟨g, 0, none⟩) j cap) j ((L.map Value.string).take j) rfl (Tr.owns_first (Tr.owns_below (unhide HO) BLW) j hjL) (fun u hu => Tr.strs_plain L u (List.mem_of_mem_take hu)) (by unfold maxLen; omega) (by omega) BLW.size ?_
                      intro v1 wa ho1 hg1
                      have hB1 : Below wr.heap.size wr wa := Below.grown BLW hg1 BLW.size (by intro q hq; simp only [Value.ownBlock, Option.some.injEq] at hq; omega)
                      refine hK.out _ _ (fun _ => ⟨(hB1.cell (by exact hN.lt)).trans c1, hB1⟩) ?_
                      clear hK K
                      simp only [Act.put, List.setIfInBounds_toArray, List.set_cons_zero, List.set_cons_succ]
                      refine Z.ready (rs := [7]) (by kernel_rfl) (by simp) (Z.val_cons (i := 7) (d := 85) (v := .slice (some ⟨wa.heap.size, 0, none⟩) 1 1) (w' := wa.alloc (.cells #[.string t] 9)) rfl (by rfl) ?_ (fun _ => ?_) ?_ Z.All.nil)
                      · intro K hK
                        go_simp
                        exact hK.out
                      · exact ⟨((hB1.alloc hB1.size _).cell (by exact hN.lt)).trans c1, hB1.alloc hB1.size _⟩
                      · simp only [Act.put, List.setIfInBounds_toArray, List.set_cons_zero, List.set_cons_succ]
                        have HO1 := ho1.alloc (.cells #[.string t] 9)
                        have HB1 := hB1.alloc hB1.size (.cells #[.string t] 9)
                        refine Z.ready (rs := [8]) (by kernel_rfl) (by simp) (Z.All.cons rfl (fun K hK => ?_) Z.All.nil)
                        refine Ap.step_append_any (wa.alloc (.cells #[.string t] 9)) rfl (.tmp 83) (.tmp 85) 24 rfl wr.heap.size 9 t0 (.string ByteArray.empty) 1 16 Try.underlying24 ht0 hy0 hy1 hy2 rfl (by decide) v1 (0 + j) _ rfl HO1 ⟨wa.heap.size, 0, none⟩ 1 1 [.string t] rfl rfl (Ap.one_of (World.cell?_alloc_mark wa #[.string t] 9 (0, 0) 0)) (by intro u hu; simp only [List.mem_cons, List.not_mem_nil, or_false] at hu; subst hu; rfl) (by unfold maxLen; omega) (by omega) HB1.size ?_
                        intro v2 wb ho2 hg2
                        have hB2 : Below wr.heap.size wr wb := Below.grown HB1 hg2 HB1.size (Tr.owns_base HO1)
                        refine hK.out _ _ (fun _ => ⟨(hB2.cell (by exact hN.lt)).trans c1, hB2⟩) ?_
                        clear hK K
                        simp only [Act.put, List.setIfInBounds_toArray, List.set_cons_zero, List.set_cons_succ]
                        refine Z.ready (rs := [13]) (by kernel_rfl) (by simp) (Z.All.cons rfl (fun K hK => ?_) Z.All.nil)
                        refine Ap.step_append_any wb rfl (.tmp 86) (.tmp 90) 24 rfl wr.heap.size 9 t0 (.string ByteArray.empty) 1 16 Try.underlying24 ht0 hy0 hy1 hy2 rfl (by decide) v2 ((0 + j) + 1) _ rfl ho2 ⟨g, j, none⟩ (L.length - j) (cap - j) ((L.map Value.string).drop j) rfl (by simp) (Tr.owns_drop (Tr.owns_below (unhide HO) hB2) j) (fun u hu => Tr.strs_plain L u (List.mem_of_mem_drop hu)) (by unfold maxLen; omega) (by omega) hB2.size ?_
                        intro v3 wc ho3 hg3
                        have hB3 : Below wr.heap.size wr wc := Below.grown hB2 hg3 hB2.size (Tr.owns_base ho2)
                        have hS3 : (fun w' => w'.cell? ⟨w1.heap.size, 1, none⟩ = some (.slice (some ⟨g, 0, none⟩) L.length cap) ∧ Below wr.heap.size wr w') wc := ⟨(hB3.cell (by exact hN.lt)).trans c1, hB3⟩
                        obtain ⟨xa, xc, hx3⟩ := Tr.owns_slice ho3
                        have HR3 := fun x => hide (Tr.names_in hah ho3 hN.lt (i := 1) (x := x))
                        generalize hcnt : ((0 + j) + 1 + (L.length - j)) = cnt at hx3
                        clear hcnt
                        subst hx3
                        refine hK.out _ _ (fun _ => hS3) ?_
                        clear hK K
                        simp only [Act.put, List.setIfInBounds_toArray, List.set_cons_zero, List.set_cons_succ]
                        refine Z.take (i := 14) (d := 92) (v := .pointer (some ⟨w1.heap.size, 1, none⟩)) rfl rfl (by kernel_rfl) (by kernel_rfl) (by kernel_rfl) (by kernel_rfl) (fun _ _ _ h => h) (Or.inl ⟨by rfl, ?_⟩) hS3 ?_
                        · intro w' hSw; obtain ⟨s1, _⟩ := hSw; go_simp
                        simp only [Act.put, List.setIfInBounds_toArray, List.set_cons_zero, List.set_cons_succ]
                        have N3 := hN.below hB3 hN.lt
                        have n3 := (nres_of N3).2
                        have y3 := N3.frozen 1
                        refine Z.last_at (w' := wc.setCell ⟨w1.heap.size, 1, none⟩ (.slice xa cnt xc)) rfl (by kernel_rfl) (by rfl) (fun K hK => ?_) ?_
                        · go_simp
                          exact hK.out
                        refine Z.done (by kernel_rfl) ?_ _
                        have hB4 : Below w1.heap.size w1 (wc.setCell ⟨w1.heap.size, 1, none⟩ (.slice xa cnt xc)) := (hbel.trans (hB3.mono hbel.size)).setCell (Nat.le_refl _) _
                        have N4 := N3.set 1 (.slice xa cnt xc)
                        clear n3 y3 c1
                        go_wp2_with fail
                        go_roundg (l.length - (k + 1))
                        case rel => exact ⟨k + 1, _, Tr.insV L t, rfl, by go_num, by omega, unhide hn2, by rw [Tr.insV_length]; omega, N4, unhide (HR3 _), hB4⟩
                        case measure => have := hg.out; omega
                    · intro K hK
                      go_simp
                      exact hK.out
                    · exact ⟨((((Below.refl wr.heap.size wr).alloc (by simp) _).alloc (by simp) _).drew.cell (by exact hN.lt)).trans c1, (((Below.refl wr.heap.size wr).alloc (by simp) _).alloc (by simp) _).drew⟩
                    · simp only [Act.put, List.setIfInBounds_toArray, List.set_cons_zero, List.set_cons_succ]
                      refine Z.ready (rs := [5]) (by kernel_rfl) (by simp) (Z.All.cons rfl (fun K hK => ?_) Z.All.nil)
                      have BLW : Below wr.heap.size wr (((wr.alloc (.cells #[] 9)).alloc (.cells #[.string t] 9)).drew) := (((Below.refl wr.heap.size wr).alloc (by simp) _).alloc (by simp) _).drew
                      refine Ap.step_append_row (((wr.alloc (.cells #[] 9)).alloc (.cells #[.string t] 9)).drew) rfl (.tmp 78) (.tmp 82) 24 rfl wr.heap.size 9 t0 (.string ByteArray.empty) 16 Try.underlying24 ht0 hy0 hy1 hy2 rfl (.slice (some ⟨wr.heap.size, 0, none⟩) 0 0) 0 [] rfl (Ap.owns_empty (by omega) (Ap.heapEK _ _ _)) (w1.heap.size + 1) 9 (.slice (some ⟨g, 0, none⟩) j cap) j ((L.map Value.string).take j) rfl (Tr.owns_first (Tr.owns_below (unhide HO) BLW) j hjL) (fun u hu => Tr.strs_plain L u (List.mem_of_mem_take hu)) (by unfold maxLen; omega) (by omega) BLW.size ?_
                      intro v1 wa ho1 hg1
                      have hB1 : Below wr.heap.size wr wa := Below.grown BLW hg1 BLW.size (by intro q hq; simp only [Value.ownBlock, Option.some.injEq] at hq; omega)
                      have hk1 : wa.cell? ⟨wr.heap.size + 1, 0, none⟩ = some (.string t) := (World.grownBy.cell_far hg1 ⟨wr.heap.size + 1, 0, none⟩ (by simp) (Ap.ne_own (wr.heap.size + 1) wr.heap.size 0 0 (by omega))).trans (Ap.cellEK _ _ _)
                      refine hK.out _ _ (fun _ => ⟨(hB1.cell (by exact hN.lt)).trans c1, hB1⟩) ?_
                      clear hK K
                      simp only [Act.put, List.setIfInBounds_toArray, List.set_cons_zero, List.set_cons_succ]
                      have HO1 := ho1
                      have HB1 := hB1
                      refine Z.ready (rs := [8]) (by kernel_rfl) (by simp) (Z.All.cons rfl (fun K hK => ?_) Z.All.nil)
                      refine Ap.step_append_any (wa) rfl (.tmp 83) (.tmp 85) 24 rfl wr.heap.size 9 t0 (.string ByteArray.empty) 1 16 Try.underlying24 ht0 hy0 hy1 hy2 rfl (by decide) v1 (0 + j) _ rfl HO1 ⟨wr.heap.size + 1, 0, none⟩ 1 1 [.string t] rfl rfl (Ap.one_of hk1) (by intro u hu; simp only [List.mem_cons, List.not_mem_nil, or_false] at hu; subst hu; rfl) (by unfold maxLen; omega) (by omega) HB1.size ?_
                      intro v2 wb ho2 hg2
                      have hB2 : Below wr.heap.size wr wb := Below.grown HB1 hg2 HB1.size (Tr.owns_base HO1)
                      refine hK.out _ _ (fun _ => ⟨(hB2.cell (by exact hN.lt)).trans c1, hB2⟩) ?_
                      clear hK K
                      simp only [Act.put, List.setIfInBounds_toArray, List.set_cons_zero, List.set_cons_succ]
                      refine Z.ready (rs := [13]) (by kernel_rfl) (by simp) (Z.All.cons rfl (fun K hK => ?_) Z.All.nil)
                      refine Ap.step_append_any wb rfl (.tmp 86) (.tmp 90) 24 rfl wr.heap.size 9 t0 (.string ByteArray.empty) 1 16 Try.underlying24 ht0 hy0 hy1 hy2 rfl (by decide) v2 ((0 + j) + 1) _ rfl ho2 ⟨g, j, none⟩ (L.length - j) (cap - j) ((L.map Value.string).drop j) rfl (by simp) (Tr.owns_drop (Tr.owns_below (unhide HO) hB2) j) (fun u hu => Tr.strs_plain L u (List.mem_of_mem_drop hu)) (by unfold maxLen; omega) (by omega) hB2.size ?_
                      intro v3 wc ho3 hg3
                      have hB3 : Below wr.heap.size wr wc := Below.grown hB2 hg3 hB2.size (Tr.owns_base ho2)
                      have hS3 : (fun w' => w'.cell? ⟨w1.heap.size, 1, none⟩ = some (.slice (some ⟨g, 0, none⟩) L.length cap) ∧ Below wr.heap.size wr w') wc := ⟨(hB3.cell (by exact hN.lt)).trans c1, hB3⟩
                      obtain ⟨xa, xc, hx3⟩ := Tr.owns_slice ho3
                      have HR3 := fun x => hide (Tr.names_in hah ho3 hN.lt (i := 1) (x := x))
                      generalize hcnt : ((0 + j) + 1 + (L.length - j)) = cnt at hx3
                      clear hcnt
                      subst hx3
                      refine hK.out _ _ (fun _ => hS3) ?_
                      clear hK K
                      simp only [Act.put, List.setIfInBounds_toArray, List.set_cons_zero, List.set_cons_succ]
                      refine Z.take (i := 14) (d := 92) (v := .pointer (some ⟨w1.heap.size, 1, none⟩)) rfl rfl (by kernel_rfl) (by kernel_rfl) (by kernel_rfl) (by kernel_rfl) (fun _ _ _ h => h) (Or.inl ⟨by rfl, ?_⟩) hS3 ?_
                      · intro w' hSw; obtain ⟨s1, _⟩ := hSw; go_simp
                      simp only [Act.put, List.setIfInBounds_toArray, List.set_cons_zero, List.set_cons_succ]
                      have N3 := hN.below hB3 hN.lt
                      have n3 := (nres_of N3).2
                      have y3 := N3.frozen 1
                      refine Z.last_at (w' := wc.setCell ⟨w1.heap.size, 1, none⟩ (.slice xa cnt xc)) rfl (by kernel_rfl) (by rfl) (fun K hK => ?_) ?_
                      · go_simp
                        exact hK.out
                      refine Z.done (by kernel_rfl) ?_ _
                      have hB4 : Below w1.heap.size w1 (wc.setCell ⟨w1.heap.size, 1, none⟩ (.slice xa cnt xc)) := (hbel.trans (hB3.mono hbel.size)).setCell (Nat.le_refl _) _
                      have N4 := N3.set 1 (.slice xa cnt xc)
                      clear n3 y3 c1
                      go_wp2_with fail
                      go_roundg (l.length - (k + 1))
                      case rel => exact ⟨k + 1, _, Tr.insV L t, rfl, by go_num, by omega, unhide hn2, by rw [Tr.insV_length]; omega, N4, unhide (HR3 _), hB4⟩
                      case measure => have := hg.out; omega
                  · intro K hK
                    go_simp
                    exact hK.out
                  · exact ⟨(((Below.refl wr.heap.size wr).alloc (by simp) _).drew.cell (by exact hN.lt)).trans c1, ((Below.refl wr.heap.size wr).alloc (by simp) _).drew⟩
                  · simp only [Act.put, List.setIfInBounds_toArray, List.set_cons_zero, List.set_cons_succ]
                    refine Z.ready (rs := [0]) (by kernel_rfl) (by simp) (Z.val_cons (i := 0) (d := 78) (v := .slice (some ⟨wr.heap.size + 1, 0, none⟩) 0 0) (w' := ((wr.alloc (.cells #[.string t] 9)).alloc (.cells #[] 9)).drew) rfl (by rfl) ?_ (fun _ => ?_) ?_ Z.All.nil)
                    · intro K hK
                      go_simp
                      exact hK.out
                    · exact ⟨((((Below.refl wr.heap.size wr).alloc (by simp) _).alloc (by simp) _).drew.cell (by exact hN.lt)).trans c1, (((Below.refl wr.heap.size wr).alloc (by simp) _).alloc (by simp) _).drew⟩
                    · simp only [Act.put, List.setIfInBounds_toArray, List.set_cons_zero, List.set_cons_succ]
                      refine Z.ready (rs := [5]) (by kernel_rfl) (by simp) (Z.All.cons rfl (fun K hK => ?_) Z.All.nil)
                      have BLW : Below wr.heap.size wr (((wr.alloc (.cells #[.string t] 9)).alloc (.cells #[] 9)).drew) := (((Below.refl wr.heap.size wr).alloc (by simp) _).alloc (by simp) _).drew
                      refine Ap.step_append_row (((wr.alloc (.cells #[.string t] 9)).alloc (.cells #[] 9)).drew) rfl (.tmp 78) (.tmp 82) 24 rfl wr.heap.size 9 t0 (.string ByteArray.empty) 16 Try.underlying24 ht0 hy0 hy1 hy2 rfl (.slice (some ⟨wr.heap.size + 1, 0, none⟩) 0 0) 0 [] rfl (Ap.owns_empty (by omega) (Ap.heapKE _ _ _)) (w1.heap.size + 1) 9 (.slice (some ⟨g, 0, none⟩) j cap) j ((L.map Value.string).take j) rfl (Tr.owns_first (Tr.owns_below (unhide HO) BLW) j hjL) (fun u hu => Tr.strs_plain L u (List.mem_of_mem_take hu)) (by unfold maxLen; omega) (by omega) BLW.size ?_
                      intro v1 wa ho1 hg1
                      have hB1 : Below wr.heap.size wr wa := Below.grown BLW hg1 BLW.size (by intro q hq; simp only [Value.ownBlock, Option.some.injEq] at hq; omega)
                      have hk1 : wa.cell? ⟨wr.heap.size, 0, none⟩ = some (.string t) := (World.grownBy.cell_far hg1 ⟨wr.heap.size, 0, none⟩ (by simp <;> omega) (Ap.ne_own wr.heap.size (wr.heap.size + 1) 0 0 (by omega))).trans (Ap.cellKE _ _ _)
                      refine hK.out _ _ (fun _ => ⟨(hB1.cell (by exact hN.lt)).trans c1, hB1⟩) ?_
                      clear hK K
                      simp only [Act.put, List.setIfInBounds_toArray, List.set_cons_zero, List.set_cons_succ]
                      have HO1 := ho1
                      have HB1 := hB1
                      refine Z.ready (rs := [8]) (by kernel_rfl) (by simp) (Z.All.cons rfl (fun K hK => ?_) Z.All.nil)
                      refine Ap.step_append_any (wa) rfl (.tmp 83) (.tmp 85) 24 rfl wr.heap.size 9 t0 (.string ByteArray.empty) 1 16 Try.underlying24 ht0 hy0 hy1 hy2 rfl (by decide) v1 (0 + j) _ rfl HO1 ⟨wr.heap.size, 0, none⟩ 1 1 [.string t] rfl rfl (Ap.one_of hk1) (by intro u hu; simp only [List.mem_cons, List.not_mem_nil, or_false] at hu; subst hu; rfl) (by unfold maxLen; omega) (by omega) HB1.size ?_
                      intro v2 wb ho2 hg2
                      have hB2 : Below wr.heap.size wr wb := Below.grown HB1 hg2 HB1.size (Tr.owns_base HO1)
                      refine hK.out _ _ (fun _ => ⟨(hB2.cell (by exact hN.lt)).trans c1, hB2⟩) ?_
                      clear hK K
                      simp only [Act.put, List.setIfInBounds_toArray, List.set_cons_zero, List.set_cons_succ]
                      refine Z.ready (rs := [13]) (by kernel_rfl) (by simp) (Z.All.cons rfl (fun K hK => ?_) Z.All.nil)
                      refine Ap.step_append_any wb rfl (.tmp 86) (.tmp 90) 24 rfl wr.heap.size 9 t0 (.string ByteArray.empty) 1 16 Try.underlying24 ht0 hy0 hy1 hy2 rfl (by decide) v2 ((0 + j) + 1) _ rfl ho2 ⟨g, j, none⟩ (L.length - j) (cap - j) ((L.map Value.string).drop j) rfl (by simp) (Tr.owns_drop (Tr.owns_below (unhide HO) hB2) j) (fun u hu => Tr.strs_plain L u (List.mem_of_mem_drop hu)) (by unfold maxLen; omega) (by omega) hB2.size ?_
                      intro v3 wc ho3 hg3
                      have hB3 : Below wr.heap.size wr wc := Below.grown hB2 hg3 hB2.size (Tr.owns_base ho2)
                      have hS3 : (fun w' => w'.cell? ⟨w1.heap.size, 1, none⟩ = some (.slice (some ⟨g, 0, none⟩) L.length cap) ∧ Below wr.heap.size wr w') wc := ⟨(hB3.cell (by exact hN.lt)).trans c1, hB3⟩
                      obtain ⟨xa, xc, hx3⟩ := Tr.owns_slice ho3
                      have HR3 := fun x => hide (Tr.names_in hah ho3 hN.lt (i := 1) (x := x))
                      generalize hcnt : ((0 + j) + 1 + (L.length - j)) = cnt at hx3
                      clear hcnt
                      subst hx3
                      refine hK.out _ _ (fun _ => hS3) ?_
                      clear hK K
                      simp only [Act.put, List.setIfInBounds_toArray, List.set_cons_zero, List.set_cons_succ]
                      refine Z.take (i := 14) (d := 92) (v := .pointer (some ⟨w1.heap.size, 1, none⟩)) rfl rfl (by kernel_rfl) (by kernel_rfl) (by kernel_rfl) (by kernel_rfl) (fun _ _ _ h => h) (Or.inl ⟨by rfl, ?_⟩) hS3 ?_
                      · intro w' hSw; obtain ⟨s1, _⟩ := hSw; go_simp
                      simp only [Act.put, List.setIfInBounds_toArray, List.set_cons_zero, List.set_cons_succ]
                      have N3 := hN.below hB3 hN.lt
                      have n3 := (nres_of N3).2
                      have y3 := N3.frozen 1
                      refine Z.last_at (w' := wc.setCell ⟨w1.heap.size, 1, none⟩ (.slice xa cnt xc)) rfl (by kernel_rfl) (by rfl) (fun K hK => ?_) ?_
                      · go_simp
                        exact hK.out
                      refine Z.done (by kernel_rfl) ?_ _
                      have hB4 : Below w1.heap.size w1 (wc.setCell ⟨w1.heap.size, 1, none⟩ (.slice xa cnt xc)) := (hbel.trans (hB3.mono hbel.size)).setCell (Nat.le_refl _) _
                      have N4 := N3.set 1 (.slice xa cnt xc)
                      clear n3 y3 c1
                      go_wp2_with fail
                      go_roundg (l.length - (k + 1))
                      case rel => exact ⟨k + 1, _, Tr.insV L t, rfl, by go_num, by omega, unhide hn2, by rw [Tr.insV_length]; omega, N4, unhide (HR3 _), hB4⟩
                      case measure => have := hg.out; omega
              · have hje : j = L.length := by omega
                have hah := (unhide hstop) j (by omega) hless.out (.inl hje)
                subst hje
                have hjL : L.length ≤ L.length := Nat.le_refl _
                have hnl : ¬ (L.length : Int) < (L.length : Int) := by omega
                by_cases hcj : cap = L.length
                · subst hcj
                  go_wp2_with fail
                  refine Z.region 15 (fun w' => w'.cell? ⟨w1.heap.size, 1, none⟩ = some (.slice (some ⟨g, 0, none⟩) L.length L.length) ∧ Below wr.heap.size wr w') (by kernel_rfl) ⟨c1, (Below.refl _ _).drew⟩ (fun hHeld => ?_)
                  refine Z.take (i := 1) (d := 79) (v := .pointer (some ⟨w1.heap.size, 1, none⟩)) rfl rfl (by kernel_rfl) (by kernel_rfl) (by kernel_rfl) (by kernel_rfl) (fun _ _ _ h => h) (Or.inl ⟨by rfl, ?_⟩) hHeld ?_
                  · intro w' hSw; obtain ⟨s1, _⟩ := hSw; go_simp
                  simp only [Act.put, List.setIfInBounds_toArray, List.set_cons_zero, List.set_cons_succ]
                  refine Z.take (i := 2) (d := 80) (v := .slice (some ⟨g, 0, none⟩) L.length L.length) rfl rfl (by kernel_rfl) (by kernel_rfl) (by kernel_rfl) (by kernel_rfl) (fun _ _ _ h => h) (Or.inl ⟨by rfl, ?_⟩) hHeld ?_
                  · intro w' hSw; obtain ⟨s1, _⟩ := hSw; go_simp
                  simp only [Act.put, List.setIfInBounds_toArray, List.set_cons_zero, List.set_cons_succ]
                  refine Z.take (i := 3) (d := 81) (v := .int .i64 L.length) rfl rfl (by kernel_rfl) (by kernel_rfl) (by kernel_rfl) (by kernel_rfl) (fun _ _ _ h => h) (Or.inl ⟨by rfl, ?_⟩) hHeld ?_
                  · intro w' hSw; obtain ⟨s1, _⟩ := hSw; go_simp
                  simp only [Act.put, List.setIfInBounds_toArray, List.set_cons_zero, List.set_cons_succ]
                  refine Z.take (i := 4) (d := 82) (v := .slice (some ⟨g, 0, none⟩) L.length L.length) rfl rfl (by kernel_rfl) (by kernel_rfl) (by kernel_rfl) (by kernel_rfl) (fun _ _ _ h => h) (Or.inl ⟨by rfl, ?_⟩) hHeld ?_
                  · intro w' hSw; obtain ⟨s1, _⟩ := hSw; go_simp
                  simp only [Act.put, List.setIfInBounds_toArray, List.set_cons_zero, List.set_cons_succ]
                  refine Z.take (i := 6) (d := 84) (v := .string t) rfl rfl (by kernel_rfl) (by kernel_rfl) (by kernel_rfl) (by kernel_rfl) (fun _ _ _ h => h) (Or.inl ⟨by rfl, ?_⟩) hHeld ?_
                  · intro w' hSw; obtain ⟨s1, _⟩ := hSw; go_simp
                  simp only [Act.put, List.setIfInBounds_toArray, List.set_cons_zero, List.set_cons_succ]
                  refine Z.take (i := 9) (d := 87) (v := .pointer (some ⟨w1.heap.size, 1, none⟩)) rfl rfl (by kernel_rfl) (by kernel_rfl) (by kernel_rfl) (by kernel_rfl) (fun _ _ _ h => h) (Or.inl ⟨by rfl, ?_⟩) hHeld ?_
                  · intro w' hSw; obtain ⟨s1, _⟩ := hSw; go_simp
                  simp only [Act.put, List.setIfInBounds_toArray, List.set_cons_zero, List.set_cons_succ]
                  refine Z.take (i := 10) (d := 88) (v := .slice (some ⟨g, 0, none⟩) L.length L.length) rfl rfl (by kernel_rfl) (by kernel_rfl) (by kernel_rfl) (by kernel_rfl) (fun _ _ _ h => h) (Or.inl ⟨by rfl, ?_⟩) hHeld ?_
                  · intro w' hSw; obtain ⟨s1, _⟩ := hSw; go_simp
                  simp only [Act.put, List.setIfInBounds_toArray, List.set_cons_zero, List.set_cons_succ]
                  refine Z.take (i := 11) (d := 89) (v := .int .i64 L.length) rfl rfl (by kernel_rfl) (by kernel_rfl) (by kernel_rfl) (by kernel_rfl) (fun _ _ _ h => h) (Or.inl ⟨by rfl, ?_⟩) hHeld ?_
                  · intro w' hSw; obtain ⟨s1, _⟩ := hSw; go_simp
                  simp only [Act.put, List.setIfInBounds_toArray, List.set_cons_zero, List.set_cons_succ]
                  refine Z.take (i := 12) (d := 90) (v := .slice (some ⟨g, 0, none⟩) 0 (0)) rfl rfl (by kernel_rfl) (by kernel_rfl) (by kernel_rfl) (by kernel_rfl) (fun _ _ _ h => h) (Or.inl ⟨by rfl, ?_⟩) hHeld ?_
                  · intro w' hSw; obtain ⟨s1, _⟩ := hSw; go_simp
                  simp only [Act.put, List.setIfInBounds_toArray, List.set_cons_zero, List.set_cons_succ]
                  refine Z.ready (rs := [0, 7]) (by kernel_rfl) (by simp) (Z.val_cons (i := 0) (d := 78) (v := .slice (some ⟨wr.heap.size, 0, none⟩) 0 0) (w' := (wr.alloc (.cells #[] 9)).drew) rfl (by rfl) ?_ (fun _ => ?_) ?_ (Z.val_cons (i := 7) (d := 85) (v := .slice (some ⟨wr.heap.size, 0, none⟩) 1 1) (w' := (wr.alloc (.cells #[.string t] 9)).drew) rfl (by rfl) ?_ (fun _ => ?_) ?_ Z.All.nil))
                  · intro K hK
                    go_simp
                    exact hK.out
                  · exact ⟨(((Below.refl wr.heap.size wr).alloc (by simp) _).drew.cell (by exact hN.lt)).trans c1, ((Below.refl wr.heap.size wr).alloc (by simp) _).drew⟩
                  · simp only [Act.put, List.setIfInBounds_toArray, List.set_cons_zero, List.set_cons_succ]
                    refine Z.ready (rs := [5, 7]) (by kernel_rfl) (by simp) (Z.All.cons rfl (fun K hK => ?_) (Z.val_cons (i := 7) (d := 85) (v := .slice (some ⟨wr.heap.size + 1, 0, none⟩) 1 1) (w' := ((wr.alloc (.cells #[] 9)).alloc (.cells #[.string t] 9)).drew) rfl (by rfl) ?_ (fun _ => ?_) ?_ Z.All.nil))
                    · skip
                      have BLW : Below wr.heap.size wr ((wr.alloc (.cells #[] 9)).drew) := ((Below.refl wr.heap.size wr).alloc (by simp) _).drew
                      refine Ap.step_append_row ((wr.alloc (.cells #[] 9)).drew) rfl (.tmp 78) (.tmp 82) 24 rfl wr.heap.size 9 t0 (.string ByteArray.empty) 16 Try.underlying24 ht0 hy0 hy1 hy2 rfl (.slice (some ⟨wr.heap.size, 0, none⟩) 0 0) 0 [] rfl (Ap.owns_empty (by omega) (Ap.heapE _ _)) (w1.heap.size + 1) 9 (.slice (some ⟨g, 0, none⟩) L.length L.length) L.length ((L.map Value.string).take L.length) rfl (Tr.owns_first (Tr.owns_below (unhide HO) BLW) L.length hjL) (fun u hu => Tr.strs_plain L u (List.mem_of_mem_take hu)) (by unfold maxLen; omega) (by omega) BLW.size ?_
                      intro v1 wa ho1 hg1
                      have hB1 : Below wr.heap.size wr wa := Below.grown BLW hg1 BLW.size (by intro q hq; simp only [Value.ownBlock, Option.some.injEq] at hq; omega)
                      refine hK.out _ _ (fun _ => ⟨(hB1.cell (by exact hN.lt)).trans c1, hB1⟩) ?_
                      clear hK K
                      simp only [Act.put, List.setIfInBounds_toArray, List.set_cons_zero, List.set_cons_succ]
                      refine Z.ready (rs := [7]) (by kernel_rfl) (by simp) (Z.val_cons (i := 7) (d := 85) (v := .slice (some ⟨wa.heap.size, 0, none⟩) 1 1) (w' := wa.alloc (.cells #[.string t] 9)) rfl (by rfl) ?_ (fun _ => ?_) ?_ Z.All.nil)
                      · intro K hK
                        go_simp
                        exact hK.out
                      · exact ⟨((hB1.alloc hB1.size _).cell (by exact hN.lt)).trans c1, hB1.alloc hB1.size _⟩
                      · simp only [Act.put, List.setIfInBounds_toArray, List.set_cons_zero, List.set_cons_succ]
                        have HO1 := ho1.alloc (.cells #[.string t] 9)
                        have HB1 := hB1.alloc hB1.size (.cells #[.string t] 9)
                        refine Z.ready (rs := [8]) (by kernel_rfl) (by simp) (Z.All.cons rfl (fun K hK => ?_) Z.All.nil)
                        refine Ap.step_append_any (wa.alloc (.cells #[.string t] 9)) rfl (.tmp 83) (.tmp 85) 24 rfl wr.heap.size 9 t0 (.string ByteArray.empty) 1 16 Try.underlying24 ht0 hy0 hy1 hy2 rfl (by decide) v1 (0 + L.length) _ rfl HO1 ⟨wa.heap.size, 0, none⟩ 1 1 [.string t] rfl rfl (Ap.one_of (World.cell?_alloc_mark wa #[.string t] 9 (0, 0) 0)) (by intro u hu; simp only [List.mem_cons, List.not_mem_nil, or_false] at hu; subst hu; rfl) (by unfold maxLen; omega) (by omega) HB1.size ?_
                        intro v2 wb ho2 hg2
                        have hB2 : Below wr.heap.size wr wb := Below.grown HB1 hg2 HB1.size (Tr.owns_base HO1)
                        refine hK.out _ _ (fun _ => ⟨(hB2.cell (by exact hN.lt)).trans c1, hB2⟩) ?_
                        clear hK K
                        simp only [Act.put, List.setIfInBounds_toArray, List.set_cons_zero, List.set_cons_succ]
                        refine Z.ready (rs := [13]) (by kernel_rfl) (by simp) (Z.All.cons rfl (fun K hK => ?_) Z.All.nil)
                        refine Ap.step_append_any wb rfl (.tmp 86) (.tmp 90) 24 rfl wr.heap.size 9 t0 (.string ByteArray.empty) 1 16 Try.underlying24 ht0 hy0 hy1 hy2 rfl (by decide) v2 ((0 + L.length) + 1) _ rfl ho2 ⟨g, 0, none⟩ 0 (0) [] rfl rfl (fun j u hu => by simp at hu) (fun u hu => by cases hu) (by unfold maxLen; omega) (by omega) hB2.size ?_
                        intro v3 wc ho3 hg3
                        have hB3 : Below wr.heap.size wr wc := Below.grown hB2 hg3 hB2.size (Tr.owns_base ho2)
                        have hS3 : (fun w' => w'.cell? ⟨w1.heap.size, 1, none⟩ = some (.slice (some ⟨g, 0, none⟩) L.length L.length) ∧ Below wr.heap.size wr w') wc := ⟨(hB3.cell (by exact hN.lt)).trans c1, hB3⟩
                        obtain ⟨xa, xc, hx3⟩ := Tr.owns_slice ho3
                        have HR3 := fun x => hide (Tr.names_in1 hah ho3 hN.lt (i := 1) (x := x))
                        generalize hcnt : ((0 + L.length) + 1 + 0) = cnt at hx3
                        clear hcnt
                        subst hx3
                        refine hK.out _ _ (fun _ => hS3) ?_
                        clear hK K
                        simp only [Act.put, List.setIfInBounds_toArray, List.set_cons_zero, List.set_cons_succ]
                        refine Z.take (i := 14) (d := 92) (v := .pointer (some ⟨w1.heap.size, 1, none⟩)) rfl rfl (by kernel_rfl) (by kernel_rfl) (by kernel_rfl) (by kernel_rfl) (fun _ _ _ h => h) (Or.inl ⟨by rfl, ?_⟩) hS3 ?_
                        · intro w' hSw; obtain ⟨s1, _⟩ := hSw; go_simp
                        simp only [Act.put, List.setIfInBounds_toArray, List.set_cons_zero, List.set_cons_succ]
                        have N3 := hN.below hB3 hN.lt
                        have n3 := (nres_of N3).2
                        have y3 := N3.frozen 1
                        refine Z.last_at (w' := wc.setCell ⟨w1.heap.size, 1, none⟩ (.slice xa cnt xc)) rfl (by kernel_rfl) (by rfl) (fun K hK => ?_) ?_
                        · go_simp
                          exact hK.out
                        refine Z.done (by kernel_rfl) ?_ _
                        have hB4 : Below w1.heap.size w1 (wc.setCell ⟨w1.heap.size, 1, none⟩ (.slice xa cnt xc)) := (hbel.trans (hB3.mono hbel.size)).setCell (Nat.le_refl _) _
                        have N4 := N3.set 1 (.slice xa cnt xc)
                        clear n3 y3 c1
                        go_wp2_with fail
                        go_roundg (l.length - (k + 1))
                        case rel => exact ⟨k + 1, _, Tr.insV L t, rfl, by go_num, by omega, unhide hn2, by rw [Tr.insV_length]; omega, N4, unhide (HR3 _), hB4⟩
                        case measure => have := hg.out; omega
                    · intro K hK
                      go_simp
                      exact hK.out
                    · exact ⟨((((Below.refl wr.heap.size wr).alloc (by simp) _).alloc (by simp) _).drew.cell (by exact hN.lt)).trans c1, (((Below.refl wr.heap.size wr).alloc (by simp) _).alloc (by simp) _).drew⟩
                    · simp only [Act.put, List.setIfInBounds_toArray, List.set_cons_zero, List.set_cons_succ]
                      refine Z.ready (rs := [5]) (by kernel_rfl) (by simp) (Z.All.cons rfl (fun K hK => ?_) Z.All.nil)
                      have BLW : Below wr.heap.size wr (((wr.alloc (.cells #[] 9)).alloc (.cells #[.string t] 9)).drew) := (((Below.refl wr.heap.size wr).alloc (by simp) _).alloc (by simp) _).drew
                      refine Ap.step_append_row (((wr.alloc (.cells #[] 9)).alloc (.cells #[.string t] 9)).drew) rfl (.tmp 78) (.tmp 82) 24 rfl wr.heap.size 9 t0 (.string ByteArray.empty) 16 Try.underlying24 ht0 hy0 hy1 hy2 rfl (.slice (some ⟨wr.heap.size, 0, none⟩) 0 0) 0 [] rfl (Ap.owns_empty (by omega) (Ap.heapEK _ _ _)) (w1.heap.size + 1) 9 (.slice (some ⟨g, 0, none⟩) L.length L.length) L.length ((L.map Value.string).take L.length) rfl (Tr.owns_first (Tr.owns_below (unhide HO) BLW) L.length hjL) (fun u hu => Tr.strs_plain L u (List.mem_of_mem_take hu)) (by unfold maxLen; omega) (by omega) BLW.size ?_
                      intro v1 wa ho1 hg1
                      have hB1 : Below wr.heap.size wr wa := Below.grown BLW hg1 BLW.size (by intro q hq; simp only [Value.ownBlock, Option.some.injEq] at hq; omega)
                      have hk1 : wa.cell? ⟨wr.heap.size + 1, 0, none⟩ = some (.string t) := (World.grownBy.cell_far hg1 ⟨wr.heap.size + 1, 0, none⟩ (by simp) (Ap.ne_own (wr.heap.size + 1) wr.heap.size 0 0 (by omega))).trans (Ap.cellEK _ _ _)
                      refine hK.out _ _ (fun _ => ⟨(hB1.cell (by exact hN.lt)).trans c1, hB1⟩) ?_
                      clear hK K
                      simp only [Act.put, List.setIfInBounds_toArray, List.set_cons_zero, List.set_cons_succ]
                      have HO1 := ho1
                      have HB1 := hB1
                      refine Z.ready (rs := [8]) (by kernel_rfl) (by simp) (Z.All.cons rfl (fun K hK => ?_) Z.All.nil)
                      refine Ap.step_append_any (wa) rfl (.tmp 83) (.tmp 85) 24 rfl wr.heap.size 9 t0 (.string ByteArray.empty) 1 16 Try.underlying24 ht0 hy0 hy1 hy2 rfl (by decide) v1 (0 + L.length) _ rfl HO1 ⟨wr.heap.size + 1, 0, none⟩ 1 1 [.string t] rfl rfl (Ap.one_of hk1) (by intro u hu; simp only [List.mem_cons, List.not_mem_nil, or_false] at hu; subst hu; rfl) (by unfold maxLen; omega) (by omega) HB1.size ?_
                      intro v2 wb ho2 hg2
                      have hB2 : Below wr.heap.size wr wb := Below.grown HB1 hg2 HB1.size (Tr.owns_base HO1)
                      refine hK.out _ _ (fun _ => ⟨(hB2.cell (by exact hN.lt)).trans c1, hB2⟩) ?_
                      clear hK K
                      simp only [Act.put, List.setIfInBounds_toArray, List.set_cons_zero, List.set_cons_succ]
                      refine Z.ready (rs := [13]) (by kernel_rfl) (by simp) (Z.All.cons rfl (fun K hK => ?_) Z.All.nil)
                      refine Ap.step_append_any wb rfl (.tmp 86) (.tmp 90) 24 rfl wr.heap.size 9 t0 (.string ByteArray.empty) 1 16 Try.underlying24 ht0 hy0 hy1 hy2 rfl (by decide) v2 ((0 + L.length) + 1) _ rfl ho2 ⟨g, 0, none⟩ 0 (0) [] rfl rfl (fun j u hu => by simp at hu) (fun u hu => by cases hu) (by unfold maxLen; omega) (by omega) hB2.size ?_
                      intro v3 wc ho3 hg3
                      have hB3 : Below wr.heap.size wr wc := Below.grown hB2 hg3 hB2.size (Tr.owns_base ho2)
                      have hS3 : (fun w' => w'.cell? ⟨w1.heap.size, 1, none⟩ = some (.slice (some ⟨g, 0, none⟩) L.length L.length) ∧ Below wr.heap.size wr w') wc := ⟨(hB3.cell (by exact hN.lt)).trans c1, hB3⟩
                      obtain ⟨xa, xc, hx3⟩ := Tr.owns_slice ho3
                      have HR3 := fun x => hide (Tr.names_in1 hah ho3 hN.lt (i := 1) (x := x))
                      generalize hcnt : ((0 + L.length) + 1 + 0) = cnt at hx3
                      clear hcnt
                      subst hx3
                      refine hK.out _ _ (fun _ => hS3) ?_
                      clear hK K
                      simp only [Act.put, List.setIfInBounds_toArray, List.set_cons_zero, List.set_cons_succ]
                      refine Z.take (i := 14) (d := 92) (v := .pointer (some ⟨w1.heap.size, 1, none⟩)) rfl rfl (by kernel_rfl) (by kernel_rfl) (by kernel_rfl) (by kernel_rfl) (fun _ _ _ h => h) (Or.inl ⟨by rfl, ?_⟩) hS3 ?_
                      · intro w' hSw; obtain ⟨s1, _⟩ := hSw; go_simp
                      simp only [Act.put, List.setIfInBounds_toArray, List.set_cons_zero, List.set_cons_succ]
                      have N3 := hN.below hB3 hN.lt
                      have n3 := (nres_of N3).2
                      have y3 := N3.frozen 1
                      refine Z.last_at (w' := wc.setCell ⟨w1.heap.size, 1, none⟩ (.slice xa cnt xc)) rfl (by kernel_rfl) (by rfl) (fun K hK => ?_) ?_
                      · go_simp
                        exact hK.out
                      refine Z.done (by kernel_rfl) ?_ _
                      have hB4 : Below w1.heap.size w1 (wc.setCell ⟨w1.heap.size, 1, none⟩ (.slice xa cnt xc)) := (hbel.trans (hB3.mono hbel.size)).setCell (Nat.le_refl _) _
                      have N4 := N3.set 1 (.slice xa cnt xc)
                      clear n3 y3 c1
                      go_wp2_with fail
                      go_roundg (l.length - (k + 1))
                      case rel => exact ⟨k + 1, _, Tr.insV L t, rfl, by go_num, by omega, unhide hn2, by rw [Tr.insV_length]; omega, N4, unhide (HR3 _), hB4⟩
                      case measure => have := hg.out; omega
                  · intro K hK
                    go_simp
                    exact hK.out
                  · exact ⟨(((Below.refl wr.heap.size wr).alloc (by simp) _).drew.cell (by exact hN.lt)).trans c1, ((Below.refl wr.heap.size wr).alloc (by simp) _).drew⟩
                  · simp only [Act.put, List.setIfInBounds_toArray, List.set_cons_zero, List.set_cons_succ]
                    refine Z.ready (rs := [0]) (by kernel_rfl) (by simp) (Z.val_cons (i := 0) (d := 78) (v := .slice (some ⟨wr.heap.size + 1, 0, none⟩) 0 0) (w' := ((wr.alloc (.cells #[.string t] 9)).alloc (.cells #[] 9)).drew) rfl (by rfl) ?_ (fun _ => ?_) ?_ Z.All.nil)
                    · intro K hK
                      go_simp
                      exact hK.out
                    · exact ⟨((((Below.refl wr.heap.size wr).alloc (by simp) _).alloc (by simp) _).drew.cell (by exact hN.lt)).trans c1, (((Below.refl wr.heap.size wr).alloc (by simp) _).alloc (by simp) _).drew⟩
                    · simp only [Act.put, List.setIfInBounds_toArray, List.set_cons_zero, List.set_cons_succ]
                      refine Z.ready (rs := [5]) (by kernel_rfl) (by simp) (Z.All.cons rfl (fun K hK => ?_) Z.All.nil)
                      have BLW : Below wr.heap.size wr (((wr.alloc (.cells #[.string t] 9)).alloc (.cells #[] 9)).drew) := (((Below.refl wr.heap.size wr).alloc (by simp) _).alloc (by simp) _).drew
                      refine Ap.step_append_row (((wr.alloc (.cells #[.string t] 9)).alloc (.cells #[] 9)).drew) rfl (.tmp 78) (.tmp 82) 24 rfl wr.heap.size 9 t0 (.string ByteArray.empty) 16 Try.underlying24 ht0 hy0 hy1 hy2 rfl (.slice (some ⟨wr.heap.size + 1, 0, none⟩) 0 0) 0 [] rfl (Ap.owns_empty (by omega) (Ap.heapKE _ _ _)) (w1.heap.size + 1) 9 (.slice (some ⟨g, 0, none⟩) L.length L.length) L.length ((L.map Value.string).take L.length) rfl (Tr.owns_first (Tr.owns_below (unhide HO) BLW) L.length hjL) (fun u hu => Tr.strs_plain L u (List.mem_of_mem_take hu)) (by unfold maxLen; omega) (by omega) BLW.size ?_
                      intro v1 wa ho1 hg1
                      have hB1 : Below wr.heap.size wr wa := Below.grown BLW hg1 BLW.size (by intro q hq; simp only [Value.ownBlock, Option.some.injEq] at hq; omega)
                      have hk1 : wa.cell? ⟨wr.heap.size, 0, none⟩ = some (.string t) := (World.grownBy.cell_far hg1 ⟨wr.heap.size, 0, none⟩ (by simp <;> omega) (Ap.ne_own wr.heap.size (wr.heap.size + 1) 0 0 (by omega))).trans (Ap.cellKE _ _ _)
                      refine hK.out _ _ (fun _ => ⟨(hB1.cell (by exact hN.lt)).trans c1, hB1⟩) ?_
                      clear hK K
                      simp only [Act.put, List.setIfInBounds_toArray, List.set_cons_zero, List.set_cons_succ]
                      have HO1 := ho1
                      have HB1 := hB1
                      refine Z.ready (rs := [8]) (by kernel_rfl) (by simp) (Z.All.cons rfl (fun K hK => ?_) Z.All.nil)
                      refine Ap.step_append_any (wa) rfl (.tmp 83) (.tmp 85) 24 rfl wr.heap.size 9 t0 (.string ByteArray.empty) 1 16 Try.underlying24 ht0 hy0 hy1 hy2 rfl (by decide) v1 (0 + L.length) _ rfl HO1 ⟨wr.heap.size, 0, none⟩ 1 1 [.string t] rfl rfl (Ap.one_of hk1) (by intro u hu; simp only [List.mem_cons, List.not_mem_nil, or_false] at hu; subst hu; rfl) (by unfold maxLen; omega) (by omega) HB1.size ?_
                      intro v2 wb ho2 hg2
                      have hB2 : Below wr.heap.size wr wb := Below.grown HB1 hg2 HB1.size (Tr.owns_base HO1)
                      refine hK.out _ _ (fun _ => ⟨(hB2.cell (by exact hN.lt)).trans c1, hB2⟩) ?_
                      clear hK K
                      simp only [Act.put, List.setIfInBounds_toArray, List.set_cons_zero, List.set_cons_succ]
                      refine Z.ready (rs := [13]) (by kernel_rfl) (by simp) (Z.All.cons rfl (fun K hK => ?_) Z.All.nil)
                      refine Ap.step_append_any wb rfl (.tmp 86) (.tmp 90) 24 rfl wr.heap.size 9 t0 (.string ByteArray.empty) 1 16 Try.underlying24 ht0 hy0 hy1 hy2 rfl (by decide) v2 ((0 + L.length) + 1) _ rfl ho2 ⟨g, 0, none⟩ 0 (0) [] rfl rfl (fun j u hu => by simp at hu) (fun u hu => by cases hu) (by unfold maxLen; omega) (by omega) hB2.size ?_
                      intro v3 wc ho3 hg3
                      have hB3 : Below wr.heap.size wr wc := Below.grown hB2 hg3 hB2.size (Tr.owns_base ho2)
                      have hS3 : (fun w' => w'.cell? ⟨w1.heap.size, 1, none⟩ = some (.slice (some ⟨g, 0, none⟩) L.length L.length) ∧ Below wr.heap.size wr w') wc := ⟨(hB3.cell (by exact hN.lt)).trans c1, hB3⟩
                      obtain ⟨xa, xc, hx3⟩ := Tr.owns_slice ho3
                      have HR3 := fun x => hide (Tr.names_in1 hah ho3 hN.lt (i := 1) (x := x))
                      generalize hcnt : ((0 + L.length) + 1 + 0) = cnt at hx3
                      clear hcnt
                      subst hx3
                      refine hK.out _ _ (fun _ => hS3) ?_
                      clear hK K
                      simp only [Act.put, List.setIfInBounds_toArray, List.set_cons_zero, List.set_cons_succ]
                      refine Z.take (i := 14) (d := 92) (v := .pointer (some ⟨w1.heap.size, 1, none⟩)) rfl rfl (by kernel_rfl) (by kernel_rfl) (by kernel_rfl) (by kernel_rfl) (fun _ _ _ h => h) (Or.inl ⟨by rfl, ?_⟩) hS3 ?_
                      · intro w' hSw; obtain ⟨s1, _⟩ := hSw; go_simp
                      simp only [Act.put, List.setIfInBounds_toArray, List.set_cons_zero, List.set_cons_succ]
                      have N3 := hN.below hB3 hN.lt
                      have n3 := (nres_of N3).2
                      have y3 := N3.frozen 1
                      refine Z.last_at (w' := wc.setCell ⟨w1.heap.size, 1, none⟩ (.slice xa cnt xc)) rfl (by kernel_rfl) (by rfl) (fun K hK => ?_) ?_
                      · go_simp
                        exact hK.out
                      refine Z.done (by kernel_rfl) ?_ _
                      have hB4 : Below w1.heap.size w1 (wc.setCell ⟨w1.heap.size, 1, none⟩ (.slice xa cnt xc)) := (hbel.trans (hB3.mono hbel.size)).setCell (Nat.le_refl _) _
                      have N4 := N3.set 1 (.slice xa cnt xc)
                      clear n3 y3 c1
                      go_wp2_with fail
                      go_roundg (l.length - (k + 1))
                      case rel => exact ⟨k + 1, _, Tr.insV L t, rfl, by go_num, by omega, unhide hn2, by rw [Tr.insV_length]; omega, N4, unhide (HR3 _), hB4⟩
                      case measure => have := hg.out; omega
                · go_wp2_with fail
                  refine Z.region 15 (fun w' => w'.cell? ⟨w1.heap.size, 1, none⟩ = some (.slice (some ⟨g, 0, none⟩) L.length cap) ∧ Below wr.heap.size wr w') (by kernel_rfl) ⟨c1, (Below.refl _ _).drew⟩ (fun hHeld => ?_)
                  refine Z.take (i := 1) (d := 79) (v := .pointer (some ⟨w1.heap.size, 1, none⟩)) rfl rfl (by kernel_rfl) (by kernel_rfl) (by kernel_rfl) (by kernel_rfl) (fun _ _ _ h => h) (Or.inl ⟨by rfl, ?_⟩) hHeld ?_
                  · intro w' hSw; obtain ⟨s1, _⟩ := hSw; go_simp
                  simp only [Act.put, List.setIfInBounds_toArray, List.set_cons_zero, List.set_cons_succ]
                  refine Z.take (i := 2) (d := 80) (v := .slice (some ⟨g, 0, none⟩) L.length cap) rfl rfl (by kernel_rfl) (by kernel_rfl) (by kernel_rfl) (by kernel_rfl) (fun _ _ _ h => h) (Or.inl ⟨by rfl, ?_⟩) hHeld ?_
                  · intro w' hSw; obtain ⟨s1, _⟩ := hSw; go_simp
                  simp only [Act.put, List.setIfInBounds_toArray, List.set_cons_zero, List.set_cons_succ]
                  refine Z.take (i := 3) (d := 81) (v := .int .i64 L.length) rfl rfl (by kernel_rfl) (by kernel_rfl) (by kernel_rfl) (by kernel_rfl) (fun _ _ _ h => h) (Or.inl ⟨by rfl, ?_⟩) hHeld ?_
                  · intro w' hSw; obtain ⟨s1, _⟩ := hSw; go_simp
                  simp only [Act.put, List.setIfInBounds_toArray, List.set_cons_zero, List.set_cons_succ]
                  refine Z.take (i := 4) (d := 82) (v := .slice (some ⟨g, 0, none⟩) L.length cap) rfl rfl (by kernel_rfl) (by kernel_rfl) (by kernel_rfl) (by kernel_rfl) (fun _ _ _ h => h) (Or.inl ⟨by rfl, ?_⟩) hHeld ?_
                  · intro w' hSw; obtain ⟨s1, _⟩ := hSw; go_simp
                  simp only [Act.put, List.setIfInBounds_toArray, List.set_cons_zero, List.set_cons_succ]
                  refine Z.take (i := 6) (d := 84) (v := .string t) rfl rfl (by kernel_rfl) (by kernel_rfl) (by kernel_rfl) (by kernel_rfl) (fun _ _ _ h => h) (Or.inl ⟨by rfl, ?_⟩) hHeld ?_
                  · intro w' hSw; obtain ⟨s1, _⟩ := hSw; go_simp
                  simp only [Act.put, List.setIfInBounds_toArray, List.set_cons_zero, List.set_cons_succ]
                  refine Z.take (i := 9) (d := 87) (v := .pointer (some ⟨w1.heap.size, 1, none⟩)) rfl rfl (by kernel_rfl) (by kernel_rfl) (by kernel_rfl) (by kernel_rfl) (fun _ _ _ h => h) (Or.inl ⟨by rfl, ?_⟩) hHeld ?_
                  · intro w' hSw; obtain ⟨s1, _⟩ := hSw; go_simp
                  simp only [Act.put, List.setIfInBounds_toArray, List.set_cons_zero, List.set_cons_succ]
                  refine Z.take (i := 10) (d := 88) (v := .slice (some ⟨g, 0, none⟩) L.length cap) rfl rfl (by kernel_rfl) (by kernel_rfl) (by kernel_rfl) (by kernel_rfl) (fun _ _ _ h => h) (Or.inl ⟨by rfl, ?_⟩) hHeld ?_
                  · intro w' hSw; obtain ⟨s1, _⟩ := hSw; go_simp
                  simp only [Act.put, List.setIfInBounds_toArray, List.set_cons_zero, List.set_cons_succ]
                  refine Z.take (i := 11) (d := 89) (v := .int .i64 L.length) rfl rfl (by kernel_rfl) (by kernel_rfl) (by kernel_rfl) (by kernel_rfl) (fun _ _ _ h => h) (Or.inl ⟨by rfl, ?_⟩) hHeld ?_
                  · intro w' hSw; obtain ⟨s1, _⟩ := hSw; go_simp
                  simp only [Act.put, List.setIfInBounds_toArray, List.set_cons_zero, List.set_cons_succ]
                  refine Z.take (i := 12) (d := 90) (v := .slice (some ⟨g, L.length, none⟩) 0 (cap - L.length)) rfl rfl (by kernel_rfl) (by kernel_rfl) (by kernel_rfl) (by kernel_rfl) (fun _ _ _ h => h) (Or.inl ⟨by rfl, ?_⟩) hHeld ?_
                  · intro w' hSw; obtain ⟨s1, _⟩ := hSw; go_simp
                  simp only [Act.put, List.setIfInBounds_toArray, List.set_cons_zero, List.set_cons_succ]
                  refine Z.ready (rs := [0, 7]) (by kernel_rfl) (by simp) (Z.val_cons (i := 0) (d := 78) (v := .slice (some ⟨wr.heap.size, 0, none⟩) 0 0) (w' := (wr.alloc (.cells #[] 9)).drew) rfl (by rfl) ?_ (fun _ => ?_) ?_ (Z.val_cons (i := 7) (d := 85) (v := .slice (some ⟨wr.heap.size, 0, none⟩) 1 1) (w' := (wr.alloc (.cells #[.string t] 9)).drew) rfl (by rfl) ?_ (fun _ => ?_) ?_ Z.All.nil))
                  · intro K hK
                    go_simp
                    exact hK.out
                  · exact ⟨(((Below.refl wr.heap.size wr).alloc (by simp) _).drew.cell (by exact hN.lt)).trans c1, ((Below.refl wr.heap.size wr).alloc (by simp) _).drew⟩
                  · simp only [Act.put, List.setIfInBounds_toArray, List.set_cons_zero, List.set_cons_succ]
                    refine Z.ready (rs := [5, 7]) (by kernel_rfl) (by simp) (Z.All.cons rfl (fun K hK => ?_) (Z.val_cons (i := 7) (d := 85) (v := .slice (some ⟨wr.heap.size + 1, 0, none⟩) 1 1) (w' := ((wr.alloc (.cells #[] 9)).alloc (.cells #[.string t] 9)).drew) rfl (by rfl) ?_ (fun _ => ?_) ?_ Z.All.nil))
                    · skip
                      have BLW : Below wr.heap.size wr ((wr.alloc (.cells #[] 9)).drew) := ((Below.refl wr.heap.size wr).alloc (by simp) _).drew
                      refine Ap.step_append_row ((wr.alloc (.cells #[] 9)).drew) rfl (.tmp 78) (.tmp 82) 24 rfl wr.heap.size 9 t0 (.string ByteArray.empty) 16 Try.underlying24 ht0 hy0 hy1 hy2 rfl (.slice (some ⟨wr.heap.size, 0, none⟩) 0 0) 0 [] rfl (Ap.owns_empty (by omega) (Ap.heapE _ _)) (w1.heap.size + 1) 9 (.slice (some ⟨g, 0, none⟩) L.length cap) L.length ((L.map Value.string).take L.length) rfl (Tr.owns_first (Tr.owns_below (unhide HO) BLW) L.length hjL) (fun u hu => Tr.strs_plain L u (List.mem_of_mem_take hu)) (by unfold maxLen; omega) (by omega) BLW.size ?_
                      intro v1 wa ho1 hg1
                      have hB1 : Below wr.heap.size wr wa := Below.grown BLW hg1 BLW.size (by intro q hq; simp only [Value.ownBlock, Option.some.injEq] at hq; omega)
                      refine hK.out _ _ (fun _ => ⟨(hB1.cell (by exact hN.lt)).trans c1, hB1⟩) ?_
                      clear hK K
                      simp only [Act.put, List.setIfInBounds_toArray, List.set_cons_zero, List.set_cons_succ]
                      refine Z.ready (rs := [7]) (by kernel_rfl) (by simp) (Z.val_cons (i := 7) (d := 85) (v := .slice (some ⟨wa.heap.size, 0, none⟩) 1 1) (w' := wa.alloc (.cells #[.string t] 9)) rfl (by rfl) ?_ (fun _ => ?_) ?_ Z.All.nil)
                      · intro K hK
                        go_simp
                        exact hK.out
                      · exact ⟨((hB1.alloc hB1.size _).cell (by exact hN.lt)).trans c1, hB1.alloc hB1.size _⟩
                      · simp only [Act.put, List.setIfInBounds_toArray, List.set_cons_zero, List.set_cons_succ]
                        have HO1 := ho1.alloc (.cells #[.string t] 9)
                        have HB1 := hB1.alloc hB1.size (.cells #[.string t] 9)
                        refine Z.ready (rs := [8]) (by kernel_rfl) (by simp) (Z.All.cons rfl (fun K hK => ?_) Z.All.nil)
                        refine Ap.step_append_any (wa.alloc (.cells #[.string t] 9)) rfl (.tmp 83) (.tmp 85) 24 rfl wr.heap.size 9 t0 (.string ByteArray.empty) 1 16 Try.underlying24 ht0 hy0 hy1 hy2 rfl (by decide) v1 (0 + L.length) _ rfl HO1 ⟨wa.heap.size, 0, none⟩ 1 1 [.string t] rfl rfl (Ap.one_of (World.cell?_alloc_mark wa #[.string t] 9 (0, 0) 0)) (by intro u hu; simp only [List.mem_cons, List.not_mem_nil, or_false] at hu; subst hu; rfl) (by unfold maxLen; omega) (by omega) HB1.size ?_
                        intro v2 wb ho2 hg2
                        have hB2 : Below wr.heap.size wr wb := Below.grown HB1 hg2 HB1.size (Tr.owns_base HO1)
                        refine hK.out _ _ (fun _ => ⟨(hB2.cell (by exact hN.lt)).trans c1, hB2⟩) ?_
                        clear hK K
                        simp only [Act.put, List.setIfInBounds_toArray, List.set_cons_zero, List.set_cons_succ]
                        refine Z.ready (rs := [13]) (by kernel_rfl) (by simp) (Z.All.cons rfl (fun K hK => ?_) Z.All.nil)
                        refine Ap.step_append_any wb rfl (.tmp 86) (.tmp 90) 24 rfl wr.heap.size 9 t0 (.string ByteArray.empty) 1 16 Try.underlying24 ht0 hy0 hy1 hy2 rfl (by decide) v2 ((0 + L.length) + 1) _ rfl ho2 ⟨g, L.length, none⟩ 0 (cap - L.length) [] rfl rfl (fun j u hu => by simp at hu) (fun u hu => by cases hu) (by unfold maxLen; omega) (by omega) hB2.size ?_
                        intro v3 wc ho3 hg3
                        have hB3 : Below wr.heap.size wr wc := Below.grown hB2 hg3 hB2.size (Tr.owns_base ho2)
                        have hS3 : (fun w' => w'.cell? ⟨w1.heap.size, 1, none⟩ = some (.slice (some ⟨g, 0, none⟩) L.length cap) ∧ Below wr.heap.size wr w') wc := ⟨(hB3.cell (by exact hN.lt)).trans c1, hB3⟩
                        obtain ⟨xa, xc, hx3⟩ := Tr.owns_slice ho3
                        have HR3 := fun x => hide (Tr.names_in1 hah ho3 hN.lt (i := 1) (x := x))
                        generalize hcnt : ((0 + L.length) + 1 + 0) = cnt at hx3
                        clear hcnt
                        subst hx3
                        refine hK.out _ _ (fun _ => hS3) ?_
                        clear hK K
                        simp only [Act.put, List.setIfInBounds_toArray, List.set_cons_zero, List.set_cons_succ]
                        refine Z.take (i := 14) (d := 92) (v := .pointer (some ⟨w1.heap.size, 1, none⟩)) rfl rfl (by kernel_rfl) (by kernel_rfl) (by kernel_rfl) (by kernel_rfl) (fun _ _ _ h => h) (Or.inl ⟨by rfl, ?_⟩) hS3 ?_
                        · intro w' hSw; obtain ⟨s1, _⟩ := hSw; go_simp
                        simp only [Act.put, List.setIfInBounds_toArray, List.set_cons_zero, List.set_cons_succ]
                        have N3 := hN.below hB3 hN.lt
                        have n3 := (nres_of N3).2
                        have y3 := N3.frozen 1
                        refine Z.last_at (w' := wc.setCell ⟨w1.heap.size, 1, none⟩ (.slice xa cnt xc)) rfl (by kernel_rfl) (by rfl) (fun K hK => ?_) ?_
                        · go_simp
                          exact hK.out
                        refine Z.done (by kernel_rfl) ?_ _
                        have hB4 : Below w1.heap.size w1 (wc.setCell ⟨w1.heap.size, 1, none⟩ (.slice xa cnt xc)) := (hbel.trans (hB3.mono hbel.size)).setCell (Nat.le_refl _) _
                        have N4 := N3.set 1 (.slice xa cnt xc)
                        clear n3 y3 c1
                        go_wp2_with fail
                        go_roundg (l.length - (k + 1))
                        case rel => exact ⟨k + 1, _, Tr.insV L t, rfl, by go_num, by omega, unhide hn2, by rw [Tr.insV_length]; omega, N4, unhide (HR3 _), hB4⟩
                        case measure => have := hg.out; omega
                    · intro K hK
                      go_simp
                      exact hK.out
                    · exact ⟨((((Below.refl wr.heap.size wr).alloc (by simp) _).alloc (by simp) _).drew.cell (by exact hN.lt)).trans c1, (((Below.refl wr.heap.size wr).alloc (by simp) _).alloc (by simp) _).drew⟩
                    · simp only [Act.put, List.setIfInBounds_toArray, List.set_cons_zero, List.set_cons_succ]
                      refine Z.ready (rs := [5]) (by kernel_rfl) (by simp) (Z.All.cons rfl (fun K hK => ?_) Z.All.nil)
                      have BLW : Below wr.heap.size wr (((wr.alloc (.cells #[] 9)).alloc (.cells #[.string t] 9)).drew) := (((Below.refl wr.heap.size wr).alloc (by simp) _).alloc (by simp) _).drew
                      refine Ap.step_append_row (((wr.alloc (.cells #[] 9)).alloc (.cells #[.string t] 9)).drew) rfl (.tmp 78) (.tmp 82) 24 rfl wr.heap.size 9 t0 (.string ByteArray.empty) 16 Try.underlying24 ht0 hy0 hy1 hy2 rfl (.slice (some ⟨wr.heap.size, 0, none⟩) 0 0) 0 [] rfl (Ap.owns_empty (by omega) (Ap.heapEK _ _ _)) (w1.heap.size + 1) 9 (.slice (some ⟨g, 0, none⟩) L.length cap) L.length ((L.map Value.string).take L.length) rfl (Tr.owns_first (Tr.owns_below (unhide HO) BLW) L.length hjL) (fun u hu => Tr.strs_plain L u (List.mem_of_mem_take hu)) (by unfold maxLen; omega) (by omega) BLW.size ?_
                      intro v1 wa ho1 hg1
                      have hB1 : Below wr.heap.size wr wa := Below.grown BLW hg1 BLW.size (by intro q hq; simp only [Value.ownBlock, Option.some.injEq] at hq; omega)
                      have hk1 : wa.cell? ⟨wr.heap.size + 1, 0, none⟩ = some (.string t) := (World.grownBy.cell_far hg1 ⟨wr.heap.size + 1, 0, none⟩ (by simp) (Ap.ne_own (wr.heap.size + 1) wr.heap.size 0 0 (by omega))).trans (Ap.cellEK _ _ _)
                      refine hK.out _ _ (fun _ => ⟨(hB1.cell (by exact hN.lt)).trans c1, hB1⟩) ?_
                      clear hK K
                      simp only [Act.put, List.setIfInBounds_toArray, List.set_cons_zero, List.set_cons_succ]
                      have HO1 := ho1
                      have HB1 := hB1
                      refine Z.ready (rs := [8]) (by kernel_rfl) (by simp) (Z.All.cons rfl (fun K hK => ?_) Z.All.nil)
                      refine Ap.step_append_any (wa) rfl (.tmp 83) (.tmp 85) 24 rfl wr.heap.size 9 t0 (.string ByteArray.empty) 1 16 Try.underlying24 ht0 hy0 hy1 hy2 rfl (by decide) v1 (0 + L.length) _ rfl HO1 ⟨wr.heap.size + 1, 0, none⟩ 1 1 [.string t] rfl rfl (Ap.one_of hk1) (by intro u hu; simp only [List.mem_cons, List.not_mem_nil, or_false] at hu; subst hu; rfl) (by unfold maxLen; omega) (by omega) HB1.size ?_
                      intro v2 wb ho2 hg2
                      have hB2 : Below wr.heap.size wr wb := Below.grown HB1 hg2 HB1.size (Tr.owns_base HO1)
                      refine hK.out _ _ (fun _ => ⟨(hB2.cell (by exact hN.lt)).trans c1, hB2⟩) ?_
                      clear hK K
                      simp only [Act.put, List.setIfInBounds_toArray, List.set_cons_zero, List.set_cons_succ]
                      refine Z.ready (rs := [13]) (by kernel_rfl) (by simp) (Z.All.cons rfl (fun K hK => ?_) Z.All.nil)
                      refine Ap.step_append_any wb rfl (.tmp 86) (.tmp 90) 24 rfl wr.heap.size 9 t0 (.string ByteArray.empty) 1 16 Try.underlying24 ht0 hy0 hy1 hy2 rfl (by decide) v2 ((0 + L.length) + 1) _ rfl ho2 ⟨g, L.length, none⟩ 0 (cap - L.length) [] rfl rfl (fun j u hu => by simp at hu) (fun u hu => by cases hu) (by unfold maxLen; omega) (by omega) hB2.size ?_
                      intro v3 wc ho3 hg3
                      have hB3 : Below wr.heap.size wr wc := Below.grown hB2 hg3 hB2.size (Tr.owns_base ho2)
                      have hS3 : (fun w' => w'.cell? ⟨w1.heap.size, 1, none⟩ = some (.slice (some ⟨g, 0, none⟩) L.length cap) ∧ Below wr.heap.size wr w') wc := ⟨(hB3.cell (by exact hN.lt)).trans c1, hB3⟩
                      obtain ⟨xa, xc, hx3⟩ := Tr.owns_slice ho3
                      have HR3 := fun x => hide (Tr.names_in1 hah ho3 hN.lt (i := 1) (x := x))
                      generalize hcnt : ((0 + L.length) + 1 + 0) = cnt at hx3
                      clear hcnt
                      subst hx3
                      refine hK.out _ _ (fun _ => hS3) ?_
                      clear hK K
                      simp only [Act.put, List.setIfInBounds_toArray, List.set_cons_zero, List.set_cons_succ]
                      refine Z.take (i := 14) (d := 92) (v := .pointer (some ⟨w1.heap.size, 1, none⟩)) rfl rfl (by kernel_rfl) (by kernel_rfl) (by kernel_rfl) (by kernel_rfl) (fun _ _ _ h => h) (Or.inl ⟨by rfl, ?_⟩) hS3 ?_
                      · intro w' hSw; obtain ⟨s1, _⟩ := hSw; go_simp
                      simp only [Act.put, List.setIfInBounds_toArray, List.set_cons_zero, List.set_cons_succ]
                      have N3 := hN.below hB3 hN.lt
                      have n3 := (nres_of N3).2
                      have y3 := N3.frozen 1
                      refine Z.last_at (w' := wc.setCell ⟨w1.heap.size, 1, none⟩ (.slice xa cnt xc)) rfl (by kernel_rfl) (by rfl) (fun K hK => ?_) ?_
                      · go_simp
                        exact hK.out
                      refine Z.done (by kernel_rfl) ?_ _
                      have hB4 : Below w1.heap.size w1 (wc.setCell ⟨w1.heap.size, 1, none⟩ (.slice xa cnt xc)) := (hbel.trans (hB3.mono hbel.size)).setCell (Nat.le_refl _) _
                      have N4 := N3.set 1 (.slice xa cnt xc)
                      clear n3 y3 c1
                      go_wp2_with fail
                      go_roundg (l.length - (k + 1))
                      case rel => exact ⟨k + 1, _, Tr.insV L t, rfl, by go_num, by omega, unhide hn2, by rw [Tr.insV_length]; omega, N4, unhide (HR3 _), hB4⟩
                      case measure => have := hg.out; omega
                  · intro K hK
                    go_simp
                    exact hK.out
                  · exact ⟨(((Below.refl wr.heap.size wr).alloc (by simp) _).drew.cell (by exact hN.lt)).trans c1, ((Below.refl wr.heap.size wr).alloc (by simp) _).drew⟩
                  · simp only [Act.put, List.setIfInBounds_toArray, List.set_cons_zero, List.set_cons_succ]
                    refine Z.ready (rs := [0]) (by kernel_rfl) (by simp) (Z.val_cons (i := 0) (d := 78) (v := .slice (some ⟨wr.heap.size + 1, 0, none⟩) 0 0) (w' := ((wr.alloc (.cells #[.string t] 9)).alloc (.cells #[] 9)).drew) rfl (by rfl) ?_ (fun _ => ?_) ?_ Z.All.nil)
                    · intro K hK
                      go_simp
                      exact hK.out
                    · exact ⟨((((Below.refl wr.heap.size wr).alloc (by simp) _).alloc (by simp) _).drew.cell (by exact hN.lt)).trans c1, (((Below.refl wr.heap.size wr).alloc (by simp) _).alloc (by simp) _).drew⟩
                    · simp only [Act.put, List.setIfInBounds_toArray, List.set_cons_zero, List.set_cons_succ]
                      refine Z.ready (rs := [5]) (by kernel_rfl) (by simp) (Z.All.cons rfl (fun K hK => ?_) Z.All.nil)
                      have BLW : Below wr.heap.size wr (((wr.alloc (.cells #[.string t] 9)).alloc (.cells #[] 9)).drew) := (((Below.refl wr.heap.size wr).alloc (by simp) _).alloc (by simp) _).drew
                      refine Ap.step_append_row (((wr.alloc (.cells #[.string t] 9)).alloc (.cells #[] 9)).drew) rfl (.tmp 78) (.tmp 82) 24 rfl wr.heap.size 9 t0 (.string ByteArray.empty) 16 Try.underlying24 ht0 hy0 hy1 hy2 rfl (.slice (some ⟨wr.heap.size + 1, 0, none⟩) 0 0) 0 [] rfl (Ap.owns_empty (by omega) (Ap.heapKE _ _ _)) (w1.heap.size + 1) 9 (.slice (some ⟨g, 0, none⟩) L.length cap) L.length ((L.map Value.string).take L.length) rfl (Tr.owns_first (Tr.owns_below (unhide HO) BLW) L.length hjL) (fun u hu => Tr.strs_plain L u (List.mem_of_mem_take hu)) (by unfold maxLen; omega) (by omega) BLW.size ?_
                      intro v1 wa ho1 hg1
                      have hB1 : Below wr.heap.size wr wa := Below.grown BLW hg1 BLW.size (by intro q hq; simp only [Value.ownBlock, Option.some.injEq] at hq; omega)
                      have hk1 : wa.cell? ⟨wr.heap.size, 0, none⟩ = some (.string t) := (World.grownBy.cell_far hg1 ⟨wr.heap.size, 0, none⟩ (by simp <;> omega) (Ap.ne_own wr.heap.size (wr.heap.size + 1) 0 0 (by omega))).trans (Ap.cellKE _ _ _)
                      refine hK.out _ _ (fun _ => ⟨(hB1.cell (by exact hN.lt)).trans c1, hB1⟩) ?_
                      clear hK K
                      simp only [Act.put, List.setIfInBounds_toArray, List.set_cons_zero, List.set_cons_succ]
                      have HO1 := ho1
                      have HB1 := hB1
                      refine Z.ready (rs := [8]) (by kernel_rfl) (by simp) (Z.All.cons rfl (fun K hK => ?_) Z.All.nil)
                      refine Ap.step_append_any (wa) rfl (.tmp 83) (.tmp 85) 24 rfl wr.heap.size 9 t0 (.string ByteArray.empty) 1 16 Try.underlying24 ht0 hy0 hy1 hy2 rfl (by decide) v1 (0 + L.length) _ rfl HO1 ⟨wr.heap.size, 0, none⟩ 1 1 [.string t] rfl rfl (Ap.one_of hk1) (by intro u hu; simp only [List.mem_cons, List.not_mem_nil, or_false] at hu; subst hu; rfl) (by unfold maxLen; omega) (by omega) HB1.size ?_
                      intro v2 wb ho2 hg2
                      have hB2 : Below wr.heap.size wr wb := Below.grown HB1 hg2 HB1.size (Tr.owns_base HO1)
                      refine hK.out _ _ (fun _ => ⟨(hB2.cell (by exact hN.lt)).trans c1, hB2⟩) ?_
                      clear hK K
                      simp only [Act.put, List.setIfInBounds_toArray, List.set_cons_zero, List.set_cons_succ]
                      refine Z.ready (rs := [13]) (by kernel_rfl) (by simp) (Z.All.cons rfl (fun K hK => ?_) Z.All.nil)
                      refine Ap.step_append_any wb rfl (.tmp 86) (.tmp 90) 24 rfl wr.heap.size 9 t0 (.string ByteArray.empty) 1 16 Try.underlying24 ht0 hy0 hy1 hy2 rfl (by decide) v2 ((0 + L.length) + 1) _ rfl ho2 ⟨g, L.length, none⟩ 0 (cap - L.length) [] rfl rfl (fun j u hu => by simp at hu) (fun u hu => by cases hu) (by unfold maxLen; omega) (by omega) hB2.size ?_
                      intro v3 wc ho3 hg3
                      have hB3 : Below wr.heap.size wr wc := Below.grown hB2 hg3 hB2.size (Tr.owns_base ho2)
                      have hS3 : (fun w' => w'.cell? ⟨w1.heap.size, 1, none⟩ = some (.slice (some ⟨g, 0, none⟩) L.length cap) ∧ Below wr.heap.size wr w') wc := ⟨(hB3.cell (by exact hN.lt)).trans c1, hB3⟩
                      obtain ⟨xa, xc, hx3⟩ := Tr.owns_slice ho3
                      have HR3 := fun x => hide (Tr.names_in1 hah ho3 hN.lt (i := 1) (x := x))
                      generalize hcnt : ((0 + L.length) + 1 + 0) = cnt at hx3
                      clear hcnt
                      subst hx3
                      refine hK.out _ _ (fun _ => hS3) ?_
                      clear hK K
                      simp only [Act.put, List.setIfInBounds_toArray, List.set_cons_zero, List.set_cons_succ]
                      refine Z.take (i := 14) (d := 92) (v := .pointer (some ⟨w1.heap.size, 1, none⟩)) rfl rfl (by kernel_rfl) (by kernel_rfl) (by kernel_rfl) (by kernel_rfl) (fun _ _ _ h => h) (Or.inl ⟨by rfl, ?_⟩) hS3 ?_
                      · intro w' hSw; obtain ⟨s1, _⟩ := hSw; go_simp
                      simp only [Act.put, List.setIfInBounds_toArray, List.set_cons_zero, List.set_cons_succ]
                      have N3 := hN.below hB3 hN.lt
                      have n3 := (nres_of N3).2
                      have y3 := N3.frozen 1
                      refine Z.last_at (w' := wc.setCell ⟨w1.heap.size, 1, none⟩ (.slice xa cnt xc)) rfl (by kernel_rfl) (by rfl) (fun K hK => ?_) ?_
                      · go_simp
                        exact hK.out
                      refine Z.done (by kernel_rfl) ?_ _
                      have hB4 : Below w1.heap.size w1 (wc.setCell ⟨w1.heap.size, 1, none⟩ (.slice xa cnt xc)) := (hbel.trans (hB3.mono hbel.size)).setCell (Nat.le_refl _) _
                      have N4 := N3.set 1 (.slice xa cnt xc)
                      clear n3 y3 c1
                      go_wp2_with fail
                      go_roundg (l.length - (k + 1))
                      case rel => exact ⟨k + 1, _, Tr.insV L t, rfl, by go_num, by omega, unhide hn2, by rw [Tr.insV_length]; omega, N4, unhide (HR3 _), hB4⟩
                      case measure => have := hg.out; omega
    · have hke : k = l.length := by omega
      have HROW0 := hide (show wr.ownsRow (w1.heap.size + 1) 9 1 (.slice va L.length vc) (Tr.varsK (Co.rt l) l.length).length ((Tr.varsK (Co.rt l) l.length).map Value.string) by rw [← hke, ← hL.out]; exact unhide HO)
      obtain ⟨e0, e1⟩ := nres_of hN
      have OX := O1.below hbel O1.lt
      subst hke
      clear O1 hN
      obtain ⟨c0, c1⟩ := nres_of OX
      have z0 := OX.frozen 0
      have z1 := OX.frozen 1
      have O2 := hide ((OX.set 0 (.int .i64 0)).set 1 (.slice va L.length vc))
      clear OX
      go_wp2_with fail
      obtain ⟨q0, q1⟩ := nres_of (x := 0) (v := .slice va L.length vc) (unhide O2)
      clear c0 c1 z0 z1 O2
      have B2 : Below w.heap.size w ((wr.setCell ⟨w.heap.size, 0, none⟩ (.int .i64 0)).setCell ⟨w.heap.size, 1, none⟩ (.slice va L.length vc)) := (BW.setCell (Nat.le_refl _) _).setCell (Nat.le_refl _) _
      have HROW : ((wr.setCell ⟨w.heap.size, 0, none⟩ (.int .i64 0)).setCell ⟨w.heap.size, 1, none⟩ (.slice va L.length vc)).ownsRow (w.heap.size + 1) 9 1 (.slice va L.length vc) (Tr.varsK (Co.rt l) l.length).length ((Tr.varsK (Co.rt l) l.length).map Value.string) := Tr.owns_set2 (unhide HROW0) hlt1
      generalize (wr.setCell ⟨w.heap.size, 0, none⟩ (.int .i64 0)).setCell ⟨w.heap.size, 1, none⟩ (.slice va L.length vc) = WW at *
      refine bodyPost_ret (v := .agg #[.int .i64 0, .slice va L.length vc]) (by simp [results, Try.results38, go_sem, q0, q1]; try rfl) rfl ⟨_, by rw [unhide fin], by rw [unhide fin]; exact HROW, B2⟩

end Go.Proofs.Ytokcefcjkjhnbaa
