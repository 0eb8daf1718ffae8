/-
  spec.l2Word: a word of a text.
-/
import Derived.Test.YtepfdlbnnkojbaaGreatDoorDecS
namespace Go.Proofs.YtepfdlbnnkojbaaGreatDoor
open Go.RowKit
set_option linter.unusedVariables false
set_option linter.unusedSimpArgs false


/-- The words' first k bytes stand there. -/
theorem wordR_go (s : ByteArray) (k : Nat) (ws : List UInt8) : ∀ q, q ≤ ws.length → (∀ j (hj : j < q) (hj2 : j < ws.length), J.peek s (k + j) = (ws[j].toNat : Int)) → J.wordR s k ws = J.wordR s (k + q) (ws.drop q) := by
  intro q
  induction q with
  | zero => intro _ _; simp
  | succ q ih =>
    intro hq h
    rw [ih (by omega) (fun j hj hj2 => h j (by omega) hj2), List.drop_eq_getElem_cons (by omega), J.wordR_yes (h q (by omega) (by omega))]
    congr 1
theorem res_kind (w : World) (B b : Nat) (kind : Int) (hb : b = w.heap.size) (hB : B ≤ w.heap.size) : Res (w.alloc (.cells #[.int .i64 kind, .int .i64 0, .string ByteArray.empty, .string ByteArray.empty, .int .i64 0] 81)) B (.slice (some ⟨b, 0, none⟩) 1 1) [J.kindCl kind] := one_cell w B b (J.kindCl kind) hb hB

set_option maxRecDepth 100000 in
set_option maxHeartbeats 4000000 in
theorem l2Word_any (s : ByteArray) (k : Nat) (ws : ByteArray) (kind : Int) (w : World) (hk : k ≤ s.size) (hs : s.size ≤ 1048576) (hw : ws.size ≤ 10) (hz : ∀ j (hj : j < ws.size), 0 < ws[j].toNat) :
    Calls Tryz.prog 28 #[.string s, .int .i64 k, .string ws, .int .i64 kind] w fun e w' => RvSaid (J.wordV s k ws.data.toList kind) w.heap.size e w' ∧ Below w.heap.size w w' := by
  obtain ⟨w0, hw0⟩ : ∃ w0, w0 = w.alloc (.cells #[.slice none 0 0, .string ByteArray.empty, .int .i64 0, .int .i64 0, .int .i64 0] 36) := ⟨_, rfl⟩
  have B0 : Below w.heap.size w w0 := by rw [hw0]; exact (Below.refl _ _).alloc (Nat.le_refl _) _
  have O0 : Own w0 w.heap.size 36 [.slice none 0 0, .string ByteArray.empty, .int .i64 0, .int .i64 0, .int .i64 0] := by rw [hw0]; exact ⟨_, heap_alloc_new _ _, rfl⟩
  have HK := hide hk
  have hwe : IntKind.i64.wrap ((k : Int) + (ws.size : Int)) = (k : Int) + (ws.size : Int) := IntWalk.i64_in _ ⟨by omega, by omega⟩
  have hlen : Hid (ws.data.toList.length = ws.size) := hide (by rw [Array.length_toList]; rfl)
  have HZ := hide hz
  clear hk hz
  go_enter Tryz.func28, Tryz.ntmps28
  go_wp2_with fail
  try (rw [show (w.alloc (.cells #[.slice none 0 0, .string { data := #[] }, .int .i64 0, .int .i64 0, .int .i64 0] 36)) = w0 from hw0.symm])
  clear hw0
  go_loopg [9] ws.size (fun gh s9 wr => ∃ q : Nat, Hid (gh = ws.size - q) ∧ s9 = .int .i64 q ∧ q ≤ ws.size ∧ Hid (J.wordR s k ws.data.toList = J.wordR s (k + q) (ws.data.toList.drop q)) ∧ Below w0.heap.size w0 wr)
  case atStart => exact ⟨0, rfl, rfl, by omega, hide (by simp), Below.refl _ _⟩
  case round =>
    obtain ⟨q, hg, rfl, hq, hj, hbel⟩ := hrel
    have BW : Below w.heap.size w wr := B0.trans (hbel.mono B0.size)
    have OW := O0.below hbel O0.lt
    by_cases hlt : q < ws.size
    · obtain ⟨p, hp⟩ : ∃ p, p = k + q := ⟨_, rfl⟩
      have hdrop := hide (show ws.data.toList.drop q = ws[q] :: ws.data.toList.drop (q + 1) from List.drop_eq_getElem_cons (by rw [hlen.out]; exact hlt))
      have hwr : IntKind.i64.wrap ((k : Int) + (q : Int)) = (p : Int) := by rw [IntWalk.i64_in _ ⟨by omega, by have := unhide HK; omega⟩, hp]; simp
      have hqz : (q : Int) < (ws.size : Int) := by omega
      have hp0 : (0 : Int) ≤ (p : Int) := by omega
      have hq0 : (0 : Int) ≤ (q : Int) := by omega
      have HP := hide hp
      have hps : p ≤ s.size + 10 := by have := unhide HK; omega
      clear hp
      by_cases hin : p < s.size
      · have hinN : ¬ (s.size : Int) ≤ (p : Int) := by omega
        have hdec : decide ((s.size : Int) ≤ (p : Int)) = false := decide_eq_false hinN
        have hinI : (p : Int) < (s.size : Int) := by omega
        have hpk := J.peek_in s p hin
        by_cases hc : (s[p].toNat : Int) = (ws[q].toNat : Int)
        · have HW2 : Hid (J.wordR s k ws.data.toList = J.wordR s (k + (q + 1)) (ws.data.toList.drop (q + 1))) := hide (by
            rw [hj.out, unhide hdrop, J.wordR_yes (by rw [← unhide HP, hpk]; exact hc)]; rfl)
          have hcb : ((s[p].toNat : Int) != (ws[q].toNat : Int)) = false := by simpa using hc
          clear hpk hc
          go_wp2_with fail
          go_quiet (fail)
          go_wp2_with fail
          go_roundg (ws.size - (q + 1))
          case rel => exact ⟨q + 1, rfl, by go_num, by omega, HW2, below_drewN3 hbel _⟩
          case measure => have := hg.out; omega
        · have fin := hide (show J.wordV s k ws.data.toList kind = .inl (5, p) by
            unfold J.wordV
            rw [hj.out, unhide hdrop, J.wordR_not (by rw [← unhide HP, hpk]; exact hc), ← unhide HP])
          have hcb : ((s[p].toNat : Int) != (ws[q].toNat : Int)) = true := by simpa using hc
          clear hpk hc
          go_wp2_with fail
          go_quiet (fail)
          go_wp2_with fail
          refine (l2Bad_any 5 (p : Int) _).mono ?_
          rintro e wB ⟨rfl, hbB⟩
          have BB : Below w.heap.size w wB := (below_drewN3 BW _).trans (hbB.mono (below_drewN3 BW _).size)
          have OB := (own_drewN OW _).below hbB (own_drewN OW _).lt
          have hleB := BB.size
          have c0 := OB.cell 0
          have c1 := OB.cell 1
          have c2 := OB.cell 2
          have c3 := OB.cell 3
          have c4 := OB.cell 4
          simp only [List.getElem?_cons_zero, List.getElem?_cons_succ] at c0 c1 c2 c3 c4
          have z0 := OB.frozen 0
          have z1 := OB.frozen 1
          have z2 := OB.frozen 2
          have z3 := OB.frozen 3
          have z4 := OB.frozen 4
          go_wp2_with fail
          refine bodyPost_ret (v := .agg #[.slice none 0 0, .string ByteArray.empty, .int .i64 0, .int .i64 5, .int .i64 (p : Int)]) (by simp [results, Tryz.results28, go_sem, c0, c1, c2, c3, c4]; try rfl) rfl ⟨.inr ⟨5, _, unhide fin, rfl⟩, ?_⟩
          repeat (first | exact BB | refine Below.setCell ?_ (by simp <;> omega) _ | refine Below.alloc ?_ (by first | exact hleB | (simp <;> omega)) _)
      · have hinN : (s.size : Int) ≤ (p : Int) := by omega
        have hdec : decide ((s.size : Int) ≤ (p : Int)) = true := decide_eq_true hinN
        have fin := hide (show J.wordV s k ws.data.toList kind = .inl (5, p) by
          unfold J.wordV
          rw [hj.out, unhide hdrop, J.wordR_not (by rw [← unhide HP, J.peek_out s p hin]; have := (unhide HZ) q hlt; omega), ← unhide HP])
        go_wp2_with fail
        go_quiet (fail)
        go_wp2_with fail
        refine (l2Bad_any 5 (p : Int) _).mono ?_
        rintro e wB ⟨rfl, hbB⟩
        have BB : Below w.heap.size w wB := (below_drewN3 BW _).trans (hbB.mono (below_drewN3 BW _).size)
        have OB := (own_drewN OW _).below hbB (own_drewN OW _).lt
        have hleB := BB.size
        have c0 := OB.cell 0
        have c1 := OB.cell 1
        have c2 := OB.cell 2
        have c3 := OB.cell 3
        have c4 := OB.cell 4
        simp only [List.getElem?_cons_zero, List.getElem?_cons_succ] at c0 c1 c2 c3 c4
        have z0 := OB.frozen 0
        have z1 := OB.frozen 1
        have z2 := OB.frozen 2
        have z3 := OB.frozen 3
        have z4 := OB.frozen 4
        go_wp2_with fail
        refine bodyPost_ret (v := .agg #[.slice none 0 0, .string ByteArray.empty, .int .i64 0, .int .i64 5, .int .i64 (p : Int)]) (by simp [results, Tryz.results28, go_sem, c0, c1, c2, c3, c4]; try rfl) rfl ⟨.inr ⟨5, _, unhide fin, rfl⟩, ?_⟩
        repeat (first | exact BB | refine Below.setCell ?_ (by simp <;> omega) _ | refine Below.alloc ?_ (by first | exact hleB | (simp <;> omega)) _)
    · have hqe : q = ws.size := by omega
      have fin := hide (show J.wordV s k ws.data.toList kind = .inr ([J.kindCl kind], k + ws.size) by
        unfold J.wordV
        rw [hj.out, List.drop_of_length_le (by rw [hlen.out]; omega), hqe]
        rfl)
      have HR := hide (res_kind wr wr.heap.size wr.heap.size kind rfl (Nat.le_refl _))
      have FR := hide (fun x0 x1 x2 x3 x4 => ((unhide HR).sets5 OW.lt x0 x1 x2 x3 x4).mono BW.size)
      have hleB := BW.size
      clear hqe hj
      have c0 : ∀ o, (wr.alloc o).cell? ⟨w.heap.size, 0, none⟩ = some (.slice none 0 0) := fun o => (OW.alloc o).cell 0
      have z0 : ∀ o, (wr.alloc o).frozen? ⟨w.heap.size, 0, none⟩ = false := fun o => (OW.alloc o).frozen 0
      have c1 : ∀ o, (wr.alloc o).cell? ⟨w.heap.size, 1, none⟩ = some (.string ByteArray.empty) := fun o => (OW.alloc o).cell 1
      have z1 : ∀ o, (wr.alloc o).frozen? ⟨w.heap.size, 1, none⟩ = false := fun o => (OW.alloc o).frozen 1
      have c2 : ∀ o, (wr.alloc o).cell? ⟨w.heap.size, 2, none⟩ = some (.int .i64 0) := fun o => (OW.alloc o).cell 2
      have z2 : ∀ o, (wr.alloc o).frozen? ⟨w.heap.size, 2, none⟩ = false := fun o => (OW.alloc o).frozen 2
      have c3 : ∀ o, (wr.alloc o).cell? ⟨w.heap.size, 3, none⟩ = some (.int .i64 0) := fun o => (OW.alloc o).cell 3
      have z3 : ∀ o, (wr.alloc o).frozen? ⟨w.heap.size, 3, none⟩ = false := fun o => (OW.alloc o).frozen 3
      have c4 : ∀ o, (wr.alloc o).cell? ⟨w.heap.size, 4, none⟩ = some (.int .i64 0) := fun o => (OW.alloc o).cell 4
      have z4 : ∀ o, (wr.alloc o).frozen? ⟨w.heap.size, 4, none⟩ = false := fun o => (OW.alloc o).frozen 4
      go_wp2_with fail
      refine bodyPost_ret (v := .agg #[.slice (some ⟨wr.heap.size, 0, none⟩) 1 1, .string ByteArray.empty, .int .i64 ((k : Int) + (ws.size : Int)), .int .i64 0, .int .i64 0]) (by simp [results, Tryz.results28, go_sem, c0, c1, c2, c3, c4]; try rfl) rfl ⟨.inl ⟨_, k + ws.size, _, _, unhide fin, rfl, (unhide FR) _ _ _ _ _⟩, ?_⟩
      repeat (first | exact BW | refine Below.setCell ?_ (by simp <;> omega) _ | refine Below.alloc ?_ (by first | exact hleB | (simp <;> omega)) _)


end Go.Proofs.YtepfdlbnnkojbaaGreatDoor
