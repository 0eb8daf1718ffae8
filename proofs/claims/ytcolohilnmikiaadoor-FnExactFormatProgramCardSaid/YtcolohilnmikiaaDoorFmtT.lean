/-
  A tree without fault is told; spec.FormatProgram.
-/
import Derived.Test.YtcolohilnmikiaaDoorTreI
import Derived.Test.YtcolohilnmikiaaDoorFmtV
namespace Go.Proofs.YtcolohilnmikiaaDoor
open Go.RowKit
set_option linter.unusedVariables false
set_option linter.unusedSimpArgs false


theorem tres_of {w : World} {b : Nat} {x : Int} {y : ByteArray} (h : Own w b 25 [.int .i64 x, .string y]) : w.cell? ⟨b, 0, none⟩ = some (.int .i64 x) ∧ w.cell? ⟨b, 1, none⟩ = some (.string y) := ⟨h.cell 0, h.cell 1⟩
namespace Tr
theorem fmt_parts {l : List Nd} (h : fault l = 0) : 0 < l.length ∧ l.length ≤ 200 ∧ nf l l.length = 0 ∧ inOrder l = true := by
  unfold fault at h
  split at h; · exact absurd h (by decide)
  rename_i h1
  split at h; · rename_i h2; exact absurd h h2
  rename_i h2
  split at h; · exact absurd h (by decide)
  rename_i h3
  exact ⟨by omega, by omega, by simpa using h2, by simpa using h3⟩
theorem fits_size {n : Nd} (h1 : formOk n = true) (h2 : fits n.op n.text = true) : n.text.size ≤ 60 := by
  have hnm : J.isName n.text = true → n.text.size ≤ 60 := fun h => by
    by_cases h12 : 12 < n.text.size
    · rw [J.isName_long (.inr h12)] at h; exact absurd h (by decide)
    · omega
  unfold fits at h2
  split at h2
  · unfold M.textOk at h2
    simp only [Bool.and_eq_true, decide_eq_true_eq] at h2
    exact h2.1
  split at h2
  · exact hnm h2
  split at h2
  · simp only [Bool.and_eq_true] at h2; exact hnm h2.1
  rename_i a1 a2 a3
  unfold formOk at h1
  simp only [Bool.and_eq_true] at h1
  have ht : texts n.op = false := by
    unfold texts
    simp only [Bool.or_eq_false_iff, beq_eq_false_iff_ne]
    omega
  have h3 := h1.2
  rw [ht, Bool.false_or] at h3
  have : n.text.toList = [] := by simpa using h3
  have hl : n.text.size = n.text.toList.length := by rw [ByteArray.toList_eq, ← Lib.size_eq]
  rw [hl, this]; exact Nat.zero_le _
end Tr
theorem told_of {l : List Nd} (h : Tr.fault l = 0) : Told l := by
  obtain ⟨h0, h200, hnf, hio⟩ := Tr.fmt_parts h
  have hn := Tr.nf_all hnf
  have hfi := Tr.fine_of hnf
  have ht : ∀ i, i < l.length → (l.getD i Nd.zero).text.size ≤ 60 := fun i hi => Tr.fits_size (Tr.node_parts (hn i hi)).2.1 (Tr.node_parts (hn i hi)).2.2.2.1
  refine ⟨h200, hfi, hn, ht, fun i hi => ?_⟩
  have hs := Tr.txtF_size hfi (fun j hj => ⟨ht j hj, by
      show (J.bytes (J.quote (l.getD j Nd.zero).text)).size ≤ 122
      rw [J.bytes_size]; have := J.quote_length (l.getD j Nd.zero).text; have := ht j hj; omega, by
      have hl := (Tr.node_parts (hn j hj)).2.2.2.2.1
      have h1 : 0 ≤ (l.getD j Nd.zero).num := Int.le_trans (by unfold Tr.low; split <;> decide) hl.1
      have h2 : (l.getD j Nd.zero).num ≤ 1000000000000000 := Int.le_trans hl.2 (by unfold Tr.high; split; decide; split; decide; split; decide; decide)
      have h := Lib.itoa_length_le (l.getD j Nd.zero).num (by omega) (by omega)
      unfold Lib.itoa at h
      rw [if_neg (by omega)] at h
      exact h⟩) (i + 1) i hi
  have ho := Tr.ord_small hfi h0 hio i hi
  unfold Tr.ord at ho
  unfold Tr.txt
  omega

set_option maxRecDepth 100000 in
set_option maxHeartbeats 4000000 in
theorem specFormat_any (b : Nat) (l : List Nd) (w : World) (hrow : Nd.Row w b 0 l) (hb : b < w.heap.size) (hn : l.length ≤ 1048576) (hsz : ∀ i, i < l.length → (l.getD i Nd.zero).text.size ≤ 1048576) (hok : ∀ c ∈ l, c.ok) :
    Calls Tryd.prog 6 #[.slice (some ⟨b, 0, none⟩) l.length l.length] w fun e w' => e = .returned (.agg #[.int .i64 (Tr.fmtOut l).1, .string (Tr.fmtOut l).2]) ∧ Below w.heap.size w w' := by
  have HR := hide hrow
  have HS := hide hsz
  have HK := hide hok
  
  clear hrow hsz hok 
  obtain ⟨w0, hw0⟩ : ∃ w0, w0 = w.alloc (.cells #[.int .i64 0, .string ⟨#[]⟩] 25) := ⟨_, rfl⟩
  have B0 : Below w.heap.size w w0 := by rw [hw0]; exact (Below.refl _ _).alloc (Nat.le_refl _) _
  have O0 : Own w0 w.heap.size 25 [.int .i64 0, .string ⟨#[]⟩] := by rw [hw0]; exact ⟨_, heap_alloc_new _ _, rfl⟩
  have HC := hide (specTreeFault_any b l w0 ((unhide HR).below B0 hb) (Nat.lt_of_lt_of_le hb B0.size) hn (unhide HS) (unhide HK))
  go_enter Tryd.func6, Tryd.ntmps6
  go_wp2_with fail
  rw [← hw0]
  clear hw0
  refine (unhide HC).mono ?_
  rintro e w1 ⟨rfl, hb1⟩
  have B1 : Below w.heap.size w w1 := B0.trans (hb1.mono B0.size)
  have O1 := O0.below hb1 O0.lt
  clear O0 B0 hb1 HC
  by_cases hf : Tr.fault l = 0
  case neg =>
    have fin := hide (show Tr.fmtOut l = (Tr.fault l, ⟨#[]⟩) by unfold Tr.fmtOut; rw [if_pos hf]; rfl)
    generalize Tr.fault l = q at *
    have g1 : (q != 0) = true := by simpa using hf
    have OX := O1
    clear hf O1
    obtain ⟨c0, c1⟩ := tres_of OX
    have z0 := OX.frozen 0
    have z1 := OX.frozen 1
    have O2 := hide ((OX.set 0 (.int .i64 q)).set 1 (.string ⟨#[]⟩))
    clear OX
    go_wp2_with fail
    obtain ⟨q0, q1⟩ := tres_of (x := q) (y := ⟨#[]⟩) (unhide O2)
    clear c0 c1 z0 z1 O2
    have B2 : Below w.heap.size w ((w1.setCell ⟨w.heap.size, 0, none⟩ (.int .i64 q)).setCell ⟨w.heap.size, 1, none⟩ (.string ⟨#[]⟩)) := (B1.setCell (Nat.le_refl _) _).setCell (Nat.le_refl _) _
    generalize (w1.setCell ⟨w.heap.size, 0, none⟩ (.int .i64 q)).setCell ⟨w.heap.size, 1, none⟩ (.string ⟨#[]⟩) = WW at *
    refine bodyPost_ret (v := .agg #[.int .i64 q, .string ⟨#[]⟩]) (by simp [results, Tryd.results6, go_sem, q0, q1]; try rfl) rfl ⟨by rw [unhide fin], B2⟩
  case pos =>
  obtain ⟨h0, h200, hnf, hio⟩ := Tr.fmt_parts hf
  have TD := hide (told_of hf)
  have fin := hide (show Tr.fmtOut l = (0, Tr.txt l (l.length - 1)) by unfold Tr.fmtOut; rw [if_neg (by simpa using hf)])
  rw [hf]
  clear hf hnf hio
  have HX := hide ((both_say b l (unhide TD) l.length).1 (l.length - 1) w1 (by omega) (by omega) ((unhide HR).below B1 hb) (Nat.lt_of_lt_of_le hb B1.size))
  have hmI : (l.length : Int) - 1 = ((l.length - 1 : Nat) : Int) := by omega
  have hts := (unhide TD).size (l.length - 1) (by omega)
  generalize Tr.txt l (l.length - 1) = tx at *
  go_wp2_with fail
  refine (unhide HX).mono ?_
  rintro e w2 ⟨rfl, hb2⟩
  have B2' : Below w.heap.size w w2 := B1.trans (hb2.mono B1.size)
  have OX := O1.below hb2 O1.lt
  clear O1 HX
  obtain ⟨c0, c1⟩ := tres_of OX
  have z0 := OX.frozen 0
  have z1 := OX.frozen 1
  have O2 := hide ((OX.set 0 (.int .i64 0)).set 1 (.string tx))
  clear OX
  go_wp2_with fail
  obtain ⟨q0, q1⟩ := tres_of (x := 0) (y := tx) (unhide O2)
  clear c0 c1 z0 z1 O2
  have B2 : Below w.heap.size w ((w2.setCell ⟨w.heap.size, 0, none⟩ (.int .i64 0)).setCell ⟨w.heap.size, 1, none⟩ (.string tx)) := (B2'.setCell (Nat.le_refl _) _).setCell (Nat.le_refl _) _
  generalize (w2.setCell ⟨w.heap.size, 0, none⟩ (.int .i64 0)).setCell ⟨w.heap.size, 1, none⟩ (.string tx) = WW at *
  refine bodyPost_ret (v := .agg #[.int .i64 0, .string tx]) (by simp [results, Tryd.results6, go_sem, q0, q1]; try rfl) rfl ⟨by rw [unhide fin], B2⟩

end Go.Proofs.YtcolohilnmikiaaDoor
