/-
  A slice of bytes that came in as an argument; rows of tokens by their cells; JoinTokens of no tokens.
-/
import Derived.Test.YtabpjknbdahddaaGreatDoorLexS
import Derived.Test.YtabpjknbdahddaaGreatDoorJoiT
import Derived.ProofKit
import Derived.OpenShut
import Derived.Deep.Slices
namespace Go.Proofs.YtabpjknbdahddaaGreatDoor
open Go.RowKit Go.ChangeShapes Go.WideShapes
set_option linter.unusedVariables false
set_option linter.unusedSimpArgs false


/-- What the walks are told of a slice of bytes. -/
def Byts (w : World) (a : Option Addr) (len cap : Nat) : Prop := len ≤ cap ∧ ∀ i, i < len → ∃ b off c : Nat, a = some ⟨b, off, none⟩ ∧ b < w.heap.size ∧ c ≤ 255 ∧ w.cell? ⟨b, off + i, none⟩ = some (.int .u8 (c : Int))
theorem cellsU8 : Tryz.prog.cellsOf 5 = 1 := by kernel_rfl
theorem bounds_u8 {n : Int} (h : (Lit.int .u8 n).wf = true) : 0 ≤ n ∧ n ≤ 255 := by
  simp [Lit.wf, IntKind.min, IntKind.max, IntKind.signed, IntKind.bits] at h
  omega
section
variable {H : Type} {enc : TypeId × Value → H} {w : World} {base : Nat} {spare : Nat → Bool} {held : Bool}
theorem open_byts {a : Option Addr} {len cap fuel : Nat} {x : DataW H × List MemPlace} (h : DataW.trod enc Tryz.prog w base spare held fuel 22 [.slice a len cap] = some x) : Byts w a len cap := by
  rcases Go.Deep.open_slice Tryz.underlying22 h with ⟨hcs, _⟩ | ⟨ad, len', cap', m, n, D, Pl, hcs, _, hl, hm, hmm, hx, hel⟩
  · simp only [List.cons.injEq, Value.slice.injEq, and_true] at hcs
    obtain ⟨rfl, rfl, rfl⟩ := hcs
    exact ⟨by omega, fun i hi => absurd hi (by omega)⟩
  · simp only [List.cons.injEq, Value.slice.injEq, and_true] at hcs
    obtain ⟨rfl, rfl, rfl⟩ := hcs
    rw [cellsU8] at hel
    have hlm : len ≤ m := by rw [hmm]; split <;> omega
    refine ⟨by simpa using hl, fun i hi => ?_⟩
    obtain ⟨cs', h1, h2⟩ := hel i (by omega)
    obtain ⟨c, e, _, hw⟩ := DataW.trod_int Tryz.underlying5 h2
    subst e
    have hb := bounds_u8 hw
    obtain ⟨b, off, spot⟩ := ad
    have c0 := (World.cells?_some h1).2.2 0 (by omega)
    have hs : spot = none := by
      obtain ⟨cs0, g1, g2⟩ := hel 0 (by omega)
      obtain ⟨c', e', _, _⟩ := DataW.trod_int Tryz.underlying5 g2
      subst e'
      have := World.cell?_spot (((World.cells?_some g1).2.2 0 (by omega)).trans rfl)
      simpa [Addr.add] using this
    subst hs
    have hblk : b < w.heap.size := by
      have := block_lt_of_cell (c0.trans rfl)
      rw [add_plain, add_plain] at this
      exact this
    simp only [add_plain] at c0
    refine ⟨b, off, c.toNat, rfl, hblk, by omega, ?_⟩
    rw [show ((c.toNat : Nat) : Int) = c from Int.toNat_of_nonneg hb.1]
    simpa using c0
end
theorem tkFlat_get (l : List Tk) : ∀ i j, i < l.length → j < 4 → (tkFlat l)[i * 4 + j]? = (l.getD i Tk.zero).vals[j]? := by
  induction l with
  | nil => intro i j hi; simp at hi
  | cons t r ih =>
    intro i j hi hj
    have e : tkFlat (t :: r) = t.vals ++ tkFlat r := by simp [tkFlat]
    have hv : t.vals.length = 4 := rfl
    rw [e]
    cases i with
    | zero => rw [List.getElem?_append_left (by omega)]; simp
    | succ i =>
      rw [List.getElem?_append_right (by omega), hv, show (i + 1) * 4 + j - 4 = i * 4 + j by omega, ih i j (by simpa using hi) hj]
      simp
theorem tkFlat_length (l : List Tk) : (tkFlat l).length = l.length * 4 := by
  induction l with
  | nil => rfl
  | cons t r ih =>
    have e : tkFlat (t :: r) = t.vals ++ tkFlat r := by simp [tkFlat]
    have hv : t.vals.length = 4 := rfl
    rw [e, List.length_append, ih, hv, List.length_cons]; omega
/-- A row of tokens, by its cells. -/
theorem row_tokens {w : World} {B : Nat} {v : Value} {l : List Tk} (h : w.ownsRow B 33 4 v l.length (tkFlat l)) : (v = .slice none 0 0 ∧ l = []) ∨ ∃ g c : Nat, v = .slice (some ⟨g, 0, none⟩) l.length c ∧ l.length ≤ c ∧ B ≤ g ∧ g < w.heap.size ∧ Tk.Row w g 0 l := by
  obtain ⟨h0, h1 | ⟨g, c, cur, h2, hg, hh, hc, hc2, hc3, hc4⟩⟩ := h
  · exact .inl ⟨h1.1, List.length_eq_zero_iff.1 h1.2⟩
  · have O : Own w g 33 cur.toList := ⟨cur, hh, rfl⟩
    refine .inr ⟨g, c, h2, hc, hg, O.lt, fun i hi => ?_⟩
    have key : ∀ j, j < 4 → w.cell? ⟨g, 0 + i * 4 + j, none⟩ = (l.getD i Tk.zero).vals[j]? := fun j hj => by
      rw [Nat.zero_add, ← tkFlat_get l i j hi hj, ← hc4, O.cell, List.getElem?_take_of_lt (by omega)]
    exact ⟨key 0 (by omega), key 1 (by omega), key 2 (by omega), key 3 (by omega)⟩
set_option maxHeartbeats 1000000 in
theorem implJoin_none (w : World) : Calls Tryz.prog 7 #[.slice none 0 0] w fun e w' => e = .returned (.agg #[.int .i64 0, .string ByteArray.empty]) ∧ Below w.heap.size w w' := by
  obtain ⟨w0, hw0⟩ : ∃ w0, w0 = w.alloc (.cells #[.int .i64 0, .string ByteArray.empty] 27) := ⟨_, rfl⟩
  have B0 : Below w.heap.size w w0 := by rw [hw0]; exact (Below.refl _ _).alloc (Nat.le_refl _) _
  have hX0 : Own w0 w.heap.size 27 [.int .i64 0, .string ByteArray.empty] := by rw [hw0]; exact ⟨_, heap_alloc_new _ _, rfl⟩
  go_enter Tryz.func7, Tryz.ntmps7
  go_wp2_with fail
  refine wp_loop_rounds 1 ?_
  rw [rounds_succ]
  go_wp2_with fail
  try (rw [show (w.alloc (.cells #[.int .i64 0, .string { data := #[] }] 27)) = w0 from hw0.symm])
  clear hw0
  refine (Tryz.strings_Join_none _ _ _ _).mono ?_
  rintro e w1 ⟨rfl, hw1⟩
  rw [hw1]
  clear hw1
  have c0 := hX0.cell 0
  have z0 := hX0.frozen 0
  have c1 := hX0.cell 1
  have z1 := hX0.frozen 1
  simp only [List.getElem?_cons_zero, List.getElem?_cons_succ] at c0 c1
  go_wp2_with fail
  refine bodyPost_ret (v := .agg #[.int .i64 0, .string ByteArray.empty]) (by simp [results, Tryz.results7, go_sem, c0, c1]; try rfl) rfl ⟨rfl, (B0.setCell (Nat.le_refl _) _).setCell (Nat.le_refl _) _⟩
set_option maxHeartbeats 1000000 in
theorem lwBig_any (a : Option Addr) (len cap : Nat) (w : World) : Calls Tryz.prog 5 #[.slice a len cap] w fun e w' => e = .returned (.bool (decide (1048576 < len))) ∧ w' = w := by
  have hd := hide (show decide ((1048576 : Int) < (len : Int)) = decide (1048576 < len) by rw [decide_eq_decide]; omega)
  go_enter Tryz.func5, Tryz.ntmps5
  go_wp2_with fail
  all_goals (go_ret; exact ⟨ret_bool (by first | exact unhide hd | (simp [*] <;> omega)), rfl⟩)

end Go.Proofs.YtabpjknbdahddaaGreatDoor
