/-
  spec.l13All whatever the value; spec.l1Array, spec.l13Get over slices that lie at any place; spec.l13Paths.
-/
import Derived.Test.YthaabakpcokomaaR20
import Derived.Test.YthaabakpcokomaaR27
import Derived.Test.YthaabakpcokomaaR31
import Derived.Test.YthaabakpcokomaaR32
namespace Go.Proofs.Ythaabakpcokomaa
open Go.RowKit
set_option linter.unusedVariables false
set_option linter.unusedSimpArgs false

/-- The slice from a on, wherever it lies, holds slices, the i-th of which holds the cells of the i-th list. -/
def LO (w : World) (a : Option Addr) (ps : List (List M.Cl)) : Prop :=
  ∀ i, i < ps.length → ∃ g o b off c, a = some ⟨g, o, none⟩ ∧ g < w.heap.size ∧ w.cell? ⟨g, o + i, none⟩ = some (.slice (some ⟨b, off, none⟩) (ps.getD i []).length c) ∧ (ps.getD i []).length ≤ c ∧ b < w.heap.size ∧ Row w b off (ps.getD i [])
theorem LO.below {w w' : World} {a : Option Addr} {ps : List (List M.Cl)} (h : LO w a ps) (hb : Below w.heap.size w w') : LO w' a ps := by
  intro i hi
  obtain ⟨g, o, b, off, c, rfl, h1, h2, h3, h4, h5⟩ := h i hi
  exact ⟨g, o, b, off, c, rfl, Nat.lt_of_lt_of_le h1 hb.size, (hb.cell h1).trans h2, h3, Nat.lt_of_lt_of_le h4 hb.size, h5.below hb h4⟩
set_option maxHeartbeats 1000000 in
theorem l1ArrayO_any (a : Option Addr) (cap : Nat) (ps : List (List M.Cl)) (w : World) (hL : LO w a ps) (hcap : ps.length ≤ cap) (hn : ps.length ≤ 4096) (hv : ∀ j, j < ps.length → M.valueFault (ps.getD j []) = 0) :
    Calls Try.prog 75 #[.slice a ps.length cap] w fun e w' => ∃ s, e = .returned s ∧ Res w' w.heap.size s (arrV ps) ∧ Below w.heap.size w w' := by
  have HL := hide hL
  have HV := hide hv
  clear hL hv
  obtain ⟨i0, hi, hz0, hz1, hz2⟩ := info_parts Try.info67
  go_enter Try.func75, Try.ntmps75
  go_wp2_with fail
  go_loopg [3, 4] ps.length (fun gh s3 s4 wr => ∃ k : Nat, Hid (gh = ps.length - k) ∧ s4 = .int .i64 k ∧ k ≤ ps.length ∧ wr.ownsRow w.heap.size 67 5 s3 (arrK ps k).length (flat (arrK ps k)) ∧ Below w.heap.size w wr)
  case atStart => exact ⟨0, rfl, rfl, by omega, one_own w w.heap.size _ (headCl 5 ps.length) rfl (Nat.le_refl _), (Below.refl _ _).alloc (Nat.le_refl _) _⟩
  case round =>
    obtain ⟨k, hg, rfl, hk, hown, hbel⟩ := hrel
    by_cases hlt : k < ps.length
    · obtain ⟨g, o, b, off, c, rfl, hgl, f0, hc, hb, hr⟩ := ((unhide HL).below hbel) k hlt
      have hp := fault_len ((unhide HV) k hlt)
      have hal := arrK_length ps k
      have hts := tot_small ps k hk (fun j hj => (fault_len ((unhide HV) j (by omega))).2)
      have hsucc := hide (show flat (arrK ps k) ++ flat (ps.getD k []) = flat (arrK ps (k + 1)) by rw [arrK_succ ps k hlt, flat_append])
      have hsl := hide (show (arrK ps k).length + (ps.getD k []).length = (arrK ps (k + 1)).length by rw [arrK_succ ps k hlt, List.length_append])
      have hnews := hide (row_words hr)
      have hone := hide (flat_one (ps.getD k []))
      have HFL := hide (flat_length (ps.getD k []))
      clear hr
      generalize ps.getD k [] = p at *
      have hb63 : (arrK ps k).length + p.length ≤ maxLen := by unfold maxLen; omega
      have hby : ((arrK ps k).length + p.length) * 56 ≤ 140737488355328 := by omega
      have hbse := hide (ownsRow_base hown)
      have HOWN := hide hown
      have hbase := hbel.size
      clear hown hal hts
      go_wp2_with (at_builtin; refine wpList_append_own _ rfl (.tmp 15) (.tmp 19) 28 rfl w.heap.size 67 i0 _ 5 56 Try.underlying28 hi hz0 hz1 hz2 rfl (by decide) _ (arrK ps k).length _ rfl (unhide HOWN) ⟨b, off, none⟩ p.length c (flat p) rfl (unhide HFL) (unhide hnews) (unhide hone) hb63 hby hbase ?_)
      intro v' w2 ho2 hg2 _
      rw [unhide hsucc, unhide hsl] at ho2
      have B2 : Below w.heap.size w w2 := hbel.grown hg2 hbase (unhide hbse)
      have HO2 := hide ho2
      clear ho2 hg2 f0
      go_wp2_with fail
      go_roundg (ps.length - (k + 1))
      case rel => exact ⟨k + 1, rfl, by go_num, by omega, unhide HO2, B2⟩
      case measure => have := hg.out; omega
    · have hke : k = ps.length := by omega
      have hal := arrK_length ps k
      have hts := tot_small ps k hk (fun j hj => (fault_len ((unhide HV) j (by omega))).2)
      have fin := hide (show Res wr w.heap.size u3 (arrV ps) by unfold arrV; rw [← hke]; exact res_of_owns hown (by omega))
      clear hke hown hal hts
      go_wp2_with fail
      go_ret
      exact ⟨_, rfl, unhide fin, hbel⟩

namespace Al
/-- The cells of a path. -/
def pathC (p : List M.Cl) : List M.Cl := headCl 5 p.length :: p
theorem pathC_length (p : List M.Cl) : (pathC p).length = p.length + 1 := by simp [pathC]
def ones (p : List M.Cl) : List (List M.Cl) := p.map fun c => [c]
theorem ones_length (p : List M.Cl) : (ones p).length = p.length := by simp [ones]
theorem ones_getD (p : List M.Cl) (i : Nat) (hi : i < p.length) : (ones p).getD i [] = [p.getD i M.zero] := by
  simp [ones, List.getD_eq_getElem?_getD, hi]
theorem ones_flatten (p : List M.Cl) : (ones p).flatten = p := by
  induction p with
  | nil => rfl
  | cons c p ih => rw [show ones (c :: p) = [c] :: ones p from rfl, List.flatten_cons, ih]; rfl
theorem arr_ones (p : List M.Cl) : arrV (ones p) = pathC p := by
  unfold arrV arrK pathC
  rw [List.take_length, ones_flatten, ones_length]
theorem ones_valid {p : List M.Cl} (h : ∀ c ∈ p, Pth.Stp c) : ∀ j, j < (ones p).length → M.valueFault ((ones p).getD j []) = 0 := by
  intro j hj
  rw [ones_length] at hj
  rw [ones_getD p j hj]
  exact (h _ (getD_mem p j hj)).val
theorem ones_lo {w : World} {a : Option Addr} {p : List M.Cl} (h : Pth.PL w a p) : LO w a (ones p) := by
  intro i hi
  rw [ones_length] at hi
  rcases h with h | ⟨g, o, rfl, h1, h2⟩
  · rw [h] at hi; simp at hi
  · obtain ⟨b, off, c, q1, q2, q3, q4⟩ := h2 i hi
    rw [ones_getD p i hi]
    exact ⟨g, o, b, off, c, rfl, h1, q1, q2, q3, q4⟩
theorem l1ArrayPL_any (pa : Option Addr) (pc : Nat) (p : List M.Cl) (w : World) (h : Pth.PL w pa p) (hc : p.length ≤ pc) (hn : p.length ≤ 4096) (hs : ∀ c ∈ p, Pth.Stp c) :
    Calls Try.prog 75 #[.slice pa p.length pc] w fun e w' => ∃ s, e = .returned s ∧ Res w' w.heap.size s (pathC p) ∧ Below w.heap.size w w' := by
  have := l1ArrayO_any pa pc (ones p) w (ones_lo h) (by rw [ones_length]; exact hc) (by rw [ones_length]; exact hn) (ones_valid hs)
  rwa [ones_length, arr_ones] at this

/-- The steps of all paths. -/
def steps (leaves : Bool) (v : List M.Cl) : List (List M.Cl) := all leaves v.length v []
end Al
end Go.Proofs.Ythaabakpcokomaa
