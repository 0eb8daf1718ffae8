/-
  A part of a value by itself: spec.l1Part, spec.PartAt and impl.PartAt.
-/
import Derived.Test.YtlmibdddfjbbdaaM05
import Derived.Test.YtlmibdddfjbbdaaM13
namespace Go.Proofs.Ytlmibdddfjbbdaa
open Go.RowKit
set_option linter.unusedVariables false

/-- The cells of the value at a place. -/
def cut (v : List M.Cl) (a e : Nat) : List M.Cl := (v.drop a).take (e - a)
theorem cut_length (v : List M.Cl) (a e : Nat) (h : e ≤ v.length) : (cut v a e).length = e - a := by unfold cut; rw [List.length_take, List.length_drop]; omega
theorem cut_getD (v : List M.Cl) (a e i : Nat) (hi : i < e - a) : (cut v a e).getD i M.zero = v.getD (a + i) M.zero := by
  unfold cut; rw [List.getD_eq_getElem?_getD, List.getD_eq_getElem?_getD, List.getElem?_take, if_pos hi, List.getElem?_drop]
theorem Row.cut {w : World} {b off : Nat} {v : List M.Cl} (h : Row w b off v) (a e : Nat) (he : e ≤ v.length) : Row w b (off + a * 5) (cut v a e) := by
  intro i hi
  rw [cut_length v a e he] at hi
  rw [cut_getD v a e i hi]
  have := h (a + i) (by omega)
  rwa [show off + (a + i) * 5 = off + a * 5 + i * 5 from by omega] at this

/-- The part at a place, its first cell without a key. -/
def part (v : List M.Cl) (a : Nat) : List M.Cl := setKey (cut v a (M.endOf v a)) ByteArray.empty

set_option maxHeartbeats 1000000 in
theorem l1Part_any (v : List M.Cl) (b off cap a : Nat) (w : World) (hv : M.valueFault v = 0) (ha : a < v.length) (hrow : Row w b off v) (hb : b < w.heap.size) (hcap : v.length ≤ cap) (hok : ∀ c ∈ v, c.ok) :
    Calls Try.prog 40 #[.slice (some ⟨b, off, none⟩) v.length cap, .int .i64 a] w fun e w' => ∃ s, e = .returned s ∧ Res w' w.heap.size s (part v a) ∧ Below w.heap.size w w' := by
  obtain ⟨d, _, h2, h3, h4⟩ := M.endOf_spec hv a ha
  have hl := (M.fault_zero hv).2.1
  have HC := hide (fun w' (r : Row w' b off v) hb' => l1End_any v b off cap a w' hv ha r hb' hcap hok)
  have HP := hide (show part v a = setKey (cut v a (M.endOf v a)) ByteArray.empty from rfl)
  clear hv hok
  generalize hz : M.endOf v a = z at *
  obtain ⟨i0, hi, hz0, hz1, hz2⟩ := info_parts Try.info41
  have hcl := cut_length v a z h3
  have HCL := hide hcl
  have hne : cut v a z ≠ [] := by intro h; rw [h] at hcl; simp at hcl; omega
  have hset := hide (flat_setKey [] (cut v a z) ByteArray.empty hne)
  clear hcl hne
  have h63 : 0 + (z - a) ≤ maxLen := by unfold maxLen; omega
  have hby : (0 + (z - a)) * 56 ≤ 140737488355328 := by omega
  have B0 : ∀ o, Below w.heap.size w (w.alloc o) := fun o => (Below.refl _ _).alloc (Nat.le_refl _) o
  have HB0 := hide B0
  clear B0
  go_enter Try.func40, Try.ntmps40
  go_wp2_with fail
  refine ((unhide HC) _ (hrow.below ((unhide HB0) _) hb) (by simp; omega)).mono ?_
  rintro e w1 ⟨rfl, hb1⟩
  have hO : Own w1 w.heap.size 41 [] := Own.below ⟨_, heap_alloc_new _ _, rfl⟩ hb1 (by simp)
  have hown : w1.ownsRow w.heap.size 41 5 (.slice (some ⟨w.heap.size, 0, none⟩) 0 0) 0 [] := by
    obtain ⟨cs, h1, h2⟩ := hO
    exact ⟨rfl, .inr ⟨w.heap.size, 0, cs, rfl, Nat.le_refl _, h1, Nat.le_refl _, by simp [maxLen], by rw [← Array.length_toList, h2]; rfl, by simp⟩⟩
  have HOWN := hide hown
  have B1 : Below w.heap.size w w1 := ((unhide HB0) _).trans (hb1.mono (by simp))
  have hnews := hide (row_words ((hrow.below B1 hb).cut a z h3))
  have hone := hide (flat_one (cut v a z))
  have hfl : (flat (cut v a z)).length = (z - a) * 5 := by rw [flat_length, unhide HCL]
  have HFL := hide hfl
  have hbase : w.heap.size ≤ w1.heap.size := B1.size
  clear hO hown hfl hb1
  go_wp2_with (at_builtin; refine wpList_append_own _ rfl (.tmp 6) (.tmp 12) 24 rfl w.heap.size 41 i0 _ 5 56 Try.underlying24 hi hz0 hz1 hz2 rfl (by decide) (.slice (some ⟨w.heap.size, 0, none⟩) 0 0) 0 [] rfl (unhide HOWN) ⟨b, off + a * 5, none⟩ (z - a) (cap - a) (flat (cut v a z)) rfl (unhide HFL) (unhide hnews) (unhide hone) h63 hby hbase ?_)
  intro v' w2 ho2 hg2 hnil
  try simp only [Nat.zero_add, List.nil_append] at ho2
  have hsh : ∃ g cap, v' = .slice (some ⟨g, 0, none⟩) (z - a) cap ∧ w.heap.size ≤ g ∧ z - a ≤ cap := by
    rcases ho2.2 with ⟨_, h⟩ | ⟨g, cap, cur, h, h2, _, h3, _⟩
    · omega
    · exact ⟨g, cap, h, h2, h3⟩
  obtain ⟨g, cap', hv', hgb, hcap'⟩ := hsh
  have B2 : Below w.heap.size w w2 := B1.grown hg2 hbase (fun k hk => by simp only [Value.ownBlock, Option.some.injEq] at hk; omega)
  subst hv'
  have hz3 := ho2.frozenAt 3
  obtain ⟨u, hu⟩ := some_of_lt (xs := flat (cut v a z)) (j := 3) (by rw [unhide HFL]; omega)
  have hc3 := (ho2.cellAt 3 (by omega)).trans hu
  have hR : Res (w2.setCell ⟨g, 3, none⟩ (.string ByteArray.empty)) w.heap.size (.slice (some ⟨g, 0, none⟩) (z - a) cap') (part v a) := by
    have h1 := (ho2.stored 3 (.string ByteArray.empty)).1
    have h5 := unhide hset
    simp only [List.nil_append, List.length_nil, Nat.zero_mul, Nat.zero_add] at h5
    rw [h5] at h1
    have h6 : (setKey (cut v a z) ByteArray.empty).length = z - a := by rw [setKey_length, unhide HCL]
    rw [unhide HP]
    exact res_of_owns (by rw [h6]; exact h1) (by rw [h6]; omega)
  have HR := hide hR
  clear hR ho2 hg2 hnil hu B1 hnews hone HOWN hbase
  go_wp2_with fail
  go_ret
  exact ⟨_, rfl, unhide HR, B2.setCell hgb _⟩

end Go.Proofs.Ytlmibdddfjbbdaa
