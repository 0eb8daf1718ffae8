/-
  What DropKey tells, plainly: an object without one of its members has no fault.
  Lists of parts that are kept where another list grows.
  spec.DropKey.
-/
import Derived.Test.YtlmibdddfjbbdaaM24
import Derived.Test.YtlmibdddfjbbdaaM29
import Derived.Test.YtlmibdddfjbbdaaM30
import Derived.Test.YtlmibdddfjbbdaaM43
import Derived.Maps.AppendAt
namespace Go.Proofs.Ytlmibdddfjbbdaa
open Go.RowKit
set_option linter.unusedVariables false

/-- The keys of an object's members rise. -/
theorem keys_rise (v : List M.Cl) (hv : M.valueFault v = 0) (hk : (v.getD 0 M.zero).kind = 6) : ∀ j, j + 1 < M.arity v 0 → M.keyLe (v.getD (M.iter v (j + 1) 1) M.zero).key (v.getD (M.iter v j 1) M.zero).key = false := by
  have hl := (M.fault_zero hv).1
  obtain ⟨d, hw, _⟩ := (M.fault_zero hv).2.2.2.2
  obtain ⟨f, hf⟩ : ∃ f, v.length = f + 1 := ⟨v.length - 1, by omega⟩
  have hw' := hw
  rw [hf] at hw'
  simp only [M.walk, Option.map_eq_some_iff] at hw'
  obtain ⟨r, h1, _⟩ := hw'
  have key : ∀ m k e d last r, M.kids (M.walk v f) v (v.getD 0 M.zero) m k e d last = some r → e ≤ v.length → d ≤ f → (∀ j, j < m → (0 < k + j → M.keyLe (v.getD (M.iter v j e) M.zero).key (if j = 0 then last else (v.getD (M.iter v (j - 1) e) M.zero).key) = false)) := by
    intro m
    induction m with
    | zero => intro k e d last r _ _ _ j hj; omega
    | succ m ih =>
      intro k e d last r h he hd j hj hkj
      simp only [M.kids] at h
      split at h
      · cases h
      rename_i hb
      have hlt : e < v.length := by
        by_cases hx : e < v.length
        · exact hx
        · exact absurd (show M.bad v (v.getD 0 M.zero) k e last = true by unfold M.bad; rw [if_neg hx]) hb
      split at h
      · cases h
      · rename_i e1 d1 hr
        have hwb := M.walk_bd v f e hlt _ hr
        simp only at hwb
        have he1 : M.endOf v e = e1 := M.endOf_of (by omega) hr
        cases j with
        | zero =>
          rw [if_pos rfl]
          show M.keyLe (v.getD e M.zero).key last = false
          have hb' : M.bad v (v.getD 0 M.zero) k e last = false := by cases hx : M.bad v (v.getD 0 M.zero) k e last with | true => exact absurd hx hb | false => rfl
          unfold M.bad at hb'
          rw [if_pos hlt, Bool.or_eq_false_iff] at hb'
          have h2 := hb'.2
          rw [hk, decide_eq_true rfl, decide_eq_true (show 0 < k by omega)] at h2
          simpa using h2
        | succ j =>
          have := ih (k + 1) e1 (max d d1) _ r h hwb.2.1 (by omega) j (by omega) (by omega)
          rw [if_neg (by omega), Nat.add_sub_cancel]
          have hi : M.iter v (j + 1) e = M.iter v j e1 := by rw [M.iter, he1]
          rw [hi]
          by_cases hj0 : j = 0
          · subst hj0
            rw [if_pos rfl] at this
            exact this
          · rw [if_neg hj0] at this
            have hi2 : M.iter v j e = M.iter v (j - 1) e1 := by
              obtain ⟨i, rfl⟩ : ∃ i, j = i + 1 := ⟨j - 1, by omega⟩
              rw [M.iter, he1]; rfl
            rw [hi2]
            exact this
  intro j hj
  have := key _ 0 1 0 ByteArray.empty r h1 (by omega) (by omega) (j + 1) (by unfold M.arity at hj; omega) (by omega)
  rwa [if_neg (by omega), Nat.add_sub_cancel] at this
theorem keyLe_false {a b : ByteArray} (h : M.keyLe a b = false) : Op.bytesLess b.toList a.toList = true := by
  unfold M.keyLe at h
  rw [Bool.or_eq_false_iff] at h
  rcases St.bl_tri b.toList a.toList with h1 | h1 | h1
  · exact h1
  · have := h.2
    rw [h1] at this
    simp at this
  · rw [h1] at h; cases h.1
theorem keys_rise2 (v : List M.Cl) (hv : M.valueFault v = 0) (hk : (v.getD 0 M.zero).kind = 6) (i j : Nat) (hij : i < j) (hj : j < M.arity v 0) : Op.bytesLess (v.getD (M.iter v i 1) M.zero).key.toList (v.getD (M.iter v j 1) M.zero).key.toList = true := by
  induction j with
  | zero => omega
  | succ j ih =>
    have h1 := keyLe_false (keys_rise v hv hk j hj)
    by_cases e : i = j
    · subst e; exact h1
    · exact St.bl_trans _ _ _ (ih (by omega) (by omega)) h1
end Go.Proofs.Ytlmibdddfjbbdaa

namespace Go.Proofs.Ytlmibdddfjbbdaa
open Go.RowKit
set_option linter.unusedVariables false

theorem SS.keptT {w w' : World} {B base : Nat} {v s : Value} {ps : List (List M.Cl)} {e : TypeId} {size n : Nat} {xs : List Value} (h : SS w B v ps) (ho : w.ownsRow base e size s n xs) (h1 : e ≠ 24) (h2 : e ≠ 41) (hg : w.grownBy w' s.ownBlock) : SS w' B v ps := by
  obtain ⟨ss, hl, hown, hres⟩ := h
  refine ⟨ss, hl, hown.kept hg ?_, fun i hi => grown_res ho hg (hres i hi) h2⟩
  obtain ⟨_, ⟨rfl, _⟩ | ⟨g, cap, cur, rfl, _, hh, _⟩⟩ := hown
  · exact .inl rfl
  · refine .inr fun e => ?_
    exact other_block ho (b := g) (t := 24) (ys := cur.toList) ⟨cur, hh, rfl⟩ h1 (by rw [← e]; rfl)
theorem KS.keptB {w w' : World} {B base : Nat} {v s : Value} {ks : List ByteArray} {n : Nat} {xs : List Value} (h : KS w B v ks) (ho : w.ownsRow base 9 1 s n xs) (hne : v.ownBlock = none ∨ v.ownBlock ≠ s.ownBlock) (hg : w.grownBy w' s.ownBlock) : KS w' B v ks := World.ownsRow.kept h hg hne
theorem KS.mono {w : World} {B B' : Nat} {v : Value} {ks : List ByteArray} (h : KS w B v ks) (hB : B' ≤ B) : KS w B' v ks := by
  obtain ⟨h1, h2 | ⟨g, cap, cur, h3, h4, h5⟩⟩ := h
  · exact ⟨h1, .inl h2⟩
  · exact ⟨h1, .inr ⟨g, cap, cur, h3, by omega, h5⟩⟩
/-- Two slices lie in unlike blocks. -/
def Apart (s t : Value) : Prop := ∀ g, t.ownBlock = some g → s.ownBlock ≠ some g
theorem KS.emptyAt (w : World) (B b : Nat) (hb : b = w.heap.size) (hB : B ≤ b) : KS (w.alloc (.cells #[] 9)) B (.slice (some ⟨b, 0, none⟩) 0 0) [] := by
  subst hb
  exact ⟨rfl, .inr ⟨w.heap.size, 0, #[], rfl, hB, heap_alloc_new _ _, Nat.le_refl _, by simp [maxLen], rfl, rfl⟩⟩
end Go.Proofs.Ytlmibdddfjbbdaa

namespace Go.Proofs.Ytlmibdddfjbbdaa
open Go.RowKit
set_option linter.unusedVariables false

end Go.Proofs.Ytlmibdddfjbbdaa
