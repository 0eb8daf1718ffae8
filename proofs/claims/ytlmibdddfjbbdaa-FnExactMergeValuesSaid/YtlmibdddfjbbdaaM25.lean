/-
  How many cells the members of an object have, where they stand at places that are apart. No word of the program is used here.
-/
import Derived.Test.YtlmibdddfjbbdaaM24
namespace Go.Proofs.Ytlmibdddfjbbdaa
open Go.RowKit
set_option linter.unusedVariables false
namespace J
/-- Of places that are apart the lengths are no more than all of them. -/
theorem sum_le_tot (ps : List (List M.Cl)) (n : Nat) : ∀ L : List Nat, L.Nodup → (∀ x ∈ L, x < n) → n ≤ ps.length → ((L.map fun p => (ps.getD p []).length).sum) ≤ tot ps n := by
  induction n with
  | zero =>
    intro L _ h _
    cases L with
    | nil => exact Nat.zero_le _
    | cons a r => exact absurd (h a (by simp)) (by omega)
  | succ n ih =>
    intro L hnd hlt hn
    rw [tot_succ ps n (by omega)]
    by_cases hm : n ∈ L
    · have h1 := ih (L.erase n) (hnd.erase n) (fun x hx => by
        have h2 := hlt x (List.mem_of_mem_erase hx)
        have h3 : x ≠ n := fun e => by subst e; exact (List.Nodup.not_mem_erase hnd) hx
        omega) (by omega)
      have h2 : ((L.map fun p => (ps.getD p []).length).sum) = (ps.getD n []).length + (((L.erase n).map fun p => (ps.getD p []).length).sum) := by
        have hp := List.perm_cons_erase hm
        have := (hp.map fun p => (ps.getD p []).length).sum_nat
        rw [this, List.map_cons, List.sum_cons]
      omega
    · have h1 := ih L hnd (fun x hx => by
        have h2 := hlt x hx
        have h3 : x ≠ n := fun e => by subst e; exact hm hx
        omega) (by omega)
      omega
theorem tot_all (ps : List (List M.Cl)) : tot ps ps.length = (ps.map List.length).sum := by unfold tot; rw [List.take_length]
theorem tot_snoc (ps : List (List M.Cl)) (v : List M.Cl) : tot (ps ++ [v]) (ps ++ [v]).length = tot ps ps.length + v.length := by rw [tot_all, tot_all]; simp
theorem stand_nodup (ks : List ByteArray) (k : Nat) : (St.stand ks k).Nodup := (St.stand_pw ks k).imp fun {a b} h e => by subst e; exact St.R.ne h rfl
end J
theorem tot_part (ps : List (List M.Cl)) (k : Nat) (hk : k < ps.length) : tot ps k + (ps.getD k []).length ≤ tot ps ps.length := by
  rw [← tot_succ ps k hk]; exact tot_le ps ps.length (k + 1) hk (Nat.le_refl _)
theorem objK_le (ks : List ByteArray) (ps : List (List M.Cl)) (L : List Nat) (hnd : L.Nodup) (hlt : ∀ x ∈ L, x < ps.length) (k : Nat) : (objK ks ps L k).length ≤ 1 + tot ps ps.length := by
  have h1 : (objK ks ps L k).length = 1 + (memK ks ps L k).length := by unfold objK; simp; omega
  have h2 : (memK ks ps L k).length = (((L.take k).map fun p => (ps.getD p []).length).sum) := by
    unfold memK
    rw [List.length_flatten, List.map_map]
    congr 1
    apply List.map_congr_left
    intro p _
    exact setKey_length _ _
  have h3 := J.sum_le_tot ps ps.length (L.take k) (hnd.sublist (List.take_sublist k L)) (fun x hx => hlt x (List.mem_of_mem_take hx)) (Nat.le_refl _)
  omega

end Go.Proofs.Ytlmibdddfjbbdaa
