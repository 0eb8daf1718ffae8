/-
  A core as a tree, plainly: the tree at each place, its size, its nodes; the rows of its stems. No word of the program is used here.
-/
import Derived.Test.YtbaanpgbfncdnaaGreatQ29
import Derived.Test.YtbaanpgbfncdnaaGreatQ30
namespace Go.Proofs.YtbaanpgbfncdnaaGreat
open Go.RowKit
set_option linter.unusedVariables false
set_option linter.unusedSimpArgs false
namespace Ste
/-- The places that a node names. -/
def lks (c : Co) : List Nat := ([c.a, c.b, c.c].take (Co.kids c.op)).map Int.toNat
theorem lks_len (c : Co) : (lks c).length = Co.kids c.op := by
  unfold lks
  rw [List.length_map, List.length_take]
  have := Co.kids_le c.op
  simp
  omega
theorem lks_fine {l : List Co} (hf : Tr.Fine (Co.tree l)) {i : Nat} (hi : i < l.length) : ∀ x ∈ lks (l.getD i Co.zero), x < i := by
  intro x hx
  unfold lks at hx
  obtain ⟨y, hy, rfl⟩ := List.mem_map.1 hx
  have := hf i (by rw [Co.tree_length]; exact hi) y (by rw [Co.tree_links l hi]; exact hy)
  omega
/-- The tree at a place. -/
def tr (l : List Co) : Nat → Nat → Ste
  | 0, _ => z
  | f + 1, i => Ste.mk ⟨(l.getD i Co.zero).op, (l.getD i Co.zero).num, (l.getD i Co.zero).val⟩ ((lks (l.getD i Co.zero)).map (tr l f))
theorem tr_fuel {l : List Co} (hf : Tr.Fine (Co.tree l)) : ∀ (f g i : Nat), i < l.length → i < f → i < g → tr l f i = tr l g i := by
  intro f
  induction f with
  | zero => intro g i _ h; omega
  | succ f ih =>
    intro g i hi h1 h2
    obtain ⟨g, rfl⟩ : ∃ k, g = k + 1 := ⟨g - 1, by omega⟩
    rw [tr, tr]
    congr 1
    refine List.map_congr_left fun x hx => ?_
    have := lks_fine hf hi x hx
    exact ih g x (by omega) (by omega) (by omega)
def tre (l : List Co) (i : Nat) : Ste := tr l (i + 1) i
theorem tre_eq {l : List Co} (hf : Tr.Fine (Co.tree l)) {i : Nat} (hi : i < l.length) : tre l i = Ste.mk ⟨(l.getD i Co.zero).op, (l.getD i Co.zero).num, (l.getD i Co.zero).val⟩ ((lks (l.getD i Co.zero)).map (tre l)) := by
  unfold tre
  rw [tr]
  congr 1
  refine List.map_congr_left fun x hx => ?_
  have := lks_fine hf hi x hx
  exact tr_fuel hf _ _ _ (by omega) (by omega) (by omega)
theorem lks_map_len {l : List Co} (i : Nat) : ((lks (l.getD i Co.zero)).map (tre l)).length ≤ 3 := by
  rw [List.length_map, lks_len]; exact Co.kids_le _
theorem tre_ks {l : List Co} (hf : Tr.Fine (Co.tree l)) {i : Nat} (hi : i < l.length) : (tre l i).ks = (lks (l.getD i Co.zero)).map (tre l) := by
  rw [tre_eq hf hi, ks_mk _ _ (lks_map_len i)]
theorem tre_hd {l : List Co} (hf : Tr.Fine (Co.tree l)) {i : Nat} (hi : i < l.length) : (tre l i).hd = ⟨(l.getD i Co.zero).op, (l.getD i Co.zero).num, (l.getD i Co.zero).val⟩ := by
  rw [tre_eq hf hi, hd_mk]
theorem szL_map (f : Nat → Ste) (xs : List Nat) : szL (xs.map f) = (xs.map fun x => sz (f x)).sum := by
  induction xs with
  | nil => rfl
  | cons a r ih => simp only [List.map_cons, szL, List.sum_cons, ih]
theorem ord_links {l : List Co} (hf : Tr.Fine (Co.tree l)) {i : Nat} (hi : i < l.length) : Tr.ord (Co.tree l) i = (lks (l.getD i Co.zero)).flatMap (fun x => Tr.ord (Co.tree l) x) ++ [(i : Int)] := by
  rw [Tr.ord_eq hf i (by rw [Co.tree_length]; exact hi), Co.tree_links l hi]
  unfold lks
  rw [List.flatMap_map]
theorem tre_sz {l : List Co} (hf : Tr.Fine (Co.tree l)) : ∀ (n i : Nat), i < n → i < l.length → sz (tre l i) = (Tr.ord (Co.tree l) i).length := by
  intro n
  induction n with
  | zero => intro i h; omega
  | succ n ih =>
    intro i h1 hi
    rw [sz_ks, tre_ks hf hi, szL_map, ord_links hf hi, List.length_append, List.length_flatMap]
    congr 2
    refine List.map_congr_left fun x hx => ?_
    have := lks_fine hf hi x hx
    exact ih x (by omega) (by omega)
theorem tre_ok {l : List Co} (h0 : Co.nf l l.length = 0) : ∀ (n i : Nat), i < n → i < l.length → Ok (tre l i) := by
  have hf := Co.fine_of h0
  intro n
  induction n with
  | zero => intro i h; omega
  | succ n ih =>
    intro i h1 hi
    obtain ⟨p1, p2, p3, p4⟩ := Co.node_parts (Co.nf_all h0 i hi)
    rw [ok_iff, tre_hd hf hi, tre_ks hf hi]
    refine ⟨⟨p1, by rw [List.length_map, lks_len], p4, fun hv => ?_, fun h11 => ?_, fun hv => ?_⟩, fun k hk => ?_⟩
    · unfold Co.valF at p3
      rw [if_pos hv] at p3
      split at p3
      · rename_i q; exact absurd p3 q
      · rename_i q; simpa using q
    · unfold Co.valF at p3
      have h11' : (l.getD i Co.zero).op = 11 := h11
      rw [if_pos (by unfold Co.hasVal; rw [h11']; rfl)] at p3
      split at p3
      · rename_i q; exact absurd p3 q
      · split at p3
        · cases p3
        · rename_i q
          by_cases e : ((l.getD i Co.zero).val.getD 0 M.zero).kind = 4
          · exact e
          · exact absurd ⟨h11', e⟩ q
    · unfold Co.valF at p3
      have hv' : Co.hasVal (l.getD i Co.zero).op = false := hv
      rw [if_neg (by rw [hv']; decide)] at p3
      split at p3
      · cases p3
      · rename_i q
        exact List.eq_nil_of_length_eq_zero (show (l.getD i Co.zero).val.length = 0 by omega)
    · obtain ⟨x, hx, rfl⟩ := List.mem_map.1 hk
      have := lks_fine hf hi x hx
      exact ih x (by omega) (by omega)
/-- The whole of a core without a fault. -/
theorem tre_whole {l : List Co} (h : Co.fault l = 0) : Ok (tre l (l.length - 1)) ∧ sz (tre l (l.length - 1)) = l.length ∧ 0 < l.length ∧ l.length ≤ 900 ∧ Co.nf l l.length = 0 := by
  have hb := Co.fault_parts h
  have h1 : 0 < l.length := by
    unfold Co.fault at h
    split at h
    · cases h
    · omega
  have hf := Co.fine_of hb.2
  have ho : Tr.inOrder (Co.tree l) = true := by
    cases e : Tr.inOrder (Co.tree l) with
    | true => rfl
    | false => rw [Co.fault_order (by omega) hb.2 e] at h; cases h
  refine ⟨tre_ok hb.2 _ _ (Nat.lt_succ_self _) (by omega), ?_, h1, hb.1, hb.2⟩
  rw [tre_sz hf _ _ (Nat.lt_succ_self _) (by omega)]
  have := (Tr.inOrder_iff hf (by rw [Co.tree_length]; exact h1)).1 ho
  rw [Co.tree_length] at this
  rw [this, Tr.up_length]
/-- A part's nodes stand among the whole's. -/
theorem ord_sub {l : List Co} (hf : Tr.Fine (Co.tree l)) : ∀ (n i : Nat), i < n → i < l.length → ∀ x : Nat, (x : Int) ∈ Tr.ord (Co.tree l) i → (Tr.ord (Co.tree l) x).Sublist (Tr.ord (Co.tree l) i) := by
  intro n
  induction n with
  | zero => intro i h; omega
  | succ n ih =>
    intro i h1 hi x hx
    rw [ord_links hf hi, List.mem_append] at hx
    rcases hx with hx | hx
    · obtain ⟨y, hy, hxy⟩ := List.mem_flatMap.1 hx
      have hl := lks_fine hf hi y hy
      have h2 := ih y (by omega) (by omega) x hxy
      rw [ord_links hf hi]
      refine h2.trans (List.Sublist.trans ?_ (List.sublist_append_left _ _))
      obtain ⟨a, b, e⟩ := List.append_of_mem hy
      rw [e, List.flatMap_append, List.flatMap_cons]
      exact (List.sublist_append_left _ _).trans (List.sublist_append_right _ _)
    · simp only [List.mem_singleton] at hx
      have : x = i := by omega
      rw [this]
      exact List.Sublist.refl _
theorem ord_nodup {l : List Co} (h : Co.fault l = 0) {i : Nat} (hi : i < l.length) : (Tr.ord (Co.tree l) i).Nodup := by
  obtain ⟨_, _, h1, h9, h0⟩ := tre_whole h
  have hf := Co.fine_of h0
  have ho : Tr.inOrder (Co.tree l) = true := by
    cases e : Tr.inOrder (Co.tree l) with
    | true => rfl
    | false => rw [Co.fault_order (by omega) h0 e] at h; cases h
  have hu := (Tr.inOrder_iff hf (by rw [Co.tree_length]; exact h1)).1 ho
  rw [Co.tree_length] at hu
  have hs := ord_sub hf _ (l.length - 1) (Nat.lt_succ_self _) (by omega) i (by
    rw [hu]
    unfold Tr.up
    rw [List.mem_map]
    exact ⟨i, List.mem_range'_1.2 ⟨by omega, by omega⟩, rfl⟩)
  refine hs.nodup ?_
  rw [hu]
  unfold Tr.up
  refine List.Pairwise.map _ (fun a b hab => ?_) (List.nodup_range')
  intro e
  exact hab (by omega)
/-- The rows of a tree, where rr tells each node's own. -/
def rwF (l : List Co) (rr : Nat → List Nat) : Nat → Nat → List Nat
  | 0, _ => []
  | f + 1, i => rr i ++ ((lks (l.getD i Co.zero)).map (rwF l rr f)).flatten
theorem rw_fuel {l : List Co} (hf : Tr.Fine (Co.tree l)) (rr : Nat → List Nat) : ∀ (f g i : Nat), i < l.length → i < f → i < g → rwF l rr f i = rwF l rr g i := by
  intro f
  induction f with
  | zero => intro g i _ h; omega
  | succ f ih =>
    intro g i hi h1 h2
    obtain ⟨g, rfl⟩ : ∃ k, g = k + 1 := ⟨g - 1, by omega⟩
    rw [rwF, rwF]
    congr 2
    refine List.map_congr_left fun x hx => ?_
    have := lks_fine hf hi x hx
    exact ih g x (by omega) (by omega) (by omega)
def rws (l : List Co) (rr : Nat → List Nat) (i : Nat) : List Nat := rwF l rr (i + 1) i
theorem rws_eq {l : List Co} (hf : Tr.Fine (Co.tree l)) (rr : Nat → List Nat) {i : Nat} (hi : i < l.length) : rws l rr i = rr i ++ ((lks (l.getD i Co.zero)).map (rws l rr)).flatten := by
  unfold rws
  rw [rwF]
  congr 2
  refine List.map_congr_left fun x hx => ?_
  have := lks_fine hf hi x hx
  exact rw_fuel hf rr _ _ _ (by omega) (by omega) (by omega)
/-- Rows that are told for later nodes do not matter. -/
theorem rws_congr {l : List Co} (hf : Tr.Fine (Co.tree l)) {rr rr' : Nat → List Nat} : ∀ (n i : Nat), i < n → i < l.length → (∀ j, j ≤ i → rr j = rr' j) → rws l rr i = rws l rr' i := by
  intro n
  induction n with
  | zero => intro i h; omega
  | succ n ih =>
    intro i h1 hi he
    rw [rws_eq hf rr hi, rws_eq hf rr' hi, he i (Nat.le_refl _)]
    congr 2
    refine List.map_congr_left fun x hx => ?_
    have := lks_fine hf hi x hx
    exact ih x (by omega) (by omega) (fun j hj => he j (by omega))
theorem rws_perm {l : List Co} (hf : Tr.Fine (Co.tree l)) (rr : Nat → List Nat) : ∀ (n i : Nat), i < n → i < l.length → (rws l rr i).Perm ((Tr.ord (Co.tree l) i).flatMap fun x => rr x.toNat) := by
  intro n
  induction n with
  | zero => intro i h; omega
  | succ n ih =>
    intro i h1 hi
    rw [rws_eq hf rr hi, ord_links hf hi, List.flatMap_append, List.flatMap_assoc]
    refine List.perm_append_comm.trans ?_
    refine List.Perm.append ?_ (by simp)
    rw [← List.flatMap_def]
    have key : ∀ xs : List Nat, (∀ x ∈ xs, x < n ∧ x < l.length) → (xs.flatMap (rws l rr)).Perm (xs.flatMap fun x => (Tr.ord (Co.tree l) x).flatMap fun y => rr y.toNat) := by
      intro xs
      induction xs with
      | nil => intro _; exact List.Perm.refl _
      | cons a r ihr =>
        intro hx
        rw [List.flatMap_cons, List.flatMap_cons]
        exact (ih a (hx a (List.mem_cons_self ..)).1 (hx a (List.mem_cons_self ..)).2).append (ihr fun x q => hx x (List.mem_cons_of_mem _ q))
    exact key _ (fun x hx => by have := lks_fine hf hi x hx; omega)
/-- The rows of a tree are apart, where the nodes' own are. -/
theorem rws_nodup {l : List Co} (h : Co.fault l = 0) (rr : Nat → List Nat) {i : Nat} (hi : i < l.length) (h1 : ∀ j, j ≤ i → (rr j).Nodup) (h2 : ∀ j k, j ≤ i → k ≤ i → j ≠ k → ∀ q ∈ rr j, q ∉ rr k) : (rws l rr i).Nodup := by
  obtain ⟨_, _, _, _, h0⟩ := tre_whole h
  have hf := Co.fine_of h0
  have hle : ∀ (n i : Nat), i < n → i < l.length → ∀ x ∈ Tr.ord (Co.tree l) i, 0 ≤ x ∧ x ≤ (i : Int) := by
    intro n
    induction n with
    | zero => intro i h; omega
    | succ n ih =>
      intro i q1 qi x hx
      rw [ord_links hf qi, List.mem_append] at hx
      rcases hx with hx | hx
      · obtain ⟨y, hy, hxy⟩ := List.mem_flatMap.1 hx
        have hl := lks_fine hf qi y hy
        have := ih y (by omega) (by omega) x hxy
        omega
      · simp only [List.mem_singleton] at hx; omega
  refine (rws_perm hf rr _ i (Nat.lt_succ_self _) hi).nodup_iff.2 ?_
  refine List.pairwise_flatMap.2 ⟨fun x hx => h1 _ (by have := hle _ i (Nat.lt_succ_self _) hi x hx; omega), ?_⟩
  have hn := ord_nodup h hi
  refine List.Pairwise.imp_of_mem (fun {a b} ha hb hab => ?_) hn
  intro q hq q2 hq2 e
  subst e
  have ha2 := hle _ i (Nat.lt_succ_self _) hi a ha
  have hb2 := hle _ i (Nat.lt_succ_self _) hi b hb
  exact h2 a.toNat b.toNat (by omega) (by omega) (by omega) q hq hq2
end Ste
end Go.Proofs.YtbaanpgbfncdnaaGreat
