/-
  spec.l14Behind: the steps of a path and one more.
-/
import Derived.Test.YthaabakpcokomaaR31
namespace Go.Proofs.Ythaabakpcokomaa
open Go.RowKit
set_option linter.unusedVariables false
set_option linter.unusedSimpArgs false
namespace Al
set_option maxHeartbeats 2000000 in
theorem behind_any (pa : Option Addr) (pc : Nat) (ahead : List M.Cl) (b d : Nat) (c : M.Cl) (w : World) (hpt : PT w pa ahead) (hnil : ahead = [] → pa = none ∧ pc = 0) (hl : ahead.length ≤ 300) (hst : OwnG w b 67 [c]) (hd : 1 ≤ d) :
    Calls Try.prog 102 #[.slice pa ahead.length pc, .slice (some ⟨b, 0, none⟩) 1 d] w fun e w' => ∃ a k, e = .returned (.slice a (ahead ++ [c]).length k) ∧ (ahead ++ [c]).length ≤ k ∧ k ≤ 9223372036854775807 ∧ PT w' a (ahead ++ [c]) ∧ (∀ g, (Value.slice a (ahead ++ [c]).length k).ownBlock = some g → w.heap.size ≤ g ∧ g < w'.heap.size) ∧ Below w.heap.size w w' := by
  obtain ⟨i1, hi1, hx0, hx1, hx2⟩ := info_parts Try.info28
  obtain ⟨vs, hvl, hvs, hrd⟩ := hpt.read hnil
  have HVS := hide hvs
  have HVL := hide hvl
  have hvp := hide (hvs w (Below.refl _ _)).plain
  have HST := hide hst
  obtain ⟨Wa, hWa⟩ : ∃ Wa, Wa = w.alloc (.cells #[] 28) := ⟨_, rfl⟩
  have Ba : Below w.heap.size w Wa := by rw [hWa]; exact (Below.refl _ _).alloc (Nat.le_refl _) _
  have Ra := hide (show Wa.ownsRow w.heap.size 28 1 (.slice (some ⟨w.heap.size, 0, none⟩) 0 0) 0 [] by rw [hWa]; exact empty_row w _ _ (Nat.le_refl _))
  have HRDa := hide (hrd Wa Ba)
  have hb63 : 0 + vs.length ≤ maxLen := by unfold maxLen; omega
  have hby : (0 + vs.length) * 24 ≤ 140737488355328 := by omega
  have hbas : w.heap.size ≤ Wa.heap.size := Ba.size
  have HBA := hide Ba
  have hl9 := hide hl
  clear Ba hvl hvs hrd hpt hst hl
  go_enter Try.func102, Try.ntmps102
  go_wp2_with (at_builtin; (try rw [← hWa]); refine wpList_row rfl (.tmp 5) (.tmp 6) 24 rfl 28 i1 (.slice none 0 0) 24 Try.underlying24 hi1 hx0 hx1 hx2 rfl w.heap.size (.slice (some ⟨w.heap.size, 0, none⟩) 0 0) 0 [] rfl (unhide Ra) (.slice pa ahead.length pc) rfl vs (unhide HRDa) (unhide hvp) hb63 hby hbas ?_)
  intro v1 w1 ho1 hg1
  try rw [← hWa] at hg1
  have B1 : Below w.heap.size w w1 := (unhide HBA).grown hg1 hbas (fun q hq => by cases hq; exact Nat.le_refl _)
  have ho1 : w1.ownsRow w.heap.size 28 1 v1 ahead.length vs := by have h := ho1; have e := unhide HVL; first | (simp only [List.nil_append, Nat.zero_add] at h; rw [e] at h; exact h) | (rw [e] at h; exact h) | exact h
  obtain ⟨a1, k1, c1, e1⟩ := row_shape ho1
  subst e1
  clear hg1 Ra HRDa hb63 hby hbas HBA hWa
  obtain ⟨Wb, hWb⟩ : ∃ Wb, Wb = w1.alloc (.cells #[.slice (some ⟨b, 0, none⟩) 1 d] 28) := ⟨_, rfl⟩
  have Bb : Below w1.heap.size w1 Wb := by rw [hWb]; exact (Below.refl _ _).alloc (Nat.le_refl _) _
  have Rb := hide (row_below ho1 Bb)
  have HNb := hide (show ∀ j u, ([Value.slice (some ⟨b, 0, none⟩) 1 d] : List Value)[j]? = some u → Wb.cell? ((⟨w1.heap.size, 0, none⟩ : Addr).add j) = some u by rw [hWb]; exact one_val w1 _ _)
  have hb63 : ahead.length + ([Value.slice (some ⟨b, 0, none⟩) 1 d] : List Value).length ≤ maxLen := by have := unhide hl9; unfold maxLen; simp; omega
  have hby : (ahead.length + ([Value.slice (some ⟨b, 0, none⟩) 1 d] : List Value).length) * 24 ≤ 140737488355328 := by have := unhide hl9; simp; omega
  have hbas : w.heap.size ≤ Wb.heap.size := Nat.le_trans B1.size Bb.size
  have HBb := hide Bb
  have hge := hide (row_base ho1)
  clear Bb ho1
  go_wp2_with (at_builtin; (try rw [← hWb]); refine wpList_row rfl (.tmp 7) (.tmp 9) 24 rfl 28 i1 (.slice none 0 0) 24 Try.underlying24 hi1 hx0 hx1 hx2 rfl w.heap.size _ ahead.length vs rfl (unhide Rb) (.slice (some ⟨w1.heap.size, 0, none⟩) 1 1) rfl [.slice (some ⟨b, 0, none⟩) 1 d] (.inr ⟨_, 1, rfl, unhide HNb⟩) (by intro u hu; rw [List.mem_singleton.1 hu]; rfl) hb63 hby hbas ?_)
  intro v2 w2 ho2 hg2
  try rw [← hWb] at hg2
  have B2 : Below w.heap.size w w2 := (B1.trans ((unhide HBb).mono B1.size)).grown hg2 hbas (unhide hge)
  have hs := ((unhide HVS) w2 B2).snoc hd ((Kq.ofBelow B2).ownG (unhide HST))
  have ho2' : w2.ownsRow w.heap.size 28 1 v2 (ahead ++ [c]).length (vs ++ [.slice (some ⟨b, 0, none⟩) 1 d]) := by rw [List.length_append]; exact ho2
  obtain ⟨a2, c2, e2, q1, q2, q3⟩ := PT.of_own ho2' hs
  have hblt : ∀ g, v2.ownBlock = some g → w.heap.size ≤ g ∧ g < w2.heap.size := fun g hg => ⟨(row_blt ho2' g hg).1, (row_blt ho2' g hg).2⟩
  subst e2
  clear ho2 hg2 ho2' hs Rb HNb hb63 hby hbas HBb hWb hge
  go_wp2_with fail
  go_ret
  exact ⟨_, _, rfl, q1, q2, q3, hblt, B2⟩
end Al
end Go.Proofs.Ythaabakpcokomaa
