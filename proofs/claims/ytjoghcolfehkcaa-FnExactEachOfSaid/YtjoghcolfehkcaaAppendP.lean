/-
  impl.appendPart lays a copy of a part behind a row of the call's own and gives its first cell a key.
-/
import Derived.Test.YtjoghcolfehkcaaFlat
namespace Go.Proofs.Ytjoghcolfehkcaa
open Go.RowKit
set_option linter.unusedVariables false

set_option maxHeartbeats 1000000 in
theorem appendPart_any (base : Nat) (v : Value) (l p : List M.Cl) (b off c : Nat) (key : ByteArray) (w : World) (hown : w.ownsRow base 55 5 v l.length (flat l)) (hrow : Row w b off p) (hp : p ≠ []) (hn : l.length + p.length ≤ 1048576) (hbase : base ≤ w.heap.size) :
    Calls Try.prog 104 #[v, .slice (some ⟨b, off, none⟩) p.length c, .string key] w fun e w' => ∃ v', e = .returned v' ∧ w'.ownsRow base 55 5 v' (l ++ setKey p key).length (flat (l ++ setKey p key)) ∧ Below base w w' := by
  obtain ⟨i0, hi, hz0, hz1, hz2⟩ := info_parts Try.info55
  have hnews := hide (row_words hrow)
  have hone := hide (flat_one p)
  have hfl := flat_length p
  have HFL := hide hfl
  have hset := hide (flat_setKey l p key hp)
  have hpl : 0 < p.length := List.length_pos_iff.2 hp
  have hlen : (l ++ setKey p key).length = l.length + p.length := by rw [List.length_append, setKey_length]
  have HLEN := hide hlen
  have hb63 : l.length + p.length ≤ maxLen := by unfold maxLen; omega
  have hby : (l.length + p.length) * 56 ≤ 140737488355328 := by omega
  have HOWN := hide hown
  have fin : ∀ (vv : Value) (ww : World) (g cap : Nat), vv = .slice (some ⟨g, 0, none⟩) (l.length + p.length) cap → ww.ownsRow base 55 5 vv (l.length + p.length) (flat l ++ flat p) → Below base w ww → base ≤ g →
      (ww.setCell ⟨g, l.length * 5 + 3, none⟩ (.string key)).ownsRow base 55 5 vv (l ++ setKey p key).length (flat (l ++ setKey p key)) ∧ Below base w (ww.setCell ⟨g, l.length * 5 + 3, none⟩ (.string key)) := by
    rintro vv ww g cap rfl ho hb hg
    have h1 := (ho.stored (l.length * 5 + 3) (.string key)).1
    rw [← flat_append, unhide hset] at h1
    rw [unhide HLEN]
    exact ⟨h1, hb.setCell hg _⟩
  have FIN := hide fin
  clear hfl hlen fin hp hrow
  rcases hown.2 with ⟨rfl, hl0⟩ | ⟨g, cap, cur, rfl, hg, hh, hnc, hcm, hcs, htake⟩
  · clear hown
    have HL0 := hide hl0
    clear hl0
    go_enter Try.func104, Try.ntmps104
    go_wp2_with (at_builtin; refine wpList_append_own _ rfl (.tmp 10) (.tmp 11) 24 rfl base 55 i0 _ 5 56 Try.underlying24 hi hz0 hz1 hz2 rfl (by decide) (.slice none 0 0) l.length (flat l) rfl (unhide HOWN) ⟨b, off, none⟩ p.length c (flat p) rfl (unhide HFL) (unhide hnews) (unhide hone) hb63 hby hbase ?_)
    intro v' w1 ho1 hg1 hnil
    have hsh : ∃ g cap, v' = .slice (some ⟨g, 0, none⟩) (l.length + p.length) cap ∧ base ≤ g ∧ l.length + p.length ≤ cap := by
      rcases ho1.2 with ⟨_, h⟩ | ⟨g, cap, cur, h, h2, _, h3, _⟩
      · omega
      · exact ⟨g, cap, h, h2, h3⟩
    obtain ⟨g, cap, hv, hgb, hcap⟩ := hsh
    have B1 : Below base w w1 := (Below.refl base w).grown hg1 hbase (fun k hk => by simp [Value.ownBlock] at hk)
    have F := (unhide FIN) v' w1 g cap hv ho1 B1 hgb
    rw [unhide HL0] at F ho1 hv hcap
    subst hv
    have hz := ho1.frozenAt 3
    obtain ⟨u, hu⟩ := some_of_lt (xs := flat l ++ flat p) (j := 3) (by rw [List.length_append, unhide HFL]; omega)
    have hc := (ho1.cellAt 3 (by omega)).trans hu
    clear hu ho1 hg1 hnil
    have HF := hide F
    clear F
    simp only [Nat.zero_add] at hcap ⊢
    go_wp2_with fail
    go_ret
    have F := unhide HF
    simp only [Nat.zero_mul, Nat.zero_add] at F
    exact ⟨_, rfl, F.1, F.2⟩
  · clear hown hh hcs htake
    unfold maxLen at hcm
    go_enter Try.func104, Try.ntmps104
    go_wp2_with (at_builtin; refine wpList_append_own _ rfl (.tmp 10) (.tmp 11) 24 rfl base 55 i0 _ 5 56 Try.underlying24 hi hz0 hz1 hz2 rfl (by decide) (.slice (some ⟨g, 0, none⟩) l.length cap) l.length (flat l) rfl (unhide HOWN) ⟨b, off, none⟩ p.length c (flat p) rfl (unhide HFL) (unhide hnews) (unhide hone) hb63 hby hbase ?_)
    intro v' w1 ho1 hg1 hnil
    have hsh : ∃ g cap, v' = .slice (some ⟨g, 0, none⟩) (l.length + p.length) cap ∧ base ≤ g ∧ l.length + p.length ≤ cap := by
      rcases ho1.2 with ⟨_, h⟩ | ⟨g, cap, cur, h, h2, _, h3, _⟩
      · omega
      · exact ⟨g, cap, h, h2, h3⟩
    obtain ⟨g', cap', hv, hgb, hcap⟩ := hsh
    have B1 : Below base w w1 := (Below.refl base w).grown hg1 hbase (fun k hk => by simp only [Value.ownBlock, Option.some.injEq] at hk; omega)
    have F := (unhide FIN) v' w1 g' cap' hv ho1 B1 hgb
    subst hv
    have hz := ho1.frozenAt (l.length * 5 + 3)
    obtain ⟨u, hu⟩ := some_of_lt (xs := flat l ++ flat p) (j := l.length * 5 + 3) (by rw [List.length_append, flat_length, flat_length]; omega)
    have hc := (ho1.cellAt (l.length * 5 + 3) (by omega)).trans hu
    clear hu ho1 hg1 hnil
    have HF := hide F
    clear F
    go_wp2_with fail
    go_ret
    exact ⟨_, rfl, (unhide HF).1, (unhide HF).2⟩

end Go.Proofs.Ytjoghcolfehkcaa
