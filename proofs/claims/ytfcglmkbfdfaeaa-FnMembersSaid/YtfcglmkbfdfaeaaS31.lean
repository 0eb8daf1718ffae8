/-
  A row of cells that can be appended to, as an answer.
  spec.l1Array, its answer as a row that can be appended to.
-/
import Derived.Test.YtfcglmkbfdfaeaaS17
import Derived.Test.YtfcglmkbfdfaeaaS18
import Derived.Test.YtfcglmkbfdfaeaaS28
namespace Go.Proofs.Ytfcglmkbfdfaeaa
open Go.RowKit
set_option linter.unusedVariables false
set_option linter.unusedSimpArgs false

/-- A row of cells of one's own, with its room. -/
def Rs (w : World) (B : Nat) (s : Value) (l : List M.Cl) : Prop := w.ownsRow B 34 5 s l.length (flat l) ∧ l.length ≤ 1048576
theorem Rs.res {w : World} {B : Nat} {s : Value} {l : List M.Cl} (h : Rs w B s l) : Res w B s l := res_of_owns h.1 h.2
theorem owns_mono {w : World} {B B' : Nat} {e : TypeId} {k : Nat} {v : Value} {n : Nat} {xs : List Value} (h : w.ownsRow B e k v n xs) (hB : B' ≤ B) : w.ownsRow B' e k v n xs := by
  obtain ⟨h1, h2 | ⟨g, cap, cur, h3, h4, h5⟩⟩ := h
  · exact ⟨h1, .inl h2⟩
  · exact ⟨h1, .inr ⟨g, cap, cur, h3, by omega, h5⟩⟩
theorem Rs.mono {w : World} {B B' : Nat} {s : Value} {l : List M.Cl} (h : Rs w B s l) (hB : B' ≤ B) : Rs w B' s l := ⟨owns_mono h.1 hB, h.2⟩
theorem Rs.shape {w : World} {B : Nat} {s : Value} {l : List M.Cl} (h : Rs w B s l) : ∃ a n c, s = .slice a n c := h.res.shape
set_option maxHeartbeats 400000 in
theorem l1NumberO_any (n : Int) (w : World) : Calls Try.prog 52 #[.int .i64 n] w fun e w' => ∃ s, e = .returned s ∧ Rs w' w.heap.size s [⟨3, n, ByteArray.empty, ByteArray.empty, 0⟩] ∧ Below w.heap.size w w' := by
  go_enter Try.func52, Try.ntmps52
  go_wp2_with fail
  go_ret
  exact ⟨_, rfl, ⟨one_own w w.heap.size w.heap.size ⟨3, n, ByteArray.empty, ByteArray.empty, 0⟩ rfl (Nat.le_refl _), by simp⟩, (Below.refl _ _).alloc (Nat.le_refl _) _⟩
set_option maxHeartbeats 400000 in
theorem l1StringO_any (s : ByteArray) (w : World) : Calls Try.prog 53 #[.string s] w fun e w' => ∃ r, e = .returned r ∧ Rs w' w.heap.size r [⟨4, 0, s, ByteArray.empty, 0⟩] ∧ Below w.heap.size w w' := by
  go_enter Try.func53, Try.ntmps53
  go_wp2_with fail
  go_ret
  exact ⟨_, rfl, ⟨one_own w w.heap.size w.heap.size ⟨4, 0, s, ByteArray.empty, 0⟩ rfl (Nat.le_refl _), by simp⟩, (Below.refl _ _).alloc (Nat.le_refl _) _⟩

end Go.Proofs.Ytfcglmkbfdfaeaa

namespace Go.Proofs.Ytfcglmkbfdfaeaa
open Go.RowKit
set_option linter.unusedVariables false
set_option linter.unusedSimpArgs false

set_option maxHeartbeats 1000000 in
theorem l1ArrayO_any (a : Option Addr) (cap : Nat) (ps : List (List M.Cl)) (w : World) (hL : LV w a ps) (hcap : ps.length ≤ cap) (hn : ps.length ≤ 4096) (ht : tot ps ps.length ≤ 8192) (hv : ∀ j, j < ps.length → Bare (ps.getD j [])) :
    Calls Try.prog 54 #[.slice a ps.length cap] w fun e w' => ∃ s, e = .returned s ∧ Rs w' w.heap.size s (arrV ps) ∧ Below w.heap.size w w' := by
  have HL := hide hL
  have HV := hide hv
  clear hL hv
  obtain ⟨i0, hi, hz0, hz1, hz2⟩ := info_parts Try.info34
  go_enter Try.func54, Try.ntmps54
  go_wp2_with fail
  go_loopg [3, 4] ps.length (fun gh s3 s4 wr => ∃ k : Nat, Hid (gh = ps.length - k) ∧ s4 = .int .i64 k ∧ k ≤ ps.length ∧ wr.ownsRow w.heap.size 34 5 s3 (arrK ps k).length (flat (arrK ps k)) ∧ Below w.heap.size w wr)
  case atStart => exact ⟨0, rfl, rfl, by omega, one_own w w.heap.size _ (headCl 5 ps.length) rfl (Nat.le_refl _), (Below.refl _ _).alloc (Nat.le_refl _) _⟩
  case round =>
    obtain ⟨k, hg, rfl, hk, hown, hbel⟩ := hrel
    by_cases hlt : k < ps.length
    · obtain ⟨g, b, off, c, rfl, hgl, f0, hc, hb, hr⟩ := ((unhide HL).below hbel) k hlt
      have hp := ((unhide HV) k hlt).1
      have hal := arrK_length ps k
      have hts := tot_part ps k hlt
      have hsucc := hide (show flat (arrK ps k) ++ flat (ps.getD k []) = flat (arrK ps (k + 1)) by rw [arrK_succ ps k hlt, flat_append])
      have hsl := hide (show (arrK ps k).length + (ps.getD k []).length = (arrK ps (k + 1)).length by rw [arrK_succ ps k hlt, List.length_append])
      have hnews := hide (row_words hr)
      have hone := hide (flat_one (ps.getD k []))
      have HFL := hide (flat_length (ps.getD k []))
      clear hr
      generalize ps.getD k [] = p at *
      have hb63 : (arrK ps k).length + p.length ≤ maxLen := by unfold maxLen; omega
      have hby : ((arrK ps k).length + p.length) * 56 ≤ 140737488355328 := by omega
      have hbse := hide (ownsRow_base hown)
      have HOWN := hide hown
      have hbase := hbel.size
      clear hown hal hts
      go_wp2_with (at_builtin; refine wpList_append_own _ rfl (.tmp 15) (.tmp 19) 24 rfl w.heap.size 34 i0 _ 5 56 Try.underlying24 hi hz0 hz1 hz2 rfl (by decide) _ (arrK ps k).length _ rfl (unhide HOWN) ⟨b, off, none⟩ p.length c (flat p) rfl (unhide HFL) (unhide hnews) (unhide hone) hb63 hby hbase ?_)
      intro v' w2 ho2 hg2 _
      rw [unhide hsucc, unhide hsl] at ho2
      have B2 : Below w.heap.size w w2 := hbel.grown hg2 hbase (unhide hbse)
      have HO2 := hide ho2
      clear ho2 hg2 f0
      go_wp2_with fail
      go_roundg (ps.length - (k + 1))
      case rel => exact ⟨k + 1, rfl, by go_num, by omega, unhide HO2, B2⟩
      case measure => have := hg.out; omega
    · have hke : k = ps.length := by omega
      have hal := arrK_length ps k
      have hts := tot_le ps ps.length k hk (Nat.le_refl _)
      have fin := hide (show Rs wr w.heap.size u3 (arrV ps) by unfold arrV; rw [← hke]; exact ⟨hown, by omega⟩)
      clear hke hown hal hts
      go_wp2_with fail
      go_ret
      exact ⟨_, rfl, unhide fin, hbel⟩

end Go.Proofs.Ytfcglmkbfdfaeaa
