/-
  spec.l13All: the paths of a value and of all in it.
  spec.l13All whatever the value; spec.l1Array, spec.l13Get over slices that lie at any place; spec.l13Paths.
  A path of steps is a value without a fault.
  spec.l14Behind: the steps of a path and one more.
-/
import Derived.Test.YtcglddahphkcpaaGreatDoorV18
import Derived.Test.YtcglddahphkcpaaGreatDoorV19
import Derived.Test.YtcglddahphkcpaaGreatDoorV31
import Derived.Test.YtcglddahphkcpaaGreatDoorV35
namespace Go.Proofs.YtcglddahphkcpaaGreatDoor
open Go.RowKit
set_option linter.unusedVariables false
set_option linter.unusedSimpArgs false
namespace Al
theorem empty_row (w : World) (B : Nat) (t : TypeId) (hB : B ≤ w.heap.size) : (w.alloc (.cells #[] t)).ownsRow B t 1 (.slice (some ⟨w.heap.size, 0, none⟩) 0 0) 0 [] := ⟨rfl, .inr ⟨w.heap.size, 0, #[], rfl, hB, heap_alloc_new _ _, Nat.le_refl _, by simp [maxLen], rfl, rfl⟩⟩
/-- What an append reads of a slice of steps, wherever what was there is kept. -/
theorem PT.read {w : World} {pa : Option Addr} {pc : Nat} {cs : List M.Cl} (h : PT w pa cs) (hn : cs = [] → pa = none ∧ pc = 0) : ∃ vs, vs.length = cs.length ∧ (∀ W, Below w.heap.size w W → Sl W vs cs) ∧ ∀ W, Below w.heap.size w W → ((Value.slice pa cs.length pc = .slice none 0 0 ∧ vs = []) ∨ ∃ ad c, Value.slice pa cs.length pc = .slice (some ad) vs.length c ∧ ∀ j u, vs[j]? = some u → W.cell? (ad.add j) = some u) := by
  obtain ⟨vs, h1, h2⟩ := h
  refine ⟨vs, h1.1, fun W hW => h1.keep (Kq.ofBelow hW), fun W hW => ?_⟩
  rcases h2 with h2 | ⟨g, o, c, h3, h4, h5⟩
  · obtain ⟨e1, e2⟩ := hn h2
    subst h2
    exact .inl ⟨by rw [e1, e2]; rfl, List.length_eq_zero_iff.1 h1.1⟩
  · refine .inr ⟨⟨g, o, none⟩, pc, by rw [h3, h1.1], fun j u hu => ?_⟩
    have hj : j < cs.length := by rw [← h1.1]; exact (List.getElem?_eq_some_iff.1 hu).1
    have h4' : W.heap[g]? = some (.cells c 24 (0, 0)) := (hW.block g (Array.getElem?_eq_some_iff.1 h4).1).trans h4
    rw [Go.WideShapes.add_plain, cell_in h4', h5 j hj, hu]
/-- What an append reads of a row of paths. -/
theorem row_read {w : World} {B : Nat} {t : TypeId} {s : Value} {n : Nat} {xs : List Value} (h : w.ownsRow B t 1 s n xs) : (s = .slice none 0 0 ∧ xs = []) ∨ ∃ ad c, s = .slice (some ad) xs.length c ∧ ∀ j u, xs[j]? = some u → w.cell? (ad.add j) = some u := by
  have hl : xs.length = n := by have := h.1; omega
  rcases h.2 with ⟨h2, h3⟩ | ⟨g, cap, cur, h2, h3, h4, h5, h6, h7, h8⟩
  · exact .inl ⟨h2, List.length_eq_zero_iff.1 (by omega)⟩
  · refine .inr ⟨⟨g, 0, none⟩, cap, by rw [hl]; exact h2, fun j u hu => ?_⟩
    have hj : j < xs.length := (List.getElem?_eq_some_iff.1 hu).1
    rw [Go.WideShapes.add_plain, Nat.zero_add, cell_in h4, ← hu, ← h8, List.getElem?_take_of_lt (by omega)]
theorem row_below {w w' : World} {B : Nat} {t : TypeId} {s : Value} {n sz : Nat} {xs : List Value} (h : w.ownsRow B t sz s n xs) (hb : Below w.heap.size w w') : w'.ownsRow B t sz s n xs := ownsRow_below (B := 0) h hb
theorem row_shape {w : World} {B : Nat} {t : TypeId} {s : Value} {n sz : Nat} {xs : List Value} (h : w.ownsRow B t sz s n xs) : ∃ a k c, s = .slice a k c := by
  rcases h.2 with ⟨h2, _⟩ | ⟨g', cap, cur, h2, h3, _⟩
  · exact ⟨_, _, _, h2⟩
  · exact ⟨_, _, _, h2⟩
theorem row_base {w : World} {B : Nat} {t : TypeId} {s : Value} {n sz : Nat} {xs : List Value} (h : w.ownsRow B t sz s n xs) : ∀ g, s.ownBlock = some g → B ≤ g := by
  intro g hg
  rcases h.2 with ⟨h2, _⟩ | ⟨g', cap, cur, h2, h3, _⟩
  · rw [h2] at hg; cases hg
  · rw [h2] at hg; cases hg; exact h3

end Al
end Go.Proofs.YtcglddahphkcpaaGreatDoor

namespace Go.Proofs.YtcglddahphkcpaaGreatDoor
open Go.RowKit
set_option linter.unusedVariables false
set_option linter.unusedSimpArgs false

/-- The slice from a on, wherever it lies, holds slices, the i-th of which holds the cells of the i-th list. -/
def LO (w : World) (a : Option Addr) (ps : List (List M.Cl)) : Prop :=
  ∀ i, i < ps.length → ∃ g o b off c, a = some ⟨g, o, none⟩ ∧ g < w.heap.size ∧ w.cell? ⟨g, o + i, none⟩ = some (.slice (some ⟨b, off, none⟩) (ps.getD i []).length c) ∧ (ps.getD i []).length ≤ c ∧ b < w.heap.size ∧ Row w b off (ps.getD i [])
theorem LO.below {w w' : World} {a : Option Addr} {ps : List (List M.Cl)} (h : LO w a ps) (hb : Below w.heap.size w w') : LO w' a ps := by
  intro i hi
  obtain ⟨g, o, b, off, c, rfl, h1, h2, h3, h4, h5⟩ := h i hi
  exact ⟨g, o, b, off, c, rfl, Nat.lt_of_lt_of_le h1 hb.size, (hb.cell h1).trans h2, h3, Nat.lt_of_lt_of_le h4 hb.size, h5.below hb h4⟩
set_option maxHeartbeats 1000000 in
theorem l1ArrayR_any (a : Option Addr) (cap : Nat) (ps : List (List M.Cl)) (w : World) (hL : LO w a ps) (hcap : ps.length ≤ cap) (hn : ps.length ≤ 4096) (hv : ∀ j, j < ps.length → M.valueFault (ps.getD j []) = 0) :
    Calls Tryz.prog 85 #[.slice a ps.length cap] w fun e w' => ∃ s, e = .returned s ∧ Res w' w.heap.size s (arrV ps) ∧ Below w.heap.size w w' := by
  have HL := hide hL
  have HV := hide hv
  clear hL hv
  obtain ⟨i0, hi, hz0, hz1, hz2⟩ := info_parts Tryz.info111
  go_enter Tryz.func85, Tryz.ntmps85
  go_wp2_with fail
  go_loopg [3, 4] ps.length (fun gh s3 s4 wr => ∃ k : Nat, Hid (gh = ps.length - k) ∧ s4 = .int .i64 k ∧ k ≤ ps.length ∧ wr.ownsRow w.heap.size 111 5 s3 (arrK ps k).length (flat (arrK ps k)) ∧ Below w.heap.size w wr)
  case atStart => exact ⟨0, rfl, rfl, by omega, one_own w w.heap.size _ (headCl 5 ps.length) rfl (Nat.le_refl _), (Below.refl _ _).alloc (Nat.le_refl _) _⟩
  case round =>
    obtain ⟨k, hg, rfl, hk, hown, hbel⟩ := hrel
    by_cases hlt : k < ps.length
    · obtain ⟨g, o, b, off, c, rfl, hgl, f0, hc, hb, hr⟩ := ((unhide HL).below hbel) k hlt
      have hp := fault_len ((unhide HV) k hlt)
      have hal := arrK_length ps k
      have hts := tot_small ps k hk (fun j hj => (fault_len ((unhide HV) j (by omega))).2)
      have hsucc := hide (show flat (arrK ps k) ++ flat (ps.getD k []) = flat (arrK ps (k + 1)) by rw [arrK_succ ps k hlt, flat_append])
      have hsl := hide (show (arrK ps k).length + (ps.getD k []).length = (arrK ps (k + 1)).length by rw [arrK_succ ps k hlt, List.length_append])
      have hnews := hide (row_words hr)
      have hone := hide (flat_one (ps.getD k []))
      have HFL := hide (flat_length (ps.getD k []))
      clear hr
      generalize ps.getD k [] = p at *
      have hb63 : (arrK ps k).length + p.length ≤ maxLen := by unfold maxLen; omega
      have hby : ((arrK ps k).length + p.length) * 56 ≤ 140737488355328 := by omega
      have hbse := hide (ownsRow_base hown)
      have HOWN := hide hown
      have hbase := hbel.size
      clear hown hal hts
      go_wp2_with (at_builtin; refine wpList_append_own _ rfl (.tmp 15) (.tmp 19) 24 rfl w.heap.size 111 i0 _ 5 56 Tryz.underlying24 hi hz0 hz1 hz2 rfl (by decide) _ (arrK ps k).length _ rfl (unhide HOWN) ⟨b, off, none⟩ p.length c (flat p) rfl (unhide HFL) (unhide hnews) (unhide hone) hb63 hby hbase ?_)
      intro v' w2 ho2 hg2 _
      rw [unhide hsucc, unhide hsl] at ho2
      have B2 : Below w.heap.size w w2 := hbel.grown hg2 hbase (unhide hbse)
      have HO2 := hide ho2
      clear ho2 hg2 f0
      go_wp2_with fail
      go_roundg (ps.length - (k + 1))
      case rel => exact ⟨k + 1, rfl, by go_num, by omega, unhide HO2, B2⟩
      case measure => have := hg.out; omega
    · have hke : k = ps.length := by omega
      have hal := arrK_length ps k
      have hts := tot_small ps k hk (fun j hj => (fault_len ((unhide HV) j (by omega))).2)
      have fin := hide (show Res wr w.heap.size u3 (arrV ps) by unfold arrV; rw [← hke]; exact res_of_owns hown (by omega))
      clear hke hown hal hts
      go_wp2_with fail
      go_ret
      exact ⟨_, rfl, unhide fin, hbel⟩

namespace Al
/-- The cells of a path. -/
def pathC (p : List M.Cl) : List M.Cl := headCl 5 p.length :: p
theorem pathC_length (p : List M.Cl) : (pathC p).length = p.length + 1 := by simp [pathC]
def ones (p : List M.Cl) : List (List M.Cl) := p.map fun c => [c]
theorem ones_length (p : List M.Cl) : (ones p).length = p.length := by simp [ones]
theorem ones_getD (p : List M.Cl) (i : Nat) (hi : i < p.length) : (ones p).getD i [] = [p.getD i M.zero] := by
  simp [ones, List.getD_eq_getElem?_getD, hi]
theorem ones_flatten (p : List M.Cl) : (ones p).flatten = p := by
  induction p with
  | nil => rfl
  | cons c p ih => rw [show ones (c :: p) = [c] :: ones p from rfl, List.flatten_cons, ih]; rfl
theorem arr_ones (p : List M.Cl) : arrV (ones p) = pathC p := by
  unfold arrV arrK pathC
  rw [List.take_length, ones_flatten, ones_length]
theorem ones_valid {p : List M.Cl} (h : ∀ c ∈ p, Pth.Stp c) : ∀ j, j < (ones p).length → M.valueFault ((ones p).getD j []) = 0 := by
  intro j hj
  rw [ones_length] at hj
  rw [ones_getD p j hj]
  exact (h _ (getD_mem p j hj)).val
theorem ones_lo {w : World} {a : Option Addr} {p : List M.Cl} (h : Pth.PL w a p) : LO w a (ones p) := by
  intro i hi
  rw [ones_length] at hi
  rcases h with h | ⟨g, o, rfl, h1, h2⟩
  · rw [h] at hi; simp at hi
  · obtain ⟨b, off, c, q1, q2, q3, q4⟩ := h2 i hi
    rw [ones_getD p i hi]
    exact ⟨g, o, b, off, c, rfl, h1, q1, q2, q3, q4⟩
theorem l1ArrayPL_any (pa : Option Addr) (pc : Nat) (p : List M.Cl) (w : World) (h : Pth.PL w pa p) (hc : p.length ≤ pc) (hn : p.length ≤ 4096) (hs : ∀ c ∈ p, Pth.Stp c) :
    Calls Tryz.prog 85 #[.slice pa p.length pc] w fun e w' => ∃ s, e = .returned s ∧ Res w' w.heap.size s (pathC p) ∧ Below w.heap.size w w' := by
  have := l1ArrayR_any pa pc (ones p) w (ones_lo h) (by rw [ones_length]; exact hc) (by rw [ones_length]; exact hn) (ones_valid hs)
  rwa [ones_length, arr_ones] at this

/-- The steps of all paths. -/
def steps (leaves : Bool) (v : List M.Cl) : List (List M.Cl) := all leaves v.length v []
end Al
end Go.Proofs.YtcglddahphkcpaaGreatDoor

namespace Go.Proofs.YtcglddahphkcpaaGreatDoor
open Go.RowKit
set_option linter.unusedVariables false
set_option linter.unusedSimpArgs false
namespace Al
/-- A path that leads somewhere is a path. -/
theorem pathC_ok {p : List M.Cl} (h : ∀ c ∈ p, Pth.Stp c) (hl : p.length ≤ 199) : M.valueFault (pathC p) = 0 ∧ Pth.fault (pathC p) = 0 ∧ (pathC p).drop 1 = p := by
  have hv : M.valueFault (pathC p) = 0 := by
    rw [← arr_ones]
    refine arr_valid (ones_valid h) (fun j hj => ?_) ?_ (by rw [ones_length]; omega)
    · rw [ones_length] at hj
      rw [ones_getD p j hj]
      have hs := h _ (getD_mem p j hj)
      have hc := Pth.cell_code hs.val (i := 0) (by simp)
      have hk := fault_key hs.val
      simp only [List.getD_cons_zero] at hc hk
      exact one_laid hc (by rw [hk]; exact empty_list) (Pth.step_n hc (by unfold Pth.isStep; generalize p.getD j M.zero = c at hs ⊢; rcases hs.kd with e | e <;> simp [e]))
    · rw [tot_ones (fun j hj => by rw [ones_length] at hj; rw [ones_getD p j hj]; rfl) _ (Nat.le_refl _), ones_length]; omega
  refine ⟨hv, Pth.fault_ok hv rfl ?_, rfl⟩
  show p.all Pth.isStep = true
  rw [List.all_eq_true]
  intro c hc
  unfold Pth.isStep
  rcases (h c hc).kd with e | e <;> simp [e]
end Al
end Go.Proofs.YtcglddahphkcpaaGreatDoor

namespace Go.Proofs.YtcglddahphkcpaaGreatDoor
open Go.RowKit
set_option linter.unusedVariables false
set_option linter.unusedSimpArgs false
namespace Al
set_option maxHeartbeats 2000000 in
theorem behind_any (pa : Option Addr) (pc : Nat) (ahead : List M.Cl) (b d : Nat) (c : M.Cl) (w : World) (hpt : PT w pa ahead) (hnil : ahead = [] → pa = none ∧ pc = 0) (hl : ahead.length ≤ 300) (hst : OwnG w b 111 [c]) (hd : 1 ≤ d) :
    Calls Tryz.prog 110 #[.slice pa ahead.length pc, .slice (some ⟨b, 0, none⟩) 1 d] w fun e w' => ∃ a k, e = .returned (.slice a (ahead ++ [c]).length k) ∧ (ahead ++ [c]).length ≤ k ∧ k ≤ 9223372036854775807 ∧ PT w' a (ahead ++ [c]) ∧ (∀ g, (Value.slice a (ahead ++ [c]).length k).ownBlock = some g → w.heap.size ≤ g ∧ g < w'.heap.size) ∧ Below w.heap.size w w' := by
  obtain ⟨i1, hi1, hx0, hx1, hx2⟩ := info_parts Tryz.info24
  obtain ⟨vs, hvl, hvs, hrd⟩ := hpt.read hnil
  have HVS := hide hvs
  have HVL := hide hvl
  have hvp := hide (hvs w (Below.refl _ _)).plain
  have HST := hide hst
  obtain ⟨Wa, hWa⟩ : ∃ Wa, Wa = w.alloc (.cells #[] 24) := ⟨_, rfl⟩
  have Ba : Below w.heap.size w Wa := by rw [hWa]; exact (Below.refl _ _).alloc (Nat.le_refl _) _
  have Ra := hide (show Wa.ownsRow w.heap.size 24 1 (.slice (some ⟨w.heap.size, 0, none⟩) 0 0) 0 [] by rw [hWa]; exact empty_row w _ _ (Nat.le_refl _))
  have HRDa := hide (hrd Wa Ba)
  have hb63 : 0 + vs.length ≤ maxLen := by unfold maxLen; omega
  have hby : (0 + vs.length) * 24 ≤ 140737488355328 := by omega
  have hbas : w.heap.size ≤ Wa.heap.size := Ba.size
  have HBA := hide Ba
  have hl9 := hide hl
  clear Ba hvl hvs hrd hpt hst hl
  go_enter Tryz.func110, Tryz.ntmps110
  go_wp2_with (at_builtin; (try rw [← hWa]); refine wpList_row rfl (.tmp 5) (.tmp 6) 28 rfl 24 i1 (.slice none 0 0) 24 Tryz.underlying28 hi1 hx0 hx1 hx2 rfl w.heap.size (.slice (some ⟨w.heap.size, 0, none⟩) 0 0) 0 [] rfl (unhide Ra) (.slice pa ahead.length pc) rfl vs (unhide HRDa) (unhide hvp) hb63 hby hbas ?_)
  intro v1 w1 ho1 hg1
  try rw [← hWa] at hg1
  have B1 : Below w.heap.size w w1 := (unhide HBA).grown hg1 hbas (fun q hq => by cases hq; exact Nat.le_refl _)
  have ho1 : w1.ownsRow w.heap.size 24 1 v1 ahead.length vs := by have h := ho1; have e := unhide HVL; first | (simp only [List.nil_append, Nat.zero_add] at h; rw [e] at h; exact h) | (rw [e] at h; exact h) | exact h
  obtain ⟨a1, k1, c1, e1⟩ := row_shape ho1
  subst e1
  clear hg1 Ra HRDa hb63 hby hbas HBA hWa
  obtain ⟨Wb, hWb⟩ : ∃ Wb, Wb = w1.alloc (.cells #[.slice (some ⟨b, 0, none⟩) 1 d] 24) := ⟨_, rfl⟩
  have Bb : Below w1.heap.size w1 Wb := by rw [hWb]; exact (Below.refl _ _).alloc (Nat.le_refl _) _
  have Rb := hide (row_below ho1 Bb)
  have HNb := hide (show ∀ j u, ([Value.slice (some ⟨b, 0, none⟩) 1 d] : List Value)[j]? = some u → Wb.cell? ((⟨w1.heap.size, 0, none⟩ : Addr).add j) = some u by rw [hWb]; exact one_val w1 _ _)
  have hb63 : ahead.length + ([Value.slice (some ⟨b, 0, none⟩) 1 d] : List Value).length ≤ maxLen := by have := unhide hl9; unfold maxLen; simp; omega
  have hby : (ahead.length + ([Value.slice (some ⟨b, 0, none⟩) 1 d] : List Value).length) * 24 ≤ 140737488355328 := by have := unhide hl9; simp; omega
  have hbas : w.heap.size ≤ Wb.heap.size := Nat.le_trans B1.size Bb.size
  have HBb := hide Bb
  have hge := hide (row_base ho1)
  clear Bb ho1
  go_wp2_with (at_builtin; (try rw [← hWb]); refine wpList_row rfl (.tmp 7) (.tmp 9) 28 rfl 24 i1 (.slice none 0 0) 24 Tryz.underlying28 hi1 hx0 hx1 hx2 rfl w.heap.size _ ahead.length vs rfl (unhide Rb) (.slice (some ⟨w1.heap.size, 0, none⟩) 1 1) rfl [.slice (some ⟨b, 0, none⟩) 1 d] (.inr ⟨_, 1, rfl, unhide HNb⟩) (by intro u hu; rw [List.mem_singleton.1 hu]; rfl) hb63 hby hbas ?_)
  intro v2 w2 ho2 hg2
  try rw [← hWb] at hg2
  have B2 : Below w.heap.size w w2 := (B1.trans ((unhide HBb).mono B1.size)).grown hg2 hbas (unhide hge)
  have hs := ((unhide HVS) w2 B2).snoc hd ((Kq.ofBelow B2).ownG (unhide HST))
  have ho2' : w2.ownsRow w.heap.size 24 1 v2 (ahead ++ [c]).length (vs ++ [.slice (some ⟨b, 0, none⟩) 1 d]) := by rw [List.length_append]; exact ho2
  obtain ⟨a2, c2, e2, q1, q2, q3⟩ := PT.of_own ho2' hs
  have hblt : ∀ g, v2.ownBlock = some g → w.heap.size ≤ g ∧ g < w2.heap.size := fun g hg => ⟨(row_blt ho2' g hg).1, (row_blt ho2' g hg).2⟩
  subst e2
  clear ho2 hg2 ho2' hs Rb HNb hb63 hby hbas HBb hWb hge
  go_wp2_with fail
  go_ret
  exact ⟨_, _, rfl, q1, q2, q3, hblt, B2⟩
end Al
end Go.Proofs.YtcglddahphkcpaaGreatDoor
