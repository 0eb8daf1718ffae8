/-
  Code that is looked at closely, in memory: a row of instructions that grows; the model's answer and its list of places.
  slices.BinarySearch at a row of int64: how many are below, and whether it is there. The library's own text is walked.
  spec.l10Target; impl.isPairAt, impl.newCells.
-/
import Derived.Test.YtgjbibkppofjfaaDoorPepM
import Derived.Test.YtgjbibkppofjfaaDoorCmK
import Derived.Test.YtgjbibkppofjfaaDoorInN
import Derived.Test.YtgjbibkppofjfaaDoorChildT
import Derived.Test.YtgjbibkppofjfaaDoorInS
import Derived.Test.YtgjbibkppofjfaaDoorRes
import Derived.Test.YtgjbibkppofjfaaDoorAppendP
import Derived.Deep.LoopGhost
import Derived.Maps.AppendAt
namespace Go.Proofs.YtgjbibkppofjfaaDoor
open Go.RowKit
set_option linter.unusedVariables false
set_option linter.unusedSimpArgs false
namespace Cm
theorem Rw.push {w wA : World} {base : Nat} {v v' x : Value} {cs : List (Ic × Value)} {c : Ic} (h : Rw w base v cs) (ho : wA.ownsRow base 41 3 v' (cs.length + 1) (flat cs ++ inV c x)) (hg : w.grownBy wA v.ownBlock) (hx : Res w base x c.val) : Rw wA base v' (cs ++ [(c, x)]) := by
  refine ⟨by rw [List.length_append, flat_snoc]; exact ho, fun p hp => ?_⟩
  have hw : Res w base p.2 p.1.val := by
    rcases List.mem_append.1 hp with hp | hp
    · exact h.2 p hp
    · simp only [List.mem_singleton] at hp; subst hp; exact hx
  exact res_keep hw fun b hb => hg.block b (hw.lt b hb) (fun e => h.apart hw (b := b) e.symm hb)
/-- A cell of a block of another kind is set. -/
theorem Rw.setOther {w : World} {base P : Nat} {v : Value} {cs : List (Ic × Value)} {t : TypeId} {xs : List Value} (h : Rw w base v cs) (hP : Own w P t xs) (h1 : t ≠ 41) (h2 : t ≠ 74) (j : Nat) (x : Value) : Rw (w.setCell ⟨P, j, none⟩ x) base v cs := by
  have hv := h.ne hP h1
  refine ⟨?_, fun p hp => ?_⟩
  · obtain ⟨⟨q1, ⟨q2, q3⟩ | ⟨g, cap, cur, q4, hg', hh, q5⟩⟩, _⟩ := h
    · exact ⟨q1, .inl ⟨q2, q3⟩⟩
    · exact ⟨q1, .inr ⟨g, cap, cur, q4, hg', (heap_setCell_other w ⟨P, j, none⟩ g x (fun e => hv (by rw [q4]; show some g = some P; rw [e]))).trans hh, q5⟩⟩
  · have hq := h.2 p hp
    exact hq.setOther _ _ (fun b hb e => by simp only at e; exact res_ne hq hP h2 (by rw [hb, e]))
end Cm
theorem addr_add0 (b j : Nat) : (⟨b, 0, none⟩ : Addr).add j = ⟨b, j, none⟩ := by unfold Addr.add; split <;> simp_all
namespace Pe
/-- The model's answer so far: instructions ahead of i that stay, and the places told. -/
structure Ps (l : List Ic) (rg : Int) (w3 w : World) (ob pb i k : Nat) (v : Value) (cs : List (Ic × Value)) (xs : List Int) : Prop where
  own : Own w ob 26 [.int .i64 0, .int .i64 0, v, .int .i64 rg]
  row : Cm.Rw w (ob + 2) v cs
  eq : cs.map Prod.fst = Ic.raw l i
  nd : (Cm.bls cs).Nodup
  pl : Iw w pb xs
  pe : pb = ob + 1
  ln : xs.length = l.length
  told : ∀ j, j < k → xs.getD j (-1) = ((Ic.kept l j).length : Int)
  bel : Below ob w3 w
theorem Ps.len {l : List Ic} {rg : Int} {w3 w : World} {ob pb i k : Nat} {v : Value} {cs : List (Ic × Value)} {xs : List Int} (h : Ps l rg w3 w ob pb i k v cs xs) : cs.length = (Ic.kept l i).length := by
  have := congrArg List.length h.eq
  rw [Ic.raw_len] at this
  simpa using this
theorem Ps.slice {l : List Ic} {rg : Int} {w3 w : World} {ob pb i k : Nat} {v : Value} {cs : List (Ic × Value)} {xs : List Int} (h : Ps l rg w3 w ob pb i k v cs xs) : ∃ a c, v = .slice a (Ic.kept l i).length c := by
  obtain ⟨a, c, e⟩ := h.row.slice
  exact ⟨a, c, by rw [e, h.len]⟩
theorem Ps.lt {l : List Ic} {rg : Int} {w3 w : World} {ob pb i k : Nat} {v : Value} {cs : List (Ic × Value)} {xs : List Int} (h : Ps l rg w3 w ob pb i k v cs xs) : ob + 2 ≤ w.heap.size := by
  have := Own.lt h.pl
  have := h.pe
  omega
theorem Ps.below {l : List Ic} {rg : Int} {w3 w w' : World} {ob pb i k : Nat} {v : Value} {cs : List (Ic × Value)} {xs : List Int} (h : Ps l rg w3 w ob pb i k v cs xs) (hb : Below w.heap.size w w') : Ps l rg w3 w' ob pb i k v cs xs :=
  ⟨h.own.below hb h.own.lt, h.row.below hb, h.eq, h.nd, h.pl.keep (hb.block pb (Own.lt h.pl)), h.pe, h.ln, h.told, h.bel.trans (hb.mono (by have := h.lt; omega))⟩
/-- A place is told. -/
theorem Ps.place {l : List Ic} {rg : Int} {w3 w : World} {ob pb i k : Nat} {v : Value} {cs : List (Ic × Value)} {xs : List Int} (h : Ps l rg w3 w ob pb i k v cs xs) (hk : k < l.length) : Ps l rg w3 (w.setCell ⟨pb, k, none⟩ (.int .i64 ((Ic.kept l k).length : Int))) ob pb i (k + 1) v cs (xs.set k ((Ic.kept l k).length : Int)) := by
  have hp := h.pe
  refine ⟨h.own.setOther _ _ (fun e => by simp only at e; omega), h.row.setOther h.pl (by decide) (by decide) _ _, h.eq, h.nd, h.pl.set k _, h.pe, by rw [List.length_set]; exact h.ln, fun j hj => ?_, h.bel.setCell (by show ob ≤ pb; omega) _⟩
  rw [List.getD_eq_getElem?_getD, List.getElem?_set]
  split
  · rename_i e
    subst e
    rw [if_pos (by rw [h.ln]; exact hk)]
    rfl
  · rename_i e
    have := h.told j (by omega)
    rwa [List.getD_eq_getElem?_getD] at this
/-- An instruction that stays is laid, and the list stored. -/
theorem Ps.push {l : List Ic} {rg : Int} {w3 w wA : World} {ob pb i k : Nat} {v v' x : Value} {cs : List (Ic × Value)} {xs : List Int} (h : Ps l rg w3 w ob pb i k v cs xs) (hs : Ic.snd l i = false) (hpr : Ic.pairAt l i = false)
    (ho : wA.ownsRow (ob + 2) 41 3 v' (cs.length + 1) (Cm.flat cs ++ Cm.inV (l.getD i Ic.zero) x)) (hg : w.grownBy wA v.ownBlock) (hx : Res w (ob + 2) x (l.getD i Ic.zero).val) (hfr : ∀ b, x.ownBlock = some b → b ∉ Cm.bls cs) :
    Own wA ob 26 [.int .i64 0, .int .i64 0, v, .int .i64 rg] ∧ Ps l rg w3 (wA.setCell ⟨ob, 2, none⟩ v') ob pb (i + 1) k v' (cs ++ [(l.getD i Ic.zero, x)]) xs := by
  have hp := h.pe
  have hbs : ∀ b, v.ownBlock = some b → ob + 2 ≤ b := fun b hb => (h.row.typed hb).1
  have hl := h.lt
  have b1 : Below (ob + 2) w wA := (Below.refl (ob + 2) w).grown hg (by omega) (fun b hb => hbs b hb)
  have oA : Own wA ob 26 [.int .i64 0, .int .i64 0, v, .int .i64 rg] := h.own.below b1 (by omega)
  have pA : Iw wA pb xs := h.pl.keep (b1.block pb (by omega))
  refine ⟨oA, ⟨oA.set 2 v', (h.row.push ho hg hx).setOther oA (by decide) (by decide) _ _, ?_, ?_, ?_, hp, h.ln, h.told, (h.bel.trans (b1.mono (by omega))).setCell (Nat.le_refl _) _⟩⟩
  · rw [List.map_append, h.eq, Ic.raw_one hs hpr]; rfl
  · rw [Cm.bls_append, Cm.bls_one]; exact Cm.nodup_snoc h.nd hfr
  · exact pA.keep (heap_setCell_other wA ⟨ob, 2, none⟩ pb v' (by simp only; omega))
theorem Ps.skip {l : List Ic} {rg : Int} {w3 w : World} {ob pb i k : Nat} {v : Value} {cs : List (Ic × Value)} {xs : List Int} (h : Ps l rg w3 w ob pb i k v cs xs) (hs : Ic.snd l i = false) (hpr : Ic.pairAt l i = true) : Ps l rg w3 w ob pb (i + 2) k v cs xs :=
  ⟨h.own, h.row, by rw [Ic.raw_pair hs hpr]; exact h.eq, h.nd, h.pl, h.pe, h.ln, h.told, h.bel⟩
/-- Args that are told anew: those of the first k. -/
structure Pt (l : List Ic) (rg : Int) (w3 w : World) (ob pb k : Nat) (v : Value) (cs : List (Ic × Value)) (xs : List Int) : Prop where
  own : Own w ob 26 [.int .i64 0, .int .i64 0, v, .int .i64 rg]
  row : Cm.Rw w (ob + 2) v cs
  len : cs.length = (Ic.raw l l.length).length
  eq : ∀ j, j < cs.length → (cs[j]?).map Prod.fst = some (if j < k then Ic.told l ((Ic.raw l l.length).getD j Ic.zero) else (Ic.raw l l.length).getD j Ic.zero)
  nd : (Cm.bls cs).Nodup
  pl : Iw w pb xs
  pe : pb = ob + 1
  ln : xs.length = l.length
  told : ∀ j, j < l.length → xs.getD j (-1) = ((Ic.kept l j).length : Int)
  bel : Below ob w3 w
theorem Ps.turn {l : List Ic} {rg : Int} {w3 w : World} {ob pb : Nat} {v : Value} {cs : List (Ic × Value)} {xs : List Int} (h : Ps l rg w3 w ob pb l.length l.length v cs xs) : Pt l rg w3 w ob pb 0 v cs xs := by
  refine ⟨h.own, h.row, by rw [← h.eq, List.length_map], fun j hj => ?_, h.nd, h.pl, h.pe, h.ln, h.told, h.bel⟩
  rw [if_neg (by omega), ← h.eq, ← List.getElem?_map, List.getD_eq_getElem?_getD, List.getElem?_map, List.getElem?_eq_getElem hj]
  rfl
theorem Pt.same {l : List Ic} {rg : Int} {w3 w : World} {ob pb k : Nat} {v : Value} {cs : List (Ic × Value)} {xs : List Int} (h : Pt l rg w3 w ob pb k v cs xs) (hk : k < cs.length) (hj : Ic.jumps ((Ic.raw l l.length).getD k Ic.zero).op = false) : Pt l rg w3 w ob pb (k + 1) v cs xs := by
  refine ⟨h.own, h.row, h.len, fun j hjl => ?_, h.nd, h.pl, h.pe, h.ln, h.told, h.bel⟩
  rw [h.eq j hjl]
  by_cases e : j = k
  · subst e
    rw [if_neg (by omega), if_pos (by omega)]
    unfold Ic.told
    rw [hj]; rfl
  · by_cases c : j < k
    · rw [if_pos c, if_pos (by omega)]
    · rw [if_neg c, if_neg (by omega)]
/-- The instruction at k, where it lies, and its Arg set anew. -/
theorem Pt.at {l : List Ic} {rg : Int} {w3 w : World} {ob pb k : Nat} {v : Value} {cs : List (Ic × Value)} {xs : List Int} (h : Pt l rg w3 w ob pb k v cs xs) (hk : k < cs.length) :
    ∃ g cap : Nat, v = .slice (some ⟨g, 0, none⟩) cs.length cap ∧ w.cell? ⟨g, k * 3, none⟩ = some (.int .i64 ((Ic.raw l l.length).getD k Ic.zero).op) ∧ w.cell? ⟨g, k * 3 + 1, none⟩ = some (.int .i64 ((Ic.raw l l.length).getD k Ic.zero).arg) ∧ w.frozen? ⟨g, k * 3 + 1, none⟩ = false ∧
      (Ic.jumps ((Ic.raw l l.length).getD k Ic.zero).op = true → ∃ cs', cs'.length = cs.length ∧ Pt l rg w3 (w.setCell ⟨g, k * 3 + 1, none⟩ (.int .i64 ((Ic.kept l ((Ic.raw l l.length).getD k Ic.zero).arg.toNat).length : Int))) ob pb (k + 1) v cs' xs) := by
  have hc : (cs[k]).1 = (Ic.raw l l.length).getD k Ic.zero := by
    have := h.eq k hk
    rw [if_neg (by omega), List.getElem?_eq_getElem hk] at this
    simpa using this
  obtain ⟨g, cap, ys, h1, h2, h3, h4, h5, h6⟩ := h.row.at hk
  have hp := h.pe
  have h50 := h5 0 (by omega)
  rw [Nat.add_zero] at h50
  have a0 := (h4.cell (k * 3)).trans h50
  have a1 := (h4.cell (k * 3 + 1)).trans (h5 1 (by omega))
  simp only [Cm.inV, List.getElem?_cons_zero, List.getElem?_cons_succ] at a0 a1
  rw [hc] at a0 a1
  refine ⟨g, cap, h1, a0, a1, h4.frozen _, fun hj => ⟨_, by rw [List.length_set], ⟨h.own.setOther _ _ (fun e => by simp only at e; omega), h6 _, by rw [List.length_set]; exact h.len, fun j hjl => ?_, ?_, ?_, hp, h.ln, h.told, h.bel.setCell (by show ob ≤ g; omega) _⟩⟩⟩
  · rw [List.length_set] at hjl
    rw [List.getElem?_set]
    split
    · rename_i e
      subst e
      rw [if_pos (by omega)]
      simp only [Option.map_some, Option.some.injEq]
      unfold Ic.told
      rw [hj, hc]; rfl
    · rename_i e
      rw [h.eq j hjl]
      by_cases c : j < k
      · rw [if_pos c, if_pos (by omega)]
      · rw [if_neg c, if_neg (by omega)]
  · rw [Cm.bls_set _ _ hk]; exact h.nd
  · refine h.pl.keep (heap_setCell_other w ⟨g, k * 3 + 1, none⟩ pb _ (by simp only; omega))
theorem Pt.lt {l : List Ic} {rg : Int} {w3 w : World} {ob pb k : Nat} {v : Value} {cs : List (Ic × Value)} {xs : List Int} (h : Pt l rg w3 w ob pb k v cs xs) : ob + 2 ≤ w.heap.size := by
  have := Own.lt h.pl
  have := h.pe
  omega
theorem Pt.below {l : List Ic} {rg : Int} {w3 w w' : World} {ob pb k : Nat} {v : Value} {cs : List (Ic × Value)} {xs : List Int} (h : Pt l rg w3 w ob pb k v cs xs) (hb : Below w.heap.size w w') : Pt l rg w3 w' ob pb k v cs xs :=
  ⟨h.own.below hb h.own.lt, h.row.below hb, h.len, h.eq, h.nd, h.pl.keep (hb.block pb (Own.lt h.pl)), h.pe, h.ln, h.told, h.bel.trans (hb.mono (by have := h.lt; omega))⟩
theorem Pt.done {l : List Ic} {rg : Int} {w3 w : World} {ob pb k : Nat} {v : Value} {cs : List (Ic × Value)} {xs : List Int} (h : Pt l rg w3 w ob pb k v cs xs) (hk : cs.length ≤ k) : cs.map Prod.fst = Ic.peeped l := by
  apply List.ext_getElem?
  intro j
  by_cases hj : j < cs.length
  · rw [List.getElem?_map, h.eq j hj, if_pos (by omega)]
    unfold Ic.peeped
    rw [List.getElem?_map, List.getD_eq_getElem?_getD, List.getElem?_eq_getElem (by rw [← h.len]; exact hj)]
    rfl
  · rw [List.getElem?_eq_none (by simpa using hj), List.getElem?_eq_none (by unfold Ic.peeped; rw [List.length_map, ← h.len]; omega)]
end Pe
end Go.Proofs.YtgjbibkppofjfaaDoor

namespace Go.Proofs.YtgjbibkppofjfaaDoor
open Go.RowKit
set_option linter.unusedVariables false
set_option linter.unusedSimpArgs false


set_option maxHeartbeats 1000000 in
theorem cmpNaN_i (x : Int) (w : World) : Calls Tryd.prog 53 #[.int .i64 x] w fun e w' => e = .returned (.bool false) ∧ w' = w := by
  go_enter Tryd.func53, Tryd.ntmps53
  go_wp2_with fail
  go_ret
  exact ⟨by simp, rfl⟩
set_option maxHeartbeats 1000000 in
theorem slNaN_i (x : Int) (w : World) : Calls Tryd.prog 37 #[.int .i64 x] w fun e w' => e = .returned (.bool false) ∧ w' = w := by
  go_enter Tryd.func37, Tryd.ntmps37
  go_wp2_with fail
  go_ret
  exact ⟨by simp, rfl⟩
set_option maxHeartbeats 1000000 in
theorem cmpLess_i (x y : Int) (w : World) : Calls Tryd.prog 36 #[.int .i64 x, .int .i64 y] w fun e w' => e = .returned (.bool (decide (x < y))) ∧ w' = w := by
  go_enter Tryd.func36, Tryd.ntmps36
  go_wp2_with fail
  refine (cmpNaN_i _ _).mono ?_
  rintro e w' ⟨rfl, hw'⟩
  rw [hw']
  clear hw'
  go_wp2_with fail
  go_ret
  exact ⟨rfl, rfl⟩
namespace Bs
/-- p is how many are below x. -/
def Pos (xs : List Int) (x : Int) (p : Nat) : Prop := p ≤ xs.length ∧ (∀ i, i < p → xs.getD i 0 < x) ∧ ∀ i, p ≤ i → i < xs.length → x ≤ xs.getD i 0
theorem rises {xs : List Int} (h : xs.Pairwise (· < ·)) : ∀ a b, a < b → b < xs.length → xs.getD a 0 < xs.getD b 0 := fun a b h1 h2 => by
  have := List.pairwise_iff_getElem.1 h a b (by omega) h2 h1
  rw [List.getD_eq_getElem?_getD, List.getD_eq_getElem?_getD, List.getElem?_eq_getElem (by omega), List.getElem?_eq_getElem h2]
  exact this
def Said (xs : List Int) (x : Int) (w : World) (e : Ending) (w' : World) : Prop := w' = w ∧ ∃ p : Nat, Pos xs x p ∧ e = .returned (.tuple #[.int .i64 (p : Int), .bool (decide (p < xs.length ∧ xs.getD p 0 = x))])
end Bs
set_option maxRecDepth 100000 in
set_option maxHeartbeats 4000000 in
theorem bs_some (g cap : Nat) (xs : List Int) (x : Int) (w : World) (hc : ∀ i, i < xs.length → w.cell? ⟨g, i, none⟩ = some (.int .i64 (xs.getD i 0))) (hn : xs.length ≤ 1048576) (hp : xs.Pairwise (· < ·)) :
    Calls Tryd.prog 22 #[.slice (some ⟨g, 0, none⟩) xs.length cap, .int .i64 x] w (Bs.Said xs x w) := by
  have HC := hide hc
  have S := hide (Bs.rises hp)
  have HF := hide (fun (p : Nat) (q : Bool) (h : Bs.Pos xs x p) (hq : q = decide (p < xs.length ∧ xs.getD p 0 = x)) => show Bs.Said xs x w (.returned (.tuple #[.int .i64 (p : Int), .bool q])) w from ⟨rfl, p, h, by rw [hq]⟩)
  clear hc hp
  obtain ⟨n, hnn⟩ : ∃ n, n = xs.length := ⟨_, rfl⟩
  rw [← hnn] at hn ⊢
  have HN := hide hnn
  clear hnn
  go_enter Tryd.func22, Tryd.ntmps22
  go_wp2_with fail
  go_loopg [7, 8] n (fun gh s7 s8 wr => ∃ lo hi : Nat, s7 = .int .i64 (lo : Int) ∧ s8 = .int .i64 (hi : Int) ∧ lo ≤ hi ∧ hi ≤ n ∧ hi - lo ≤ gh ∧ wr = w ∧ Hid ((∀ t, t < lo → xs.getD t 0 < x) ∧ (∀ t, hi ≤ t → t < n → x ≤ xs.getD t 0)))
  case atStart => exact ⟨0, n, rfl, rfl, Nat.zero_le _, Nat.le_refl _, by omega, rfl, ⟨fun t ht => absurd ht (Nat.not_lt_zero _), fun t h1 h2 => by omega⟩⟩
  case round =>
    obtain ⟨lo, hi, rfl, rfl, hlh, hin, hg, rfl, I⟩ := hrel
    by_cases hlt : lo < hi
    · have cm := (unhide HC) ((lo + hi) / 2) (by rw [← unhide HN]; omega)
      generalize hy : xs.getD ((lo + hi) / 2) 0 = y at cm
      have Y := hide hy
      clear hy
      go_wp2_with fail
      refine (cmpLess_i _ _ _).mono ?_
      rintro e w' ⟨rfl, hw'⟩
      rw [hw']
      clear hw'
      by_cases hyx : y < x
      · go_wp2_with fail
        go_roundg (hi - ((lo + hi) / 2 + 1))
        case measure => omega
        case rel =>
          refine ⟨(lo + hi) / 2 + 1, hi, by rw [show ((lo : Int) + (hi : Int)) / 2 + 1 = (((lo + hi) / 2 + 1 : Nat) : Int) by omega], rfl, by omega, hin, Nat.le_refl _, rfl, ⟨fun t ht => ?_, I.out.2⟩⟩
          by_cases e : t = (lo + hi) / 2
          · rw [e, unhide Y]; exact hyx
          · have := (unhide S) t ((lo + hi) / 2) (by omega) (by rw [← unhide HN]; omega)
            rw [unhide Y] at this
            omega
      · go_wp2_with fail
        go_roundg ((lo + hi) / 2 - lo)
        case measure => omega
        case rel =>
          refine ⟨lo, (lo + hi) / 2, rfl, by rw [show ((lo : Int) + (hi : Int)) / 2 = (((lo + hi) / 2 : Nat) : Int) by omega], by omega, by omega, Nat.le_refl _, rfl, ⟨I.out.1, fun t ht htn => ?_⟩⟩
          by_cases e : t = (lo + hi) / 2
          · rw [e, unhide Y]; omega
          · have := (unhide S) ((lo + hi) / 2) t (by omega) (by rw [← unhide HN]; omega)
            rw [unhide Y] at this
            omega
    · have : hi = lo := by omega
      subst this
      have P := hide (show Bs.Pos xs x hi from ⟨by rw [← unhide HN]; exact hin, I.out.1, fun i h1 h2 => I.out.2 i h1 (by rw [unhide HN]; exact h2)⟩)
      clear I
      by_cases hnl : hi < n
      · have cl := (unhide HC) hi (by rw [← unhide HN]; exact hnl)
        generalize hy : xs.getD hi 0 = y at cl
        have Y := hide hy
        clear hy
        by_cases hyx : y = x
        · go_wp2_with fail
          go_ret2
          exact (unhide HF) hi _ (unhide P) (by rw [unhide Y]; exact (decide_eq_true ⟨by rw [← unhide HN]; exact hnl, hyx⟩).symm)
        · have gx : (y == x) = false := by simpa using hyx
          go_wp2_with fail
          refine (slNaN_i _ _).mono ?_
          rintro e w' ⟨rfl, hw'⟩
          rw [hw']
          clear hw'
          go_wp2_with fail
          go_ret2
          exact (unhide HF) hi _ (unhide P) (by rw [unhide Y]; exact (decide_eq_false (fun h => hyx h.2)).symm)
      · go_wp2_with fail
        go_ret2
        exact (unhide HF) hi _ (unhide P) (decide_eq_false (fun h => hnl (by rw [unhide HN]; exact h.1))).symm
set_option maxRecDepth 100000 in
set_option maxHeartbeats 4000000 in
theorem bs_none (x : Int) (w : World) : Calls Tryd.prog 22 #[.slice none 0 0, .int .i64 x] w (Bs.Said [] x w) := by
  have FIN := hide (show Bs.Said [] x w (.returned (.tuple #[.int .i64 0, .bool false])) w from ⟨rfl, 0, ⟨Nat.le_refl _, fun i h => by omega, fun i _ h => by cases h⟩, rfl⟩)
  go_enter Tryd.func22, Tryd.ntmps22
  go_wp2_with fail
  go_loopg [7, 8] 0 (fun gh s7 s8 wr => s7 = .int .i64 0 ∧ s8 = .int .i64 0 ∧ wr = w)
  case atStart => exact ⟨rfl, rfl, rfl⟩
  case round =>
    obtain ⟨rfl, rfl, rfl⟩ := hrel
    go_wp2_with fail
    go_ret2
    exact unhide FIN
theorem bs_any {B : Nat} {s : Value} {xs : List Int} (x : Int) (w : World) (h : ResI w B s xs) (hp : xs.Pairwise (· < ·)) : Calls Tryd.prog 22 #[s, .int .i64 x] w (Bs.Said xs x w) := by
  obtain ⟨hn, ⟨h1, h2⟩ | ⟨b, cap, h1, h2, h3, h4⟩⟩ := h
  · subst h1; subst h2; exact bs_none x w
  · subst h1
    exact bs_some b cap xs x w (fun i hi => h4.cell hi) hn hp

end Go.Proofs.YtgjbibkppofjfaaDoor

namespace Go.Proofs.YtgjbibkppofjfaaDoor
open Go.RowKit
set_option linter.unusedVariables false
set_option linter.unusedSimpArgs false


set_option maxRecDepth 100000 in
set_option maxHeartbeats 4000000 in
theorem l10Target_any (p : Int) (b : Nat) (l : List Ic) (w : World) (hrow : Ic.Row w b l) (hn : l.length ≤ 1048576) :
    Calls Tryd.prog 15 #[.slice (some ⟨b, 0, none⟩) l.length l.length, .int .i64 p] w fun e w' => e = .returned (.bool (Ic.hit l p l.length)) ∧ w' = w := by
  have HR := hide hrow
  clear hrow
  go_enter Tryd.func15, Tryd.ntmps15
  go_wp2_with fail
  go_loopg [5] l.length (fun gh s5 wq => ∃ j : Nat, Hid (gh = l.length - j) ∧ s5 = .int .i64 (j : Int) ∧ j ≤ l.length ∧ Hid (Ic.hit l p j = false) ∧ wq = w)
  case atStart => exact ⟨0, rfl, rfl, by omega, rfl, rfl⟩
  case round =>
    obtain ⟨j, hgj, rfl, hj, hno, hwr⟩ := hrel
    subst wr
    by_cases hjl : j < l.length
    · have hjI : (j : Int) < (l.length : Int) := by omega
      obtain ⟨f0, f1, vg, f2, hvg, hvr⟩ := (unhide HR) j hjl
      have hh1 := hide (fun h1 h2 => Ic.hit_here (l := l) (p := p) (k := j) h1 h2)
      have hh2 := hide (fun h => Ic.hit_not (l := l) (p := p) (k := j) h)
      clear hvr f2 hvg
      generalize l.getD j Ic.zero = n at *
      obtain ⟨op, arg, nval⟩ := n
      dsimp only at *
      go_wp2_with fail
      refine (l8Jumps_any op _).mono ?_
      rintro e w4 ⟨rfl, hw4⟩
      rw [hw4]
      clear hw4
      cases hjp : Ic.jumps op with
      | false =>
        have hn2 := hide (show Ic.hit l p (j + 1) = false by rw [(unhide hh2) (fun q => by rw [q.1] at hjp; cases hjp)]; exact hno.out)
        clear hh1 hh2 hno
        go_wp2_with fail
        go_roundg (l.length - (j + 1))
        case rel => exact ⟨j + 1, rfl, by go_num, by omega, unhide hn2, rfl⟩
        case measure => have := hgj.out; omega
      | true =>
        by_cases hak : arg = p
        · have htg := hide (Ic.hit_mono ((unhide hh1) hjp hak) l.length (by omega))
          have gq : (arg == p) = true := by simpa using hak
          clear hh1 hh2 hno hak
          go_wp2_with fail
          go_ret
          exact ⟨by rw [unhide htg] <;> rfl, rfl⟩
        · have hn2 := hide (show Ic.hit l p (j + 1) = false by rw [(unhide hh2) (fun q => hak q.2)]; exact hno.out)
          have gq : (arg == p) = false := by simpa using hak
          clear hh1 hh2 hno hak
          go_wp2_with fail
          go_roundg (l.length - (j + 1))
          case rel => exact ⟨j + 1, rfl, by go_num, by omega, unhide hn2, rfl⟩
          case measure => have := hgj.out; omega
    · have hje : j = l.length := by omega
      have fin := hide (show Ic.hit l p l.length = false by rw [← hje]; exact hno.out)
      clear hje hno
      go_wp2_with fail
      go_ret
      exact ⟨by rw [unhide fin] <;> rfl, rfl⟩
set_option maxRecDepth 100000 in
set_option maxHeartbeats 4000000 in
theorem isPairAt_any (k : Nat) (b : Nat) (l : List Ic) (w : World) (hrow : Ic.Row w b l) (hk : k < l.length) (hn : l.length ≤ 1048576) :
    Calls Tryd.prog 33 #[.slice (some ⟨b, 0, none⟩) l.length l.length, .int .i64 (k : Int)] w fun e w' => e = .returned (.bool (Ic.ipa l k)) ∧ w' = w := by
  obtain ⟨f0, _, _, _⟩ := hrow k hk
  have hkI : (k : Int) < (l.length : Int) := by omega
  have hk0 : (0 : Int) ≤ (k : Int) := by omega
  by_cases he : k + 1 < l.length
  · obtain ⟨g0, _, _, _⟩ := hrow (k + 1) he
    have heI : (k : Int) + 1 < (l.length : Int) := by omega
    have gne : ((k : Int) + 1 == (l.length : Int)) = false := by rw [beq_eq_false_iff_ne]; omega
    have H0 := hide (fun h => Ic.ipa_next (l := l) (i := k) h)
    have H1 := hide (fun h => Ic.ipa_lays (l := l) (i := k) h)
    have H2 := hide (fun h h2 => Ic.ipa_yes (l := l) (i := k) h he h2)
    generalize Ic.ipa l k = R at *
    generalize (l.getD (k + 1) Ic.zero).op = op2 at *
    generalize (l.getD k Ic.zero).op = op at *
    clear hrow he
    by_cases h2 : op2 = 2
    · have g2 : (op2 != 2) = false := by simpa using h2
      by_cases a1 : op = 1
      · have fin := hide ((unhide H2) (by rw [a1]; rfl) h2)
        have e1 : (op == 1) = true := by simpa using a1
        clear h2 a1 H0 H1 H2
        go_enter Tryd.func33, Tryd.ntmps33
        go_wp2_with fail
        go_ret
        exact ⟨by rw [unhide fin] <;> rfl, rfl⟩
      · have e1 : (op == 1) = false := by simpa using a1
        by_cases a3 : op = 3
        · have fin := hide ((unhide H2) (by rw [a3]; rfl) h2)
          have e3 : (op == 3) = true := by simpa using a3
          clear h2 a1 a3 H0 H1 H2
          go_enter Tryd.func33, Tryd.ntmps33
          go_wp2_with fail
          go_ret
          exact ⟨by rw [unhide fin] <;> rfl, rfl⟩
        · have e3 : (op == 3) = false := by simpa using a3
          by_cases a7 : op = 17
          · have fin := hide ((unhide H2) (by rw [a7]; rfl) h2)
            have e7 : (op == 17) = true := by simpa using a7
            clear h2 a1 a3 a7 H0 H1 H2
            go_enter Tryd.func33, Tryd.ntmps33
            go_wp2_with fail
            go_ret
            exact ⟨by rw [unhide fin] <;> rfl, rfl⟩
          · have fin := hide ((unhide H1) (Ic.lays_not a1 a3 a7))
            have e7 : (op == 17) = false := by simpa using a7
            clear h2 a1 a3 a7 H0 H1 H2
            go_enter Tryd.func33, Tryd.ntmps33
            go_wp2_with fail
            go_ret
            exact ⟨by rw [unhide fin] <;> rfl, rfl⟩
    · have g2 : (op2 != 2) = true := by simpa using h2
      have fin := hide ((unhide H0) h2)
      clear h2 H0 H1 H2
      go_enter Tryd.func33, Tryd.ntmps33
      go_wp2_with fail
      go_ret
      exact ⟨by rw [unhide fin] <;> rfl, rfl⟩
  · have geq : ((k : Int) + 1 == (l.length : Int)) = true := by rw [beq_iff_eq]; omega
    have fin := hide (Ic.ipa_end (l := l) (i := k) he)
    clear hrow he f0
    go_enter Tryd.func33, Tryd.ntmps33
    go_wp2_with fail
    go_ret
    exact ⟨by rw [unhide fin] <;> rfl, rfl⟩
set_option maxRecDepth 100000 in
set_option maxHeartbeats 4000000 in
theorem newCells_any (g off cap : Nat) (l : List M.Cl) (w : World) (hrow : Row w g off l) (hg : g < w.heap.size) (hn : l.length ≤ 1048576) :
    Calls Tryd.prog 21 #[.slice (some ⟨g, off, none⟩) l.length cap] w fun e w' => ∃ x, e = .returned x ∧ Res w' w.heap.size x l ∧ Below w.heap.size w w' := by
  obtain ⟨i1, hi1, hy0, hy1, hy2⟩ := info_parts Tryd.info74
  have HN := hide (row_words hrow)
  have HO := hide (World.ownsRow_nil w w.heap.size 74 5)
  have HP := hide (flat_one l)
  have HL := hide (flat_length l)
  have hb63 : 0 + l.length ≤ maxLen := by unfold maxLen; omega
  have hby : (0 + l.length) * 56 ≤ 140737488355328 := by omega
  clear hrow
  go_enter Tryd.func21, Tryd.ntmps21
  go_wp2_with (at_builtin; refine wpList_append_own _ rfl (.const (.slice none 0 0)) (.tmp 3) 39 rfl w.heap.size 74 i1 _ 5 56 Tryd.underlying39 hi1 hy0 hy1 hy2 rfl (by decide) _ 0 [] rfl (unhide HO) ⟨g, off, none⟩ l.length cap (flat l) rfl (unhide HL) (unhide HN) (unhide HP) hb63 hby (Nat.le_refl _) ?_)
  intro x wA ho hgr _
  try rw [Nat.zero_add] at ho
  try rw [List.nil_append] at ho
  have BA : Below w.heap.size w wA := (Below.refl w.heap.size w).grown hgr (Nat.le_refl _) (fun k hk => by cases hk)
  have RA : Res wA w.heap.size x l := res_of_owns ho (by omega)
  obtain ⟨xa, xn, xc, rfl⟩ := RA.shape
  have FIN := hide (And.intro RA BA)
  clear ho hgr BA RA HN HO HP HL
  go_wp2_with fail
  go_ret
  exact ⟨_, rfl, (unhide FIN).1, (unhide FIN).2⟩

end Go.Proofs.YtgjbibkppofjfaaDoor
