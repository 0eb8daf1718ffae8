/-
  spec.l5Order: the nodes below one in their order, cut where there are too many.
-/
import Derived.Test.YtokcefcjkjhnbaaTreQ
namespace Go.Proofs.Ytokcefcjkjhnbaa
open Go.RowKit
set_option linter.unusedVariables false

namespace Tr
/-- The order so far, behind the first j that a node names. -/
def cutK (f : Nat) (l : List Nd) (n : Nd) (out : List Int) (j : Nat) : List Int := ((links n).take j).foldl (fun o x => if o.length ≤ l.length then cutF f l o x.toNat else o) out
theorem cutK_zero (f : Nat) (l : List Nd) (n : Nd) (out : List Int) : cutK f l n out 0 = out := rfl
theorem cutK_succ (f : Nat) (l : List Nd) (n : Nd) (out : List Int) (j : Nat) (hj : j < kids n.op) : cutK f l n out (j + 1) = if (cutK f l n out j).length ≤ l.length then cutF f l (cutK f l n out j) (kidAt n j).toNat else cutK f l n out j := by
  unfold cutK
  have h : j < (links n).length := by rw [links_length]; exact hj
  have e : (links n)[j] = kidAt n j := by
    have := links_getD n j hj
    rw [List.getD_eq_getElem?_getD, List.getElem?_eq_getElem h] at this
    exact this
  rw [List.take_succ_eq_append_getElem h, List.foldl_append, e]
  rfl
theorem cutK_stop (f : Nat) (l : List Nd) (n : Nd) (out : List Int) (j m : Nat) (hj : ¬ (cutK f l n out j).length ≤ l.length) (hm : j ≤ m) (hk : m ≤ kids n.op) : cutK f l n out m = cutK f l n out j := by
  induction m with
  | zero => have : j = 0 := by omega
            rw [this]
  | succ m ih =>
    by_cases e : j = m + 1
    · rw [e]
    · rw [cutK_succ f l n out m (by omega), ih (by omega) (by omega), if_neg hj]
theorem cutK_all (f : Nat) (l : List Nd) (out : List Int) (i : Nat) : cutF (f + 1) l out i = cutK f l (l.getD i Nd.zero) out (kids (l.getD i Nd.zero).op) ++ [(i : Int)] := by
  rw [cutF]
  unfold cutK
  rw [List.take_of_length_le (by rw [links_length]; exact Nat.le_refl _)]
theorem cutK_le (f : Nat) (l : List Nd) (n : Nd) (out : List Int) (m : Nat) (ho : out.length ≤ m + f) (hl : l.length ≤ m) (j : Nat) : (cutK f l n out j).length ≤ m + f := by
  have key : ∀ (ls out : List Int), out.length ≤ m + f → (ls.foldl (fun o x => if o.length ≤ l.length then cutF f l o x.toNat else o) out).length ≤ m + f := by
    intro ls
    induction ls with
    | nil => intro o h; exact h
    | cons x xs ih2 =>
      intro o h
      rw [List.foldl_cons]
      refine ih2 _ ?_
      split
      · rename_i h3; exact cutF_le f l o _ m (by omega) hl
      · exact h
  exact key _ out ho
/-- The blocks below a base are kept, and of the others that were there all but rows of numbers. -/
def Kp (B : Nat) (w w' : World) : Prop := Below B w w' ∧ ∀ b, b < w.heap.size → (∀ c fz, w.heap[b]? ≠ some (.cells c 2 fz)) → w'.heap[b]? = w.heap[b]?
theorem Kp.refl (B : Nat) (w : World) : Kp B w w := ⟨Below.refl _ _, fun _ _ _ => rfl⟩
theorem Kp.trans {B : Nat} {w w1 w2 : World} (h : Kp B w w1) (h' : Kp B w1 w2) : Kp B w w2 := by
  refine ⟨h.1.trans h'.1, fun b hb hn => ?_⟩
  have e := h.2 b hb hn
  rw [← e]
  refine h'.2 b (Nat.lt_of_lt_of_le hb h.1.size) ?_
  rw [e]; exact hn
theorem Kp.of_below {B : Nat} {w w' : World} (h : Below w.heap.size w w') (hB : B ≤ w.heap.size) : Kp B w w' := ⟨h.mono hB, fun b hb _ => h.block b hb⟩
theorem Kp.grown {B : Nat} {w w' : World} {v : Value} {n : Nat} {xs : List Value} (ho : w.ownsRow B 2 1 v n xs) (hg : w.grownBy w' v.ownBlock) (hB : B ≤ w.heap.size) : Kp B w w' := by
  refine ⟨(Below.refl _ _).grown hg hB (owns_base ho), fun b hb hn => ?_⟩
  refine hg.block b hb fun e => ?_
  obtain ⟨_, ⟨rfl, _⟩ | ⟨g, cap, cur, rfl, _, hh, _⟩⟩ := ho
  · simp [Value.ownBlock] at e
  · simp only [Value.ownBlock, Option.some.injEq] at e
    subst e
    exact hn _ _ hh
theorem Kp.own {B b : Nat} {w w' : World} {t : TypeId} {xs : List Value} (h : Kp B w w') (ho : Own w b t xs) (ht : t ≠ 2) : Own w' b t xs := by
  obtain ⟨c, hc, e⟩ := ho
  refine ⟨c, (h.2 b (Array.getElem?_eq_some_iff.1 hc).1 ?_).trans hc, e⟩
  intro c' fz hcc
  rw [hc] at hcc
  simp only [Option.some.injEq, Obj.cells.injEq] at hcc
  exact ht hcc.2.1
theorem owns_slice {w : World} {base : Nat} {e : TypeId} {size : Nat} {v : Value} {n : Nat} {xs : List Value} (h : w.ownsRow base e size v n xs) : ∃ a c, v = .slice a n c := by
  obtain ⟨_, ⟨rfl, rfl⟩ | ⟨g, cap, cur, rfl, _⟩⟩ := h
  · exact ⟨_, _, rfl⟩
  · exact ⟨_, _, rfl⟩
end Tr

/-- What l5Order of a node answers, where it may call itself f times deep. -/
def OrdSays (b B0 : Nat) (l : List Nd) (f : Nat) : Prop := ∀ (i : Nat) (out : List Int) (v : Value) (w : World), i < l.length → i < f → out.length ≤ 1000 - 2 * f → Nd.Row w b 0 l → b < B0 → B0 ≤ w.heap.size → w.ownsRow B0 2 1 v out.length (out.map (Value.int .i64)) →
    Calls Try.prog 67 #[.slice (some ⟨b, 0, none⟩) l.length l.length, .int .i64 i, v] w fun e w' => ∃ v', e = .returned v' ∧ w'.ownsRow B0 2 1 v' (Tr.cutF f l out i).length ((Tr.cutF f l out i).map (Value.int .i64)) ∧ Tr.Kp B0 w w'

set_option maxRecDepth 100000 in
set_option maxHeartbeats 2000000 in
theorem l5Order_step (b B0 : Nat) (l : List Nd) (f : Nat) (h200 : l.length ≤ 200) (hf : Tr.Fine l) (hop : ∀ i, i < l.length → 1 ≤ (l.getD i Nd.zero).op ∧ (l.getD i Nd.zero).op ≤ 24) (hf2 : f < 200) (ih : OrdSays b B0 l f) : OrdSays b B0 l (f + 1) := by
  intro i out v w hi hif hlen hrow hb hB hown
  have hiI : (i : Int) < (l.length : Int) := by omega
  have hopi := hop i hi
  obtain ⟨f0, f1, f2, f3, f4, f5⟩ := hrow i hi
  simp only [Nat.zero_add] at f0 f1 f2 f3 f4 f5
  have hkl := Tr.kids_le (l.getD i Nd.zero).op
  have hall := hide (Tr.cutK_all f l out i)
  have hfin := hide (fun j hj => Tr.kid_fine hf i hi j hj)
  have hsucc := hide (fun j hj => Tr.cutK_succ f l (l.getD i Nd.zero) out j hj)
  have hstop := hide (fun j h hm => Tr.cutK_stop f l (l.getD i Nd.zero) out j _ h hm (Nat.le_refl _))
  have hbd := hide (fun j => Tr.cutK_le f l (l.getD i Nd.zero) out (1000 - 2 * (f + 1)) (by omega) (by omega) j)
  have HR := hide hrow
  have HIH := hide ih
  have HK := hide (fun wq => l5Kids_any (l.getD i Nd.zero).op wq hopi.1 hopi.2)
  have HKD := hide (fun j hj wq => l5Kid_any (l.getD i Nd.zero) j hj wq)
  have hz := hide (Tr.cutK_zero f l (l.getD i Nd.zero) out)
  obtain ⟨i0, hi0, hz0, hz1, hz2⟩ := info_parts Tr.infoI
  clear hop hf hrow ih hopi
  generalize l.getD i Nd.zero = n at *
  obtain ⟨ks, hks⟩ : ∃ ks, ks = Tr.kids n.op := ⟨_, rfl⟩
  rw [← hks] at hkl hall hfin hsucc hstop HK
  clear hks
  obtain ⟨w1, hw1⟩ : ∃ w1, w1 = w.alloc (.cells #[.int .i64 n.op, .int .i64 n.a, .int .i64 n.b, .int .i64 n.c, .int .i64 n.num, .string n.text] 71) := ⟨_, rfl⟩
  have B1 : Below w.heap.size w w1 := by rw [hw1]; exact (Below.refl _ _).alloc (Nat.le_refl _) _
  have N1 : Own w1 w.heap.size 71 [.int .i64 n.op, .int .i64 n.a, .int .i64 n.b, .int .i64 n.c, .int .i64 n.num, .string n.text] := by rw [hw1]; exact ⟨_, heap_alloc_new _ _, rfl⟩
  have hown1 := Tr.owns_below hown B1
  obtain ⟨va, vc, hv⟩ := Tr.owns_slice hown
  have HO1 := hide hown1
  clear hown hown1
  subst hv
  go_enter Try.func67, Try.ntmps67
  go_wp2_with fail
  rw [← hw1]
  clear hw1 f0 f1 f2 f3 f4 f5
  go_loopg [2, 8] 4 (fun gh s2 s8 wr => ∃ (j : Nat) (L : List Int), Hid (gh = 4 - j) ∧ s8 = .int .i64 j ∧ j ≤ ks ∧ Hid (L = Tr.cutK f l n out j) ∧ wr.ownsRow B0 2 1 s2 L.length (L.map (Value.int .i64)) ∧ Tr.Kp B0 w1 wr ∧ Own wr w.heap.size 71 [.int .i64 n.op, .int .i64 n.a, .int .i64 n.b, .int .i64 n.c, .int .i64 n.num, .string n.text])
  case atStart => exact ⟨0, out, rfl, rfl, by omega, (unhide hz).symm, unhide HO1, Tr.Kp.refl _ _, N1⟩
  case round =>
    obtain ⟨j, L, hg, rfl, hj, hL, hown, hbel, hN⟩ := hrel
    obtain ⟨ua, uc, hu⟩ := Tr.owns_slice hown
    subst hu
    have K1 : Tr.Kp B0 w w1 := Tr.Kp.of_below B1 hB
    have KW := K1.trans hbel
    have hsz := KW.1.size
    have c0 := hN.cell 0
    have c1 := hN.cell 1
    have c2 := hN.cell 2
    have c3 := hN.cell 3
    have c4 := hN.cell 4
    have c5 := hN.cell 5
    simp only [List.getElem?_cons_zero, List.getElem?_cons_succ] at c0 c1 c2 c3 c4 c5
    have hLb : L.length ≤ 1000 := by rw [hL.out]; have := (unhide hbd) j; omega
    have HL := hide hown
    have hjI : (j : Int) ≤ (ks : Int) := by omega
    by_cases hgo : j < ks ∧ L.length ≤ l.length
    · obtain ⟨hjl, hll⟩ := hgo
      have g1 : (j : Int) < (ks : Int) := by omega
      have g2 : (L.length : Int) ≤ (l.length : Int) := by omega
      have hb1 := (unhide hfin) j hjl
      have hs1 := hide ((unhide hsucc) j hjl)
      obtain ⟨x, hx⟩ : ∃ x : Nat, Tr.kidAt n j = x := ⟨(Tr.kidAt n j).toNat, by omega⟩
      have HKJ := hide (fun wq => (unhide HKD) j (by omega) wq)
      rw [hx] at hb1 hs1 HKJ
      simp only [Int.toNat_natCast] at hs1
      have hxi : x < i := by omega
      clear hx hb1
      go_wp2_with fail
      refine ((unhide HK) _).mono ?_
      rintro e w2 ⟨rfl, hw2⟩
      subst w2
      go_wp2_with fail
      refine ((unhide HKJ) _).mono ?_
      rintro e w3 ⟨rfl, hb3⟩
      have K3 : Tr.Kp B0 wr w3 := Tr.Kp.of_below hb3 (by omega)
      have hN3 := K3.own hN (by decide)
      have KW3 := KW.trans K3
      clear c0 c1 c2 c3 c4 c5
      go_wp2_with fail
      refine ((unhide HIH) x L _ w3 (by omega) (by omega) (by omega) ((unhide HR).below KW3.1 hb) hb (by have := KW3.1.size; omega) (Tr.owns_below (unhide HL) hb3)).mono ?_
      rintro e w4 ⟨v4, rfl, ho4, k4⟩
      have hN4 := k4.own hN3 (by decide)
      have HO4 := hide ho4
      clear ho4
      go_wp2_with fail
      go_roundg (4 - (j + 1))
      case rel => exact ⟨j + 1, _, rfl, by go_num, by omega, by (show _ = _; rw [unhide hs1, ← hL.out, if_pos hll]), unhide HO4, hbel.trans (K3.trans k4), hN4⟩
      case measure => have := hg.out; omega
    · have hend : L = Tr.cutK f l n out ks := by
        by_cases hjl : j < ks
        · rw [hL.out]
          exact ((unhide hstop) j (by rw [← hL.out]; intro h; exact hgo ⟨hjl, h⟩) (by omega)).symm
        · rw [hL.out, show j = ks by omega]
      have hfinal : Hid (Tr.cutF (f + 1) l out i = L ++ [(i : Int)]) := (unhide hall).trans (by rw [hend])
      have hcond : (¬ (j : Int) < (ks : Int)) ∨ ((j : Int) < (ks : Int) ∧ ¬ (L.length : Int) ≤ (l.length : Int)) := by omega
      have hbse := hide (Tr.owns_base hown)
      have hown' := hide (fun o => hown.alloc o)
      have hone := hide (Tr.one_word wr (i : Int))
      have honep := hide (Tr.one_plain (i : Int))
      have hb63 : L.length + 1 ≤ maxLen := by unfold maxLen; omega
      have hby : (L.length + 1) * 8 ≤ 140737488355328 := by omega
      have hbase : B0 ≤ wr.heap.size + 1 := by omega
      clear hend hown hgo
      rcases hcond with g1 | ⟨g1, g2⟩
      · have g3 : decide ((j : Int) < (ks : Int)) = false := decide_eq_false g1
        go_wp2_with fail
        refine ((unhide HK) _).mono ?_
        rintro e w2 ⟨rfl, hw2⟩
        subst w2
        go_wp2_with (at_builtin; refine wpList_append_own_at _ rfl (.tmp 33) (.tmp 35) 45 rfl B0 2 i0 (.int .i64 0) 1 8 Try.underlying45 hi0 hz0 hz1 hz2 rfl (by decide) _ L.length _ rfl ((unhide hown') _) ⟨wr.heap.size, 0, none⟩ 1 1 [.int .i64 i] rfl rfl (unhide hone) (unhide honep) hb63 hby (by simpa using hbase) ?_)
        intro v' w3 ho3 hg3 _ _
        have K3 : Tr.Kp B0 w w3 := (KW.trans (Tr.Kp.of_below ((Below.refl _ _).alloc (Nat.le_refl _) _) (by omega))).trans (Tr.Kp.grown ((unhide hown') _) hg3 (by simpa using hbase))
        obtain ⟨xa, xc, hx⟩ := Tr.owns_slice ho3
        subst hx
        have HO3 := hide ho3
        clear ho3 hg3
        go_wp2_with fail
        go_ret
        refine ⟨_, rfl, ?_, K3⟩
        rw [hfinal.out, List.length_append, List.map_append]; exact unhide HO3
      · have g4 : decide ((L.length : Int) ≤ (l.length : Int)) = false := decide_eq_false g2
        go_wp2_with fail
        refine ((unhide HK) _).mono ?_
        rintro e w2 ⟨rfl, hw2⟩
        subst w2
        go_wp2_with (at_builtin; refine wpList_append_own_at _ rfl (.tmp 33) (.tmp 35) 45 rfl B0 2 i0 (.int .i64 0) 1 8 Try.underlying45 hi0 hz0 hz1 hz2 rfl (by decide) _ L.length _ rfl ((unhide hown') _) ⟨wr.heap.size, 0, none⟩ 1 1 [.int .i64 i] rfl rfl (unhide hone) (unhide honep) hb63 hby (by simpa using hbase) ?_)
        intro v' w3 ho3 hg3 _ _
        have K3 : Tr.Kp B0 w w3 := (KW.trans (Tr.Kp.of_below ((Below.refl _ _).alloc (Nat.le_refl _) _) (by omega))).trans (Tr.Kp.grown ((unhide hown') _) hg3 (by simpa using hbase))
        obtain ⟨xa, xc, hx⟩ := Tr.owns_slice ho3
        subst hx
        have HO3 := hide ho3
        clear ho3 hg3
        go_wp2_with fail
        go_ret
        refine ⟨_, rfl, ?_, K3⟩
        rw [hfinal.out, List.length_append, List.map_append]; exact unhide HO3

theorem l5Order_any (b B0 : Nat) (l : List Nd) (h200 : l.length ≤ 200) (hf : Tr.Fine l) (hop : ∀ i, i < l.length → 1 ≤ (l.getD i Nd.zero).op ∧ (l.getD i Nd.zero).op ≤ 24) (f : Nat) : f ≤ 200 → OrdSays b B0 l f := by
  induction f with
  | zero => intro _ i out v w hi hif; omega
  | succ f ih => intro h; exact l5Order_step b B0 l f h200 hf hop (by omega) (ih (by omega))

end Go.Proofs.Ytokcefcjkjhnbaa
