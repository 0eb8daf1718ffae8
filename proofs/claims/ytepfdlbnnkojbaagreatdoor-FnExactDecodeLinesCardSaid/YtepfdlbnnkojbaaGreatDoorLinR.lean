/-
  Answers that tell a code, a line and lists of cells; rows of parts, one more of them.
  spec.DecodeLines: what it answers.
  impl.DecodeLines: what it answers.
  An answer of a code, a line and lists of cells: what the laws' helpers find, mark and find again in it.
-/
import Derived.Test.YtepfdlbnnkojbaaGreatDoorLinI
import Derived.Test.YtepfdlbnnkojbaaGreatDoorEachM
import Derived.Test.YtepfdlbnnkojbaaGreatDoorBld
import Derived.Test.YtepfdlbnnkojbaaGreatDoorDecY
import Derived.Test.YtepfdlbnnkojbaaGreatDoorRedT
namespace Go.Proofs.YtepfdlbnnkojbaaGreatDoor
open Go.RowKit
set_option linter.unusedVariables false
set_option linter.unusedSimpArgs false


def AnsL (w : World) (out : Int × Int × List (List M.Cl)) (e : Ending) (w' : World) : Prop := ∃ sv, e = .returned (.agg #[.int .i64 out.1, .int .i64 out.2.1, sv]) ∧ PS w' w.heap.size w'.heap.size sv out.2.2 ∧ Below w.heap.size w w'
def AnsM (w : World) (out : Int × Int × List (List M.Cl)) (e : Ending) (w' : World) : Prop := ∃ sv, e = .returned (.agg #[.int .i64 out.1, .int .i64 out.2.1, sv]) ∧ PR w' w.heap.size w'.heap.size sv out.2.2 ∧ Below w.heap.size w w'
theorem ansl_of {w w' : World} {out : Int × Int × List (List M.Cl)} {c p : Int} {sv : Value} {l : List (List M.Cl)} (fin : out = (c, p, l)) (hr : PS w' w.heap.size w'.heap.size sv l) (hb : Below w.heap.size w w') : AnsL w out (.returned (.agg #[.int .i64 c, .int .i64 p, sv])) w' := by
  subst fin; exact ⟨sv, rfl, hr, hb⟩
theorem ansm_of {w w' : World} {out : Int × Int × List (List M.Cl)} {c p : Int} {sv : Value} {l : List (List M.Cl)} (fin : out = (c, p, l)) (hr : PR w' w.heap.size w'.heap.size sv l) (hb : Below w.heap.size w w') : AnsM w out (.returned (.agg #[.int .i64 c, .int .i64 p, sv])) w' := by
  subst fin; exact ⟨sv, rfl, hr, hb⟩
theorem PR.mono' {w : World} {lo hi lo' hi' : Nat} {v : Value} {ps : List (List M.Cl)} (h : PR w lo hi v ps) (h1 : lo' ≤ lo) (h2 : hi ≤ hi') : PR w lo' hi' v ps := by
  rcases h with h | ⟨g, cap, xs, β, γ, q1, q2, q3, q4, q5, q6, q7⟩
  · exact .inl h
  · exact .inr ⟨g, cap, xs, β, γ, q1, q2, by omega, by omega, q5, fun i hi => ⟨(q6 i hi).1, (q6 i hi).2.1, by have := (q6 i hi).2.2.1; omega, by have := (q6 i hi).2.2.2.1; omega, (q6 i hi).2.2.2.2⟩, q7⟩
theorem size_setCell3 (w : World) (p q r : Addr) (x y z : Value) : (((w.setCell p x).setCell q y).setCell r z).heap.size = w.heap.size := by simp
theorem heap_setCell3 (w : World) (b : Nat) (x y z : Value) (k : Nat) (hk : k ≠ b) : (((w.setCell ⟨b, 0, none⟩ x).setCell ⟨b, 1, none⟩ y).setCell ⟨b, 2, none⟩ z).heap[k]? = w.heap[k]? := ((heap_setCell_other _ ⟨b, 2, none⟩ k z hk).trans (heap_setCell_other _ ⟨b, 1, none⟩ k y hk)).trans (heap_setCell_other _ ⟨b, 0, none⟩ k x hk)
theorem ps_stored {w : World} {b lo : Nat} {sv : Value} {l : List (List M.Cl)} (hr : PS w lo w.heap.size sv l) (hb : b < lo) (x y z : Value) : PS (((w.setCell ⟨b, 0, none⟩ x).setCell ⟨b, 1, none⟩ y).setCell ⟨b, 2, none⟩ z) b (((w.setCell ⟨b, 0, none⟩ x).setCell ⟨b, 1, none⟩ y).setCell ⟨b, 2, none⟩ z).heap.size sv l := by
  rw [size_setCell3]
  exact (hr.keep fun k h1 _ _ => heap_setCell3 w b x y z k (by omega)).mono (by omega) (Nat.le_refl _)
theorem pr_stored {w : World} {b lo : Nat} {sv : Value} {l : List (List M.Cl)} (hr : PR w lo w.heap.size sv l) (hb : b < lo) (x y z : Value) : PR (((w.setCell ⟨b, 0, none⟩ x).setCell ⟨b, 1, none⟩ y).setCell ⟨b, 2, none⟩ z) b (((w.setCell ⟨b, 0, none⟩ x).setCell ⟨b, 1, none⟩ y).setCell ⟨b, 2, none⟩ z).heap.size sv l := by
  rw [size_setCell3]
  exact (hr.keep fun k h1 _ _ => heap_setCell3 w b x y z k (by omega)).mono' (by omega) (Nat.le_refl _)
theorem ss_set {w : World} {C b : Nat} {v : Value} {ps : List (List M.Cl)} (h : SS w C v ps) (hb : b < C) (j : Nat) (x : Value) : SS (w.setCell ⟨b, j, none⟩ x) C v ps := by
  obtain ⟨ss, hl, ho, hr⟩ := h
  have hk : ∀ k, k ≠ b → (w.setCell ⟨b, j, none⟩ x).heap[k]? = w.heap[k]? := fun k hk => heap_setCell_other _ ⟨b, j, none⟩ k x hk
  refine ⟨ss, hl, ?_, fun i hi => (hr i hi).setOther _ _ (fun g hg e => by have := (hr i hi).base g hg; simp only at e; omega)⟩
  obtain ⟨h0, h1 | ⟨g, cap, cur, h2, hg, hh, rest⟩⟩ := ho
  · exact ⟨h0, .inl h1⟩
  · exact ⟨h0, .inr ⟨g, cap, cur, h2, hg, (hk g (by omega)).trans hh, rest⟩⟩
/-- One part more, in memory of its own. -/
theorem sd_snoc {w2 w3 : World} {o : Obj} {B : Nat} {s v' sp : Value} {ps : List (List M.Cl)} {p : List M.Cl} {ss : List Value} (hl : ss.length = ps.length) (hown : w2.ownsRow B 22 1 s ps.length ss) (hres : ∀ i, i < ps.length → Res w2 B (ss.getD i (.slice none 0 0)) (ps.getD i [])) (hd : ∀ i j, i < j → j < ps.length → ∀ b, (ss.getD i (.slice none 0 0)).ownBlock = some b → (ss.getD j (.slice none 0 0)).ownBlock ≠ some b) (hp : Res w2 B sp p) (hf : ∀ i, i < ps.length → ∀ b, (ss.getD i (.slice none 0 0)).ownBlock = some b → sp.ownBlock ≠ some b) (hg : (w2.alloc o).grownBy w3 s.ownBlock) (ho : w3.ownsRow B 22 1 v' (ps.length + 1) (ss ++ [sp])) : SD w3 B v' (ps ++ [p]) := by
  have keep : ∀ (r : Value) (l : List M.Cl), Res w2 B r l → Res w3 B r l := fun r l h => grown_res (hown.alloc o) hg (h.alloc o) (by decide)
  have gL : ∀ i, i < ps.length → (ss ++ [sp]).getD i (.slice none 0 0) = ss.getD i (.slice none 0 0) := fun i e => by rw [List.getD_eq_getElem?_getD, List.getElem?_append_left (by omega), ← List.getD_eq_getElem?_getD]
  have gR : (ss ++ [sp]).getD ps.length (.slice none 0 0) = sp := by rw [List.getD_eq_getElem?_getD, List.getElem?_append_right (by omega), hl, Nat.sub_self]; rfl
  refine ⟨ss ++ [sp], by simp [hl], by simpa using ho, fun i hi => ?_, fun i j hij hj b hb => ?_⟩
  · rw [List.length_append] at hi
    simp only [List.length_cons, List.length_nil] at hi
    by_cases e : i < ps.length
    · rw [gL i e, List.getD_eq_getElem?_getD (l := ps ++ [p]), List.getElem?_append_left e, ← List.getD_eq_getElem?_getD]
      exact keep _ _ (hres i e)
    · obtain rfl : i = ps.length := by omega
      rw [gR, List.getD_eq_getElem?_getD (l := ps ++ [p]), List.getElem?_append_right (Nat.le_refl _), Nat.sub_self]
      exact keep _ _ hp
  · rw [List.length_append] at hj
    simp only [List.length_cons, List.length_nil] at hj
    have hi : i < ps.length := by omega
    rw [gL i hi] at hb
    by_cases e : j < ps.length
    · rw [gL j e]; exact hd i j hij e b hb
    · obtain rfl : j = ps.length := by omega
      rw [gR]; exact hf i hi b hb
theorem SD.nil (w : World) (B : Nat) : SD w B (.slice none 0 0) [] := ⟨[], rfl, World.ownsRow_nil _ _ _ _, fun i hi => by simp at hi, fun i j _ hj => by simp at hj⟩
theorem parts_ne {acc : List (List M.Cl)} (h : ∀ p ∈ acc, 1 ≤ p.length) : ∀ i, i < acc.length → acc.getD i [] ≠ [] := by
  intro i hi e
  have hm : acc.getD i [] ∈ acc := by rw [List.getD_eq_getElem?_getD, List.getElem?_eq_getElem hi]; exact List.getElem_mem hi
  have := h _ hm
  rw [e] at this
  simp at this
theorem acc_snoc {acc : List (List M.Cl)} {v : List M.Cl} (h : ∀ p ∈ acc, 1 ≤ p.length) (hv : 1 ≤ v.length) : ∀ p ∈ acc ++ [v], 1 ≤ p.length := by
  intro p hp
  rcases List.mem_append.1 hp with hp | hp
  · exact h p hp
  · rw [List.mem_singleton] at hp; subst hp; exact hv

end Go.Proofs.YtepfdlbnnkojbaaGreatDoor

namespace Go.Proofs.YtepfdlbnnkojbaaGreatDoor
open Go.RowKit
set_option linter.unusedVariables false
set_option linter.unusedSimpArgs false


/-- What the model's loop over lines holds: the struct in block T, the parts behind it. -/
structure Ld (ls : List ByteArray) (OUT : Int × Int × List (List M.Cl)) (w1 wr : World) (i : Nat) (acc : List (List M.Cl)) (sv : Value) : Prop where
  says : OUT = J.linesR (ls.drop i) i acc
  le : i ≤ ls.length
  len : acc.length ≤ i
  ne : ∀ p ∈ acc, 1 ≤ p.length
  bel : Below w1.heap.size w1 wr
  own : Own wr w1.heap.size 31 [.int .i64 0, .int .i64 0, sv]
  list : SS wr (w1.heap.size + 1) sv acc

set_option maxRecDepth 100000 in
set_option maxHeartbeats 8000000 in
theorem spec_DecodeLines (s : ByteArray) (w : World) (hs : s.size ≤ 1048576) : Calls Tryz.prog 10 #[.string s] w (AnsL w (J.linesOut s)) := by
  obtain ⟨w0, hw0⟩ : ∃ w0, w0 = w.alloc (.cells #[.int .i64 0, .int .i64 0, .slice none 0 0] 31) := ⟨_, rfl⟩
  have B0 : Below w.heap.size w w0 := by rw [hw0]; exact (Below.refl _ _).alloc (Nat.le_refl _) _
  have O0 : Own w0 w.heap.size 31 [.int .i64 0, .int .i64 0, .slice none 0 0] := by rw [hw0]; exact ⟨_, heap_alloc_new _ _, rfl⟩
  have HLN := hide (l2Lines_any s w0 hs)
  have HOUT := hide (show J.linesOut s = if 4000 < s.size ∨ 200 < (J.linesB s).length then (2, 0, []) else J.linesR (J.linesB s) 0 [] from rfl)
  have HSM := hide (J.lines_small s)
  obtain ⟨i0, hi0, hz0, hz1, hz2⟩ := info_parts Tryz.info22
  generalize J.linesOut s = OUT at *
  generalize J.linesB s = ls at *
  go_enter Tryz.func10, Tryz.ntmps10
  go_wp2_with fail
  try (rw [show (w.alloc (.cells #[.int .i64 0, .int .i64 0, .slice none 0 0] 31)) = w0 from hw0.symm])
  clear hw0
  refine (unhide HLN).mono ?_
  rintro e w1 ⟨v1, rfl, hk1, hb1⟩
  obtain ⟨a, c, rfl, hac, htv⟩ := hk1.tv
  have B1 : Below w.heap.size w w1 := B0.trans (hb1.mono B0.size)
  have O1 := O0.below hb1 O0.lt
  have hT := O1.lt
  clear HLN hk1 hb1 O0 B0
  by_cases hbig : 4000 < s.size
  · have fin := hide ((unhide HOUT).trans (if_pos (.inl hbig)))
    have hbz : (4000 : Int) < (s.size : Int) := by omega
    clear hbig
    have c0 := O1.cell 0
    have z0 := O1.frozen 0
    have c1 := O1.cell 1
    have z1 := O1.frozen 1
    have c2 := O1.cell 2
    have z2 := O1.frozen 2
    simp only [List.getElem?_cons_zero, List.getElem?_cons_succ] at c0 c1 c2
    go_wp2_with fail
    refine bodyPost_ret (v := .agg #[.int .i64 2, .int .i64 0, .slice none 0 0]) (by simp [results, Tryz.results10, go_sem, c0, c1, c2]; try rfl) rfl (ansl_of (unhide fin) (.inl ⟨rfl, rfl⟩) (sets3 B1 _ _ _))
  have hbz : ¬ (4000 : Int) < (s.size : Int) := by omega
  by_cases hmany : 200 < ls.length
  · have fin := hide ((unhide HOUT).trans (if_pos (.inr hmany)))
    have hmz : (200 : Int) < (ls.length : Int) := by omega
    clear hmany hbig
    have c0 := O1.cell 0
    have z0 := O1.frozen 0
    have c1 := O1.cell 1
    have z1 := O1.frozen 1
    have c2 := O1.cell 2
    have z2 := O1.frozen 2
    simp only [List.getElem?_cons_zero, List.getElem?_cons_succ] at c0 c1 c2
    go_wp2_with fail
    refine bodyPost_ret (v := .agg #[.int .i64 2, .int .i64 0, .slice none 0 0]) (by simp [results, Tryz.results10, go_sem, c0, c1, c2]; try rfl) rfl (ansl_of (unhide fin) (.inl ⟨rfl, rfl⟩) (sets3 B1 _ _ _))
  have hmz : ¬ (200 : Int) < (ls.length : Int) := by omega
  have HS0 := hide ((unhide HOUT).trans (if_neg (fun h => h.elim hbig hmany)))
  have HLI := hide (show ls.length ≤ 200 by omega)
  have H0 := hide (show Ld ls OUT w1 (w1.alloc (.cells #[.int .i64 0, .int .i64 0, .slice none 0 0] 31)) 0 [] (.slice none 0 0) from ⟨unhide HS0, Nat.zero_le _, Nat.le_refl _, fun p hp => by simp at hp, (Below.refl _ _).alloc (Nat.le_refl _) _, ⟨_, heap_alloc_new _ _, rfl⟩, SS.nil _ _⟩)
  have HTV := hide htv
  have HO1 := hide O1
  have HB1 := hide B1
  have hs4 : s.size ≤ 4000 := by omega
  clear hbig hmany HOUT HS0 htv O1 B1
  go_wp2_with fail
  go_loopg [5] ls.length (fun gh s5 wr => ∃ (i : Nat) (acc : List (List M.Cl)) (sv : Value), Hid (gh = ls.length - i) ∧ s5 = .int .i64 i ∧ i ≤ ls.length ∧ Hid (Ld ls OUT w1 wr i acc sv))
  case atStart => exact ⟨0, [], _, rfl, rfl, Nat.zero_le _, unhide H0⟩
  case round =>
    obtain ⟨i, acc, sv, hg, rfl, hil, HL⟩ := hrel
    clear H0
    have hbr := (unhide HL).bel
    have hszr := hbr.size
    have OR := (unhide HL).own
    have hR1 := (unhide HO1).below hbr hT
    have hBR : Below w.heap.size w wr := (unhide HB1).trans (hbr.mono (Nat.le_of_lt hT))
    have hlen := (unhide HL).len
    have hli := unhide HLI
    by_cases hlt : i < ls.length
    · have hltz : (i : Int) < (ls.length : Int) := by omega
      obtain ⟨g, rfl, hgl, hgc⟩ := ((unhide HTV).below hbr) i hlt
      have hts := (unhide HSM) (ls.getD i ByteArray.empty) (by rw [List.getD_eq_getElem?_getD, List.getElem?_eq_getElem hlt]; exact List.getElem_mem hlt)
      have HBAD := hide (fun h => (unhide HL).says.trans (J.linesR_bad hlt h))
      have HGO := hide (fun h => (unhide HL).says.trans (J.linesR_ok hlt h))
      have HDK := hide (fun h => J.decOut_ok (s := ls.getD i ByteArray.empty) h)
      have HDV := hide (fun w => spec_DecodeValue (ls.getD i ByteArray.empty) w (by omega))
      generalize ls.getD i ByteArray.empty = t at *
      generalize hD : J.decOut t = D at *
      obtain ⟨dc, dp, dv⟩ := D
      simp only at HBAD HGO HDK
      clear hD
      obtain ⟨sa, sn, sc, hshape⟩ : ∃ a n c, sv = .slice a n c := by
        obtain ⟨ss, _, ⟨_, ⟨rfl, _⟩ | ⟨g2, cap, cur, rfl, _⟩⟩, _⟩ := (unhide HL).list
        · exact ⟨_, _, _, rfl⟩
        · exact ⟨_, _, _, rfl⟩
      subst hshape
      have o2 : ∀ W, Below wr.heap.size wr W → ∀ o, (W.alloc o).cell? ⟨w1.heap.size, 2, none⟩ = some (.slice sa sn sc) := fun W hb o => ((OR.below hb OR.lt).alloc o).cell 2
      have HO2 := hide o2
      clear o2
      go_wp2_with fail
      refine ((unhide HDV) _).mono ?_
      rintro e w5 ⟨s5, rfl, hr5, hb5⟩
      have B5 : Below w.heap.size w w5 := hBR.trans (hb5.mono hBR.size)
      have O5 := hR1.below hb5 hR1.lt
      have OT5 := OR.below hb5 OR.lt
      have L5 := (unhide HL).list.below hb5
      have hbr5 : Below w1.heap.size w1 w5 := hbr.trans (hb5.mono hszr)
      have hsz5 := hb5.size
      have hr5' : Res w5 (w1.heap.size + 1) s5 dv := hr5.mono (by have := OR.lt; omega)
      obtain ⟨a5, n5, c5, rfl⟩ := hr5.shape
      clear HDV hgc hb5 hr5
      by_cases hdc : dc = 0
      · have hdb : (dc != 0) = false := by simp [hdc]
        have HS5 := hide ((unhide HGO) hdc)
        have hdv := ((unhide HDK) hdc).1
        obtain ⟨ss, hsl, hown, hres⟩ := L5
        have hown' := hide (fun o o' => (hown.alloc o).alloc o')
        have hbse := hide (ownsRow_base hown)
        have hone := hide (fun o => by have h := one_val (w5.alloc o) (.slice a5 n5 c5) 22; rw [World.size_alloc] at h; exact h)
        have honep := hide (one_plain' a5 n5 c5)
        have HSN := hide (fun (W : World) v' o o' (hg : ((w5.alloc o).alloc o').grownBy W (Value.slice sa sn sc).ownBlock) ho => SS.snoc (w2 := w5.alloc o) (w3 := W) (o := o') (v' := v') (k := acc.length) rfl hsl (hown.alloc o) (fun i hi => (hres i hi).alloc o) (hr5'.alloc o) hg ho)
        have HNE := hide (acc_snoc (unhide HL).ne hdv)
        have hb63 : acc.length + 1 ≤ maxLen := by unfold maxLen; omega
        have hby : (acc.length + 1) * 24 ≤ 140737488355328 := by omega
        have p2 : ∀ o, (w5.alloc o).cell? ⟨w1.heap.size, 2, none⟩ = some (.slice sa sn sc) := fun o => (OT5.alloc o).cell 2
        have hTr := OR.lt
        have HO7 := hide (fun (W : World) o o' (hg : ((w5.alloc o).alloc o').grownBy W (Value.slice sa sn sc).ownBlock) => grown_own hg ((OT5.alloc o).alloc o') (other_block ((hown.alloc o).alloc o') ((OT5.alloc o).alloc o') (by decide)))
        have HB7 := hide (fun (W : World) o o' (hg : ((w5.alloc o).alloc o').grownBy W (Value.slice sa sn sc).ownBlock) => ((hbr5.alloc hbr5.size o).alloc (Nat.le_trans hbr5.size (by simp)) o').grown hg (Nat.le_trans hbr5.size (by simp; omega)) (fun k hk => by have := (unhide hbse) k hk; omega))
        have hsz51 := hbr5.size
        clear hdc HBAD HGO HDK HL hown hres hsl hr5' OR HO2
        go_wp2_with (at_builtin; refine wpList_append_own _ rfl (.tmp 38) (.tmp 41) 29 rfl (w1.heap.size + 1) 22 i0 (.slice none 0 0) 1 24 Tryz.underlying29 hi0 hz0 hz1 hz2 rfl (by decide) _ acc.length ss rfl ((unhide hown') _ _) ⟨w5.heap.size + 1, 0, none⟩ 1 1 [.slice a5 n5 c5] rfl rfl ((unhide hone) _) (unhide honep) hb63 hby (by simp; omega) ?_)
        intro v7 w7 ho7 hg7 _
        obtain ⟨va, vn, vc, hv7⟩ : ∃ a n c, v7 = .slice a n c := by
          obtain ⟨_, ⟨h, _⟩ | ⟨g2, cap, cur, h, _⟩⟩ := ho7
          · exact ⟨_, _, _, h⟩
          · exact ⟨_, _, _, h⟩
        subst hv7
        have O7 := (unhide HO7) w7 _ _ hg7
        have B7 := (unhide HB7) w7 _ _ hg7
        have S7 := (unhide HSN) w7 _ _ _ hg7 ho7
        have f2 := O7.cell 2
        have y2 := O7.frozen 2
        simp only [List.getElem?_cons_zero, List.getElem?_cons_succ] at f2
        have H7 := hide (show Ld ls OUT w1 (w7.setCell ⟨w1.heap.size, 2, none⟩ (.slice va vn vc)) (i + 1) (acc ++ [dv]) (.slice va vn vc) from ⟨unhide HS5, by omega, by simp; omega, unhide HNE, B7.setCell (Nat.le_refl _) _, O7.set 2 _, ss_set S7 (Nat.lt_succ_self _) 2 _⟩)
        clear ho7 hg7 HSN HO7 HB7 hown' hone honep hbse O7 B7 S7 p2
        go_wp2_with fail
        go_roundg (ls.length - (i + 1))
        case rel => exact ⟨i + 1, _, _, rfl, by go_num, by omega, unhide H7⟩
        case measure => have := hg.out; omega
      · have hdb : (dc != 0) = true := by simpa using hdc
        have fin := hide ((unhide HBAD) hdc)
        have c0 : ∀ o, (w5.alloc o).cell? ⟨w.heap.size, 0, none⟩ = some (.int .i64 0) := fun o => (O5.alloc o).cell 0
        have z0 : ∀ o, (w5.alloc o).frozen? ⟨w.heap.size, 0, none⟩ = false := fun o => (O5.alloc o).frozen 0
        have c1 : ∀ o, (w5.alloc o).cell? ⟨w.heap.size, 1, none⟩ = some (.int .i64 0) := fun o => (O5.alloc o).cell 1
        have z1 : ∀ o, (w5.alloc o).frozen? ⟨w.heap.size, 1, none⟩ = false := fun o => (O5.alloc o).frozen 1
        have c2 : ∀ o, (w5.alloc o).cell? ⟨w.heap.size, 2, none⟩ = some (.slice none 0 0) := fun o => (O5.alloc o).cell 2
        have z2 : ∀ o, (w5.alloc o).frozen? ⟨w.heap.size, 2, none⟩ = false := fun o => (O5.alloc o).frozen 2
        have B6 := hide (fun o => B5.alloc B5.size o)
        clear hdc HBAD HGO HDK HL
        go_wp2_with fail
        refine bodyPost_ret (v := .agg #[.int .i64 dc, .int .i64 (i : Int), .slice none 0 0]) (by simp [results, Tryz.results10, go_sem, c0, c1, c2]; try rfl) rfl (ansl_of (unhide fin) (.inl ⟨rfl, rfl⟩) (sets3 ((unhide B6) _) _ _ _))
    · have hltz : ¬ (i : Int) < (ls.length : Int) := by omega
      have fin := hide ((unhide HL).says.trans (J.linesR_end (by omega)))
      have hps := ((unhide HL).list.ps (parts_ne (unhide HL).ne))
      obtain ⟨sa, sn, sc, hshape⟩ := hps.shape
      subst hshape
      have HPS := hide (fun x y z => ps_stored (b := w.heap.size) hps (by omega) x y z)
      have e0 := OR.cell 0
      have e1 := OR.cell 1
      have e2 := OR.cell 2
      simp only [List.getElem?_cons_zero, List.getElem?_cons_succ] at e0 e1 e2
      have c0 := hR1.cell 0
      have z0 := hR1.frozen 0
      have c1 := hR1.cell 1
      have z1 := hR1.frozen 1
      have c2 := hR1.cell 2
      have z2 := hR1.frozen 2
      simp only [List.getElem?_cons_zero, List.getElem?_cons_succ] at c0 c1 c2
      clear HL OR hps
      go_wp2_with fail
      refine bodyPost_ret (v := .agg #[.int .i64 0, .int .i64 0, .slice sa sn sc]) (by simp [results, Tryz.results10, go_sem, c0, c1, c2]; try rfl) rfl (ansl_of (unhide fin) ((unhide HPS) _ _ _) (sets3 hBR _ _ _))

end Go.Proofs.YtepfdlbnnkojbaaGreatDoor

namespace Go.Proofs.YtepfdlbnnkojbaaGreatDoor
open Go.RowKit
set_option linter.unusedVariables false
set_option linter.unusedSimpArgs false


/-- What the library's three variables hold. -/
structure Gl (w : World) : Prop where
  g : Gs w
  l : 1 < w.heap.size
  m : ∃ m : Int, w.cell? ⟨1, 0, none⟩ = some (.int .i64 m)
theorem Gl.below {w w' : World} (h : Gl w) (hb : Below w.heap.size w w') : Gl w' := by
  obtain ⟨m, hm⟩ := h.m
  exact ⟨h.g.below hb, Nat.lt_of_lt_of_le h.l hb.size, ⟨m, (hb.cell (p := ⟨1, 0, none⟩) h.l).trans hm⟩⟩
/-- What the program's loop over lines holds. -/
structure Lu (ls : List ByteArray) (OUT : Int × Int × List (List M.Cl)) (w1 wr : World) (i : Nat) (acc : List (List M.Cl)) (sv : Value) : Prop where
  says : OUT = J.linesR (ls.drop i) i acc
  le : i ≤ ls.length
  len : acc.length ≤ i
  ne : ∀ p ∈ acc, 1 ≤ p.length
  bel : Below w1.heap.size w1 wr
  list : SD wr w1.heap.size sv acc

set_option maxRecDepth 100000 in
set_option maxHeartbeats 8000000 in
theorem impl_DecodeLines (s : ByteArray) (w : World) (hs : s.size ≤ 1048576) (hG : Gl w) : Calls Tryz.prog 11 #[.string s] w (AnsM w (J.linesOut s)) := by
  by_cases hbig : 4000 < s.size
  · have fin := hide (show J.linesOut s = (2, 0, []) by unfold J.linesOut; rw [if_pos (.inl hbig)])
    have hbz : (4000 : Int) < (s.size : Int) := by omega
    clear hbig
    go_enter Tryz.func11, Tryz.ntmps11
    go_wp2_with fail
    refine bodyPost_ret (v := .agg #[.int .i64 2, .int .i64 0, .slice none 0 0]) (by simp [results, Tryz.results11, go_sem]; try rfl) rfl (ansm_of (unhide fin) (.inl ⟨rfl, rfl⟩) ((Below.refl _ _).alloc (Nat.le_refl _) _))
  have hbz : ¬ (4000 : Int) < (s.size : Int) := by omega
  obtain ⟨w0, hw0⟩ : ∃ w0, w0 = w.alloc (.cells #[.int .i64 0, .int .i64 0, .slice none 0 0] 31) := ⟨_, rfl⟩
  have B0 : Below w.heap.size w w0 := by rw [hw0]; exact (Below.refl _ _).alloc (Nat.le_refl _) _
  have O0 : Own w0 w.heap.size 31 [.int .i64 0, .int .i64 0, .slice none 0 0] := by rw [hw0]; exact ⟨_, heap_alloc_new _ _, rfl⟩
  have HGL := hide hG
  obtain ⟨mx, hmx⟩ := (hG.below B0).m
  have HLN := hide (linesOf_any s w0 hs mx hmx)
  have HOUT := hide (show J.linesOut s = if 4000 < s.size ∨ 200 < (J.linesB s).length then (2, 0, []) else J.linesR (J.linesB s) 0 [] from rfl)
  have HSM := hide (J.lines_small s)
  obtain ⟨i0, hi0, hz0, hz1, hz2⟩ := info_parts Tryz.info22
  generalize J.linesOut s = OUT at *
  generalize J.linesB s = ls at *
  clear hmx hG
  go_enter Tryz.func11, Tryz.ntmps11
  go_wp2_with fail
  try (rw [show (w.alloc (.cells #[.int .i64 0, .int .i64 0, .slice none 0 0] 31)) = w0 from hw0.symm])
  clear hw0
  refine (unhide HLN).mono ?_
  rintro e w1 ⟨a, c, rfl, hac, htv, hb1⟩
  have B1 : Below w.heap.size w w1 := B0.trans (hb1.mono B0.size)
  have O1 := O0.below hb1 O0.lt
  have hT := O1.lt
  clear HLN hb1 O0 B0
  by_cases hmany : 200 < ls.length
  · have fin := hide ((unhide HOUT).trans (if_pos (.inr hmany)))
    have hmz : (200 : Int) < (ls.length : Int) := by omega
    clear hmany hbig
    have c0 := O1.cell 0
    have z0 := O1.frozen 0
    have c1 := O1.cell 1
    have z1 := O1.frozen 1
    have c2 := O1.cell 2
    have z2 := O1.frozen 2
    simp only [List.getElem?_cons_zero, List.getElem?_cons_succ] at c0 c1 c2
    go_wp2_with fail
    refine bodyPost_ret (v := .agg #[.int .i64 2, .int .i64 0, .slice none 0 0]) (by simp [results, Tryz.results11, go_sem, c0, c1, c2]; try rfl) rfl (ansm_of (unhide fin) (.inl ⟨rfl, rfl⟩) (sets3 B1 _ _ _))
  have hmz : ¬ (200 : Int) < (ls.length : Int) := by omega
  have HS0 := hide ((unhide HOUT).trans (if_neg (fun h => h.elim hbig hmany)))
  have HLI := hide (show ls.length ≤ 200 by omega)
  have H0 := hide (show Lu ls OUT w1 w1 0 [] (.slice none 0 0) from ⟨unhide HS0, Nat.zero_le _, Nat.le_refl _, fun p hp => by simp at hp, Below.refl _ _, SD.nil _ _⟩)
  have HTV := hide htv
  have HO1 := hide O1
  have HB1 := hide B1
  have hs4 : s.size ≤ 4000 := by omega
  clear hbig hmany HOUT HS0 htv O1 B1
  go_wp2_with fail
  go_loopg [4, 20] ls.length (fun gh s4 s20 wr => ∃ (i : Nat) (acc : List (List M.Cl)), Hid (gh = ls.length - i) ∧ s20 = .int .i64 i ∧ i ≤ ls.length ∧ Hid (Lu ls OUT w1 wr i acc s4))
  case atStart => exact ⟨0, [], rfl, rfl, Nat.zero_le _, unhide H0⟩
  case round =>
    obtain ⟨i, acc, hg, rfl, hil, HL⟩ := hrel
    clear H0
    have hbr := (unhide HL).bel
    have hszr := hbr.size
    have hR1 := (unhide HO1).below hbr hT
    have hBR : Below w.heap.size w wr := (unhide HB1).trans (hbr.mono (Nat.le_of_lt hT))
    have hlen := (unhide HL).len
    have hli := unhide HLI
    by_cases hlt : i < ls.length
    · have hltz : (i : Int) < (ls.length : Int) := by omega
      obtain ⟨g, rfl, hgl, hgc⟩ := ((unhide HTV).below hbr) i hlt
      have hts := (unhide HSM) (ls.getD i ByteArray.empty) (by rw [List.getD_eq_getElem?_getD, List.getElem?_eq_getElem hlt]; exact List.getElem_mem hlt)
      have HBAD := hide (fun h => (unhide HL).says.trans (J.linesR_bad hlt h))
      have HGO := hide (fun h => (unhide HL).says.trans (J.linesR_ok hlt h))
      have HDK := hide (fun h => J.decOut_ok (s := ls.getD i ByteArray.empty) h)
      have HDV := hide (impl_DecodeValue (ls.getD i ByteArray.empty) wr (by omega) ((unhide HGL).below hBR).g)
      generalize ls.getD i ByteArray.empty = t at *
      generalize hD : J.decOut t = D at *
      obtain ⟨dc, dp, dv⟩ := D
      simp only at HBAD HGO HDK
      clear hD
      go_wp2_with fail
      refine (unhide HDV).mono ?_
      rintro e w5 ⟨s5, rfl, hr5, hb5⟩
      have B5 : Below w.heap.size w w5 := hBR.trans (hb5.mono hBR.size)
      have O5 := hR1.below hb5 hR1.lt
      have hbr5 : Below w1.heap.size w1 w5 := hbr.trans (hb5.mono hszr)
      have hsz5 := hb5.size
      have hr5' : Res w5 w1.heap.size s5 dv := hr5.mono hszr
      obtain ⟨a5, n5, c5, rfl⟩ := hr5.shape
      clear HDV hgc
      by_cases hdc : dc = 0
      · have hdb : (dc != 0) = false := by simp [hdc]
        have HS5 := hide ((unhide HGO) hdc)
        have hdv := ((unhide HDK) hdc).1
        obtain ⟨ss, hsl, hown0, hres0, hd⟩ := (unhide HL).list
        have hown := ownsRow_below (B := 0) hown0 hb5
        have hres := fun i hi => (hres0 i hi).below hb5
        have hf : ∀ i, i < acc.length → ∀ b, (ss.getD i (.slice none 0 0)).ownBlock = some b → (Value.slice a5 n5 c5).ownBlock ≠ some b := fun i hi b hb e => by
          have h1 := (hres0 i hi).lt b hb
          have h2 := hr5.base b e
          omega
        have hown' := hide (fun o o' => (hown.alloc o).alloc o')
        have hbse := hide (ownsRow_base hown)
        have hone := hide (fun o => by have h := one_val (w5.alloc o) (.slice a5 n5 c5) 22; rw [World.size_alloc] at h; exact h)
        have honep := hide (one_plain' a5 n5 c5)
        have HSN := hide (fun (W : World) v' o o' (hg : ((w5.alloc o).alloc o').grownBy W u4.ownBlock) ho => sd_snoc (w2 := w5.alloc o) (w3 := W) (o := o') (v' := v') hsl (hown.alloc o) (fun i hi => (hres i hi).alloc o) hd (hr5'.alloc o) hf hg ho)
        have HNE := hide (acc_snoc (unhide HL).ne hdv)
        have hb63 : acc.length + 1 ≤ maxLen := by unfold maxLen; omega
        have hby : (acc.length + 1) * 24 ≤ 140737488355328 := by omega
        have HB7 := hide (fun (W : World) o o' (hg : ((w5.alloc o).alloc o').grownBy W u4.ownBlock) => ((hbr5.alloc hbr5.size o).alloc (Nat.le_trans hbr5.size (by simp)) o').grown hg (Nat.le_trans hbr5.size (by simp; omega)) (unhide hbse))
        have hsz51 := hbr5.size
        clear hdc HBAD HGO HDK HL hown hres hsl hr5' hown0 hres0 hd hf hr5 hb5
        go_wp2_with (at_builtin; refine wpList_append_own _ rfl (.tmp 34) (.tmp 37) 29 rfl w1.heap.size 22 i0 (.slice none 0 0) 1 24 Tryz.underlying29 hi0 hz0 hz1 hz2 rfl (by decide) _ acc.length ss rfl ((unhide hown') _ _) ⟨w5.heap.size + 1, 0, none⟩ 1 1 [.slice a5 n5 c5] rfl rfl ((unhide hone) _) (unhide honep) hb63 hby (by simp; omega) ?_)
        intro v7 w7 ho7 hg7 _
        have B7 := (unhide HB7) w7 _ _ hg7
        have S7 := (unhide HSN) w7 v7 _ _ hg7 ho7
        have H7 := hide (show Lu ls OUT w1 w7 (i + 1) (acc ++ [dv]) v7 from ⟨unhide HS5, by omega, by simp; omega, unhide HNE, B7, S7⟩)
        clear ho7 hg7 HSN HB7 hown' hone honep hbse B7 S7
        go_wp2_with fail
        go_roundg (ls.length - (i + 1))
        case rel => exact ⟨i + 1, _, rfl, by go_num, by omega, unhide H7⟩
        case measure => have := hg.out; omega
      · have hdb : (dc != 0) = true := by simpa using hdc
        have fin := hide ((unhide HBAD) hdc)
        have c0 : ∀ o, (w5.alloc o).cell? ⟨w.heap.size, 0, none⟩ = some (.int .i64 0) := fun o => (O5.alloc o).cell 0
        have z0 : ∀ o, (w5.alloc o).frozen? ⟨w.heap.size, 0, none⟩ = false := fun o => (O5.alloc o).frozen 0
        have c1 : ∀ o, (w5.alloc o).cell? ⟨w.heap.size, 1, none⟩ = some (.int .i64 0) := fun o => (O5.alloc o).cell 1
        have z1 : ∀ o, (w5.alloc o).frozen? ⟨w.heap.size, 1, none⟩ = false := fun o => (O5.alloc o).frozen 1
        have c2 : ∀ o, (w5.alloc o).cell? ⟨w.heap.size, 2, none⟩ = some (.slice none 0 0) := fun o => (O5.alloc o).cell 2
        have z2 : ∀ o, (w5.alloc o).frozen? ⟨w.heap.size, 2, none⟩ = false := fun o => (O5.alloc o).frozen 2
        have B6 := hide (fun o => B5.alloc B5.size o)
        clear hdc HBAD HGO HDK HL hr5 hr5' hb5
        go_wp2_with fail
        refine bodyPost_ret (v := .agg #[.int .i64 dc, .int .i64 (i : Int), .slice none 0 0]) (by simp [results, Tryz.results11, go_sem, c0, c1, c2]; try rfl) rfl (ansm_of (unhide fin) (.inl ⟨rfl, rfl⟩) (sets3 ((unhide B6) _) _ _ _))
    · have hltz : ¬ (i : Int) < (ls.length : Int) := by omega
      have fin := hide ((unhide HL).says.trans (J.linesR_end (by omega)))
      have hps := ((unhide HL).list.pr (parts_ne (unhide HL).ne))
      obtain ⟨sa, sn, sc, hshape⟩ := hps.ps.shape
      subst hshape
      have HPS := hide (fun x y z => pr_stored (b := w.heap.size) hps (by omega) x y z)
      have c0 := hR1.cell 0
      have z0 := hR1.frozen 0
      have c1 := hR1.cell 1
      have z1 := hR1.frozen 1
      have c2 := hR1.cell 2
      have z2 := hR1.frozen 2
      simp only [List.getElem?_cons_zero, List.getElem?_cons_succ] at c0 c1 c2
      clear HL hps
      go_wp2_with fail
      refine bodyPost_ret (v := .agg #[.int .i64 0, .int .i64 0, .slice sa sn sc]) (by simp [results, Tryz.results11, go_sem, c0, c1, c2]; try rfl) rfl (ansm_of (unhide fin) ((unhide HPS) _ _ _) (sets3 hBR _ _ _))

end Go.Proofs.YtepfdlbnnkojbaaGreatDoor

namespace Go.Proofs.YtepfdlbnnkojbaaGreatDoor
open Go.RowKit
set_option linter.unusedVariables false
set_option linter.unusedSimpArgs false

set_option maxHeartbeats 1000000 in
theorem eqLinesResult_any (code at_ : Int) (s s' : Value) (lo hi lo' hi' : Nat) (l : List (List M.Cl)) (w : World) (h : PS w lo hi s l) (h' : PS w lo' hi' s' l) (hn : l.length ≤ 4096) (hln : ∀ i, i < l.length → (l.getD i []).length ≤ 1048576) :
    Calls Tryz.prog 12 #[.agg #[.int .i64 code, .int .i64 at_, s], .agg #[.int .i64 code, .int .i64 at_, s']] w fun e w' => e = .returned (.bool true) ∧ Below w.heap.size w w' := by
  have HB : ∀ o o', Below w.heap.size w ((w.alloc o).alloc o') := fun o o' => ((Below.refl _ _).alloc (Nat.le_refl _) _).alloc (by simp) _
  have H := hide (fun o o' => eqCellSS_ps s s' lo hi lo' hi' l ((w.alloc o).alloc o') ((h.alloc o).alloc o') ((h'.alloc o).alloc o') hn hln)
  obtain ⟨a, n, cap, rfl⟩ := h.shape
  obtain ⟨a', n', cap', rfl⟩ := h'.shape
  clear h h'
  have HB' := hide HB
  clear HB hln
  go_enter Tryz.func12, Tryz.ntmps12
  go_wp2_with fail
  refine ((unhide H) _ _).mono ?_
  rintro e w1 ⟨rfl, hb1⟩
  go_wp2_with fail
  go_ret
  exact ⟨rfl, ((unhide HB') _ _).trans (hb1.mono (by simp <;> omega))⟩

set_option maxHeartbeats 1000000 in
theorem markLinesResult_any (code at_ : Int) (s : Value) (lo hi : Nat) (l : List (List M.Cl)) (k : Int) (w : World) (h : PR w lo hi s l) (hn : l.length ≤ 4096) (hln : tot l l.length ≤ 1048576) (k0 : 0 ≤ k) (k1 : k ≤ 10000000000) :
    Calls Tryz.prog 13 #[.agg #[.int .i64 code, .int .i64 at_, s], .int .i64 k] w fun e w' => e = .returned (.int .i64 (k + 5 * (tot l l.length : Int))) ∧ PR w' lo hi s (mkAll l k) ∧ Out lo hi w w' := by
  have H := hide (fun o => markCellSS_pr s lo hi l k (w.alloc o) (h.alloc o) hn hln k0 k1)
  obtain ⟨a, n, cap, rfl⟩ := h.ps.shape
  clear h
  go_enter Tryz.func13, Tryz.ntmps13
  go_wp2_with fail
  refine ((unhide H) _).mono ?_
  rintro e w1 ⟨rfl, hr, hb⟩
  go_wp2_with fail
  go_ret
  exact ⟨rfl, hr, hb.alloc⟩

set_option maxHeartbeats 1000000 in
theorem heldLinesResult_any (code at_ : Int) (s : Value) (lo hi : Nat) (l : List (List M.Cl)) (k : Int) (w : World) (h : PR w lo hi s (mkAll l k)) (hn : l.length ≤ 4096) (hln : tot l l.length ≤ 1048576) (k0 : 0 ≤ k) (k1 : k ≤ 10000000000) :
    Calls Tryz.prog 14 #[.agg #[.int .i64 code, .int .i64 at_, s], .int .i64 k] w fun e w' => e = .returned (.int .i64 (k + 5 * (tot l l.length : Int))) ∧ Below w.heap.size w w' := by
  have H := hide (fun o => heldCellSS_pr s lo hi l k (w.alloc o) (h.alloc o) hn hln k0 k1)
  have d1 : decide (k + 5 * (tot l l.length : Int) < 0) = false := decide_eq_false (by omega)
  obtain ⟨a, n, cap, rfl⟩ := h.ps.shape
  clear h
  go_enter Tryz.func14, Tryz.ntmps14
  go_wp2_with fail
  refine ((unhide H) _).mono ?_
  rintro e w1 ⟨rfl, hb⟩
  go_wp2_with fail
  go_ret
  exact ⟨rfl, ((Below.refl _ _).alloc (Nat.le_refl _) _).trans (hb.mono (by simp))⟩


end Go.Proofs.YtepfdlbnnkojbaaGreatDoor
