/-
  spec.l15Event and both StreamFaults.
  CutStream, plainly; impl.layEvent.
-/
import Derived.Test.YtcglddahphkcpaaGreatDoorU06
import Derived.Test.YtcglddahphkcpaaGreatDoorU27
import Derived.Test.YtcglddahphkcpaaGreatDoorU28
import Derived.Test.YtcglddahphkcpaaGreatDoorU29
namespace Go.Proofs.YtcglddahphkcpaaGreatDoor
open Go.RowKit
set_option linter.unusedVariables false
set_option linter.unusedSimpArgs false

namespace Sev
theorem l15Leaf_any (l : List M.Cl) (b off cap : Nat) (w : World) (hrow : Row w b off l) (h1 : 1 ≤ l.length) :
    Calls Tryz.prog 86 #[.slice (some ⟨b, off, none⟩) l.length cap] w fun e w' => e = .returned (.bool ((l.getD 0 M.zero).n == 0)) ∧ w' = w := by
  obtain ⟨_, _, _, _, f4⟩ := hrow 0 (by omega)
  simp only [Nat.zero_mul, Nat.add_zero] at f4
  have hI : (0 : Int) < (l.length : Int) := by omega
  generalize (l.getD 0 M.zero).n = n at *
  clear hrow
  go_enter Tryz.func86, Tryz.ntmps86
  go_wp2_with fail
  go_ret
  exact ⟨rfl, rfl⟩

/-- What StreamFault tells of a list: a code and a place. -/
def first : List (List M.Cl) → Nat → Int × Int × List M.Cl
  | [], _ => (0, 0, [])
  | e :: l, k => if fault e = 0 then first l (k + 1) else (fault e, (k : Int), [])
def faults (l : List (List M.Cl)) : Int × Int × List M.Cl := if l.length < 1 ∨ 200 < l.length then (2, 0, []) else first l 0
theorem first_hit : ∀ (l : List (List M.Cl)) (n k : Nat), k < l.length → (∀ j, j < k → fault (l.getD j []) = 0) → fault (l.getD k []) ≠ 0 → first l n = (fault (l.getD k []), ((n + k : Nat) : Int), []) := by
  intro l
  induction l with
  | nil => intro n k hk; simp at hk
  | cons e l ih =>
    intro n k hk hall hne
    cases k with
    | zero => simp only [List.getD_cons_zero] at hne ⊢; rw [first, if_neg hne]; rfl
    | succ k =>
      have h0 := hall 0 (by omega)
      simp only [List.getD_cons_zero] at h0
      simp only [List.getD_cons_succ] at hne ⊢
      rw [first, if_pos h0]
      rw [ih (n + 1) k (by simpa using hk) (fun j hj => by have := hall (j + 1) (by omega); simpa only [List.getD_cons_succ] using this) hne]
      rw [show n + 1 + k = n + (k + 1) by omega]
theorem first_none : ∀ (l : List (List M.Cl)) (n : Nat), (∀ j, j < l.length → fault (l.getD j []) = 0) → first l n = (0, 0, []) := by
  intro l
  induction l with
  | nil => intro n _; rfl
  | cons e l ih =>
    intro n hall
    have h0 := hall 0 (by simp)
    simp only [List.getD_cons_zero] at h0
    rw [first, if_pos h0]
    exact ih (n + 1) (fun j hj => by have := hall (j + 1) (by simpa using hj); simpa only [List.getD_cons_succ] using this)
theorem faults_many {l : List (List M.Cl)} (h : l.length < 1 ∨ 200 < l.length) : faults l = (2, 0, []) := if_pos h
theorem faults_few {l : List (List M.Cl)} (h : ¬ (l.length < 1 ∨ 200 < l.length)) : faults l = first l 0 := if_neg h
theorem first_nil : ∀ (l : List (List M.Cl)) (n : Nat), (first l n).2.2 = [] := by
  intro l
  induction l with
  | nil => intro n; rfl
  | cons e l ih => intro n; rw [first]; split; exact ih _; rfl
theorem faults_nil (l : List (List M.Cl)) : (faults l).2.2 = [] := by unfold faults; split; rfl; exact first_nil _ _
theorem faults_no {l : List (List M.Cl)} (h : (faults l).1 = 0) : 1 ≤ l.length ∧ l.length ≤ 200 ∧ ∀ j, j < l.length → fault (l.getD j []) = 0 := by
  by_cases hm : l.length < 1 ∨ 200 < l.length
  · rw [faults_many hm] at h; cases h
  rw [faults_few hm] at h
  refine ⟨by omega, by omega, fun j hj => ?_⟩
  clear hm
  suffices H : ∀ (l : List (List M.Cl)) (n : Nat), (first l n).1 = 0 → ∀ j, j < l.length → fault (l.getD j []) = 0 from H l 0 h j hj
  clear h hj j l
  intro l
  induction l with
  | nil => intro n _ j hj; simp at hj
  | cons e l ih =>
    intro n h j hj
    rw [first] at h
    split at h
    · rename_i h0
      cases j with
      | zero => simpa only [List.getD_cons_zero] using h0
      | succ j => simpa only [List.getD_cons_succ] using ih (n + 1) h j (by simpa using hj)
    · rename_i h0; exact absurd h h0

/-- The call told the code, the place and the cells of out, these in memory of their own. -/
def AnsR (w : World) (out : Int × Int × List M.Cl) (e : Ending) (w' : World) : Prop := ∃ sv, e = .returned (.agg #[.int .i64 out.1, .int .i64 out.2.1, sv]) ∧ Res w' w.heap.size sv out.2.2 ∧ Below w.heap.size w w'
theorem ansR_of {w w' : World} {out : Int × Int × List M.Cl} {c p : Int} {sv : Value} {l : List M.Cl} (fin : out = (c, p, l)) (hr : Res w' w.heap.size sv l) (hb : Below w.heap.size w w') : AnsR w out (.returned (.agg #[.int .i64 c, .int .i64 p, sv])) w' := by
  subst fin; exact ⟨sv, rfl, hr, hb⟩
theorem below3 {w w2 : World} (h : Below w.heap.size w w2) (x y z : Value) : Below w.heap.size w (((w2.setCell ⟨w.heap.size, 0, none⟩ x).setCell ⟨w.heap.size, 1, none⟩ y).setCell ⟨w.heap.size, 2, none⟩ z) := ((h.setCell (Nat.le_refl _) _).setCell (Nat.le_refl _) _).setCell (Nat.le_refl _) _
-- THE TAIL (mk_suf.py)

end Sev
end Go.Proofs.YtcglddahphkcpaaGreatDoor

namespace Go.Proofs.YtcglddahphkcpaaGreatDoor
open Go.RowKit
set_option linter.unusedVariables false
set_option linter.unusedSimpArgs false
namespace Al
/-- Steps as an append reads them. -/
def Rdr (w : World) (sv : Value) (cs : List M.Cl) : Prop := (sv = .slice none 0 0 ∧ cs = []) ∨ ∃ ad c, sv = .slice (some ad) cs.length c ∧ ad.block < w.heap.size ∧ ∀ j u, (flat cs)[j]? = some u → w.cell? (ad.add j) = some u
theorem Rdr.below {w w' : World} {sv : Value} {cs : List M.Cl} (h : Rdr w sv cs) (hb : Below w.heap.size w w') : Rdr w' sv cs := by
  rcases h with h | ⟨ad, c, h1, h2, h3⟩
  · exact .inl h
  · exact .inr ⟨ad, c, h1, Nat.lt_of_lt_of_le h2 hb.size, fun j u hu => (hb.cell (p := ad.add j) (by unfold Addr.add; split <;> exact h2)).trans (h3 j u hu)⟩
theorem Rdr.shape {w : World} {sv : Value} {cs : List M.Cl} (h : Rdr w sv cs) : ∃ a c, sv = .slice a cs.length c := by
  rcases h with ⟨h, e⟩ | ⟨ad, c, h1, _⟩
  · exact ⟨none, 0, by rw [e]; exact h⟩
  · exact ⟨_, _, h1⟩
theorem Rdr.read {w : World} {sv : Value} {cs : List M.Cl} (h : Rdr w sv cs) : (sv = .slice none 0 0 ∧ flat cs = []) ∨ ∃ ad c, sv = .slice (some ad) cs.length c ∧ ∀ j u, (flat cs)[j]? = some u → w.cell? (ad.add j) = some u := by
  rcases h with ⟨h, e⟩ | ⟨ad, c, h1, _, h3⟩
  · exact .inl ⟨h, by rw [e]; rfl⟩
  · exact .inr ⟨ad, c, h1, h3⟩
theorem Rdr.row {w : World} {b off cap : Nat} {cs : List M.Cl} (h : Row w b off cs) (hb : b < w.heap.size) : Rdr w (.slice (some ⟨b, off, none⟩) cs.length cap) cs := .inr ⟨_, _, rfl, hb, row_words h⟩
theorem Rdr.own {w : World} {base : Nat} {sv : Value} {cs : List M.Cl} (h : w.ownsRow base 111 5 sv cs.length (flat cs)) : Rdr w sv cs := by
  rcases rowN_read h (fun h => flat_nil_of h) with ⟨h1, h2⟩ | ⟨ad, c, h1, h2⟩
  · refine .inl ⟨h1, ?_⟩
    have := flat_length cs
    rw [h2] at this
    exact List.length_eq_zero_iff.1 (by simp at this; omega)
  · refine .inr ⟨ad, c, h1, ?_, h2⟩
    obtain ⟨q1, ⟨q2, _⟩ | ⟨g, cap, cur, e1, q3, q4, q5⟩⟩ := h
    · rw [h1] at q2; cases q2
    · rw [h1] at e1; cases e1
      exact (Array.getElem?_eq_some_iff.1 q4).1
set_option maxHeartbeats 1000000 in
theorem layPathR_any (sv : Value) (ahead : List M.Cl) (w : World) (hs : Rdr w sv ahead) (hn : ahead.length ≤ 1000) :
    Calls Tryz.prog 111 #[sv] w fun e w' => ∃ s, e = .returned s ∧ w'.ownsRow w.heap.size 111 5 s (ahead.length + 1) (flat (pathC ahead)) ∧ Below w.heap.size w w' := by
  obtain ⟨sa, sc, rfl⟩ := hs.shape
  obtain ⟨i0, hi, hz0, hz1, hz2⟩ := info_parts Tryz.info111
  obtain ⟨W0, hW0⟩ : ∃ W0, W0 = w.alloc (.cells #[.int .i64 5, .int .i64 0, .string { data := #[] }, .string { data := #[] }, .int .i64 ahead.length] 111) := ⟨_, rfl⟩
  have B0 : Below w.heap.size w W0 := by rw [hW0]; exact (Below.refl _ _).alloc (Nat.le_refl _) _
  have O0 := hide (show W0.ownsRow w.heap.size 111 5 (.slice (some ⟨w.heap.size, 0, none⟩) 1 1) 1 (flat [headCl 5 ahead.length]) by rw [hW0]; exact one_own w w.heap.size _ (headCl 5 ahead.length) rfl (Nat.le_refl _))
  have RD := hide (hs.below B0).read
  have HFL := hide (flat_length ahead)
  have hone := hide (flat_one ahead)
  have hb63 : 1 + ahead.length ≤ maxLen := by unfold maxLen; omega
  have hby : (1 + ahead.length) * 56 ≤ 140737488355328 := by omega
  have HPC := hide (show flat [headCl 5 ahead.length] ++ flat ahead = flat (pathC ahead) by rw [← flat_append]; rfl)
  have hbas := B0.size
  clear hs
  go_enter Tryz.func111, Tryz.ntmps111
  go_wp2_with (at_builtin; rw [← hW0]; refine wpList_rowN rfl (.tmp 6) (.tmp 7) 24 rfl 111 i0 _ 5 56 Tryz.underlying24 hi hz0 hz1 hz2 rfl (by decide) w.heap.size (.slice (some ⟨w.heap.size, 0, none⟩) 1 1) 1 _ rfl (unhide O0) (.slice sa ahead.length sc) rfl ahead.length (flat ahead) (unhide HFL) (unhide RD) (unhide hone) hb63 hby hbas ?_)
  intro v' w' ho hg _
  rw [← hW0] at hg
  rw [unhide HPC, Nat.add_comm] at ho
  have B1 : Below w.heap.size w w' := B0.grown hg hbas (fun q hq => by cases hq; exact Nat.le_refl _)
  have HO := hide ho
  obtain ⟨a, k, c, rfl⟩ := row_shape ho
  clear ho hg hW0 B0 O0 RD
  go_wp2_with fail
  go_ret
  exact ⟨_, rfl, unhide HO, B1⟩

end Al
namespace Sev
/-- An event as it is laid: steps, and perhaps a leaf. -/
def laid (cs : List M.Cl) (leaf : List (List M.Cl)) : List M.Cl := arrV (Al.pathC cs :: leaf)
theorem LV_one (w : World) (g : Nat) (s : Value) (b off c : Nat) (l : List M.Cl) (hg : g < w.heap.size) (h : w.cell? ⟨g, 0, none⟩ = some (.slice (some ⟨b, off, none⟩) l.length c)) (hc : l.length ≤ c) (hb : b < w.heap.size) (hr : Row w b off l) : LV w (some ⟨g, 0, none⟩) [l] := by
  intro i hi
  have : i = 0 := by simpa using hi
  subst this
  exact ⟨g, b, off, c, rfl, hg, h, hc, hb, hr⟩
theorem valid_one {a : List M.Cl} (h : M.valueFault a = 0) : ∀ j, j < [a].length → M.valueFault (([a] : List (List M.Cl)).getD j []) = 0 := by
  intro j hj
  have : j = 0 := by simpa using hj
  subst this; exact h
theorem valid_two {a b : List M.Cl} (h : M.valueFault a = 0) (k : M.valueFault b = 0) : ∀ j, j < [a, b].length → M.valueFault (([a, b] : List (List M.Cl)).getD j []) = 0 := by
  intro j hj
  have : j = 0 ∨ j = 1 := by simp at hj; omega
  rcases this with rfl | rfl
  · exact h
  · exact k
set_option maxHeartbeats 1000000 in
theorem layEvent_one (sv : Value) (cs : List M.Cl) (w : World) (h : Al.Rdr w sv cs) (hs : ∀ c ∈ cs, Pth.Stp c) (hl : cs.length ≤ 199) :
    Calls Tryz.prog 57 #[sv, .slice none 0 0] w fun e w' => ∃ s, e = .returned s ∧ Res w' w.heap.size s (laid cs []) ∧ Below w.heap.size w w' := by
  have HP := hide (Al.layPathR_any sv cs w h (by omega))
  have hpv := (Al.pathC_ok hs hl).1
  have hpl := Al.pathC_length cs
  have HLA := hide (fun W a (hL : LV W a [Al.pathC cs]) => layArrayV_any a 1 [Al.pathC cs] W hL (Nat.le_refl _) (by simp) (valid_one hpv))
  have eqn : ∀ a n c W, (binOp .eql 24 (.slice a n c) (.slice none 0 0)).run Tryz.prog W = .ok (.bool a.isNone) W := fun a n c W => eql_nil _ _ Tryz.underlying24 a n c W
  have HD := hide (show laid cs [] = arrV [Al.pathC cs] from rfl)
  have hlen : 1 ≤ (Al.pathC cs).length := by omega
  rw [← hpl] at HP
  rw [unhide HD]
  have hpl2 : (Al.pathC cs).length ≤ 200 := by omega
  clear h hs hpv hpl
  generalize Al.pathC cs = pc at *
  go_enter Tryz.func57, Tryz.ntmps57
  go_wp2_with fail
  refine (unhide HP).mono ?_
  rintro e w1 ⟨s, rfl, ho, hb1⟩
  obtain ⟨_, ⟨h1, h2⟩ | ⟨pb, pcap, e1, hlo, hpc, hog⟩⟩ := res_of_owns ho (by omega)
  · rw [h2] at hlen; simp at hlen
  subst e1
  obtain ⟨W2, hW2⟩ : ∃ W2, W2 = w1.alloc (.cells #[.slice (some ⟨pb, 0, none⟩) pc.length pcap] 24) := ⟨_, rfl⟩
  have b12 : Below w1.heap.size w1 W2 := by rw [hW2]; exact (Below.refl _ _).alloc (Nat.le_refl _) _
  have hLV : LV W2 (some ⟨w1.heap.size, 0, none⟩) [pc] := LV_one W2 _ (.slice none 0 0) pb 0 pcap pc (by rw [hW2]; simp) (by rw [hW2]; exact World.cell?_alloc_mark w1 _ _ (0, 0) 0) hpc (Nat.lt_of_lt_of_le hog.lt b12.size) (hog.below b12 hog.lt).row
  have HL2 := hide ((unhide HLA) W2 _ hLV)
  have B2 := hide (hb1.trans (b12.mono hb1.size))
  have hsz := (unhide B2).size
  clear ho hlo hog hLV HLA hb1 b12
  simp only [List.length_cons, List.length_nil, Nat.zero_add] at HL2
  go_wp2_with fail
  rw [← hW2]
  clear hW2
  refine (unhide HL2).mono ?_
  rintro e w3 ⟨s3, rfl, hr, hb3⟩
  have fin := hide (hr.mono hsz)
  have B3 := (unhide B2).trans (hb3.mono hsz)
  obtain ⟨xa, xn, xc, rfl⟩ := hr.shape
  clear HL2 hr hb3
  go_wp2_with fail
  go_ret
  exact ⟨_, rfl, unhide fin, B3⟩
set_option maxHeartbeats 1000000 in
theorem layEvent_two (sv : Value) (cs leaf : List M.Cl) (xb xo xc : Nat) (w : World) (h : Al.Rdr w sv cs) (hs : ∀ c ∈ cs, Pth.Stp c) (hl : cs.length ≤ 199) (hx : Row w xb xo leaf) (hxb : xb < w.heap.size) (hxc : leaf.length ≤ xc) (hxv : M.valueFault leaf = 0) :
    Calls Tryz.prog 57 #[sv, .slice (some ⟨xb, xo, none⟩) leaf.length xc] w fun e w' => ∃ s, e = .returned s ∧ Res w' w.heap.size s (laid cs [leaf]) ∧ Below w.heap.size w w' := by
  have HP := hide (Al.layPathR_any sv cs w h (by omega))
  have hpv := (Al.pathC_ok hs hl).1
  have hpl := Al.pathC_length cs
  have HLA := hide (fun W a (hL : LV W a [Al.pathC cs, leaf]) => layArrayV_any a 2 [Al.pathC cs, leaf] W hL (Nat.le_refl _) (by simp) (valid_two hpv hxv))
  have eqn : ∀ a n c W, (binOp .eql 24 (.slice a n c) (.slice none 0 0)).run Tryz.prog W = .ok (.bool a.isNone) W := fun a n c W => eql_nil _ _ Tryz.underlying24 a n c W
  have HD := hide (show laid cs [leaf] = arrV [Al.pathC cs, leaf] from rfl)
  have hlen : 1 ≤ (Al.pathC cs).length := by omega
  have HX := hide (fun W (h : Below w.heap.size w W) => hx.below h hxb)
  rw [← hpl] at HP
  rw [unhide HD]
  have hpl2 : (Al.pathC cs).length ≤ 200 := by omega
  clear h hs hpv hx hxv hpl
  generalize Al.pathC cs = pc at *
  go_enter Tryz.func57, Tryz.ntmps57
  go_wp2_with fail
  refine (unhide HP).mono ?_
  rintro e w1 ⟨s, rfl, ho, hb1⟩
  obtain ⟨_, ⟨h1, h2⟩ | ⟨pb, pcap, e1, hlo, hpc, hog⟩⟩ := res_of_owns ho (by omega)
  · rw [h2] at hlen; simp at hlen
  subst e1
  obtain ⟨W2, hW2⟩ : ∃ W2, W2 = w1.alloc (.cells #[.slice (some ⟨pb, 0, none⟩) pc.length pcap, .slice (some ⟨xb, xo, none⟩) leaf.length xc] 24) := ⟨_, rfl⟩
  have b12 : Below w1.heap.size w1 W2 := by rw [hW2]; exact (Below.refl _ _).alloc (Nat.le_refl _) _
  have hLV : LV W2 (some ⟨w1.heap.size, 0, none⟩) [pc, leaf] := by rw [hW2]; exact LV.two w1 w1.heap.size pb 0 pcap xb xo xc pc leaf 24 rfl hog.row hog.lt hpc ((unhide HX) w1 hb1) (Nat.lt_of_lt_of_le hxb hb1.size) hxc
  have HL2 := hide ((unhide HLA) W2 _ hLV)
  have B2 := hide (hb1.trans (b12.mono hb1.size))
  have hsz := (unhide B2).size
  clear ho hlo hog hLV HLA hb1 b12
  simp only [List.length_cons, List.length_nil, Nat.zero_add] at HL2
  go_wp2_with fail
  rw [← hW2]
  clear hW2
  refine (unhide HL2).mono ?_
  rintro e w3 ⟨s3, rfl, hr, hb3⟩
  have fin := hide (hr.mono hsz)
  have B3 := (unhide B2).trans (hb3.mono hsz)
  obtain ⟨ya, yn, yc, rfl⟩ := hr.shape
  clear HL2 hr hb3
  go_wp2_with fail
  go_ret
  exact ⟨_, rfl, unhide fin, B3⟩
end Sev
namespace Sev
/-- What is left of an event. -/
def cutE (d : Nat) (l : List M.Cl) : List M.Cl := laid (((P l 0).drop 1).drop d) (if (l.getD 0 M.zero).n = 1 then [] else [P l 1])
def keeps (d : Nat) (l : List M.Cl) : Bool := decide (d < ((P l 0).drop 1).length)
def cutL (d : Nat) (L : List (List M.Cl)) : List (List M.Cl) := (L.filter (keeps d)).map (cutE d)
theorem cut_succ (d : Nat) (L : List (List M.Cl)) (k : Nat) (hk : k < L.length) : cutL d (L.take (k + 1)) = cutL d (L.take k) ++ (if keeps d (L.getD k []) = true then [cutE d (L.getD k [])] else []) := by
  unfold cutL
  rw [List.take_succ_eq_append_getElem hk, List.filter_append, List.map_append, List.getD_eq_getElem?_getD, List.getElem?_eq_getElem hk]
  simp only [Option.getD_some, List.filter_cons, List.filter_nil]
  split <;> rfl
theorem cut_le (d : Nat) (L : List (List M.Cl)) : (cutL d L).length ≤ L.length := by unfold cutL; rw [List.length_map]; exact List.length_filter_le _ _
/-- What CutStream tells. -/
def cutOut (L : List (List M.Cl)) (d : Int) : Int × List (List M.Cl) := if (faults L).1 ≠ 0 then ((faults L).1, []) else if d < 0 ∨ 20 < d then (3, []) else (0, cutL d.toNat L)
theorem cut_bad {L : List (List M.Cl)} {d : Int} (h : (faults L).1 ≠ 0) : cutOut L d = ((faults L).1, []) := if_pos h
theorem cut_range {L : List (List M.Cl)} {d : Int} (h : (faults L).1 = 0) (hd : d < 0 ∨ 20 < d) : cutOut L d = (3, []) := by unfold cutOut; rw [if_neg (by simp [h]), if_pos hd]
theorem cut_ok {L : List (List M.Cl)} {d : Nat} (h : (faults L).1 = 0) (hd : d ≤ 20) : cutOut L (d : Int) = (0, cutL d L) := by unfold cutOut; rw [if_neg (by simp [h]), if_neg (by omega)]; rfl
/-- What is known of an event without a fault. -/
structure Evt (l : List M.Cl) : Prop where
  val : M.valueFault l = 0
  n12 : (l.getD 0 M.zero).n = 1 ∨ (l.getD 0 M.zero).n = 2
  path : Pth.fault (P l 0) = 0
  stp : ∀ c ∈ (P l 0).drop 1, Pth.Stp c
  len : ((P l 0).drop 1).length ≤ 199
  leaf : (l.getD 0 M.zero).n = 2 → M.valueFault (P l 1) = 0
theorem evt_of {l : List M.Cl} (hok : ∀ c ∈ l, c.ok) (h : fault l = 0) : Evt l := by
  have hv : M.valueFault l = 0 := by
    by_cases hv : M.valueFault l = 0
    · exact hv
    · rw [fault_bad hv] at h; exact absurd h hv
  by_cases hk : (l.getD 0 M.zero).kind ≠ 5 ∨ (l.getD 0 M.zero).n < 1 ∨ 2 < (l.getD 0 M.zero).n
  · rw [fault_kind hv hk] at h; cases h
  have h5 : (l.getD 0 M.zero).kind = 5 := by omega
  have hp : Pth.fault (P l 0) = 0 := by
    by_cases hp : Pth.fault (P l 0) = 0
    · exact hp
    · rw [fault_path hv h5 (by omega) (by omega) hp] at h; exact absurd h hp
  have hf := first_n hp
  refine ⟨hv, by omega, hp, (Pth.steps hp).2.2, by rw [List.length_drop]; omega, fun h2 => ?_⟩
  have hn := parts_n (l := l) (n := 2) h2
  exact (part_ok hv hok (j := 1) (by omega)).1
theorem cutE_one {d : Nat} {l : List M.Cl} (h : (l.getD 0 M.zero).n = 1) : cutE d l = laid (((P l 0).drop 1).drop d) [] := by unfold cutE; rw [if_pos h]
theorem cutE_two {d : Nat} {l : List M.Cl} (h : (l.getD 0 M.zero).n = 2) : cutE d l = laid (((P l 0).drop 1).drop d) [P l 1] := by unfold cutE; rw [if_neg (by omega)]
theorem cutE_len {d : Nat} {l : List M.Cl} (h : Evt l) : 1 ≤ (cutE d l).length ∧ (cutE d l).length ≤ 402 := by
  have h0 : (((P l 0).drop 1).drop d).length ≤ 199 := by rw [List.length_drop]; have := h.len; omega
  have h1 := Al.pathC_length (((P l 0).drop 1).drop d)
  unfold cutE
  generalize ((P l 0).drop 1).drop d = x at *
  unfold laid arrV
  rw [arrK_length]
  rcases h.n12 with e | e
  · rw [if_pos e]; simp [tot]; omega
  · have h2 := (fault_len (h.leaf e)).2
    rw [if_neg (by omega)]; simp [tot]; omega
/-- How few and small what is left is. -/
theorem cut_small (L : List (List M.Cl)) (d : Int) (hok : OkS L) : (cutOut L d).2.length ≤ 200 ∧ tot (cutOut L d).2 (cutOut L d).2.length ≤ 1048576 ∧ ∀ i, i < (cutOut L d).2.length → ((cutOut L d).2.getD i []).length ≤ 1048576 := by
  by_cases h : (faults L).1 = 0
  · by_cases hd : d < 0 ∨ 20 < d
    · rw [cut_range h hd]; exact ⟨by simp, by simp [tot], fun i hi => by simp at hi⟩
    · obtain ⟨D, rfl⟩ := Int.eq_ofNat_of_zero_le (show 0 ≤ d by omega)
      rw [cut_ok h (by omega)]
      obtain ⟨h1, h2, h3⟩ := faults_no h
      have hl := cut_le D L
      have hb : ∀ q ∈ cutL D L, q.length ≤ 402 := fun q hq => by
        unfold cutL at hq
        obtain ⟨l, hl, rfl⟩ := List.mem_map.1 hq
        obtain ⟨i, hi, rfl⟩ := List.getElem_of_mem (List.mem_filter.1 hl).1
        have hf := h3 i hi
        have ho := hok i hi
        rw [List.getD_eq_getElem?_getD, List.getElem?_eq_getElem hi] at hf ho
        exact (cutE_len (evt_of ho hf)).2
      have hb2 : ∀ i, i < (cutL D L).length → ((cutL D L).getD i []).length ≤ 402 := fun i hi => hb _ (by rw [List.getD_eq_getElem?_getD, List.getElem?_eq_getElem hi]; exact List.getElem_mem hi)
      have ht : ∀ k, k ≤ (cutL D L).length → tot (cutL D L) k ≤ 402 * k := by
        intro k
        induction k with
        | zero => intro _; simp [tot]
        | succ k ih => intro hk; rw [tot_succ _ k (by omega)]; have := ih (by omega); have := hb2 k (by omega); omega
      have := ht _ (Nat.le_refl _)
      exact ⟨by simp only; omega, by simp only; omega, fun i hi => Nat.le_trans (hb2 i hi) (by decide)⟩
  · rw [cut_bad h]; exact ⟨by simp, by simp [tot], fun i hi => by simp at hi⟩
theorem SD.snoc {w2 w3 : World} {o : Obj} {B : Nat} {s v' sp : Value} {ps : List (List M.Cl)} {p : List M.Cl} {ss : List Value} (hl : ss.length = ps.length) (hown : w2.ownsRow B 24 1 s ps.length ss) (hres : ∀ i, i < ps.length → Res w2 B (ss.getD i (.slice none 0 0)) (ps.getD i []))
    (hdis : ∀ i j, i < j → j < ps.length → ∀ b, (ss.getD i (.slice none 0 0)).ownBlock = some b → (ss.getD j (.slice none 0 0)).ownBlock ≠ some b) (hp : Res w2 B sp p) (hnew : ∀ j, j < ps.length → ∀ b, (ss.getD j (.slice none 0 0)).ownBlock = some b → sp.ownBlock ≠ some b)
    (hg : (w2.alloc o).grownBy w3 s.ownBlock) (ho : w3.ownsRow B 24 1 v' (ps.length + 1) (ss ++ [sp])) : SD w3 B v' (ps ++ [p]) := by
  have keep : ∀ (r : Value) (l : List M.Cl), Res w2 B r l → Res w3 B r l := fun r l h => grown_res (hown.alloc o) hg (h.alloc o) (by decide)
  refine ⟨ss ++ [sp], by simp [hl], by simpa using ho, fun i hi => ?_, fun i j h1 h2 b => ?_⟩
  · rw [List.length_append] at hi
    simp only [List.length_cons, List.length_nil] at hi
    by_cases e : i < ps.length
    · rw [List.getD_eq_getElem?_getD, List.getElem?_append_left (by omega), ← List.getD_eq_getElem?_getD, List.getD_eq_getElem?_getD (l := ps ++ [p]), List.getElem?_append_left e, ← List.getD_eq_getElem?_getD]
      exact keep _ _ (hres i e)
    · obtain rfl : i = ps.length := by omega
      rw [List.getD_eq_getElem?_getD, List.getElem?_append_right (by omega), hl, Nat.sub_self, List.getD_eq_getElem?_getD (l := ps ++ [p]), List.getElem?_append_right (Nat.le_refl _), Nat.sub_self]
      exact keep _ _ hp
  · rw [List.length_append] at h2
    simp only [List.length_cons, List.length_nil] at h2
    rw [List.getD_eq_getElem?_getD, List.getElem?_append_left (by omega), ← List.getD_eq_getElem?_getD]
    by_cases e : j = ps.length
    · rw [List.getD_eq_getElem?_getD (l := ss ++ _), List.getElem?_append_right (by omega), show j - ss.length = 0 from by omega]
      exact hnew i (by omega) b
    · rw [List.getD_eq_getElem?_getD (l := ss ++ _), List.getElem?_append_left (by omega), ← List.getD_eq_getElem?_getD]
      exact hdis i j h1 (by omega) b
end Sev
end Go.Proofs.YtcglddahphkcpaaGreatDoor
