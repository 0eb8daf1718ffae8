/-
  CutStream, plainly; impl.layEvent.
-/
import Derived.Test.YthaabakpcokomaaR34
import Derived.Test.YthaabakpcokomaaR35
import Derived.Test.YthaabakpcokomaaR37
namespace Go.Proofs.Ythaabakpcokomaa
open Go.RowKit
set_option linter.unusedVariables false
set_option linter.unusedSimpArgs false
namespace Al
/-- Steps as an append reads them. -/
def Rdr (w : World) (sv : Value) (cs : List M.Cl) : Prop := (sv = .slice none 0 0 ∧ cs = []) ∨ ∃ ad c, sv = .slice (some ad) cs.length c ∧ ad.block < w.heap.size ∧ ∀ j u, (flat cs)[j]? = some u → w.cell? (ad.add j) = some u
theorem Rdr.below {w w' : World} {sv : Value} {cs : List M.Cl} (h : Rdr w sv cs) (hb : Below w.heap.size w w') : Rdr w' sv cs := by
  rcases h with h | ⟨ad, c, h1, h2, h3⟩
  · exact .inl h
  · exact .inr ⟨ad, c, h1, Nat.lt_of_lt_of_le h2 hb.size, fun j u hu => (hb.cell (p := ad.add j) (by unfold Addr.add; split <;> exact h2)).trans (h3 j u hu)⟩
theorem Rdr.shape {w : World} {sv : Value} {cs : List M.Cl} (h : Rdr w sv cs) : ∃ a c, sv = .slice a cs.length c := by
  rcases h with ⟨h, e⟩ | ⟨ad, c, h1, _⟩
  · exact ⟨none, 0, by rw [e]; exact h⟩
  · exact ⟨_, _, h1⟩
theorem Rdr.read {w : World} {sv : Value} {cs : List M.Cl} (h : Rdr w sv cs) : (sv = .slice none 0 0 ∧ flat cs = []) ∨ ∃ ad c, sv = .slice (some ad) cs.length c ∧ ∀ j u, (flat cs)[j]? = some u → w.cell? (ad.add j) = some u := by
  rcases h with ⟨h, e⟩ | ⟨ad, c, h1, _, h3⟩
  · exact .inl ⟨h, by rw [e]; rfl⟩
  · exact .inr ⟨ad, c, h1, h3⟩
theorem Rdr.own {w : World} {base : Nat} {sv : Value} {cs : List M.Cl} (h : w.ownsRow base 67 5 sv cs.length (flat cs)) : Rdr w sv cs := by
  rcases rowN_read h (fun h => flat_nil_of h) with ⟨h1, h2⟩ | ⟨ad, c, h1, h2⟩
  · refine .inl ⟨h1, ?_⟩
    have := flat_length cs
    rw [h2] at this
    exact List.length_eq_zero_iff.1 (by simp at this; omega)
  · refine .inr ⟨ad, c, h1, ?_, h2⟩
    obtain ⟨q1, ⟨q2, _⟩ | ⟨g, cap, cur, e1, q3, q4, q5⟩⟩ := h
    · rw [h1] at q2; cases q2
    · rw [h1] at e1; cases e1
      exact (Array.getElem?_eq_some_iff.1 q4).1
set_option maxHeartbeats 1000000 in
theorem layPathR_any (sv : Value) (ahead : List M.Cl) (w : World) (hs : Rdr w sv ahead) (hn : ahead.length ≤ 1000) :
    Calls Try.prog 114 #[sv] w fun e w' => ∃ s, e = .returned s ∧ w'.ownsRow w.heap.size 67 5 s (ahead.length + 1) (flat (pathC ahead)) ∧ Below w.heap.size w w' := by
  obtain ⟨sa, sc, rfl⟩ := hs.shape
  obtain ⟨i0, hi, hz0, hz1, hz2⟩ := info_parts Try.info67
  obtain ⟨W0, hW0⟩ : ∃ W0, W0 = w.alloc (.cells #[.int .i64 5, .int .i64 0, .string { data := #[] }, .string { data := #[] }, .int .i64 ahead.length] 67) := ⟨_, rfl⟩
  have B0 : Below w.heap.size w W0 := by rw [hW0]; exact (Below.refl _ _).alloc (Nat.le_refl _) _
  have O0 := hide (show W0.ownsRow w.heap.size 67 5 (.slice (some ⟨w.heap.size, 0, none⟩) 1 1) 1 (flat [headCl 5 ahead.length]) by rw [hW0]; exact one_own w w.heap.size _ (headCl 5 ahead.length) rfl (Nat.le_refl _))
  have RD := hide (hs.below B0).read
  have HFL := hide (flat_length ahead)
  have hone := hide (flat_one ahead)
  have hb63 : 1 + ahead.length ≤ maxLen := by unfold maxLen; omega
  have hby : (1 + ahead.length) * 56 ≤ 140737488355328 := by omega
  have HPC := hide (show flat [headCl 5 ahead.length] ++ flat ahead = flat (pathC ahead) by rw [← flat_append]; rfl)
  have hbas := B0.size
  clear hs
  go_enter Try.func114, Try.ntmps114
  go_wp2_with (at_builtin; rw [← hW0]; refine wpList_rowN rfl (.tmp 6) (.tmp 7) 28 rfl 67 i0 _ 5 56 Try.underlying28 hi hz0 hz1 hz2 rfl (by decide) w.heap.size (.slice (some ⟨w.heap.size, 0, none⟩) 1 1) 1 _ rfl (unhide O0) (.slice sa ahead.length sc) rfl ahead.length (flat ahead) (unhide HFL) (unhide RD) (unhide hone) hb63 hby hbas ?_)
  intro v' w' ho hg _
  rw [← hW0] at hg
  rw [unhide HPC, Nat.add_comm] at ho
  have B1 : Below w.heap.size w w' := B0.grown hg hbas (fun q hq => by cases hq; exact Nat.le_refl _)
  have HO := hide ho
  obtain ⟨a, k, c, rfl⟩ := row_shape ho
  clear ho hg hW0 B0 O0 RD
  go_wp2_with fail
  go_ret
  exact ⟨_, rfl, unhide HO, B1⟩

end Al
namespace Sev
/-- An event as it is laid: steps, and perhaps a leaf. -/
def laid (cs : List M.Cl) (leaf : List (List M.Cl)) : List M.Cl := arrV (Al.pathC cs :: leaf)
theorem LV_one (w : World) (g : Nat) (s : Value) (b off c : Nat) (l : List M.Cl) (hg : g < w.heap.size) (h : w.cell? ⟨g, 0, none⟩ = some (.slice (some ⟨b, off, none⟩) l.length c)) (hc : l.length ≤ c) (hb : b < w.heap.size) (hr : Row w b off l) : LV w (some ⟨g, 0, none⟩) [l] := by
  intro i hi
  have : i = 0 := by simpa using hi
  subst this
  exact ⟨g, b, off, c, rfl, hg, h, hc, hb, hr⟩
theorem valid_one {a : List M.Cl} (h : M.valueFault a = 0) : ∀ j, j < [a].length → M.valueFault (([a] : List (List M.Cl)).getD j []) = 0 := by
  intro j hj
  have : j = 0 := by simpa using hj
  subst this; exact h
theorem valid_two {a b : List M.Cl} (h : M.valueFault a = 0) (k : M.valueFault b = 0) : ∀ j, j < [a, b].length → M.valueFault (([a, b] : List (List M.Cl)).getD j []) = 0 := by
  intro j hj
  have : j = 0 ∨ j = 1 := by simp at hj; omega
  rcases this with rfl | rfl
  · exact h
  · exact k
set_option maxHeartbeats 1000000 in
theorem layEvent_one (sv : Value) (cs : List M.Cl) (w : World) (h : Al.Rdr w sv cs) (hs : ∀ c ∈ cs, Pth.Stp c) (hl : cs.length ≤ 199) :
    Calls Try.prog 78 #[sv, .slice none 0 0] w fun e w' => ∃ s, e = .returned s ∧ Res w' w.heap.size s (laid cs []) ∧ Below w.heap.size w w' := by
  have HP := hide (Al.layPathR_any sv cs w h (by omega))
  have hpv := (Al.pathC_ok hs hl).1
  have hpl := Al.pathC_length cs
  have HLA := hide (fun W a (hL : LV W a [Al.pathC cs]) => layArrayV_any a 1 [Al.pathC cs] W hL (Nat.le_refl _) (by simp) (valid_one hpv))
  have eqn : ∀ a n c W, (binOp .eql 28 (.slice a n c) (.slice none 0 0)).run Try.prog W = .ok (.bool a.isNone) W := fun a n c W => eql_nil _ _ Try.underlying28 a n c W
  have HD := hide (show laid cs [] = arrV [Al.pathC cs] from rfl)
  have hlen : 1 ≤ (Al.pathC cs).length := by omega
  rw [← hpl] at HP
  rw [unhide HD]
  have hpl2 : (Al.pathC cs).length ≤ 200 := by omega
  clear h hs hpv hpl
  generalize Al.pathC cs = pc at *
  go_enter Try.func78, Try.ntmps78
  go_wp2_with fail
  refine (unhide HP).mono ?_
  rintro e w1 ⟨s, rfl, ho, hb1⟩
  obtain ⟨_, ⟨h1, h2⟩ | ⟨pb, pcap, e1, hlo, hpc, hog⟩⟩ := res_of_owns ho (by omega)
  · rw [h2] at hlen; simp at hlen
  subst e1
  obtain ⟨W2, hW2⟩ : ∃ W2, W2 = w1.alloc (.cells #[.slice (some ⟨pb, 0, none⟩) pc.length pcap] 28) := ⟨_, rfl⟩
  have b12 : Below w1.heap.size w1 W2 := by rw [hW2]; exact (Below.refl _ _).alloc (Nat.le_refl _) _
  have hLV : LV W2 (some ⟨w1.heap.size, 0, none⟩) [pc] := LV_one W2 _ (.slice none 0 0) pb 0 pcap pc (by rw [hW2]; simp) (by rw [hW2]; exact World.cell?_alloc_mark w1 _ _ (0, 0) 0) hpc (Nat.lt_of_lt_of_le hog.lt b12.size) (hog.below b12 hog.lt).row
  have HL2 := hide ((unhide HLA) W2 _ hLV)
  have B2 := hide (hb1.trans (b12.mono hb1.size))
  have hsz := (unhide B2).size
  clear ho hlo hog hLV HLA hb1 b12
  simp only [List.length_cons, List.length_nil, Nat.zero_add] at HL2
  go_wp2_with fail
  rw [← hW2]
  clear hW2
  refine (unhide HL2).mono ?_
  rintro e w3 ⟨s3, rfl, hr, hb3⟩
  have fin := hide (hr.mono hsz)
  have B3 := (unhide B2).trans (hb3.mono hsz)
  obtain ⟨xa, xn, xc, rfl⟩ := hr.shape
  clear HL2 hr hb3
  go_wp2_with fail
  go_ret
  exact ⟨_, rfl, unhide fin, B3⟩
set_option maxHeartbeats 1000000 in
theorem layEvent_two (sv : Value) (cs leaf : List M.Cl) (xb xo xc : Nat) (w : World) (h : Al.Rdr w sv cs) (hs : ∀ c ∈ cs, Pth.Stp c) (hl : cs.length ≤ 199) (hx : Row w xb xo leaf) (hxb : xb < w.heap.size) (hxc : leaf.length ≤ xc) (hxv : M.valueFault leaf = 0) :
    Calls Try.prog 78 #[sv, .slice (some ⟨xb, xo, none⟩) leaf.length xc] w fun e w' => ∃ s, e = .returned s ∧ Res w' w.heap.size s (laid cs [leaf]) ∧ Below w.heap.size w w' := by
  have HP := hide (Al.layPathR_any sv cs w h (by omega))
  have hpv := (Al.pathC_ok hs hl).1
  have hpl := Al.pathC_length cs
  have HLA := hide (fun W a (hL : LV W a [Al.pathC cs, leaf]) => layArrayV_any a 2 [Al.pathC cs, leaf] W hL (Nat.le_refl _) (by simp) (valid_two hpv hxv))
  have eqn : ∀ a n c W, (binOp .eql 28 (.slice a n c) (.slice none 0 0)).run Try.prog W = .ok (.bool a.isNone) W := fun a n c W => eql_nil _ _ Try.underlying28 a n c W
  have HD := hide (show laid cs [leaf] = arrV [Al.pathC cs, leaf] from rfl)
  have hlen : 1 ≤ (Al.pathC cs).length := by omega
  have HX := hide (fun W (h : Below w.heap.size w W) => hx.below h hxb)
  rw [← hpl] at HP
  rw [unhide HD]
  have hpl2 : (Al.pathC cs).length ≤ 200 := by omega
  clear h hs hpv hx hxv hpl
  generalize Al.pathC cs = pc at *
  go_enter Try.func78, Try.ntmps78
  go_wp2_with fail
  refine (unhide HP).mono ?_
  rintro e w1 ⟨s, rfl, ho, hb1⟩
  obtain ⟨_, ⟨h1, h2⟩ | ⟨pb, pcap, e1, hlo, hpc, hog⟩⟩ := res_of_owns ho (by omega)
  · rw [h2] at hlen; simp at hlen
  subst e1
  obtain ⟨W2, hW2⟩ : ∃ W2, W2 = w1.alloc (.cells #[.slice (some ⟨pb, 0, none⟩) pc.length pcap, .slice (some ⟨xb, xo, none⟩) leaf.length xc] 28) := ⟨_, rfl⟩
  have b12 : Below w1.heap.size w1 W2 := by rw [hW2]; exact (Below.refl _ _).alloc (Nat.le_refl _) _
  have hLV : LV W2 (some ⟨w1.heap.size, 0, none⟩) [pc, leaf] := by rw [hW2]; exact LV.two w1 w1.heap.size pb 0 pcap xb xo xc pc leaf 28 rfl hog.row hog.lt hpc ((unhide HX) w1 hb1) (Nat.lt_of_lt_of_le hxb hb1.size) hxc
  have HL2 := hide ((unhide HLA) W2 _ hLV)
  have B2 := hide (hb1.trans (b12.mono hb1.size))
  have hsz := (unhide B2).size
  clear ho hlo hog hLV HLA hb1 b12
  simp only [List.length_cons, List.length_nil, Nat.zero_add] at HL2
  go_wp2_with fail
  rw [← hW2]
  clear hW2
  refine (unhide HL2).mono ?_
  rintro e w3 ⟨s3, rfl, hr, hb3⟩
  have fin := hide (hr.mono hsz)
  have B3 := (unhide B2).trans (hb3.mono hsz)
  obtain ⟨ya, yn, yc, rfl⟩ := hr.shape
  clear HL2 hr hb3
  go_wp2_with fail
  go_ret
  exact ⟨_, rfl, unhide fin, B3⟩
end Sev
namespace Sev
theorem SD.snoc {w2 w3 : World} {o : Obj} {B : Nat} {s v' sp : Value} {ps : List (List M.Cl)} {p : List M.Cl} {ss : List Value} (hl : ss.length = ps.length) (hown : w2.ownsRow B 28 1 s ps.length ss) (hres : ∀ i, i < ps.length → Res w2 B (ss.getD i (.slice none 0 0)) (ps.getD i []))
    (hdis : ∀ i j, i < j → j < ps.length → ∀ b, (ss.getD i (.slice none 0 0)).ownBlock = some b → (ss.getD j (.slice none 0 0)).ownBlock ≠ some b) (hp : Res w2 B sp p) (hnew : ∀ j, j < ps.length → ∀ b, (ss.getD j (.slice none 0 0)).ownBlock = some b → sp.ownBlock ≠ some b)
    (hg : (w2.alloc o).grownBy w3 s.ownBlock) (ho : w3.ownsRow B 28 1 v' (ps.length + 1) (ss ++ [sp])) : SD w3 B v' (ps ++ [p]) := by
  have keep : ∀ (r : Value) (l : List M.Cl), Res w2 B r l → Res w3 B r l := fun r l h => grown_res (hown.alloc o) hg (h.alloc o) (by decide)
  refine ⟨ss ++ [sp], by simp [hl], by simpa using ho, fun i hi => ?_, fun i j h1 h2 b => ?_⟩
  · rw [List.length_append] at hi
    simp only [List.length_cons, List.length_nil] at hi
    by_cases e : i < ps.length
    · rw [List.getD_eq_getElem?_getD, List.getElem?_append_left (by omega), ← List.getD_eq_getElem?_getD, List.getD_eq_getElem?_getD (l := ps ++ [p]), List.getElem?_append_left e, ← List.getD_eq_getElem?_getD]
      exact keep _ _ (hres i e)
    · obtain rfl : i = ps.length := by omega
      rw [List.getD_eq_getElem?_getD, List.getElem?_append_right (by omega), hl, Nat.sub_self, List.getD_eq_getElem?_getD (l := ps ++ [p]), List.getElem?_append_right (Nat.le_refl _), Nat.sub_self]
      exact keep _ _ hp
  · rw [List.length_append] at h2
    simp only [List.length_cons, List.length_nil] at h2
    rw [List.getD_eq_getElem?_getD, List.getElem?_append_left (by omega), ← List.getD_eq_getElem?_getD]
    by_cases e : j = ps.length
    · rw [List.getD_eq_getElem?_getD (l := ss ++ _), List.getElem?_append_right (by omega), show j - ss.length = 0 from by omega]
      exact hnew i (by omega) b
    · rw [List.getD_eq_getElem?_getD (l := ss ++ _), List.getElem?_append_left (by omega), ← List.getD_eq_getElem?_getD]
      exact hdis i j h1 (by omega) b
end Sev
end Go.Proofs.Ythaabakpcokomaa
