/-
  CutStream, plainly; impl.layEvent.
  impl.StreamFault, impl.CutStream over lists that lie anywhere (mk_fsv.py).
  spec.CutStream.
-/
import Derived.Test.YtcglddahphkcpaaGreatDoorV17
import Derived.Test.YtcglddahphkcpaaGreatDoorV18
import Derived.Test.YtcglddahphkcpaaGreatDoorV19
import Derived.Test.YtcglddahphkcpaaGreatDoorV32
import Derived.Test.YtcglddahphkcpaaGreatDoorV35
import Derived.Test.YtcglddahphkcpaaGreatDoorV36
import Derived.Test.YtcglddahphkcpaaGreatDoorV38
import Derived.Test.YtcglddahphkcpaaGreatDoorV39
namespace Go.Proofs.YtcglddahphkcpaaGreatDoor
open Go.RowKit
set_option linter.unusedVariables false
set_option linter.unusedSimpArgs false
namespace Al
/-- Steps as an append reads them. -/
def Rdr (w : World) (sv : Value) (cs : List M.Cl) : Prop := (sv = .slice none 0 0 ∧ cs = []) ∨ ∃ ad c, sv = .slice (some ad) cs.length c ∧ ad.block < w.heap.size ∧ ∀ j u, (flat cs)[j]? = some u → w.cell? (ad.add j) = some u
theorem Rdr.below {w w' : World} {sv : Value} {cs : List M.Cl} (h : Rdr w sv cs) (hb : Below w.heap.size w w') : Rdr w' sv cs := by
  rcases h with h | ⟨ad, c, h1, h2, h3⟩
  · exact .inl h
  · exact .inr ⟨ad, c, h1, Nat.lt_of_lt_of_le h2 hb.size, fun j u hu => (hb.cell (p := ad.add j) (by unfold Addr.add; split <;> exact h2)).trans (h3 j u hu)⟩
theorem Rdr.shape {w : World} {sv : Value} {cs : List M.Cl} (h : Rdr w sv cs) : ∃ a c, sv = .slice a cs.length c := by
  rcases h with ⟨h, e⟩ | ⟨ad, c, h1, _⟩
  · exact ⟨none, 0, by rw [e]; exact h⟩
  · exact ⟨_, _, h1⟩
theorem Rdr.read {w : World} {sv : Value} {cs : List M.Cl} (h : Rdr w sv cs) : (sv = .slice none 0 0 ∧ flat cs = []) ∨ ∃ ad c, sv = .slice (some ad) cs.length c ∧ ∀ j u, (flat cs)[j]? = some u → w.cell? (ad.add j) = some u := by
  rcases h with ⟨h, e⟩ | ⟨ad, c, h1, _, h3⟩
  · exact .inl ⟨h, by rw [e]; rfl⟩
  · exact .inr ⟨ad, c, h1, h3⟩
theorem Rdr.own {w : World} {base : Nat} {sv : Value} {cs : List M.Cl} (h : w.ownsRow base 111 5 sv cs.length (flat cs)) : Rdr w sv cs := by
  rcases rowN_read h (fun h => flat_nil_of h) with ⟨h1, h2⟩ | ⟨ad, c, h1, h2⟩
  · refine .inl ⟨h1, ?_⟩
    have := flat_length cs
    rw [h2] at this
    exact List.length_eq_zero_iff.1 (by simp at this; omega)
  · refine .inr ⟨ad, c, h1, ?_, h2⟩
    obtain ⟨q1, ⟨q2, _⟩ | ⟨g, cap, cur, e1, q3, q4, q5⟩⟩ := h
    · rw [h1] at q2; cases q2
    · rw [h1] at e1; cases e1
      exact (Array.getElem?_eq_some_iff.1 q4).1
set_option maxHeartbeats 1000000 in
theorem layPathR_any (sv : Value) (ahead : List M.Cl) (w : World) (hs : Rdr w sv ahead) (hn : ahead.length ≤ 1000) :
    Calls Tryz.prog 111 #[sv] w fun e w' => ∃ s, e = .returned s ∧ w'.ownsRow w.heap.size 111 5 s (ahead.length + 1) (flat (pathC ahead)) ∧ Below w.heap.size w w' := by
  obtain ⟨sa, sc, rfl⟩ := hs.shape
  obtain ⟨i0, hi, hz0, hz1, hz2⟩ := info_parts Tryz.info111
  obtain ⟨W0, hW0⟩ : ∃ W0, W0 = w.alloc (.cells #[.int .i64 5, .int .i64 0, .string { data := #[] }, .string { data := #[] }, .int .i64 ahead.length] 111) := ⟨_, rfl⟩
  have B0 : Below w.heap.size w W0 := by rw [hW0]; exact (Below.refl _ _).alloc (Nat.le_refl _) _
  have O0 := hide (show W0.ownsRow w.heap.size 111 5 (.slice (some ⟨w.heap.size, 0, none⟩) 1 1) 1 (flat [headCl 5 ahead.length]) by rw [hW0]; exact one_own w w.heap.size _ (headCl 5 ahead.length) rfl (Nat.le_refl _))
  have RD := hide (hs.below B0).read
  have HFL := hide (flat_length ahead)
  have hone := hide (flat_one ahead)
  have hb63 : 1 + ahead.length ≤ maxLen := by unfold maxLen; omega
  have hby : (1 + ahead.length) * 56 ≤ 140737488355328 := by omega
  have HPC := hide (show flat [headCl 5 ahead.length] ++ flat ahead = flat (pathC ahead) by rw [← flat_append]; rfl)
  have hbas := B0.size
  clear hs
  go_enter Tryz.func111, Tryz.ntmps111
  go_wp2_with (at_builtin; rw [← hW0]; refine wpList_rowN rfl (.tmp 6) (.tmp 7) 24 rfl 111 i0 _ 5 56 Tryz.underlying24 hi hz0 hz1 hz2 rfl (by decide) w.heap.size (.slice (some ⟨w.heap.size, 0, none⟩) 1 1) 1 _ rfl (unhide O0) (.slice sa ahead.length sc) rfl ahead.length (flat ahead) (unhide HFL) (unhide RD) (unhide hone) hb63 hby hbas ?_)
  intro v' w' ho hg _
  rw [← hW0] at hg
  rw [unhide HPC, Nat.add_comm] at ho
  have B1 : Below w.heap.size w w' := B0.grown hg hbas (fun q hq => by cases hq; exact Nat.le_refl _)
  have HO := hide ho
  obtain ⟨a, k, c, rfl⟩ := row_shape ho
  clear ho hg hW0 B0 O0 RD
  go_wp2_with fail
  go_ret
  exact ⟨_, rfl, unhide HO, B1⟩

end Al
namespace Sev
/-- An event as it is laid: steps, and perhaps a leaf. -/
def laid (cs : List M.Cl) (leaf : List (List M.Cl)) : List M.Cl := arrV (Al.pathC cs :: leaf)
theorem LV_one (w : World) (g : Nat) (s : Value) (b off c : Nat) (l : List M.Cl) (hg : g < w.heap.size) (h : w.cell? ⟨g, 0, none⟩ = some (.slice (some ⟨b, off, none⟩) l.length c)) (hc : l.length ≤ c) (hb : b < w.heap.size) (hr : Row w b off l) : LV w (some ⟨g, 0, none⟩) [l] := by
  intro i hi
  have : i = 0 := by simpa using hi
  subst this
  exact ⟨g, b, off, c, rfl, hg, h, hc, hb, hr⟩
theorem valid_one {a : List M.Cl} (h : M.valueFault a = 0) : ∀ j, j < [a].length → M.valueFault (([a] : List (List M.Cl)).getD j []) = 0 := by
  intro j hj
  have : j = 0 := by simpa using hj
  subst this; exact h
theorem valid_two {a b : List M.Cl} (h : M.valueFault a = 0) (k : M.valueFault b = 0) : ∀ j, j < [a, b].length → M.valueFault (([a, b] : List (List M.Cl)).getD j []) = 0 := by
  intro j hj
  have : j = 0 ∨ j = 1 := by simp at hj; omega
  rcases this with rfl | rfl
  · exact h
  · exact k
set_option maxHeartbeats 1000000 in
theorem layEvent_one (sv : Value) (cs : List M.Cl) (w : World) (h : Al.Rdr w sv cs) (hs : ∀ c ∈ cs, Pth.Stp c) (hl : cs.length ≤ 199) :
    Calls Tryz.prog 57 #[sv, .slice none 0 0] w fun e w' => ∃ s, e = .returned s ∧ Res w' w.heap.size s (laid cs []) ∧ Below w.heap.size w w' := by
  have HP := hide (Al.layPathR_any sv cs w h (by omega))
  have hpv := (Al.pathC_ok hs hl).1
  have hpl := Al.pathC_length cs
  have HLA := hide (fun W a (hL : LV W a [Al.pathC cs]) => layArrayV_any a 1 [Al.pathC cs] W hL (Nat.le_refl _) (by simp) (valid_one hpv))
  have eqn : ∀ a n c W, (binOp .eql 24 (.slice a n c) (.slice none 0 0)).run Tryz.prog W = .ok (.bool a.isNone) W := fun a n c W => eql_nil _ _ Tryz.underlying24 a n c W
  have HD := hide (show laid cs [] = arrV [Al.pathC cs] from rfl)
  have hlen : 1 ≤ (Al.pathC cs).length := by omega
  rw [← hpl] at HP
  rw [unhide HD]
  have hpl2 : (Al.pathC cs).length ≤ 200 := by omega
  clear h hs hpv hpl
  generalize Al.pathC cs = pc at *
  go_enter Tryz.func57, Tryz.ntmps57
  go_wp2_with fail
  refine (unhide HP).mono ?_
  rintro e w1 ⟨s, rfl, ho, hb1⟩
  obtain ⟨_, ⟨h1, h2⟩ | ⟨pb, pcap, e1, hlo, hpc, hog⟩⟩ := res_of_owns ho (by omega)
  · rw [h2] at hlen; simp at hlen
  subst e1
  obtain ⟨W2, hW2⟩ : ∃ W2, W2 = w1.alloc (.cells #[.slice (some ⟨pb, 0, none⟩) pc.length pcap] 24) := ⟨_, rfl⟩
  have b12 : Below w1.heap.size w1 W2 := by rw [hW2]; exact (Below.refl _ _).alloc (Nat.le_refl _) _
  have hLV : LV W2 (some ⟨w1.heap.size, 0, none⟩) [pc] := LV_one W2 _ (.slice none 0 0) pb 0 pcap pc (by rw [hW2]; simp) (by rw [hW2]; exact World.cell?_alloc_mark w1 _ _ (0, 0) 0) hpc (Nat.lt_of_lt_of_le hog.lt b12.size) (hog.below b12 hog.lt).row
  have HL2 := hide ((unhide HLA) W2 _ hLV)
  have B2 := hide (hb1.trans (b12.mono hb1.size))
  have hsz := (unhide B2).size
  clear ho hlo hog hLV HLA hb1 b12
  simp only [List.length_cons, List.length_nil, Nat.zero_add] at HL2
  go_wp2_with fail
  rw [← hW2]
  clear hW2
  refine (unhide HL2).mono ?_
  rintro e w3 ⟨s3, rfl, hr, hb3⟩
  have fin := hide (hr.mono hsz)
  have B3 := (unhide B2).trans (hb3.mono hsz)
  obtain ⟨xa, xn, xc, rfl⟩ := hr.shape
  clear HL2 hr hb3
  go_wp2_with fail
  go_ret
  exact ⟨_, rfl, unhide fin, B3⟩
set_option maxHeartbeats 1000000 in
theorem layEvent_two (sv : Value) (cs leaf : List M.Cl) (xb xo xc : Nat) (w : World) (h : Al.Rdr w sv cs) (hs : ∀ c ∈ cs, Pth.Stp c) (hl : cs.length ≤ 199) (hx : Row w xb xo leaf) (hxb : xb < w.heap.size) (hxc : leaf.length ≤ xc) (hxv : M.valueFault leaf = 0) :
    Calls Tryz.prog 57 #[sv, .slice (some ⟨xb, xo, none⟩) leaf.length xc] w fun e w' => ∃ s, e = .returned s ∧ Res w' w.heap.size s (laid cs [leaf]) ∧ Below w.heap.size w w' := by
  have HP := hide (Al.layPathR_any sv cs w h (by omega))
  have hpv := (Al.pathC_ok hs hl).1
  have hpl := Al.pathC_length cs
  have HLA := hide (fun W a (hL : LV W a [Al.pathC cs, leaf]) => layArrayV_any a 2 [Al.pathC cs, leaf] W hL (Nat.le_refl _) (by simp) (valid_two hpv hxv))
  have eqn : ∀ a n c W, (binOp .eql 24 (.slice a n c) (.slice none 0 0)).run Tryz.prog W = .ok (.bool a.isNone) W := fun a n c W => eql_nil _ _ Tryz.underlying24 a n c W
  have HD := hide (show laid cs [leaf] = arrV [Al.pathC cs, leaf] from rfl)
  have hlen : 1 ≤ (Al.pathC cs).length := by omega
  have HX := hide (fun W (h : Below w.heap.size w W) => hx.below h hxb)
  rw [← hpl] at HP
  rw [unhide HD]
  have hpl2 : (Al.pathC cs).length ≤ 200 := by omega
  clear h hs hpv hx hxv hpl
  generalize Al.pathC cs = pc at *
  go_enter Tryz.func57, Tryz.ntmps57
  go_wp2_with fail
  refine (unhide HP).mono ?_
  rintro e w1 ⟨s, rfl, ho, hb1⟩
  obtain ⟨_, ⟨h1, h2⟩ | ⟨pb, pcap, e1, hlo, hpc, hog⟩⟩ := res_of_owns ho (by omega)
  · rw [h2] at hlen; simp at hlen
  subst e1
  obtain ⟨W2, hW2⟩ : ∃ W2, W2 = w1.alloc (.cells #[.slice (some ⟨pb, 0, none⟩) pc.length pcap, .slice (some ⟨xb, xo, none⟩) leaf.length xc] 24) := ⟨_, rfl⟩
  have b12 : Below w1.heap.size w1 W2 := by rw [hW2]; exact (Below.refl _ _).alloc (Nat.le_refl _) _
  have hLV : LV W2 (some ⟨w1.heap.size, 0, none⟩) [pc, leaf] := by rw [hW2]; exact LV.two w1 w1.heap.size pb 0 pcap xb xo xc pc leaf 24 rfl hog.row hog.lt hpc ((unhide HX) w1 hb1) (Nat.lt_of_lt_of_le hxb hb1.size) hxc
  have HL2 := hide ((unhide HLA) W2 _ hLV)
  have B2 := hide (hb1.trans (b12.mono hb1.size))
  have hsz := (unhide B2).size
  clear ho hlo hog hLV HLA hb1 b12
  simp only [List.length_cons, List.length_nil, Nat.zero_add] at HL2
  go_wp2_with fail
  rw [← hW2]
  clear hW2
  refine (unhide HL2).mono ?_
  rintro e w3 ⟨s3, rfl, hr, hb3⟩
  have fin := hide (hr.mono hsz)
  have B3 := (unhide B2).trans (hb3.mono hsz)
  obtain ⟨ya, yn, yc, rfl⟩ := hr.shape
  clear HL2 hr hb3
  go_wp2_with fail
  go_ret
  exact ⟨_, rfl, unhide fin, B3⟩
end Sev
namespace Sev
/-- What is known of an event without a fault. -/
structure Evt (l : List M.Cl) : Prop where
  val : M.valueFault l = 0
  n12 : (l.getD 0 M.zero).n = 1 ∨ (l.getD 0 M.zero).n = 2
  path : Pth.fault (P l 0) = 0
  stp : ∀ c ∈ (P l 0).drop 1, Pth.Stp c
  len : ((P l 0).drop 1).length ≤ 199
  leaf : (l.getD 0 M.zero).n = 2 → M.valueFault (P l 1) = 0
theorem evt_of {l : List M.Cl} (hok : ∀ c ∈ l, c.ok) (h : fault l = 0) : Evt l := by
  have hv : M.valueFault l = 0 := by
    by_cases hv : M.valueFault l = 0
    · exact hv
    · rw [fault_bad hv] at h; exact absurd h hv
  by_cases hk : (l.getD 0 M.zero).kind ≠ 5 ∨ (l.getD 0 M.zero).n < 1 ∨ 2 < (l.getD 0 M.zero).n
  · rw [fault_kind hv hk] at h; cases h
  have h5 : (l.getD 0 M.zero).kind = 5 := by omega
  have hp : Pth.fault (P l 0) = 0 := by
    by_cases hp : Pth.fault (P l 0) = 0
    · exact hp
    · rw [fault_path hv h5 (by omega) (by omega) hp] at h; exact absurd h hp
  have hf := first_n hp
  refine ⟨hv, by omega, hp, (Pth.steps hp).2.2, by rw [List.length_drop]; omega, fun h2 => ?_⟩
  have hn := parts_n (l := l) (n := 2) h2
  exact (part_ok hv hok (j := 1) (by omega)).1
theorem SD.snoc {w2 w3 : World} {o : Obj} {B : Nat} {s v' sp : Value} {ps : List (List M.Cl)} {p : List M.Cl} {ss : List Value} (hl : ss.length = ps.length) (hown : w2.ownsRow B 24 1 s ps.length ss) (hres : ∀ i, i < ps.length → Res w2 B (ss.getD i (.slice none 0 0)) (ps.getD i []))
    (hdis : ∀ i j, i < j → j < ps.length → ∀ b, (ss.getD i (.slice none 0 0)).ownBlock = some b → (ss.getD j (.slice none 0 0)).ownBlock ≠ some b) (hp : Res w2 B sp p) (hnew : ∀ j, j < ps.length → ∀ b, (ss.getD j (.slice none 0 0)).ownBlock = some b → sp.ownBlock ≠ some b)
    (hg : (w2.alloc o).grownBy w3 s.ownBlock) (ho : w3.ownsRow B 24 1 v' (ps.length + 1) (ss ++ [sp])) : SD w3 B v' (ps ++ [p]) := by
  have keep : ∀ (r : Value) (l : List M.Cl), Res w2 B r l → Res w3 B r l := fun r l h => grown_res (hown.alloc o) hg (h.alloc o) (by decide)
  refine ⟨ss ++ [sp], by simp [hl], by simpa using ho, fun i hi => ?_, fun i j h1 h2 b => ?_⟩
  · rw [List.length_append] at hi
    simp only [List.length_cons, List.length_nil] at hi
    by_cases e : i < ps.length
    · rw [List.getD_eq_getElem?_getD, List.getElem?_append_left (by omega), ← List.getD_eq_getElem?_getD, List.getD_eq_getElem?_getD (l := ps ++ [p]), List.getElem?_append_left e, ← List.getD_eq_getElem?_getD]
      exact keep _ _ (hres i e)
    · obtain rfl : i = ps.length := by omega
      rw [List.getD_eq_getElem?_getD, List.getElem?_append_right (by omega), hl, Nat.sub_self, List.getD_eq_getElem?_getD (l := ps ++ [p]), List.getElem?_append_right (Nat.le_refl _), Nat.sub_self]
      exact keep _ _ hp
  · rw [List.length_append] at h2
    simp only [List.length_cons, List.length_nil] at h2
    rw [List.getD_eq_getElem?_getD, List.getElem?_append_left (by omega), ← List.getD_eq_getElem?_getD]
    by_cases e : j = ps.length
    · rw [List.getD_eq_getElem?_getD (l := ss ++ _), List.getElem?_append_right (by omega), show j - ss.length = 0 from by omega]
      exact hnew i (by omega) b
    · rw [List.getD_eq_getElem?_getD (l := ss ++ _), List.getElem?_append_left (by omega), ← List.getD_eq_getElem?_getD]
      exact hdis i j h1 (by omega) b
end Sev
end Go.Proofs.YtcglddahphkcpaaGreatDoor

namespace Go.Proofs.YtcglddahphkcpaaGreatDoor
open Go.RowKit
set_option linter.unusedVariables false
set_option linter.unusedSimpArgs false
namespace Sev
set_option maxRecDepth 100000 in
set_option maxHeartbeats 1000000 in
theorem implStreamV_any (a : Option Addr) (cap : Nat) (ps : List (List M.Cl)) (w : World) (hL : LV w a ps) (hn : ps.length ≤ 1048576) (hln : tot ps ps.length ≤ 1048576) (hok : OkS ps) :
    Calls Tryz.prog 23 #[.slice a ps.length cap] w (AnsR w (faults ps)) := by
  have HL := hide hL
  have OK := hide hok
  have HN := hide hln
  clear hL hok hln
  have HB0 := hide (fun o => (show Below w.heap.size w (w.alloc o) from (Below.refl _ _).alloc (Nat.le_refl _) o))
  by_cases hm : ps.length < 1 ∨ 200 < ps.length
  · have fin := hide (faults_many hm)
    by_cases hm1 : ps.length < 1
    · have hmI : (ps.length : Int) < 1 := by omega
      clear hm HL
      go_enter Tryz.func23, Tryz.ntmps23
      go_wp2_with fail
      refine bodyPost_ret (v := .agg #[.int .i64 2, .int .i64 0, .slice none 0 0]) (by simp [results, Tryz.results23, go_sem]) rfl (ansR_of (unhide fin) (resNil _ _) ((unhide HB0) _))
    · have hmI : (200 : Int) < (ps.length : Int) := by omega
      clear hm HL
      go_enter Tryz.func23, Tryz.ntmps23
      go_wp2_with fail
      refine bodyPost_ret (v := .agg #[.int .i64 2, .int .i64 0, .slice none 0 0]) (by simp [results, Tryz.results23, go_sem]) rfl (ansR_of (unhide fin) (resNil _ _) ((unhide HB0) _))
  have FF := hide (faults_few hm)
  have hmI : (1 : Int) ≤ (ps.length : Int) := by omega
  have hmJ : (ps.length : Int) ≤ 200 := by omega
  clear hm
  go_enter Tryz.func23, Tryz.ntmps23
  go_wp2_with fail
  go_loopg [17] ps.length (fun gh s17 wr => ∃ k : Nat, Hid (gh = ps.length - k) ∧ s17 = .int .i64 k ∧ k ≤ ps.length ∧ Hid (∀ j, j < k → fault (ps.getD j []) = 0) ∧ Own wr w.heap.size 26 [.int .i64 0, .int .i64 0, .slice none 0 0] ∧ Below w.heap.size w wr)
  case atStart => exact ⟨0, rfl, rfl, by omega, fun j hj => absurd hj (by omega), ⟨_, heap_alloc_new _ _, rfl⟩, (unhide HB0) _⟩
  case round =>
    obtain ⟨k, hg, rfl, hk, hall, hR, hbel⟩ := hrel
    by_cases hlt : k < ps.length
    · obtain ⟨g, b, off, cc, rfl, hg0, f0, hcc, hb, hr⟩ := ((unhide HL).below hbel) k hlt
      have hq := Nat.le_trans (len_le ps k hlt) (unhide HN)
      have hok := (unhide OK) k hlt
      have hhit := hide (fun hz => (unhide FF).trans (first_hit ps 0 k hlt hall.out hz))
      have hnext := hide (fun (h0 : fault (ps.getD k []) = 0) j (hj : j < k + 1) => show fault (ps.getD j []) = 0 by
        by_cases e : j = k
        · subst e; exact h0
        · exact hall.out j (by omega))
      have HE := hide (implEvent_any (ps.getD k []) b off cc wr hr hb hq hcc hok)
      have hltI : (k : Int) < (ps.length : Int) := by omega
      clear hok hr hall FF
      generalize ps.getD k [] = p at *
      go_wp2_with fail
      refine (unhide HE).mono ?_
      rintro e1 w1 ⟨rfl, hb1⟩
      have hR1 := hR.below hb1 hR.lt
      have B1 : Below w.heap.size w w1 := hbel.trans (hb1.mono hbel.size)
      clear f0 hb1 hR hbel HE
      generalize hqq : fault p = q at *
      by_cases hz : q = 0
      · subst hz
        have hn2 := hide ((unhide hnext) rfl)
        clear hhit hnext
        go_wp2_with fail
        go_roundg (ps.length - (k + 1))
        case rel => exact ⟨k + 1, rfl, by go_num, by omega, unhide hn2, hR1, B1⟩
        case measure => have := hg.out; omega
      · have fin := hide ((unhide hhit) hz)
        rw [Nat.zero_add] at fin
        have hz' : (q == 0) = false := by simp [hz]
        have r0 := hR1.cell 0
        have r1 := hR1.cell 1
        have r2 := hR1.cell 2
        have z0 := hR1.frozen 0
        have z1 := hR1.frozen 1
        have z2 := hR1.frozen 2
        simp only [List.getElem?_cons_zero, List.getElem?_cons_succ] at r0 r1 r2
        clear hhit hnext hqq
        go_wp2_with fail
        refine bodyPost_ret (v := .agg #[.int .i64 q, .int .i64 k, .slice none 0 0]) (by simp [results, Tryz.results23, go_sem, r0, r1, r2]) rfl (ansR_of (unhide fin) (resNil _ _) (below3 B1 _ _ _))
    · have hke : k = ps.length := by omega
      have hv : ∀ j, j < ps.length → fault (ps.getD j []) = 0 := by rw [← hke]; exact hall.out
      have fin := hide ((unhide FF).trans (first_none ps 0 hv))
      have r0 := hR.cell 0
      have r1 := hR.cell 1
      have r2 := hR.cell 2
      have z0 := hR.frozen 0
      have z1 := hR.frozen 1
      have z2 := hR.frozen 2
      simp only [List.getElem?_cons_zero, List.getElem?_cons_succ] at r0 r1 r2
      clear hke hv hall
      go_wp2_with fail
      refine bodyPost_ret (v := .agg #[.int .i64 0, .int .i64 0, .slice none 0 0]) (by simp [results, Tryz.results23, go_sem, r0, r1, r2]) rfl (ansR_of (unhide fin) (resNil _ _) (below3 hbel _ _ _))

end Sev
end Go.Proofs.YtcglddahphkcpaaGreatDoor

namespace Go.Proofs.YtcglddahphkcpaaGreatDoor
open Go.RowKit
set_option linter.unusedVariables false
set_option linter.unusedSimpArgs false
namespace Sev
/-- The steps of a path, as parts. -/
theorem pathPartsR (p : List M.Cl) (hp : Pth.fault p = 0) (b o vc : Nat) (w : World) (hr : Row w b o p) (hb : b < w.heap.size) (hcap : p.length ≤ vc) (hok : ∀ c ∈ p, c.ok) :
    Calls Tryz.prog 34 #[.slice (some ⟨b, o, none⟩) p.length vc] w fun e w' => ∃ a c, e = .returned (.slice a (p.drop 1).length c) ∧ (p.drop 1).length ≤ c ∧ c ≤ 9223372036854775807 ∧ Pth.PL w' a (p.drop 1) ∧ Below w.heap.size w w' := by
  have hpv := (Pth.fault_no hp).1
  have hst := Pth.steps hp
  refine (l1Parts_any p b o vc w hpv hr hb hcap hok).mono ?_
  rintro e w1 ⟨s, rfl, hss, hb1⟩
  have hcm : ∀ a n c, s = .slice a n c → c ≤ 9223372036854775807 := by
    intro a n c e
    subst e
    obtain ⟨ss, _, ⟨_, h2 | ⟨g, c2, cur, h3, _, _, _, h7, _⟩⟩, _⟩ := hss
    · simp only [Value.slice.injEq] at h2; omega
    · simp only [Value.slice.injEq] at h3; unfold maxLen at h7; omega
  obtain ⟨a, c, rfl, hac, hlv⟩ := hss.lv (subs_all hpv hok).2.2.2
  rw [hst.1] at hac hcm ⊢
  exact ⟨a, c, rfl, hac, hcm _ _ _ rfl, Pth.pl_of hst.1 hst.2.1 hlv, hb1⟩
end Sev
end Go.Proofs.YtcglddahphkcpaaGreatDoor
