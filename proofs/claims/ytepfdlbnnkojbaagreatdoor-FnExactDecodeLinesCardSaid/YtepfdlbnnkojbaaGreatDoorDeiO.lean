/-
  The reader of values: what a call leaves of it, and of rows that are built beside it.
  impl: the key of a member and its colon.
  impl.layArray and spec.l1Array of parts that are not asked for a fault, of no more cells than a text has bytes.
  impl: an array.
  impl.layObject of texts and lists that lie anywhere.
  impl.layObject of parts that are not asked for a fault, of no more cells than a text has bytes.
  impl: an object.
-/
import Derived.Test.YtepfdlbnnkojbaaGreatDoorDecL
import Derived.Test.YtepfdlbnnkojbaaGreatDoorWhoN
import Derived.Test.YtepfdlbnnkojbaaGreatDoorSkipT
import Derived.Test.YtepfdlbnnkojbaaGreatDoorLvT
import Derived.Test.YtepfdlbnnkojbaaGreatDoorObjN
namespace Go.Proofs.YtepfdlbnnkojbaaGreatDoor
open Go.RowKit
set_option linter.unusedVariables false
set_option linter.unusedSimpArgs false


/-- The library's variable that strconv.ParseInt reads. -/
def ErrCell (w : World) (b : Nat) : Prop := ∃ ev : Value, (ev = .nilIface ∨ ∃ te pe, ev = .iface te pe) ∧ 5 < w.heap.size ∧ 5 ≠ b ∧ w.cell? ⟨5, 0, none⟩ = some ev
theorem ErrCell.tch {w w' : World} {b B : Nat} (h : ErrCell w b) (ht : Tch B b w w') (hB : w.heap.size ≤ B) : ErrCell w' b := by
  obtain ⟨ev, h1, h2, h3, h4⟩ := h
  exact ⟨ev, h1, Nat.lt_of_lt_of_le h2 ht.size, h3, (ht.cell 5 0 (by omega) h3).trans h4⟩
/-- The reader stands at place k, d deep; of what was there ahead of the call only its own block turned. -/
structure Vs (w wr : World) (b : Nat) (s : ByteArray) (k d : Nat) : Prop where
  rd : Rd wr b 44 s k [.int .i64 (d : Int)]
  tch : Tch w.heap.size b w wr
theorem Vs.start {w : World} {b : Nat} {s : ByteArray} {k d : Nat} (h : Rd w b 44 s k [.int .i64 (d : Int)]) : Vs w w b s k d := ⟨h, Tch.refl _ _ _⟩
theorem Vs.go {w wr w2 : World} {b : Nat} {s : ByteArray} {k k2 d : Nat} (h : Vs w wr b s k d) (hr : Rd w2 b 44 s k2 [.int .i64 (d : Int)]) (ht : Tch wr.heap.size b wr w2) : Vs w w2 b s k2 d := ⟨hr, h.tch.trans (ht.mono h.tch.size)⟩
theorem Vs.drewN {w wr : World} {b : Nat} {s : ByteArray} {k d : Nat} (h : Vs w wr b s k d) (q : Nat) : Vs w (wr.drewN q) b s k d := ⟨h.rd.drewN q, h.tch.drewN q⟩
theorem Vs.step {w wr : World} {b : Nat} {s : ByteArray} {k d : Nat} (h : Vs w wr b s k d) : Vs w (wr.setCell ⟨b, 1, none⟩ (.int .i64 ((k : Int) + 1))) b s (k + 1) d := ⟨h.rd.step, h.tch.trans (Tch.set _ _ _ _ _)⟩
theorem Vs.below {w wr w2 : World} {b : Nat} {s : ByteArray} {k d : Nat} (h : Vs w wr b s k d) (hb : Below wr.heap.size wr w2) : Vs w w2 b s k d := ⟨h.rd.below hb h.rd.lt, h.tch.trans (Tch.of_below (hb.mono h.tch.size))⟩
theorem Vs.alloc {w wr : World} {b : Nat} {s : ByteArray} {k d : Nat} (h : Vs w wr b s k d) (o : Obj) : Vs w (wr.alloc o) b s k d := h.below ((Below.refl _ _).alloc (Nat.le_refl _) o)
theorem Vs.grown {w wr w2 : World} {b : Nat} {s : ByteArray} {k d : Nat} {row : Option Nat} (h : Vs w wr b s k d) (hb : b < w.heap.size) (hg : wr.grownBy w2 row) (hr : ∀ k, row = some k → w.heap.size ≤ k) : Vs w w2 b s k d := ⟨h.rd.grown hg (fun e => by have := hr b e; omega), h.tch.grown hg h.tch.size hr⟩
theorem Vs.err {w wr : World} {b : Nat} {s : ByteArray} {k d : Nat} (h : Vs w wr b s k d) (he : ErrCell w b) : ErrCell wr b := he.tch h.tch (Nat.le_refl _)
theorem Vs.trans {w wr w2 : World} {b : Nat} {s : ByteArray} {k k2 d : Nat} (h : Vs w wr b s k d) (h2 : Vs wr w2 b s k2 d) : Vs w w2 b s k2 d := h.go h2.rd h2.tch
theorem res_tch {w w' : World} {b B C : Nat} {s : Value} {l : List M.Cl} (h : Res w C s l) (ht : Tch B b w w') (hB : w.heap.size ≤ B) (hb : b < C) : Res w' C s l := by
  obtain ⟨hn, h | ⟨g, cap, h1, h2, h3, ⟨ys, ⟨c, hc, e⟩, h5⟩⟩⟩ := h
  · exact ⟨hn, .inl h⟩
  · exact ⟨hn, .inr ⟨g, cap, h1, h2, h3, ⟨ys, ⟨c, (ht.block g (Nat.lt_of_lt_of_le (Array.getElem?_eq_some_iff.1 hc).1 hB) (by omega)).trans hc, e⟩, h5⟩⟩⟩
theorem Dc.Rw.tch {wr w2 : World} {b B C : Nat} {sk sl : Value} {ks : List ByteArray} {ps : List (List M.Cl)} (h : Dc.Rw wr C sk sl ks ps) (ht : Tch B b wr w2) (hB : wr.heap.size ≤ B) (hb : b < C) : Dc.Rw w2 C sk sl ks ps := by
  obtain ⟨hk, ⟨ss, hl, ho, hr⟩⟩ := h
  exact ⟨ht.owns hk hB hb, ⟨ss, hl, ht.owns ho hB hb, fun i hi => res_tch (hr i hi) ht hB hb⟩⟩
/-- What a reader of a value leaves: 'at_' tells where it stands behind one that ends at m. -/
def VLeft (at_ : Nat → Nat) (R : J.Rv) (w : World) (b : Nat) (s : ByteArray) (d : Nat) (e : Ending) (w' : World) : Prop :=
  (∃ v m sv, R = .inr (v, m) ∧ e = .returned (.tuple #[sv, .nilIface]) ∧ Res w' w.heap.size sv v ∧ Vs w w' b s (at_ m) d) ∨ (∃ (c : Int) (m q : Nat) (a : Option Addr) (n cp : Nat), R = .inl (c, m) ∧ e = .returned (.tuple #[.slice a n cp, .iface 50 (.agg #[.int .i64 c, .int .i64 (m : Int)])]) ∧ q ≤ s.size ∧ Vs w w' b s q d)

end Go.Proofs.YtepfdlbnnkojbaaGreatDoor

namespace Go.Proofs.YtepfdlbnnkojbaaGreatDoor
open Go.RowKit
set_option linter.unusedVariables false
set_option linter.unusedSimpArgs false


def KLeft (R : (Int × Nat) ⊕ (ByteArray × Nat)) (w : World) (b : Nat) (s : ByteArray) (d : Nat) (e : Ending) (w' : World) : Prop :=
  (∃ key m, R = .inr (key, m) ∧ e = .returned (.tuple #[.string key, .nilIface]) ∧ Vs w w' b s m d) ∨ (∃ (c : Int) (m q : Nat), R = .inl (c, m) ∧ e = .returned (.tuple #[.string ByteArray.empty, .iface 50 (.agg #[.int .i64 c, .int .i64 (m : Int)])]) ∧ q ≤ s.size ∧ Vs w w' b s q d)
set_option maxRecDepth 100000 in
set_option maxHeartbeats 2000000 in
theorem key_any (b d : Nat) (s : ByteArray) (k : Nat) (w : World) (h : Rd w b 44 s k [.int .i64 (d : Int)]) (hk : k ≤ s.size) (hs : s.size ≤ 4000) :
    Calls Tryz.prog 73 #[.pointer (some ⟨b, 0, none⟩)] w (KLeft (J.keyR s (J.skip s k)) w b s d) := by
  have hs' : s.size ≤ 1048576 := by omega
  have V0 := Vs.start h
  have hsk := J.skip_le s k hk
  have HKR := hide (show J.keyR s (J.skip s k) = (match J.quotR s (J.skip s k) with | .inl p => .inl p | .inr (l, e) => if J.peek s (J.skip s e) = 58 then .inr (⟨l.toArray⟩, J.skip s e + 1) else .inl (5, J.skip s e)) from rfl)
  generalize J.keyR s (J.skip s k) = RR at *
  go_enter Tryz.func73, Tryz.ntmps73
  go_wp2_with fail
  refine (skipBlanks_any b 44 s k _ _ h hk hs').mono ?_
  rintro e w1 ⟨rfl, hr1, ht1⟩
  have V1 := V0.go hr1 ht1
  clear h V0 hr1 ht1
  go_wp2_with fail
  refine (quoted_any b 44 s (J.skip s k) _ _ V1.rd hsk hs').mono ?_
  rintro e w2 ⟨hleft, ht2⟩
  rcases hleft with ⟨l, m, hm, rfl, hms, hr2⟩ | ⟨c, m, q, hm, rfl, hq, hr2⟩
  · have V2 := V1.go hr2 ht2
    rw [hm] at HKR
    have hsm := J.skip_le s m hms
    clear V1 hr2 ht2 hm
    go_wp2_with fail
    refine (skipBlanks_any b 44 s m _ _ V2.rd hms hs').mono ?_
    rintro e w3 ⟨rfl, hr3, ht3⟩
    have V3 := V2.go hr3 ht3
    clear V2 hr3 ht3
    by_cases hc : J.peek s (J.skip s m) = 58
    · have fin := hide ((unhide HKR).trans (if_pos hc))
      go_wp2_with fail
      refine (take_yes b 44 s (J.skip s m) 58 _ _ V3.rd hs' (by decide) hc).mono ?_
      rintro e w4 ⟨rfl, hr4, ht4⟩
      have V4 := V3.go hr4 ht4
      clear V3 hr4 ht4
      go_wp2_with fail
      go_ret2
      exact .inl ⟨_, _, unhide fin, rfl, V4⟩
    · have fin := hide ((unhide HKR).trans (if_neg hc))
      go_wp2_with fail
      refine (take_no b 44 s (J.skip s m) 58 _ _ V3.rd hsm hs' hc).mono ?_
      rintro e w4 ⟨rfl, q4, hw4⟩
      have V4 : Vs w w4 b s (J.skip s m) d := by rw [hw4]; exact V3.drewN q4
      clear V3 hw4
      go_wp2_with fail
      refine (stuck_any b 44 s (J.skip s m) _ _ V4.rd).mono ?_
      rintro e w5 ⟨rfl, hr5, ht5⟩
      have V5 := V4.go hr5 ht5
      clear V4 hr5 ht5
      go_wp2_with fail
      go_ret2
      exact .inr ⟨5, _, _, unhide fin, rfl, hsm, V5⟩
  · have V2 := V1.go hr2 ht2
    rw [hm] at HKR
    have fin := hide (unhide HKR)
    clear V1 hr2 ht2 hm HKR
    go_wp2_with fail
    go_ret2
    exact .inr ⟨c, m, q, unhide fin, rfl, hq, V2⟩

end Go.Proofs.YtepfdlbnnkojbaaGreatDoor

namespace Go.Proofs.YtepfdlbnnkojbaaGreatDoor
open Go.RowKit
set_option linter.unusedVariables false

set_option maxHeartbeats 1000000 in
theorem layArrayB_any (a : Option Addr) (cap : Nat) (ps : List (List M.Cl)) (w : World) (hL : LV w a ps) (hcap : ps.length ≤ cap) (hn : ps.length ≤ 4096) (ht : tot ps ps.length ≤ 8192) (hv : ∀ j, j < ps.length → Bare (ps.getD j [])) :
    Calls Tryz.prog 71 #[.slice a ps.length cap] w fun e w' => ∃ s, e = .returned s ∧ Res w' w.heap.size s (arrV ps) ∧ Below w.heap.size w w' := by
  have HL := hide hL
  have HV := hide hv
  clear hL hv
  go_enter Tryz.func71, Tryz.ntmps71
  go_wp2_with fail
  go_loopg [3, 12] ps.length (fun gh s3 s12 wr => ∃ k : Nat, Hid (gh = ps.length - k) ∧ s12 = .int .i64 k ∧ k ≤ ps.length ∧ wr.ownsRow w.heap.size 81 5 s3 (arrK ps k).length (flat (arrK ps k)) ∧ Below w.heap.size w wr)
  case atStart => exact ⟨0, rfl, rfl, by omega, one_own w w.heap.size _ (headCl 5 ps.length) rfl (Nat.le_refl _), (Below.refl _ _).alloc (Nat.le_refl _) _⟩
  case round =>
    obtain ⟨k, hg, rfl, hk, hown, hbel⟩ := hrel
    by_cases hlt : k < ps.length
    · obtain ⟨g, b, off, c, rfl, hgl, f0, hc, hb, hr⟩ := ((unhide HL).below hbel) k hlt
      have hpf := (unhide HV) k hlt
      have hp := hpf.1
      have hal := arrK_length ps k
      have hts := tot_part ps k hlt
      have hpn : ps.getD k [] ≠ [] := by intro e; rw [e] at hp; simp at hp
      have HAP := hide (appendPart_any w.heap.size u3 (arrK ps k) (ps.getD k []) b off c ByteArray.empty wr hown hr hpn (by omega) hbel.size)
      rw [hpf.2, ← arrK_succ ps k hlt] at HAP
      clear hown hr hpn hpf hal hts
      generalize ps.getD k [] = p at *
      go_wp2_with fail
      refine (unhide HAP).mono ?_
      rintro e2 w2 ⟨v', rfl, ho2, hb2⟩
      have B2 : Below w.heap.size w w2 := hbel.trans hb2
      have HO2 := hide ho2
      clear ho2 hb2 f0 HAP
      go_wp2_with fail
      go_roundg (ps.length - (k + 1))
      case rel => exact ⟨k + 1, rfl, by go_num, by omega, unhide HO2, B2⟩
      case measure => have := hg.out; omega
    · have hke : k = ps.length := by omega
      have hal := arrK_length ps k
      have hts := tot_le ps ps.length k hk (Nat.le_refl _)
      have fin := hide (show Res wr w.heap.size u3 (arrV ps) by unfold arrV; rw [← hke]; exact res_of_owns hown (by omega))
      clear hke hown hal hts
      go_wp2_with fail
      go_ret
      exact ⟨_, rfl, unhide fin, hbel⟩

set_option maxHeartbeats 1000000 in
theorem l1ArrayB_any (a : Option Addr) (cap : Nat) (ps : List (List M.Cl)) (w : World) (hL : LV w a ps) (hcap : ps.length ≤ cap) (hn : ps.length ≤ 4096) (ht : tot ps ps.length ≤ 8192) (hv : ∀ j, j < ps.length → Bare (ps.getD j [])) :
    Calls Tryz.prog 46 #[.slice a ps.length cap] w fun e w' => ∃ s, e = .returned s ∧ Res w' w.heap.size s (arrV ps) ∧ Below w.heap.size w w' := by
  have HL := hide hL
  have HV := hide hv
  clear hL hv
  obtain ⟨i0, hi, hz0, hz1, hz2⟩ := info_parts Tryz.info81
  go_enter Tryz.func46, Tryz.ntmps46
  go_wp2_with fail
  go_loopg [3, 4] ps.length (fun gh s3 s4 wr => ∃ k : Nat, Hid (gh = ps.length - k) ∧ s4 = .int .i64 k ∧ k ≤ ps.length ∧ wr.ownsRow w.heap.size 81 5 s3 (arrK ps k).length (flat (arrK ps k)) ∧ Below w.heap.size w wr)
  case atStart => exact ⟨0, rfl, rfl, by omega, one_own w w.heap.size _ (headCl 5 ps.length) rfl (Nat.le_refl _), (Below.refl _ _).alloc (Nat.le_refl _) _⟩
  case round =>
    obtain ⟨k, hg, rfl, hk, hown, hbel⟩ := hrel
    by_cases hlt : k < ps.length
    · obtain ⟨g, b, off, c, rfl, hgl, f0, hc, hb, hr⟩ := ((unhide HL).below hbel) k hlt
      have hp := ((unhide HV) k hlt).1
      have hal := arrK_length ps k
      have hts := tot_part ps k hlt
      have hsucc := hide (show flat (arrK ps k) ++ flat (ps.getD k []) = flat (arrK ps (k + 1)) by rw [arrK_succ ps k hlt, flat_append])
      have hsl := hide (show (arrK ps k).length + (ps.getD k []).length = (arrK ps (k + 1)).length by rw [arrK_succ ps k hlt, List.length_append])
      have hnews := hide (row_words hr)
      have hone := hide (flat_one (ps.getD k []))
      have HFL := hide (flat_length (ps.getD k []))
      clear hr
      generalize ps.getD k [] = p at *
      have hb63 : (arrK ps k).length + p.length ≤ maxLen := by unfold maxLen; omega
      have hby : ((arrK ps k).length + p.length) * 56 ≤ 140737488355328 := by omega
      have hbse := hide (ownsRow_base hown)
      have HOWN := hide hown
      have hbase := hbel.size
      clear hown hal hts
      go_wp2_with (at_builtin; refine wpList_append_own _ rfl (.tmp 15) (.tmp 19) 22 rfl w.heap.size 81 i0 _ 5 56 Tryz.underlying22 hi hz0 hz1 hz2 rfl (by decide) _ (arrK ps k).length _ rfl (unhide HOWN) ⟨b, off, none⟩ p.length c (flat p) rfl (unhide HFL) (unhide hnews) (unhide hone) hb63 hby hbase ?_)
      intro v' w2 ho2 hg2 _
      rw [unhide hsucc, unhide hsl] at ho2
      have B2 : Below w.heap.size w w2 := hbel.grown hg2 hbase (unhide hbse)
      have HO2 := hide ho2
      clear ho2 hg2 f0
      go_wp2_with fail
      go_roundg (ps.length - (k + 1))
      case rel => exact ⟨k + 1, rfl, by go_num, by omega, unhide HO2, B2⟩
      case measure => have := hg.out; omega
    · have hke : k = ps.length := by omega
      have hal := arrK_length ps k
      have hts := tot_le ps ps.length k hk (Nat.le_refl _)
      have fin := hide (show Res wr w.heap.size u3 (arrV ps) by unfold arrV; rw [← hke]; exact res_of_owns hown (by omega))
      clear hke hown hal hts
      go_wp2_with fail
      go_ret
      exact ⟨_, rfl, unhide fin, hbel⟩

end Go.Proofs.YtepfdlbnnkojbaaGreatDoor

namespace Go.Proofs.YtepfdlbnnkojbaaGreatDoor
open Go.RowKit
set_option linter.unusedVariables false
set_option linter.unusedSimpArgs false


/-- What the program's loop over a list holds. -/
structure Am (rec : Nat → J.Rv) (s : ByteArray) (obj : Bool) (R : J.Rv) (w wr : World) (b d i g : Nat) (sk sl : Value) (ks : List ByteArray) (ps : List (List M.Cl)) : Prop where
  says : R = J.elemsR rec s obj (g + 1) (J.skip s i) ks ps
  fuel : s.size < g + 1 + i
  le : i ≤ s.size
  pl : J.Pl obj i ks ps
  vs : Vs w wr b s i d
  rows : Dc.Rw wr w.heap.size sk sl ks ps
/-- Behind an element. -/
structure At (rec : Nat → J.Rv) (s : ByteArray) (obj : Bool) (R : J.Rv) (i g : Nat) (ks : List ByteArray) (ps : List (List M.Cl)) : Prop where
  says : R = J.tailR rec s obj g i ks ps
  fuel : s.size < g + 1 + i
  le : i ≤ s.size
  pl : J.Pl obj i ks ps
theorem Am.next {rec : Nat → J.Rv} {s : ByteArray} {obj : Bool} {R : J.Rv} {w wr : World} {b d i g j e : Nat} {sk sl : Value} {ks key : List ByteArray} {ps : List (List M.Cl)} {v : List M.Cl} (h : Am rec s obj R w wr b d i g sk sl ks ps) (hh : J.headR s obj (J.skip s i) = .inr (key, j)) (hr : rec j = .inr (v, e)) (hf : J.Fit s j (.inr (v, e))) (hb : Bare v) : At rec s obj R (J.skip s e) g (ks ++ key) (ps ++ [v]) ∧ i < J.skip s e := by
  have f1 := J.headR_fit s obj (J.skip s i) (J.skip_le s i h.le)
  rw [hh] at f1
  obtain ⟨f2, f3, f4, f5⟩ := f1
  obtain ⟨e1, e2, e3, e4⟩ := hf
  have h1 := h.fuel
  have h3 := J.skip_ge s e
  have h4 := J.skip_ge s i
  exact ⟨⟨h.says.trans (J.elems_yes hh hr), by omega, J.skip_le s e e2, h.pl.next (by omega) ⟨e1, e2, e3, e4⟩ hb f5⟩, by omega⟩
theorem At.comma {rec : Nat → J.Rv} {s : ByteArray} {obj : Bool} {R : J.Rv} {w wr : World} {b d i g : Nat} {sk sl : Value} {ks : List ByteArray} {ps : List (List M.Cl)} (h : At rec s obj R i g ks ps) (hc : J.peek s i = 44) (hv : Vs w wr b s (i + 1) d) (hr : Dc.Rw wr w.heap.size sk sl ks ps) : ∃ g', Am rec s obj R w wr b d (i + 1) g' sk sl ks ps := by
  have h1 := h.fuel
  have h2 := J.peek_lt s i 44 (by decide) hc
  obtain ⟨g', rfl⟩ : ∃ g', g = g' + 1 := ⟨g - 1, by omega⟩
  exact ⟨g', h.says.trans (J.tail_comma hc), by omega, by omega, h.pl.mono (by omega), hv, hr⟩
theorem At.last {rec : Nat → J.Rv} {s : ByteArray} {obj : Bool} {R : J.Rv} {i g : Nat} {ks : List ByteArray} {ps : List (List M.Cl)} (h : At rec s obj R i g ks ps) (hc : J.peek s i = J.lastB obj) : R = .inr (J.madeV obj ks ps, i + 1) := h.says.trans (J.tail_last hc)
theorem At.no {rec : Nat → J.Rv} {s : ByteArray} {obj : Bool} {R : J.Rv} {i g : Nat} {ks : List ByteArray} {ps : List (List M.Cl)} (h : At rec s obj R i g ks ps) (hl : J.peek s i ≠ J.lastB obj) (hc : J.peek s i ≠ 44) : R = .inl (5, i) := h.says.trans (J.tail_no hl hc)

set_option maxRecDepth 100000 in
set_option maxHeartbeats 8000000 in
theorem array_any (rec : Nat → J.Rv) (b d : Nat) (s : ByteArray) (k : Nat) (w : World) (h : Rd w b 44 s k [.int .i64 (d : Int)]) (her : ErrCell w b) (hk : J.peek s k = 91) (hs : s.size ≤ 4000)
    (hval : ∀ j w, j ≤ s.size → Rd w b 44 s j [.int .i64 (d : Int)] → ErrCell w b → Calls Tryz.prog 34 #[.pointer (some ⟨b, 0, none⟩)] w (VLeft (J.skip s) (rec (J.skip s j)) w b s d))
    (hfit : ∀ j, j ≤ s.size → J.Fit s j (rec j)) (hbare : ∀ j v e, rec j = .inr (v, e) → Bare v) :
    Calls Tryz.prog 64 #[.pointer (some ⟨b, 0, none⟩)] w (VLeft id (J.manyR rec s false (J.skip s (k + 1))) w b s d) := by
  have hs' : s.size ≤ 1048576 := by omega
  have hlt := J.peek_lt s k 91 (by decide) hk
  have hbw := h.lt
  have V0 := Vs.start h
  have q1 := h.cell 1
  have z1 := h.frozen 1
  simp only [List.getElem?_cons_zero, List.getElem?_cons_succ] at q1
  have HVAL := hide hval
  have HFIT := hide hfit
  have HBARE := hide hbare
  have HER := hide her
  have hsk := J.skip_le s (k + 1) (by omega)
  have hskk := hide (J.skip_skip s (k + 1))
  obtain ⟨K, hK⟩ : ∃ K, K = J.skip s (k + 1) := ⟨_, rfl⟩
  rw [← hK] at hsk hskk
  have HML := hide (fun hl => J.many_last (rec := rec) (s := s) (obj := false) (i := J.skip s (k + 1)) hl)
  have HMG := hide (fun hl => J.many_go (rec := rec) (s := s) (obj := false) (i := J.skip s (k + 1)) hl)
  rw [← hK] at HML HMG
  rw [← hK]
  generalize J.manyR rec s false K = RR at *
  obtain ⟨i0, hi0, hz0, hz1, hz2⟩ := info_parts Tryz.info22
  obtain ⟨t0, ht0, hy0, hy1, hy2⟩ := info_parts Tryz.info9
  have V1 := V0.step
  clear hk hval hfit hbare her h V0
  go_enter Tryz.func64, Tryz.ntmps64
  go_wp2_with fail
  refine (skipBlanks_any b 44 s (k + 1) _ _ V1.rd (by omega) hs').mono ?_
  rintro e w1 ⟨rfl, hr1, ht1⟩
  rw [← hK] at hr1
  have V2 := V1.go hr1 ht1
  clear V1 hr1 ht1 q1 z1 hK
  by_cases hl : J.peek s K = 93
  · have fin := hide ((unhide HML) hl)
    go_wp2_with fail
    refine (take_yes b 44 s K 93 _ _ V2.rd hs' (by decide) hl).mono ?_
    rintro e w2 ⟨rfl, hr2, ht2⟩
    have V3 := V2.go hr2 ht2
    clear V2 hr2 ht2
    go_wp2_with fail
    refine (layArrayB_any none 0 [] _ (fun i hi => by simp at hi) (Nat.le_refl _) (by simp) (by simp [tot]) (fun j hj => by simp at hj)).mono ?_
    rintro e w3 ⟨sv, rfl, hr3, hb3⟩
    have V4 := V3.below hb3
    have hr4 := hr3.mono V3.tch.size
    obtain ⟨a9, n9, c9, rfl⟩ := hr3.shape
    clear V3 hr3 hb3
    go_wp2_with fail
    go_ret2
    exact .inl ⟨_, _, _, unhide fin, rfl, hr4, V4⟩
  · have HS := hide ((unhide HMG) hl)
    go_wp2_with fail
    refine (take_no b 44 s K 93 _ _ V2.rd hsk hs' hl).mono ?_
    rintro e w2 ⟨rfl, q2, hw2⟩
    have V3 : Vs w w2 b s K d := by rw [hw2]; exact V2.drewN q2
    have H0 := hide (show Am rec s false RR w w2 b d K s.size (.slice none 0 0) (.slice none 0 0) [] [] from ⟨by rw [unhide hskk]; exact unhide HS, by omega, hsk, J.Pl.start _ _, V3, ⟨Dc.ks_nil _ _, SS.nil _ _⟩⟩)
    clear V2 hw2 HS HML HMG V3
    go_wp2_with fail
    go_loopg [4] (s.size + 1 - K) (fun gh s4 wr => ∃ (i g : Nat) (ks : List ByteArray) (ps : List (List M.Cl)), Hid (gh = s.size + 1 - i) ∧ Hid (Am rec s false RR w wr b d i g (.slice none 0 0) s4 ks ps))
    case atStart => exact ⟨K, s.size, [], [], rfl, unhide H0⟩
    case round =>
      obtain ⟨i, g, ks, ps, hg, HM⟩ := hrel
      have hle := (unhide HM).le
      clear H0
      go_wp2_with fail
      refine ((unhide HVAL) i _ hle ((unhide HM).vs).rd (((unhide HM).vs).err (unhide HER))).mono ?_
      rintro e w5 hS
      rcases hS with ⟨v, m, sv, hq, rfl, hr, hv5⟩ | ⟨c, m, q, a5, n5, c5, hq, rfl, hqs, hv5⟩
      · have hfit := (unhide HFIT) (J.skip s i) (J.skip_le s i hle)
        rw [hq] at hfit
        obtain ⟨TA, hlt⟩ := (unhide HM).next (J.head_arr s (J.skip s i)) hq hfit ((unhide HBARE) _ _ _ hq)
        rw [List.append_nil] at TA
        have T7 := hide TA
        have V5 := (unhide HM).vs.trans hv5
        have R5 := (unhide HM).rows.tch hv5.tch (Nat.le_refl _) hbw
        have hr5 : Res w5 w.heap.size sv v := hr.mono (unhide HM).vs.tch.size
        have hpl0 := (unhide HM).pl.len
        obtain ⟨P, hP⟩ : ∃ P, P = J.skip s m := ⟨_, rfl⟩
        rw [← hP] at T7 V5 hlt
        obtain ⟨a5, n5, c5, rfl⟩ := hr.shape
        clear hr hfit hq hv5 TA HM hP
        obtain ⟨ss, hsl, hown, hres⟩ := (R5).list
        have hown' := hide (fun o => hown.alloc o)
        have hbse := hide (ownsRow_base hown)
        have hone := hide (one_val w5 (.slice a5 n5 c5) 22)
        have honep := hide (one_plain' a5 n5 c5)
        have HRN := hide (fun (W : World) v' o (hg : (w5.alloc o).grownBy W u4.ownBlock) ho => (R5).part (v' := v') hsl hown hres hr5 hg ho)
        have HVN := hide (fun (W : World) o (hg : (w5.alloc o).grownBy W u4.ownBlock) => ((V5).alloc o).grown hbw hg (unhide hbse))
        have hb63 : ps.length + 1 ≤ maxLen := by unfold maxLen; omega
        have hby : (ps.length + 1) * 24 ≤ 140737488355328 := by omega
        have hsz5 := (V5).tch.size
        clear hown hres hr5 hsl
        go_wp2_with (at_builtin; refine wpList_append_own _ rfl (.tmp 37) (.tmp 39) 29 rfl w.heap.size 22 i0 (.slice none 0 0) 1 24 Tryz.underlying29 hi0 hz0 hz1 hz2 rfl (by decide) _ ps.length ss rfl ((unhide hown') _) ⟨w5.heap.size, 0, none⟩ 1 1 [.slice a5 n5 c5] rfl rfl (unhide hone) (unhide honep) hb63 hby (by simp; omega) ?_)
        intro v7 w7 ho7 hg7 _
        have R7 := hide ((unhide HRN) w7 v7 _ hg7 ho7)
        have V7 := hide ((unhide HVN) w7 _ hg7)
        clear ho7 hg7 HRN HVN hown' hone honep hbse
        obtain ⟨ps2, hps2⟩ : ∃ q, q = ps ++ [v] := ⟨_, rfl⟩
        rw [← hps2] at T7 R7
        clear hps2
        by_cases hl : J.peek s P = 93
        · have fin := hide ((unhide T7).last hl)
          have hbare := (unhide T7).pl.bare
          have hpl1 := (unhide T7).pl.len
          have hpl2 := (unhide T7).pl.tot
          have hple := (unhide T7).le
          go_wp2_with fail
          refine (take_yes b 44 s P 93 _ _ (unhide V7).rd hs' (by decide) hl).mono ?_
          rintro e w8 ⟨rfl, hr8, ht8⟩
          have V8 := (unhide V7).go hr8 ht8
          have R8 := (unhide R7).tch ht8 (Nat.le_refl _) hbw
          obtain ⟨la, lc, hla, hlc, hlv⟩ := R8.list.lv (Dc.bare_ne hbare)
          have HC := hide (layArrayB_any la lc _ _ hlv hlc (by omega) (by omega) hbare)
          have h8 := V8.tch.size
          subst hla
          clear hlv hbare R8 hr8 ht8 V7 R7 T7
          go_wp2_with fail
          refine (unhide HC).mono ?_
          rintro e w9 ⟨sv, rfl, hr9, hb9⟩
          have V9 := V8.below hb9
          have hr99 := hr9.mono h8
          obtain ⟨a9, n9, c9, rfl⟩ := hr9.shape
          clear hr9 hb9 V8 HC
          go_wp2_with fail
          go_ret2
          exact .inl ⟨_, _, _, unhide fin, rfl, hr99, V9⟩
        · have hnl : J.peek s P ≠ J.lastB false := hl
          have hple := (unhide T7).le
          go_wp2_with fail
          refine (take_no b 44 s P 93 _ _ (unhide V7).rd hple hs' hl).mono ?_
          rintro e w8 ⟨rfl, q8, hw8⟩
          have V8 : Vs w w8 b s P d := by rw [hw8]; exact (unhide V7).drewN q8
          have T8 : Tch w7.heap.size b w7 w8 := by rw [hw8]; exact (Tch.refl _ _ _).drewN q8
          have R8 := (unhide R7).tch T8 (Nat.le_refl _) hbw
          clear hw8 V7 R7 T8
          by_cases hcm : J.peek s P = 44
          · go_wp2_with fail
            refine (take_yes b 44 s P 44 _ _ V8.rd hs' (by decide) hcm).mono ?_
            rintro e w9 ⟨rfl, hr9, ht9⟩
            have V9 := V8.go hr9 ht9
            have R9 := R8.tch ht9 (Nat.le_refl _) hbw
            obtain ⟨g2, H9⟩ := (unhide T7).comma hcm V9 R9
            have H9 := hide H9
            clear V8 R8 hr9 ht9 V9 R9 T7
            go_wp2_with fail
            go_roundg (s.size + 1 - (P + 1))
            case rel => exact ⟨P + 1, g2, _, _, rfl, unhide H9⟩
            case measure => have := hg.out; omega
          · have fin := hide ((unhide T7).no hnl hcm)
            go_wp2_with fail
            refine (take_no b 44 s P 44 _ _ V8.rd hple hs' hcm).mono ?_
            rintro e w9 ⟨rfl, q9, hw9⟩
            have V9 : Vs w w9 b s P d := by rw [hw9]; exact V8.drewN q9
            clear hw9 V8 R8
            go_wp2_with fail
            refine (stuck_any b 44 s P _ _ V9.rd).mono ?_
            rintro e wa ⟨rfl, hra, hta⟩
            have VA := V9.go hra hta
            clear V9 hra hta
            go_wp2_with fail
            go_ret2
            exact .inr ⟨5, P, P, none, 0, 0, unhide fin, rfl, hple, VA⟩
      · have fin := hide ((unhide HM).says.trans (J.elems_rec_no (J.head_arr s (J.skip s i)) hq))
        have V5 := (unhide HM).vs.trans hv5
        clear hv5 hq HM
        go_wp2_with fail
        go_ret2
        exact .inr ⟨c, m, q, none, 0, 0, unhide fin, rfl, hqs, V5⟩

end Go.Proofs.YtepfdlbnnkojbaaGreatDoor

namespace Go.Proofs.YtepfdlbnnkojbaaGreatDoor
open Go.RowKit
set_option linter.unusedVariables false

set_option maxRecDepth 100000 in
set_option maxHeartbeats 2000000 in
theorem layObjectW_any (kq kc : Nat) (a' : Option Addr) (lc : Nat) (ks : List ByteArray) (ps : List (List M.Cl)) (w : World) (hklt : kq < w.heap.size) (hK : ∀ i, i < ks.length → w.cell? ⟨kq, i, none⟩ = some (.string (ks.getD i ByteArray.empty))) (hL : LV w a' ps) (hkc : ks.length ≤ kc) (hlc : ps.length ≤ lc) (hlen : ks.length = ps.length) (hn : ks.length ≤ 4096) (hv : ∀ j, j < ps.length → M.valueFault (ps.getD j []) = 0) :
    Calls Tryz.prog 72 #[.slice (some ⟨kq, 0, none⟩) ks.length kc, .slice a' ps.length lc] w fun e w' => ∃ s, e = .returned s ∧ Res w' w.heap.size s (objV ks ps) ∧ Below w.heap.size w w' := by
  have HK := hide hK
  have HL := hide hL
  have HV := hide hv
  have hle1 : ks.length ≤ ps.length := by omega
  have hle2 : ps.length ≤ ks.length := by omega
  clear hK hL hv hlen
  go_enter Tryz.func72, Tryz.ntmps72
  go_wp2_with fail
  refine (standing_any kq kc ks _ hklt (unhide HK) (by omega) hkc).mono ?_
  rintro e1 w1 ⟨s1, rfl, ho1, hb1⟩
  have hst := hide (St.stand_lt ks ks.length)
  have hsl := St.stand_length ks ks.length
  have hL200 := hide (show ∀ p ∈ St.stand ks ks.length, (ps.getD p []).length ≤ 200 from fun p hp => (fault_len ((unhide HV) p (by have := (unhide hst) p hp; omega))).2)
  have hfin := hide (show objV ks ps = objK ks ps (St.stand ks ks.length) (St.stand ks ks.length).length from rfl)
  generalize St.stand ks ks.length = L at *
  have hel : ∃ a c, s1 = .slice a L.length c ∧ ∀ i, i < L.length → ∃ b, a = some ⟨b, 0, none⟩ ∧ b < w1.heap.size ∧ w1.cell? ⟨b, i, none⟩ = some (.int .i64 (L.getD i 0 : Nat)) := by
    obtain ⟨_, ⟨rfl, h0⟩ | ⟨g, cap, cur, rfl, hg, hh, hnc, hcm, hcs, ht⟩⟩ := ho1
    · exact ⟨_, _, by rw [h0], fun i hi => by omega⟩
    · refine ⟨_, _, rfl, fun i hi => ⟨g, rfl, (Array.getElem?_eq_some_iff.1 hh).1, ?_⟩⟩
      rw [cell_of_row w1 g i cur 3 (0, 0) hh]
      have h3 : cur.toList[i]? = (natV L)[i]? := by rw [← ht, List.getElem?_take, if_pos (by omega)]
      have h4 : cur[i]? = cur.toList[i]? := by simp
      rw [h4, h3, natV_get L i hi]
  obtain ⟨sa, sc, rfl, hel⟩ := hel
  have HEL := hide hel
  clear hel ho1
  go_wp2_with fail
  go_loopg [6, 17] L.length (fun gh s6 s17 wr => ∃ k : Nat, Hid (gh = L.length - k) ∧ s17 = .int .i64 k ∧ k ≤ L.length ∧ wr.ownsRow w1.heap.size 81 5 s6 (objK ks ps L k).length (flat (objK ks ps L k)) ∧ Below w1.heap.size w1 wr)
  case atStart => exact ⟨0, rfl, rfl, by omega, one_own w1 w1.heap.size _ (headCl 6 L.length) rfl (Nat.le_refl _), (Below.refl _ _).alloc (Nat.le_refl _) _⟩
  case round =>
    obtain ⟨k, hg, rfl, hk, hown, hbel⟩ := hrel
    have BR : Below w.heap.size w wr := hb1.trans (hbel.mono hb1.size)
    by_cases hlt : k < L.length
    · obtain ⟨pb, rfl, hpb, hpc⟩ := (unhide HEL) k hlt
      have hpc2 := (hbel.cell (p := ⟨pb, k, none⟩) hpb).trans hpc
      have hmem : L.getD k 0 ∈ L := by rw [List.getD_eq_getElem?_getD, List.getElem?_eq_getElem hlt]; exact List.getElem_mem _
      have hx := (unhide hst) _ hmem
      have hsucc := hide (objK_succ ks ps L k hlt)
      have hol := objK_length ks ps L (unhide hL200) k hk
      obtain ⟨x, hxe⟩ : ∃ x, x = L.getD k 0 := ⟨_, rfl⟩
      rw [← hxe] at hpc2 hx hsucc
      clear hxe hmem hpc
      obtain ⟨gl, b, off, c, rfl, hgl, f0, hcc, hb, hr⟩ := ((unhide HL).below BR) x (by omega)
      have hp := fault_len ((unhide HV) x (by omega))
      have hpn : ps.getD x [] ≠ [] := by intro e; rw [e] at hp; simp at hp
      have hkey := (BR.cell (p := ⟨kq, x, none⟩) hklt).trans ((unhide HK) x hx)
      have hxz : (x : Int) < (ks.length : Int) := by omega
      have hxz2 : (x : Int) < (ps.length : Int) := by omega
      generalize ks.getD x ByteArray.empty = key at *
      have HAP := hide (appendPart_any w1.heap.size u6 (objK ks ps L k) (ps.getD x []) b off c key wr.drew hown hr hpn (by omega) hbel.size)
      rw [← unhide hsucc] at HAP
      clear hown hr hpn hsucc
      generalize ps.getD x [] = p at *
      go_wp2_with fail
      go_region_with (go_at_call 80; refine (unhide HAP).mono ?_; rintro e2 w2 ⟨v', rfl, ho2, hb2⟩)
      all_goals
        have B2 : Below w1.heap.size w1 w2 := hbel.drew.trans hb2
        have HO2 := hide ho2
        clear ho2 hb2 f0 HAP hkey
        go_wp2_with fail
        go_roundg (L.length - (k + 1))
        case rel => exact ⟨k + 1, rfl, by go_num, by omega, unhide HO2, B2⟩
        case measure => have := hg.out; omega
    · have hke : k = L.length := by omega
      subst hke
      have hol := objK_length ks ps L (unhide hL200) L.length (Nat.le_refl _)
      have fin := hide (show Res wr w.heap.size u6 (objV ks ps) by rw [unhide hfin]; exact (res_of_owns hown (by omega)).mono hb1.size)
      clear hown
      go_wp2_with fail
      go_ret
      exact ⟨_, rfl, unhide fin, BR⟩

set_option maxHeartbeats 1000000 in
theorem standing_none (a : Option Addr) (kc : Nat) (w : World) :
    Calls Tryz.prog 81 #[.slice a 0 kc] w fun e w' => e = .returned (.slice none 0 0) ∧ Below w.heap.size w w' := by
  go_enter Tryz.func81, Tryz.ntmps81
  go_wp2_with fail
  refine wp_loop_rounds 1 ?_
  rw [rounds_succ]
  go_wp2_with fail
  refine (sortStable_none _ _).mono ?_
  rintro r w2 ⟨rfl, rfl⟩
  go_wp2_with fail
  refine wp_loop_rounds 1 ?_
  rw [rounds_succ]
  go_wp2_with fail
  go_ret
  exact ⟨rfl, (Below.refl _ _).alloc (Nat.le_refl _) _⟩
theorem objV_nil' : objV [] [] = [headCl 6 0] := rfl
set_option maxHeartbeats 1000000 in
theorem layObject_none (a a' : Option Addr) (kc lc : Nat) (w : World) :
    Calls Tryz.prog 72 #[.slice a 0 kc, .slice a' 0 lc] w fun e w' => ∃ s, e = .returned s ∧ Res w' w.heap.size s (objV [] []) ∧ Below w.heap.size w w' := by
  go_enter Tryz.func72, Tryz.ntmps72
  go_wp2_with fail
  refine (standing_none _ _ _).mono ?_
  rintro e1 w1 ⟨rfl, hb1⟩
  go_wp2_with fail
  refine wp_loop_rounds 1 ?_
  rw [rounds_succ]
  go_wp2_with fail
  go_ret
  refine ⟨_, rfl, ?_, ?_⟩
  · rw [objV_nil']; exact res_of_owns (one_own w1 w.heap.size _ (headCl 6 0) rfl hb1.size) (by simp)
  · exact hb1.alloc hb1.size _

theorem layObjectV_any (a a' : Option Addr) (kc lc : Nat) (ks : List ByteArray) (ps : List (List M.Cl)) (w : World) (hK : TV w a ks) (hL : LV w a' ps) (hkc : ks.length ≤ kc) (hlc : ps.length ≤ lc) (hlen : ks.length = ps.length) (hn : ks.length ≤ 4096) (hv : ∀ j, j < ps.length → M.valueFault (ps.getD j []) = 0) :
    Calls Tryz.prog 72 #[.slice a ks.length kc, .slice a' ps.length lc] w fun e w' => ∃ s, e = .returned s ∧ Res w' w.heap.size s (objV ks ps) ∧ Below w.heap.size w w' := by
  by_cases h0 : ks.length = 0
  · have h1 : ks = [] := List.length_eq_zero_iff.1 h0
    have h2 : ps = [] := List.length_eq_zero_iff.1 (by omega)
    subst h1 h2
    exact layObject_none a a' kc lc w
  · obtain ⟨g, rfl, hg, _⟩ := hK 0 (by omega)
    refine layObjectW_any g kc a' lc ks ps w hg (fun i hi => ?_) hL hkc hlc hlen hn hv
    obtain ⟨k, e, _, hk⟩ := hK i hi
    cases e
    exact hk
end Go.Proofs.YtepfdlbnnkojbaaGreatDoor

namespace Go.Proofs.YtepfdlbnnkojbaaGreatDoor
open Go.RowKit
set_option linter.unusedVariables false

set_option maxRecDepth 100000 in
set_option maxHeartbeats 2000000 in
theorem layObjectC_any (kq kc : Nat) (a' : Option Addr) (lc : Nat) (ks : List ByteArray) (ps : List (List M.Cl)) (w : World) (hklt : kq < w.heap.size) (hK : ∀ i, i < ks.length → w.cell? ⟨kq, i, none⟩ = some (.string (ks.getD i ByteArray.empty))) (hL : LV w a' ps) (hkc : ks.length ≤ kc) (hlc : ps.length ≤ lc) (hlen : ks.length = ps.length) (hn : ks.length ≤ 4096) (ht : tot ps ps.length ≤ 8192) (hv : ∀ j, j < ps.length → Bare (ps.getD j [])) :
    Calls Tryz.prog 72 #[.slice (some ⟨kq, 0, none⟩) ks.length kc, .slice a' ps.length lc] w fun e w' => ∃ s, e = .returned s ∧ Res w' w.heap.size s (objV ks ps) ∧ Below w.heap.size w w' := by
  have HK := hide hK
  have HL := hide hL
  have HV := hide hv
  have hle1 : ks.length ≤ ps.length := by omega
  have hle2 : ps.length ≤ ks.length := by omega
  clear hK hL hv hlen
  go_enter Tryz.func72, Tryz.ntmps72
  go_wp2_with fail
  refine (standing_any kq kc ks _ hklt (unhide HK) (by omega) hkc).mono ?_
  rintro e1 w1 ⟨s1, rfl, ho1, hb1⟩
  have hst := hide (St.stand_lt ks ks.length)
  have hsl := St.stand_length ks ks.length
  have hOL := hide (fun k => objK_le ks ps (St.stand ks ks.length) (J.stand_nodup ks ks.length) (fun x hx => by have := (unhide hst) x hx; omega) k)
  have hfin := hide (show objV ks ps = objK ks ps (St.stand ks ks.length) (St.stand ks ks.length).length from rfl)
  generalize St.stand ks ks.length = L at *
  have hel : ∃ a c, s1 = .slice a L.length c ∧ ∀ i, i < L.length → ∃ b, a = some ⟨b, 0, none⟩ ∧ b < w1.heap.size ∧ w1.cell? ⟨b, i, none⟩ = some (.int .i64 (L.getD i 0 : Nat)) := by
    obtain ⟨_, ⟨rfl, h0⟩ | ⟨g, cap, cur, rfl, hg, hh, hnc, hcm, hcs, ht⟩⟩ := ho1
    · exact ⟨_, _, by rw [h0], fun i hi => by omega⟩
    · refine ⟨_, _, rfl, fun i hi => ⟨g, rfl, (Array.getElem?_eq_some_iff.1 hh).1, ?_⟩⟩
      rw [cell_of_row w1 g i cur 3 (0, 0) hh]
      have h3 : cur.toList[i]? = (natV L)[i]? := by rw [← ht, List.getElem?_take, if_pos (by omega)]
      have h4 : cur[i]? = cur.toList[i]? := by simp
      rw [h4, h3, natV_get L i hi]
  obtain ⟨sa, sc, rfl, hel⟩ := hel
  have HEL := hide hel
  clear hel ho1
  go_wp2_with fail
  go_loopg [6, 17] L.length (fun gh s6 s17 wr => ∃ k : Nat, Hid (gh = L.length - k) ∧ s17 = .int .i64 k ∧ k ≤ L.length ∧ wr.ownsRow w1.heap.size 81 5 s6 (objK ks ps L k).length (flat (objK ks ps L k)) ∧ Below w1.heap.size w1 wr)
  case atStart => exact ⟨0, rfl, rfl, by omega, one_own w1 w1.heap.size _ (headCl 6 L.length) rfl (Nat.le_refl _), (Below.refl _ _).alloc (Nat.le_refl _) _⟩
  case round =>
    obtain ⟨k, hg, rfl, hk, hown, hbel⟩ := hrel
    have BR : Below w.heap.size w wr := hb1.trans (hbel.mono hb1.size)
    by_cases hlt : k < L.length
    · obtain ⟨pb, rfl, hpb, hpc⟩ := (unhide HEL) k hlt
      have hpc2 := (hbel.cell (p := ⟨pb, k, none⟩) hpb).trans hpc
      have hmem : L.getD k 0 ∈ L := by rw [List.getD_eq_getElem?_getD, List.getElem?_eq_getElem hlt]; exact List.getElem_mem _
      have hx := (unhide hst) _ hmem
      have hsucc := hide (objK_succ ks ps L k hlt)
      have hol := (unhide hOL) k
      obtain ⟨x, hxe⟩ : ∃ x, x = L.getD k 0 := ⟨_, rfl⟩
      rw [← hxe] at hpc2 hx hsucc
      clear hxe hmem hpc
      obtain ⟨gl, b, off, c, rfl, hgl, f0, hcc, hb, hr⟩ := ((unhide HL).below BR) x (by omega)
      have hp := ((unhide HV) x (by omega)).1
      have htp := tot_part ps x (by omega)
      have hpn : ps.getD x [] ≠ [] := by intro e; rw [e] at hp; simp at hp
      have hkey := (BR.cell (p := ⟨kq, x, none⟩) hklt).trans ((unhide HK) x hx)
      have hxz : (x : Int) < (ks.length : Int) := by omega
      have hxz2 : (x : Int) < (ps.length : Int) := by omega
      generalize ks.getD x ByteArray.empty = key at *
      have HAP := hide (appendPart_any w1.heap.size u6 (objK ks ps L k) (ps.getD x []) b off c key wr.drew hown hr hpn (by omega) hbel.size)
      rw [← unhide hsucc] at HAP
      clear hown hr hpn hsucc htp
      generalize ps.getD x [] = p at *
      go_wp2_with fail
      go_region_with (go_at_call 80; refine (unhide HAP).mono ?_; rintro e2 w2 ⟨v', rfl, ho2, hb2⟩)
      all_goals
        have B2 : Below w1.heap.size w1 w2 := hbel.drew.trans hb2
        have HO2 := hide ho2
        clear ho2 hb2 f0 HAP hkey
        go_wp2_with fail
        go_roundg (L.length - (k + 1))
        case rel => exact ⟨k + 1, rfl, by go_num, by omega, unhide HO2, B2⟩
        case measure => have := hg.out; omega
    · have hke : k = L.length := by omega
      subst hke
      have hol := (unhide hOL) L.length
      have fin := hide (show Res wr w.heap.size u6 (objV ks ps) by rw [unhide hfin]; exact (res_of_owns hown (by omega)).mono hb1.size)
      clear hown
      go_wp2_with fail
      go_ret
      exact ⟨_, rfl, unhide fin, BR⟩

theorem layObjectB_any (a a' : Option Addr) (kc lc : Nat) (ks : List ByteArray) (ps : List (List M.Cl)) (w : World) (hK : TV w a ks) (hL : LV w a' ps) (hkc : ks.length ≤ kc) (hlc : ps.length ≤ lc) (hlen : ks.length = ps.length) (hn : ks.length ≤ 4096) (ht : tot ps ps.length ≤ 8192) (hv : ∀ j, j < ps.length → Bare (ps.getD j [])) :
    Calls Tryz.prog 72 #[.slice a ks.length kc, .slice a' ps.length lc] w fun e w' => ∃ s, e = .returned s ∧ Res w' w.heap.size s (objV ks ps) ∧ Below w.heap.size w w' := by
  by_cases h0 : ks.length = 0
  · have h1 : ks = [] := List.length_eq_zero_iff.1 h0
    have h2 : ps = [] := List.length_eq_zero_iff.1 (by omega)
    subst h1 h2
    exact layObject_none a a' kc lc w
  · obtain ⟨g, rfl, hg, _⟩ := hK 0 (by omega)
    refine layObjectC_any g kc a' lc ks ps w hg (fun i hi => ?_) hL hkc hlc hlen hn ht hv
    obtain ⟨k, e, _, hk⟩ := hK i hi
    cases e
    exact hk
end Go.Proofs.YtepfdlbnnkojbaaGreatDoor

namespace Go.Proofs.YtepfdlbnnkojbaaGreatDoor
open Go.RowKit
set_option linter.unusedVariables false
set_option linter.unusedSimpArgs false


set_option maxRecDepth 100000 in
set_option maxHeartbeats 8000000 in
theorem object_any (rec : Nat → J.Rv) (b d : Nat) (s : ByteArray) (k : Nat) (w : World) (h : Rd w b 44 s k [.int .i64 (d : Int)]) (her : ErrCell w b) (hk : J.peek s k = 123) (hs : s.size ≤ 4000)
    (hval : ∀ j w, j ≤ s.size → Rd w b 44 s j [.int .i64 (d : Int)] → ErrCell w b → Calls Tryz.prog 34 #[.pointer (some ⟨b, 0, none⟩)] w (VLeft (J.skip s) (rec (J.skip s j)) w b s d))
    (hfit : ∀ j, j ≤ s.size → J.Fit s j (rec j)) (hbare : ∀ j v e, rec j = .inr (v, e) → Bare v) :
    Calls Tryz.prog 65 #[.pointer (some ⟨b, 0, none⟩)] w (VLeft id (J.manyR rec s true (J.skip s (k + 1))) w b s d) := by
  have hs' : s.size ≤ 1048576 := by omega
  have hlt := J.peek_lt s k 123 (by decide) hk
  have hbw := h.lt
  have V0 := Vs.start h
  have q1 := h.cell 1
  have z1 := h.frozen 1
  simp only [List.getElem?_cons_zero, List.getElem?_cons_succ] at q1
  have HVAL := hide hval
  have HFIT := hide hfit
  have HBARE := hide hbare
  have HER := hide her
  have hsk := J.skip_le s (k + 1) (by omega)
  have hskk := hide (J.skip_skip s (k + 1))
  obtain ⟨K, hK⟩ : ∃ K, K = J.skip s (k + 1) := ⟨_, rfl⟩
  rw [← hK] at hsk hskk
  have HML := hide (fun hl => J.many_last (rec := rec) (s := s) (obj := true) (i := J.skip s (k + 1)) hl)
  have HMG := hide (fun hl => J.many_go (rec := rec) (s := s) (obj := true) (i := J.skip s (k + 1)) hl)
  rw [← hK] at HML HMG
  rw [← hK]
  generalize J.manyR rec s true K = RR at *
  obtain ⟨i0, hi0, hz0, hz1, hz2⟩ := info_parts Tryz.info22
  obtain ⟨t0, ht0, hy0, hy1, hy2⟩ := info_parts Tryz.info9
  have V1 := V0.step
  clear hk hval hfit hbare her h V0
  go_enter Tryz.func65, Tryz.ntmps65
  go_wp2_with fail
  refine (skipBlanks_any b 44 s (k + 1) _ _ V1.rd (by omega) hs').mono ?_
  rintro e w1 ⟨rfl, hr1, ht1⟩
  rw [← hK] at hr1
  have V2 := V1.go hr1 ht1
  clear V1 hr1 ht1 q1 z1 hK
  by_cases hl : J.peek s K = 125
  · have fin := hide ((unhide HML) hl)
    go_wp2_with fail
    refine (take_yes b 44 s K 125 _ _ V2.rd hs' (by decide) hl).mono ?_
    rintro e w2 ⟨rfl, hr2, ht2⟩
    have V3 := V2.go hr2 ht2
    clear V2 hr2 ht2
    go_wp2_with fail
    refine (layObject_none none none 0 0 _).mono ?_
    rintro e w3 ⟨sv, rfl, hr3, hb3⟩
    have V4 := V3.below hb3
    have hr4 := hr3.mono V3.tch.size
    obtain ⟨a9, n9, c9, rfl⟩ := hr3.shape
    clear V3 hr3 hb3
    go_wp2_with fail
    go_ret2
    exact .inl ⟨_, _, _, unhide fin, rfl, hr4, V4⟩
  · have HS := hide ((unhide HMG) hl)
    go_wp2_with fail
    refine (take_no b 44 s K 125 _ _ V2.rd hsk hs' hl).mono ?_
    rintro e w2 ⟨rfl, q2, hw2⟩
    have V3 : Vs w w2 b s K d := by rw [hw2]; exact V2.drewN q2
    have H0 := hide (show Am rec s true RR w w2 b d K s.size (.slice none 0 0) (.slice none 0 0) [] [] from ⟨by rw [unhide hskk]; exact unhide HS, by omega, hsk, J.Pl.start _ _, V3, ⟨Dc.ks_nil _ _, SS.nil _ _⟩⟩)
    clear V2 hw2 HS HML HMG V3
    go_wp2_with fail
    go_loopg [4, 5] (s.size + 1 - K) (fun gh s4 s5 wr => ∃ (i g : Nat) (ks : List ByteArray) (ps : List (List M.Cl)), Hid (gh = s.size + 1 - i) ∧ Hid (Am rec s true RR w wr b d i g s4 s5 ks ps))
    case atStart => exact ⟨K, s.size, [], [], rfl, unhide H0⟩
    case round =>
      obtain ⟨i, g, ks, ps, hg, HM⟩ := hrel
      have hle := (unhide HM).le
      clear H0
      go_wp2_with fail
      refine (key_any b d s i _ (unhide HM).vs.rd hle hs).mono ?_
      rintro e w2 hS
      have HKF := J.keyR_fit s (J.skip s i) (J.skip_le s i hle)
      rcases hS with ⟨key, j, hkq, rfl, hv2⟩ | ⟨c, m, q, hkq, rfl, hqs, hv2⟩
      · rw [hkq] at HKF
        obtain ⟨hk1, hk2, hk3⟩ := HKF
        have HHD := hide (J.head_obj hkq)
        have V2 := (unhide HM).vs.trans hv2
        have R2 := (unhide HM).rows.tch hv2.tch (Nat.le_refl _) hbw
        clear hv2 hkq
        go_wp2_with fail
        refine ((unhide HVAL) j _ hk2 (V2).rd ((V2).err (unhide HER))).mono ?_
        rintro e w5 hS
        rcases hS with ⟨v, m, sv, hq, rfl, hr, hv5⟩ | ⟨c, m, q, a5, n5, c5, hq, rfl, hqs, hv5⟩
        · have hfit := (unhide HFIT) (J.skip s j) (J.skip_le s j hk2)
          rw [hq] at hfit
          obtain ⟨TA, hlt⟩ := (unhide HM).next (unhide HHD) hq hfit ((unhide HBARE) _ _ _ hq)
          have T7 := hide TA
          have V5 := V2.trans hv5
          have R5 := R2.tch hv5.tch (Nat.le_refl _) hbw
          have hr5 : Res w5 w.heap.size sv v := hr.mono V2.tch.size
          have hpl0 := (unhide HM).pl.len
          have hkl0 : ks.length = ps.length := (unhide HM).pl.keys
          obtain ⟨P, hP⟩ : ∃ P, P = J.skip s m := ⟨_, rfl⟩
          rw [← hP] at T7 V5 hlt
          obtain ⟨a5, n5, c5, rfl⟩ := hr.shape
          have hkown := hide (fun o => World.ownsRow.alloc R5.keys o)
          have hkbse := hide (ownsRow_base R5.keys)
          have hkone := hide (one_val w5 (.string key) 9)
          have hkonep := hide (Dc.one_str key)
          have HK6 := hide (fun (W : World) v' o (hg : (w5.alloc o).grownBy W u4.ownBlock) ho => R5.key (v' := v') (key := key) hg ho)
          have HV6 := hide (fun (W : World) o (hg : (w5.alloc o).grownBy W u4.ownBlock) => (V5.alloc o).grown hbw hg (unhide hkbse))
          have HR6 := hide (fun (W : World) o (hg : (w5.alloc o).grownBy W u4.ownBlock) => grown_res (World.ownsRow.alloc R5.keys o) hg (hr5.alloc o) (by decide))
          have hk63 : ks.length + 1 ≤ maxLen := by unfold maxLen; omega
          have hkby : (ks.length + 1) * 16 ≤ 140737488355328 := by omega
          have hsz2 := V5.tch.size
          have hkl2 := hide hkl0
          clear hr hfit hq hv5 TA HM hP V2 R2 R5 V5 hr5 hkl0
          go_wp2_with (at_builtin; refine wpList_append_own _ rfl (.tmp 47) (.tmp 49) 55 rfl w.heap.size 9 t0 (.string ByteArray.empty) 1 16 Tryz.underlying55 ht0 hy0 hy1 hy2 rfl (by decide) _ ks.length _ rfl ((unhide hkown) _) ⟨w5.heap.size, 0, none⟩ 1 1 [.string key] rfl rfl (unhide hkone) (unhide hkonep) hk63 hkby (by simp; omega) ?_)
          intro v6 w6 ho6 hg6 _
          have R6 := (unhide HK6) w6 v6 _ hg6 ho6
          have V6 := (unhide HV6) w6 _ hg6
          have hr5 := (unhide HR6) w6 _ hg6
          clear ho6 hg6 HK6 HV6 HR6 hkown hkone hkonep hkbse
          obtain ⟨ss, hsl, hown, hres⟩ := (R6).list
          have hown' := hide (fun o => hown.alloc o)
          have hbse := hide (ownsRow_base hown)
          have hone := hide (one_val w6 (.slice a5 n5 c5) 22)
          have honep := hide (one_plain' a5 n5 c5)
          have HRN := hide (fun (W : World) v' o (hg : (w6.alloc o).grownBy W u5.ownBlock) ho => (R6).part (v' := v') hsl hown hres hr5 hg ho)
          have HVN := hide (fun (W : World) o (hg : (w6.alloc o).grownBy W u5.ownBlock) => ((V6).alloc o).grown hbw hg (unhide hbse))
          have hb63 : ps.length + 1 ≤ maxLen := by unfold maxLen; omega
          have hby : (ps.length + 1) * 24 ≤ 140737488355328 := by omega
          have hsz5 := (V6).tch.size
          clear hown hres hr5 hsl R6 V6
          go_wp2_with (at_builtin; refine wpList_append_own _ rfl (.tmp 51) (.tmp 53) 29 rfl w.heap.size 22 i0 (.slice none 0 0) 1 24 Tryz.underlying29 hi0 hz0 hz1 hz2 rfl (by decide) _ ps.length ss rfl ((unhide hown') _) ⟨w6.heap.size, 0, none⟩ 1 1 [.slice a5 n5 c5] rfl rfl (unhide hone) (unhide honep) hb63 hby (by simp; omega) ?_)
          intro v7 w7 ho7 hg7 _
          have R7 := hide ((unhide HRN) w7 v7 _ hg7 ho7)
          have V7 := hide ((unhide HVN) w7 _ hg7)
          clear ho7 hg7 HRN HVN hown' hone honep hbse
          obtain ⟨ps2, hps2⟩ : ∃ q, q = ps ++ [v] := ⟨_, rfl⟩
          rw [← hps2] at T7 R7
          clear hps2
          obtain ⟨ks2, hks2⟩ : ∃ q, q = ks ++ [key] := ⟨_, rfl⟩
          rw [← hks2] at T7 R7
          clear hks2
          by_cases hl : J.peek s P = 125
          · have fin := hide ((unhide T7).last hl)
            have hbare := (unhide T7).pl.bare
            have hpl1 := (unhide T7).pl.len
            have hpl2 := (unhide T7).pl.tot
            have hple := (unhide T7).le
            have hkl := (unhide T7).pl.keys
            simp only [if_true] at hkl
            go_wp2_with fail
            refine (take_yes b 44 s P 125 _ _ (unhide V7).rd hs' (by decide) hl).mono ?_
            rintro e w8 ⟨rfl, hr8, ht8⟩
            have V8 := (unhide V7).go hr8 ht8
            have R8 := (unhide R7).tch ht8 (Nat.le_refl _) hbw
            obtain ⟨la, lc, hla, hlc, hlv⟩ := R8.list.lv (Dc.bare_ne hbare)
            obtain ⟨ka, kc, hka, hkc, htv⟩ := R8.keys.tv
            have HC := hide (layObjectB_any ka la kc lc _ _ _ htv hlv hkc hlc hkl (by omega) (by omega) hbare)
            have h8 := V8.tch.size
            subst hla hka
            clear hlv hbare htv hkl R8 hr8 ht8 V7 R7 T7
            go_wp2_with fail
            refine (unhide HC).mono ?_
            rintro e w9 ⟨sv, rfl, hr9, hb9⟩
            have V9 := V8.below hb9
            have hr99 := hr9.mono h8
            obtain ⟨a9, n9, c9, rfl⟩ := hr9.shape
            clear hr9 hb9 V8 HC
            go_wp2_with fail
            go_ret2
            exact .inl ⟨_, _, _, unhide fin, rfl, hr99, V9⟩
          · have hnl : J.peek s P ≠ J.lastB true := hl
            have hple := (unhide T7).le
            go_wp2_with fail
            refine (take_no b 44 s P 125 _ _ (unhide V7).rd hple hs' hl).mono ?_
            rintro e w8 ⟨rfl, q8, hw8⟩
            have V8 : Vs w w8 b s P d := by rw [hw8]; exact (unhide V7).drewN q8
            have T8 : Tch w7.heap.size b w7 w8 := by rw [hw8]; exact (Tch.refl _ _ _).drewN q8
            have R8 := (unhide R7).tch T8 (Nat.le_refl _) hbw
            clear hw8 V7 R7 T8
            by_cases hcm : J.peek s P = 44
            · go_wp2_with fail
              refine (take_yes b 44 s P 44 _ _ V8.rd hs' (by decide) hcm).mono ?_
              rintro e w9 ⟨rfl, hr9, ht9⟩
              have V9 := V8.go hr9 ht9
              have R9 := R8.tch ht9 (Nat.le_refl _) hbw
              obtain ⟨g2, H9⟩ := (unhide T7).comma hcm V9 R9
              have H9 := hide H9
              clear V8 R8 hr9 ht9 V9 R9 T7
              go_wp2_with fail
              go_roundg (s.size + 1 - (P + 1))
              case rel => exact ⟨P + 1, g2, _, _, rfl, unhide H9⟩
              case measure => have := hg.out; omega
            · have fin := hide ((unhide T7).no hnl hcm)
              go_wp2_with fail
              refine (take_no b 44 s P 44 _ _ V8.rd hple hs' hcm).mono ?_
              rintro e w9 ⟨rfl, q9, hw9⟩
              have V9 : Vs w w9 b s P d := by rw [hw9]; exact V8.drewN q9
              clear hw9 V8 R8
              go_wp2_with fail
              refine (stuck_any b 44 s P _ _ V9.rd).mono ?_
              rintro e wa ⟨rfl, hra, hta⟩
              have VA := V9.go hra hta
              clear V9 hra hta
              go_wp2_with fail
              go_ret2
              exact .inr ⟨5, P, P, none, 0, 0, unhide fin, rfl, hple, VA⟩
        · have fin := hide ((unhide HM).says.trans (J.elems_rec_no (unhide HHD) hq))
          have V5 := V2.trans hv5
          clear hv5 hq HM V2 R2
          go_wp2_with fail
          go_ret2
          exact .inr ⟨c, m, q, none, 0, 0, unhide fin, rfl, hqs, V5⟩
      · have fin := hide ((unhide HM).says.trans (J.elems_head_no (J.head_obj_no hkq)))
        have V2 := (unhide HM).vs.trans hv2
        clear hv2 hkq HM HKF
        go_wp2_with fail
        go_ret2
        exact .inr ⟨c, m, q, none, 0, 0, unhide fin, rfl, hqs, V2⟩

end Go.Proofs.YtepfdlbnnkojbaaGreatDoor
