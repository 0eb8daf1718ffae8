/-
  impl: the tokens of a program, where each of them is one.
-/
import Derived.Test.YtabpjknbdahddaaGreatDoorLexP
import Derived.Test.YtabpjknbdahddaaGreatDoorLexR
import Derived.Test.YtabpjknbdahddaaGreatDoorDrwV
import Derived.Test.YtabpjknbdahddaaGreatDoorSkipT
namespace Go.Proofs.YtabpjknbdahddaaGreatDoor
open Go.RowKit
set_option linter.unusedVariables false
set_option linter.unusedSimpArgs false


/-- The program's error for numbers lies where it lies. -/
def Glob (w : World) (b : Nat) : Prop := ∃ ev : Value, (ev = .nilIface ∨ ∃ te pe, ev = .iface te pe) ∧ 6 < w.heap.size ∧ 6 ≠ b ∧ w.cell? ⟨6, 0, none⟩ = some ev
theorem Glob.go {w w2 : World} {b : Nat} (h : Glob w b) (ht : Tch w.heap.size b w w2) : Glob w2 b := by
  obtain ⟨ev, h1, h2, h3, h4⟩ := h
  exact ⟨ev, h1, Nat.lt_of_lt_of_le h2 ht.size, h3, (ht.cell _ 0 h2 h3).trans h4⟩
theorem tok_name (b mb : Nat) (s : ByteArray) (k m : Nat) (kd : Int) (tx : ByteArray) (w : World) (h : Lx w w b mb s k) (hk : k ≤ s.size) (hs : s.size ≤ 4000) (hd : (decide (48 ≤ J.peek s k) && decide (J.peek s k ≤ 57)) = false) (hq : J.peek s k ≠ 34)
    (HN : ∀ w1, Lx w1 w1 b mb s k → Calls Tryz.prog 98 #[.pointer (some ⟨b, 0, none⟩)] w1 fun e w' => e = .returned (.tuple #[.int .i64 kd, .string tx, .nilIface]) ∧ Lx w1 w' b mb s m) (t : Tk) (ht : t = ⟨kd, k, 0, tx⟩) :
    Calls Tryz.prog 49 #[.pointer (some ⟨b, 0, none⟩)] w fun e w' => e = .returned (.tuple #[.agg #[.int .i64 t.kind, .int .i64 t.at_, .int .i64 t.num, .string t.text], .nilIface]) ∧ Lx w w' b mb s m := by
  subst ht
  exact token_nom b mb s k m kd tx w h hk hs hd hq HN
theorem token_any (b mb : Nat) (s : ByteArray) (k m : Nat) (t : Tk) (w : World) (h : Lx w w b mb s k) (hk : k ≤ s.size) (hs : s.size ≤ 4000) (hg : Glob w b) (ht : TokAt s k t m) :
    Calls Tryz.prog 49 #[.pointer (some ⟨b, 0, none⟩)] w fun e w' => e = .returned (.tuple #[.agg #[.int .i64 t.kind, .int .i64 t.at_, .int .i64 t.num, .string t.text], .nilIface]) ∧ Lx w w' b mb s m := by
  obtain ⟨ev, h1, h2, h3, h4⟩ := hg
  cases ht with
  | num c m hd hR => exact token_num b mb s k m c w h hk hs hd hR ev h1 h2 h3 h4
  | str l m hq hR => exact token_str b mb s k m l w h hk hs hq hR
  | name hd hq hl =>
    have N := fun w1 h1 => nom_3 b mb s k w1 h1 hk hs hl
    exact tok_name b mb s k _ _ _ w h hk hs hd hq N _ rfl
  | field hd hq h0 hp hl =>
    have N := fun w1 h1 => nom_4 b mb s k w1 h1 hk hs h0 hp hl
    exact tok_name b mb s k _ _ _ w h hk hs hd hq N _ rfl
  | var hd hq h0 hp hp2 hl =>
    have N := fun w1 h1 => nom_5 b mb s k w1 h1 hk hs h0 hp hp2 hl
    exact tok_name b mb s k _ _ _ w h hk hs hd hq N _ rfl
  | two hd hq h0 hp hp2 h2 hm =>
    cases hX : Lib.hasPrefix (s.extract k s.size).data.toList [46] with
    | false =>
      have N := fun w1 h1 => nom_m_two_0 b mb s k w1 h1 hk hs h0 hX hp2 h2 hm
      exact tok_name b mb s k _ _ _ w h hk hs hd hq N _ rfl
    | true =>
      have hp : J.leadP (J.behind (s.extract k s.size)) = ByteArray.empty := by
        rcases hp with hp | hp
        · rw [hX] at hp; cases hp
        · exact hp
      have N := fun w1 h1 => nom_m_two_1 b mb s k w1 h1 hk hs h0 hX hp hp2 h2 hm
      exact tok_name b mb s k _ _ _ w h hk hs hd hq N _ rfl
  | one hd hq h0 hp hp2 h2 hm =>
    cases hX : Lib.hasPrefix (s.extract k s.size).data.toList [46] with
    | false =>
      rcases h2 with h2 | ⟨h2, hn⟩
      · have N := fun w1 h1 => nom_m_alone_0 b mb s k w1 h1 hk hs h0 hX hp2 h2 hm
        exact tok_name b mb s k _ _ _ w h hk hs hd hq N _ rfl
      · have N := fun w1 h1 => nom_m_one_0 b mb s k w1 h1 hk hs h0 hX hp2 h2 hn hm
        exact tok_name b mb s k _ _ _ w h hk hs hd hq N _ rfl
    | true =>
      have hp : J.leadP (J.behind (s.extract k s.size)) = ByteArray.empty := by
        rcases hp with hp | hp
        · rw [hX] at hp; cases hp
        · exact hp
      rcases h2 with h2 | ⟨h2, hn⟩
      · have N := fun w1 h1 => nom_m_alone_1 b mb s k w1 h1 hk hs h0 hX hp hp2 h2 hm
        exact tok_name b mb s k _ _ _ w h hk hs hd hq N _ rfl
      · have N := fun w1 h1 => nom_m_one_1 b mb s k w1 h1 hk hs h0 hX hp hp2 h2 hn hm
        exact tok_name b mb s k _ _ _ w h hk hs hd hq N _ rfl
theorem Own.keepL {w w' : World} {b : Nat} {t : TypeId} {xs : List Value} (h : Own w b t xs) (hk : w'.heap[b]? = w.heap[b]?) : Own w' b t xs := by
  obtain ⟨c, hc, e⟩ := h
  exact ⟨c, hk.trans hc, e⟩
/-- What the loop of tokens holds. -/
structure Lt (w wr : World) (b mb : Nat) (s : ByteArray) (k : Nat) (v : Value) (l : List Tk) : Prop where
  lx : Lx w wr b mb s k
  row : wr.ownsRow w.heap.size 33 4 v l.length (tkFlat l)
  hb : b < w.heap.size
  hm : mb < w.heap.size
theorem Lt.go {w wr w2 : World} {b mb : Nat} {s : ByteArray} {k k2 : Nat} {v : Value} {l : List Tk} (h : Lt w wr b mb s k v l) (hr : Rd w2 b 56 s k2 [.map (some mb)]) (ht : Tch wr.heap.size b wr w2) : Lt w w2 b mb s k2 v l :=
  ⟨h.lx.go hr ht, by
    obtain ⟨h0, h1 | ⟨g, c, cur, h2, hg, hh, rest⟩⟩ := h.row
    · exact ⟨h0, .inl h1⟩
    · exact ⟨h0, .inr ⟨g, c, cur, h2, hg, (ht.block g (Array.getElem?_eq_some_iff.1 hh).1 (by have := h.hb; omega)).trans hh, rest⟩⟩, h.hb, h.hm⟩
theorem Lt.drewN {w wr : World} {b mb : Nat} {s : ByteArray} {k : Nat} {v : Value} {l : List Tk} (h : Lt w wr b mb s k v l) (q : Nat) : Lt w (wr.drewN q) b mb s k v l := h.go (h.lx.rd.drewN q) ((Tch.refl _ _ _).drewN q)
theorem Lt.put {w wr w3 : World} {b mb : Nat} {s : ByteArray} {k : Nat} {v v' : Value} {l : List Tk} {o : Obj} {t : Tk} (h : Lt w wr b mb s k v l) (hg : (wr.alloc o).grownBy w3 v.ownBlock) (ho : w3.ownsRow w.heap.size 33 4 v' (l.length + 1) (tkFlat l ++ t.vals)) : Lt w w3 b mb s k v' (l ++ [t]) := by
  have hb := h.hb
  have hm := h.hm
  have hbase : ∀ k, v.ownBlock = some k → w.heap.size ≤ k := by
    obtain ⟨_, ⟨h1, _⟩ | ⟨g, c, cur, h2, hg, _⟩⟩ := h.row
    · intro k hk; rw [h1] at hk; simp [Value.ownBlock] at hk
    · intro k hk; rw [h2] at hk; simp only [Value.ownBlock, Option.some.injEq] at hk; omega
  have kp : ∀ k, k < w.heap.size → w3.heap[k]? = wr.heap[k]? := fun k hk => by
    have := h.lx.tch.size
    rw [hg.block k (by simp; omega) (fun e => by have := hbase k e.symm; omega)]
    exact Below.heap_alloc _ _ _ (by omega)
  refine ⟨⟨Own.keepL h.lx.rd (kp b hb), ⟨hg.os.trans h.lx.tch.os, hg.tape.trans h.lx.tch.tape, hg.output.trans h.lx.tch.output, by have h1 := hg.size; rw [World.size_alloc] at h1; have := h.lx.tch.size; omega, fun k hk hn => (kp k hk).trans (h.lx.tch.block k hk hn)⟩, map_keep h.lx.map (kp mb hm), h.lx.ne⟩, ?_, hb, hm⟩
  rw [← tkFlat_snoc]; simpa using ho
/-- What tokens answers. -/
def TokensSaid (w : World) (b mb : Nat) (s : ByteArray) (ts : List Tk) (e : Ending) (w' : World) : Prop := ∃ (v : Value) (k : Nat), e = .returned (.tuple #[v, .nilIface]) ∧ Lt w w' b mb s k v ts

theorem Lt.alloc {w wr : World} {b mb : Nat} {s : ByteArray} {k : Nat} {v : Value} {l : List Tk} (h : Lt w wr b mb s k v l) (o : Obj) : Lt w (wr.alloc o) b mb s k v l := h.go (Own.alloc h.lx.rd o) (Tch.of_below' ((Below.refl _ _).alloc (Nat.le_refl _) o))
theorem Lt.set {w wr : World} {b mb : Nat} {s : ByteArray} {k : Nat} {v : Value} {l : List Tk} (h : Lt w wr b mb s k v l) {w2 : World} (hb : Below wr.heap.size wr w2) : Lt w w2 b mb s k v l := h.go (Own.below h.lx.rd hb (Own.lt h.lx.rd)) (Tch.of_below' hb)
theorem Glob.at {w wr : World} {b : Nat} (h : Glob w b) (ht : Tch w.heap.size b w wr) : Glob wr b := h.go ht
theorem Lt.shape {w wr : World} {b mb : Nat} {s : ByteArray} {k : Nat} {v : Value} {l : List Tk} (h : Lt w wr b mb s k v l) : ∃ (a : Option Addr) (c : Nat), v = .slice a l.length c := by
  obtain ⟨h0, h1 | ⟨g, c, cur, h2, hg, hh, rest⟩⟩ := h.row
  · exact ⟨none, 0, by rw [h1.1, h1.2]⟩
  · exact ⟨_, _, h2⟩
theorem fin_drew {w w' : World} {b mb : Nat} {s : ByteArray} {ts : List Tk} {e : Ending} (h : TokensSaid w b mb s ts e w') (q : Nat) : TokensSaid w b mb s ts e (w'.drewN q) := by
  obtain ⟨v, k, he, hl⟩ := h
  exact ⟨v, k, he, hl.drewN q⟩
set_option maxRecDepth 100000 in
set_option maxHeartbeats 8000000 in
theorem tokens_any (b mb : Nat) (s : ByteArray) (ts : List Tk) (w : World) (h : Lx w w b mb s 0) (hs : s.size ≤ 4000) (hg : Glob w b) (hn : ts.length ≤ 300) (hr : Reads s (J.skip s 0) ts) :
    Calls Tryz.prog 21 #[.pointer (some ⟨b, 0, none⟩)] w (TokensSaid w b mb s ts) := by
  obtain ⟨i0, hi0, hz0, hz1, hz2⟩ := info_parts Tk.info
  have H0 := hide (show Lt w w b mb s 0 (.slice none 0 0) [] from ⟨h, World.ownsRow_nil _ _ _ _, Own.lt h.rd, h.map.lt⟩)
  have HG := hide hg
  have HR := hide hr
  clear h hg hr
  go_enter Tryz.func21, Tryz.ntmps21
  go_wp2_with fail
  refine (skipBlanks_any b _ s 0 _ _ (unhide H0).lx.rd (by omega) (by omega)).mono ?_
  rintro e w1 ⟨rfl, hr1, ht1⟩
  have H1 := hide ((unhide H0).go hr1 ht1)
  have hk1 := J.skip_le s 0 (Nat.zero_le _)
  clear H0 hr1 ht1
  obtain ⟨k1, hk1e⟩ : ∃ k1, k1 = J.skip s 0 := ⟨_, rfl⟩
  rw [← hk1e] at H1 HR hk1
  clear hk1e
  go_wp2_with fail
  go_loopg [4] ts.length (fun gh s4 wr => ∃ (k : Nat) (l rest : List Tk), Hid (gh = rest.length) ∧ Hid (l ++ rest = ts) ∧ l.length + rest.length ≤ 300 ∧ k ≤ s.size ∧ Hid (Reads s k rest) ∧ Hid (Lt w wr b mb s k s4 l))
  case atStart => exact ⟨k1, [], ts, rfl, rfl, by simpa using hn, hk1, unhide HR, unhide H1⟩
  case round =>
    obtain ⟨k, l, rest, hg, hsum, hlen, hk, HRD, HL⟩ := hrel
    clear H1 HR hk1 hn
    have hrd := (unhide HL).lx.rd
    cases rest with
    | nil =>
      have hend : s.size ≤ k := by cases HRD.out with | nil _ h => exact h
      have fin := hide (show TokensSaid w b mb s ts (.returned (.tuple #[u4, .nilIface])) wr from ⟨_, k, rfl, by have := hsum.out; simp only [List.append_nil] at this; rw [← this]; exact unhide HL⟩)
      have HE := hide (ended_any b _ s k _ wr hrd (by omega))
      rw [show decide (s.size ≤ k) = true from decide_eq_true hend] at HE
      clear hrd
      obtain ⟨va, vc, rfl⟩ := (unhide HL).shape
      go_wp2_with fail
      refine (unhide HE).mono ?_
      rintro e w2 ⟨rfl, q, hw2⟩
      have fin2 := hide (fin_drew (unhide fin) q)
      rw [hw2]
      clear hw2
      go_wp2_with fail
      go_ret2
      exact unhide fin2
    | cons t r =>
      obtain ⟨m, hkl, hT, hm, hRr⟩ : ∃ m, k < s.size ∧ TokAt s k t m ∧ m ≤ s.size ∧ Reads s (J.skip s m) r := by cases HRD.out with | cons _ m _ _ h1 h2 h3 h4 => exact ⟨m, h1, h2, h3, h4⟩
      have HRR := hide hRr
      have HE := hide (ended_any b _ s k _ wr hrd (by omega))
      rw [show decide (s.size ≤ k) = false from decide_eq_false (by omega)] at HE
      have HT := hide (fun (w2 : World) (L2 : Lt w w2 b mb s k u4 l) => token_any b mb s k m t w2 ⟨L2.lx.rd, Tch.refl _ _ _, L2.lx.map, L2.lx.ne⟩ hk hs ((unhide HG).at L2.lx.tch) hT)
      clear hrd hRr hT HRD
      obtain ⟨va, vc, rfl⟩ := (unhide HL).shape
      go_wp2_with fail
      refine (unhide HE).mono ?_
      rintro e w2 ⟨rfl, q, hw2⟩
      have L2 := hide (show Lt w w2 b mb s k (.slice va l.length vc) l by rw [hw2]; exact (unhide HL).drewN q)
      clear hw2 HL HE
      go_wp2_with fail
      refine ((unhide HT) _ (unhide L2)).mono ?_
      rintro e w3 ⟨rfl, h3⟩
      have L3 := hide ((unhide L2).go h3.rd h3.tch)
      clear L2 HT h3
      have g300 : ((l.length : Int) == 300) = false := beq_eq_false_iff_ne.2 (by simp only [List.length_cons] at hlen; omega)
      have hnext := hide (show Tk.vals t = [.int .i64 t.kind, .int .i64 t.at_, .int .i64 t.num, .string t.text] from rfl)
      obtain ⟨oT, hoT⟩ : ∃ o : Obj, o = .cells #[.int .i64 t.kind, .int .i64 t.at_, .int .i64 t.num, .string t.text] 33 := ⟨_, rfl⟩
      have L4 := hide ((unhide L3).alloc oT)
      have hown' := hide (fun o => World.ownsRow.alloc (unhide L4).row o)
      have hone : Hid (∀ j x, t.vals[j]? = some x → ((w3.alloc oT).alloc (.cells #[.int .i64 t.kind, .int .i64 t.at_, .int .i64 t.num, .string t.text] 33)).cell? ((⟨w3.heap.size + 1, 0, none⟩ : Addr).add j) = some x) := by
        have h1 := tk_one (w3.alloc oT) t
        rw [World.size_alloc] at h1
        exact h1
      rw [hoT] at L4 hown' hone
      have honep := hide (tk_plain t)
      have hszw : w.heap.size ≤ w3.heap.size := (unhide L3).lx.tch.size
      have HP := hide (fun (W : World) v' o (hg : ((w3.alloc (.cells #[.int .i64 t.kind, .int .i64 t.at_, .int .i64 t.num, .string t.text] 33)).alloc o).grownBy W (Value.slice va l.length vc).ownBlock) ho => (unhide L4).put (v' := v') (w3 := W) (t := t) hg ho)
      have hb63 : l.length + 1 ≤ maxLen := by unfold maxLen; simp only [List.length_cons] at hlen; omega
      have hby : (l.length + 1) * 40 ≤ 140737488355328 := by simp only [List.length_cons] at hlen; omega
      clear hnext hoT L3 L4
      go_wp2_with (at_builtin; refine wpList_append_own _ rfl (.tmp 38) (.tmp 40) 24 rfl w.heap.size 33 i0 _ 4 40 Tryz.underlying24 hi0 hz0 hz1 hz2 rfl (by decide) _ l.length _ rfl ((unhide hown') _) ⟨w3.heap.size + 1, 0, none⟩ 1 1 t.vals rfl rfl (unhide hone) (unhide honep) hb63 hby (by simp; omega) ?_)
      intro v7 w7 ho7 hg7 _
      have H7 := hide ((unhide HP) w7 v7 _ hg7 ho7)
      clear ho7 hg7 HP hown' hone honep
      have hk2 := J.skip_le s m hm
      have HS := hide (skipBlanks_any b _ s m _ w7 (unhide H7).lx.rd hm (by omega))
      go_wp2_with fail
      refine (unhide HS).mono ?_
      rintro e w8 ⟨rfl, hr8, ht8⟩
      have H8 := hide ((unhide H7).go hr8 ht8)
      clear HS hr8 ht8 H7
      go_wp2_with fail
      go_roundg r.length
      case rel => exact ⟨_, _, r, rfl, by have := hsum.out; show (l ++ [t]) ++ r = ts; rw [List.append_assoc]; exact this, by simp only [List.length_append, List.length_cons, List.length_nil] at hlen ⊢; omega, hk2, unhide HRR, unhide H8⟩
      case measure => have := hg.out; simp only [List.length_cons] at this; omega

end Go.Proofs.YtabpjknbdahddaaGreatDoor
