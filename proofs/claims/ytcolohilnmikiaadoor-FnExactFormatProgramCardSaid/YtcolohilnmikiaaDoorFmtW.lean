/-
  impl.FormatProgram.
-/
import Derived.Test.YtcolohilnmikiaaDoorFmtT
import Derived.Test.YtcolohilnmikiaaDoorFmtI
import Derived.Deep.RegionWith
import Derived.Deep.RegionHeld3
namespace Go.Proofs.YtcolohilnmikiaaDoor
open Go.RowKit
set_option linter.unusedVariables false
set_option linter.unusedSimpArgs false


section
variable {P : Program} {md : Region.Mode} {ops : Array Oper} {Q : Exit → Act → World → Prop} {S : World → Prop}
theorem take_at {i d : Nat} {oi : Oper} {v : Value} {fuel : Nat} {listed : Array Bool} {a : Act} {w : World} (hi : ops[i]? = some oi) (hd : oi.dst = some d)
    (hs : Region.noSelect ops = true) (hf : Region.free md ops listed i = true) (hr : (Region.ready md ops listed).contains i = true)
    (hQ : ∀ c a w, Q (.panic c) (a.put (some d) v) w → Q (.panic c) a w) (hy : YieldsIf P ops S oi v a) (hS : S w)
    (h : wpAnyH P md ops Q S fuel (listed.setIfInBounds i true) (a.put (some d) v) w) : wpAnyH P md ops Q S (fuel + 1) listed a w :=
  wpAnyH_take hi hs hf hr (by rw [hd]; exact hQ) hy hS (by rw [hd]; exact h)
theorem call_at {i d : Nat} {oi : Oper} {fuel : Nat} {listed : Array Bool} {a : Act} {w : World} (hi : ops[i]? = some oi) (hd : oi.dst = some d) (hr : Region.ready md ops listed = [i])
    (hw : Region.wanted oi (yielded ops a.tmps) = true) (h : ∀ K : Act → World → Prop, Shut (∀ v w', S w' → wpAnyH P md ops Q S fuel (listed.setIfInBounds i true) (a.put (some d) v) w' → K (a.put (some d) v) w') → Oper.wp P oi a w K Q) : wpAnyH P md ops Q S (fuel + 1) listed a w :=
  wpAnyH_ready hr (by simp) (AllReadyH.cons hi (fun K hK => by
    rw [if_pos hw]
    exact h K (fun v w' hS hW => hK.out _ _ hS (fun _ => hW))) AllReadyH.nil)
/-- A load, one of those that may come up. -/
theorem read_cons {i d : Nat} {oi : Oper} {v : Value} {fuel : Nat} {listed : Array Bool} {a : Act} {w : World} {rs : List Nat} (hi : ops[i]? = some oi) (hd : oi.dst = some d)
    (hw : Region.wanted oi (yielded ops a.tmps) = true) (hrun : ∀ K : Act → World → Prop, Shut (K (a.put (some d) v) w) → Oper.wp P oi a w K Q) (hS : S w)
    (h : wpAnyH P md ops Q S fuel (listed.setIfInBounds i true) (a.put (some d) v) w) (hs : AllReadyH P md ops Q S fuel listed a w rs) : AllReadyH P md ops Q S fuel listed a w (i :: rs) :=
  AllReadyH.cons hi (fun K hK => by
    rw [if_pos hw]
    exact hrun K (hK.out _ _ hS (fun _ => h))) hs
/-- A store, the only one that may come up. -/
theorem last_at {i : Nat} {oi : Oper} {fuel : Nat} {listed : Array Bool} {a : Act} {w w' : World} (hi : ops[i]? = some oi) (hd : oi.dst = none) (hr : Region.ready md ops listed = [i])
    (hw : Region.wanted oi (yielded ops a.tmps) = true) (hrun : ∀ K : Act → World → Prop, Shut (K a w') → Oper.wp P oi a w K Q) (hS : S w')
    (h : wpAnyH P md ops Q S fuel (listed.setIfInBounds i true) a w') : wpAnyH P md ops Q S (fuel + 1) listed a w :=
  wpAnyH_ready hr (by simp) (AllReadyH.cons hi (fun K hK => by
    rw [if_pos hw]
    exact hrun K (hK.out _ _ hS (fun _ => h))) AllReadyH.nil)
end

namespace Tr
theorem fmtInfo : (Tryd.prog.info? 9).map (fun i => (i.zero, i.size, i.bytes)) = some (some (.string ByteArray.empty), 1, 16) := by kernel_rfl
theorem make_strs (n : Nat) (hn : n ≤ 1048576) (w : World) :
    (Instr.makeSlice 46 (.int .i64 (n : Int)) (.int .i64 (n : Int))).run Tryd.prog w = .ok (.slice (some ⟨w.heap.size, 0, none⟩) n n) (w.alloc (.cells (madeCells #[.string ByteArray.empty] (n * 1)) 9)) := by
  obtain ⟨i, hi, hz⟩ := Option.map_eq_some_iff.1 fmtInfo
  simp only [Prod.mk.injEq] at hz
  obtain ⟨h1, h2, h3⟩ := hz
  have := run_make (P := Tryd.prog) w 46 9 i _ Tryd.underlying46 hi h1 .i64 .i64 (n : Int) (n : Int) (by omega) (by omega) (by rw [h3]; omega) (by omega)
  rw [this, h2]
  simp only [Int.toNat_natCast]
  rfl
/-- The texts of the first k; the rest are texts, too. -/
def Txts (l : List Nd) (xs : List Value) (k : Nat) : Prop := xs.length = l.length ∧ ∀ j, j < l.length → ∃ t : ByteArray, xs[j]? = some (.string t) ∧ t.size ≤ 100000 ∧ (j < k → t = txt l j)
theorem Txts.zero (l : List Nd) : Txts l (madeCells #[.string ByteArray.empty] (l.length * 1)).toList 0 := by
  rw [Nat.mul_one]
  refine ⟨by simp [size_madeCells], fun j hj => ⟨ByteArray.empty, ?_, by decide, fun h => absurd h (by omega)⟩⟩
  rw [toList_madeCells_one, List.getElem?_replicate, if_pos hj]
theorem Txts.step {l : List Nd} {xs : List Value} {k : Nat} (h : Txts l xs k) (hk : k < l.length) (t : ByteArray) (ht : t = txt l k) (hs : t.size ≤ 100000) : Txts l (xs.set k (.string t)) (k + 1) := by
  refine ⟨by rw [List.length_set]; exact h.1, fun j hj => ?_⟩
  by_cases e : j = k
  · subst e; exact ⟨t, by rw [List.getElem?_set_self (by rw [h.1]; exact hk)], hs, fun _ => ht⟩
  · obtain ⟨u, h1, h2, h3⟩ := h.2 j hj
    exact ⟨u, by rw [List.getElem?_set_ne (by omega)]; exact h1, h2, fun h => h3 (by omega)⟩
theorem one_lt {p : Bool} {x : Int} {i n : Nat} (h : one p x i = true) (hi : i < n) : ∃ y : Nat, x = y ∧ y < n ∧ (p = true → y < i) := by
  unfold one at h
  cases p with
  | true =>
    simp only [if_pos, Bool.and_eq_true, decide_eq_true_eq] at h
    exact ⟨x.toNat, by omega, by omega, fun _ => by omega⟩
  | false =>
    have h2 : x = 0 := by simpa using h
    exact ⟨0, by rw [h2]; rfl, by omega, fun h => by cases h⟩
theorem links_lt {ks : Nat} {a b c : Int} {i n : Nat} (h : linksOk ks a b c i = true) (hi : i < n) : (∃ y : Nat, a = y ∧ y < n ∧ (0 < ks → y < i)) ∧ (∃ y : Nat, b = y ∧ y < n ∧ (1 < ks → y < i)) ∧ (∃ y : Nat, c = y ∧ y < n ∧ (2 < ks → y < i)) := by
  unfold linksOk at h
  simp only [Bool.and_eq_true] at h
  obtain ⟨h1, h2, h3⟩ := h
  obtain ⟨y1, e1, l1, m1⟩ := one_lt h1 hi
  obtain ⟨y2, e2, l2, m2⟩ := one_lt h2 hi
  obtain ⟨y3, e3, l3, m3⟩ := one_lt h3 hi
  exact ⟨⟨y1, e1, l1, fun h => m1 (by simpa using h)⟩, ⟨y2, e2, l2, fun h => m2 (by simpa using h)⟩, ⟨y3, e3, l3, fun h => m3 (by simpa using h)⟩⟩
end Tr

set_option maxRecDepth 100000 in
set_option maxHeartbeats 4000000 in
theorem implFormat_any (b : Nat) (l : List Nd) (w : World) (hrow : Nd.Row w b 0 l) (hb : b < w.heap.size) (hn : l.length ≤ 1048576) (hsz : ∀ i, i < l.length → (l.getD i Nd.zero).text.size ≤ 1048576) (hok : ∀ c ∈ l, c.ok) (htab : ∀ wq, Below w.heap.size w wq → Lib.TabIs Tryd.prog wq "internal/strconv.uint64pow10" .u64 Lib.pow10Tab) :
    Calls Tryd.prog 8 #[.slice (some ⟨b, 0, none⟩) l.length l.length] w fun e w' => e = .returned (.agg #[.int .i64 (Tr.fmtOut l).1, .string (Tr.fmtOut l).2]) ∧ Below w.heap.size w w' := by
  have HR := hide hrow
  have HS := hide hsz
  have HK := hide hok
  have HT := hide htab
  clear hrow hsz hok htab
  obtain ⟨w0, hw0⟩ : ∃ w0, w0 = w.alloc (.cells #[.int .i64 0, .string ⟨#[]⟩] 25) := ⟨_, rfl⟩
  have B0 : Below w.heap.size w w0 := by rw [hw0]; exact (Below.refl _ _).alloc (Nat.le_refl _) _
  have O0 : Own w0 w.heap.size 25 [.int .i64 0, .string ⟨#[]⟩] := by rw [hw0]; exact ⟨_, heap_alloc_new _ _, rfl⟩
  have HC := hide (implTreeFault_any b l w0 ((unhide HR).below B0 hb) (Nat.lt_of_lt_of_le hb B0.size) hn (unhide HS))
  go_enter Tryd.func8, Tryd.ntmps8
  go_wp2_with fail
  rw [← hw0]
  clear hw0
  refine (unhide HC).mono ?_
  rintro e w1 ⟨rfl, hb1⟩
  have B1 : Below w.heap.size w w1 := B0.trans (hb1.mono B0.size)
  have O1 := O0.below hb1 O0.lt
  clear O0 B0 hb1 HC
  by_cases hf : Tr.fault l = 0
  case neg =>
    have fin := hide (show Tr.fmtOut l = (Tr.fault l, ⟨#[]⟩) by unfold Tr.fmtOut; rw [if_pos hf]; rfl)
    generalize Tr.fault l = q at *
    have g1 : (q != 0) = true := by simpa using hf
    have OX := O1
    clear hf O1
    obtain ⟨c0, c1⟩ := tres_of OX
    have z0 := OX.frozen 0
    have z1 := OX.frozen 1
    have O2 := hide ((OX.set 0 (.int .i64 q)).set 1 (.string ⟨#[]⟩))
    clear OX
    go_wp2_with fail
    obtain ⟨q0, q1⟩ := tres_of (x := q) (y := ⟨#[]⟩) (unhide O2)
    clear c0 c1 z0 z1 O2
    have B2 : Below w.heap.size w ((w1.setCell ⟨w.heap.size, 0, none⟩ (.int .i64 q)).setCell ⟨w.heap.size, 1, none⟩ (.string ⟨#[]⟩)) := (B1.setCell (Nat.le_refl _) _).setCell (Nat.le_refl _) _
    generalize (w1.setCell ⟨w.heap.size, 0, none⟩ (.int .i64 q)).setCell ⟨w.heap.size, 1, none⟩ (.string ⟨#[]⟩) = WW at *
    refine bodyPost_ret (v := .agg #[.int .i64 q, .string ⟨#[]⟩]) (by simp [results, Tryd.results8, go_sem, q0, q1]; try rfl) rfl ⟨by rw [unhide fin], B2⟩
  case pos =>
  obtain ⟨h0, h200, hnf, hio⟩ := Tr.fmt_parts hf
  have TD := hide (told_of hf)
  have fin := hide (show Tr.fmtOut l = (0, Tr.txt l (l.length - 1)) by unfold Tr.fmtOut; rw [if_neg (by simpa using hf)])
  rw [hf]
  clear hf hnf hio
  have hmk := Tr.make_strs l.length (by omega)
  have hmI : (l.length : Int) - 1 = ((l.length - 1 : Nat) : Int) := by omega
  go_wp2_with fail
  go_loopg [18] l.length (fun gh s18 wr => ∃ (k : Nat) (xs : List Value), Hid (gh = l.length - k) ∧ s18 = .int .i64 k ∧ k ≤ l.length ∧ Own wr w1.heap.size 9 xs ∧ Hid (Tr.Txts l xs k) ∧ Below w1.heap.size w1 wr)
  case atStart => exact ⟨0, _, rfl, rfl, by omega, ⟨_, heap_alloc_new _ _, rfl⟩, by have := Tr.Txts.zero l; rw [Nat.mul_one] at this; exact this, (Below.refl _ _).alloc (Nat.le_refl _) _⟩
  case round =>
    clear hmk
    obtain ⟨k, xs, hg, rfl, hk, hown, htx, hbel⟩ := hrel
    have BW : Below w.heap.size w wr := B1.trans (hbel.mono B1.size)
    by_cases hlt : k < l.length
    · have hltI : (k : Int) < (l.length : Int) := by omega
      obtain ⟨f0, f1, f2, f3, f4, f5⟩ := ((unhide HR).below BW hb) k hlt
      simp only [Nat.zero_add] at f0 f1 f2 f3 f4 f5
      have hnp := Tr.node_parts ((unhide TD).node k hlt)
      have hts := (unhide TD).text k hlt
      have htk := (unhide TD).size k hlt
      have heq := (unhide TD).eq k hlt
      obtain ⟨⟨o1, o2⟩, _, hlk, _, ⟨l1, l2⟩, _⟩ := hnp
      obtain ⟨⟨x, hx, hxl, hxk⟩, ⟨y, hy, hyl, hyk⟩, ⟨z, hz, hzl, hzk⟩⟩ := Tr.links_lt hlk hlt
      obtain ⟨ta, ga, sa, ea⟩ := htx.out.2 x hxl
      obtain ⟨tb, gb, sb, eb⟩ := htx.out.2 y hyl
      obtain ⟨tc, gc, sc, ec⟩ := htx.out.2 z hzl
      obtain ⟨td, gd, _, _⟩ := htx.out.2 k hlt
      have hres := heq ta tb tc (fun h => by rw [hx, Int.toNat_natCast]; exact ea (hxk h)) (fun h => by rw [hy, Int.toNat_natCast]; exact eb (hyk h)) (fun h => by rw [hz, Int.toNat_natCast]; exact ec (hzk h))
      have hst := hide (htx.out.step hlt (Tr.nodeT (l.getD k Nd.zero) ta tb tc) hres (by rw [hres]; omega))
      clear heq hres hlk ea eb ec hxk hyk hzk htk
      generalize l.getD k Nd.zero = n at *
      have HNT := hide (fun (W : World) (hW : Below w.heap.size w W) => show Calls Tryd.prog 21 #[.agg #[.int .i64 n.op, .int .i64 n.a, .int .i64 n.b, .int .i64 n.c, .int .i64 n.num, .string n.text], .string ta, .string tb, .string tc] W fun e w' => e = .returned (.string (Tr.nodeT n ta tb tc)) ∧ Below W.heap.size W w' from nodeText_any n ta tb tc W o1 o2 hts sa sb sc l1 l2 (fun wq hq => (unhide HT) wq (hW.trans (hq.mono hW.size))))
      rw [hx] at f1 HNT
      rw [hy] at f2 HNT
      rw [hz] at f3 HNT
      have hxI : (x : Int) < (l.length : Int) := by omega
      have hyI : (y : Int) < (l.length : Int) := by omega
      have hzI : (z : Int) < (l.length : Int) := by omega
      have hx0 : (0 : Int) ≤ (x : Int) := by omega
      have hy0 : (0 : Int) ≤ (y : Int) := by omega
      have hz0 : (0 : Int) ≤ (z : Int) := by omega
      generalize Tr.nodeT n ta tb tc = R at *
      obtain ⟨w2, hw2⟩ : ∃ w2, w2 = wr.alloc (.cells #[.int .i64 n.op, .int .i64 x, .int .i64 y, .int .i64 z, .int .i64 n.num, .string n.text] 44) := ⟨_, rfl⟩
      have N2 : Own w2 wr.heap.size 44 [.int .i64 n.op, .int .i64 x, .int .i64 y, .int .i64 z, .int .i64 n.num, .string n.text] := by rw [hw2]; exact ⟨_, heap_alloc_new _ _, rfl⟩
      have X2 : Own w2 w1.heap.size 9 xs := by rw [hw2]; exact hown.alloc _
      have B2 : Below w1.heap.size w1 w2 := by rw [hw2]; exact hbel.alloc hbel.size _
      have BW2 : Below w.heap.size w w2 := B1.trans (B2.mono B1.size)
      have hne : wr.heap.size ≠ w1.heap.size := by have := hown.lt; omega
      have t1 := (X2.cell x).trans ga
      have t2 := (X2.cell y).trans gb
      have t3 := (X2.cell z).trans gc
      have c0 := N2.cell 0
      have c1 := N2.cell 1
      have c2 := N2.cell 2
      have c3 := N2.cell 3
      have c4 := N2.cell 4
      have c5 := N2.cell 5
      simp only [List.getElem?_cons_zero, List.getElem?_cons_succ] at c0 c1 c2 c3 c4 c5
      clear o1 o2 hts sa sb sc l1 l2 hx hy hz ga gb gc hown hbel BW hlt
      go_wp2_with fail
      rw [← hw2]
      clear hw2 f0 f1 f2 f3 f4 f5
      have KB := hide (show ∀ W, Own W wr.heap.size 44 [.int .i64 n.op, .int .i64 x, .int .i64 y, .int .i64 z, .int .i64 n.num, .string n.text] → (fun w' => w'.cell? ⟨wr.heap.size, 0, none⟩ = some (.int .i64 n.op) ∧ w'.cell? ⟨wr.heap.size, 1, none⟩ = some (.int .i64 x) ∧ w'.cell? ⟨wr.heap.size, 2, none⟩ = some (.int .i64 y) ∧ w'.cell? ⟨wr.heap.size, 3, none⟩ = some (.int .i64 z) ∧ w'.cell? ⟨wr.heap.size, 4, none⟩ = some (.int .i64 n.num) ∧ w'.cell? ⟨wr.heap.size, 5, none⟩ = some (.string n.text)) W from fun W h => ⟨h.cell 0, h.cell 1, h.cell 2, h.cell 3, h.cell 4, h.cell 5⟩)
      refine wp_region_held_drew (S := fun w' => w'.cell? ⟨wr.heap.size, 0, none⟩ = some (.int .i64 n.op) ∧ w'.cell? ⟨wr.heap.size, 1, none⟩ = some (.int .i64 x) ∧ w'.cell? ⟨wr.heap.size, 2, none⟩ = some (.int .i64 y) ∧ w'.cell? ⟨wr.heap.size, 3, none⟩ = some (.int .i64 z) ∧ w'.cell? ⟨wr.heap.size, 4, none⟩ = some (.int .i64 n.num) ∧ w'.cell? ⟨wr.heap.size, 5, none⟩ = some (.string n.text)) (by kernel_rfl) ⟨c0, c1, c2, c3, c4, c5⟩ (fun hHeld => ?_)
      refine take_at (i := 0) (d := 23) (v := .slice (some ⟨w1.heap.size, 0, none⟩) l.length l.length) rfl rfl (by kernel_rfl) (by kernel_rfl) (by kernel_rfl) (fun _ _ _ h => h) (Or.inl ⟨by rfl, ?_⟩) (by assumption) ?_
      · intro w' hSw; obtain ⟨s0, s1, s2, s3, s4, s5⟩ := hSw; go_simp
      simp only [Act.put, List.setIfInBounds_toArray, List.set_cons_zero, List.set_cons_succ]
      refine take_at (i := 1) (d := 24) (v := .int .i64 k) rfl rfl (by kernel_rfl) (by kernel_rfl) (by kernel_rfl) (fun _ _ _ h => h) (Or.inl ⟨by rfl, ?_⟩) (by assumption) ?_
      · intro w' hSw; obtain ⟨s0, s1, s2, s3, s4, s5⟩ := hSw; go_simp
      simp only [Act.put, List.setIfInBounds_toArray, List.set_cons_zero, List.set_cons_succ]
      refine take_at (i := 2) (d := 25) (v := .agg #[.int .i64 n.op, .int .i64 x, .int .i64 y, .int .i64 z, .int .i64 n.num, .string n.text]) rfl rfl (by kernel_rfl) (by kernel_rfl) (by kernel_rfl) (fun _ _ _ h => h) (Or.inl ⟨by rfl, ?_⟩) (by assumption) ?_
      · intro w' hSw; obtain ⟨s0, s1, s2, s3, s4, s5⟩ := hSw; go_simp
      simp only [Act.put, List.setIfInBounds_toArray, List.set_cons_zero, List.set_cons_succ]
      refine take_at (i := 3) (d := 26) (v := .slice (some ⟨w1.heap.size, 0, none⟩) l.length l.length) rfl rfl (by kernel_rfl) (by kernel_rfl) (by kernel_rfl) (fun _ _ _ h => h) (Or.inl ⟨by rfl, ?_⟩) (by assumption) ?_
      · intro w' hSw; obtain ⟨s0, s1, s2, s3, s4, s5⟩ := hSw; go_simp
      simp only [Act.put, List.setIfInBounds_toArray, List.set_cons_zero, List.set_cons_succ]
      refine take_at (i := 4) (d := 27) (v := .pointer (some ⟨wr.heap.size, 1, none⟩)) rfl rfl (by kernel_rfl) (by kernel_rfl) (by kernel_rfl) (fun _ _ _ h => h) (Or.inl ⟨by rfl, ?_⟩) (by assumption) ?_
      · intro w' hSw; obtain ⟨s0, s1, s2, s3, s4, s5⟩ := hSw; go_simp
      simp only [Act.put, List.setIfInBounds_toArray, List.set_cons_zero, List.set_cons_succ]
      refine take_at (i := 5) (d := 28) (v := .int .i64 x) rfl rfl (by kernel_rfl) (by kernel_rfl) (by kernel_rfl) (fun _ _ _ h => h) (Or.inl ⟨by rfl, ?_⟩) (by assumption) ?_
      · intro w' hSw; obtain ⟨s0, s1, s2, s3, s4, s5⟩ := hSw; go_simp
      simp only [Act.put, List.setIfInBounds_toArray, List.set_cons_zero, List.set_cons_succ]
      refine take_at (i := 6) (d := 29) (v := .pointer (some ⟨w1.heap.size, x, none⟩)) rfl rfl (by kernel_rfl) (by kernel_rfl) (by kernel_rfl) (fun _ _ _ h => h) (Or.inl ⟨by rfl, ?_⟩) (by assumption) ?_
      · intro w' hSw; obtain ⟨s0, s1, s2, s3, s4, s5⟩ := hSw; go_simp
      simp only [Act.put, List.setIfInBounds_toArray, List.set_cons_zero, List.set_cons_succ]
      refine take_at (i := 8) (d := 31) (v := .slice (some ⟨w1.heap.size, 0, none⟩) l.length l.length) rfl rfl (by kernel_rfl) (by kernel_rfl) (by kernel_rfl) (fun _ _ _ h => h) (Or.inl ⟨by rfl, ?_⟩) (by assumption) ?_
      · intro w' hSw; obtain ⟨s0, s1, s2, s3, s4, s5⟩ := hSw; go_simp
      simp only [Act.put, List.setIfInBounds_toArray, List.set_cons_zero, List.set_cons_succ]
      refine take_at (i := 9) (d := 32) (v := .pointer (some ⟨wr.heap.size, 2, none⟩)) rfl rfl (by kernel_rfl) (by kernel_rfl) (by kernel_rfl) (fun _ _ _ h => h) (Or.inl ⟨by rfl, ?_⟩) (by assumption) ?_
      · intro w' hSw; obtain ⟨s0, s1, s2, s3, s4, s5⟩ := hSw; go_simp
      simp only [Act.put, List.setIfInBounds_toArray, List.set_cons_zero, List.set_cons_succ]
      refine take_at (i := 10) (d := 33) (v := .int .i64 y) rfl rfl (by kernel_rfl) (by kernel_rfl) (by kernel_rfl) (fun _ _ _ h => h) (Or.inl ⟨by rfl, ?_⟩) (by assumption) ?_
      · intro w' hSw; obtain ⟨s0, s1, s2, s3, s4, s5⟩ := hSw; go_simp
      simp only [Act.put, List.setIfInBounds_toArray, List.set_cons_zero, List.set_cons_succ]
      refine take_at (i := 11) (d := 34) (v := .pointer (some ⟨w1.heap.size, y, none⟩)) rfl rfl (by kernel_rfl) (by kernel_rfl) (by kernel_rfl) (fun _ _ _ h => h) (Or.inl ⟨by rfl, ?_⟩) (by assumption) ?_
      · intro w' hSw; obtain ⟨s0, s1, s2, s3, s4, s5⟩ := hSw; go_simp
      simp only [Act.put, List.setIfInBounds_toArray, List.set_cons_zero, List.set_cons_succ]
      refine take_at (i := 13) (d := 36) (v := .slice (some ⟨w1.heap.size, 0, none⟩) l.length l.length) rfl rfl (by kernel_rfl) (by kernel_rfl) (by kernel_rfl) (fun _ _ _ h => h) (Or.inl ⟨by rfl, ?_⟩) (by assumption) ?_
      · intro w' hSw; obtain ⟨s0, s1, s2, s3, s4, s5⟩ := hSw; go_simp
      simp only [Act.put, List.setIfInBounds_toArray, List.set_cons_zero, List.set_cons_succ]
      refine take_at (i := 14) (d := 37) (v := .pointer (some ⟨wr.heap.size, 3, none⟩)) rfl rfl (by kernel_rfl) (by kernel_rfl) (by kernel_rfl) (fun _ _ _ h => h) (Or.inl ⟨by rfl, ?_⟩) (by assumption) ?_
      · intro w' hSw; obtain ⟨s0, s1, s2, s3, s4, s5⟩ := hSw; go_simp
      simp only [Act.put, List.setIfInBounds_toArray, List.set_cons_zero, List.set_cons_succ]
      refine take_at (i := 15) (d := 38) (v := .int .i64 z) rfl rfl (by kernel_rfl) (by kernel_rfl) (by kernel_rfl) (fun _ _ _ h => h) (Or.inl ⟨by rfl, ?_⟩) (by assumption) ?_
      · intro w' hSw; obtain ⟨s0, s1, s2, s3, s4, s5⟩ := hSw; go_simp
      simp only [Act.put, List.setIfInBounds_toArray, List.set_cons_zero, List.set_cons_succ]
      refine take_at (i := 16) (d := 39) (v := .pointer (some ⟨w1.heap.size, z, none⟩)) rfl rfl (by kernel_rfl) (by kernel_rfl) (by kernel_rfl) (fun _ _ _ h => h) (Or.inl ⟨by rfl, ?_⟩) (by assumption) ?_
      · intro w' hSw; obtain ⟨s0, s1, s2, s3, s4, s5⟩ := hSw; go_simp
      simp only [Act.put, List.setIfInBounds_toArray, List.set_cons_zero, List.set_cons_succ]
      refine wpAnyH_ready (rs := [7, 12, 17]) (by kernel_rfl) (by simp) (read_cons (i := 7) (d := 30) (v := .string ta) rfl rfl (by rfl) ?_ (by assumption) ?_ (read_cons (i := 12) (d := 35) (v := .string tb) rfl rfl (by rfl) ?_ (by assumption) ?_ (read_cons (i := 17) (d := 40) (v := .string tc) rfl rfl (by rfl) ?_ (by assumption) ?_ AllReadyH.nil)))
      · intro K hK
        go_simp
        exact hK.out
      · simp only [Act.put, List.setIfInBounds_toArray, List.set_cons_zero, List.set_cons_succ]
        refine wpAnyH_ready (rs := [12, 17]) (by kernel_rfl) (by simp) (read_cons (i := 12) (d := 35) (v := .string tb) rfl rfl (by rfl) ?_ (by assumption) ?_ (read_cons (i := 17) (d := 40) (v := .string tc) rfl rfl (by rfl) ?_ (by assumption) ?_ AllReadyH.nil))
        · intro K hK
          go_simp
          exact hK.out
        · simp only [Act.put, List.setIfInBounds_toArray, List.set_cons_zero, List.set_cons_succ]
          refine wpAnyH_ready (rs := [17]) (by kernel_rfl) (by simp) (read_cons (i := 17) (d := 40) (v := .string tc) rfl rfl (by rfl) ?_ (by assumption) ?_ AllReadyH.nil)
          · intro K hK
            go_simp
            exact hK.out
          · simp only [Act.put, List.setIfInBounds_toArray, List.set_cons_zero, List.set_cons_succ]
            refine call_at (i := 18) (d := 41) rfl rfl (by kernel_rfl) (by rfl) (fun K hK => ?_)
            go_simp
            refine ((unhide HNT) _ BW2.drew).mono ?_
            rintro e w7 ⟨rfl, hb7⟩
            have N7 := N2.drew.below hb7 N2.drew.lt
            have X7 := X2.drew.below hb7 X2.drew.lt
            have d7 := (X7.cell k).trans gd
            have z7 := X7.frozen k
            go_simp
            have hS7 := (unhide KB) _ N7
            refine hK.out (.string R) _ hS7 ?_
            clear hK K
            simp only [Act.put, List.setIfInBounds_toArray, List.set_cons_zero, List.set_cons_succ]
            refine take_at (i := 19) (d := 42) (v := .pointer (some ⟨w1.heap.size, k, none⟩)) rfl rfl (by kernel_rfl) (by kernel_rfl) (by kernel_rfl) (fun _ _ _ h => h) (Or.inl ⟨by rfl, ?_⟩) hS7 ?_
            · intro w' hSw; obtain ⟨s0, s1, s2, s3, s4, s5⟩ := hSw; go_simp
            simp only [Act.put, List.setIfInBounds_toArray, List.set_cons_zero, List.set_cons_succ]
            refine last_at (i := 20) (w' := w7.setCell ⟨w1.heap.size, k, none⟩ (.string R)) rfl rfl (by kernel_rfl) (by rfl) (fun K hK => ?_) ((unhide KB) _ (N7.setOther _ _ hne)) ?_
            · go_simp
              exact hK.out
            refine wpAnyH_done (by kernel_rfl) ?_ _
            have B7 : Below w1.heap.size w1 w7 := B2.drew.trans (hb7.mono B2.drew.size)
            clear d7 z7 c0 c1 c2 c3 c4 c5 t1 t2 t3 gd
            go_wp2_with fail
            go_roundg (l.length - (k + 1))
            case rel => exact ⟨k + 1, _, rfl, by go_num, by omega, X7.set k _, unhide hst, B7.setCell (Nat.le_refl _) _⟩
            case measure => have := hg.out; omega
        · intro K hK
          go_simp
          exact hK.out
        · simp only [Act.put, List.setIfInBounds_toArray, List.set_cons_zero, List.set_cons_succ]
          refine wpAnyH_ready (rs := [12]) (by kernel_rfl) (by simp) (read_cons (i := 12) (d := 35) (v := .string tb) rfl rfl (by rfl) ?_ (by assumption) ?_ AllReadyH.nil)
          · intro K hK
            go_simp
            exact hK.out
          · simp only [Act.put, List.setIfInBounds_toArray, List.set_cons_zero, List.set_cons_succ]
            refine call_at (i := 18) (d := 41) rfl rfl (by kernel_rfl) (by rfl) (fun K hK => ?_)
            go_simp
            refine ((unhide HNT) _ BW2.drew).mono ?_
            rintro e w7 ⟨rfl, hb7⟩
            have N7 := N2.drew.below hb7 N2.drew.lt
            have X7 := X2.drew.below hb7 X2.drew.lt
            have d7 := (X7.cell k).trans gd
            have z7 := X7.frozen k
            go_simp
            have hS7 := (unhide KB) _ N7
            refine hK.out (.string R) _ hS7 ?_
            clear hK K
            simp only [Act.put, List.setIfInBounds_toArray, List.set_cons_zero, List.set_cons_succ]
            refine take_at (i := 19) (d := 42) (v := .pointer (some ⟨w1.heap.size, k, none⟩)) rfl rfl (by kernel_rfl) (by kernel_rfl) (by kernel_rfl) (fun _ _ _ h => h) (Or.inl ⟨by rfl, ?_⟩) hS7 ?_
            · intro w' hSw; obtain ⟨s0, s1, s2, s3, s4, s5⟩ := hSw; go_simp
            simp only [Act.put, List.setIfInBounds_toArray, List.set_cons_zero, List.set_cons_succ]
            refine last_at (i := 20) (w' := w7.setCell ⟨w1.heap.size, k, none⟩ (.string R)) rfl rfl (by kernel_rfl) (by rfl) (fun K hK => ?_) ((unhide KB) _ (N7.setOther _ _ hne)) ?_
            · go_simp
              exact hK.out
            refine wpAnyH_done (by kernel_rfl) ?_ _
            have B7 : Below w1.heap.size w1 w7 := B2.drew.trans (hb7.mono B2.drew.size)
            clear d7 z7 c0 c1 c2 c3 c4 c5 t1 t2 t3 gd
            go_wp2_with fail
            go_roundg (l.length - (k + 1))
            case rel => exact ⟨k + 1, _, rfl, by go_num, by omega, X7.set k _, unhide hst, B7.setCell (Nat.le_refl _) _⟩
            case measure => have := hg.out; omega
      · intro K hK
        go_simp
        exact hK.out
      · simp only [Act.put, List.setIfInBounds_toArray, List.set_cons_zero, List.set_cons_succ]
        refine wpAnyH_ready (rs := [7, 17]) (by kernel_rfl) (by simp) (read_cons (i := 7) (d := 30) (v := .string ta) rfl rfl (by rfl) ?_ (by assumption) ?_ (read_cons (i := 17) (d := 40) (v := .string tc) rfl rfl (by rfl) ?_ (by assumption) ?_ AllReadyH.nil))
        · intro K hK
          go_simp
          exact hK.out
        · simp only [Act.put, List.setIfInBounds_toArray, List.set_cons_zero, List.set_cons_succ]
          refine wpAnyH_ready (rs := [17]) (by kernel_rfl) (by simp) (read_cons (i := 17) (d := 40) (v := .string tc) rfl rfl (by rfl) ?_ (by assumption) ?_ AllReadyH.nil)
          · intro K hK
            go_simp
            exact hK.out
          · simp only [Act.put, List.setIfInBounds_toArray, List.set_cons_zero, List.set_cons_succ]
            refine call_at (i := 18) (d := 41) rfl rfl (by kernel_rfl) (by rfl) (fun K hK => ?_)
            go_simp
            refine ((unhide HNT) _ BW2.drew).mono ?_
            rintro e w7 ⟨rfl, hb7⟩
            have N7 := N2.drew.below hb7 N2.drew.lt
            have X7 := X2.drew.below hb7 X2.drew.lt
            have d7 := (X7.cell k).trans gd
            have z7 := X7.frozen k
            go_simp
            have hS7 := (unhide KB) _ N7
            refine hK.out (.string R) _ hS7 ?_
            clear hK K
            simp only [Act.put, List.setIfInBounds_toArray, List.set_cons_zero, List.set_cons_succ]
            refine take_at (i := 19) (d := 42) (v := .pointer (some ⟨w1.heap.size, k, none⟩)) rfl rfl (by kernel_rfl) (by kernel_rfl) (by kernel_rfl) (fun _ _ _ h => h) (Or.inl ⟨by rfl, ?_⟩) hS7 ?_
            · intro w' hSw; obtain ⟨s0, s1, s2, s3, s4, s5⟩ := hSw; go_simp
            simp only [Act.put, List.setIfInBounds_toArray, List.set_cons_zero, List.set_cons_succ]
            refine last_at (i := 20) (w' := w7.setCell ⟨w1.heap.size, k, none⟩ (.string R)) rfl rfl (by kernel_rfl) (by rfl) (fun K hK => ?_) ((unhide KB) _ (N7.setOther _ _ hne)) ?_
            · go_simp
              exact hK.out
            refine wpAnyH_done (by kernel_rfl) ?_ _
            have B7 : Below w1.heap.size w1 w7 := B2.drew.trans (hb7.mono B2.drew.size)
            clear d7 z7 c0 c1 c2 c3 c4 c5 t1 t2 t3 gd
            go_wp2_with fail
            go_roundg (l.length - (k + 1))
            case rel => exact ⟨k + 1, _, rfl, by go_num, by omega, X7.set k _, unhide hst, B7.setCell (Nat.le_refl _) _⟩
            case measure => have := hg.out; omega
        · intro K hK
          go_simp
          exact hK.out
        · simp only [Act.put, List.setIfInBounds_toArray, List.set_cons_zero, List.set_cons_succ]
          refine wpAnyH_ready (rs := [7]) (by kernel_rfl) (by simp) (read_cons (i := 7) (d := 30) (v := .string ta) rfl rfl (by rfl) ?_ (by assumption) ?_ AllReadyH.nil)
          · intro K hK
            go_simp
            exact hK.out
          · simp only [Act.put, List.setIfInBounds_toArray, List.set_cons_zero, List.set_cons_succ]
            refine call_at (i := 18) (d := 41) rfl rfl (by kernel_rfl) (by rfl) (fun K hK => ?_)
            go_simp
            refine ((unhide HNT) _ BW2.drew).mono ?_
            rintro e w7 ⟨rfl, hb7⟩
            have N7 := N2.drew.below hb7 N2.drew.lt
            have X7 := X2.drew.below hb7 X2.drew.lt
            have d7 := (X7.cell k).trans gd
            have z7 := X7.frozen k
            go_simp
            have hS7 := (unhide KB) _ N7
            refine hK.out (.string R) _ hS7 ?_
            clear hK K
            simp only [Act.put, List.setIfInBounds_toArray, List.set_cons_zero, List.set_cons_succ]
            refine take_at (i := 19) (d := 42) (v := .pointer (some ⟨w1.heap.size, k, none⟩)) rfl rfl (by kernel_rfl) (by kernel_rfl) (by kernel_rfl) (fun _ _ _ h => h) (Or.inl ⟨by rfl, ?_⟩) hS7 ?_
            · intro w' hSw; obtain ⟨s0, s1, s2, s3, s4, s5⟩ := hSw; go_simp
            simp only [Act.put, List.setIfInBounds_toArray, List.set_cons_zero, List.set_cons_succ]
            refine last_at (i := 20) (w' := w7.setCell ⟨w1.heap.size, k, none⟩ (.string R)) rfl rfl (by kernel_rfl) (by rfl) (fun K hK => ?_) ((unhide KB) _ (N7.setOther _ _ hne)) ?_
            · go_simp
              exact hK.out
            refine wpAnyH_done (by kernel_rfl) ?_ _
            have B7 : Below w1.heap.size w1 w7 := B2.drew.trans (hb7.mono B2.drew.size)
            clear d7 z7 c0 c1 c2 c3 c4 c5 t1 t2 t3 gd
            go_wp2_with fail
            go_roundg (l.length - (k + 1))
            case rel => exact ⟨k + 1, _, rfl, by go_num, by omega, X7.set k _, unhide hst, B7.setCell (Nat.le_refl _) _⟩
            case measure => have := hg.out; omega
      · intro K hK
        go_simp
        exact hK.out
      · simp only [Act.put, List.setIfInBounds_toArray, List.set_cons_zero, List.set_cons_succ]
        refine wpAnyH_ready (rs := [7, 12]) (by kernel_rfl) (by simp) (read_cons (i := 7) (d := 30) (v := .string ta) rfl rfl (by rfl) ?_ (by assumption) ?_ (read_cons (i := 12) (d := 35) (v := .string tb) rfl rfl (by rfl) ?_ (by assumption) ?_ AllReadyH.nil))
        · intro K hK
          go_simp
          exact hK.out
        · simp only [Act.put, List.setIfInBounds_toArray, List.set_cons_zero, List.set_cons_succ]
          refine wpAnyH_ready (rs := [12]) (by kernel_rfl) (by simp) (read_cons (i := 12) (d := 35) (v := .string tb) rfl rfl (by rfl) ?_ (by assumption) ?_ AllReadyH.nil)
          · intro K hK
            go_simp
            exact hK.out
          · simp only [Act.put, List.setIfInBounds_toArray, List.set_cons_zero, List.set_cons_succ]
            refine call_at (i := 18) (d := 41) rfl rfl (by kernel_rfl) (by rfl) (fun K hK => ?_)
            go_simp
            refine ((unhide HNT) _ BW2.drew).mono ?_
            rintro e w7 ⟨rfl, hb7⟩
            have N7 := N2.drew.below hb7 N2.drew.lt
            have X7 := X2.drew.below hb7 X2.drew.lt
            have d7 := (X7.cell k).trans gd
            have z7 := X7.frozen k
            go_simp
            have hS7 := (unhide KB) _ N7
            refine hK.out (.string R) _ hS7 ?_
            clear hK K
            simp only [Act.put, List.setIfInBounds_toArray, List.set_cons_zero, List.set_cons_succ]
            refine take_at (i := 19) (d := 42) (v := .pointer (some ⟨w1.heap.size, k, none⟩)) rfl rfl (by kernel_rfl) (by kernel_rfl) (by kernel_rfl) (fun _ _ _ h => h) (Or.inl ⟨by rfl, ?_⟩) hS7 ?_
            · intro w' hSw; obtain ⟨s0, s1, s2, s3, s4, s5⟩ := hSw; go_simp
            simp only [Act.put, List.setIfInBounds_toArray, List.set_cons_zero, List.set_cons_succ]
            refine last_at (i := 20) (w' := w7.setCell ⟨w1.heap.size, k, none⟩ (.string R)) rfl rfl (by kernel_rfl) (by rfl) (fun K hK => ?_) ((unhide KB) _ (N7.setOther _ _ hne)) ?_
            · go_simp
              exact hK.out
            refine wpAnyH_done (by kernel_rfl) ?_ _
            have B7 : Below w1.heap.size w1 w7 := B2.drew.trans (hb7.mono B2.drew.size)
            clear d7 z7 c0 c1 c2 c3 c4 c5 t1 t2 t3 gd
            go_wp2_with fail
            go_roundg (l.length - (k + 1))
            case rel => exact ⟨k + 1, _, rfl, by go_num, by omega, X7.set k _, unhide hst, B7.setCell (Nat.le_refl _) _⟩
            case measure => have := hg.out; omega
        · intro K hK
          go_simp
          exact hK.out
        · simp only [Act.put, List.setIfInBounds_toArray, List.set_cons_zero, List.set_cons_succ]
          refine wpAnyH_ready (rs := [7]) (by kernel_rfl) (by simp) (read_cons (i := 7) (d := 30) (v := .string ta) rfl rfl (by rfl) ?_ (by assumption) ?_ AllReadyH.nil)
          · intro K hK
            go_simp
            exact hK.out
          · simp only [Act.put, List.setIfInBounds_toArray, List.set_cons_zero, List.set_cons_succ]
            refine call_at (i := 18) (d := 41) rfl rfl (by kernel_rfl) (by rfl) (fun K hK => ?_)
            go_simp
            refine ((unhide HNT) _ BW2.drew).mono ?_
            rintro e w7 ⟨rfl, hb7⟩
            have N7 := N2.drew.below hb7 N2.drew.lt
            have X7 := X2.drew.below hb7 X2.drew.lt
            have d7 := (X7.cell k).trans gd
            have z7 := X7.frozen k
            go_simp
            have hS7 := (unhide KB) _ N7
            refine hK.out (.string R) _ hS7 ?_
            clear hK K
            simp only [Act.put, List.setIfInBounds_toArray, List.set_cons_zero, List.set_cons_succ]
            refine take_at (i := 19) (d := 42) (v := .pointer (some ⟨w1.heap.size, k, none⟩)) rfl rfl (by kernel_rfl) (by kernel_rfl) (by kernel_rfl) (fun _ _ _ h => h) (Or.inl ⟨by rfl, ?_⟩) hS7 ?_
            · intro w' hSw; obtain ⟨s0, s1, s2, s3, s4, s5⟩ := hSw; go_simp
            simp only [Act.put, List.setIfInBounds_toArray, List.set_cons_zero, List.set_cons_succ]
            refine last_at (i := 20) (w' := w7.setCell ⟨w1.heap.size, k, none⟩ (.string R)) rfl rfl (by kernel_rfl) (by rfl) (fun K hK => ?_) ((unhide KB) _ (N7.setOther _ _ hne)) ?_
            · go_simp
              exact hK.out
            refine wpAnyH_done (by kernel_rfl) ?_ _
            have B7 : Below w1.heap.size w1 w7 := B2.drew.trans (hb7.mono B2.drew.size)
            clear d7 z7 c0 c1 c2 c3 c4 c5 t1 t2 t3 gd
            go_wp2_with fail
            go_roundg (l.length - (k + 1))
            case rel => exact ⟨k + 1, _, rfl, by go_num, by omega, X7.set k _, unhide hst, B7.setCell (Nat.le_refl _) _⟩
            case measure => have := hg.out; omega
    · have hke : k = l.length := by omega
      obtain ⟨t, gt, _, et⟩ := htx.out.2 (l.length - 1) (by omega)
      have fin2 := hide (show Tr.fmtOut l = (0, t) by rw [unhide fin, et (by omega)])
      have ft := (hown.cell (l.length - 1)).trans gt
      have OX := O1.below hbel O1.lt
      have hkk : ((l.length - 1 : Nat) : Int) < (l.length : Int) := by omega
      have hk0 : (0 : Int) ≤ ((l.length - 1 : Nat) : Int) := by omega
      subst hke
      clear O1 gt et
      obtain ⟨c0, c1⟩ := tres_of OX
      have z0 := OX.frozen 0
      have z1 := OX.frozen 1
      have O2 := hide ((OX.set 0 (.int .i64 0)).set 1 (.string t))
      clear OX
      go_wp2_with fail
      obtain ⟨q0, q1⟩ := tres_of (x := 0) (y := t) (unhide O2)
      clear c0 c1 z0 z1 O2
      have B2 : Below w.heap.size w ((wr.setCell ⟨w.heap.size, 0, none⟩ (.int .i64 0)).setCell ⟨w.heap.size, 1, none⟩ (.string t)) := (BW.setCell (Nat.le_refl _) _).setCell (Nat.le_refl _) _
      generalize (wr.setCell ⟨w.heap.size, 0, none⟩ (.int .i64 0)).setCell ⟨w.heap.size, 1, none⟩ (.string t) = WW at *
      refine bodyPost_ret (v := .agg #[.int .i64 0, .string t]) (by simp [results, Tryd.results8, go_sem, q0, q1]; try rfl) rfl ⟨by rw [unhide fin2], B2⟩

end Go.Proofs.YtcolohilnmikiaaDoor
