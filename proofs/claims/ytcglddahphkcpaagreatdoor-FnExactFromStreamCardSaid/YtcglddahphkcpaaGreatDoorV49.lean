/-
  laws.toCellSS, laws.eqCellSS, laws.markCellSS: lists of lists of cells (LibS with Out named OutX, for laws that import EachM).
-/
import Derived.Test.YtcglddahphkcpaaGreatDoorV01
import Derived.Test.YtcglddahphkcpaaGreatDoorV48
import Derived.Deep.RegionHeld
namespace Go.Proofs.YtcglddahphkcpaaGreatDoor
open Go.RowKit
set_option linter.unusedVariables false

def mk1 (n : Nat) : Array Value := madeCells (Value.slice none 0 0).cells n
theorem size_mk1 (n : Nat) : (mk1 n).size = n := by simp [mk1, size_madeCells]

theorem make_lists (n : Nat) (hn : n ≤ 1048576) (w : World) :
    (Instr.makeSlice 28 (.int .i64 (n : Int)) (.int .i64 (n : Int))).run Tryz.prog w = .ok (.slice (some ⟨w.heap.size, 0, none⟩) n n) (w.alloc (.cells (mk1 n) 24)) := by
  obtain ⟨i, hi, hz⟩ := Option.map_eq_some_iff.1 Tryz.info24
  simp only [Prod.mk.injEq] at hz
  obtain ⟨h1, h2, h3⟩ := hz
  have := run_make (P := Tryz.prog) w 28 24 i _ Tryz.underlying28 hi h1 .i64 .i64 (n : Int) (n : Int) (by omega) (by omega) (by rw [h3]; omega) (by omega)
  rw [this, h2]
  simp only [Int.toNat_natCast, Nat.mul_one]
  rfl

/-- Block g holds slices, each of which is a row of its own behind g and holds the cells of one of the lists ps. -/
def LLk (w : World) (g : Nat) (ps : List (List M.Cl)) (k : Nat) (xs : List Value) (β : Nat → Nat) : Prop :=
  Own w g 24 xs ∧ xs.length = ps.length ∧ ∀ i, i < k → xs[i]? = some (.slice (some ⟨β i, 0, none⟩) (ps.getD i []).length (ps.getD i []).length) ∧ g < β i ∧ OwnRow w (β i) 111 (ps.getD i []) ∧ ∀ j, j < i → β j ≠ β i
def LL (w : World) (g : Nat) (ps : List (List M.Cl)) : Prop := ∃ xs β, LLk w g ps ps.length xs β

theorem LL.row {w : World} {g : Nat} {ps : List (List M.Cl)} (h : LL w g ps) : LR w g ps := by
  obtain ⟨xs, β, h1, h2, h3⟩ := h
  refine ⟨h1.lt, fun i hi => ⟨β i, (h1.cell i).trans (h3 i hi).1, (h3 i hi).2.2.1.lt, (h3 i hi).2.2.1.row⟩⟩
theorem LLk.below {w w' : World} {g : Nat} {ps : List (List M.Cl)} {k : Nat} {xs : List Value} {β : Nat → Nat} (h : LLk w g ps k xs β) (hb : Below w.heap.size w w') : LLk w' g ps k xs β := by
  obtain ⟨h1, h2, h3⟩ := h
  exact ⟨h1.below hb h1.lt, h2, fun i hi => ⟨(h3 i hi).1, (h3 i hi).2.1, (h3 i hi).2.2.1.below hb (h3 i hi).2.2.1.lt, (h3 i hi).2.2.2⟩⟩
/-- One more list laid. -/
theorem LLk.step {w w1 : World} {g : Nat} {ps : List (List M.Cl)} {k : Nat} {xs : List Value} {β : Nat → Nat} (h : LLk w g ps k xs β) (hk : k < ps.length) (hb : Below w.heap.size w w1) (ho : OwnRow w1 w.heap.size 111 (ps.getD k [])) :
    LLk (w1.setCell ⟨g, k, none⟩ (.slice (some ⟨w.heap.size, 0, none⟩) (ps.getD k []).length (ps.getD k []).length)) g ps (k + 1) (xs.set k (.slice (some ⟨w.heap.size, 0, none⟩) (ps.getD k []).length (ps.getD k []).length)) (fun i => if i = k then w.heap.size else β i) := by
  have h' := h.below hb
  obtain ⟨h1, h2, h3⟩ := h'
  have hg := h.1.lt
  refine ⟨h1.set _ _, by rw [List.length_set]; exact h2, fun i hi => ?_⟩
  by_cases e : i = k
  · subst e
    simp only [if_true]
    refine ⟨by rw [List.getElem?_set_self (by omega)], hg, ?_, fun j hj => ?_⟩
    · obtain ⟨ys, y1, y2⟩ := ho
      exact ⟨ys, y1.setOther _ _ (by show w.heap.size ≠ g; omega), y2⟩
    · rw [if_neg (by omega)]
      have := (h.2.2 j hj).2.2.1.lt
      omega
  · have g3 := h3 i (by omega)
    simp only [if_neg e]
    refine ⟨by rw [List.getElem?_set_ne (by omega)]; exact g3.1, g3.2.1, ?_, fun j hj => ?_⟩
    · obtain ⟨ys, y1, y2⟩ := g3.2.2.1
      exact ⟨ys, y1.setOther _ _ (by show β i ≠ g; have := g3.2.1; omega), y2⟩
    · rw [if_neg (by omega)]
      exact g3.2.2.2 j hj

/-- As LL, with a bound of the rows' blocks. -/
def LH (w : World) (g hi : Nat) (ps : List (List M.Cl)) : Prop := ∃ xs β, LLk w g ps ps.length xs β ∧ ∀ i, i < ps.length → β i < hi
theorem LH.ll {w : World} {g hi : Nat} {ps : List (List M.Cl)} (h : LH w g hi ps) : LL w g ps := by obtain ⟨xs, β, h, _⟩ := h; exact ⟨xs, β, h⟩
theorem LH.row {w : World} {g hi : Nat} {ps : List (List M.Cl)} (h : LH w g hi ps) : LR w g ps := h.ll.row
theorem LH.below {w w' : World} {g hi : Nat} {ps : List (List M.Cl)} (h : LH w g hi ps) (hb : Below w.heap.size w w') : LH w' g hi ps := by
  obtain ⟨xs, β, h, h'⟩ := h; exact ⟨xs, β, h.below hb, h'⟩
theorem LL.lh {w : World} {g : Nat} {ps : List (List M.Cl)} (h : LL w g ps) : LH w g w.heap.size ps := by
  obtain ⟨xs, β, h⟩ := h; exact ⟨xs, β, h, fun i hi => (h.2.2 i hi).2.2.1.lt⟩

set_option maxHeartbeats 800000 in
theorem toCellSS_any (a : Option Addr) (cap : Nat) (es : List Ar) (w : World) (h : Lists w a cap es) (hn : es.length ≤ 1048576) (hln : tot (lists es) (lists es).length ≤ 1048576) :
    Calls Tryz.prog 9 #[.slice a es.length cap] w fun e w' => e = .returned (.slice (some ⟨w.heap.size, 0, none⟩) es.length es.length) ∧ LL w' w.heap.size (lists es) ∧ Below w.heap.size w w' := by
  obtain ⟨c1, c2, c3, rfl | ⟨b, off, rfl, hb, hr⟩⟩ := h
  · have hmk : ∀ w, (Instr.makeSlice 28 (.int .i64 0) (.int .i64 0)).run Tryz.prog w = .ok (.slice (some ⟨w.heap.size, 0, none⟩) 0 0) (w.alloc (.cells (mk1 0) 24)) := make_lists 0 (by omega)
    simp only [List.length_nil]
    go_enter Tryz.func9, Tryz.ntmps9
    go_wp2_with fail
    refine wp_loop_rounds 1 ?_
    rw [rounds_succ]
    go_wp2_with fail
    go_ret
    exact ⟨rfl, ⟨(mk1 0).toList, fun _ => 0, ⟨_, heap_alloc_new _ _, rfl⟩, by simp [size_mk1, lists], fun i hi => absurd hi (by simp [lists])⟩, (Below.refl _ _).alloc (Nat.le_refl _) _⟩
  have hmk := make_lists es.length hn
  have HC := hide c3
  have HN := hide hln
  clear c3 hln
  go_enter Tryz.func9, Tryz.ntmps9
  go_wp2_with fail
  go_loopg [4] es.length (fun gh i wr => ∃ (k : Nat) (xs : List Value) (β : Nat → Nat), Hid (gh = es.length - k) ∧ k ≤ es.length ∧ i = .int .i64 k ∧ LLk wr w.heap.size (lists es) k xs β ∧ Below w.heap.size w wr)
  case atStart => exact ⟨0, (mk1 es.length).toList, fun _ => 0, rfl, by omega, rfl, ⟨⟨_, heap_alloc_new _ _, rfl⟩, by simp [size_mk1, lists], fun i hi => absurd hi (by omega)⟩, (Below.refl _ _).alloc (Nat.le_refl _) _⟩
  case round =>
    obtain ⟨k, xs, β, hg, hk, rfl, hll, hbel⟩ := hrel
    clear hmk
    by_cases hlt : k < es.length
    · obtain ⟨e, he⟩ : ∃ e, e = es.getD k Ar.zero := ⟨_, rfl⟩
      have f0 := (hbel.cell hb).trans (hr k hlt)
      have hce := hide (((unhide HC) _ (ar_mem hlt)).below hbel)
      have hcn := Nat.le_trans (len_le (lists es) k (by rw [lists_length]; exact hlt)) (unhide HN)
      rw [lists_getD] at hcn
      have hstep := hide (fun w1 (hb1 : Below wr.heap.size wr w1) ho => hll.step (by rw [lists_length]; exact hlt) hb1 (by rw [lists_getD]; exact ho))
      rw [lists_getD] at hstep
      rw [← he] at f0 hce hcn hstep
      unfold Ar.val at f0
      clear he
      go_wp2_with fail
      refine (to_arg e.a e.cap e.l _ (unhide hce) hcn).mono ?_
      rintro e1 w1 ⟨rfl, ho1, hb1⟩
      have hll1 := hll.below hb1
      have hlen := hll1.2.1
      rw [lists_length] at hlen
      obtain ⟨v0, g0⟩ := some_of_lt (xs := xs) (j := k) (by omega)
      have i0 := (hll1.1.cell k).trans g0
      have z0 := hll1.1.frozen k
      have HS := hide ((unhide hstep) w1 hb1 ho1)
      have HB := hide (hbel.trans (hb1.mono hbel.size))
      clear f0 hce hcn hstep hlen g0 hll1 hll ho1 hb1 hbel
      go_wp2_with fail
      go_roundg (es.length - (k + 1))
      case rel => exact ⟨k + 1, _, _, rfl, by omega, by go_num, unhide HS, (unhide HB).setCell (Nat.le_refl _) _⟩
      case measure => have := hg.out; omega
    · have hke : k = es.length := by omega
      have fin := hide (show LL wr w.heap.size (lists es) from ⟨xs, β, by rw [lists_length, ← hke]; exact hll⟩)
      clear hke hll
      go_wp2_with fail
      go_ret
      exact ⟨rfl, unhide fin, hbel⟩

set_option maxHeartbeats 800000 in
theorem eqCellSS_same (g g' : Nat) (ps : List (List M.Cl)) (w : World) (h : LR w g ps) (h' : LR w g' ps) (hn : ps.length ≤ 1048576) (hln : tot ps ps.length ≤ 1048576) :
    Calls Tryz.prog 12 #[.slice (some ⟨g, 0, none⟩) ps.length ps.length, .slice (some ⟨g', 0, none⟩) ps.length ps.length] w fun e w' => e = .returned (.bool true) ∧ Below w.heap.size w w' := by
  have H := hide h
  have H' := hide h'
  have HN := hide hln
  clear h h' hln
  go_enter Tryz.func12, Tryz.ntmps12
  go_wp2_with fail
  go_loopg [5] ps.length (fun gh i wr => ∃ k : Nat, Hid (gh = ps.length - k) ∧ k ≤ ps.length ∧ i = .int .i64 k ∧ Below w.heap.size w wr)
  case atStart => exact ⟨0, rfl, by omega, rfl, Below.refl _ _⟩
  case round =>
    obtain ⟨k, hg, hk, rfl, hbel⟩ := hrel
    by_cases hlt : k < ps.length
    · obtain ⟨b, f0, hb, hr⟩ := ((unhide H).below hbel).2 k hlt
      obtain ⟨b', f0', hb', hr'⟩ := ((unhide H').below hbel).2 k hlt
      have hq := Nat.le_trans (len_le ps k hlt) (unhide HN)
      have HR := hide hr
      have HR' := hide hr'
      clear hr hr'
      generalize ps.getD k [] = p at *
      go_wp2_with fail
      go_region_with (go_at_call 42; refine (eqCellS_same b 0 p.length b' 0 p.length p wr.drew (by exact unhide HR) (by exact hb) (by exact unhide HR') (by exact hb') hq (Nat.le_refl _) (Nat.le_refl _)).mono ?_; rintro e w1 ⟨rfl, hb1⟩)
      all_goals
        go_wp2_with fail
        go_roundg (ps.length - (k + 1))
        case rel => exact ⟨k + 1, rfl, by omega, by go_num, hbel.drew.trans (hb1.mono (by exact hbel.size))⟩
        case measure => have := hg.out; omega
    · go_wp2_with fail
      go_ret
      exact ⟨rfl, hbel⟩

/-- All but what lies from block lo on and ahead of block hi is as it was. -/
structure OutX (lo hi : Nat) (w w' : World) : Prop where
  os : w'.os = w.os
  tape : w'.tape = w.tape
  output : w'.output = w.output
  size : w.heap.size ≤ w'.heap.size
  block : ∀ k, k < w.heap.size → (k < lo ∨ hi ≤ k) → w'.heap[k]? = w.heap[k]?
theorem OutX.refl (lo hi : Nat) (w : World) : OutX lo hi w w := ⟨rfl, rfl, rfl, Nat.le_refl _, fun _ _ _ => rfl⟩
theorem OutX.but {lo hi b : Nat} {u v w : World} (h : OutX lo hi u v) (k : But v.heap.size b v w) (h1 : lo ≤ b) (h2 : b < hi) : OutX lo hi u w :=
  ⟨k.os.trans h.os, k.tape.trans h.tape, k.output.trans h.output, Nat.le_trans h.size k.size, fun i h3 h4 => (k.block i (Nat.lt_of_lt_of_le h3 h.size) (by omega)).trans (h.block i h3 h4)⟩
theorem OutX.below {lo hi B : Nat} {w w' : World} (h : OutX lo hi w w') (h1 : B ≤ lo) (h2 : B ≤ w.heap.size) : Below B w w' :=
  ⟨h.os, h.tape, h.output, h.size, fun k hk => h.block k (by omega) (by omega)⟩
theorem OutX.own {lo hi : Nat} {w w' : World} (h : OutX lo hi w w') {c : Nat} {t : TypeId} {xs : List Value} (ho : Own w c t xs) (hc : c < lo ∨ hi ≤ c) : Own w' c t xs := by
  have hl := ho.lt
  obtain ⟨r, h1, h2⟩ := ho
  exact ⟨r, (h.block c hl hc).trans h1, h2⟩
set_option maxHeartbeats 800000 in
theorem markCellSS_any (g hi : Nat) (ps : List (List M.Cl)) (q : Int) (w : World) (h : LH w g hi ps) (hn : ps.length ≤ 1048576) (hln : tot ps ps.length ≤ 1048576) (q0 : 0 ≤ q) (q1 : q ≤ 10000000000) :
    Calls Tryz.prog 13 #[.slice (some ⟨g, 0, none⟩) ps.length ps.length, .int .i64 q] w fun e w' => e = .returned (.int .i64 (q + 5 * (tot ps ps.length : Int))) ∧ OutX (g + 1) hi w w' := by
  obtain ⟨xs, β, ⟨h1, h2, h3⟩, h4⟩ := h
  have H3 := hide h3
  have H4 := hide h4
  have HN := hide hln
  have H1 := hide h1
  have hglt := h1.lt
  clear h1 h3 h4 hln
  go_enter Tryz.func13, Tryz.ntmps13
  go_wp2_with fail
  go_loopg [1, 5] ps.length (fun gh s1 s5 wr => ∃ (k : Nat) (r : Int), Hid (gh = ps.length - k) ∧ s5 = .int .i64 k ∧ s1 = .int .i64 r ∧ k ≤ ps.length ∧ 0 ≤ r ∧ Hid (r = q + 5 * (tot ps k : Int)) ∧ Hid (∀ i, k ≤ i → i < ps.length → OwnRow wr (β i) 111 (ps.getD i [])) ∧ OutX (g + 1) hi w wr)
  case atStart => exact ⟨0, q, rfl, rfl, rfl, by omega, q0, by rw [tot_zero]; show _ = _; omega, fun i _ hi => ((unhide H3) i hi).2.2.1, OutX.refl _ _ _⟩
  case round =>
    obtain ⟨k, r, hg, rfl, rfl, hk, r0, hr, hrows, hout⟩ := hrel
    by_cases hlt : k < ps.length
    · have f0 := ((hout.own (unhide H1) (by omega)).cell k).trans ((unhide H3) k hlt).1
      have ho := hide (hrows.out k (Nat.le_refl _) hlt)
      have hgb := ((unhide H3) k hlt).2.1
      have hbh := (unhide H4) k hlt
      have hln := Nat.le_trans (len_le ps k hlt) (unhide HN)
      have hts := tot_succ ps k hlt
      have htl := tot_le ps ps.length (k + 1) (by omega) (Nat.le_refl _)
      have hbig : r + 5 * ((ps.getD k []).length : Int) = q + 5 * (tot ps (k + 1) : Int) := by have := hr.out; omega
      have hr1 : r ≤ 100000000000 := by have h1 := hr.out; have h2 := unhide HN; omega
      have HBIG := hide hbig
      have hrest := hide (fun w1 (hbt : But wr.heap.size (β k) wr w1) i (h5 : k + 1 ≤ i) (h6 : i < ps.length) => hbt.ownRow (hrows.out i (by omega) h6) (hrows.out i (by omega) h6).lt (Ne.symm (((unhide H3) i h6).2.2.2 k (by omega))))
      clear hts htl hbig
      generalize ps.getD k [] = p at *
      go_wp2_with fail
      refine (markCellS_any (β k) p.length p r _ (unhide ho).wide hln (Nat.le_refl _) r0 hr1).mono ?_
      rintro e w1 ⟨rfl, _, hbt⟩
      have HR := hide ((unhide hrest) w1 hbt)
      have HO := hide (hout.but hbt (by omega) hbh)
      clear f0 ho hrest hbt hout
      go_wp2_with fail
      go_roundg (ps.length - (k + 1))
      case rel => exact ⟨k + 1, _, rfl, by go_num, rfl, by omega, by omega, unhide HBIG, unhide HR, unhide HO⟩
      case measure => have := hg.out; omega
    · have hke : k = ps.length := by omega
      have fin := hide (show r = q + 5 * (tot ps ps.length : Int) by rw [← hke]; exact hr.out)
      clear hke
      go_wp2_with fail
      go_ret
      exact ⟨ret_int (unhide fin), hout⟩

end Go.Proofs.YtcglddahphkcpaaGreatDoor
