/-
  A list of texts that came in as an argument, opened; laws.szStringS, laws.toStringS, laws.eqStringS, laws.markStringS.
-/
import Derived.Test.YticjccpkgapijagLibS
import Derived.Deep.QuietTactic
import Derived.BigQuiet
namespace Go.Proofs.Yticjccpkgapijag
open Go.RowKit Go.ChangeShapes Go.WideShapes
set_option linter.unusedVariables false

def Strs (w : World) (a : Option Addr) (cap : Nat) (ss : List ByteArray) : Prop :=
  cap ≤ 9223372036854775807 ∧ ss.length ≤ cap ∧ (∀ s ∈ ss, s.size ≤ 9223372036854775807) ∧ (ss = [] ∨ ∃ b off, a = some ⟨b, off, none⟩ ∧ b < w.heap.size ∧ ∀ i, i < ss.length → w.cell? ⟨b, off + i, none⟩ = some (.string (ss.getD i ByteArray.empty)))
theorem Strs.below {w w' : World} {a : Option Addr} {cap : Nat} {ss : List ByteArray} (h : Strs w a cap ss) (hb : Below w.heap.size w w') : Strs w' a cap ss := by
  obtain ⟨h1, h2, h3, h4⟩ := h
  refine ⟨h1, h2, h3, ?_⟩
  rcases h4 with h4 | ⟨b, off, e, hlt, hr⟩
  · exact .inl h4
  · exact .inr ⟨b, off, e, Nat.lt_of_lt_of_le hlt hb.size, fun i hi => (hb.cell hlt).trans (hr i hi)⟩
theorem str_mem {ss : List ByteArray} {i : Nat} (hi : i < ss.length) : ss.getD i ByteArray.empty ∈ ss := by
  rw [List.getD_eq_getElem?_getD, List.getElem?_eq_getElem hi]
  exact List.getElem_mem hi

section
variable {H : Type} {enc : TypeId × Value → H} {w : World} {base : Nat} {spare : Nat → Bool} {held : Bool}
theorem open_strs {a : Option Addr} {len cap fuel : Nat} {x : DataW H × List MemPlace} (h : DataW.trod enc Try.prog w base spare held fuel 35 [.slice a len cap] = some x) :
    ∃ ss : List ByteArray, ss.length = len ∧ Strs w a cap ss := by
  rcases Go.Deep.open_slice Try.underlying35 h with ⟨hcs, _⟩ | ⟨ad, len', cap', m, n, D, Pl, hcs, _, hl, hm, hmm, hx, hel⟩
  · simp only [List.cons.injEq, Value.slice.injEq, and_true] at hcs
    obtain ⟨rfl, rfl, rfl⟩ := hcs
    exact ⟨[], rfl, by omega, by simp, by simp, .inl rfl⟩
  · simp only [List.cons.injEq, Value.slice.injEq, and_true] at hcs
    obtain ⟨rfl, rfl, rfl⟩ := hcs
    unfold maxLen at hm
    rw [Try.cells9] at hel
    have hlm : len ≤ m := by rw [hmm]; split <;> omega
    have key : ∀ i, i < len → ∃ s : ByteArray, w.cells? base (ad.add (i * 1)) 1 = some [.string s] ∧ s.size ≤ 9223372036854775807 := by
      intro i hi
      obtain ⟨cs', h1, h2⟩ := hel i (by omega)
      obtain ⟨s, e, _, hw⟩ := DataW.trod_string Try.underlying9 h2
      subst e
      unfold maxLen at hw
      exact ⟨s, h1, hw⟩
    haveI : Inhabited ByteArray := ⟨ByteArray.empty⟩
    obtain ⟨C, hC⟩ := Go.Deep.choose_lt key
    refine ⟨(List.range len).map C, by simp, hm, by simpa using hl, ?_, ?_⟩
    · intro c hc
      simp only [List.mem_map, List.mem_range] at hc
      obtain ⟨i, hi, rfl⟩ := hc
      exact (hC i hi).2
    · by_cases h0 : len = 0
      · left; subst h0; rfl
      · right
        obtain ⟨b, off, spot⟩ := ad
        have c0 := (World.cells?_some (hC 0 (by omega)).1).2.2 0 (by omega)
        have hs : spot = none := by
          have := World.cell?_spot (c0.trans rfl)
          simpa [Addr.add] using this
        subst hs
        have hblk : b < w.heap.size := by
          have := block_lt_of_cell (c0.trans rfl)
          rw [add_plain, add_plain] at this
          exact this
        refine ⟨b, off, rfl, hblk, ?_⟩
        intro i hi
        have hi' : i < len := by simpa using hi
        have e : ((List.range len).map C).getD i ByteArray.empty = C i := by simp [List.getD_eq_getElem?_getD, hi']
        rw [e]
        have cc := (World.cells?_some (hC i hi').1).2.2
        simp only [add_plain] at cc
        have := cc 0 (by omega)
        simpa using this
end

/-- How long the texts are at most. -/
def Small (ss : List ByteArray) : Prop := ∀ i, i < ss.length → (ss.getD i ByteArray.empty).size ≤ 1048576

set_option maxHeartbeats 1000000 in
theorem szStringS_any (a : Option Addr) (cap : Nat) (ss : List ByteArray) (left : Int) (w : World) (h : Strs w a cap ss) (h0 : 0 ≤ left) (h1 : left ≤ 1048576) :
    Calls Try.prog 16 #[.slice a ss.length cap, .int .i64 left] w fun e w' => ∃ r : Int, e = .returned (.int .i64 r) ∧ (r < 0 ∨ (0 ≤ r ∧ r ≤ left ∧ ss.length ≤ 1048576 ∧ Small ss)) ∧ Below w.heap.size w w' := by
  obtain ⟨c1, c2, c3, rfl | ⟨b, off, rfl, hb, hr⟩⟩ := h
  · go_enter Try.func16, Try.ntmps16
    go_wp2_with fail
    refine wp_loop_rounds 1 ?_
    rw [rounds_succ]
    go_wp2_with fail
    go_ret
    exact ⟨left, by simp, .inr ⟨h0, Int.le_refl _, by simp, fun i hi => by simp at hi⟩, Below.refl _ _⟩
  by_cases d1 : left - ss.length < 0
  · go_enter Try.func16, Try.ntmps16
    go_wp2
    go_ret
    exact ⟨_, rfl, .inl (by decide), Below.refl _ _⟩
  have d2 : (ss.length : Int) ≤ left := by omega
  have HC := hide c3
  clear c3
  go_enter Try.func16, Try.ntmps16
  go_wp2_with fail
  go_loopg [1, 5] ss.length (fun g u i wr => ∃ (k : Nat) (q : Int), Hid (g = ss.length - k) ∧ k ≤ ss.length ∧ i = .int .i64 k ∧ u = .int .i64 q ∧ 0 ≤ q ∧ q ≤ left ∧ Hid (∀ j, j < k → (ss.getD j ByteArray.empty).size ≤ 1048576) ∧ Below w.heap.size w wr)
  case atStart => exact ⟨0, _, rfl, by omega, rfl, rfl, by omega, by omega, fun j hj => by omega, Below.refl _ _⟩
  case round =>
    obtain ⟨k, q, hg, hk, rfl, rfl, hq0, hq1, hall, hbel⟩ := hrel
    by_cases hlt : k < ss.length
    · obtain ⟨s, hs⟩ : ∃ s, s = ss.getD k ByteArray.empty := ⟨_, rfl⟩
      have f0 := (hbel.cell hb).trans (hr k hlt)
      have hsz := (unhide HC) _ (str_mem hlt)
      rw [← hs] at f0 hsz
      have HSS := hide hs
      clear hs
      by_cases d3 : q - s.size < 0
      · go_wp2_with fail
        go_ret
        exact ⟨_, rfl, .inl (by decide), hbel⟩
      · have hall2 := hide (show ∀ j, j < k + 1 → (ss.getD j ByteArray.empty).size ≤ 1048576 from fun j hj => by
          by_cases e : j = k
          · rw [e, ← unhide HSS]; omega
          · exact hall.out j (by omega))
        go_wp2_with fail
        go_roundg (ss.length - (k + 1))
        case rel => exact ⟨k + 1, _, rfl, by omega, by go_num, rfl, by omega, by omega, unhide hall2, hbel⟩
        case measure => have := hg.out; omega
    · have hke : k = ss.length := by omega
      have fin := hide (show Small ss by unfold Small; rw [← hke]; exact hall.out)
      clear hke
      go_wp2_with fail
      go_ret
      exact ⟨_, rfl, .inr ⟨hq0, hq1, by omega, unhide fin⟩, hbel⟩

theorem Try.info9 : (Try.prog.info? 9).map (fun i => (i.zero, i.size, i.bytes)) = some (some (.string ByteArray.empty), 1, 16) := by kernel_rfl
def mkT (n : Nat) : Array Value := madeCells (Value.string ByteArray.empty).cells n
theorem size_mkT (n : Nat) : (mkT n).size = n := by simp [mkT, size_madeCells]
theorem make_texts (n : Nat) (hn : n ≤ 1048576) (w : World) :
    (Instr.makeSlice 35 (.int .i64 (n : Int)) (.int .i64 (n : Int))).run Try.prog w = .ok (.slice (some ⟨w.heap.size, 0, none⟩) n n) (w.alloc (.cells (mkT n) 9)) := by
  obtain ⟨i, hi, hz⟩ := Option.map_eq_some_iff.1 Try.info9
  simp only [Prod.mk.injEq] at hz
  obtain ⟨h1, h2, h3⟩ := hz
  have := run_make (P := Try.prog) w 35 9 i _ Try.underlying35 hi h1 .i64 .i64 (n : Int) (n : Int) (by omega) (by omega) (by rw [h3]; omega) (by omega)
  rw [this, h2]
  simp only [Int.toNat_natCast, Nat.mul_one]
  rfl

/-- A row of the call's own that holds texts. -/
def OwnT (w : World) (g : Nat) (ss : List ByteArray) : Prop := ∃ xs, Own w g 9 xs ∧ xs.length = ss.length ∧ ∀ i, i < ss.length → xs[i]? = some (.string (ss.getD i ByteArray.empty))
theorem OwnT.lt {w : World} {g : Nat} {ss : List ByteArray} (h : OwnT w g ss) : g < w.heap.size := by obtain ⟨xs, ho, _⟩ := h; exact ho.lt
theorem OwnT.below {B : Nat} {w w' : World} {g : Nat} {ss : List ByteArray} (h : OwnT w g ss) (hb : Below B w w') (hB : g < B) : OwnT w' g ss := by
  obtain ⟨xs, ho, hw⟩ := h; exact ⟨xs, ho.below hb hB, hw⟩
theorem OwnT.cell {w : World} {g : Nat} {ss : List ByteArray} (h : OwnT w g ss) {i : Nat} (hi : i < ss.length) : w.cell? ⟨g, i, none⟩ = some (.string (ss.getD i ByteArray.empty)) := by
  obtain ⟨xs, ho, _, hw⟩ := h; exact (ho.cell i).trans (hw i hi)

set_option maxHeartbeats 1000000 in
theorem toStringS_any (a : Option Addr) (cap : Nat) (ss : List ByteArray) (w : World) (h : Strs w a cap ss) (hn : ss.length ≤ 1048576) :
    Calls Try.prog 18 #[.slice a ss.length cap] w fun e w' => e = .returned (.slice (some ⟨w.heap.size, 0, none⟩) ss.length ss.length) ∧ OwnT w' w.heap.size ss ∧ Below w.heap.size w w' := by
  obtain ⟨c1, c2, c3, rfl | ⟨b, off, rfl, hb, hr⟩⟩ := h
  · have hmk : ∀ w, (Instr.makeSlice 35 (.int .i64 0) (.int .i64 0)).run Try.prog w = .ok (.slice (some ⟨w.heap.size, 0, none⟩) 0 0) (w.alloc (.cells (mkT 0) 9)) := make_texts 0 (by omega)
    simp only [List.length_nil]
    go_enter Try.func18, Try.ntmps18
    go_wp2_with fail
    refine wp_loop_rounds 1 ?_
    rw [rounds_succ]
    go_wp2_with fail
    go_ret
    exact ⟨rfl, ⟨(mkT 0).toList, ⟨_, heap_alloc_new _ _, rfl⟩, by simp [size_mkT], fun i hi => absurd hi (by simp)⟩, (Below.refl _ _).alloc (Nat.le_refl _) _⟩
  have hmk := make_texts ss.length hn
  go_enter Try.func18, Try.ntmps18
  go_wp2_with fail
  go_loopg [4] ss.length (fun gh i wr => ∃ (k : Nat) (xs : List Value), Hid (gh = ss.length - k) ∧ k ≤ ss.length ∧ i = .int .i64 k ∧ Own wr w.heap.size 9 xs ∧ Hid (xs.length = ss.length ∧ ∀ j, j < k → xs[j]? = some (.string (ss.getD j ByteArray.empty))) ∧ Below w.heap.size w wr)
  case atStart => exact ⟨0, (mkT ss.length).toList, rfl, by omega, rfl, ⟨_, heap_alloc_new _ _, rfl⟩, ⟨by simp [size_mkT], fun j hj => absurd hj (by omega)⟩, (Below.refl _ _).alloc (Nat.le_refl _) _⟩
  case round =>
    obtain ⟨k, xs, hg, hk, rfl, hO, hx, hbel⟩ := hrel
    clear hmk
    by_cases hlt : k < ss.length
    · obtain ⟨s, hs⟩ : ∃ s, s = ss.getD k ByteArray.empty := ⟨_, rfl⟩
      have f0 := (hbel.cell hb).trans (hr k hlt)
      obtain ⟨v0, g0⟩ := some_of_lt (xs := xs) (j := k) (by rw [hx.out.1]; exact hlt)
      have i0 := (hO.cell k).trans g0
      have z0 := hO.frozen k
      have hx2 := hide (show (xs.set k (.string s)).length = ss.length ∧ ∀ j, j < k + 1 → (xs.set k (.string s))[j]? = some (.string (ss.getD j ByteArray.empty)) from by
        refine ⟨by rw [List.length_set]; exact hx.out.1, fun j hj => ?_⟩
        by_cases e : j = k
        · rw [e, List.getElem?_set_self (by rw [hx.out.1]; exact hlt), hs]
        · rw [List.getElem?_set_ne (by omega)]; exact hx.out.2 j (by omega))
      rw [← hs] at f0
      have HO := hide (hO.set k (.string s))
      have HB := hide (hbel.setCell (p := ⟨w.heap.size, k, none⟩) (Nat.le_refl _) (.string s))
      clear hs g0 hO
      go_wp2_with fail
      go_roundg (ss.length - (k + 1))
      case rel => exact ⟨k + 1, _, rfl, by omega, by go_num, unhide HO, unhide hx2, unhide HB⟩
      case measure => have := hg.out; omega
    · have hke : k = ss.length := by omega
      have fin := hide (show OwnT wr w.heap.size ss from ⟨xs, hO, hx.out.1, by rw [← hke]; exact hx.out.2⟩)
      clear hke hO hx
      go_wp2_with fail
      go_ret
      exact ⟨rfl, unhide fin, hbel⟩

set_option maxHeartbeats 1000000 in
theorem eqStringS_same (g g' : Nat) (ss : List ByteArray) (w : World) (h : OwnT w g ss) (h' : OwnT w g' ss) (hn : ss.length ≤ 1048576) :
    Calls Try.prog 20 #[.slice (some ⟨g, 0, none⟩) ss.length ss.length, .slice (some ⟨g', 0, none⟩) ss.length ss.length] w fun e w' => e = .returned (.bool true) ∧ Below w.heap.size w w' := by
  have hgl := h.lt
  have hgl' := h'.lt
  go_enter Try.func20, Try.ntmps20
  go_wp2_with fail
  go_loopg [5] ss.length (fun gh i wr => ∃ k : Nat, Hid (gh = ss.length - k) ∧ k ≤ ss.length ∧ i = .int .i64 k ∧ Below w.heap.size w wr)
  case atStart => exact ⟨0, rfl, by omega, rfl, Below.refl _ _⟩
  case round =>
    obtain ⟨k, hg, hk, rfl, hbel⟩ := hrel
    by_cases hlt : k < ss.length
    · have f0 := fun q => show (wr.drewN q).cell? ⟨g, k, none⟩ = some (.string (ss.getD k ByteArray.empty)) from (hbel.cell hgl).trans (h.cell hlt)
      have f1 := fun q => show (wr.drewN q).cell? ⟨g', k, none⟩ = some (.string (ss.getD k ByteArray.empty)) from (hbel.cell hgl').trans (h'.cell hlt)
      have hltz : (k : Int) < (ss.length : Int) := by omega
      generalize ss.getD k ByteArray.empty = s at *
      have hee : (s.toList == s.toList) = true := by simp
      go_wp2_with fail
      go_quiet (fail)
      clear f0 f1
      have hb2 : Below w.heap.size w (wr.drewN nq) := ⟨hbel.os, hbel.tape, hbel.output, hbel.size, hbel.block⟩
      go_wp2_with fail
      go_roundg (ss.length - (k + 1))
      case rel => exact ⟨k + 1, rfl, by omega, by go_num, hb2⟩
      case measure => have := hg.out; omega
    · go_wp2_with fail
      go_ret
      exact ⟨rfl, hbel⟩

set_option maxHeartbeats 1000000 in
theorem markStringS_any (g : Nat) (ss : List ByteArray) (q : Int) (w : World) (h : OwnT w g ss) (hn : ss.length ≤ 1048576) (q0 : 0 ≤ q) (q1 : q ≤ 1000000) :
    Calls Try.prog 21 #[.slice (some ⟨g, 0, none⟩) ss.length ss.length, .int .i64 q] w fun e w' => e = .returned (.int .i64 (q + ss.length)) ∧ But w.heap.size g w w' := by
  have hgl := h.lt
  obtain ⟨ys, hys⟩ : ∃ xs, Own w g 9 xs ∧ xs.length = ss.length := by obtain ⟨xs, h1, h2, _⟩ := h; exact ⟨xs, h1, h2⟩
  clear h
  go_enter Try.func21, Try.ntmps21
  go_wp2_with fail
  go_loopg [1, 5] ss.length (fun gh s1 s5 wr => ∃ (k : Nat) (r : Int) (xs : List Value), Hid (gh = ss.length - k) ∧ s5 = .int .i64 k ∧ s1 = .int .i64 r ∧ k ≤ ss.length ∧ 0 ≤ r ∧ r ≤ 3000000 ∧ Hid (r = q + k) ∧ Own wr g 9 xs ∧ Hid (xs.length = ss.length) ∧ But w.heap.size g w wr)
  case atStart => exact ⟨0, q, ys, rfl, rfl, rfl, by omega, q0, by omega, by show _ = _; omega, hys.1, hys.2, But.refl _ _ _⟩
  case round =>
    obtain ⟨k, r, xs, hg, rfl, rfl, hk, hr0, hr1, hr, hO, hx, hbut⟩ := hrel
    by_cases hlt : k < ss.length
    · have hltz : (k : Int) < (ss.length : Int) := by omega
      have HM := markText_any r
      have hr2 : r + 1 ≤ 3000000 := by have := hr.out; omega
      go_wp2_with fail
      refine (HM _ (by omega)).mono ?_
      rintro e w1 ⟨rfl, hb1⟩
      have hglr : g < wr.heap.size := Nat.lt_of_lt_of_le hgl hbut.size
      have hO1 := hO.below hb1 hglr
      have hbut1 : But w.heap.size g w w1 := hbut.trans (But.ofBelow (hb1.mono hbut.size))
      obtain ⟨v0, g0⟩ := some_of_lt (xs := xs) (j := k) (by rw [hx.out]; exact hlt)
      have i0 := (hO1.cell k).trans g0
      have z0 := hO1.frozen k
      have hx2 := hide (show ∀ u, (xs.set k u).length = ss.length from fun u => by rw [List.length_set]; exact hx.out)
      have HO1 := hide (fun u => hO1.set k u)
      have hrr := hide (show r + 1 = q + ((k + 1 : Nat) : Int) by have := hr.out; omega)
      generalize mt r = m at *
      clear hb1 hO g0 HM hbut hO1
      go_wp2_with fail
      go_roundg (ss.length - (k + 1))
      case rel => exact ⟨k + 1, _, _, rfl, by go_num, rfl, by omega, by omega, by omega, unhide hrr, (unhide HO1) _, (unhide hx2) _, hbut1.trans (But.set _ g k _ _)⟩
      case measure => have := hg.out; omega
    · have hke : k = ss.length := by omega
      have fin := hide (show r = q + ss.length by rw [← hke]; exact hr.out)
      clear hke
      go_wp2_with fail
      go_ret
      exact ⟨ret_int (unhide fin), hbut⟩
end Go.Proofs.Yticjccpkgapijag
