/-
  A list of lists of cells that came in as an argument, opened.
-/
import Derived.Test.YthaabakpcokomaaQ18
import Derived.Test.YthaabakpcokomaaQ44
import Derived.Deep.LoopGhost
namespace Go.Proofs.Ythaabakpcokomaa
open Go.RowKit Go.ChangeShapes Go.WideShapes
set_option linter.unusedVariables false

theorem Try.cells22 : Try.prog.cellsOf 22 = 1 := by kernel_rfl

/-- One list that came in: its head, its capacity, its cells. -/
structure Ar where
  a : Option Addr
  cap : Nat
  l : List M.Cl
def Ar.val (e : Ar) : Value := .slice e.a e.l.length e.cap
def Ar.zero : Ar := ⟨none, 0, []⟩

def Lists (w : World) (a : Option Addr) (cap : Nat) (es : List Ar) : Prop :=
  cap ≤ 9223372036854775807 ∧ es.length ≤ cap ∧ (∀ e ∈ es, Cells w e.a e.cap e.l) ∧ (es = [] ∨ ∃ b off, a = some ⟨b, off, none⟩ ∧ b < w.heap.size ∧ ∀ i, i < es.length → w.cell? ⟨b, off + i, none⟩ = some (es.getD i Ar.zero).val)

theorem Lists.below {w w' : World} {a : Option Addr} {cap : Nat} {es : List Ar} (h : Lists w a cap es) (hb : Below w.heap.size w w') : Lists w' a cap es := by
  obtain ⟨h1, h2, h3, h4⟩ := h
  refine ⟨h1, h2, fun e he => (h3 e he).below hb, ?_⟩
  rcases h4 with h4 | ⟨b, off, e, hlt, hr⟩
  · exact .inl h4
  · exact .inr ⟨b, off, e, Nat.lt_of_lt_of_le hlt hb.size, fun i hi => (hb.cell hlt).trans (hr i hi)⟩

theorem ar_mem {es : List Ar} {i : Nat} (hi : i < es.length) : es.getD i Ar.zero ∈ es := by
  rw [List.getD_eq_getElem?_getD, List.getElem?_eq_getElem hi]
  exact List.getElem_mem hi

section
variable {H : Type} {enc : TypeId × Value → H} {w : World} {base : Nat} {spare : Nat → Bool} {held : Bool}
theorem open_lists {a : Option Addr} {len cap fuel : Nat} {x : DataW H × List MemPlace} (h : DataW.trod enc Try.prog w base spare held fuel 50 [.slice a len cap] = some x) :
    ∃ es : List Ar, es.length = len ∧ Lists w a cap es := by
  rcases Go.Deep.open_slice Try.underlying50 h with ⟨hcs, _⟩ | ⟨ad, len', cap', m, n, D, Pl, hcs, _, hl, hm, hmm, hx, hel⟩
  · simp only [List.cons.injEq, Value.slice.injEq, and_true] at hcs
    obtain ⟨rfl, rfl, rfl⟩ := hcs
    exact ⟨[], rfl, by omega, by simp, by simp, .inl rfl⟩
  · simp only [List.cons.injEq, Value.slice.injEq, and_true] at hcs
    obtain ⟨rfl, rfl, rfl⟩ := hcs
    unfold maxLen at hm
    rw [Try.cells22] at hel
    have hlm : len ≤ m := by rw [hmm]; split <;> omega
    have key : ∀ i, i < len → ∃ e : Ar, w.cells? base (ad.add (i * 1)) 1 = some [e.val] ∧ Cells w e.a e.cap e.l := by
      intro i hi
      obtain ⟨cs', h1, h2⟩ := hel i (by omega)
      obtain ⟨a', len', cap', rfl⟩ : ∃ a' l' c', cs' = [.slice a' l' c'] := by
        rcases Go.Deep.open_slice Try.underlying22 h2 with ⟨hcs, _⟩ | ⟨ad, len', cap', m, n, D, Pl, hcs, _⟩
        · exact ⟨_, _, _, hcs⟩
        · exact ⟨_, _, _, hcs⟩
      obtain ⟨l, hl, hc⟩ := open_cells h2 (by exact DataW.trod_lt _ _ _ _ h2)
      subst hl
      exact ⟨⟨a', cap', l⟩, h1, hc⟩
    haveI : Inhabited Ar := ⟨Ar.zero⟩
    obtain ⟨C, hC⟩ := Go.Deep.choose_lt key
    refine ⟨(List.range len).map C, by simp, hm, by simpa using hl, ?_, ?_⟩
    · intro c hc
      simp only [List.mem_map, List.mem_range] at hc
      obtain ⟨i, hi, rfl⟩ := hc
      exact (hC i hi).2
    · by_cases h0 : len = 0
      · left; subst h0; rfl
      · right
        obtain ⟨b, off, spot⟩ := ad
        have c0 := (World.cells?_some (hC 0 (by omega)).1).2.2 0 (by omega)
        have hs : spot = none := by
          have := World.cell?_spot (c0.trans rfl)
          simpa [Addr.add] using this
        subst hs
        have hblk : b < w.heap.size := by
          have := block_lt_of_cell (c0.trans rfl)
          rw [add_plain, add_plain] at this
          exact this
        refine ⟨b, off, rfl, hblk, ?_⟩
        intro i hi
        have hi' : i < len := by simpa using hi
        have e : ((List.range len).map C).getD i Ar.zero = C i := by simp [List.getD_eq_getElem?_getD, hi']
        rw [e]
        have cc := (World.cells?_some (hC i hi').1).2.2
        simp only [add_plain] at cc
        have := cc 0 (by omega)
        simpa using this
end

def lists (es : List Ar) : List (List M.Cl) := es.map Ar.l
theorem lists_length (es : List Ar) : (lists es).length = es.length := by simp [lists]
theorem lists_getD (es : List Ar) (i : Nat) : (lists es).getD i [] = (es.getD i Ar.zero).l := by
  simp only [lists, List.getD_eq_getElem?_getD, List.getElem?_map]
  cases es[i]? <;> rfl
set_option maxHeartbeats 400000 in
theorem szCellSS_any (a : Option Addr) (cap : Nat) (es : List Ar) (left : Int) (w : World) (h : Lists w a cap es) (h0 : 0 ≤ left) (h1 : left ≤ 1048576) :
    Calls Try.prog 34 #[.slice a es.length cap, .int .i64 left] w fun e w' => ∃ r : Int, e = .returned (.int .i64 r) ∧ (r < 0 ∨ (0 ≤ r ∧ r ≤ left ∧ es.length ≤ 1048576 ∧ tot (lists es) (lists es).length ≤ 1048576)) ∧ Below w.heap.size w w' := by
  obtain ⟨c1, c2, c3, rfl | ⟨b, off, rfl, hb, hr⟩⟩ := h
  · go_enter Try.func34, Try.ntmps34
    go_wp2_with fail
    refine wp_loop_rounds 1 ?_
    rw [rounds_succ]
    go_wp2_with fail
    go_ret
    exact ⟨left, by simp, .inr ⟨h0, Int.le_refl _, by simp, by simp [tot, lists]⟩, Below.refl _ _⟩
  by_cases d1 : left - es.length < 0
  · go_enter Try.func34, Try.ntmps34
    go_wp2
    go_ret
    exact ⟨_, rfl, .inl (by decide), Below.refl _ _⟩
  have d2 : (es.length : Int) ≤ left := by omega
  have HC := hide c3
  clear c3
  go_enter Try.func34, Try.ntmps34
  go_wp2_with fail
  go_loopg [1, 5] es.length (fun g u i wr => ∃ (k : Nat) (q : Int), Hid (g = es.length - k) ∧ k ≤ es.length ∧ i = .int .i64 k ∧ u = .int .i64 q ∧ 0 ≤ q ∧ q ≤ left ∧ Hid ((tot (lists es) k : Int) + q ≤ left) ∧ Below w.heap.size w wr)
  case atStart => exact ⟨0, _, rfl, by omega, rfl, rfl, by omega, by omega, by rw [tot_zero]; show _ ≤ _; omega, Below.refl _ _⟩
  case round =>
    obtain ⟨k, q, hg, hk, rfl, rfl, hq0, hq1, hall, hbel⟩ := hrel
    by_cases hlt : k < es.length
    · obtain ⟨e, he⟩ : ∃ e, e = es.getD k Ar.zero := ⟨_, rfl⟩
      have f0 := (hbel.cell hb).trans (hr k hlt)
      have hce := hide (((unhide HC) _ (ar_mem hlt)).below hbel)
      have hts := tot_succ (lists es) k (by rw [lists_length]; exact hlt)
      rw [lists_getD] at hts
      rw [← he] at f0 hce hts
      have HT := hide hts
      clear hts
      unfold Ar.val at f0
      have HE := hide he
      clear he
      go_wp2_with fail
      refine (sz_arg e.a e.cap e.l q _ (unhide hce) hq0 (by omega)).mono ?_
      rintro e1 w1 ⟨r, rfl, hr1, hb1⟩
      have hb2 : Below w.heap.size w w1 := hbel.trans (hb1.mono (by exact hbel.size))
      clear f0 hce hb1
      rcases hr1 with hneg | ⟨hr0, hr1⟩
      · go_wp2_with fail
        go_ret
        exact ⟨_, rfl, .inl (by decide), hb2⟩
      · have hr2 : r ≤ left := by omega
        have hle : (tot (lists es) (k + 1) : Int) + r ≤ left := by have h1 := unhide HT; have h2 := hall.out; omega
        have HLE := hide hle
        clear hr1 hle
        go_wp2_with fail
        go_roundg (es.length - (k + 1))
        case rel =>
          refine ⟨k + 1, r, rfl, by omega, by go_num, rfl, hr0, hr2, unhide HLE, hb2⟩
        case measure => have := hg.out; omega
    · have hke : k = es.length := by omega
      have fin := hide (show tot (lists es) (lists es).length ≤ 1048576 by
        have h1 := hall.out
        rw [lists_length, ← hke]
        omega)
      clear hke
      go_wp2_with fail
      go_ret
      exact ⟨_, rfl, .inr ⟨hq0, hq1, by omega, unhide fin⟩, hbel⟩

end Go.Proofs.Ythaabakpcokomaa
