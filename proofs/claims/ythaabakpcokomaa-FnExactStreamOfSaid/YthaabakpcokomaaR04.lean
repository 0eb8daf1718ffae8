/-
  laws.heldCellS finds the told numbers in a row that holds them.
  An answer that holds a list of cells: what it is that it lies in memory of its own, and what the laws' helpers find, mark and find again in it.
-/
import Derived.Test.YthaabakpcokomaaR03
namespace Go.Proofs.Ythaabakpcokomaa
open Go.RowKit
set_option linter.unusedVariables false

set_option maxRecDepth 100000 in
set_option maxHeartbeats 4000000 in
theorem heldCellS_any (b cap n : Nat) (k : Int) (w : World) (hrow : Row w b 0 (marked n k)) (hb : b < w.heap.size) (hn : n ≤ 1048576) (hcap : n ≤ cap) (k0 : 0 ≤ k) (k1 : k ≤ 100000000000) :
    Calls Try.prog 61 #[.slice (some ⟨b, 0, none⟩) n cap, .int .i64 k] w fun e w' => e = .returned (.int .i64 (k + 5 * n)) ∧ Below w.heap.size w w' := by
  have HROW := hide hrow
  clear hrow
  go_enter Try.func61, Try.ntmps61
  go_wp2_with fail
  go_loopg [1, 5] n (fun g s1 s5 wr => ∃ (i : Nat) (q : Int), Hid (g = n - i) ∧ s5 = .int .i64 i ∧ s1 = .int .i64 q ∧ i ≤ n ∧ 0 ≤ q ∧ q ≤ 200000000000 ∧ Hid (q = k + 5 * i) ∧ Below w.heap.size w wr)
  case atStart => exact ⟨0, k, rfl, rfl, rfl, by omega, k0, by omega, by simp [Hid], Below.refl _ _⟩
  case round =>
    obtain ⟨i, q, hg, rfl, rfl, hi, q0, q1, hq, hbel⟩ := hrel
    by_cases hlt : i < n
    · obtain ⟨f0, f1, f2, f3, f4⟩ := ((unhide HROW).below hbel hb) i (by rw [marked_length]; exact hlt)
      rw [marked_getD n k i hlt] at f0 f1 f2 f3 f4
      have e5 : k + 5 * (i : Int) = q := by have := hq.out; omega
      simp only [markCl, e5, Nat.zero_add] at f0 f1 f2 f3 f4
      clear e5
      rw [show q + 2 = q + 1 + 1 from by omega] at f2
      rw [show q + 3 = q + 1 + 1 + 1 from by omega] at f3
      rw [show q + 4 = q + 1 + 1 + 1 + 1 from by omega] at f4
      have hbr : b < wr.heap.size := Nat.lt_of_lt_of_le hb hbel.size
      generalize ht2 : mt (q + 1 + 1) = t2 at *
      generalize ht3 : mt (q + 1 + 1 + 1) = t3 at *
      have HT2 := hide ht2
      have HT3 := hide ht3
      clear ht2 ht3
      go_wp2_with fail
      go_region_with (go_at_call 51; refine (markText_any _ _ (by omega)).mono ?_; rintro e w1 ⟨rfl, hb1⟩; rw [unhide HT2]; have c2 : w1.cell? ⟨b, i * 5 + 2, none⟩ = some (.string t2) := (hb1.cell (by exact hbr)).trans f2)
      all_goals
        have B1 : Below w.heap.size w w1 := hbel.drew.trans (hb1.mono (by exact hbel.size))
        have c3 : w1.cell? ⟨b, i * 5 + 3, none⟩ = some (.string t3) := (hb1.cell (by exact hbr)).trans f3
        have c4 : w1.cell? ⟨b, i * 5 + 4, none⟩ = some (.int .i64 (q + 1 + 1 + 1 + 1)) := (hb1.cell (by exact hbr)).trans f4
        have hbr1 : b < w1.heap.size := Nat.lt_of_lt_of_le hb B1.size
        clear f0 f1 f2 f3 f4 hb1
        go_wp2_with fail
        go_region_with (go_at_call 51; refine (markText_any _ _ (by omega)).mono ?_; rintro e w2 ⟨rfl, hb2⟩; rw [unhide HT3]; have d3 : w2.cell? ⟨b, i * 5 + 3, none⟩ = some (.string t3) := (hb2.cell (by exact hbr1)).trans c3)
        all_goals
          have B2 : Below w.heap.size w w2 := B1.drew.trans (hb2.mono (by exact B1.size))
          have d4 : w2.cell? ⟨b, i * 5 + 4, none⟩ = some (.int .i64 (q + 1 + 1 + 1 + 1)) := (hb2.cell (by exact hbr1)).trans c4
          clear hb2 c3 c4
          go_wp2_with fail
          go_roundg (n - (i + 1))
          case rel =>
            refine ⟨i + 1, _, rfl, by go_num, rfl, by omega, by omega, ?_, ?_, B2⟩
            · have := hq.out; omega
            · show _ = _; have := hq.out; omega
          case measure => have := hg.out; omega
    · have hie : i = n := by omega
      have hq' := hq.out
      rw [hie] at hq'
      have HQ := hide hq'
      clear hie hq'
      go_wp2_with fail
      go_ret
      exact ⟨ret_int (unhide HQ), hbel⟩

end Go.Proofs.Ythaabakpcokomaa

namespace Go.Proofs.Ythaabakpcokomaa
open Go.RowKit
set_option linter.unusedVariables false

/-- The slice value s holds the cells l, in a block of its own from number B on; or it is nil and there are none. -/
def Res (w : World) (B : Nat) (s : Value) (l : List M.Cl) : Prop :=
  l.length ≤ 1048576 ∧ ((s = .slice none 0 0 ∧ l = []) ∨ ∃ b cap, s = .slice (some ⟨b, 0, none⟩) l.length cap ∧ B ≤ b ∧ l.length ≤ cap ∧ OwnG w b 67 l)

theorem Res.below {w w' : World} {B : Nat} {s : Value} {l : List M.Cl} (h : Res w B s l) (hb : Below w.heap.size w w') : Res w' B s l := by
  obtain ⟨hn, h | ⟨b, cap, h1, h2, h3, h4⟩⟩ := h
  · exact ⟨hn, .inl h⟩
  · exact ⟨hn, .inr ⟨b, cap, h1, h2, h3, h4.below hb h4.lt⟩⟩
theorem Res.alloc {w : World} {B : Nat} {s : Value} {l : List M.Cl} (h : Res w B s l) (o : Obj) : Res (w.alloc o) B s l := h.below ((Below.refl _ _).alloc (Nat.le_refl _) o)
theorem Res.mono {w : World} {B B' : Nat} {s : Value} {l : List M.Cl} (h : Res w B s l) (hB : B' ≤ B) : Res w B' s l := by
  obtain ⟨hn, h | ⟨b, cap, h1, h2, h3, h4⟩⟩ := h
  · exact ⟨hn, .inl h⟩
  · exact ⟨hn, .inr ⟨b, cap, h1, by omega, h3, h4⟩⟩

theorem Res.base {w : World} {B : Nat} {s : Value} {l : List M.Cl} (h : Res w B s l) : ∀ b, s.ownBlock = some b → B ≤ b := by
  obtain ⟨hn, ⟨rfl, _⟩ | ⟨b, cap, rfl, h2, h3, h4⟩⟩ := h
  · intro b hb; simp [Value.ownBlock] at hb
  · intro c hc; simp only [Value.ownBlock, Option.some.injEq] at hc; omega
theorem Res.lt {w : World} {B : Nat} {s : Value} {l : List M.Cl} (h : Res w B s l) : ∀ b, s.ownBlock = some b → b < w.heap.size := by
  obtain ⟨hn, ⟨rfl, _⟩ | ⟨b, cap, rfl, h2, h3, h4⟩⟩ := h
  · intro b hb; simp [Value.ownBlock] at hb
  · intro c hc; simp only [Value.ownBlock, Option.some.injEq] at hc; have := h4.lt; omega
/-- The shape of an answer's slice: the walk wants to see it. -/
theorem Res.shape {w : World} {B : Nat} {s : Value} {l : List M.Cl} (h : Res w B s l) : ∃ a n cap, s = .slice a n cap := by
  obtain ⟨_, ⟨rfl, _⟩ | ⟨b, cap, rfl, _⟩⟩ := h
  · exact ⟨_, _, _, rfl⟩
  · exact ⟨_, _, _, rfl⟩

theorem ownsRow_base {w : World} {base : Nat} {e : TypeId} {size : Nat} {v : Value} {n : Nat} {xs : List Value} (h : w.ownsRow base e size v n xs) : ∀ k, v.ownBlock = some k → base ≤ k := by
  obtain ⟨_, ⟨rfl, _⟩ | ⟨g, cap, cur, rfl, hg, _⟩⟩ := h
  · intro k hk; simp [Value.ownBlock] at hk
  · intro k hk; simp only [Value.ownBlock, Option.some.injEq] at hk; omega
end Go.Proofs.Ythaabakpcokomaa
