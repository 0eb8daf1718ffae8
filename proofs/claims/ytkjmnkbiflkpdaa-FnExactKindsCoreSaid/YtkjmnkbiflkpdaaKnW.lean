/-
  spec.l11Node by induction; both CountCores, both SureCores.
-/
import Derived.Test.YtkjmnkbiflkpdaaKnN
import Derived.Test.YtkjmnkbiflkpdaaKnS
import Derived.Test.YtkjmnkbiflkpdaaKnT
import Derived.Test.YtkjmnkbiflkpdaaKnU
import Derived.Test.YtkjmnkbiflkpdaaKnV
namespace Go.Proofs.Ytkjmnkbiflkpdaa
open Go.RowKit
set_option linter.unusedVariables false
set_option linter.unusedSimpArgs false

theorem l11Node_says (bk : Nat) (l : List Co) (hf : Tr.Fine (Co.tree l)) (hop : ∀ i, i < l.length → 1 ≤ (l.getD i Co.zero).op ∧ (l.getD i Co.zero).op ≤ 17) (h900 : l.length ≤ 900) : ∀ n i, i < n → i < l.length → ∀ w, Co.Row w bk l → bk < w.heap.size →
    Calls Try.prog 22 #[.slice (some ⟨bk, 0, none⟩) l.length l.length, .int .i64 (i : Int)] w fun e w' => e = .returned (Kn.ans (Kn.at' l i)) ∧ Below w.heap.size w w' := by
  intro n
  induction n with
  | zero => intro i h; omega
  | succ n ih =>
    intro i h hi w hrow hb
    obtain ⟨g0, g1, g2, g3, g4, vg, g5, _, _⟩ := hrow i hi
    have hopi := hop i hi
    have hlk := Co.tree_links l hi
    have hfi := hf i (by rw [Co.tree_length]; exact hi)
    rw [hlk] at hfi
    have rcs : ∀ x : Int, 0 ≤ x → x < i → ∀ V, Below w.heap.size w V → Calls Try.prog 22 #[.slice (some ⟨bk, 0, none⟩) l.length l.length, .int .i64 x] V fun e w' => e = .returned (Kn.ans (Kn.at' l x.toNat)) ∧ Below V.heap.size V w' := fun x h0 h1 V hV => by
      have := ih x.toNat (by omega) (by omega) V (hrow.below hV hb) (Nat.lt_of_lt_of_le hb hV.size)
      rwa [Int.toNat_of_nonneg h0] at this
    have fit : ∀ x : Int, 0 ≤ x → x < i → Kn.Fit (Kn.at' l x.toNat) := fun x h0 h1 => Kn.at_fit hf l.length x.toNat (by omega) (by omega)
    have hat := Kn.at_eq hf hi
    have hemp : ∀ x : Int, 0 ≤ x → x < i → Kn.isEmpty (Kn.at' l x.toNat) = ((l.getD x.toNat Co.zero).op == 17) ∧ ((Kn.at' l x.toNat).fa = true → (l.getD x.toNat Co.zero).op ≠ 17) := fun x h0 h1 => by
      have := hop x.toNat (by omega)
      exact ⟨Kn.isEmpty_iff hf (by omega) this.1 this.2, fun h => Kn.empty_sure hf (by omega) h⟩
    have hcell : ∀ x : Int, 0 ≤ x → x < i → ∀ V, Below w.heap.size w V → V.cell? ⟨bk, x.toNat * 6, none⟩ = some (.int .i64 (l.getD x.toNat Co.zero).op) := fun x h0 h1 V hV => ((hrow.below hV hb) x.toNat (by omega)).1
    rw [hat]
    clear hat
    generalize l.getD i Co.zero = c at *
    have hc : c.op = 1 ∨ c.op = 2 ∨ c.op = 3 ∨ c.op = 4 ∨ c.op = 5 ∨ c.op = 6 ∨ c.op = 7 ∨ c.op = 8 ∨ c.op = 9 ∨ c.op = 10 ∨ c.op = 11 ∨ c.op = 12 ∨ c.op = 13 ∨ c.op = 14 ∨ c.op = 15 ∨ c.op = 16 ∨ c.op = 17 := by omega
    rcases hc with ho | ho | ho | ho | ho | ho | ho | ho | ho | ho | ho | ho | ho | ho | ho | ho | ho
    · have hk : Co.kids c.op = 0 := by rw [ho]; decide
      rw [Kn.lks_leaf hk]
      exact l11Node_1 bk l.length i c vg _ _ w ho hi h900 g0 g1 g2 g3 g4 g5 hb
    · have hk : Co.kids c.op = 0 := by rw [ho]; decide
      rw [Kn.lks_leaf hk]
      exact l11Node_2 bk l.length i c vg _ _ w ho hi h900 g0 g1 g2 g3 g4 g5 hb
    · have hk : Co.kids c.op = 2 := by rw [ho]; decide
      rw [hk] at hfi
      have ka : 0 ≤ c.a ∧ c.a < i := hfi c.a (by simp)
      have kb : 0 ≤ c.b ∧ c.b < i := hfi c.b (by simp)
      rw [Kn.lks_2 hk]
      exact l11Node_3 bk l.length i c vg _ _ (Kn.at' l c.a.toNat) (Kn.at' l c.b.toNat) w ho hi h900 g0 g1 g2 g3 g4 g5 hb (rcs c.a ka.1 ka.2) (fit c.a ka.1 ka.2) (rcs c.b kb.1 kb.2) (fit c.b kb.1 kb.2) 
    · have hk : Co.kids c.op = 2 := by rw [ho]; decide
      rw [hk] at hfi
      have ka : 0 ≤ c.a ∧ c.a < i := hfi c.a (by simp)
      have kb : 0 ≤ c.b ∧ c.b < i := hfi c.b (by simp)
      rw [Kn.lks_2 hk]
      cases hz : (Kn.at' l c.a.toNat).fa
      · exact l11Node_4b bk l.length i c vg _ _ (Kn.at' l c.a.toNat) (Kn.at' l c.b.toNat) w ho hi h900 g0 g1 g2 g3 g4 g5 hb (rcs c.a ka.1 ka.2) (fit c.a ka.1 ka.2) (rcs c.b kb.1 kb.2) (fit c.b kb.1 kb.2) hz
      · exact l11Node_4a bk l.length i c vg _ _ (Kn.at' l c.a.toNat) (Kn.at' l c.b.toNat) w ho hi h900 g0 g1 g2 g3 g4 g5 hb (rcs c.a ka.1 ka.2) (fit c.a ka.1 ka.2) (rcs c.b kb.1 kb.2) (fit c.b kb.1 kb.2) hz
    · have hk : Co.kids c.op = 2 := by rw [ho]; decide
      rw [hk] at hfi
      have ka : 0 ≤ c.a ∧ c.a < i := hfi c.a (by simp)
      have kb : 0 ≤ c.b ∧ c.b < i := hfi c.b (by simp)
      rw [Kn.lks_2 hk]
      by_cases h1 : 0 < (Kn.at' l c.a.toNat).hi
      · by_cases h2 : 0 < (Kn.at' l c.b.toNat).lo
        · exact l11Node_5a bk l.length i c vg _ _ (Kn.at' l c.a.toNat) (Kn.at' l c.b.toNat) w ho hi h900 g0 g1 g2 g3 g4 g5 hb (rcs c.a ka.1 ka.2) (fit c.a ka.1 ka.2) (rcs c.b kb.1 kb.2) (fit c.b kb.1 kb.2) h1 h2
        · exact l11Node_5b bk l.length i c vg _ _ (Kn.at' l c.a.toNat) (Kn.at' l c.b.toNat) w ho hi h900 g0 g1 g2 g3 g4 g5 hb (rcs c.a ka.1 ka.2) (fit c.a ka.1 ka.2) (rcs c.b kb.1 kb.2) (fit c.b kb.1 kb.2) h1 h2
      · exact l11Node_5c bk l.length i c vg _ _ (Kn.at' l c.a.toNat) (Kn.at' l c.b.toNat) w ho hi h900 g0 g1 g2 g3 g4 g5 hb (rcs c.a ka.1 ka.2) (fit c.a ka.1 ka.2) (rcs c.b kb.1 kb.2) (fit c.b kb.1 kb.2) h1
    · have hk : Co.kids c.op = 2 := by rw [ho]; decide
      rw [hk] at hfi
      have ka : 0 ≤ c.a ∧ c.a < i := hfi c.a (by simp)
      have kb : 0 ≤ c.b ∧ c.b < i := hfi c.b (by simp)
      rw [Kn.lks_2 hk]
      cases hz : ((Kn.at' l c.a.toNat).fa || (Kn.at' l c.b.toNat).fa)
      · exact l11Node_6b bk l.length i c vg _ _ (Kn.at' l c.a.toNat) (Kn.at' l c.b.toNat) w ho hi h900 g0 g1 g2 g3 g4 g5 hb (rcs c.a ka.1 ka.2) (fit c.a ka.1 ka.2) (rcs c.b kb.1 kb.2) (fit c.b kb.1 kb.2) hz
      · exact l11Node_6a bk l.length i c vg _ _ (Kn.at' l c.a.toNat) (Kn.at' l c.b.toNat) w ho hi h900 g0 g1 g2 g3 g4 g5 hb (rcs c.a ka.1 ka.2) (fit c.a ka.1 ka.2) (rcs c.b kb.1 kb.2) (fit c.b kb.1 kb.2) hz
    · have hk : Co.kids c.op = 2 := by rw [ho]; decide
      rw [hk] at hfi
      have ka : 0 ≤ c.a ∧ c.a < i := hfi c.a (by simp)
      have kb : 0 ≤ c.b ∧ c.b < i := hfi c.b (by simp)
      rw [Kn.lks_2 hk]
      exact l11Node_7 bk l.length i c vg _ _ (Kn.at' l c.a.toNat) (Kn.at' l c.b.toNat) w ho hi h900 g0 g1 g2 g3 g4 g5 hb (rcs c.a ka.1 ka.2) (fit c.a ka.1 ka.2) (rcs c.b kb.1 kb.2) (fit c.b kb.1 kb.2) 
    · have hk : Co.kids c.op = 1 := by rw [ho]; decide
      rw [hk] at hfi
      have ka : 0 ≤ c.a ∧ c.a < i := hfi c.a (by simp)
      rw [Kn.lks_1 hk]
      by_cases hz : (Kn.at' l c.a.toNat).hi = 0
      · exact l11Node_8a bk l.length i c vg _ _ (Kn.at' l c.a.toNat) w ho hi h900 g0 g1 g2 g3 g4 g5 hb (rcs c.a ka.1 ka.2) (fit c.a ka.1 ka.2) hz
      · exact l11Node_8b bk l.length i c vg _ _ (Kn.at' l c.a.toNat) w ho hi h900 g0 g1 g2 g3 g4 g5 hb (rcs c.a ka.1 ka.2) (fit c.a ka.1 ka.2) (beq_false_of_ne hz)
    · have hk : Co.kids c.op = 1 := by rw [ho]; decide
      rw [hk] at hfi
      have ka : 0 ≤ c.a ∧ c.a < i := hfi c.a (by simp)
      rw [Kn.lks_1 hk]
      cases hz : (Kn.at' l c.a.toNat).fa
      · exact l11Node_9b bk l.length i c vg _ _ (Kn.at' l c.a.toNat) w ho hi h900 g0 g1 g2 g3 g4 g5 hb (rcs c.a ka.1 ka.2) (fit c.a ka.1 ka.2) hz
      · exact l11Node_9a bk l.length i c vg _ _ (Kn.at' l c.a.toNat) w ho hi h900 g0 g1 g2 g3 g4 g5 hb (rcs c.a ka.1 ka.2) (fit c.a ka.1 ka.2) hz
    · have hk : Co.kids c.op = 1 := by rw [ho]; decide
      rw [hk] at hfi
      have ka : 0 ≤ c.a ∧ c.a < i := hfi c.a (by simp)
      rw [Kn.lks_1 hk]
      exact l11Node_10 bk l.length i c vg _ _ (Kn.at' l c.a.toNat) w ho hi h900 g0 g1 g2 g3 g4 g5 hb (rcs c.a ka.1 ka.2) (fit c.a ka.1 ka.2) (l.getD c.a.toNat Co.zero).op c.a.toNat (by omega) (by omega) (hcell c.a ka.1 ka.2) (hemp c.a ka.1 ka.2).1 (hemp c.a ka.1 ka.2).2
    · have hk : Co.kids c.op = 2 := by rw [ho]; decide
      rw [hk] at hfi
      have ka : 0 ≤ c.a ∧ c.a < i := hfi c.a (by simp)
      have kb : 0 ≤ c.b ∧ c.b < i := hfi c.b (by simp)
      rw [Kn.lks_2 hk]
      exact l11Node_11 bk l.length i c vg _ _ (Kn.at' l c.a.toNat) (Kn.at' l c.b.toNat) w ho hi h900 g0 g1 g2 g3 g4 g5 hb (rcs c.a ka.1 ka.2) (fit c.a ka.1 ka.2) (rcs c.b kb.1 kb.2) (fit c.b kb.1 kb.2) 
    · have hk : Co.kids c.op = 3 := by rw [ho]; decide
      rw [hk] at hfi
      have ka : 0 ≤ c.a ∧ c.a < i := hfi c.a (by simp)
      have kb : 0 ≤ c.b ∧ c.b < i := hfi c.b (by simp)
      have kc : 0 ≤ c.c ∧ c.c < i := hfi c.c (by simp)
      rw [Kn.lks_3 hk]
      cases hz : (Kn.at' l c.b.toNat).fa
      · exact l11Node_12b bk l.length i c vg _ _ (Kn.at' l c.a.toNat) (Kn.at' l c.b.toNat) (Kn.at' l c.c.toNat) w ho hi h900 g0 g1 g2 g3 g4 g5 hb (rcs c.a ka.1 ka.2) (fit c.a ka.1 ka.2) (rcs c.b kb.1 kb.2) (fit c.b kb.1 kb.2) (rcs c.c kc.1 kc.2) (fit c.c kc.1 kc.2) hz
      · exact l11Node_12a bk l.length i c vg _ _ (Kn.at' l c.a.toNat) (Kn.at' l c.b.toNat) (Kn.at' l c.c.toNat) w ho hi h900 g0 g1 g2 g3 g4 g5 hb (rcs c.a ka.1 ka.2) (fit c.a ka.1 ka.2) (rcs c.b kb.1 kb.2) (fit c.b kb.1 kb.2) (rcs c.c kc.1 kc.2) (fit c.c kc.1 kc.2) hz
    · have hk : Co.kids c.op = 3 := by rw [ho]; decide
      rw [hk] at hfi
      have ka : 0 ≤ c.a ∧ c.a < i := hfi c.a (by simp)
      have kb : 0 ≤ c.b ∧ c.b < i := hfi c.b (by simp)
      have kc : 0 ≤ c.c ∧ c.c < i := hfi c.c (by simp)
      rw [Kn.lks_3 hk]
      cases hz : (Kn.at' l c.a.toNat).fa
      · cases hy : (Kn.at' l c.b.toNat).fa
        · exact l11Node_13c bk l.length i c vg _ _ (Kn.at' l c.a.toNat) (Kn.at' l c.b.toNat) (Kn.at' l c.c.toNat) w ho hi h900 g0 g1 g2 g3 g4 g5 hb (rcs c.a ka.1 ka.2) (fit c.a ka.1 ka.2) (rcs c.b kb.1 kb.2) (fit c.b kb.1 kb.2) (rcs c.c kc.1 kc.2) (fit c.c kc.1 kc.2) hz hy
        · exact l11Node_13b bk l.length i c vg _ _ (Kn.at' l c.a.toNat) (Kn.at' l c.b.toNat) (Kn.at' l c.c.toNat) w ho hi h900 g0 g1 g2 g3 g4 g5 hb (rcs c.a ka.1 ka.2) (fit c.a ka.1 ka.2) (rcs c.b kb.1 kb.2) (fit c.b kb.1 kb.2) (rcs c.c kc.1 kc.2) (fit c.c kc.1 kc.2) hz hy
      · exact l11Node_13a bk l.length i c vg _ _ (Kn.at' l c.a.toNat) (Kn.at' l c.b.toNat) (Kn.at' l c.c.toNat) w ho hi h900 g0 g1 g2 g3 g4 g5 hb (rcs c.a ka.1 ka.2) (fit c.a ka.1 ka.2) (rcs c.b kb.1 kb.2) (fit c.b kb.1 kb.2) (rcs c.c kc.1 kc.2) (fit c.c kc.1 kc.2) hz
    · have hk : Co.kids c.op = 2 := by rw [ho]; decide
      rw [hk] at hfi
      have ka : 0 ≤ c.a ∧ c.a < i := hfi c.a (by simp)
      have kb : 0 ≤ c.b ∧ c.b < i := hfi c.b (by simp)
      rw [Kn.lks_2 hk]
      exact l11Node_14 bk l.length i c vg _ _ (Kn.at' l c.a.toNat) (Kn.at' l c.b.toNat) w ho hi h900 g0 g1 g2 g3 g4 g5 hb (rcs c.a ka.1 ka.2) (fit c.a ka.1 ka.2) (rcs c.b kb.1 kb.2) (fit c.b kb.1 kb.2) 
    · have hk : Co.kids c.op = 0 := by rw [ho]; decide
      rw [Kn.lks_leaf hk]
      exact l11Node_15 bk l.length i c vg _ _ w ho hi h900 g0 g1 g2 g3 g4 g5 hb
    · have hk : Co.kids c.op = 0 := by rw [ho]; decide
      rw [Kn.lks_leaf hk]
      exact l11Node_16 bk l.length i c vg _ _ w ho hi h900 g0 g1 g2 g3 g4 g5 hb
    · have hk : Co.kids c.op = 0 := by rw [ho]; decide
      rw [Kn.lks_leaf hk]
      exact l11Node_17 bk l.length i c vg _ _ w ho hi h900 g0 g1 g2 g3 g4 g5 hb
namespace Co
theorem fault_all {l : List Co} (h : fault l = 0) : 0 < l.length ∧ l.length ≤ 900 ∧ nf l l.length = 0 ∧ Tr.inOrder (tree l) = true := by
  unfold fault at h
  split at h
  · cases h
  split at h
  · rename_i h2; exact absurd h h2
  split at h
  · cases h
  · rename_i h1 h2 h3; exact ⟨by omega, by omega, by simpa using h2, by simpa using h3⟩
end Co
namespace Kn
/-- What both CountCores answer. -/
def cres (l : List Co) : Int × Int × Int × Bool := if Co.fault l ≠ 0 then (Co.fault l, 0, 0, false) else (0, (at' l (l.length - 1)).lo, (at' l (l.length - 1)).hi, (at' l (l.length - 1)).fa)
end Kn
set_option maxRecDepth 100000 in
set_option maxHeartbeats 4000000 in
theorem specCountCore_any (b : Nat) (l : List Co) (w : World) (hrow : Co.Row w b l) (hb : b < w.heap.size) (hn : l.length ≤ 1048576) (hsz : ∀ i, i < l.length → (l.getD i Co.zero).val.length ≤ 1048576) (hok : ∀ c ∈ l, c.ok) :
    Calls Try.prog 7 #[.slice (some ⟨b, 0, none⟩) l.length l.length] w fun e w' => e = .returned (.agg #[.int .i64 (Kn.cres l).1, .int .i64 (Kn.cres l).2.1, .int .i64 (Kn.cres l).2.2.1, .bool (Kn.cres l).2.2.2]) ∧ Below w.heap.size w w' := by
  have HR := hide (fun (V : World) (hV : Below w.heap.size w V) => hrow.below hV hb)
  obtain ⟨w0, hw0⟩ : ∃ w0, w0 = w.alloc (.cells #[.int .i64 0, .int .i64 0, .int .i64 0, .bool false] 25) := ⟨_, rfl⟩
  have B0 : Below w.heap.size w w0 := by rw [hw0]; exact (Below.refl _ _).alloc (Nat.le_refl _) _
  have O0 : Own w0 w.heap.size 25 [.int .i64 0, .int .i64 0, .int .i64 0, .bool false] := by rw [hw0]; exact ⟨_, heap_alloc_new _ _, rfl⟩
  have HC := hide (specCoreFault_any b l w0 (hrow.below B0 hb) (Nat.lt_of_lt_of_le hb B0.size) hn hsz hok)
  clear hrow hsz hok
  go_enter Try.func7, Try.ntmps7
  go_wp2_with fail
  rw [← hw0]
  clear hw0
  refine (unhide HC).mono ?_
  rintro e w1 ⟨rfl, hb1⟩
  have B1 : Below w.heap.size w w1 := B0.trans (hb1.mono B0.size)
  have O1 := O0.below hb1 O0.lt
  clear O0 B0 hb1 HC
  by_cases hf : Co.fault l = 0
  case neg =>
    have fin := hide (show Kn.cres l = (Co.fault l, 0, 0, false) by unfold Kn.cres; rw [if_pos hf])
    generalize Co.fault l = q at *
    have g1 : (q != 0) = true := by simpa using hf
    clear hf
    obtain ⟨c0, c1, c2, c3⟩ := Kn.four_co O1
    obtain ⟨z0, z1, z2, z3⟩ := Kn.four_fr O1
    have O2 := hide (Kn.put4_own O1 (.int .i64 q) (.int .i64 0) (.int .i64 0) (.bool false))
    have B2 := hide (Kn.put4_below B1 (Nat.le_refl _) (.int .i64 q) (.int .i64 0) (.int .i64 0) (.bool false))
    clear O1 B1
    go_wp2_with fail
    rw [show (((w1.setCell ⟨w.heap.size, 0, none⟩ (.int .i64 q)).setCell ⟨w.heap.size, 1, none⟩ (.int .i64 0)).setCell ⟨w.heap.size, 2, none⟩ (.int .i64 0)).setCell ⟨w.heap.size, 3, none⟩ (.bool false) = Kn.put4 w1 w.heap.size (.int .i64 q) (.int .i64 0) (.int .i64 0) (.bool false) from rfl]
    have qq := Kn.four_co (unhide O2)
    have BF := unhide B2
    clear O2 B2 c0 c1 c2 c3 z0 z1 z2 z3
    generalize Kn.put4 w1 w.heap.size (.int .i64 q) (.int .i64 0) (.int .i64 0) (.bool false) = WW at *
    obtain ⟨q0, q1, q2, q3⟩ := qq
    refine bodyPost_ret (v := .agg #[.int .i64 q, .int .i64 0, .int .i64 0, .bool false]) (by simp [results, Try.results7, go_sem, q0, q1, q2, q3]; try rfl) rfl ?_
    exact ⟨by rw [unhide fin], BF⟩
  have fin := hide (show Kn.cres l = (0, (Kn.at' l (l.length - 1)).lo, (Kn.at' l (l.length - 1)).hi, (Kn.at' l (l.length - 1)).fa) by unfold Kn.cres; rw [if_neg (by simpa using hf)])
  obtain ⟨h0, h900, hnf, hord⟩ := Co.fault_all hf
  have hfine := Co.fine_of hnf
  have hop := co_ops hnf
  rw [hf]
  clear hf hnf
  obtain ⟨m, hm⟩ : ∃ m, l.length = m + 1 := ⟨l.length - 1, by omega⟩
  have hwm : IntKind.i64.wrap (m : Int) = (m : Int) := IntWalk.i64_in _ ⟨by omega, by omega⟩
  have hms : (l.length : Int) - 1 = (m : Int) := by omega
  have HN := hide (l11Node_says b l hfine hop h900 l.length m (by omega) (by omega) w1 ((unhide HR) w1 B1) (Nat.lt_of_lt_of_le hb B1.size))
  rw [show l.length - 1 = m by omega] at fin
  unfold Kn.ans at HN
  generalize Kn.at' l m = k at *
  obtain ⟨klo, khi, kfa, kki⟩ := k
  simp only at HN fin
  clear hfine hop hord hm h0
  go_wp2_with fail
  refine (unhide HN).mono ?_
  rintro e w2 ⟨rfl, hb2⟩
  have B2' : Below w.heap.size w w2 := B1.trans (hb2.mono B1.size)
  have O2' := O1.below hb2 O1.lt
  clear O1 B1 hb2 HN
  obtain ⟨c0, c1, c2, c3⟩ := Kn.four_co O2'
  obtain ⟨z0, z1, z2, z3⟩ := Kn.four_fr O2'
  have O2 := hide (Kn.put4_own O2' (.int .i64 0) (.int .i64 klo) (.int .i64 khi) (.bool kfa))
  have B2 := hide (Kn.put4_below B2' (Nat.le_refl _) (.int .i64 0) (.int .i64 klo) (.int .i64 khi) (.bool kfa))
  clear O2' B2'
  go_wp2_with fail
  rw [show (((w2.setCell ⟨w.heap.size, 0, none⟩ (.int .i64 0)).setCell ⟨w.heap.size, 1, none⟩ (.int .i64 klo)).setCell ⟨w.heap.size, 2, none⟩ (.int .i64 khi)).setCell ⟨w.heap.size, 3, none⟩ (.bool kfa) = Kn.put4 w2 w.heap.size (.int .i64 0) (.int .i64 klo) (.int .i64 khi) (.bool kfa) from rfl]
  have qq := Kn.four_co (unhide O2)
  have BF := unhide B2
  clear O2 B2 c0 c1 c2 c3 z0 z1 z2 z3
  generalize Kn.put4 w2 w.heap.size (.int .i64 0) (.int .i64 klo) (.int .i64 khi) (.bool kfa) = WW at *
  obtain ⟨q0, q1, q2, q3⟩ := qq
  refine bodyPost_ret (v := .agg #[.int .i64 0, .int .i64 klo, .int .i64 khi, .bool kfa]) (by simp [results, Try.results7, go_sem, q0, q1, q2, q3]; try rfl) rfl ?_
  exact ⟨by rw [unhide fin], BF⟩
set_option maxRecDepth 100000 in
set_option maxHeartbeats 4000000 in
theorem implCountCore_any (b : Nat) (l : List Co) (w : World) (hrow : Co.Row w b l) (hb : b < w.heap.size) (hn : l.length ≤ 1048576) (hsz : ∀ i, i < l.length → (l.getD i Co.zero).val.length ≤ 1048576) (hok : ∀ c ∈ l, c.ok) :
    Calls Try.prog 9 #[.slice (some ⟨b, 0, none⟩) l.length l.length] w fun e w' => e = .returned (.agg #[.int .i64 (Kn.cres l).1, .int .i64 (Kn.cres l).2.1, .int .i64 (Kn.cres l).2.2.1, .bool (Kn.cres l).2.2.2]) ∧ Below w.heap.size w w' := by
  have HR := hide (fun (V : World) (hV : Below w.heap.size w V) => hrow.below hV hb)
  obtain ⟨w0, hw0⟩ : ∃ w0, w0 = w.alloc (.cells #[.int .i64 0, .int .i64 0, .int .i64 0, .bool false] 25) := ⟨_, rfl⟩
  have B0 : Below w.heap.size w w0 := by rw [hw0]; exact (Below.refl _ _).alloc (Nat.le_refl _) _
  have O0 : Own w0 w.heap.size 25 [.int .i64 0, .int .i64 0, .int .i64 0, .bool false] := by rw [hw0]; exact ⟨_, heap_alloc_new _ _, rfl⟩
  have HC := hide (implCoreFault_any b l w0 (hrow.below B0 hb) (Nat.lt_of_lt_of_le hb B0.size) hn hsz hok)
  clear hrow hsz hok
  go_enter Try.func9, Try.ntmps9
  go_wp2_with fail
  rw [← hw0]
  clear hw0
  refine (unhide HC).mono ?_
  rintro e w1 ⟨rfl, hb1⟩
  have B1 : Below w.heap.size w w1 := B0.trans (hb1.mono B0.size)
  have O1 := O0.below hb1 O0.lt
  clear O0 B0 hb1 HC
  by_cases hf : Co.fault l = 0
  case neg =>
    have fin := hide (show Kn.cres l = (Co.fault l, 0, 0, false) by unfold Kn.cres; rw [if_pos hf])
    generalize Co.fault l = q at *
    have g1 : (q != 0) = true := by simpa using hf
    clear hf
    obtain ⟨c0, c1, c2, c3⟩ := Kn.four_co O1
    obtain ⟨z0, z1, z2, z3⟩ := Kn.four_fr O1
    have O2 := hide (Kn.put4_own O1 (.int .i64 q) (.int .i64 0) (.int .i64 0) (.bool false))
    have B2 := hide (Kn.put4_below B1 (Nat.le_refl _) (.int .i64 q) (.int .i64 0) (.int .i64 0) (.bool false))
    clear O1 B1
    go_wp2_with fail
    rw [show (((w1.setCell ⟨w.heap.size, 0, none⟩ (.int .i64 q)).setCell ⟨w.heap.size, 1, none⟩ (.int .i64 0)).setCell ⟨w.heap.size, 2, none⟩ (.int .i64 0)).setCell ⟨w.heap.size, 3, none⟩ (.bool false) = Kn.put4 w1 w.heap.size (.int .i64 q) (.int .i64 0) (.int .i64 0) (.bool false) from rfl]
    have qq := Kn.four_co (unhide O2)
    have BF := unhide B2
    clear O2 B2 c0 c1 c2 c3 z0 z1 z2 z3
    generalize Kn.put4 w1 w.heap.size (.int .i64 q) (.int .i64 0) (.int .i64 0) (.bool false) = WW at *
    obtain ⟨q0, q1, q2, q3⟩ := qq
    refine bodyPost_ret (v := .agg #[.int .i64 q, .int .i64 0, .int .i64 0, .bool false]) (by simp [results, Try.results9, go_sem, q0, q1, q2, q3]; try rfl) rfl ?_
    exact ⟨by rw [unhide fin], BF⟩
  have fin := hide (show Kn.cres l = (0, (Kn.at' l (l.length - 1)).lo, (Kn.at' l (l.length - 1)).hi, (Kn.at' l (l.length - 1)).fa) by unfold Kn.cres; rw [if_neg (by simpa using hf)])
  obtain ⟨h0, h900, hnf, hord⟩ := Co.fault_all hf
  have hfine := Co.fine_of hnf
  have hop := co_ops hnf
  rw [hf]
  clear hf hnf
  have HN := hide (knownOfLast_any b l w1 ((unhide HR) w1 B1) (Nat.lt_of_lt_of_le hb B1.size) h0 h900 hop hfine (fun i hi => Kn.ki_fit hfine hord h900 hi))
  generalize Kn.at' l (l.length - 1) = k at *
  clear hfine hop hord h0
  go_upto_region 4 with fail
  refine wp_region_lit ?_
  refine Kn.step_val (v := .slice (some ⟨b, 0, none⟩) l.length l.length) (w' := w1) rfl (by rfl) ?_
  simp only [Act.put, List.setIfInBounds_toArray, List.set_cons_zero, List.set_cons_succ]
  refine wpList_plain rfl fun K hK => ?_
  go_simp
  refine (unhide HN).mono ?_
  rintro e w2 ⟨rfl, hb2⟩
  have B2' : Below w.heap.size w w2 := B1.trans (hb2.mono B1.size)
  have O2' := O1.below hb2 O1.lt
  clear O1 B1 hb2 HN
  go_simp
  refine hK _ _ ?_
  clear hK K
  refine Kn.step_val (v := .pointer (some ⟨w2.heap.size, 0, none⟩)) (w' := w2.alloc (.cells Kn.zArr 55)) rfl (by kernel_rfl) ?_
  simp only [Act.put, List.setIfInBounds_toArray, List.set_cons_zero, List.set_cons_succ]
  refine Kn.step_skip (w' := w2.alloc (.cells (Kn.arr k) 55)) rfl (Kn.kn_store w2 k _ _ (.tmp 4) (.tmp 12) rfl rfl rfl) ?_
  simp only [Act.put, List.setIfInBounds_toArray, List.set_cons_zero, List.set_cons_succ]
  have OK : Own (w2.alloc (.cells (Kn.arr k) 55)) w2.heap.size 55 (Kn.cells k) := ⟨_, heap_alloc_new _ _, rfl⟩
  have O3' := O2'.below ((Below.refl _ _).alloc (Nat.le_refl _) (.cells (Kn.arr k) 55)) O2'.lt
  have B3' : Below w.heap.size w (w2.alloc (.cells (Kn.arr k) 55)) := B2'.alloc B2'.size _
  have k0 : (w2.alloc (.cells (Kn.arr k) 55)).cell? ⟨w2.heap.size, 0, none⟩ = some (.int .i64 k.lo) := OK.cell 0
  have k1 : (w2.alloc (.cells (Kn.arr k) 55)).cell? ⟨w2.heap.size, 1, none⟩ = some (.int .i64 k.hi) := OK.cell 1
  have k2 : (w2.alloc (.cells (Kn.arr k) 55)).cell? ⟨w2.heap.size, 2, none⟩ = some (.bool k.fa) := OK.cell 2
  generalize (Kn.cells k).toArray = KA at *
  clear O2' B2' OK
  generalize w2.alloc (.cells (Kn.arr k) 55) = w3 at *
  obtain ⟨klo, khi, kfa, kki⟩ := k
  simp only at k0 k1 k2 fin
  obtain ⟨c0, c1, c2, c3⟩ := Kn.four_co O3'
  obtain ⟨z0, z1, z2, z3⟩ := Kn.four_fr O3'
  have O2 := hide (Kn.put4_own O3' (.int .i64 0) (.int .i64 klo) (.int .i64 khi) (.bool kfa))
  have B2 := hide (Kn.put4_below B3' (Nat.le_refl _) (.int .i64 0) (.int .i64 klo) (.int .i64 khi) (.bool kfa))
  clear O3' B3'
  go_wp2_with fail
  rw [show (((w3.setCell ⟨w.heap.size, 0, none⟩ (.int .i64 0)).setCell ⟨w.heap.size, 1, none⟩ (.int .i64 klo)).setCell ⟨w.heap.size, 2, none⟩ (.int .i64 khi)).setCell ⟨w.heap.size, 3, none⟩ (.bool kfa) = Kn.put4 w3 w.heap.size (.int .i64 0) (.int .i64 klo) (.int .i64 khi) (.bool kfa) from rfl]
  have qq := Kn.four_co (unhide O2)
  have BF := unhide B2
  clear O2 B2 c0 c1 c2 c3 z0 z1 z2 z3
  generalize Kn.put4 w3 w.heap.size (.int .i64 0) (.int .i64 klo) (.int .i64 khi) (.bool kfa) = WW at *
  obtain ⟨q0, q1, q2, q3⟩ := qq
  refine bodyPost_ret (v := .agg #[.int .i64 0, .int .i64 klo, .int .i64 khi, .bool kfa]) (by simp [results, Try.results9, go_sem, q0, q1, q2, q3]; try rfl) rfl ?_
  exact ⟨by rw [unhide fin], BF⟩
namespace Kn
def sure (l : List Co) : Bool := (cres l).1 == 0 && (cres l).2.1 == 1 && (cres l).2.2.1 == 1 && !(cres l).2.2.2
end Kn
set_option maxRecDepth 100000 in
set_option maxHeartbeats 4000000 in
theorem specSureCore_any (b : Nat) (l : List Co) (w : World) (hrow : Co.Row w b l) (hb : b < w.heap.size) (hn : l.length ≤ 1048576) (hsz : ∀ i, i < l.length → (l.getD i Co.zero).val.length ≤ 1048576) (hok : ∀ c ∈ l, c.ok) :
    Calls Try.prog 18 #[.slice (some ⟨b, 0, none⟩) l.length l.length] w fun e w' => e = .returned (.bool (Kn.sure l)) ∧ Below w.heap.size w w' := by
  have HC := hide (specCountCore_any b l w hrow hb hn hsz hok)
  have FIN := hide (show (((Kn.cres l).1 == 0 && (Kn.cres l).2.1 == 1) && (Kn.cres l).2.2.1 == 1 && !(Kn.cres l).2.2.2) = Kn.sure l from rfl)
  clear hrow hsz hok
  generalize Kn.cres l = R at *
  obtain ⟨x, y, z, u⟩ := R
  simp only at HC FIN
  generalize Kn.sure l = S at *
  go_enter Try.func18, Try.ntmps18
  go_wp2_with fail
  refine (unhide HC).mono ?_
  rintro e w1 ⟨rfl, hb1⟩
  have B1 := hide (fun o => hb1.alloc hb1.size o)
  clear hb1 HC
  cases e1 : (x == 0)
  · rw [e1] at FIN
    go_wp2_with fail
    go_ret
    exact ⟨ret_bool (by simpa using unhide FIN), (unhide B1) _⟩
  · rw [e1] at FIN
    cases e2 : (y == 1)
    · rw [e2] at FIN
      go_wp2_with fail
      go_ret
      exact ⟨ret_bool (by simpa using unhide FIN), (unhide B1) _⟩
    · rw [e2] at FIN
      cases e3 : (z == 1)
      · rw [e3] at FIN
        go_wp2_with fail
        go_ret
        exact ⟨ret_bool (by simpa using unhide FIN), (unhide B1) _⟩
      · rw [e3] at FIN
        go_wp2_with fail
        go_ret
        exact ⟨ret_bool (by simpa using unhide FIN), (unhide B1) _⟩
set_option maxRecDepth 100000 in
set_option maxHeartbeats 4000000 in
theorem implSureCore_any (b : Nat) (l : List Co) (w : World) (hrow : Co.Row w b l) (hb : b < w.heap.size) (hn : l.length ≤ 1048576) (hsz : ∀ i, i < l.length → (l.getD i Co.zero).val.length ≤ 1048576) (hok : ∀ c ∈ l, c.ok) :
    Calls Try.prog 19 #[.slice (some ⟨b, 0, none⟩) l.length l.length] w fun e w' => e = .returned (.bool (Kn.sure l)) ∧ Below w.heap.size w w' := by
  have HC := hide (implCountCore_any b l w hrow hb hn hsz hok)
  have FIN := hide (show (((Kn.cres l).1 == 0 && (Kn.cres l).2.1 == 1) && (Kn.cres l).2.2.1 == 1 && !(Kn.cres l).2.2.2) = Kn.sure l from rfl)
  clear hrow hsz hok
  generalize Kn.cres l = R at *
  obtain ⟨x, y, z, u⟩ := R
  simp only at HC FIN
  generalize Kn.sure l = S at *
  go_enter Try.func19, Try.ntmps19
  go_wp2_with fail
  refine (unhide HC).mono ?_
  rintro e w1 ⟨rfl, hb1⟩
  clear HC
  cases e1 : (x == 0) <;> cases e2 : (y == 1) <;> cases e3 : (z == 1) <;> cases u <;>
    (rw [e1, e2, e3] at FIN
     have fin := unhide FIN
     simp at fin
     subst fin
     go_wp2_with fail
     go_ret
     exact ⟨rfl, hb1⟩)

end Go.Proofs.Ytkjmnkbiflkpdaa
