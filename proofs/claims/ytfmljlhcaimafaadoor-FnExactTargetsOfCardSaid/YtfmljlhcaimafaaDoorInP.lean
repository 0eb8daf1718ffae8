/-
  impl.placesBehind: where an instruction goes on.
-/
import Derived.Test.YtfmljlhcaimafaaDoorInI
import Derived.Test.YtfmljlhcaimafaaDoorInN
import Derived.Test.YtfmljlhcaimafaaDoorChildT
namespace Go.Proofs.YtfmljlhcaimafaaDoor
open Go.RowKit
set_option linter.unusedVariables false
set_option linter.unusedSimpArgs false


namespace Ic
/-- What placesBehind answers. -/
def PlSaid (w : World) (ps : List Int) (e : Ending) (w' : World) : Prop := ∃ v : Value, e = .returned v ∧ w'.ownsRow w.heap.size 2 1 v ps.length (ps.map (Value.int .i64)) ∧ Below w.heap.size w w'
end Ic
theorem World.cell?_of_heap {w w' : World} {b j : Nat} (h : w'.heap[b]? = w.heap[b]?) : w'.cell? ⟨b, j, none⟩ = w.cell? ⟨b, j, none⟩ := by
  unfold World.cell?
  simp only [h]
theorem Ic.ends_jumps {op : Int} (h : Ic.ends op = true) (hk : Ic.argK op = 3) : op = 10 := by
  have h1 := Ic.K_jump hk
  unfold Ic.ends at h
  unfold Ic.jumps at h1
  simp only [Bool.or_eq_true, beq_iff_eq, Bool.and_eq_true, decide_eq_true_eq] at h h1
  omega
set_option maxRecDepth 100000 in
set_option maxHeartbeats 4000000 in
theorem placesBehind_any (c : Ic) (g i : Nat) (w : World) (h1 : 1 ≤ c.op) (h2 : c.op ≤ 19) (hi : i ≤ 6000) (hS : Shp w) :
    Calls Tryd.prog 74 #[.agg #[.int .i64 c.op, .int .i64 c.arg, .slice (some ⟨g, 0, none⟩) c.val.length c.val.length], .int .i64 i] w (Ic.PlSaid w (Ic.places c i)) := by
  obtain ⟨i0, hi0, hz0, hz1, hz2⟩ := info_parts Tryd.info2
  obtain ⟨op, arg, val⟩ := c
  simp only at h1 h2
  obtain ⟨o, hO⟩ : ∃ o : Nat, op = (o : Int) := ⟨op.toNat, by omega⟩
  subst hO
  have ho20 : o < 20 := by omega
  have ho20I : (o : Int) < 20 := by omega
  have hwk : IntKind.i64.wrap ((i : Int) + 1) = (i : Int) + 1 := IntWalk.i64_in _ ⟨by omega, by omega⟩
  obtain ⟨w1, hw1⟩ : ∃ w1, w1 = (w.alloc (.cells #[.int .i64 (o : Int), .int .i64 arg, .slice (some ⟨g, 0, none⟩) val.length val.length] 54)) := ⟨_, rfl⟩
  have B1 : Below w.heap.size w w1 := by rw [hw1]; exact (Below.refl _ _).alloc (Nat.le_refl _) _
  have N1 : Own w1 w.heap.size 54 [.int .i64 (o : Int), .int .i64 arg, .slice (some ⟨g, 0, none⟩) val.length val.length] := by rw [hw1]; exact ⟨_, heap_alloc_new _ _, rfl⟩
  have hs1 : w1.heap.size = w.heap.size + 1 := by rw [hw1]; simp
  obtain ⟨s0, s1, s2, s3, s4, s5⟩ := (hS.below B1).cell o ho20
  have HEJ : Hid (Ic.ends (o : Int) = true → Ic.argK (o : Int) = 3 → (o : Int) = 10) := fun a b => Ic.ends_jumps a b
  have HKJ : Hid (Ic.jumps (o : Int) = decide (Ic.argK (o : Int) = 3)) := by
    cases hj : Ic.jumps (o : Int) with
    | true => exact (decide_eq_true (Ic.jump_K hj)).symm
    | false => exact (decide_eq_false (fun e => by rw [Ic.K_jump e] at hj; cases hj)).symm
  have HPL0 := hide (show Ic.places ⟨(o : Int), arg, val⟩ i = (if Ic.ends (o : Int) = true then [] else [(i : Int) + 1]) ++ (if Ic.jumps (o : Int) = true then [arg] else []) from rfl)
  rw [unhide HKJ] at HPL0
  generalize Ic.argK (o : Int) = K at *
  generalize Ic.holds (o : Int) = hold at *
  generalize Ic.takes (o : Int) = tk at *
  generalize Ic.lays (o : Int) = ly at *
  generalize Ic.ends (o : Int) = en at *
  generalize Ic.word o = wd at *
  obtain ⟨w2, hw2⟩ : ∃ w2, w2 = w1.alloc (.cells #[.string wd, .int .i64 K, .bool hold, .int .i64 tk, .int .i64 ly, .bool en] 70) := ⟨_, rfl⟩
  have B2 : Below w.heap.size w w2 := by rw [hw2]; exact B1.alloc B1.size _
  have N2 : Own w2 w.heap.size 54 [.int .i64 (o : Int), .int .i64 arg, .slice (some ⟨g, 0, none⟩) val.length val.length] := by rw [hw2]; exact N1.alloc _
  have S2 : Own w2 (w.heap.size + 1) 70 [.string wd, .int .i64 K, .bool hold, .int .i64 tk, .int .i64 ly, .bool en] := by rw [← hs1, hw2]; exact ⟨_, heap_alloc_new _ _, rfl⟩
  have c1w : w2.cell? ⟨w.heap.size, 1, none⟩ = some (.int .i64 arg) := N2.cell 1
  have t1w : w2.cell? ⟨w.heap.size + 1, 1, none⟩ = some (.int .i64 K) := S2.cell 1
  have t5w : w2.cell? ⟨w.heap.size + 1, 5, none⟩ = some (.bool en) := S2.cell 5
  have c0a : w1.cell? ⟨w.heap.size, 0, none⟩ = some (.int .i64 (o : Int)) := N1.cell 0
  have c1b := c1w
  have t1 := t1w
  have t5 := t5w
  rw [hw2, hw1] at c1b t1 t5
  rw [hw1] at c0a s0 s1 s2 s3 s4 s5
  clear hs1 N1 N2 S2 hS HKJ HEJ
  by_cases hK : K = 3
  · subst hK
    cases en with
    | false =>
      have HPL := hide (show Ic.places ⟨(o : Int), arg, val⟩ i = [(i : Int) + 1] ++ [arg] by rw [unhide HPL0]; rfl)
      go_enter Tryd.func74, Tryd.ntmps74
      have hown' := hide (fun ob => World.ownsRow.alloc (World.ownsRow_nil w2 w.heap.size 2 1) ob)
      rw [hw2, hw1] at hown'
      have hone : Hid (∀ (j : Nat) (u : Value), ([Value.int .i64 ((i : Int) + 1)] : List Value)[j]? = some u → (((w.alloc (.cells #[.int .i64 (o : Int), .int .i64 arg, .slice (some ⟨g, 0, none⟩) val.length val.length] 54)).alloc (.cells #[.string wd, .int .i64 3, .bool hold, .int .i64 tk, .int .i64 ly, .bool false] 70)).alloc (.cells #[.int .i64 ((i : Int) + 1)] 2)).cell? ((⟨w.heap.size + 1 + 1, 0, none⟩ : Addr).add j) = some u) := by
        have h9 := one_word ((w.alloc (.cells #[.int .i64 (o : Int), .int .i64 arg, .slice (some ⟨g, 0, none⟩) val.length val.length] 54)).alloc (.cells #[.string wd, .int .i64 3, .bool hold, .int .i64 tk, .int .i64 ly, .bool false] 70)) ((i : Int) + 1)
        rw [World.size_alloc, World.size_alloc] at h9
        exact h9
      have honep := hide (one_plain ((i : Int) + 1))
      have hb63 : 0 + 1 ≤ maxLen := by unfold maxLen; omega
      have hby : (0 + 1) * 8 ≤ 140737488355328 := by omega
      have HG := hide (fun (W : World) ob hg => (B2.alloc B2.size ob).grown (w' := W) (row := (Value.slice none 0 0).ownBlock) hg (by have := B2.size; simp; omega) (fun q hq => by simp [Value.ownBlock] at hq))
      rw [hw2, hw1] at HG
      go_wp2_with (at_builtin; refine wpList_append_own _ rfl (.tmp 14) (.tmp 17) 34 rfl w.heap.size 2 i0 (.int .i64 0) 1 8 Tryd.underlying34 hi0 hz0 hz1 hz2 rfl (by decide) _ 0 _ rfl ((unhide hown') _) ⟨w.heap.size + 1 + 1, 0, none⟩ 1 1 [.int .i64 ((i : Int) + 1)] rfl rfl (unhide hone) (unhide honep) hb63 hby (by simp; omega) ?_)
      intro v7 w7 ho7 hg7 _
      have B7 := (unhide HG) w7 _ hg7
      have hlow7 : ∀ k, k < w.heap.size + 2 → w7.heap[k]? = ((w.alloc (.cells #[.int .i64 (o : Int), .int .i64 arg, .slice (some ⟨g, 0, none⟩) val.length val.length] 54)).alloc (.cells #[.string wd, .int .i64 3, .bool hold, .int .i64 tk, .int .i64 ly, .bool false] 70)).heap[k]? := fun k hk => by
        rw [hg7.block k (by simp; omega) (by simp [Value.ownBlock])]
        exact Below.heap_alloc _ _ _ (by simp; omega)
      clear hg7 HG hown' hone honep hb63 hby
      obtain ⟨ps1, hps1⟩ : ∃ ps1 : List Int, ps1 = [(i : Int) + 1] := ⟨_, rfl⟩
      have R7 := hide (show w7.ownsRow w.heap.size 2 1 v7 ps1.length (ps1.map (Value.int .i64)) by rw [hps1]; exact ho7)
      have hl1 : ps1.length ≤ 1 := by rw [hps1]; simp
      have HPS1 := hide hps1
      clear hps1 ho7
      have hown' := hide (fun ob => World.ownsRow.alloc (unhide R7) ob)
      have hone := hide (one_word w7 (arg))
      have honep := hide (one_plain (arg))
      have hb63 : ps1.length + 1 ≤ maxLen := by unfold maxLen; omega
      have hby : (ps1.length + 1) * 8 ≤ 140737488355328 := by omega
      have hs7 := B7.size
      obtain ⟨a7, c7, rfl⟩ : ∃ (a : Option Addr) (c : Nat), v7 = .slice a ps1.length c := by
        obtain ⟨h0, h1 | ⟨gg, c, cur, h2, hgg, hh, rest⟩⟩ := unhide R7
        · exact ⟨none, 0, by rw [h1.1, h1.2]⟩
        · exact ⟨_, _, h2⟩
      have HBS := hide (show ∀ q, (Value.slice a7 ps1.length c7).ownBlock = some q → w.heap.size ≤ q from fun q hq => by
        obtain ⟨h0, h1 | ⟨gg, c, cur, h2, hgg, hh, rest⟩⟩ := unhide R7
        · rw [h1.1] at hq; simp [Value.ownBlock] at hq
        · rw [h2] at hq; simp only [Value.ownBlock, Option.some.injEq] at hq; omega)
      have HG := hide (fun (W : World) ob hg => (B7.alloc B7.size ob).grown (w' := W) (row := (Value.slice a7 ps1.length c7).ownBlock) hg (by simp; omega) (unhide HBS))
      have x0 : w7.cell? ⟨w.heap.size, 1, none⟩ = some (.int .i64 arg) := by
        have e : w7.cell? ⟨w.heap.size, 1, none⟩ = w2.cell? ⟨w.heap.size, 1, none⟩ := World.cell?_of_heap (by rw [hlow7 _ (by simp), hw2, hw1])
        exact e.trans c1w
      have x1 : w7.cell? ⟨w.heap.size + 1, 1, none⟩ = some (.int .i64 3) := by
        have e : w7.cell? ⟨w.heap.size + 1, 1, none⟩ = w2.cell? ⟨w.heap.size + 1, 1, none⟩ := World.cell?_of_heap (by rw [hlow7 _ (by simp), hw2, hw1])
        exact e.trans t1w
      clear hlow7 hw1 hw2
      go_wp2_with (at_builtin; refine wpList_append_own _ rfl (.tmp 22) (.tmp 25) 34 rfl w.heap.size 2 i0 (.int .i64 0) 1 8 Tryd.underlying34 hi0 hz0 hz1 hz2 rfl (by decide) _ ps1.length _ rfl ((unhide hown') _) ⟨w7.heap.size, 0, none⟩ 1 1 [.int .i64 (arg)] rfl rfl (unhide hone) (unhide honep) hb63 hby (by simp; omega) ?_)
      intro v8 w8 ho8 hg8 _
      have B8 := (unhide HG) w8 _ hg8
      have fin := hide (show Ic.PlSaid w (Ic.places ⟨(o : Int), arg, val⟩ i) (.returned v8) w8 from ⟨_, rfl, by rw [unhide HPL]; rw [unhide HPS1] at ho8; exact ho8, B8⟩)
      clear ho8 hg8 HG hown' hone honep
      go_wp2_with fail
      go_ret
      exact unhide fin
    | true =>
      have HPL := hide (show Ic.places ⟨(o : Int), arg, val⟩ i = [arg] by rw [unhide HPL0]; rfl)
      go_enter Tryd.func74, Tryd.ntmps74
      have hown' := hide (fun ob => World.ownsRow.alloc (World.ownsRow_nil w2 w.heap.size 2 1) ob)
      rw [hw2, hw1] at hown'
      have hone : Hid (∀ (j : Nat) (u : Value), ([Value.int .i64 (arg)] : List Value)[j]? = some u → (((w.alloc (.cells #[.int .i64 (o : Int), .int .i64 arg, .slice (some ⟨g, 0, none⟩) val.length val.length] 54)).alloc (.cells #[.string wd, .int .i64 3, .bool hold, .int .i64 tk, .int .i64 ly, .bool true] 70)).alloc (.cells #[.int .i64 (arg)] 2)).cell? ((⟨w.heap.size + 1 + 1, 0, none⟩ : Addr).add j) = some u) := by
        have h9 := one_word ((w.alloc (.cells #[.int .i64 (o : Int), .int .i64 arg, .slice (some ⟨g, 0, none⟩) val.length val.length] 54)).alloc (.cells #[.string wd, .int .i64 3, .bool hold, .int .i64 tk, .int .i64 ly, .bool true] 70)) (arg)
        rw [World.size_alloc, World.size_alloc] at h9
        exact h9
      have honep := hide (one_plain (arg))
      have hb63 : 0 + 1 ≤ maxLen := by unfold maxLen; omega
      have hby : (0 + 1) * 8 ≤ 140737488355328 := by omega
      have HG := hide (fun (W : World) ob hg => (B2.alloc B2.size ob).grown (w' := W) (row := (Value.slice none 0 0).ownBlock) hg (by have := B2.size; simp; omega) (fun q hq => by simp [Value.ownBlock] at hq))
      rw [hw2, hw1] at HG
      go_wp2_with (at_builtin; refine wpList_append_own _ rfl (.tmp 22) (.tmp 25) 34 rfl w.heap.size 2 i0 (.int .i64 0) 1 8 Tryd.underlying34 hi0 hz0 hz1 hz2 rfl (by decide) _ 0 _ rfl ((unhide hown') _) ⟨w.heap.size + 1 + 1, 0, none⟩ 1 1 [.int .i64 (arg)] rfl rfl (unhide hone) (unhide honep) hb63 hby (by simp; omega) ?_)
      intro v7 w7 ho7 hg7 _
      have B7 := (unhide HG) w7 _ hg7
      have hlow7 : ∀ k, k < w.heap.size + 2 → w7.heap[k]? = ((w.alloc (.cells #[.int .i64 (o : Int), .int .i64 arg, .slice (some ⟨g, 0, none⟩) val.length val.length] 54)).alloc (.cells #[.string wd, .int .i64 3, .bool hold, .int .i64 tk, .int .i64 ly, .bool true] 70)).heap[k]? := fun k hk => by
        rw [hg7.block k (by simp; omega) (by simp [Value.ownBlock])]
        exact Below.heap_alloc _ _ _ (by simp; omega)
      clear hg7 HG hown' hone honep hb63 hby
      have fin := hide (show Ic.PlSaid w (Ic.places ⟨(o : Int), arg, val⟩ i) (.returned v7) w7 from ⟨_, rfl, by rw [unhide HPL]; exact ho7, B7⟩)
      clear ho7 hlow7
      go_wp2_with fail
      go_ret
      exact unhide fin
  · have gK : (K == 3) = false := by simp [hK]
    cases en with
    | false =>
      have HPL := hide (show Ic.places ⟨(o : Int), arg, val⟩ i = [(i : Int) + 1] by rw [unhide HPL0, decide_eq_false hK]; rfl)
      clear hK
      go_enter Tryd.func74, Tryd.ntmps74
      have hown' := hide (fun ob => World.ownsRow.alloc (World.ownsRow_nil w2 w.heap.size 2 1) ob)
      rw [hw2, hw1] at hown'
      have hone : Hid (∀ (j : Nat) (u : Value), ([Value.int .i64 ((i : Int) + 1)] : List Value)[j]? = some u → (((w.alloc (.cells #[.int .i64 (o : Int), .int .i64 arg, .slice (some ⟨g, 0, none⟩) val.length val.length] 54)).alloc (.cells #[.string wd, .int .i64 K, .bool hold, .int .i64 tk, .int .i64 ly, .bool false] 70)).alloc (.cells #[.int .i64 ((i : Int) + 1)] 2)).cell? ((⟨w.heap.size + 1 + 1, 0, none⟩ : Addr).add j) = some u) := by
        have h9 := one_word ((w.alloc (.cells #[.int .i64 (o : Int), .int .i64 arg, .slice (some ⟨g, 0, none⟩) val.length val.length] 54)).alloc (.cells #[.string wd, .int .i64 K, .bool hold, .int .i64 tk, .int .i64 ly, .bool false] 70)) ((i : Int) + 1)
        rw [World.size_alloc, World.size_alloc] at h9
        exact h9
      have honep := hide (one_plain ((i : Int) + 1))
      have hb63 : 0 + 1 ≤ maxLen := by unfold maxLen; omega
      have hby : (0 + 1) * 8 ≤ 140737488355328 := by omega
      have HG := hide (fun (W : World) ob hg => (B2.alloc B2.size ob).grown (w' := W) (row := (Value.slice none 0 0).ownBlock) hg (by have := B2.size; simp; omega) (fun q hq => by simp [Value.ownBlock] at hq))
      rw [hw2, hw1] at HG
      go_wp2_with (at_builtin; refine wpList_append_own _ rfl (.tmp 14) (.tmp 17) 34 rfl w.heap.size 2 i0 (.int .i64 0) 1 8 Tryd.underlying34 hi0 hz0 hz1 hz2 rfl (by decide) _ 0 _ rfl ((unhide hown') _) ⟨w.heap.size + 1 + 1, 0, none⟩ 1 1 [.int .i64 ((i : Int) + 1)] rfl rfl (unhide hone) (unhide honep) hb63 hby (by simp; omega) ?_)
      intro v7 w7 ho7 hg7 _
      have B7 := (unhide HG) w7 _ hg7
      have hlow7 : ∀ k, k < w.heap.size + 2 → w7.heap[k]? = ((w.alloc (.cells #[.int .i64 (o : Int), .int .i64 arg, .slice (some ⟨g, 0, none⟩) val.length val.length] 54)).alloc (.cells #[.string wd, .int .i64 K, .bool hold, .int .i64 tk, .int .i64 ly, .bool false] 70)).heap[k]? := fun k hk => by
        rw [hg7.block k (by simp; omega) (by simp [Value.ownBlock])]
        exact Below.heap_alloc _ _ _ (by simp; omega)
      clear hg7 HG hown' hone honep hb63 hby
      have fin := hide (show Ic.PlSaid w (Ic.places ⟨(o : Int), arg, val⟩ i) (.returned v7) w7 from ⟨_, rfl, by rw [unhide HPL]; exact ho7, B7⟩)
      have x1 : w7.cell? ⟨w.heap.size + 1, 1, none⟩ = some (.int .i64 K) := by
        have e : w7.cell? ⟨w.heap.size + 1, 1, none⟩ = w2.cell? ⟨w.heap.size + 1, 1, none⟩ := World.cell?_of_heap (by rw [hlow7 _ (by simp), hw2, hw1])
        exact e.trans t1w
      clear ho7 hlow7 hw1 hw2
      go_wp2_with fail
      go_ret
      exact unhide fin
    | true =>
      have HPL := hide (show Ic.places ⟨(o : Int), arg, val⟩ i = [] by rw [unhide HPL0, decide_eq_false hK]; rfl)
      have fin := hide (show Ic.PlSaid w (Ic.places ⟨(o : Int), arg, val⟩ i) (.returned (.slice none 0 0)) w2 from ⟨_, rfl, by rw [unhide HPL]; exact World.ownsRow_nil _ _ _ _, B2⟩)
      clear hK
      go_enter Tryd.func74, Tryd.ntmps74
      go_wp2_with fail
      rw [← hw1, ← hw2]
      go_ret
      exact unhide fin

end Go.Proofs.YtfmljlhcaimafaaDoor
