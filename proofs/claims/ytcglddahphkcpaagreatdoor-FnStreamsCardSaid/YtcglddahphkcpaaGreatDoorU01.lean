/-
  The small functions of chapter 1 over one text and one cell, of the program and of its model: each returns what the plain function of the same question says.
  The laws' own helpers over cells: what they measure, copy and compare, each by its contract.
  laws.toCellS copies a list of cells into a row of its own; laws.eqCell and laws.eqCellS tell whether cells are alike.
  laws.eqCell and laws.eqCellS: cells that are alike are told alike.
  Where a value ends and how deep it is: spec.l1Shape returns the plain function M.walk.
  spec.l1Shape: by induction on how many cells there are behind a place.
  A slice of bytes that came in as an argument.
-/
import Derived.Test.YtcglddahphkcpaaGreatDoorU00
import Derived.Deep.LoopGhost
import Derived.Deep.RegionWith
import Derived.Deep.Slices
import Derived.OpenShut
import Derived.ProofKit
import Derived.Test.YtcglddahphkcpaaGreatDoorRows
import Derived.WalkKit
import Derived.WalkLawsBesides
import Derived.WalkSpells
namespace Go.Proofs.YtcglddahphkcpaaGreatDoor
open Go.RowKit

theorem ret_bool {a b : Bool} (h : a = b) : Ending.returned (.bool a) = .returned (.bool b) := by rw [h]
theorem ret_int {k : IntKind} {a b : Int} (h : a = b) : Ending.returned (.int k a) = .returned (.int k b) := by rw [h]

theorem take_snoc (s : ByteArray) (k : Nat) (h : k < s.size) : s.data.toList.take (k + 1) = s.data.toList.take k ++ [s[k]] := by
  rw [List.take_succ_eq_append_getElem (by simpa using h)]; rfl

theorem all_snoc (s : ByteArray) (k : Nat) (h : k < s.size) : (s.data.toList.take (k + 1)).all M.byteOk = ((s.data.toList.take k).all M.byteOk && M.byteOk s[k]) := by
  rw [take_snoc s k h]; simp

theorem all_stop (s : ByteArray) (k : Nat) (h : k < s.size) (hb : M.byteOk s[k] = false) : M.textOk s = false := by
  have : s.data.toList.all M.byteOk = false := by
    rw [List.all_eq_false]
    refine ⟨s[k], ?_, by simp [hb]⟩
    have hk : k < s.data.toList.length := by simpa using h
    have : s.data.toList[k] = s[k] := rfl
    rw [← this]
    exact List.getElem_mem hk
  simp [M.textOk, this]

theorem all_end (s : ByteArray) (k : Nat) (hk : k = s.size) (hs : s.size ≤ 60) (h : (s.data.toList.take k).all M.byteOk = true) : M.textOk s = true := by
  subst hk
  rw [List.take_of_length_le (by simp)] at h
  simp [M.textOk, hs, h]

theorem long_no (s : ByteArray) (h : 60 < s.size) : M.textOk s = false := by
  simp [M.textOk]; omega

set_option maxHeartbeats 400000 in
/-- spec.l1Text. -/
theorem l1Text_any (s : ByteArray) (w : World) (hs : s.size ≤ 9223372036854775807) :
    Calls Tryz.prog 135 #[.string s] w fun e w' => e = .returned (.bool (M.textOk s)) ∧ w' = w := by
  by_cases hlong : 60 < s.size
  · have hn := hide (long_no s hlong)
    go_enter Tryz.func135, Tryz.ntmps135
    go_wp2
    go_ret
    exact ⟨ret_bool (unhide hn).symm, rfl⟩
  · have h60 : s.size ≤ 60 := by omega
    go_enter Tryz.func135, Tryz.ntmps135
    go_wp2
    go_loop [3] (fun i => ∃ k : Nat, k ≤ s.size ∧ i = .int .i64 k ∧ Hid ((s.data.toList.take k).all M.byteOk = true)) (fun i => s.size - (intOf i).toNat)
    case atStart => exact ⟨0, Nat.zero_le _, rfl, rfl⟩
    case round =>
      obtain ⟨k, hk, rfl, hall⟩ := hrel
      by_cases hlt : k < s.size
      · by_cases h1 : (s[k].toNat : Int) < 32
        · have hn := hide (all_stop s k hlt (by simp [M.byteOk]; omega))
          go_wp2
          go_ret
          exact ⟨ret_bool (unhide hn).symm, rfl⟩
        · by_cases h2 : 126 < (s[k].toNat : Int)
          · have hn := hide (all_stop s k hlt (by simp [M.byteOk]; omega))
            go_wp2
            go_ret
            exact ⟨ret_bool (unhide hn).symm, rfl⟩
          · have hn := hide (all_snoc s k hlt)
            have hb := hide (show M.byteOk s[k] = true by simp [M.byteOk]; omega)
            go_wp2
            go_round
            case rel => exact ⟨k + 1, by omega, by go_num, by show _ = true; rw [unhide hn, hall.out, unhide hb]; rfl⟩
            case measure => simp [intOf]; omega
      · go_wp2
        go_ret
        exact ⟨ret_bool (all_end s k (by omega) h60 hall.out).symm, rfl⟩

set_option maxHeartbeats 400000 in
/-- impl.textFits. -/
theorem textFits_any (s : ByteArray) (w : World) (hs : s.size ≤ 9223372036854775807) :
    Calls Tryz.prog 161 #[.string s] w fun e w' => e = .returned (.bool (M.textOk s)) ∧ w' = w := by
  by_cases hlong : 60 < s.size
  · have hn := hide (long_no s hlong)
    go_enter Tryz.func161, Tryz.ntmps161
    go_wp2
    go_ret
    exact ⟨ret_bool (unhide hn).symm, rfl⟩
  · have h60 : s.size ≤ 60 := by omega
    go_enter Tryz.func161, Tryz.ntmps161
    go_wp2
    go_loop [9] (fun i => ∃ k : Nat, k ≤ s.size ∧ i = .int .i64 k ∧ Hid ((s.data.toList.take k).all M.byteOk = true)) (fun i => s.size - (intOf i).toNat)
    case atStart => exact ⟨0, Nat.zero_le _, rfl, rfl⟩
    case round =>
      obtain ⟨k, hk, rfl, hall⟩ := hrel
      by_cases hlt : k < s.size
      · by_cases h1 : (s[k].toNat : Int) < 32
        · have hn := hide (all_stop s k hlt (by simp [M.byteOk]; omega))
          go_wp2
          go_ret
          exact ⟨ret_bool (unhide hn).symm, rfl⟩
        · by_cases h2 : 126 < (s[k].toNat : Int)
          · have hn := hide (all_stop s k hlt (by simp [M.byteOk]; omega))
            go_wp2
            go_ret
            exact ⟨ret_bool (unhide hn).symm, rfl⟩
          · have hn := hide (all_snoc s k hlt)
            have hb := hide (show M.byteOk s[k] = true by simp [M.byteOk]; omega)
            go_wp2
            go_round
            case rel => exact ⟨k + 1, by omega, by go_num, by show _ = true; rw [unhide hn, hall.out, unhide hb]; rfl⟩
            case measure => simp [intOf]; omega
      · go_wp2
        go_ret
        exact ⟨ret_bool (all_end s k (by omega) h60 hall.out).symm, rfl⟩

end Go.Proofs.YtcglddahphkcpaaGreatDoor

namespace Go.Proofs.YtcglddahphkcpaaGreatDoor
open Go.RowKit
set_option linter.unusedVariables false

end Go.Proofs.YtcglddahphkcpaaGreatDoor

namespace Go.Proofs.YtcglddahphkcpaaGreatDoor
open Go.RowKit
set_option linter.unusedVariables false

theorem Tryz.info111 : (Tryz.prog.info? 111).map (fun i => (i.zero, i.size, i.bytes)) = some (some (.agg #[.int .i64 0, .int .i64 0, .string ByteArray.empty, .string ByteArray.empty, .int .i64 0]), 5, 56) := by kernel_rfl
theorem Tryz.info24 : (Tryz.prog.info? 24).map (fun i => (i.zero, i.size, i.bytes)) = some (some (.slice none 0 0), 1, 24) := by kernel_rfl
theorem Tryz.info9 : (Tryz.prog.info? 9).map (fun i => (i.zero, i.size, i.bytes)) = some (some (.string ByteArray.empty), 1, 16) := by kernel_rfl

/-- What make lays for n cells. -/
def mk5 (n : Nat) : Array Value := madeCells #[.int .i64 0, .int .i64 0, .string ByteArray.empty, .string ByteArray.empty, .int .i64 0] (n * 5)
theorem size_mk5 (n : Nat) : (mk5 n).size = n * 5 := by simp [mk5, size_madeCells]

theorem make_cells (n : Nat) (hn : n ≤ 1048576) (w : World) :
    (Instr.makeSlice 24 (.int .i64 (n : Int)) (.int .i64 (n : Int))).run Tryz.prog w = .ok (.slice (some ⟨w.heap.size, 0, none⟩) n n) (w.alloc (.cells (mk5 n) 111)) := by
  obtain ⟨i, hi, hz⟩ := Option.map_eq_some_iff.1 Tryz.info111
  simp only [Prod.mk.injEq] at hz
  obtain ⟨h1, h2, h3⟩ := hz
  have := run_make (P := Tryz.prog) w 24 111 i _ Tryz.underlying24 hi h1 .i64 .i64 (n : Int) (n : Int) (by omega) (by omega) (by rw [h3]; omega) (by omega)
  rw [this, h2]
  simp only [Int.toNat_natCast]
  rfl

theorem some_of_lt {xs : List Value} {j : Nat} (h : j < xs.length) : ∃ v, xs[j]? = some v := ⟨xs[j], List.getElem?_eq_getElem h⟩

end Go.Proofs.YtcglddahphkcpaaGreatDoor

namespace Go.Proofs.YtcglddahphkcpaaGreatDoor
open Go.RowKit
set_option linter.unusedVariables false

end Go.Proofs.YtcglddahphkcpaaGreatDoor

namespace Go.Proofs.YtcglddahphkcpaaGreatDoor
open Go.RowKit
set_option linter.unusedVariables false

theorem walk_eq (v : List M.Cl) (f at' : Nat) (c : M.Cl) (hc : c = v.getD at' M.zero) : M.walk v (f + 1) at' = (M.kids (M.walk v f) v c c.n.toNat 0 (at' + 1) 0 ByteArray.empty).map fun r => (r.1, r.2 + 1) := by subst hc; rfl

theorem kids_stop (rec : Nat → Option (Nat × Nat)) (v : List M.Cl) (c : M.Cl) (m k e d : Nat) (last : ByteArray) (h : M.bad v c k e last = true) (hm : 0 < m) : M.kids rec v c m k e d last = none := by
  cases m with
  | zero => omega
  | succ m => simp [M.kids, h]
theorem kids_none (rec : Nat → Option (Nat × Nat)) (v : List M.Cl) (c : M.Cl) (m k e d : Nat) (last : ByteArray) (hr : rec e = none) (hm : 0 < m) : M.kids rec v c m k e d last = none := by
  cases m with
  | zero => omega
  | succ m => simp only [M.kids, hr]; split <;> rfl
theorem kids_some (rec : Nat → Option (Nat × Nat)) (v : List M.Cl) (c : M.Cl) (m k e d : Nat) (last : ByteArray) (h : M.bad v c k e last = false) (e' d' : Nat) (hr : rec e = some (e', d')) (hm : 0 < m) :
    M.kids rec v c m k e d last = M.kids rec v c (m - 1) (k + 1) e' (max d d') (v.getD e M.zero).key := by
  cases m with
  | zero => omega
  | succ m => simp [M.kids, h, hr]

/-- What spec.l1Shape answers. -/
def shOut (r : Option (Nat × Nat)) : Value := match r with | none => .tuple #[.int .i64 (-1), .int .i64 0] | some (e, d) => .tuple #[.int .i64 e, .int .i64 d]

theorem sh_none (v : List M.Cl) (f at' : Nat) (c : M.Cl) (K : Option (Nat × Nat)) (h1 : M.walk v (f + 1) at' = (M.kids (M.walk v f) v c c.n.toNat 0 (at' + 1) 0 ByteArray.empty).map fun r => (r.1, r.2 + 1))
    (h2 : M.kids (M.walk v f) v c c.n.toNat 0 (at' + 1) 0 ByteArray.empty = K) (h3 : K = none) : shOut (M.walk v (f + 1) at') = .tuple #[.int .i64 (-1), .int .i64 0] := by rw [h1, h2, h3]; rfl
theorem sh_some (v : List M.Cl) (f at' e d : Nat) (c : M.Cl) (K : Option (Nat × Nat)) (h1 : M.walk v (f + 1) at' = (M.kids (M.walk v f) v c c.n.toNat 0 (at' + 1) 0 ByteArray.empty).map fun r => (r.1, r.2 + 1))
    (h2 : M.kids (M.walk v f) v c c.n.toNat 0 (at' + 1) 0 ByteArray.empty = K) (h3 : K = some (e, d)) : shOut (M.walk v (f + 1) at') = .tuple #[.int .i64 e, .int .i64 ((d : Int) + 1)] := by rw [h1, h2, h3]; rfl

/-- The ways on which a part may not begin. -/
theorem bad_end (v : List M.Cl) (c : M.Cl) (k e : Nat) (last : ByteArray) (h : v.length ≤ e) : M.bad v c k e last = true := by unfold M.bad; rw [if_neg (by omega)]
theorem bad_five (v : List M.Cl) (c ce : M.Cl) (k e : Nat) (last : ByteArray) (hlt : e < v.length) (hce : ce = v.getD e M.zero) (h5 : c.kind = 5) (hk : ce.key.toList ≠ []) : M.bad v c k e last = true := by
  subst hce; unfold M.bad; rw [if_pos hlt, decide_eq_true h5, decide_eq_true hk]; rfl
theorem bad_six (v : List M.Cl) (c ce : M.Cl) (k e : Nat) (last : ByteArray) (hlt : e < v.length) (hce : ce = v.getD e M.zero) (h6 : c.kind = 6) (hk : 0 < k) (hle : M.keyLe ce.key last = true) : M.bad v c k e last = true := by
  subst hce; unfold M.bad; rw [if_pos hlt, decide_eq_true h6, decide_eq_true hk, hle]; simp
theorem good_of (v : List M.Cl) (c ce : M.Cl) (k e : Nat) (last : ByteArray) (hlt : e < v.length) (hce : ce = v.getD e M.zero) (h5 : c.kind = 5 → ce.key.toList = []) (h6 : c.kind = 6 → 0 < k → M.keyLe ce.key last = false) : M.bad v c k e last = false := by
  subst hce; unfold M.bad; rw [if_pos hlt]
  simp only [Bool.or_eq_false_iff, Bool.and_eq_false_iff, decide_eq_false_iff_not]
  constructor
  · by_cases h : c.kind = 5
    · exact .inr (fun g => g (h5 h))
    · exact .inl h
  · by_cases h : c.kind = 6
    · by_cases g : 0 < k
      · exact .inr (h6 h g)
      · exact .inl (.inr g)
    · exact .inl (.inl h)

/-- One round, decided: what it comes to. -/
theorem round_cases (v : List M.Cl) (c ce : M.Cl) (k e : Nat) (last : ByteArray) (hlt : e < v.length) (hce : ce = v.getD e M.zero) (P : Prop)
    (b5 : (c.kind == 5) = true → ce.key.toList ≠ [] → M.bad v c k e last = true → P)
    (b6 : (c.kind == 5) = false → (c.kind == 6) = true → 0 < k → (Op.bytesLess ce.key.toList last.toList || (ce.key.toList == last.toList)) = true → M.bad v c k e last = true → P)
    (g5 : (c.kind == 5) = true → (c.kind == 6) = false → ce.key.toList = [] → M.bad v c k e last = false → P)
    (g6 : (c.kind == 5) = false → (c.kind == 6) = true → ¬ 0 < k → M.bad v c k e last = false → P)
    (g6' : (c.kind == 5) = false → (c.kind == 6) = true → 0 < k → (Op.bytesLess ce.key.toList last.toList || (ce.key.toList == last.toList)) = false → M.bad v c k e last = false → P)
    (g0 : (c.kind == 5) = false → (c.kind == 6) = false → M.bad v c k e last = false → P) : P := by
  by_cases h5 : c.kind = 5
  · have n6 : ¬ c.kind = 6 := by omega
    by_cases hk : ce.key.toList = []
    · exact g5 (by simp [h5]) (by simp [n6]) hk (good_of v c ce k e last hlt hce (fun _ => hk) (fun h => absurd h n6))
    · exact b5 (by simp [h5]) hk (bad_five v c ce k e last hlt hce h5 hk)
  · by_cases h6 : c.kind = 6
    · by_cases h0 : 0 < k
      · cases hle : M.keyLe ce.key last
        · exact g6' (by simp [h5]) (by simp [h6]) h0 hle (good_of v c ce k e last hlt hce (fun h => absurd h h5) (fun _ _ => hle))
        · exact b6 (by simp [h5]) (by simp [h6]) h0 hle (bad_six v c ce k e last hlt hce h6 h0 hle)
      · exact g6 (by simp [h5]) (by simp [h6]) h0 (good_of v c ce k e last hlt hce (fun h => absurd h h5) (fun _ h => absurd h h0))
    · exact g0 (by simp [h5]) (by simp [h6]) (good_of v c ce k e last hlt hce (fun h => absurd h h5) (fun h => absurd h h6))

end Go.Proofs.YtcglddahphkcpaaGreatDoor

namespace Go.Proofs.YtcglddahphkcpaaGreatDoor
open Go.RowKit
set_option linter.unusedVariables false

/-- What is promised of spec.l1Shape with f cells at most. -/
def L1ShapeSays (v : List M.Cl) (b off cap f : Nat) : Prop := ∀ (at' : Nat) (depth : Int) (w : World), v.length ≤ at' + f → at' < v.length → 0 ≤ depth → depth ≤ at' → Row w b off v → b < w.heap.size →
      Calls Tryz.prog 106 #[.slice (some ⟨b, off, none⟩) v.length cap, .int .i64 at', .int .i64 depth] w fun e w' => e = .returned (shOut (M.walk v f at')) ∧ Below w.heap.size w w'

set_option maxRecDepth 100000 in
set_option maxHeartbeats 4000000 in
theorem l1Shape_step (v : List M.Cl) (b off cap f : Nat) (IH : Hid (L1ShapeSays v b off cap f)) (hf2 : f ≤ 200) (hlen : v.length ≤ 200) (hcap : v.length ≤ cap) (hok : ∀ c ∈ v, c.ok) : L1ShapeSays v b off cap (f + 1) := by
  intro at' depth w hf hat hd0 hd hrow hb
  obtain ⟨c, hc⟩ : ∃ c, c = v.getD at' M.zero := ⟨_, rfl⟩
  obtain ⟨f0, f1, f2, f3, f4⟩ := hrow at' hat
  have hcok := hok _ (getD_mem v at' hat)
  rw [← hc] at f0 f1 f2 f3 f4 hcok
  obtain ⟨⟨k0, k1⟩, ⟨q0, q1⟩, ⟨n0, n1⟩, _, _⟩ := hcok
  have W := hide (walk_eq v f at' c hc)
  clear hc
  have OK := hide hok
  clear hok
  have d1 : decide (v.length ≤ at') = false := by simp; omega
  have d2 : decide ((200 : Int) < depth) = false := by simp; omega
  go_enter Tryz.func106, Tryz.ntmps106
  go_wp2_with fail
  go_loopg [9, 10, 11, 12] c.n.toNat (fun g s9 s10 s11 s12 wr => ∃ (k e d : Nat) (last : ByteArray), Hid (g = c.n.toNat - k) ∧ s12 = .int .i64 k ∧ s10 = .int .i64 e ∧ s9 = .int .i64 d ∧ s11 = .string last ∧ k ≤ c.n.toNat ∧ at' + 1 ≤ e ∧ e ≤ v.length ∧ d ≤ 200 ∧
      Hid (M.kids (M.walk v f) v c c.n.toNat 0 (at' + 1) 0 ByteArray.empty = M.kids (M.walk v f) v c (c.n.toNat - k) k e d last) ∧
      Own wr w.heap.size 111 [.int .i64 c.kind, .int .i64 c.num, .string c.text, .string c.key, .int .i64 c.n] ∧ Below w.heap.size w wr)
  case atStart => exact ⟨0, at' + 1, 0, ByteArray.empty, rfl, rfl, by go_num, rfl, rfl, by omega, by omega, by omega, by omega, rfl, ⟨_, heap_alloc_new _ _, rfl⟩, (Below.refl _ _).alloc (Nat.le_refl _) _⟩
  case round =>
    obtain ⟨k, e, d, last, hg, rfl, rfl, rfl, rfl, hk, he1, he2, hd2, hkids, hown, hbel⟩ := hrel
    have o0 := hown.cell 0
    have o4 := hown.cell 4
    simp only [List.getElem?_cons_zero, List.getElem?_cons_succ] at o0 o4
    have hr := hrow.below hbel hb
    have hbr : b < wr.heap.size := Nat.lt_of_lt_of_le hb hbel.size
    clear f0 f1 f2 f3 f4
    by_cases hkn : (k : Int) < c.n
    · by_cases hlt : e < v.length
      · obtain ⟨ce, hce⟩ : ∃ ce, ce = v.getD e M.zero := ⟨_, rfl⟩
        obtain ⟨g0, g1, g2, g3, g4⟩ := hr e hlt
        rw [← hce] at g0 g1 g2 g3 g4
        clear g0 g1 g2 g4
        refine round_cases v c ce k e last hlt hce _ ?_ ?_ ?_ ?_ ?_ ?_
        · intro t5 tk hbad
          have fin := hide (sh_none v f at' c _ (unhide W) hkids.out (kids_stop _ v c _ k e d last hbad (by omega)))
          clear hbad hce
          go_wp2_with fail
          go_ret2
          exact ⟨(congrArg Ending.returned (unhide fin)).symm, hbel⟩
        · intro t5 t6 tk tle hbad
          have fin := hide (sh_none v f at' c _ (unhide W) hkids.out (kids_stop _ v c _ k e d last hbad (by omega)))
          clear hbad hce
          go_wp2_with fail
          go_ret2
          exact ⟨(congrArg Ending.returned (unhide fin)).symm, hbel⟩
        · intro t5 t6 tk hgood
          have hgd := hide hgood
          clear hgood
          have HCE := hide hce
          clear hce
          go_wp2_with fail
          refine ((unhide IH) e (depth + 1) _ ?_ ?_ ?_ ?_ ?_ ?_).mono ?_
          · omega
          · exact hlt
          · omega
          · omega
          · exact hr
          · exact hbr
          rintro e1 w1 ⟨rfl, hb1⟩
          have hown1 := hown.below hb1 hown.lt
          have hb2 : Below w.heap.size w w1 := hbel.trans (hb1.mono hbel.size)
          have hbd := M.walk_bd v f e hlt
          generalize hres : M.walk v f e = res at *
          cases res with
          | none =>
            have fin := hide (sh_none v f at' c _ (unhide W) hkids.out (kids_none _ v c _ k e d last hres (by omega)))
            clear hres hbd
            simp only [shOut]
            go_wp2_with fail
            go_ret2
            exact ⟨(congrArg Ending.returned (unhide fin)).symm, hb2⟩
          | some r =>
            obtain ⟨e', d'⟩ := r
            have hb3 := hbd _ rfl
            simp only at hb3
            obtain ⟨hb4, hb5, hb6⟩ := hb3
            have nxt := hide (hkids.out.trans (kids_some _ v c _ k e d last (unhide hgd) e' d' hres (by omega)))
            clear hres hbd
            simp only [shOut]
            by_cases hdd : d < d'
            · go_wp2_with fail
              go_roundg (c.n.toNat - (k + 1))
              case rel => exact ⟨k + 1, e', d', ce.key, rfl, by go_num, rfl, rfl, rfl, by omega, by omega, by omega, by omega, (by have h := unhide nxt; rw [Nat.max_eq_right (by omega), ← unhide HCE] at h; exact h), hown1, hb2⟩
              case measure => have := hg.out; omega
            · go_wp2_with fail
              go_roundg (c.n.toNat - (k + 1))
              case rel => exact ⟨k + 1, e', d, ce.key, rfl, by go_num, rfl, rfl, rfl, by omega, by omega, by omega, by omega, (by have h := unhide nxt; rw [Nat.max_eq_left (by omega), ← unhide HCE] at h; exact h), hown1, hb2⟩
              case measure => have := hg.out; omega
        · intro t5 t6 tk hgood
          have hgd := hide hgood
          clear hgood
          have HCE := hide hce
          clear hce
          go_wp2_with fail
          refine ((unhide IH) e (depth + 1) _ ?_ ?_ ?_ ?_ ?_ ?_).mono ?_
          · omega
          · exact hlt
          · omega
          · omega
          · exact hr
          · exact hbr
          rintro e1 w1 ⟨rfl, hb1⟩
          have hown1 := hown.below hb1 hown.lt
          have hb2 : Below w.heap.size w w1 := hbel.trans (hb1.mono hbel.size)
          have hbd := M.walk_bd v f e hlt
          generalize hres : M.walk v f e = res at *
          cases res with
          | none =>
            have fin := hide (sh_none v f at' c _ (unhide W) hkids.out (kids_none _ v c _ k e d last hres (by omega)))
            clear hres hbd
            simp only [shOut]
            go_wp2_with fail
            go_ret2
            exact ⟨(congrArg Ending.returned (unhide fin)).symm, hb2⟩
          | some r =>
            obtain ⟨e', d'⟩ := r
            have hb3 := hbd _ rfl
            simp only at hb3
            obtain ⟨hb4, hb5, hb6⟩ := hb3
            have nxt := hide (hkids.out.trans (kids_some _ v c _ k e d last (unhide hgd) e' d' hres (by omega)))
            clear hres hbd
            simp only [shOut]
            by_cases hdd : d < d'
            · go_wp2_with fail
              go_roundg (c.n.toNat - (k + 1))
              case rel => exact ⟨k + 1, e', d', ce.key, rfl, by go_num, rfl, rfl, rfl, by omega, by omega, by omega, by omega, (by have h := unhide nxt; rw [Nat.max_eq_right (by omega), ← unhide HCE] at h; exact h), hown1, hb2⟩
              case measure => have := hg.out; omega
            · go_wp2_with fail
              go_roundg (c.n.toNat - (k + 1))
              case rel => exact ⟨k + 1, e', d, ce.key, rfl, by go_num, rfl, rfl, rfl, by omega, by omega, by omega, by omega, (by have h := unhide nxt; rw [Nat.max_eq_left (by omega), ← unhide HCE] at h; exact h), hown1, hb2⟩
              case measure => have := hg.out; omega
        · intro t5 t6 tk tle hgood
          have hgd := hide hgood
          clear hgood
          have HCE := hide hce
          clear hce
          go_wp2_with fail
          refine ((unhide IH) e (depth + 1) _ ?_ ?_ ?_ ?_ ?_ ?_).mono ?_
          · omega
          · exact hlt
          · omega
          · omega
          · exact hr
          · exact hbr
          rintro e1 w1 ⟨rfl, hb1⟩
          have hown1 := hown.below hb1 hown.lt
          have hb2 : Below w.heap.size w w1 := hbel.trans (hb1.mono hbel.size)
          have hbd := M.walk_bd v f e hlt
          generalize hres : M.walk v f e = res at *
          cases res with
          | none =>
            have fin := hide (sh_none v f at' c _ (unhide W) hkids.out (kids_none _ v c _ k e d last hres (by omega)))
            clear hres hbd
            simp only [shOut]
            go_wp2_with fail
            go_ret2
            exact ⟨(congrArg Ending.returned (unhide fin)).symm, hb2⟩
          | some r =>
            obtain ⟨e', d'⟩ := r
            have hb3 := hbd _ rfl
            simp only at hb3
            obtain ⟨hb4, hb5, hb6⟩ := hb3
            have nxt := hide (hkids.out.trans (kids_some _ v c _ k e d last (unhide hgd) e' d' hres (by omega)))
            clear hres hbd
            simp only [shOut]
            by_cases hdd : d < d'
            · go_wp2_with fail
              go_roundg (c.n.toNat - (k + 1))
              case rel => exact ⟨k + 1, e', d', ce.key, rfl, by go_num, rfl, rfl, rfl, by omega, by omega, by omega, by omega, (by have h := unhide nxt; rw [Nat.max_eq_right (by omega), ← unhide HCE] at h; exact h), hown1, hb2⟩
              case measure => have := hg.out; omega
            · go_wp2_with fail
              go_roundg (c.n.toNat - (k + 1))
              case rel => exact ⟨k + 1, e', d, ce.key, rfl, by go_num, rfl, rfl, rfl, by omega, by omega, by omega, by omega, (by have h := unhide nxt; rw [Nat.max_eq_left (by omega), ← unhide HCE] at h; exact h), hown1, hb2⟩
              case measure => have := hg.out; omega
        · intro t5 t6 hgood
          have hgd := hide hgood
          clear hgood
          have HCE := hide hce
          clear hce
          go_wp2_with fail
          refine ((unhide IH) e (depth + 1) _ ?_ ?_ ?_ ?_ ?_ ?_).mono ?_
          · omega
          · exact hlt
          · omega
          · omega
          · exact hr
          · exact hbr
          rintro e1 w1 ⟨rfl, hb1⟩
          have hown1 := hown.below hb1 hown.lt
          have hb2 : Below w.heap.size w w1 := hbel.trans (hb1.mono hbel.size)
          have hbd := M.walk_bd v f e hlt
          generalize hres : M.walk v f e = res at *
          cases res with
          | none =>
            have fin := hide (sh_none v f at' c _ (unhide W) hkids.out (kids_none _ v c _ k e d last hres (by omega)))
            clear hres hbd
            simp only [shOut]
            go_wp2_with fail
            go_ret2
            exact ⟨(congrArg Ending.returned (unhide fin)).symm, hb2⟩
          | some r =>
            obtain ⟨e', d'⟩ := r
            have hb3 := hbd _ rfl
            simp only at hb3
            obtain ⟨hb4, hb5, hb6⟩ := hb3
            have nxt := hide (hkids.out.trans (kids_some _ v c _ k e d last (unhide hgd) e' d' hres (by omega)))
            clear hres hbd
            simp only [shOut]
            by_cases hdd : d < d'
            · go_wp2_with fail
              go_roundg (c.n.toNat - (k + 1))
              case rel => exact ⟨k + 1, e', d', ce.key, rfl, by go_num, rfl, rfl, rfl, by omega, by omega, by omega, by omega, (by have h := unhide nxt; rw [Nat.max_eq_right (by omega), ← unhide HCE] at h; exact h), hown1, hb2⟩
              case measure => have := hg.out; omega
            · go_wp2_with fail
              go_roundg (c.n.toNat - (k + 1))
              case rel => exact ⟨k + 1, e', d, ce.key, rfl, by go_num, rfl, rfl, rfl, by omega, by omega, by omega, by omega, (by have h := unhide nxt; rw [Nat.max_eq_left (by omega), ← unhide HCE] at h; exact h), hown1, hb2⟩
              case measure => have := hg.out; omega
      · have fin := hide (sh_none v f at' c _ (unhide W) hkids.out (kids_stop _ v c _ k e d last (bad_end v c k e last (by omega)) (by omega)))
        go_wp2_with fail
        go_ret2
        exact ⟨(congrArg Ending.returned (unhide fin)).symm, hbel⟩
    · have hz : c.n.toNat - k = 0 := by omega
      have fin := hide (sh_some v f at' e d c _ (unhide W) hkids.out (by rw [hz]; rfl))
      clear hz
      go_wp2_with fail
      go_ret2
      exact ⟨(congrArg Ending.returned (unhide fin)).symm, hbel⟩

theorem l1Shape_any (v : List M.Cl) (b off cap : Nat) (hlen : v.length ≤ 200) (hcap : v.length ≤ cap) (hok : ∀ c ∈ v, c.ok) (f : Nat) (hf : f ≤ 201) : L1ShapeSays v b off cap f := by
  induction f with
  | zero => intro at' depth w h1 h2; omega
  | succ f ih => exact l1Shape_step v b off cap f (ih (by omega)) (by omega) hlen hcap hok

end Go.Proofs.YtcglddahphkcpaaGreatDoor

namespace Go.Proofs.YtcglddahphkcpaaGreatDoor
open Go.RowKit Go.ChangeShapes Go.WideShapes
set_option linter.unusedVariables false
set_option linter.unusedSimpArgs false

/-- What the walks are told of a slice of bytes. -/
def Byts (w : World) (a : Option Addr) (len cap : Nat) : Prop := len ≤ cap ∧ ∀ i, i < len → ∃ b off c : Nat, a = some ⟨b, off, none⟩ ∧ b < w.heap.size ∧ c ≤ 255 ∧ w.cell? ⟨b, off + i, none⟩ = some (.int .u8 (c : Int))
theorem cellsU8 : Tryz.prog.cellsOf 5 = 1 := by kernel_rfl
theorem bounds_u8 {n : Int} (h : (Lit.int .u8 n).wf = true) : 0 ≤ n ∧ n ≤ 255 := by
  simp [Lit.wf, IntKind.min, IntKind.max, IntKind.signed, IntKind.bits] at h
  omega
section
variable {H : Type} {enc : TypeId × Value → H} {w : World} {base : Nat} {spare : Nat → Bool} {held : Bool}
theorem open_byts {a : Option Addr} {len cap fuel : Nat} {x : DataW H × List MemPlace} (h : DataW.trod enc Tryz.prog w base spare held fuel 37 [.slice a len cap] = some x) : Byts w a len cap := by
  rcases Go.Deep.open_slice Tryz.underlying37 h with ⟨hcs, _⟩ | ⟨ad, len', cap', m, n, D, Pl, hcs, _, hl, hm, hmm, hx, hel⟩
  · simp only [List.cons.injEq, Value.slice.injEq, and_true] at hcs
    obtain ⟨rfl, rfl, rfl⟩ := hcs
    exact ⟨by omega, fun i hi => absurd hi (by omega)⟩
  · simp only [List.cons.injEq, Value.slice.injEq, and_true] at hcs
    obtain ⟨rfl, rfl, rfl⟩ := hcs
    rw [cellsU8] at hel
    have hlm : len ≤ m := by rw [hmm]; split <;> omega
    refine ⟨by simpa using hl, fun i hi => ?_⟩
    obtain ⟨cs', h1, h2⟩ := hel i (by omega)
    obtain ⟨c, e, _, hw⟩ := DataW.trod_int Tryz.underlying5 h2
    subst e
    have hb := bounds_u8 hw
    obtain ⟨b, off, spot⟩ := ad
    have c0 := (World.cells?_some h1).2.2 0 (by omega)
    have hs : spot = none := by
      obtain ⟨cs0, g1, g2⟩ := hel 0 (by omega)
      obtain ⟨c', e', _, _⟩ := DataW.trod_int Tryz.underlying5 g2
      subst e'
      have := World.cell?_spot (((World.cells?_some g1).2.2 0 (by omega)).trans rfl)
      simpa [Addr.add] using this
    subst hs
    have hblk : b < w.heap.size := by
      have := block_lt_of_cell (c0.trans rfl)
      rw [add_plain, add_plain] at this
      exact this
    simp only [add_plain] at c0
    refine ⟨b, off, c.toNat, rfl, hblk, by omega, ?_⟩
    rw [show ((c.toNat : Nat) : Int) = c from Int.toNat_of_nonneg hb.1]
    simpa using c0
end
theorem lwBig_any (a : Option Addr) (len cap : Nat) (w : World) : Calls Tryz.prog 18 #[.slice a len cap] w fun e w' => e = .returned (.bool (decide (1048576 < len))) ∧ w' = w := by
  have hd := hide (show decide ((1048576 : Int) < (len : Int)) = decide (1048576 < len) by rw [decide_eq_decide]; omega)
  go_enter Tryz.func18, Tryz.ntmps18
  go_wp2_with fail
  all_goals (go_ret; exact ⟨ret_bool (by first | exact unhide hd | (simp [*] <;> omega)), rfl⟩)

end Go.Proofs.YtcglddahphkcpaaGreatDoor
