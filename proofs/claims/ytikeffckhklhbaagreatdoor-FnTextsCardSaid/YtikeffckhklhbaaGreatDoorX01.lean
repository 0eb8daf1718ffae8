/-
  The small functions of chapter 1 over one text and one cell, of the program and of its model: each returns what the plain function of the same question says.
  The laws' own helpers over cells: what they measure, copy and compare, each by its contract.
  laws.toCellS copies a list of cells into a row of its own; laws.eqCell and laws.eqCellS tell whether cells are alike.
  laws.eqCell and laws.eqCellS: cells that are alike are told alike.
  The laws' marks: laws.markText, laws.markCellS write told numbers into a row of the call's own; laws.heldCellS finds them there.
  laws.markCellS writes told numbers into a row of the call's own, and laws.heldCellS finds them there.
  laws.heldCellS finds the told numbers in a row that holds them.
  An answer that holds a list of cells: what it is that it lies in memory of its own, and what the laws' helpers find, mark and find again in it.
  Where a value ends and how deep it is: spec.l1Shape returns the plain function M.walk.
  A slice of cells that came in as an argument, opened: the list of its cells, which lie in memory one behind the other.
  The laws' helpers over a slice of cells that came in, whatever it is: nil, empty or with cells.
-/
import Derived.Test.YtikeffckhklhbaaGreatDoorX00
import Derived.Deep.LoopGhost
import Derived.Deep.RegionWith
import Derived.Deep.Slices
import Derived.Laws.IdiomStrings
import Derived.OpenShut
import Derived.ProofKit
import Derived.Test.YtikeffckhklhbaaGreatDoorRows
import Derived.WalkKit
import Derived.WalkLawsBesides
import Derived.WalkSpells
namespace Go.Proofs.YtikeffckhklhbaaGreatDoor
open Go.RowKit

theorem ret_bool {a b : Bool} (h : a = b) : Ending.returned (.bool a) = .returned (.bool b) := by rw [h]
theorem ret_int {k : IntKind} {a b : Int} (h : a = b) : Ending.returned (.int k a) = .returned (.int k b) := by rw [h]

theorem take_snoc (s : ByteArray) (k : Nat) (h : k < s.size) : s.data.toList.take (k + 1) = s.data.toList.take k ++ [s[k]] := by
  rw [List.take_succ_eq_append_getElem (by simpa using h)]; rfl

theorem all_snoc (s : ByteArray) (k : Nat) (h : k < s.size) : (s.data.toList.take (k + 1)).all M.byteOk = ((s.data.toList.take k).all M.byteOk && M.byteOk s[k]) := by
  rw [take_snoc s k h]; simp

theorem all_stop (s : ByteArray) (k : Nat) (h : k < s.size) (hb : M.byteOk s[k] = false) : M.textOk s = false := by
  have : s.data.toList.all M.byteOk = false := by
    rw [List.all_eq_false]
    refine ⟨s[k], ?_, by simp [hb]⟩
    have hk : k < s.data.toList.length := by simpa using h
    have : s.data.toList[k] = s[k] := rfl
    rw [← this]
    exact List.getElem_mem hk
  simp [M.textOk, this]

theorem all_end (s : ByteArray) (k : Nat) (hk : k = s.size) (hs : s.size ≤ 60) (h : (s.data.toList.take k).all M.byteOk = true) : M.textOk s = true := by
  subst hk
  rw [List.take_of_length_le (by simp)] at h
  simp [M.textOk, hs, h]

theorem long_no (s : ByteArray) (h : 60 < s.size) : M.textOk s = false := by
  simp [M.textOk]; omega

set_option maxHeartbeats 400000 in
/-- spec.l1Text. -/
theorem l1Text_any (s : ByteArray) (w : World) (hs : s.size ≤ 9223372036854775807) :
    Calls Tryz.prog 36 #[.string s] w fun e w' => e = .returned (.bool (M.textOk s)) ∧ w' = w := by
  by_cases hlong : 60 < s.size
  · have hn := hide (long_no s hlong)
    go_enter Tryz.func36, Tryz.ntmps36
    go_wp2
    go_ret
    exact ⟨ret_bool (unhide hn).symm, rfl⟩
  · have h60 : s.size ≤ 60 := by omega
    go_enter Tryz.func36, Tryz.ntmps36
    go_wp2
    go_loop [3] (fun i => ∃ k : Nat, k ≤ s.size ∧ i = .int .i64 k ∧ Hid ((s.data.toList.take k).all M.byteOk = true)) (fun i => s.size - (intOf i).toNat)
    case atStart => exact ⟨0, Nat.zero_le _, rfl, rfl⟩
    case round =>
      obtain ⟨k, hk, rfl, hall⟩ := hrel
      by_cases hlt : k < s.size
      · by_cases h1 : (s[k].toNat : Int) < 32
        · have hn := hide (all_stop s k hlt (by simp [M.byteOk]; omega))
          go_wp2
          go_ret
          exact ⟨ret_bool (unhide hn).symm, rfl⟩
        · by_cases h2 : 126 < (s[k].toNat : Int)
          · have hn := hide (all_stop s k hlt (by simp [M.byteOk]; omega))
            go_wp2
            go_ret
            exact ⟨ret_bool (unhide hn).symm, rfl⟩
          · have hn := hide (all_snoc s k hlt)
            have hb := hide (show M.byteOk s[k] = true by simp [M.byteOk]; omega)
            go_wp2
            go_round
            case rel => exact ⟨k + 1, by omega, by go_num, by show _ = true; rw [unhide hn, hall.out, unhide hb]; rfl⟩
            case measure => simp [intOf]; omega
      · go_wp2
        go_ret
        exact ⟨ret_bool (all_end s k (by omega) h60 hall.out).symm, rfl⟩

set_option maxHeartbeats 400000 in
/-- impl.textFits. -/
theorem textFits_any (s : ByteArray) (w : World) (hs : s.size ≤ 9223372036854775807) :
    Calls Tryz.prog 59 #[.string s] w fun e w' => e = .returned (.bool (M.textOk s)) ∧ w' = w := by
  by_cases hlong : 60 < s.size
  · have hn := hide (long_no s hlong)
    go_enter Tryz.func59, Tryz.ntmps59
    go_wp2
    go_ret
    exact ⟨ret_bool (unhide hn).symm, rfl⟩
  · have h60 : s.size ≤ 60 := by omega
    go_enter Tryz.func59, Tryz.ntmps59
    go_wp2
    go_loop [9] (fun i => ∃ k : Nat, k ≤ s.size ∧ i = .int .i64 k ∧ Hid ((s.data.toList.take k).all M.byteOk = true)) (fun i => s.size - (intOf i).toNat)
    case atStart => exact ⟨0, Nat.zero_le _, rfl, rfl⟩
    case round =>
      obtain ⟨k, hk, rfl, hall⟩ := hrel
      by_cases hlt : k < s.size
      · by_cases h1 : (s[k].toNat : Int) < 32
        · have hn := hide (all_stop s k hlt (by simp [M.byteOk]; omega))
          go_wp2
          go_ret
          exact ⟨ret_bool (unhide hn).symm, rfl⟩
        · by_cases h2 : 126 < (s[k].toNat : Int)
          · have hn := hide (all_stop s k hlt (by simp [M.byteOk]; omega))
            go_wp2
            go_ret
            exact ⟨ret_bool (unhide hn).symm, rfl⟩
          · have hn := hide (all_snoc s k hlt)
            have hb := hide (show M.byteOk s[k] = true by simp [M.byteOk]; omega)
            go_wp2
            go_round
            case rel => exact ⟨k + 1, by omega, by go_num, by show _ = true; rw [unhide hn, hall.out, unhide hb]; rfl⟩
            case measure => simp [intOf]; omega
      · go_wp2
        go_ret
        exact ⟨ret_bool (all_end s k (by omega) h60 hall.out).symm, rfl⟩

end Go.Proofs.YtikeffckhklhbaaGreatDoor

namespace Go.Proofs.YtikeffckhklhbaaGreatDoor
open Go.RowKit
set_option linter.unusedVariables false

end Go.Proofs.YtikeffckhklhbaaGreatDoor

namespace Go.Proofs.YtikeffckhklhbaaGreatDoor
open Go.RowKit
set_option linter.unusedVariables false

theorem Tryz.info41 : (Tryz.prog.info? 41).map (fun i => (i.zero, i.size, i.bytes)) = some (some (.agg #[.int .i64 0, .int .i64 0, .string ByteArray.empty, .string ByteArray.empty, .int .i64 0]), 5, 56) := by kernel_rfl
theorem Tryz.info24 : (Tryz.prog.info? 24).map (fun i => (i.zero, i.size, i.bytes)) = some (some (.slice none 0 0), 1, 24) := by kernel_rfl
theorem Tryz.info9 : (Tryz.prog.info? 9).map (fun i => (i.zero, i.size, i.bytes)) = some (some (.string ByteArray.empty), 1, 16) := by kernel_rfl

/-- What make lays for n cells. -/
def mk5 (n : Nat) : Array Value := madeCells #[.int .i64 0, .int .i64 0, .string ByteArray.empty, .string ByteArray.empty, .int .i64 0] (n * 5)
theorem size_mk5 (n : Nat) : (mk5 n).size = n * 5 := by simp [mk5, size_madeCells]

theorem make_cells (n : Nat) (hn : n ≤ 1048576) (w : World) :
    (Instr.makeSlice 24 (.int .i64 (n : Int)) (.int .i64 (n : Int))).run Tryz.prog w = .ok (.slice (some ⟨w.heap.size, 0, none⟩) n n) (w.alloc (.cells (mk5 n) 41)) := by
  obtain ⟨i, hi, hz⟩ := Option.map_eq_some_iff.1 Tryz.info41
  simp only [Prod.mk.injEq] at hz
  obtain ⟨h1, h2, h3⟩ := hz
  have := run_make (P := Tryz.prog) w 24 41 i _ Tryz.underlying24 hi h1 .i64 .i64 (n : Int) (n : Int) (by omega) (by omega) (by rw [h3]; omega) (by omega)
  rw [this, h2]
  simp only [Int.toNat_natCast]
  rfl

theorem some_of_lt {xs : List Value} {j : Nat} (h : j < xs.length) : ∃ v, xs[j]? = some v := ⟨xs[j], List.getElem?_eq_getElem h⟩

end Go.Proofs.YtikeffckhklhbaaGreatDoor

namespace Go.Proofs.YtikeffckhklhbaaGreatDoor
open Go.RowKit
set_option linter.unusedVariables false

end Go.Proofs.YtikeffckhklhbaaGreatDoor

namespace Go.Proofs.YtikeffckhklhbaaGreatDoor
open Go.RowKit
set_option linter.unusedVariables false

end Go.Proofs.YtikeffckhklhbaaGreatDoor

namespace Go.Proofs.YtikeffckhklhbaaGreatDoor
open Go.RowKit
set_option linter.unusedVariables false

/-- Below block number B all but block b is as it was. -/
structure But (B b : Nat) (w w' : World) : Prop where
  os : w'.os = w.os
  tape : w'.tape = w.tape
  output : w'.output = w.output
  size : w.heap.size ≤ w'.heap.size
  block : ∀ k, k < B → k ≠ b → w'.heap[k]? = w.heap[k]?

theorem But.refl (B b : Nat) (w : World) : But B b w w := ⟨rfl, rfl, rfl, Nat.le_refl _, fun _ _ _ => rfl⟩
theorem But.trans {B b : Nat} {u v w : World} (h : But B b u v) (k : But B b v w) : But B b u w :=
  ⟨k.os.trans h.os, k.tape.trans h.tape, k.output.trans h.output, Nat.le_trans h.size k.size, fun i h1 h2 => (k.block i h1 h2).trans (h.block i h1 h2)⟩
theorem But.ofBelow {B b : Nat} {w w' : World} (h : Below B w w') : But B b w w' := ⟨h.os, h.tape, h.output, h.size, fun k hk _ => h.block k hk⟩
theorem But.set (B b j : Nat) (w : World) (u : Value) : But B b w (w.setCell ⟨b, j, none⟩ u) :=
  ⟨rfl, rfl, rfl, by simp [World.setCell], fun k _ hk => Below.heap_setCell _ _ _ _ (by simpa using hk)⟩
theorem But.below {B B' b : Nat} {w w' : World} (h : But B b w w') (h1 : B' ≤ B) (h2 : B' ≤ b) : Below B' w w' :=
  ⟨h.os, h.tape, h.output, h.size, fun k hk => h.block k (by omega) (by omega)⟩
theorem But.mono {B B' b : Nat} {w w' : World} (h : But B b w w') (h1 : B' ≤ B) : But B' b w w' := ⟨h.os, h.tape, h.output, h.size, fun k hk hn => h.block k (by omega) hn⟩
/-- As Words, where the row may be longer. -/
def WordsG (xs : List Value) (l : List M.Cl) (k : Nat) : Prop :=
  l.length * 5 ≤ xs.length ∧ ∀ i, i < k → xs[i * 5]? = some (.int .i64 (l.getD i M.zero).kind) ∧ xs[i * 5 + 1]? = some (.int .i64 (l.getD i M.zero).num) ∧ xs[i * 5 + 2]? = some (.string (l.getD i M.zero).text) ∧ xs[i * 5 + 3]? = some (.string (l.getD i M.zero).key) ∧ xs[i * 5 + 4]? = some (.int .i64 (l.getD i M.zero).n)

/-- A row of the call's own that begins with the cells of l. -/
def OwnG (w : World) (b : Nat) (t : TypeId) (l : List M.Cl) : Prop := ∃ xs, Own w b t xs ∧ WordsG xs l l.length
theorem OwnG.row {w : World} {b : Nat} {t : TypeId} {l : List M.Cl} (h : OwnG w b t l) : Row w b 0 l := by
  obtain ⟨xs, ho, _, hw⟩ := h
  intro i hi
  obtain ⟨h0, h1, h2, h3, h4⟩ := hw i hi
  simp only [Nat.zero_add]
  exact ⟨(ho.cell _).trans h0, (ho.cell _).trans h1, (ho.cell _).trans h2, (ho.cell _).trans h3, (ho.cell _).trans h4⟩
theorem OwnG.lt {w : World} {b : Nat} {t : TypeId} {l : List M.Cl} (h : OwnG w b t l) : b < w.heap.size := by obtain ⟨xs, ho, _⟩ := h; exact ho.lt
theorem OwnG.below {B : Nat} {w w' : World} {b : Nat} {t : TypeId} {l : List M.Cl} (h : OwnG w b t l) (hb : Below B w w') (hB : b < B) : OwnG w' b t l := by
  obtain ⟨xs, ho, hw⟩ := h; exact ⟨xs, ho.below hb hB, hw⟩
end Go.Proofs.YtikeffckhklhbaaGreatDoor

namespace Go.Proofs.YtikeffckhklhbaaGreatDoor
open Go.RowKit
set_option linter.unusedVariables false

end Go.Proofs.YtikeffckhklhbaaGreatDoor

namespace Go.Proofs.YtikeffckhklhbaaGreatDoor
open Go.RowKit
set_option linter.unusedVariables false

/-- The slice value s holds the cells l, in a block of its own from number B on; or it is nil and there are none. -/
def Res (w : World) (B : Nat) (s : Value) (l : List M.Cl) : Prop :=
  l.length ≤ 1048576 ∧ ((s = .slice none 0 0 ∧ l = []) ∨ ∃ b cap, s = .slice (some ⟨b, 0, none⟩) l.length cap ∧ B ≤ b ∧ l.length ≤ cap ∧ OwnG w b 41 l)

theorem Res.below {w w' : World} {B : Nat} {s : Value} {l : List M.Cl} (h : Res w B s l) (hb : Below w.heap.size w w') : Res w' B s l := by
  obtain ⟨hn, h | ⟨b, cap, h1, h2, h3, h4⟩⟩ := h
  · exact ⟨hn, .inl h⟩
  · exact ⟨hn, .inr ⟨b, cap, h1, h2, h3, h4.below hb h4.lt⟩⟩
theorem Res.alloc {w : World} {B : Nat} {s : Value} {l : List M.Cl} (h : Res w B s l) (o : Obj) : Res (w.alloc o) B s l := h.below ((Below.refl _ _).alloc (Nat.le_refl _) o)
theorem Res.mono {w : World} {B B' : Nat} {s : Value} {l : List M.Cl} (h : Res w B s l) (hB : B' ≤ B) : Res w B' s l := by
  obtain ⟨hn, h | ⟨b, cap, h1, h2, h3, h4⟩⟩ := h
  · exact ⟨hn, .inl h⟩
  · exact ⟨hn, .inr ⟨b, cap, h1, by omega, h3, h4⟩⟩

theorem Res.base {w : World} {B : Nat} {s : Value} {l : List M.Cl} (h : Res w B s l) : ∀ b, s.ownBlock = some b → B ≤ b := by
  obtain ⟨hn, ⟨rfl, _⟩ | ⟨b, cap, rfl, h2, h3, h4⟩⟩ := h
  · intro b hb; simp [Value.ownBlock] at hb
  · intro c hc; simp only [Value.ownBlock, Option.some.injEq] at hc; omega
/-- The shape of an answer's slice: the walk wants to see it. -/
theorem Res.shape {w : World} {B : Nat} {s : Value} {l : List M.Cl} (h : Res w B s l) : ∃ a n cap, s = .slice a n cap := by
  obtain ⟨_, ⟨rfl, _⟩ | ⟨b, cap, rfl, _⟩⟩ := h
  · exact ⟨_, _, _, rfl⟩
  · exact ⟨_, _, _, rfl⟩

theorem ownsRow_base {w : World} {base : Nat} {e : TypeId} {size : Nat} {v : Value} {n : Nat} {xs : List Value} (h : w.ownsRow base e size v n xs) : ∀ k, v.ownBlock = some k → base ≤ k := by
  obtain ⟨_, ⟨rfl, _⟩ | ⟨g, cap, cur, rfl, hg, _⟩⟩ := h
  · intro k hk; simp [Value.ownBlock] at hk
  · intro k hk; simp only [Value.ownBlock, Option.some.injEq] at hk; omega
theorem OwnG.setOther {w : World} {b : Nat} {t : TypeId} {l : List M.Cl} (h : OwnG w b t l) (p : Addr) (u : Value) (hp : b ≠ p.block) : OwnG (w.setCell p u) b t l := by
  obtain ⟨xs, h1, h2⟩ := h; exact ⟨xs, h1.setOther p u hp, h2⟩
theorem Res.setOther {w : World} {B : Nat} {s : Value} {l : List M.Cl} (h : Res w B s l) (p : Addr) (u : Value) (hp : ∀ b, s.ownBlock = some b → b ≠ p.block) : Res (w.setCell p u) B s l := by
  obtain ⟨hn, h | ⟨b, cap, rfl, h2, h3, h4⟩⟩ := h
  · exact ⟨hn, .inl h⟩
  · exact ⟨hn, .inr ⟨b, cap, rfl, h2, h3, h4.setOther p u (hp b rfl)⟩⟩

end Go.Proofs.YtikeffckhklhbaaGreatDoor

namespace Go.Proofs.YtikeffckhklhbaaGreatDoor
open Go.RowKit
set_option linter.unusedVariables false

theorem walk_eq (v : List M.Cl) (f at' : Nat) (c : M.Cl) (hc : c = v.getD at' M.zero) : M.walk v (f + 1) at' = (M.kids (M.walk v f) v c c.n.toNat 0 (at' + 1) 0 ByteArray.empty).map fun r => (r.1, r.2 + 1) := by subst hc; rfl

theorem kids_stop (rec : Nat → Option (Nat × Nat)) (v : List M.Cl) (c : M.Cl) (m k e d : Nat) (last : ByteArray) (h : M.bad v c k e last = true) (hm : 0 < m) : M.kids rec v c m k e d last = none := by
  cases m with
  | zero => omega
  | succ m => simp [M.kids, h]
theorem kids_none (rec : Nat → Option (Nat × Nat)) (v : List M.Cl) (c : M.Cl) (m k e d : Nat) (last : ByteArray) (hr : rec e = none) (hm : 0 < m) : M.kids rec v c m k e d last = none := by
  cases m with
  | zero => omega
  | succ m => simp only [M.kids, hr]; split <;> rfl
theorem kids_some (rec : Nat → Option (Nat × Nat)) (v : List M.Cl) (c : M.Cl) (m k e d : Nat) (last : ByteArray) (h : M.bad v c k e last = false) (e' d' : Nat) (hr : rec e = some (e', d')) (hm : 0 < m) :
    M.kids rec v c m k e d last = M.kids rec v c (m - 1) (k + 1) e' (max d d') (v.getD e M.zero).key := by
  cases m with
  | zero => omega
  | succ m => simp [M.kids, h, hr]

/-- What spec.l1Shape answers. -/
def shOut (r : Option (Nat × Nat)) : Value := match r with | none => .tuple #[.int .i64 (-1), .int .i64 0] | some (e, d) => .tuple #[.int .i64 e, .int .i64 d]

theorem sh_none (v : List M.Cl) (f at' : Nat) (c : M.Cl) (K : Option (Nat × Nat)) (h1 : M.walk v (f + 1) at' = (M.kids (M.walk v f) v c c.n.toNat 0 (at' + 1) 0 ByteArray.empty).map fun r => (r.1, r.2 + 1))
    (h2 : M.kids (M.walk v f) v c c.n.toNat 0 (at' + 1) 0 ByteArray.empty = K) (h3 : K = none) : shOut (M.walk v (f + 1) at') = .tuple #[.int .i64 (-1), .int .i64 0] := by rw [h1, h2, h3]; rfl
theorem sh_some (v : List M.Cl) (f at' e d : Nat) (c : M.Cl) (K : Option (Nat × Nat)) (h1 : M.walk v (f + 1) at' = (M.kids (M.walk v f) v c c.n.toNat 0 (at' + 1) 0 ByteArray.empty).map fun r => (r.1, r.2 + 1))
    (h2 : M.kids (M.walk v f) v c c.n.toNat 0 (at' + 1) 0 ByteArray.empty = K) (h3 : K = some (e, d)) : shOut (M.walk v (f + 1) at') = .tuple #[.int .i64 e, .int .i64 ((d : Int) + 1)] := by rw [h1, h2, h3]; rfl

/-- The ways on which a part may not begin. -/
theorem bad_end (v : List M.Cl) (c : M.Cl) (k e : Nat) (last : ByteArray) (h : v.length ≤ e) : M.bad v c k e last = true := by unfold M.bad; rw [if_neg (by omega)]
theorem bad_five (v : List M.Cl) (c ce : M.Cl) (k e : Nat) (last : ByteArray) (hlt : e < v.length) (hce : ce = v.getD e M.zero) (h5 : c.kind = 5) (hk : ce.key.toList ≠ []) : M.bad v c k e last = true := by
  subst hce; unfold M.bad; rw [if_pos hlt, decide_eq_true h5, decide_eq_true hk]; rfl
theorem bad_six (v : List M.Cl) (c ce : M.Cl) (k e : Nat) (last : ByteArray) (hlt : e < v.length) (hce : ce = v.getD e M.zero) (h6 : c.kind = 6) (hk : 0 < k) (hle : M.keyLe ce.key last = true) : M.bad v c k e last = true := by
  subst hce; unfold M.bad; rw [if_pos hlt, decide_eq_true h6, decide_eq_true hk, hle]; simp
theorem good_of (v : List M.Cl) (c ce : M.Cl) (k e : Nat) (last : ByteArray) (hlt : e < v.length) (hce : ce = v.getD e M.zero) (h5 : c.kind = 5 → ce.key.toList = []) (h6 : c.kind = 6 → 0 < k → M.keyLe ce.key last = false) : M.bad v c k e last = false := by
  subst hce; unfold M.bad; rw [if_pos hlt]
  simp only [Bool.or_eq_false_iff, Bool.and_eq_false_iff, decide_eq_false_iff_not]
  constructor
  · by_cases h : c.kind = 5
    · exact .inr (fun g => g (h5 h))
    · exact .inl h
  · by_cases h : c.kind = 6
    · by_cases g : 0 < k
      · exact .inr (h6 h g)
      · exact .inl (.inr g)
    · exact .inl (.inl h)

/-- One round, decided: what it comes to. -/
theorem round_cases (v : List M.Cl) (c ce : M.Cl) (k e : Nat) (last : ByteArray) (hlt : e < v.length) (hce : ce = v.getD e M.zero) (P : Prop)
    (b5 : (c.kind == 5) = true → ce.key.toList ≠ [] → M.bad v c k e last = true → P)
    (b6 : (c.kind == 5) = false → (c.kind == 6) = true → 0 < k → (Op.bytesLess ce.key.toList last.toList || (ce.key.toList == last.toList)) = true → M.bad v c k e last = true → P)
    (g5 : (c.kind == 5) = true → (c.kind == 6) = false → ce.key.toList = [] → M.bad v c k e last = false → P)
    (g6 : (c.kind == 5) = false → (c.kind == 6) = true → ¬ 0 < k → M.bad v c k e last = false → P)
    (g6' : (c.kind == 5) = false → (c.kind == 6) = true → 0 < k → (Op.bytesLess ce.key.toList last.toList || (ce.key.toList == last.toList)) = false → M.bad v c k e last = false → P)
    (g0 : (c.kind == 5) = false → (c.kind == 6) = false → M.bad v c k e last = false → P) : P := by
  by_cases h5 : c.kind = 5
  · have n6 : ¬ c.kind = 6 := by omega
    by_cases hk : ce.key.toList = []
    · exact g5 (by simp [h5]) (by simp [n6]) hk (good_of v c ce k e last hlt hce (fun _ => hk) (fun h => absurd h n6))
    · exact b5 (by simp [h5]) hk (bad_five v c ce k e last hlt hce h5 hk)
  · by_cases h6 : c.kind = 6
    · by_cases h0 : 0 < k
      · cases hle : M.keyLe ce.key last
        · exact g6' (by simp [h5]) (by simp [h6]) h0 hle (good_of v c ce k e last hlt hce (fun h => absurd h h5) (fun _ _ => hle))
        · exact b6 (by simp [h5]) (by simp [h6]) h0 hle (bad_six v c ce k e last hlt hce h6 h0 hle)
      · exact g6 (by simp [h5]) (by simp [h6]) h0 (good_of v c ce k e last hlt hce (fun h => absurd h h5) (fun _ h => absurd h h0))
    · exact g0 (by simp [h5]) (by simp [h6]) (good_of v c ce k e last hlt hce (fun h => absurd h h5) (fun h => absurd h h6))

end Go.Proofs.YtikeffckhklhbaaGreatDoor

namespace Go.Proofs.YtikeffckhklhbaaGreatDoor
open Go.RowKit Go.ChangeShapes Go.WideShapes
set_option linter.unusedVariables false

/-- What the walks are told of a slice of cells: a its head, cap its capacity, l its cells. -/
def Cells (w : World) (a : Option Addr) (cap : Nat) (l : List M.Cl) : Prop :=
  cap ≤ 9223372036854775807 ∧ l.length ≤ cap ∧ (∀ c ∈ l, c.ok) ∧ (l = [] ∨ ∃ b off, a = some ⟨b, off, none⟩ ∧ b < w.heap.size ∧ Row w b off l)

section
variable {H : Type} {enc : TypeId × Value → H} {w : World} {base : Nat} {spare : Nat → Bool} {held : Bool}

end
end Go.Proofs.YtikeffckhklhbaaGreatDoor

namespace Go.Proofs.YtikeffckhklhbaaGreatDoor
open Go.RowKit
set_option linter.unusedVariables false

end Go.Proofs.YtikeffckhklhbaaGreatDoor
