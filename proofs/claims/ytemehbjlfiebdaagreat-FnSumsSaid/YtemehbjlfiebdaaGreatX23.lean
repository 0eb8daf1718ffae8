/-
  A reader of bytes of the program: its text and its place in memory; (*byteReader).peek and (*byteReader).take.
  How many cells the members of an object have, where they stand at places that are apart. No word of the program is used here.
  Reading a value, plainly: by fuel and depth; where it ends, and that it has no more cells than it took bytes. No word of the program is used here.
  Reading a value, plainly, step by step: what a round of a list does, what stands by then. No word of the program is used here.
  A row of cells that can be appended to, as an answer.
  spec.l1Array, its answer as a row that can be appended to.
-/
import Derived.Test.YtemehbjlfiebdaaGreatX00
import Derived.Test.YtemehbjlfiebdaaGreatX01
import Derived.Test.YtemehbjlfiebdaaGreatX16
import Derived.Test.YtemehbjlfiebdaaGreatX17
import Derived.Test.YtemehbjlfiebdaaGreatX22
import Derived.BigQuiet
import Derived.BigRegion
import Derived.Deep.LoopGhost
import Derived.Deep.QuietTactic
import Derived.RegionTactic
namespace Go.Proofs.YtemehbjlfiebdaaGreat
open Go.RowKit
set_option linter.unusedVariables false

/-- Below block number B all but block b is as it was. -/
structure Tch (B b : Nat) (w w' : World) : Prop where
  os : w'.os = w.os
  tape : w'.tape = w.tape
  output : w'.output = w.output
  size : w.heap.size ≤ w'.heap.size
  block : ∀ k, k < B → k ≠ b → w'.heap[k]? = w.heap[k]?
theorem Tch.trans {B b : Nat} {u v w : World} (h : Tch B b u v) (k : Tch B b v w) : Tch B b u w :=
  ⟨k.os.trans h.os, k.tape.trans h.tape, k.output.trans h.output, Nat.le_trans h.size k.size, fun i h1 h2 => (k.block i h1 h2).trans (h.block i h1 h2)⟩
theorem Tch.set (B b j : Nat) (w : World) (u : Value) : Tch B b w (w.setCell ⟨b, j, none⟩ u) :=
  ⟨rfl, rfl, rfl, by simp [World.setCell], fun k _ hk => Below.heap_setCell _ _ _ _ (by simpa using hk)⟩
theorem Tch.mono {B B' b : Nat} {w w' : World} (h : Tch B b w w') (h1 : B' ≤ B) : Tch B' b w w' := ⟨h.os, h.tape, h.output, h.size, fun k hk hn => h.block k (by omega) hn⟩
theorem Tch.below {B B' b : Nat} {w w' : World} (h : Tch B b w w') (h1 : B' ≤ B) (h2 : B' ≤ b) : Below B' w w' :=
  ⟨h.os, h.tape, h.output, h.size, fun k hk => h.block k (by omega) (by omega)⟩

theorem Tch.drewN {B b : Nat} {w w' : World} (h : Tch B b w w') (k : Nat) : Tch B b w (w'.drewN k) := ⟨h.os, h.tape, h.output, h.size, h.block⟩

end Go.Proofs.YtemehbjlfiebdaaGreat

namespace Go.Proofs.YtemehbjlfiebdaaGreat
open Go.RowKit
set_option linter.unusedVariables false
namespace J
/-- Of places that are apart the lengths are no more than all of them. -/
theorem sum_le_tot (ps : List (List M.Cl)) (n : Nat) : ∀ L : List Nat, L.Nodup → (∀ x ∈ L, x < n) → n ≤ ps.length → ((L.map fun p => (ps.getD p []).length).sum) ≤ tot ps n := by
  induction n with
  | zero =>
    intro L _ h _
    cases L with
    | nil => exact Nat.zero_le _
    | cons a r => exact absurd (h a (by simp)) (by omega)
  | succ n ih =>
    intro L hnd hlt hn
    rw [tot_succ ps n (by omega)]
    by_cases hm : n ∈ L
    · have h1 := ih (L.erase n) (hnd.erase n) (fun x hx => by
        have h2 := hlt x (List.mem_of_mem_erase hx)
        have h3 : x ≠ n := fun e => by subst e; exact (List.Nodup.not_mem_erase hnd) hx
        omega) (by omega)
      have h2 : ((L.map fun p => (ps.getD p []).length).sum) = (ps.getD n []).length + (((L.erase n).map fun p => (ps.getD p []).length).sum) := by
        have hp := List.perm_cons_erase hm
        have := (hp.map fun p => (ps.getD p []).length).sum_nat
        rw [this, List.map_cons, List.sum_cons]
      omega
    · have h1 := ih L hnd (fun x hx => by
        have h2 := hlt x hx
        have h3 : x ≠ n := fun e => by subst e; exact hm hx
        omega) (by omega)
      omega
theorem stand_nodup (ks : List ByteArray) (k : Nat) : (St.stand ks k).Nodup := (St.stand_pw ks k).imp fun {a b} h e => by subst e; exact St.R.ne h rfl
end J
theorem tot_part (ps : List (List M.Cl)) (k : Nat) (hk : k < ps.length) : tot ps k + (ps.getD k []).length ≤ tot ps ps.length := by
  rw [← tot_succ ps k hk]; exact tot_le ps ps.length (k + 1) hk (Nat.le_refl _)
theorem objK_le (ks : List ByteArray) (ps : List (List M.Cl)) (L : List Nat) (hnd : L.Nodup) (hlt : ∀ x ∈ L, x < ps.length) (k : Nat) : (objK ks ps L k).length ≤ 1 + tot ps ps.length := by
  have h1 : (objK ks ps L k).length = 1 + (memK ks ps L k).length := by unfold objK; simp; omega
  have h2 : (memK ks ps L k).length = (((L.take k).map fun p => (ps.getD p []).length).sum) := by
    unfold memK
    rw [List.length_flatten, List.map_map]
    congr 1
    apply List.map_congr_left
    intro p _
    exact setKey_length _ _
  have h3 := J.sum_le_tot ps ps.length (L.take k) (hnd.sublist (List.take_sublist k L)) (fun x hx => hlt x (List.mem_of_mem_take hx)) (Nat.le_refl _)
  omega

end Go.Proofs.YtemehbjlfiebdaaGreat

namespace Go.Proofs.YtemehbjlfiebdaaGreat
open Go.RowKit
set_option linter.unusedVariables false
set_option linter.unusedSimpArgs false

namespace J
def madeV (obj : Bool) (ks : List ByteArray) (ps : List (List M.Cl)) : List M.Cl := if obj then objV ks ps else arrV ps
theorem memK_len (ks : List ByteArray) (ps : List (List M.Cl)) (L : List Nat) : (memK ks ps L L.length).length = ((L.map fun p => (ps.getD p []).length).sum) := by
  unfold memK
  rw [List.take_length, List.length_flatten, List.map_map]
  congr 1
  apply List.map_congr_left
  intro p _
  exact setKey_length _ _
theorem made_len (obj : Bool) (ks : List ByteArray) (ps : List (List M.Cl)) (h : obj = true → ks.length = ps.length) : 0 < (madeV obj ks ps).length ∧ (madeV obj ks ps).length ≤ 1 + tot ps ps.length := by
  unfold madeV
  cases obj with
  | false =>
    simp only [Bool.false_eq_true, if_false]
    have : (arrV ps).length = tot ps ps.length + 1 := arrK_length ps ps.length
    omega
  | true =>
    simp only [if_true]
    have h1 : (objV ks ps).length = 1 + (memK ks ps (St.stand ks ks.length) (St.stand ks ks.length).length).length := by unfold objV objK; simp; omega
    have h2 := memK_len ks ps (St.stand ks ks.length)
    have h3 := sum_le_tot ps ks.length (St.stand ks ks.length) (stand_nodup ks ks.length) (fun x hx => St.stand_lt ks ks.length x hx) (by rw [h rfl]; exact Nat.le_refl _)
    rw [h rfl] at h3 h2 h1
    omega
end J
end Go.Proofs.YtemehbjlfiebdaaGreat

namespace Go.Proofs.YtemehbjlfiebdaaGreat
open Go.RowKit
set_option linter.unusedVariables false

/-- A part that bears no key. -/
def Bare (p : List M.Cl) : Prop := 1 ≤ p.length ∧ setKey p ByteArray.empty = p

namespace J
theorem made_bare (obj : Bool) (ks : List ByteArray) (ps : List (List M.Cl)) : Bare (madeV obj ks ps) := by
  unfold madeV
  cases obj with
  | false => exact ⟨by simp [arrV, arrK], rfl⟩
  | true => exact ⟨by simp [objV, objK], rfl⟩
end J
end Go.Proofs.YtemehbjlfiebdaaGreat

namespace Go.Proofs.YtemehbjlfiebdaaGreat
open Go.RowKit
set_option linter.unusedVariables false
set_option linter.unusedSimpArgs false

/-- A row of cells of one's own, with its room. -/
def Rs (w : World) (B : Nat) (s : Value) (l : List M.Cl) : Prop := w.ownsRow B 33 5 s l.length (flat l) ∧ l.length ≤ 1048576
theorem Rs.res {w : World} {B : Nat} {s : Value} {l : List M.Cl} (h : Rs w B s l) : Res w B s l := res_of_owns h.1 h.2
theorem owns_mono {w : World} {B B' : Nat} {e : TypeId} {k : Nat} {v : Value} {n : Nat} {xs : List Value} (h : w.ownsRow B e k v n xs) (hB : B' ≤ B) : w.ownsRow B' e k v n xs := by
  obtain ⟨h1, h2 | ⟨g, cap, cur, h3, h4, h5⟩⟩ := h
  · exact ⟨h1, .inl h2⟩
  · exact ⟨h1, .inr ⟨g, cap, cur, h3, by omega, h5⟩⟩
theorem Rs.mono {w : World} {B B' : Nat} {s : Value} {l : List M.Cl} (h : Rs w B s l) (hB : B' ≤ B) : Rs w B' s l := ⟨owns_mono h.1 hB, h.2⟩
theorem Rs.shape {w : World} {B : Nat} {s : Value} {l : List M.Cl} (h : Rs w B s l) : ∃ a n c, s = .slice a n c := h.res.shape
set_option maxHeartbeats 400000 in
theorem l1NumberO_any (n : Int) (w : World) : Calls Tryz.prog 16 #[.int .i64 n] w fun e w' => ∃ s, e = .returned s ∧ Rs w' w.heap.size s [⟨3, n, ByteArray.empty, ByteArray.empty, 0⟩] ∧ Below w.heap.size w w' := by
  go_enter Tryz.func16, Tryz.ntmps16
  go_wp2_with fail
  go_ret
  exact ⟨_, rfl, ⟨one_own w w.heap.size w.heap.size ⟨3, n, ByteArray.empty, ByteArray.empty, 0⟩ rfl (Nat.le_refl _), by simp⟩, (Below.refl _ _).alloc (Nat.le_refl _) _⟩
set_option maxHeartbeats 400000 in
theorem l1StringO_any (s : ByteArray) (w : World) : Calls Tryz.prog 30 #[.string s] w fun e w' => ∃ r, e = .returned r ∧ Rs w' w.heap.size r [⟨4, 0, s, ByteArray.empty, 0⟩] ∧ Below w.heap.size w w' := by
  go_enter Tryz.func30, Tryz.ntmps30
  go_wp2_with fail
  go_ret
  exact ⟨_, rfl, ⟨one_own w w.heap.size w.heap.size ⟨4, 0, s, ByteArray.empty, 0⟩ rfl (Nat.le_refl _), by simp⟩, (Below.refl _ _).alloc (Nat.le_refl _) _⟩

end Go.Proofs.YtemehbjlfiebdaaGreat

namespace Go.Proofs.YtemehbjlfiebdaaGreat
open Go.RowKit
set_option linter.unusedVariables false
set_option linter.unusedSimpArgs false

set_option maxHeartbeats 1000000 in
theorem l1ArrayO_any (a : Option Addr) (cap : Nat) (ps : List (List M.Cl)) (w : World) (hL : LV w a ps) (hcap : ps.length ≤ cap) (hn : ps.length ≤ 4096) (ht : tot ps ps.length ≤ 8192) (hv : ∀ j, j < ps.length → Bare (ps.getD j [])) :
    Calls Tryz.prog 18 #[.slice a ps.length cap] w fun e w' => ∃ s, e = .returned s ∧ Rs w' w.heap.size s (arrV ps) ∧ Below w.heap.size w w' := by
  have HL := hide hL
  have HV := hide hv
  clear hL hv
  obtain ⟨i0, hi, hz0, hz1, hz2⟩ := info_parts Tryz.info33
  go_enter Tryz.func18, Tryz.ntmps18
  go_wp2_with fail
  go_loopg [3, 4] ps.length (fun gh s3 s4 wr => ∃ k : Nat, Hid (gh = ps.length - k) ∧ s4 = .int .i64 k ∧ k ≤ ps.length ∧ wr.ownsRow w.heap.size 33 5 s3 (arrK ps k).length (flat (arrK ps k)) ∧ Below w.heap.size w wr)
  case atStart => exact ⟨0, rfl, rfl, by omega, one_own w w.heap.size _ (headCl 5 ps.length) rfl (Nat.le_refl _), (Below.refl _ _).alloc (Nat.le_refl _) _⟩
  case round =>
    obtain ⟨k, hg, rfl, hk, hown, hbel⟩ := hrel
    by_cases hlt : k < ps.length
    · obtain ⟨g, b, off, c, rfl, hgl, f0, hc, hb, hr⟩ := ((unhide HL).below hbel) k hlt
      have hp := ((unhide HV) k hlt).1
      have hal := arrK_length ps k
      have hts := tot_part ps k hlt
      have hsucc := hide (show flat (arrK ps k) ++ flat (ps.getD k []) = flat (arrK ps (k + 1)) by rw [arrK_succ ps k hlt, flat_append])
      have hsl := hide (show (arrK ps k).length + (ps.getD k []).length = (arrK ps (k + 1)).length by rw [arrK_succ ps k hlt, List.length_append])
      have hnews := hide (row_words hr)
      have hone := hide (flat_one (ps.getD k []))
      have HFL := hide (flat_length (ps.getD k []))
      clear hr
      generalize ps.getD k [] = p at *
      have hb63 : (arrK ps k).length + p.length ≤ maxLen := by unfold maxLen; omega
      have hby : ((arrK ps k).length + p.length) * 56 ≤ 140737488355328 := by omega
      have hbse := hide (ownsRow_base hown)
      have HOWN := hide hown
      have hbase := hbel.size
      clear hown hal hts
      go_wp2_with (at_builtin; refine wpList_append_own _ rfl (.tmp 15) (.tmp 19) 24 rfl w.heap.size 33 i0 _ 5 56 Tryz.underlying24 hi hz0 hz1 hz2 rfl (by decide) _ (arrK ps k).length _ rfl (unhide HOWN) ⟨b, off, none⟩ p.length c (flat p) rfl (unhide HFL) (unhide hnews) (unhide hone) hb63 hby hbase ?_)
      intro v' w2 ho2 hg2 _
      rw [unhide hsucc, unhide hsl] at ho2
      have B2 : Below w.heap.size w w2 := hbel.grown hg2 hbase (unhide hbse)
      have HO2 := hide ho2
      clear ho2 hg2 f0
      go_wp2_with fail
      go_roundg (ps.length - (k + 1))
      case rel => exact ⟨k + 1, rfl, by go_num, by omega, unhide HO2, B2⟩
      case measure => have := hg.out; omega
    · have hke : k = ps.length := by omega
      have hal := arrK_length ps k
      have hts := tot_le ps ps.length k hk (Nat.le_refl _)
      have fin := hide (show Rs wr w.heap.size u3 (arrV ps) by unfold arrV; rw [← hke]; exact ⟨hown, by omega⟩)
      clear hke hown hal hts
      go_wp2_with fail
      go_ret
      exact ⟨_, rfl, unhide fin, hbel⟩

end Go.Proofs.YtemehbjlfiebdaaGreat
