/-
  A reader of bytes of the program: its text and its place in memory; (*byteReader).peek and (*byteReader).take.
  How many cells the members of an object have, where they stand at places that are apart. No word of the program is used here.
  Reading a value, plainly: by fuel and depth; where it ends, and that it has no more cells than it took bytes. No word of the program is used here.
  Reading a value, plainly, step by step: what a round of a list does, what stands by then. No word of the program is used here.
  A row of cells that can be appended to, as an answer.
  The source that draws are made of: bytes and a place; a number below another.
  Numbers, words and keys that are drawn.
  spec.l1Array, its answer as a row that can be appended to.
-/
import Derived.Test.YtcglddahphkcpaaGreatDoorU00
import Derived.Test.YtcglddahphkcpaaGreatDoorU01
import Derived.Test.YtcglddahphkcpaaGreatDoorU15
import Derived.Test.YtcglddahphkcpaaGreatDoorU16
import Derived.Test.YtcglddahphkcpaaGreatDoorU17
import Derived.BigQuiet
import Derived.BigRegion
import Derived.Deep.LoopGhost
import Derived.Deep.QuietTactic
import Derived.Deep.RegionHeld3
import Derived.RegionTactic
namespace Go.Proofs.YtcglddahphkcpaaGreatDoor
open Go.RowKit
set_option linter.unusedVariables false

/-- Below block number B all but block b is as it was. -/
structure Tch (B b : Nat) (w w' : World) : Prop where
  os : w'.os = w.os
  tape : w'.tape = w.tape
  output : w'.output = w.output
  size : w.heap.size ≤ w'.heap.size
  block : ∀ k, k < B → k ≠ b → w'.heap[k]? = w.heap[k]?
theorem Tch.trans {B b : Nat} {u v w : World} (h : Tch B b u v) (k : Tch B b v w) : Tch B b u w :=
  ⟨k.os.trans h.os, k.tape.trans h.tape, k.output.trans h.output, Nat.le_trans h.size k.size, fun i h1 h2 => (k.block i h1 h2).trans (h.block i h1 h2)⟩
theorem Tch.set (B b j : Nat) (w : World) (u : Value) : Tch B b w (w.setCell ⟨b, j, none⟩ u) :=
  ⟨rfl, rfl, rfl, by simp [World.setCell], fun k _ hk => Below.heap_setCell _ _ _ _ (by simpa using hk)⟩
theorem Tch.mono {B B' b : Nat} {w w' : World} (h : Tch B b w w') (h1 : B' ≤ B) : Tch B' b w w' := ⟨h.os, h.tape, h.output, h.size, fun k hk hn => h.block k (by omega) hn⟩
theorem Tch.below {B B' b : Nat} {w w' : World} (h : Tch B b w w') (h1 : B' ≤ B) (h2 : B' ≤ b) : Below B' w w' :=
  ⟨h.os, h.tape, h.output, h.size, fun k hk => h.block k (by omega) (by omega)⟩

theorem Tch.drewN {B b : Nat} {w w' : World} (h : Tch B b w w') (k : Nat) : Tch B b w (w'.drewN k) := ⟨h.os, h.tape, h.output, h.size, h.block⟩

end Go.Proofs.YtcglddahphkcpaaGreatDoor

namespace Go.Proofs.YtcglddahphkcpaaGreatDoor
open Go.RowKit
set_option linter.unusedVariables false
namespace J
/-- Of places that are apart the lengths are no more than all of them. -/
theorem sum_le_tot (ps : List (List M.Cl)) (n : Nat) : ∀ L : List Nat, L.Nodup → (∀ x ∈ L, x < n) → n ≤ ps.length → ((L.map fun p => (ps.getD p []).length).sum) ≤ tot ps n := by
  induction n with
  | zero =>
    intro L _ h _
    cases L with
    | nil => exact Nat.zero_le _
    | cons a r => exact absurd (h a (by simp)) (by omega)
  | succ n ih =>
    intro L hnd hlt hn
    rw [tot_succ ps n (by omega)]
    by_cases hm : n ∈ L
    · have h1 := ih (L.erase n) (hnd.erase n) (fun x hx => by
        have h2 := hlt x (List.mem_of_mem_erase hx)
        have h3 : x ≠ n := fun e => by subst e; exact (List.Nodup.not_mem_erase hnd) hx
        omega) (by omega)
      have h2 : ((L.map fun p => (ps.getD p []).length).sum) = (ps.getD n []).length + (((L.erase n).map fun p => (ps.getD p []).length).sum) := by
        have hp := List.perm_cons_erase hm
        have := (hp.map fun p => (ps.getD p []).length).sum_nat
        rw [this, List.map_cons, List.sum_cons]
      omega
    · have h1 := ih L hnd (fun x hx => by
        have h2 := hlt x hx
        have h3 : x ≠ n := fun e => by subst e; exact hm hx
        omega) (by omega)
      omega
theorem tot_all (ps : List (List M.Cl)) : tot ps ps.length = (ps.map List.length).sum := by unfold tot; rw [List.take_length]
theorem tot_snoc (ps : List (List M.Cl)) (v : List M.Cl) : tot (ps ++ [v]) (ps ++ [v]).length = tot ps ps.length + v.length := by rw [tot_all, tot_all]; simp
theorem stand_nodup (ks : List ByteArray) (k : Nat) : (St.stand ks k).Nodup := (St.stand_pw ks k).imp fun {a b} h e => by subst e; exact St.R.ne h rfl
end J
theorem tot_part (ps : List (List M.Cl)) (k : Nat) (hk : k < ps.length) : tot ps k + (ps.getD k []).length ≤ tot ps ps.length := by
  rw [← tot_succ ps k hk]; exact tot_le ps ps.length (k + 1) hk (Nat.le_refl _)
theorem objK_le (ks : List ByteArray) (ps : List (List M.Cl)) (L : List Nat) (hnd : L.Nodup) (hlt : ∀ x ∈ L, x < ps.length) (k : Nat) : (objK ks ps L k).length ≤ 1 + tot ps ps.length := by
  have h1 : (objK ks ps L k).length = 1 + (memK ks ps L k).length := by unfold objK; simp; omega
  have h2 : (memK ks ps L k).length = (((L.take k).map fun p => (ps.getD p []).length).sum) := by
    unfold memK
    rw [List.length_flatten, List.map_map]
    congr 1
    apply List.map_congr_left
    intro p _
    exact setKey_length _ _
  have h3 := J.sum_le_tot ps ps.length (L.take k) (hnd.sublist (List.take_sublist k L)) (fun x hx => hlt x (List.mem_of_mem_take hx)) (Nat.le_refl _)
  omega

end Go.Proofs.YtcglddahphkcpaaGreatDoor

namespace Go.Proofs.YtcglddahphkcpaaGreatDoor
open Go.RowKit
set_option linter.unusedVariables false
set_option linter.unusedSimpArgs false

namespace J
def madeV (obj : Bool) (ks : List ByteArray) (ps : List (List M.Cl)) : List M.Cl := if obj then objV ks ps else arrV ps
theorem memK_len (ks : List ByteArray) (ps : List (List M.Cl)) (L : List Nat) : (memK ks ps L L.length).length = ((L.map fun p => (ps.getD p []).length).sum) := by
  unfold memK
  rw [List.take_length, List.length_flatten, List.map_map]
  congr 1
  apply List.map_congr_left
  intro p _
  exact setKey_length _ _
theorem made_len (obj : Bool) (ks : List ByteArray) (ps : List (List M.Cl)) (h : obj = true → ks.length = ps.length) : 0 < (madeV obj ks ps).length ∧ (madeV obj ks ps).length ≤ 1 + tot ps ps.length := by
  unfold madeV
  cases obj with
  | false =>
    simp only [Bool.false_eq_true, if_false]
    have : (arrV ps).length = tot ps ps.length + 1 := arrK_length ps ps.length
    omega
  | true =>
    simp only [if_true]
    have h1 : (objV ks ps).length = 1 + (memK ks ps (St.stand ks ks.length) (St.stand ks ks.length).length).length := by unfold objV objK; simp; omega
    have h2 := memK_len ks ps (St.stand ks ks.length)
    have h3 := sum_le_tot ps ks.length (St.stand ks ks.length) (stand_nodup ks ks.length) (fun x hx => St.stand_lt ks ks.length x hx) (by rw [h rfl]; exact Nat.le_refl _)
    rw [h rfl] at h3 h2 h1
    omega
end J
end Go.Proofs.YtcglddahphkcpaaGreatDoor

namespace Go.Proofs.YtcglddahphkcpaaGreatDoor
open Go.RowKit
set_option linter.unusedVariables false

/-- A part that bears no key. -/
def Bare (p : List M.Cl) : Prop := 1 ≤ p.length ∧ setKey p ByteArray.empty = p

namespace J
theorem made_bare (obj : Bool) (ks : List ByteArray) (ps : List (List M.Cl)) : Bare (madeV obj ks ps) := by
  unfold madeV
  cases obj with
  | false => exact ⟨by simp [arrV, arrK], rfl⟩
  | true => exact ⟨by simp [objV, objK], rfl⟩
end J
end Go.Proofs.YtcglddahphkcpaaGreatDoor

namespace Go.Proofs.YtcglddahphkcpaaGreatDoor
open Go.RowKit
set_option linter.unusedVariables false
set_option linter.unusedSimpArgs false

/-- A row of cells of one's own, with its room. -/
def Rs (w : World) (B : Nat) (s : Value) (l : List M.Cl) : Prop := w.ownsRow B 111 5 s l.length (flat l) ∧ l.length ≤ 1048576
theorem Rs.res {w : World} {B : Nat} {s : Value} {l : List M.Cl} (h : Rs w B s l) : Res w B s l := res_of_owns h.1 h.2
theorem owns_mono {w : World} {B B' : Nat} {e : TypeId} {k : Nat} {v : Value} {n : Nat} {xs : List Value} (h : w.ownsRow B e k v n xs) (hB : B' ≤ B) : w.ownsRow B' e k v n xs := by
  obtain ⟨h1, h2 | ⟨g, cap, cur, h3, h4, h5⟩⟩ := h
  · exact ⟨h1, .inl h2⟩
  · exact ⟨h1, .inr ⟨g, cap, cur, h3, by omega, h5⟩⟩
theorem Rs.mono {w : World} {B B' : Nat} {s : Value} {l : List M.Cl} (h : Rs w B s l) (hB : B' ≤ B) : Rs w B' s l := ⟨owns_mono h.1 hB, h.2⟩
theorem Rs.shape {w : World} {B : Nat} {s : Value} {l : List M.Cl} (h : Rs w B s l) : ∃ a n c, s = .slice a n c := h.res.shape
set_option maxHeartbeats 400000 in
theorem l1NumberO_any (n : Int) (w : World) : Calls Tryz.prog 108 #[.int .i64 n] w fun e w' => ∃ s, e = .returned s ∧ Rs w' w.heap.size s [⟨3, n, ByteArray.empty, ByteArray.empty, 0⟩] ∧ Below w.heap.size w w' := by
  go_enter Tryz.func108, Tryz.ntmps108
  go_wp2_with fail
  go_ret
  exact ⟨_, rfl, ⟨one_own w w.heap.size w.heap.size ⟨3, n, ByteArray.empty, ByteArray.empty, 0⟩ rfl (Nat.le_refl _), by simp⟩, (Below.refl _ _).alloc (Nat.le_refl _) _⟩
set_option maxHeartbeats 400000 in
theorem l1StringO_any (s : ByteArray) (w : World) : Calls Tryz.prog 109 #[.string s] w fun e w' => ∃ r, e = .returned r ∧ Rs w' w.heap.size r [⟨4, 0, s, ByteArray.empty, 0⟩] ∧ Below w.heap.size w w' := by
  go_enter Tryz.func109, Tryz.ntmps109
  go_wp2_with fail
  go_ret
  exact ⟨_, rfl, ⟨one_own w w.heap.size w.heap.size ⟨4, 0, s, ByteArray.empty, 0⟩ rfl (Nat.le_refl _), by simp⟩, (Below.refl _ _).alloc (Nat.le_refl _) _⟩

end Go.Proofs.YtcglddahphkcpaaGreatDoor

namespace Go.Proofs.YtcglddahphkcpaaGreatDoor
open Go.RowKit
set_option linter.unusedVariables false
set_option linter.unusedSimpArgs false

/-- A source of draws: its bytes lie elsewhere. -/
structure Src (w : World) (bs : Nat) (a : Option Addr) (len cap at_ : Nat) : Prop where
  own : Own w bs 136 [.slice a len cap, .int .i64 (at_ : Int)]
  byt : ∀ i, i < len → ∃ b off c : Nat, a = some ⟨b, off, none⟩ ∧ b < bs ∧ c ≤ 255 ∧ w.cell? ⟨b, off + i, none⟩ = some (.int .u8 (c : Int))
  cap : len ≤ cap
  small : len ≤ 1048600
theorem Src.drewN {w : World} {bs len cap at_ : Nat} {a : Option Addr} (h : Src w bs a len cap at_) (q : Nat) : Src (w.drewN q) bs a len cap at_ := ⟨h.own, h.byt, h.cap, h.small⟩
theorem Src.step {w : World} {bs len cap at_ : Nat} {a : Option Addr} (h : Src w bs a len cap at_) : Src (w.setCell ⟨bs, 1, none⟩ (.int .i64 ((at_ : Int) + 1))) bs a len cap (at_ + 1) :=
  ⟨h.own.set 1 _, fun i hi => by
    obtain ⟨b, off, c, h1, h2, h3, h4⟩ := h.byt i hi
    exact ⟨b, off, c, h1, h2, h3, (World.cell?_setCell_other _ _ _ _ (fun e => by injection e with e1 e2; omega)).trans h4⟩, h.cap, h.small⟩
/-- What turns nothing up to the source's own block. -/
theorem Src.keep {w w' : World} {bs len cap at_ : Nat} {a : Option Addr} (h : Src w bs a len cap at_) (hk : ∀ k, k ≤ bs → w'.heap[k]? = w.heap[k]?) : Src w' bs a len cap at_ :=
  ⟨by obtain ⟨r, h1, h2⟩ := h.own; exact ⟨r, (hk bs (Nat.le_refl _)).trans h1, h2⟩, fun i hi => by
    obtain ⟨b, off, c, h1, h2, h3, h4⟩ := h.byt i hi
    refine ⟨b, off, c, h1, h2, h3, ?_⟩
    rw [← h4]; unfold World.cell?; rw [hk b (by omega)], h.cap, h.small⟩
theorem Src.below {w w' : World} {bs len cap at_ : Nat} {a : Option Addr} (h : Src w bs a len cap at_) (hb : Below w.heap.size w w') : Src w' bs a len cap at_ := h.keep fun k hk => hb.block k (by have := h.own.lt; omega)
theorem Src.set {w : World} {bs len cap at_ : Nat} {a : Option Addr} (h : Src w bs a len cap at_) (T j : Nat) (x : Value) (hT : bs < T) : Src (w.setCell ⟨T, j, none⟩ x) bs a len cap at_ := h.keep fun k hk => heap_setCell_other _ ⟨T, j, none⟩ k x (by simp only; omega)

set_option maxRecDepth 100000 in
set_option maxHeartbeats 2000000 in
theorem l1Next_any (n : Int) (bs len cap at_ : Nat) (a : Option Addr) (w : World) (h : Src w bs a len cap at_) (hn : n ≤ 1000000000) (hat : at_ ≤ 1000000000) :
    Calls Tryz.prog 98 #[.pointer (some ⟨bs, 0, none⟩), .int .i64 n] w fun e w' => ∃ r : Nat, e = .returned (.int .i64 (r : Int)) ∧ (1 ≤ n → (r : Int) < n) ∧ Src w' bs a len cap (at_ + 1) ∧ Tch w.heap.size bs w w' := by
  have q1 := h.own.cell 1
  have z1 := h.own.frozen 1
  simp only [List.getElem?_cons_zero, List.getElem?_cons_succ] at q1
  have S1 := h.step
  have T1 : Tch w.heap.size bs w (w.setCell ⟨bs, 1, none⟩ (.int .i64 ((at_ : Int) + 1))) := Tch.set _ _ _ _ _
  have d0 : ∀ q, ((w.setCell ⟨bs, 1, none⟩ (.int .i64 ((at_ : Int) + 1))).drewN q).cell? ⟨bs, 0, none⟩ = some (.slice a len cap) := fun q => S1.own.cell 0
  have HS := hide (fun q => S1.drewN q)
  have HT := hide (fun q => T1.drewN q)
  have e0 : (w.setCell ⟨bs, 1, none⟩ (.int .i64 ((at_ : Int) + 1))).cell? ⟨bs, 0, none⟩ = some (.slice a len cap) := S1.own.cell 0
  have HBY := hide S1.byt
  have hsm := h.small
  clear S1 T1 h
  by_cases hn1 : n < 1
  · go_enter Tryz.func98, Tryz.ntmps98
    go_wp2_with fail
    go_ret
    exact ⟨0, rfl, fun h => by omega, (unhide HS) 0, (unhide HT) 0⟩
  · by_cases hl : len = 0
    · have hlb : ((len : Int) == 0) = true := by rw [hl]; rfl
      have h7 : IntKind.i64.wrap ((at_ : Int) * 7) = (at_ : Int) * 7 := IntWalk.i64_in _ ⟨by omega, by omega⟩
      have hne : ¬ n = 0 := by omega
      have hneb : (n == 0) = false := by simpa using hne
      clear hl
      go_enter Tryz.func98, Tryz.ntmps98
      go_wp2_with fail
      go_ret
      have hr0 : 0 ≤ (at_ : Int) * 7 % n := Int.emod_nonneg _ (by omega)
      have hr1 : (at_ : Int) * 7 % n < n := Int.emod_lt_of_pos _ (by omega)
      exact ⟨((at_ : Int) * 7 % n).toNat, by rw [Int.toNat_of_nonneg hr0]; rfl, by rw [Int.toNat_of_nonneg hr0]; intros; exact hr1, (unhide HS) 0, (unhide HT) 0⟩
    · have hlb : ((len : Int) == 0) = false := by rw [beq_eq_false_iff_ne]; omega
      have hlz : ¬ (len : Int) = 0 := by omega
      have hl0 : 0 < len := by omega
      obtain ⟨k1, hk1⟩ : ∃ k, k = at_ % len := ⟨_, rfl⟩
      obtain ⟨k2, hk2⟩ : ∃ k, k = at_ / len := ⟨_, rfl⟩
      have hk1l : k1 < len := by rw [hk1]; exact Nat.mod_lt _ hl0
      have hk2l : k2 ≤ at_ := by rw [hk2]; exact Nat.div_le_self _ _
      have hrem : (at_ : Int).tmod (len : Int) = (k1 : Int) := by rw [hk1]; rfl
      have hquo : (at_ : Int).tdiv (len : Int) = (k2 : Int) := by rw [hk2]; rfl
      obtain ⟨b, off, c, rfl, hb, hc, hcell⟩ := (unhide HBY) k1 hk1l
      have hcell' : ∀ q, ((w.setCell ⟨bs, 1, none⟩ (.int .i64 ((at_ : Int) + 1))).drewN q).cell? ⟨b, off + k1, none⟩ = some (.int .u8 (c : Int)) := fun q => hcell
      have hi0 : (0 : Int) ≤ (k1 : Int) := by omega
      have hi1 : (k1 : Int) < (len : Int) := by omega
      have wq : IntKind.i64.wrap (k2 : Int) = (k2 : Int) := IntWalk.i64_in _ ⟨by omega, by omega⟩
      have w37 : IntKind.i64.wrap ((k2 : Int) * 37) = (k2 : Int) * 37 := IntWalk.i64_in _ ⟨by omega, by omega⟩
      have wc : IntKind.i64.wrap (c : Int) = (c : Int) := IntWalk.i64_in _ ⟨by omega, by omega⟩
      obtain ⟨V, hV⟩ : ∃ V : Nat, V = c + k2 * 37 := ⟨_, rfl⟩
      have wv : IntKind.i64.wrap ((c : Int) + (k2 : Int) * 37) = (V : Int) := by rw [IntWalk.i64_in _ ⟨by omega, by omega⟩, hV]; simp
      have hVl : V ≤ 255 + 37000000000 := by omega
      clear hk1 hk2 hV hl hcell
      by_cases h200 : 200 < n
      · obtain ⟨k3, hk3⟩ : ∃ k, k = (at_ + 1) % len := ⟨_, rfl⟩
        have hk3l : k3 < len := by rw [hk3]; exact Nat.mod_lt _ hl0
        have hrem3 : ((at_ : Int) + 1).tmod (len : Int) = (k3 : Int) := by rw [hk3]; rfl
        obtain ⟨b3, off3, c3, he3, hb3, hc3, hcell3⟩ := (unhide HBY) k3 hk3l
        cases he3
        have hcell3' : ∀ q, ((w.setCell ⟨bs, 1, none⟩ (.int .i64 ((at_ : Int) + 1))).drewN q).cell? ⟨b, off + k3, none⟩ = some (.int .u8 (c3 : Int)) := fun q => hcell3
        have hj0 : (0 : Int) ≤ (k3 : Int) := by omega
        have hj1 : (k3 : Int) < (len : Int) := by omega
        have w1 : IntKind.i64.wrap ((at_ : Int) + 1) = (at_ : Int) + 1 := IntWalk.i64_in _ ⟨by omega, by omega⟩
        have w251 : IntKind.i64.wrap ((V : Int) * 251) = (V : Int) * 251 := IntWalk.i64_in _ ⟨by omega, by omega⟩
        have wc3 : IntKind.i64.wrap (c3 : Int) = (c3 : Int) := IntWalk.i64_in _ ⟨by omega, by omega⟩
        have w13 : IntKind.i64.wrap ((c3 : Int) * 13) = (c3 : Int) * 13 := IntWalk.i64_in _ ⟨by omega, by omega⟩
        have ws1 : IntKind.i64.wrap ((V : Int) * 251 + (c3 : Int) * 13) = (V : Int) * 251 + (c3 : Int) * 13 := IntWalk.i64_in _ ⟨by omega, by omega⟩
        obtain ⟨U, hU⟩ : ∃ U : Nat, U = V * 251 + c3 * 13 + at_ := ⟨_, rfl⟩
        have ws2 : IntKind.i64.wrap ((V : Int) * 251 + (c3 : Int) * 13 + (at_ : Int)) = (U : Int) := by rw [IntWalk.i64_in _ ⟨by omega, by omega⟩, hU]; simp
        clear hU hk3 hcell3 hb3
        go_enter Tryz.func98, Tryz.ntmps98
        go_wp2_with fail
        go_quiet (fail)
        go_wp2_with fail
        go_quiet (fail)
        go_wp2_with fail
        go_ret
        have hr0 : 0 ≤ (U : Int) % n := Int.emod_nonneg _ (by omega)
        have hr1 : (U : Int) % n < n := Int.emod_lt_of_pos _ (by omega)
        exact ⟨((U : Int) % n).toNat, by rw [Int.toNat_of_nonneg hr0]; rfl, by rw [Int.toNat_of_nonneg hr0]; intros; exact hr1, (unhide HS) _, (unhide HT) _⟩
      · have hnb : ¬ n ≤ 0 := by omega
        go_enter Tryz.func98, Tryz.ntmps98
        go_wp2_with fail
        go_quiet (fail)
        go_wp2_with fail
        go_ret
        have hr0 : 0 ≤ (V : Int) % n := Int.emod_nonneg _ (by omega)
        have hr1 : (V : Int) % n < n := Int.emod_lt_of_pos _ (by omega)
        exact ⟨((V : Int) % n).toNat, by rw [Int.toNat_of_nonneg hr0]; rfl, by rw [Int.toNat_of_nonneg hr0]; intros; exact hr1, (unhide HS) _, (unhide HT) _⟩

set_option maxHeartbeats 1000000 in
theorem l1Source_any (a : Option Addr) (len cap : Nat) (w : World) (hb : ∀ i, i < len → ∃ b off c : Nat, a = some ⟨b, off, none⟩ ∧ b < w.heap.size ∧ c ≤ 255 ∧ w.cell? ⟨b, off + i, none⟩ = some (.int .u8 (c : Int))) (hc : len ≤ cap) (hl : len ≤ 1048600) :
    Calls Tryz.prog 51 #[.slice a len cap] w fun e w' => e = .returned (.pointer (some ⟨w.heap.size, 0, none⟩)) ∧ Src w' w.heap.size a len cap 0 ∧ Below w.heap.size w w' := by
  have HB := hide hb
  clear hb
  go_enter Tryz.func51, Tryz.ntmps51
  go_wp2_with fail
  go_ret
  refine ⟨rfl, ⟨⟨_, heap_alloc_new _ _, rfl⟩, fun i hi => ?_, hc, hl⟩, (Below.refl _ _).alloc (Nat.le_refl _) _⟩
  obtain ⟨b, off, c, h1, h2, h3, h4⟩ := (unhide HB) i hi
  exact ⟨b, off, c, h1, h2, h3, (World.cell?_alloc_lt _ _ ⟨b, off + i, none⟩ h2).trans h4⟩

end Go.Proofs.YtcglddahphkcpaaGreatDoor

namespace Go.Proofs.YtcglddahphkcpaaGreatDoor
open Go.RowKit
set_option linter.unusedVariables false
set_option linter.unusedSimpArgs false

theorem Src.lt {w : World} {bs len cap at_ : Nat} {a : Option Addr} (h : Src w bs a len cap at_) : bs < w.heap.size := h.own.lt
theorem Src.alloc {w : World} {bs len cap at_ : Nat} {a : Option Addr} (h : Src w bs a len cap at_) (o : Obj) : Src (w.alloc o) bs a len cap at_ := h.below ((Below.refl _ _).alloc (Nat.le_refl _) o)
theorem Tch.of_below' {B b : Nat} {w w' : World} (h : Below B w w') : Tch B b w w' := ⟨h.os, h.tape, h.output, h.size, fun k hk _ => h.block k hk⟩
theorem Tch.own {B b : Nat} {w w' : World} (h : Tch B b w w') {c : Nat} {t : TypeId} {xs : List Value} (ho : Own w c t xs) (hc : c < B) (hn : c ≠ b) : Own w' c t xs := by
  obtain ⟨r, h1, h2⟩ := ho
  exact ⟨r, (h.block c hc hn).trans h1, h2⟩

set_option maxHeartbeats 1000000 in
theorem l1Pick_any (xs : List Int) (g bs len cap at_ : Nat) (a : Option Addr) (w : World) (h : Src w bs a len cap at_) (hx : Own w g 2 (xs.map (Value.int .i64))) (hg : g ≠ bs) (h1 : 1 ≤ xs.length) (h2 : xs.length ≤ 1000) (hat : at_ ≤ 1000000000) :
    Calls Tryz.prog 60 #[.pointer (some ⟨bs, 0, none⟩), .slice (some ⟨g, 0, none⟩) xs.length xs.length] w fun e w' => (∃ x ∈ xs, e = .returned (.int .i64 x)) ∧ Src w' bs a len cap (at_ + 1) ∧ Tch w.heap.size bs w w' := by
  have HX := hide hx
  clear hx
  go_enter Tryz.func60, Tryz.ntmps60
  go_wp2_with fail
  refine (l1Next_any (xs.length : Int) bs len cap at_ a _ h (by omega) hat).mono ?_
  rintro e w1 ⟨r, rfl, hr, S1, T1⟩
  have hr' : r < xs.length := by have := hr (by omega); omega
  have hrz : (r : Int) < (xs.length : Int) := by omega
  have OX := T1.own (unhide HX) (unhide HX).lt hg
  have hc := OX.cell r
  rw [List.getElem?_map, List.getElem?_eq_getElem hr'] at hc
  simp only [Option.map_some] at hc
  have hm := hide (List.getElem_mem hr')
  generalize xs[r] = x at *
  clear OX hr
  go_wp2_with fail
  go_ret
  exact ⟨⟨x, unhide hm, rfl⟩, S1, T1⟩

set_option maxRecDepth 100000 in
set_option maxHeartbeats 2000000 in
theorem l1Word_any (bs len cap at_ : Nat) (a : Option Addr) (w : World) (h : Src w bs a len cap at_) (hat : at_ ≤ 1000000000) :
    Calls Tryz.prog 158 #[.pointer (some ⟨bs, 0, none⟩)] w fun e w' => (∃ t : ByteArray, e = .returned (.string t) ∧ t.size ≤ 100) ∧ Src w' bs a len cap (at_ + 1) ∧ Tch w.heap.size bs w w' := by
  have hlt := h.lt
  have HN := hide (fun o => l1Next_any 8 bs len cap at_ a (w.alloc o) (h.alloc o) (by decide) hat)
  clear h
  go_enter Tryz.func158, Tryz.ntmps158
  go_wp2_with fail
  refine ((unhide HN) _).mono ?_
  rintro e w1 ⟨r, rfl, hr, S1, T1⟩
  have hr' : r < 8 := by have := hr (by decide); omega
  have O1 : Own w1 w.heap.size 9 _ := ⟨_, (T1.block w.heap.size (by simp) (by omega)).trans (heap_alloc_new _ _), rfl⟩
  have hc := O1.cell r
  have TT : Tch w.heap.size bs w w1 := (Tch.of_below' ((Below.refl _ _).alloc (Nat.le_refl _) _)).trans (T1.mono (by simp))
  clear O1 T1 hr HN
  obtain rfl | rfl | rfl | rfl | rfl | rfl | rfl | rfl : r = 0 ∨ r = 1 ∨ r = 2 ∨ r = 3 ∨ r = 4 ∨ r = 5 ∨ r = 6 ∨ r = 7 := by omega
  all_goals
    simp only [List.getElem?_cons_zero, List.getElem?_cons_succ] at hc
    go_wp2_with fail
    go_ret
    exact ⟨⟨_, rfl, by decide⟩, S1, TT⟩
set_option maxRecDepth 100000 in
set_option maxHeartbeats 2000000 in
theorem l1Key_any (bs len cap at_ : Nat) (a : Option Addr) (w : World) (h : Src w bs a len cap at_) (hat : at_ ≤ 1000000000) :
    Calls Tryz.prog 159 #[.pointer (some ⟨bs, 0, none⟩)] w fun e w' => (∃ t : ByteArray, e = .returned (.string t) ∧ t.size ≤ 100) ∧ Src w' bs a len cap (at_ + 1) ∧ Tch w.heap.size bs w w' := by
  have hlt := h.lt
  have HN := hide (fun o => l1Next_any 4 bs len cap at_ a (w.alloc o) (h.alloc o) (by decide) hat)
  clear h
  go_enter Tryz.func159, Tryz.ntmps159
  go_wp2_with fail
  refine ((unhide HN) _).mono ?_
  rintro e w1 ⟨r, rfl, hr, S1, T1⟩
  have hr' : r < 4 := by have := hr (by decide); omega
  have O1 : Own w1 w.heap.size 9 _ := ⟨_, (T1.block w.heap.size (by simp) (by omega)).trans (heap_alloc_new _ _), rfl⟩
  have hc := O1.cell r
  have TT : Tch w.heap.size bs w w1 := (Tch.of_below' ((Below.refl _ _).alloc (Nat.le_refl _) _)).trans (T1.mono (by simp))
  clear O1 T1 hr HN
  obtain rfl | rfl | rfl | rfl : r = 0 ∨ r = 1 ∨ r = 2 ∨ r = 3 := by omega
  all_goals
    simp only [List.getElem?_cons_zero, List.getElem?_cons_succ] at hc
    go_wp2_with fail
    go_ret
    exact ⟨⟨_, rfl, by decide⟩, S1, TT⟩

end Go.Proofs.YtcglddahphkcpaaGreatDoor

namespace Go.Proofs.YtcglddahphkcpaaGreatDoor
open Go.RowKit
set_option linter.unusedVariables false
set_option linter.unusedSimpArgs false

set_option maxHeartbeats 1000000 in
theorem l1ArrayO_any (a : Option Addr) (cap : Nat) (ps : List (List M.Cl)) (w : World) (hL : LV w a ps) (hcap : ps.length ≤ cap) (hn : ps.length ≤ 4096) (ht : tot ps ps.length ≤ 8192) (hv : ∀ j, j < ps.length → Bare (ps.getD j [])) :
    Calls Tryz.prog 85 #[.slice a ps.length cap] w fun e w' => ∃ s, e = .returned s ∧ Rs w' w.heap.size s (arrV ps) ∧ Below w.heap.size w w' := by
  have HL := hide hL
  have HV := hide hv
  clear hL hv
  obtain ⟨i0, hi, hz0, hz1, hz2⟩ := info_parts Tryz.info111
  go_enter Tryz.func85, Tryz.ntmps85
  go_wp2_with fail
  go_loopg [3, 4] ps.length (fun gh s3 s4 wr => ∃ k : Nat, Hid (gh = ps.length - k) ∧ s4 = .int .i64 k ∧ k ≤ ps.length ∧ wr.ownsRow w.heap.size 111 5 s3 (arrK ps k).length (flat (arrK ps k)) ∧ Below w.heap.size w wr)
  case atStart => exact ⟨0, rfl, rfl, by omega, one_own w w.heap.size _ (headCl 5 ps.length) rfl (Nat.le_refl _), (Below.refl _ _).alloc (Nat.le_refl _) _⟩
  case round =>
    obtain ⟨k, hg, rfl, hk, hown, hbel⟩ := hrel
    by_cases hlt : k < ps.length
    · obtain ⟨g, b, off, c, rfl, hgl, f0, hc, hb, hr⟩ := ((unhide HL).below hbel) k hlt
      have hp := ((unhide HV) k hlt).1
      have hal := arrK_length ps k
      have hts := tot_part ps k hlt
      have hsucc := hide (show flat (arrK ps k) ++ flat (ps.getD k []) = flat (arrK ps (k + 1)) by rw [arrK_succ ps k hlt, flat_append])
      have hsl := hide (show (arrK ps k).length + (ps.getD k []).length = (arrK ps (k + 1)).length by rw [arrK_succ ps k hlt, List.length_append])
      have hnews := hide (row_words hr)
      have hone := hide (flat_one (ps.getD k []))
      have HFL := hide (flat_length (ps.getD k []))
      clear hr
      generalize ps.getD k [] = p at *
      have hb63 : (arrK ps k).length + p.length ≤ maxLen := by unfold maxLen; omega
      have hby : ((arrK ps k).length + p.length) * 56 ≤ 140737488355328 := by omega
      have hbse := hide (ownsRow_base hown)
      have HOWN := hide hown
      have hbase := hbel.size
      clear hown hal hts
      go_wp2_with (at_builtin; refine wpList_append_own _ rfl (.tmp 15) (.tmp 19) 24 rfl w.heap.size 111 i0 _ 5 56 Tryz.underlying24 hi hz0 hz1 hz2 rfl (by decide) _ (arrK ps k).length _ rfl (unhide HOWN) ⟨b, off, none⟩ p.length c (flat p) rfl (unhide HFL) (unhide hnews) (unhide hone) hb63 hby hbase ?_)
      intro v' w2 ho2 hg2 _
      rw [unhide hsucc, unhide hsl] at ho2
      have B2 : Below w.heap.size w w2 := hbel.grown hg2 hbase (unhide hbse)
      have HO2 := hide ho2
      clear ho2 hg2 f0
      go_wp2_with fail
      go_roundg (ps.length - (k + 1))
      case rel => exact ⟨k + 1, rfl, by go_num, by omega, unhide HO2, B2⟩
      case measure => have := hg.out; omega
    · have hke : k = ps.length := by omega
      have hal := arrK_length ps k
      have hts := tot_le ps ps.length k hk (Nat.le_refl _)
      have fin := hide (show Rs wr w.heap.size u3 (arrV ps) by unfold arrV; rw [← hke]; exact ⟨hown, by omega⟩)
      clear hke hown hal hts
      go_wp2_with fail
      go_ret
      exact ⟨_, rfl, unhide fin, hbel⟩

end Go.Proofs.YtcglddahphkcpaaGreatDoor
