/-
  The source that draws are made of: bytes and a place; a number below another.
  Numbers, words and keys that are drawn.
-/
import Derived.Test.YtikeffckhklhbaaGreatDoorX02
import Derived.Deep.RegionHeld3
namespace Go.Proofs.YtikeffckhklhbaaGreatDoor
open Go.RowKit
set_option linter.unusedVariables false
set_option linter.unusedSimpArgs false

/-- A source of draws: its bytes lie elsewhere. -/
structure Src (w : World) (bs : Nat) (a : Option Addr) (len cap at_ : Nat) : Prop where
  own : Own w bs 73 [.slice a len cap, .int .i64 (at_ : Int)]
  byt : ∀ i, i < len → ∃ b off c : Nat, a = some ⟨b, off, none⟩ ∧ b < bs ∧ c ≤ 255 ∧ w.cell? ⟨b, off + i, none⟩ = some (.int .u8 (c : Int))
  cap : len ≤ cap
  small : len ≤ 1048600
theorem Src.drewN {w : World} {bs len cap at_ : Nat} {a : Option Addr} (h : Src w bs a len cap at_) (q : Nat) : Src (w.drewN q) bs a len cap at_ := ⟨h.own, h.byt, h.cap, h.small⟩
theorem Src.step {w : World} {bs len cap at_ : Nat} {a : Option Addr} (h : Src w bs a len cap at_) : Src (w.setCell ⟨bs, 1, none⟩ (.int .i64 ((at_ : Int) + 1))) bs a len cap (at_ + 1) :=
  ⟨h.own.set 1 _, fun i hi => by
    obtain ⟨b, off, c, h1, h2, h3, h4⟩ := h.byt i hi
    exact ⟨b, off, c, h1, h2, h3, (World.cell?_setCell_other _ _ _ _ (fun e => by injection e with e1 e2; omega)).trans h4⟩, h.cap, h.small⟩
/-- What turns nothing up to the source's own block. -/
theorem Src.keep {w w' : World} {bs len cap at_ : Nat} {a : Option Addr} (h : Src w bs a len cap at_) (hk : ∀ k, k ≤ bs → w'.heap[k]? = w.heap[k]?) : Src w' bs a len cap at_ :=
  ⟨by obtain ⟨r, h1, h2⟩ := h.own; exact ⟨r, (hk bs (Nat.le_refl _)).trans h1, h2⟩, fun i hi => by
    obtain ⟨b, off, c, h1, h2, h3, h4⟩ := h.byt i hi
    refine ⟨b, off, c, h1, h2, h3, ?_⟩
    rw [← h4]; unfold World.cell?; rw [hk b (by omega)], h.cap, h.small⟩
theorem Src.below {w w' : World} {bs len cap at_ : Nat} {a : Option Addr} (h : Src w bs a len cap at_) (hb : Below w.heap.size w w') : Src w' bs a len cap at_ := h.keep fun k hk => hb.block k (by have := h.own.lt; omega)
theorem Src.set {w : World} {bs len cap at_ : Nat} {a : Option Addr} (h : Src w bs a len cap at_) (T j : Nat) (x : Value) (hT : bs < T) : Src (w.setCell ⟨T, j, none⟩ x) bs a len cap at_ := h.keep fun k hk => heap_setCell_other _ ⟨T, j, none⟩ k x (by simp only; omega)

set_option maxRecDepth 100000 in
set_option maxHeartbeats 2000000 in
theorem l1Next_any (n : Int) (bs len cap at_ : Nat) (a : Option Addr) (w : World) (h : Src w bs a len cap at_) (hn : n ≤ 1000000000) (hat : at_ ≤ 1000000000) :
    Calls Tryz.prog 28 #[.pointer (some ⟨bs, 0, none⟩), .int .i64 n] w fun e w' => ∃ r : Nat, e = .returned (.int .i64 (r : Int)) ∧ (1 ≤ n → (r : Int) < n) ∧ Src w' bs a len cap (at_ + 1) ∧ Tch w.heap.size bs w w' := by
  have q1 := h.own.cell 1
  have z1 := h.own.frozen 1
  simp only [List.getElem?_cons_zero, List.getElem?_cons_succ] at q1
  have S1 := h.step
  have T1 : Tch w.heap.size bs w (w.setCell ⟨bs, 1, none⟩ (.int .i64 ((at_ : Int) + 1))) := Tch.set _ _ _ _ _
  have d0 : ∀ q, ((w.setCell ⟨bs, 1, none⟩ (.int .i64 ((at_ : Int) + 1))).drewN q).cell? ⟨bs, 0, none⟩ = some (.slice a len cap) := fun q => S1.own.cell 0
  have HS := hide (fun q => S1.drewN q)
  have HT := hide (fun q => T1.drewN q)
  have e0 : (w.setCell ⟨bs, 1, none⟩ (.int .i64 ((at_ : Int) + 1))).cell? ⟨bs, 0, none⟩ = some (.slice a len cap) := S1.own.cell 0
  have HBY := hide S1.byt
  have hsm := h.small
  clear S1 T1 h
  by_cases hn1 : n < 1
  · go_enter Tryz.func28, Tryz.ntmps28
    go_wp2_with fail
    go_ret
    exact ⟨0, rfl, fun h => by omega, (unhide HS) 0, (unhide HT) 0⟩
  · by_cases hl : len = 0
    · have hlb : ((len : Int) == 0) = true := by rw [hl]; rfl
      have h7 : IntKind.i64.wrap ((at_ : Int) * 7) = (at_ : Int) * 7 := IntWalk.i64_in _ ⟨by omega, by omega⟩
      have hne : ¬ n = 0 := by omega
      have hneb : (n == 0) = false := by simpa using hne
      clear hl
      go_enter Tryz.func28, Tryz.ntmps28
      go_wp2_with fail
      go_ret
      have hr0 : 0 ≤ (at_ : Int) * 7 % n := Int.emod_nonneg _ (by omega)
      have hr1 : (at_ : Int) * 7 % n < n := Int.emod_lt_of_pos _ (by omega)
      exact ⟨((at_ : Int) * 7 % n).toNat, by rw [Int.toNat_of_nonneg hr0]; rfl, by rw [Int.toNat_of_nonneg hr0]; intros; exact hr1, (unhide HS) 0, (unhide HT) 0⟩
    · have hlb : ((len : Int) == 0) = false := by rw [beq_eq_false_iff_ne]; omega
      have hlz : ¬ (len : Int) = 0 := by omega
      have hl0 : 0 < len := by omega
      obtain ⟨k1, hk1⟩ : ∃ k, k = at_ % len := ⟨_, rfl⟩
      obtain ⟨k2, hk2⟩ : ∃ k, k = at_ / len := ⟨_, rfl⟩
      have hk1l : k1 < len := by rw [hk1]; exact Nat.mod_lt _ hl0
      have hk2l : k2 ≤ at_ := by rw [hk2]; exact Nat.div_le_self _ _
      have hrem : (at_ : Int).tmod (len : Int) = (k1 : Int) := by rw [hk1]; rfl
      have hquo : (at_ : Int).tdiv (len : Int) = (k2 : Int) := by rw [hk2]; rfl
      obtain ⟨b, off, c, rfl, hb, hc, hcell⟩ := (unhide HBY) k1 hk1l
      have hcell' : ∀ q, ((w.setCell ⟨bs, 1, none⟩ (.int .i64 ((at_ : Int) + 1))).drewN q).cell? ⟨b, off + k1, none⟩ = some (.int .u8 (c : Int)) := fun q => hcell
      have hi0 : (0 : Int) ≤ (k1 : Int) := by omega
      have hi1 : (k1 : Int) < (len : Int) := by omega
      have wq : IntKind.i64.wrap (k2 : Int) = (k2 : Int) := IntWalk.i64_in _ ⟨by omega, by omega⟩
      have w37 : IntKind.i64.wrap ((k2 : Int) * 37) = (k2 : Int) * 37 := IntWalk.i64_in _ ⟨by omega, by omega⟩
      have wc : IntKind.i64.wrap (c : Int) = (c : Int) := IntWalk.i64_in _ ⟨by omega, by omega⟩
      obtain ⟨V, hV⟩ : ∃ V : Nat, V = c + k2 * 37 := ⟨_, rfl⟩
      have wv : IntKind.i64.wrap ((c : Int) + (k2 : Int) * 37) = (V : Int) := by rw [IntWalk.i64_in _ ⟨by omega, by omega⟩, hV]; simp
      have hVl : V ≤ 255 + 37000000000 := by omega
      clear hk1 hk2 hV hl hcell
      by_cases h200 : 200 < n
      · obtain ⟨k3, hk3⟩ : ∃ k, k = (at_ + 1) % len := ⟨_, rfl⟩
        have hk3l : k3 < len := by rw [hk3]; exact Nat.mod_lt _ hl0
        have hrem3 : ((at_ : Int) + 1).tmod (len : Int) = (k3 : Int) := by rw [hk3]; rfl
        obtain ⟨b3, off3, c3, he3, hb3, hc3, hcell3⟩ := (unhide HBY) k3 hk3l
        cases he3
        have hcell3' : ∀ q, ((w.setCell ⟨bs, 1, none⟩ (.int .i64 ((at_ : Int) + 1))).drewN q).cell? ⟨b, off + k3, none⟩ = some (.int .u8 (c3 : Int)) := fun q => hcell3
        have hj0 : (0 : Int) ≤ (k3 : Int) := by omega
        have hj1 : (k3 : Int) < (len : Int) := by omega
        have w1 : IntKind.i64.wrap ((at_ : Int) + 1) = (at_ : Int) + 1 := IntWalk.i64_in _ ⟨by omega, by omega⟩
        have w251 : IntKind.i64.wrap ((V : Int) * 251) = (V : Int) * 251 := IntWalk.i64_in _ ⟨by omega, by omega⟩
        have wc3 : IntKind.i64.wrap (c3 : Int) = (c3 : Int) := IntWalk.i64_in _ ⟨by omega, by omega⟩
        have w13 : IntKind.i64.wrap ((c3 : Int) * 13) = (c3 : Int) * 13 := IntWalk.i64_in _ ⟨by omega, by omega⟩
        have ws1 : IntKind.i64.wrap ((V : Int) * 251 + (c3 : Int) * 13) = (V : Int) * 251 + (c3 : Int) * 13 := IntWalk.i64_in _ ⟨by omega, by omega⟩
        obtain ⟨U, hU⟩ : ∃ U : Nat, U = V * 251 + c3 * 13 + at_ := ⟨_, rfl⟩
        have ws2 : IntKind.i64.wrap ((V : Int) * 251 + (c3 : Int) * 13 + (at_ : Int)) = (U : Int) := by rw [IntWalk.i64_in _ ⟨by omega, by omega⟩, hU]; simp
        clear hU hk3 hcell3 hb3
        go_enter Tryz.func28, Tryz.ntmps28
        go_wp2_with fail
        go_quiet (fail)
        go_wp2_with fail
        go_quiet (fail)
        go_wp2_with fail
        go_ret
        have hr0 : 0 ≤ (U : Int) % n := Int.emod_nonneg _ (by omega)
        have hr1 : (U : Int) % n < n := Int.emod_lt_of_pos _ (by omega)
        exact ⟨((U : Int) % n).toNat, by rw [Int.toNat_of_nonneg hr0]; rfl, by rw [Int.toNat_of_nonneg hr0]; intros; exact hr1, (unhide HS) _, (unhide HT) _⟩
      · have hnb : ¬ n ≤ 0 := by omega
        go_enter Tryz.func28, Tryz.ntmps28
        go_wp2_with fail
        go_quiet (fail)
        go_wp2_with fail
        go_ret
        have hr0 : 0 ≤ (V : Int) % n := Int.emod_nonneg _ (by omega)
        have hr1 : (V : Int) % n < n := Int.emod_lt_of_pos _ (by omega)
        exact ⟨((V : Int) % n).toNat, by rw [Int.toNat_of_nonneg hr0]; rfl, by rw [Int.toNat_of_nonneg hr0]; intros; exact hr1, (unhide HS) _, (unhide HT) _⟩

set_option maxHeartbeats 1000000 in
theorem l1Source_any (a : Option Addr) (len cap : Nat) (w : World) (hb : ∀ i, i < len → ∃ b off c : Nat, a = some ⟨b, off, none⟩ ∧ b < w.heap.size ∧ c ≤ 255 ∧ w.cell? ⟨b, off + i, none⟩ = some (.int .u8 (c : Int))) (hc : len ≤ cap) (hl : len ≤ 1048600) :
    Calls Tryz.prog 15 #[.slice a len cap] w fun e w' => e = .returned (.pointer (some ⟨w.heap.size, 0, none⟩)) ∧ Src w' w.heap.size a len cap 0 ∧ Below w.heap.size w w' := by
  have HB := hide hb
  clear hb
  go_enter Tryz.func15, Tryz.ntmps15
  go_wp2_with fail
  go_ret
  refine ⟨rfl, ⟨⟨_, heap_alloc_new _ _, rfl⟩, fun i hi => ?_, hc, hl⟩, (Below.refl _ _).alloc (Nat.le_refl _) _⟩
  obtain ⟨b, off, c, h1, h2, h3, h4⟩ := (unhide HB) i hi
  exact ⟨b, off, c, h1, h2, h3, (World.cell?_alloc_lt _ _ ⟨b, off + i, none⟩ h2).trans h4⟩

end Go.Proofs.YtikeffckhklhbaaGreatDoor

namespace Go.Proofs.YtikeffckhklhbaaGreatDoor
open Go.RowKit
set_option linter.unusedVariables false
set_option linter.unusedSimpArgs false

theorem Src.lt {w : World} {bs len cap at_ : Nat} {a : Option Addr} (h : Src w bs a len cap at_) : bs < w.heap.size := h.own.lt
theorem Src.alloc {w : World} {bs len cap at_ : Nat} {a : Option Addr} (h : Src w bs a len cap at_) (o : Obj) : Src (w.alloc o) bs a len cap at_ := h.below ((Below.refl _ _).alloc (Nat.le_refl _) o)
theorem Tch.of_below' {B b : Nat} {w w' : World} (h : Below B w w') : Tch B b w w' := ⟨h.os, h.tape, h.output, h.size, fun k hk _ => h.block k hk⟩
theorem Tch.own {B b : Nat} {w w' : World} (h : Tch B b w w') {c : Nat} {t : TypeId} {xs : List Value} (ho : Own w c t xs) (hc : c < B) (hn : c ≠ b) : Own w' c t xs := by
  obtain ⟨r, h1, h2⟩ := ho
  exact ⟨r, (h.block c hc hn).trans h1, h2⟩

set_option maxHeartbeats 1000000 in
theorem l1Pick_any (xs : List Int) (g bs len cap at_ : Nat) (a : Option Addr) (w : World) (h : Src w bs a len cap at_) (hx : Own w g 2 (xs.map (Value.int .i64))) (hg : g ≠ bs) (h1 : 1 ≤ xs.length) (h2 : xs.length ≤ 1000) (hat : at_ ≤ 1000000000) :
    Calls Tryz.prog 29 #[.pointer (some ⟨bs, 0, none⟩), .slice (some ⟨g, 0, none⟩) xs.length xs.length] w fun e w' => (∃ x ∈ xs, e = .returned (.int .i64 x)) ∧ Src w' bs a len cap (at_ + 1) ∧ Tch w.heap.size bs w w' := by
  have HX := hide hx
  clear hx
  go_enter Tryz.func29, Tryz.ntmps29
  go_wp2_with fail
  refine (l1Next_any (xs.length : Int) bs len cap at_ a _ h (by omega) hat).mono ?_
  rintro e w1 ⟨r, rfl, hr, S1, T1⟩
  have hr' : r < xs.length := by have := hr (by omega); omega
  have hrz : (r : Int) < (xs.length : Int) := by omega
  have OX := T1.own (unhide HX) (unhide HX).lt hg
  have hc := OX.cell r
  rw [List.getElem?_map, List.getElem?_eq_getElem hr'] at hc
  simp only [Option.map_some] at hc
  have hm := hide (List.getElem_mem hr')
  generalize xs[r] = x at *
  clear OX hr
  go_wp2_with fail
  go_ret
  exact ⟨⟨x, unhide hm, rfl⟩, S1, T1⟩

set_option maxRecDepth 100000 in
set_option maxHeartbeats 2000000 in
theorem l1Word_any (bs len cap at_ : Nat) (a : Option Addr) (w : World) (h : Src w bs a len cap at_) (hat : at_ ≤ 1000000000) :
    Calls Tryz.prog 61 #[.pointer (some ⟨bs, 0, none⟩)] w fun e w' => (∃ t : ByteArray, e = .returned (.string t) ∧ t.size ≤ 100) ∧ Src w' bs a len cap (at_ + 1) ∧ Tch w.heap.size bs w w' := by
  have hlt := h.lt
  have HN := hide (fun o => l1Next_any 8 bs len cap at_ a (w.alloc o) (h.alloc o) (by decide) hat)
  clear h
  go_enter Tryz.func61, Tryz.ntmps61
  go_wp2_with fail
  refine ((unhide HN) _).mono ?_
  rintro e w1 ⟨r, rfl, hr, S1, T1⟩
  have hr' : r < 8 := by have := hr (by decide); omega
  have O1 : Own w1 w.heap.size 9 _ := ⟨_, (T1.block w.heap.size (by simp) (by omega)).trans (heap_alloc_new _ _), rfl⟩
  have hc := O1.cell r
  have TT : Tch w.heap.size bs w w1 := (Tch.of_below' ((Below.refl _ _).alloc (Nat.le_refl _) _)).trans (T1.mono (by simp))
  clear O1 T1 hr HN
  obtain rfl | rfl | rfl | rfl | rfl | rfl | rfl | rfl : r = 0 ∨ r = 1 ∨ r = 2 ∨ r = 3 ∨ r = 4 ∨ r = 5 ∨ r = 6 ∨ r = 7 := by omega
  all_goals
    simp only [List.getElem?_cons_zero, List.getElem?_cons_succ] at hc
    go_wp2_with fail
    go_ret
    exact ⟨⟨_, rfl, by decide⟩, S1, TT⟩
set_option maxRecDepth 100000 in
set_option maxHeartbeats 2000000 in
theorem l1Key_any (bs len cap at_ : Nat) (a : Option Addr) (w : World) (h : Src w bs a len cap at_) (hat : at_ ≤ 1000000000) :
    Calls Tryz.prog 63 #[.pointer (some ⟨bs, 0, none⟩)] w fun e w' => (∃ t : ByteArray, e = .returned (.string t) ∧ t.size ≤ 100) ∧ Src w' bs a len cap (at_ + 1) ∧ Tch w.heap.size bs w w' := by
  have hlt := h.lt
  have HN := hide (fun o => l1Next_any 4 bs len cap at_ a (w.alloc o) (h.alloc o) (by decide) hat)
  clear h
  go_enter Tryz.func63, Tryz.ntmps63
  go_wp2_with fail
  refine ((unhide HN) _).mono ?_
  rintro e w1 ⟨r, rfl, hr, S1, T1⟩
  have hr' : r < 4 := by have := hr (by decide); omega
  have O1 : Own w1 w.heap.size 9 _ := ⟨_, (T1.block w.heap.size (by simp) (by omega)).trans (heap_alloc_new _ _), rfl⟩
  have hc := O1.cell r
  have TT : Tch w.heap.size bs w w1 := (Tch.of_below' ((Below.refl _ _).alloc (Nat.le_refl _) _)).trans (T1.mono (by simp))
  clear O1 T1 hr HN
  obtain rfl | rfl | rfl | rfl : r = 0 ∨ r = 1 ∨ r = 2 ∨ r = 3 := by omega
  all_goals
    simp only [List.getElem?_cons_zero, List.getElem?_cons_succ] at hc
    go_wp2_with fail
    go_ret
    exact ⟨⟨_, rfl, by decide⟩, S1, TT⟩

end Go.Proofs.YtikeffckhklhbaaGreatDoor
