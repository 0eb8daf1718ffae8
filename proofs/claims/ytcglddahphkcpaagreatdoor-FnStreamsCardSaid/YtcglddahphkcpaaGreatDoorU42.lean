/-
  Rows of keys and of parts that are built by appends, beside one another.
  What is kept while values are drawn.
  What is kept while the parts of a value are drawn.
  spec.l1Value of depth 1.
-/
import Derived.Test.YtcglddahphkcpaaGreatDoorU17
import Derived.Test.YtcglddahphkcpaaGreatDoorU23
namespace Go.Proofs.YtcglddahphkcpaaGreatDoor
open Go.RowKit
set_option linter.unusedVariables false
set_option linter.unusedSimpArgs false

namespace Dc
theorem ks_grown {w w' : World} {B base : Nat} {v s : Value} {ks : List ByteArray} {n size : Nat} {e : TypeId} {xs : List Value} (h : KS w B v ks) (ho : w.ownsRow base e size s n xs) (hne : e ≠ 9) (hg : w.grownBy w' s.ownBlock) : KS w' B v ks := by
  obtain ⟨h1, h2 | ⟨g, cap, cur, h3, h4, h5, h6⟩⟩ := h
  · exact ⟨h1, .inl h2⟩
  · obtain ⟨c, hc, ec⟩ := grown_own hg (b := g) (t := 9) (ys := cur.toList) ⟨cur, h5, rfl⟩ (other_block ho (b := g) (t := 9) (ys := cur.toList) ⟨cur, h5, rfl⟩ hne)
    have : c = cur := Array.toList_inj.1 ec
    subst this
    exact ⟨h1, .inr ⟨g, cap, c, h3, h4, hc, h6⟩⟩
theorem ss_grown {w w' : World} {B base : Nat} {v s : Value} {ps : List (List M.Cl)} {e : TypeId} {size n : Nat} {xs : List Value} (h : SS w B v ps) (ho : w.ownsRow base e size s n xs) (h1 : e ≠ 24) (h2 : e ≠ 111) (hg : w.grownBy w' s.ownBlock) : SS w' B v ps := by
  obtain ⟨ss, hl, hown, hres⟩ := h
  refine ⟨ss, hl, hown.kept hg ?_, fun i hi => grown_res ho hg (hres i hi) h2⟩
  obtain ⟨_, ⟨rfl, _⟩ | ⟨g, cap, cur, rfl, _, hh, _⟩⟩ := hown
  · exact .inl rfl
  · refine .inr fun e => ?_
    exact other_block ho (b := g) (t := 24) (ys := cur.toList) ⟨cur, hh, rfl⟩ h1 (by rw [← e]; rfl)
theorem ks_alloc {w : World} {B : Nat} {v : Value} {ks : List ByteArray} (h : KS w B v ks) (o : Obj) : KS (w.alloc o) B v ks := h.below ((Below.refl _ _).alloc (Nat.le_refl _) o)
theorem ss_alloc {w : World} {B : Nat} {v : Value} {ps : List (List M.Cl)} (h : SS w B v ps) (o : Obj) : SS (w.alloc o) B v ps := h.below ((Below.refl _ _).alloc (Nat.le_refl _) o)
theorem ks_empty (w : World) (B b : Nat) (hb : b = w.heap.size) (hB : B ≤ b) : KS (w.alloc (.cells #[] 9)) B (.slice (some ⟨b, 0, none⟩) 0 0) [] := by
  subst hb
  exact ⟨rfl, .inr ⟨w.heap.size, 0, #[], rfl, hB, heap_alloc_new _ _, Nat.le_refl _, by simp [maxLen], rfl, rfl⟩⟩
theorem ks_nil (w : World) (B : Nat) : KS w B (.slice none 0 0) [] := World.ownsRow_nil _ _ _ _
theorem one_str (key : ByteArray) : ∀ u ∈ ([Value.string key] : List Value), u.oneCell' = true := by
  intro u hu; simp only [List.mem_cons, List.not_mem_nil, or_false] at hu; subst hu; rfl
/-- The two rows. -/
structure Rw (wr : World) (B : Nat) (sk sl : Value) (ks : List ByteArray) (ps : List (List M.Cl)) : Prop where
  keys : KS wr B sk ks
  list : SS wr B sl ps
/-- A key more. -/
theorem Rw.key {wr w3 : World} {B : Nat} {sk sl v' : Value} {ks : List ByteArray} {ps : List (List M.Cl)} {o : Obj} {key : ByteArray} (h : Rw wr B sk sl ks ps) (hg : (wr.alloc o).grownBy w3 sk.ownBlock) (ho : w3.ownsRow B 9 1 v' (ks.length + 1) (ks.map Value.string ++ [.string key])) : Rw w3 B v' sl (ks ++ [key]) ps := by
  refine ⟨?_, ss_grown (ss_alloc h.list o) (ks_alloc h.keys o) (by decide) (by decide) hg⟩
  unfold KS
  simpa using ho
/-- A part more. -/
theorem Rw.part {wr w3 : World} {B : Nat} {sk sl v' sp : Value} {ks : List ByteArray} {ps : List (List M.Cl)} {o : Obj} {p : List M.Cl} {ss : List Value} (h : Rw wr B sk sl ks ps) (hl : ss.length = ps.length) (hown : wr.ownsRow B 24 1 sl ps.length ss) (hres : ∀ i, i < ps.length → Res wr B (ss.getD i (.slice none 0 0)) (ps.getD i [])) (hp : Res wr B sp p) (hg : (wr.alloc o).grownBy w3 sl.ownBlock) (ho : w3.ownsRow B 24 1 v' (ps.length + 1) (ss ++ [sp])) : Rw w3 B sk v' ks (ps ++ [p]) :=
  ⟨ks_grown (ks_alloc h.keys o) (hown.alloc o) (by decide) hg, SS.snoc rfl hl hown hres hp hg ho⟩
theorem bare_ne {ps : List (List M.Cl)} (h : ∀ j, j < ps.length → Bare (ps.getD j [])) : ∀ j, j < ps.length → ps.getD j [] ≠ [] := by
  intro j hj e
  have := (h j hj).1
  rw [e] at this
  simp at this
end Dc

end Go.Proofs.YtcglddahphkcpaaGreatDoor

namespace Go.Proofs.YtcglddahphkcpaaGreatDoor
open Go.RowKit
set_option linter.unusedVariables false
set_option linter.unusedSimpArgs false

namespace Dv
section
variable {w w' : World} {B : Nat}
theorem res_kept {s : Value} {l : List M.Cl} (h : Res w B s l) (hk : ∀ b, B ≤ b → b < w.heap.size → w'.heap[b]? = w.heap[b]?) : Res w' B s l := by
  obtain ⟨hn, h | ⟨b, cap, h1, h2, h3, xs, ho, hw⟩⟩ := h
  · exact ⟨hn, .inl h⟩
  · have hl := ho.lt
    obtain ⟨c, q1, q2⟩ := ho
    exact ⟨hn, .inr ⟨b, cap, h1, h2, h3, xs, ⟨c, (hk b h2 hl).trans q1, q2⟩, hw⟩⟩
theorem owns_kept {e : TypeId} {k : Nat} {v : Value} {n : Nat} {xs : List Value} (h : w.ownsRow B e k v n xs) (hk : ∀ b, B ≤ b → b < w.heap.size → w'.heap[b]? = w.heap[b]?) : w'.ownsRow B e k v n xs := by
  obtain ⟨h1, h2 | ⟨g, cap, cur, h3, h4, h5, h6⟩⟩ := h
  · exact ⟨h1, .inl h2⟩
  · exact ⟨h1, .inr ⟨g, cap, cur, h3, h4, (hk g h4 (Array.getElem?_eq_some_iff.1 h5).1).trans h5, h6⟩⟩
theorem rw_kept {sk sl : Value} {ks : List ByteArray} {ps : List (List M.Cl)} (h : Dc.Rw w B sk sl ks ps) (hk : ∀ b, B ≤ b → b < w.heap.size → w'.heap[b]? = w.heap[b]?) : Dc.Rw w' B sk sl ks ps := by
  obtain ⟨h1, ss, h2, h3, h4⟩ := h
  exact ⟨owns_kept h1 hk, ss, h2, owns_kept h3 hk, fun i hi => res_kept (h4 i hi) hk⟩
theorem Tch.kept {bs : Nat} (h : Tch w.heap.size bs w w') (hB : bs < B) : ∀ b, B ≤ b → b < w.heap.size → w'.heap[b]? = w.heap[b]? := fun b h1 h2 => h.block b h2 (by omega)
end
/-- A value that was drawn: a row of its own, its first cell without a key, no more than N cells; the source has gone on. -/
def Out (w : World) (bs : Nat) (a : Option Addr) (len cap at_ N K : Nat) (e : Ending) (w' : World) : Prop :=
  ∃ s l at2, e = .returned s ∧ Rs w' w.heap.size s l ∧ Bare l ∧ l.length ≤ N ∧ (∀ c ∈ l, c.ok) ∧ Src w' bs a len cap at2 ∧ at2 ≤ at_ + K ∧ Tch w.heap.size bs w w'
def Says (d : Int) (N K mx : Nat) : Prop := ∀ (bs len cap at_ : Nat) (a : Option Addr) (w : World), Src w bs a len cap at_ → at_ ≤ mx →
  Calls Tryz.prog 97 #[.pointer (some ⟨bs, 0, none⟩), .int .i64 d] w (Out w bs a len cap at_ N K)
theorem out_one {w w1 w2 : World} {bs len cap at_ at2 N K : Nat} {a : Option Addr} {s : Value} {c : M.Cl} (hT : Tch w.heap.size bs w w1) (hS : Src w1 bs a len cap at2) (h : Rs w2 w1.heap.size s [c]) (hb : Below w1.heap.size w1 w2) (hk : c.key = ByteArray.empty) (ho : c.ok) (hN : 1 ≤ N) (hK : at2 ≤ at_ + K) : Out w bs a len cap at_ N K (.returned s) w2 := by
  refine ⟨s, [c], at2, rfl, h.mono hT.size, ⟨by simp, ?_⟩, by simpa using hN, fun x hx => ?_, hS.below hb, hK, hT.trans ((Tch.of_below' hb).mono hT.size)⟩
  · obtain ⟨k, n, t, ky, m⟩ := c
    simp only at hk
    subst hk
    rfl
  · rw [List.mem_singleton] at hx
    rw [hx]; exact ho
theorem ok_mk {k n m : Int} {t ky : ByteArray} (hk : -100000 ≤ k ∧ k ≤ 100000) (hn : -5000000000000000000 ≤ n ∧ n ≤ 5000000000000000000) (hm : -100000 ≤ m ∧ m ≤ 100000) (ht : t.size ≤ 100000) (hy : ky.size ≤ 100000) : (⟨k, n, t, ky, m⟩ : M.Cl).ok := by
  unfold M.Cl.ok
  simp only
  omega
theorem ok_kind (k : Int) (h : 0 ≤ k ∧ k ≤ 10) : (⟨k, 0, ByteArray.empty, ByteArray.empty, 0⟩ : M.Cl).ok := ok_mk (by omega) (by omega) (by omega) (by decide) (by decide)
theorem ok_num (n : Int) (h : -1000000000000000 ≤ n ∧ n ≤ 1000000000000000) : (⟨3, n, ByteArray.empty, ByteArray.empty, 0⟩ : M.Cl).ok := ok_mk (by omega) (by omega) (by omega) (by decide) (by decide)
theorem ok_str (t : ByteArray) (h : t.size ≤ 100) : (⟨4, 0, t, ByteArray.empty, 0⟩ : M.Cl).ok := ok_mk (by omega) (by omega) (by omega) (by omega) (by decide)
end Dv

end Go.Proofs.YtcglddahphkcpaaGreatDoor

namespace Go.Proofs.YtcglddahphkcpaaGreatDoor
open Go.RowKit
set_option linter.unusedVariables false
set_option linter.unusedSimpArgs false

namespace Dv
theorem getD_app {α : Type} (ps : List α) (p z : α) (Q : α → Prop) (h : ∀ j, j < ps.length → Q (ps.getD j z)) (hp : Q p) : ∀ j, j < (ps ++ [p]).length → Q ((ps ++ [p]).getD j z) := fun j hj => by
  rw [List.getD_eq_getElem?_getD]
  rw [List.length_append] at hj
  by_cases e : j < ps.length
  · rw [List.getElem?_append_left e, ← List.getD_eq_getElem?_getD]; exact h j e
  · have : j = ps.length := by simp at hj; omega
    subst this
    rw [List.getElem?_append_right (Nat.le_refl _), Nat.sub_self]
    exact hp
/-- Keys and parts so far. -/
structure Lp (w wr : World) (bs : Nat) (a : Option Addr) (len cap N : Nat) (sk sl : Value) (ks : List ByteArray) (ps : List (List M.Cl)) (at2 : Nat) : Prop where
  rw : Dc.Rw wr w.heap.size sk sl ks ps
  bare : ∀ j, j < ps.length → Bare (ps.getD j [])
  sz : ∀ j, j < ps.length → (ps.getD j []).length ≤ N
  ok : ∀ j, j < ps.length → ∀ c ∈ ps.getD j [], c.ok
  kok : ∀ j, j < ks.length → (ks.getD j ByteArray.empty).size ≤ 100
  src : Src wr bs a len cap at2
  tch : Tch w.heap.size bs w wr
  lt : bs < w.heap.size
section
variable {w wr w2 w3 : World} {bs len cap N at2 at3 : Nat} {a : Option Addr} {sk sl v' sp : Value} {ks : List ByteArray} {ps : List (List M.Cl)}
theorem Lp.call (h : Lp w wr bs a len cap N sk sl ks ps at2) (hS : Src w2 bs a len cap at3) (hT : Tch wr.heap.size bs wr w2) : Lp w w2 bs a len cap N sk sl ks ps at3 :=
  ⟨rw_kept h.rw (Tch.kept hT h.lt), h.bare, h.sz, h.ok, h.kok, hS, h.tch.trans (hT.mono h.tch.size), h.lt⟩
theorem grown_tch {o : Obj} {row : Option Nat} (h : Tch w.heap.size bs w wr) (hg : (wr.alloc o).grownBy w3 row) (hr : ∀ k, row = some k → w.heap.size ≤ k) : Tch w.heap.size bs w w3 :=
  ⟨hg.os.trans h.os, hg.tape.trans h.tape, hg.output.trans h.output, Nat.le_trans h.size (by have := hg.size; simp at this; omega), fun k hk hn => by
    have h1 : k < wr.heap.size := Nat.lt_of_lt_of_le hk h.size
    have h2 := hg.block k (by simp; omega) (fun e => by have := hr k e.symm; omega)
    rw [h2, heap_alloc_old _ _ h1]
    exact h.block k hk hn⟩
theorem grown_src {o : Obj} {row : Option Nat} (h : Src wr bs a len cap at2) (hg : (wr.alloc o).grownBy w3 row) (hr : ∀ k, row = some k → bs < k) : Src w3 bs a len cap at2 := h.keep fun k hk => by
  have h1 : k < wr.heap.size := by have := h.lt; omega
  have h2 := hg.block k (by simp; omega) (fun e => by have := hr k e.symm; omega)
  rw [h2, heap_alloc_old _ _ h1]
theorem Lp.part (h : Lp w wr bs a len cap N sk sl ks ps at2) {p : List M.Cl} {o : Obj} {ss : List Value} (hp : Res wr w.heap.size sp p) (hb : Bare p) (hl : p.length ≤ N) (hok : ∀ c ∈ p, c.ok) (hsl : ss.length = ps.length) (hown : wr.ownsRow w.heap.size 24 1 sl ps.length ss) (hres : ∀ i, i < ps.length → Res wr w.heap.size (ss.getD i (.slice none 0 0)) (ps.getD i []))
    (hg : (wr.alloc o).grownBy w3 sl.ownBlock) (ho : w3.ownsRow w.heap.size 24 1 v' (ps.length + 1) (ss ++ [sp])) : Lp w w3 bs a len cap N sk v' ks (ps ++ [p]) at2 :=
  ⟨h.rw.part hsl hown hres hp hg ho, getD_app ps p [] Bare h.bare hb, getD_app ps p [] (fun x => x.length ≤ N) h.sz hl, getD_app ps p [] (fun x => ∀ c ∈ x, c.ok) h.ok hok, h.kok, grown_src h.src hg (fun k e => by have := ownsRow_base hown k e; have := h.lt; omega), grown_tch h.tch hg (ownsRow_base hown), h.lt⟩
theorem Lp.key (h : Lp w wr bs a len cap N sk sl ks ps at2) {key : ByteArray} {o : Obj} (hk : key.size ≤ 100) (hg : (wr.alloc o).grownBy w3 sk.ownBlock) (ho : w3.ownsRow w.heap.size 9 1 v' (ks.length + 1) (ks.map Value.string ++ [.string key])) : Lp w w3 bs a len cap N v' sl (ks ++ [key]) ps at2 :=
  ⟨h.rw.key hg ho, h.bare, h.sz, h.ok, getD_app ks key ByteArray.empty (fun x => x.size ≤ 100) h.kok hk, grown_src h.src hg (fun k e => by have := ownsRow_base h.rw.keys k e; have := h.lt; omega), grown_tch h.tch hg (ownsRow_base h.rw.keys), h.lt⟩
end
theorem tot_le3 {ps : List (List M.Cl)} {N : Nat} (hs : ∀ j, j < ps.length → (ps.getD j []).length ≤ N) : ∀ k, k ≤ ps.length → tot ps k ≤ k * N := by
  intro k
  induction k with
  | zero => intro _; simp [tot]
  | succ k ih =>
    intro hk
    have h1 := ih (by omega)
    have h2 := tot_succ ps k (by omega)
    have h3 := hs k (by omega)
    rw [h2, Nat.add_mul]
    omega
end Dv

end Go.Proofs.YtcglddahphkcpaaGreatDoor

namespace Go.Proofs.YtcglddahphkcpaaGreatDoor
open Go.RowKit
set_option linter.unusedVariables false
set_option linter.unusedSimpArgs false

set_option maxRecDepth 100000 in
set_option maxHeartbeats 4000000 in
theorem Dv.says_1 : Dv.Says 1 1 6 900000000 := by
  intro bs len cap at_ a w h hat
  go_enter Tryz.func97, Tryz.ntmps97
  go_wp2_with fail
  refine (l1Next_any 10 bs len cap at_ a _ h (by decide) (by omega)).mono ?_
  rintro e w1 ⟨r, rfl, hr, S1, T1⟩
  have hr' : r < 10 := by have := hr (by decide); omega
  clear hr h
  obtain rfl | rfl | rfl | rfl | rfl | rfl | rfl | rfl | rfl | rfl : r = 0 ∨ r = 1 ∨ r = 2 ∨ r = 3 ∨ r = 4 ∨ r = 5 ∨ r = 6 ∨ r = 7 ∨ r = 8 ∨ r = 9 := by omega
  · clear hr'
    go_wp2_with fail
    go_ret
    exact Dv.out_one (c := ⟨0, 0, ByteArray.empty, ByteArray.empty, 0⟩) T1 S1 ⟨one_own w1 w1.heap.size w1.heap.size ⟨0, 0, ByteArray.empty, ByteArray.empty, 0⟩ rfl (Nat.le_refl _), by simp⟩ ((Below.refl _ _).alloc (Nat.le_refl _) _) rfl (Dv.ok_kind 0 (by decide)) (by decide) (by omega)
  · clear hr'
    go_wp2_with fail
    go_ret
    exact Dv.out_one (c := ⟨1, 0, ByteArray.empty, ByteArray.empty, 0⟩) T1 S1 ⟨one_own w1 w1.heap.size w1.heap.size ⟨1, 0, ByteArray.empty, ByteArray.empty, 0⟩ rfl (Nat.le_refl _), by simp⟩ ((Below.refl _ _).alloc (Nat.le_refl _) _) rfl (Dv.ok_kind 1 (by decide)) (by decide) (by omega)
  · clear hr'
    go_wp2_with fail
    go_ret
    exact Dv.out_one (c := ⟨2, 0, ByteArray.empty, ByteArray.empty, 0⟩) T1 S1 ⟨one_own w1 w1.heap.size w1.heap.size ⟨2, 0, ByteArray.empty, ByteArray.empty, 0⟩ rfl (Nat.le_refl _), by simp⟩ ((Below.refl _ _).alloc (Nat.le_refl _) _) rfl (Dv.ok_kind 2 (by decide)) (by decide) (by omega)
  · clear hr'
    go_wp2_with fail
    refine (l1Next_any 9 bs len cap _ a _ S1 (by decide) (by omega)).mono ?_
    rintro e w2 ⟨r1, rfl, hr1, S2, T2⟩
    have hr1' := hr1 (by decide)
    clear hr1
    go_wp2_with fail
    refine (l1Next_any 9 bs len cap _ a _ S2 (by decide) (by omega)).mono ?_
    rintro e w3 ⟨r2, rfl, hr2, S3, T3⟩
    have hr2' := hr2 (by decide)
    clear hr2
    go_wp2_with fail
    refine (l1Next_any 40 bs len cap _ a _ S3 (by decide) (by omega)).mono ?_
    rintro e w4 ⟨r3, rfl, hr3, S4, T4⟩
    have hr3' := hr3 (by decide)
    clear hr3
    have T14 : Tch w.heap.size bs w w4 := ((T1.trans (T2.mono T1.size)).trans (T3.mono (Nat.le_trans T1.size T2.size))).trans (T4.mono (Nat.le_trans T1.size (Nat.le_trans T2.size T3.size)))
    have hng : IntKind.i64.wrap (-(r3 : Int)) = -(r3 : Int) := IntWalk.i64_in _ ⟨by omega, by omega⟩
    have hlt := S4.lt
    have HPK := hide (l1Pick_any [(r1 : Int), (r2 : Int), -(r3 : Int), 1000000000000000] w4.heap.size bs len cap _ a (w4.alloc (.cells #[.int .i64 (r1 : Int), .int .i64 (r2 : Int), .int .i64 (-(r3 : Int)), .int .i64 1000000000000000] 2)) (S4.alloc _) ⟨_, heap_alloc_new _ _, rfl⟩ (by omega) (by simp) (by simp) (by omega))
    clear S1 S2 S3 T1 T2 T3 T4
    go_wp2_with fail
    refine (unhide HPK).mono ?_
    rintro e w5 ⟨⟨x, hx, rfl⟩, S5, T5⟩
    have hxb : -1000000000000000 ≤ x ∧ x ≤ 1000000000000000 := by
      simp only [List.mem_cons, List.not_mem_nil, or_false] at hx
      omega
    have T15 : Tch w.heap.size bs w w5 := (T14.trans ((Tch.of_below' ((Below.refl _ _).alloc (Nat.le_refl _) _)).mono T14.size)).trans (T5.mono (by simp; have := T14.size; omega))
    clear hx HPK T14 T5 S4 hng
    go_wp2_with fail
    refine (l1NumberO_any x _).mono ?_
    rintro e w6 ⟨s6, rfl, hr6, hb6⟩
    obtain ⟨a6, n6, c6, rfl⟩ := hr6.shape
    go_wp2_with fail
    go_ret
    exact Dv.out_one T15 S5 hr6 hb6 rfl (Dv.ok_num x hxb) (by decide) (by omega)
  · clear hr'
    go_wp2_with fail
    refine (l1Next_any 9 bs len cap _ a _ S1 (by decide) (by omega)).mono ?_
    rintro e w2 ⟨r1, rfl, hr1, S2, T2⟩
    have hr1' := hr1 (by decide)
    clear hr1
    go_wp2_with fail
    refine (l1Next_any 9 bs len cap _ a _ S2 (by decide) (by omega)).mono ?_
    rintro e w3 ⟨r2, rfl, hr2, S3, T3⟩
    have hr2' := hr2 (by decide)
    clear hr2
    go_wp2_with fail
    refine (l1Next_any 40 bs len cap _ a _ S3 (by decide) (by omega)).mono ?_
    rintro e w4 ⟨r3, rfl, hr3, S4, T4⟩
    have hr3' := hr3 (by decide)
    clear hr3
    have T14 : Tch w.heap.size bs w w4 := ((T1.trans (T2.mono T1.size)).trans (T3.mono (Nat.le_trans T1.size T2.size))).trans (T4.mono (Nat.le_trans T1.size (Nat.le_trans T2.size T3.size)))
    have hng : IntKind.i64.wrap (-(r3 : Int)) = -(r3 : Int) := IntWalk.i64_in _ ⟨by omega, by omega⟩
    have hlt := S4.lt
    have HPK := hide (l1Pick_any [(r1 : Int), (r2 : Int), -(r3 : Int), 1000000000000000] w4.heap.size bs len cap _ a (w4.alloc (.cells #[.int .i64 (r1 : Int), .int .i64 (r2 : Int), .int .i64 (-(r3 : Int)), .int .i64 1000000000000000] 2)) (S4.alloc _) ⟨_, heap_alloc_new _ _, rfl⟩ (by omega) (by simp) (by simp) (by omega))
    clear S1 S2 S3 T1 T2 T3 T4
    go_wp2_with fail
    refine (unhide HPK).mono ?_
    rintro e w5 ⟨⟨x, hx, rfl⟩, S5, T5⟩
    have hxb : -1000000000000000 ≤ x ∧ x ≤ 1000000000000000 := by
      simp only [List.mem_cons, List.not_mem_nil, or_false] at hx
      omega
    have T15 : Tch w.heap.size bs w w5 := (T14.trans ((Tch.of_below' ((Below.refl _ _).alloc (Nat.le_refl _) _)).mono T14.size)).trans (T5.mono (by simp; have := T14.size; omega))
    clear hx HPK T14 T5 S4 hng
    go_wp2_with fail
    refine (l1NumberO_any x _).mono ?_
    rintro e w6 ⟨s6, rfl, hr6, hb6⟩
    obtain ⟨a6, n6, c6, rfl⟩ := hr6.shape
    go_wp2_with fail
    go_ret
    exact Dv.out_one T15 S5 hr6 hb6 rfl (Dv.ok_num x hxb) (by decide) (by omega)
  · clear hr'
    go_wp2_with fail
    refine (l1Next_any 9 bs len cap _ a _ S1 (by decide) (by omega)).mono ?_
    rintro e w2 ⟨r1, rfl, hr1, S2, T2⟩
    have hr1' := hr1 (by decide)
    clear hr1
    go_wp2_with fail
    refine (l1Next_any 9 bs len cap _ a _ S2 (by decide) (by omega)).mono ?_
    rintro e w3 ⟨r2, rfl, hr2, S3, T3⟩
    have hr2' := hr2 (by decide)
    clear hr2
    go_wp2_with fail
    refine (l1Next_any 40 bs len cap _ a _ S3 (by decide) (by omega)).mono ?_
    rintro e w4 ⟨r3, rfl, hr3, S4, T4⟩
    have hr3' := hr3 (by decide)
    clear hr3
    have T14 : Tch w.heap.size bs w w4 := ((T1.trans (T2.mono T1.size)).trans (T3.mono (Nat.le_trans T1.size T2.size))).trans (T4.mono (Nat.le_trans T1.size (Nat.le_trans T2.size T3.size)))
    have hng : IntKind.i64.wrap (-(r3 : Int)) = -(r3 : Int) := IntWalk.i64_in _ ⟨by omega, by omega⟩
    have hlt := S4.lt
    have HPK := hide (l1Pick_any [(r1 : Int), (r2 : Int), -(r3 : Int), 1000000000000000] w4.heap.size bs len cap _ a (w4.alloc (.cells #[.int .i64 (r1 : Int), .int .i64 (r2 : Int), .int .i64 (-(r3 : Int)), .int .i64 1000000000000000] 2)) (S4.alloc _) ⟨_, heap_alloc_new _ _, rfl⟩ (by omega) (by simp) (by simp) (by omega))
    clear S1 S2 S3 T1 T2 T3 T4
    go_wp2_with fail
    refine (unhide HPK).mono ?_
    rintro e w5 ⟨⟨x, hx, rfl⟩, S5, T5⟩
    have hxb : -1000000000000000 ≤ x ∧ x ≤ 1000000000000000 := by
      simp only [List.mem_cons, List.not_mem_nil, or_false] at hx
      omega
    have T15 : Tch w.heap.size bs w w5 := (T14.trans ((Tch.of_below' ((Below.refl _ _).alloc (Nat.le_refl _) _)).mono T14.size)).trans (T5.mono (by simp; have := T14.size; omega))
    clear hx HPK T14 T5 S4 hng
    go_wp2_with fail
    refine (l1NumberO_any x _).mono ?_
    rintro e w6 ⟨s6, rfl, hr6, hb6⟩
    obtain ⟨a6, n6, c6, rfl⟩ := hr6.shape
    go_wp2_with fail
    go_ret
    exact Dv.out_one T15 S5 hr6 hb6 rfl (Dv.ok_num x hxb) (by decide) (by omega)
  · clear hr'
    go_wp2_with fail
    refine (l1Word_any bs len cap _ a _ S1 (by omega)).mono ?_
    rintro e w2 ⟨⟨t, rfl, ht⟩, S2, T2⟩
    have T12 : Tch w.heap.size bs w w2 := T1.trans (T2.mono T1.size)
    clear T1 T2 S1
    go_wp2_with fail
    refine (l1StringO_any t _).mono ?_
    rintro e w6 ⟨s6, rfl, hr6, hb6⟩
    obtain ⟨a6, n6, c6, rfl⟩ := hr6.shape
    go_wp2_with fail
    go_ret
    exact Dv.out_one T12 S2 hr6 hb6 rfl (Dv.ok_str t ht) (by decide) (by omega)
  · clear hr'
    go_wp2_with fail
    go_ret
    exact Dv.out_one (c := ⟨2, 0, ByteArray.empty, ByteArray.empty, 0⟩) T1 S1 ⟨one_own w1 w1.heap.size w1.heap.size ⟨2, 0, ByteArray.empty, ByteArray.empty, 0⟩ rfl (Nat.le_refl _), by simp⟩ ((Below.refl _ _).alloc (Nat.le_refl _) _) rfl (Dv.ok_kind 2 (by decide)) (by decide) (by omega)
  · clear hr'
    go_wp2_with fail
    refine (l1Next_any 9 bs len cap _ a _ S1 (by decide) (by omega)).mono ?_
    rintro e w2 ⟨r1, rfl, hr1, S2, T2⟩
    have hr1' := hr1 (by decide)
    clear hr1
    go_wp2_with fail
    refine (l1Next_any 9 bs len cap _ a _ S2 (by decide) (by omega)).mono ?_
    rintro e w3 ⟨r2, rfl, hr2, S3, T3⟩
    have hr2' := hr2 (by decide)
    clear hr2
    go_wp2_with fail
    refine (l1Next_any 40 bs len cap _ a _ S3 (by decide) (by omega)).mono ?_
    rintro e w4 ⟨r3, rfl, hr3, S4, T4⟩
    have hr3' := hr3 (by decide)
    clear hr3
    have T14 : Tch w.heap.size bs w w4 := ((T1.trans (T2.mono T1.size)).trans (T3.mono (Nat.le_trans T1.size T2.size))).trans (T4.mono (Nat.le_trans T1.size (Nat.le_trans T2.size T3.size)))
    have hng : IntKind.i64.wrap (-(r3 : Int)) = -(r3 : Int) := IntWalk.i64_in _ ⟨by omega, by omega⟩
    have hlt := S4.lt
    have HPK := hide (l1Pick_any [(r1 : Int), (r2 : Int), -(r3 : Int), 1000000000000000] w4.heap.size bs len cap _ a (w4.alloc (.cells #[.int .i64 (r1 : Int), .int .i64 (r2 : Int), .int .i64 (-(r3 : Int)), .int .i64 1000000000000000] 2)) (S4.alloc _) ⟨_, heap_alloc_new _ _, rfl⟩ (by omega) (by simp) (by simp) (by omega))
    clear S1 S2 S3 T1 T2 T3 T4
    go_wp2_with fail
    refine (unhide HPK).mono ?_
    rintro e w5 ⟨⟨x, hx, rfl⟩, S5, T5⟩
    have hxb : -1000000000000000 ≤ x ∧ x ≤ 1000000000000000 := by
      simp only [List.mem_cons, List.not_mem_nil, or_false] at hx
      omega
    have T15 : Tch w.heap.size bs w w5 := (T14.trans ((Tch.of_below' ((Below.refl _ _).alloc (Nat.le_refl _) _)).mono T14.size)).trans (T5.mono (by simp; have := T14.size; omega))
    clear hx HPK T14 T5 S4 hng
    go_wp2_with fail
    refine (l1NumberO_any x _).mono ?_
    rintro e w6 ⟨s6, rfl, hr6, hb6⟩
    obtain ⟨a6, n6, c6, rfl⟩ := hr6.shape
    go_wp2_with fail
    go_ret
    exact Dv.out_one T15 S5 hr6 hb6 rfl (Dv.ok_num x hxb) (by decide) (by omega)
  · clear hr'
    go_wp2_with fail
    refine (l1Next_any 9 bs len cap _ a _ S1 (by decide) (by omega)).mono ?_
    rintro e w2 ⟨r1, rfl, hr1, S2, T2⟩
    have hr1' := hr1 (by decide)
    clear hr1
    go_wp2_with fail
    refine (l1Next_any 9 bs len cap _ a _ S2 (by decide) (by omega)).mono ?_
    rintro e w3 ⟨r2, rfl, hr2, S3, T3⟩
    have hr2' := hr2 (by decide)
    clear hr2
    go_wp2_with fail
    refine (l1Next_any 40 bs len cap _ a _ S3 (by decide) (by omega)).mono ?_
    rintro e w4 ⟨r3, rfl, hr3, S4, T4⟩
    have hr3' := hr3 (by decide)
    clear hr3
    have T14 : Tch w.heap.size bs w w4 := ((T1.trans (T2.mono T1.size)).trans (T3.mono (Nat.le_trans T1.size T2.size))).trans (T4.mono (Nat.le_trans T1.size (Nat.le_trans T2.size T3.size)))
    have hng : IntKind.i64.wrap (-(r3 : Int)) = -(r3 : Int) := IntWalk.i64_in _ ⟨by omega, by omega⟩
    have hlt := S4.lt
    have HPK := hide (l1Pick_any [(r1 : Int), (r2 : Int), -(r3 : Int), 1000000000000000] w4.heap.size bs len cap _ a (w4.alloc (.cells #[.int .i64 (r1 : Int), .int .i64 (r2 : Int), .int .i64 (-(r3 : Int)), .int .i64 1000000000000000] 2)) (S4.alloc _) ⟨_, heap_alloc_new _ _, rfl⟩ (by omega) (by simp) (by simp) (by omega))
    clear S1 S2 S3 T1 T2 T3 T4
    go_wp2_with fail
    refine (unhide HPK).mono ?_
    rintro e w5 ⟨⟨x, hx, rfl⟩, S5, T5⟩
    have hxb : -1000000000000000 ≤ x ∧ x ≤ 1000000000000000 := by
      simp only [List.mem_cons, List.not_mem_nil, or_false] at hx
      omega
    have T15 : Tch w.heap.size bs w w5 := (T14.trans ((Tch.of_below' ((Below.refl _ _).alloc (Nat.le_refl _) _)).mono T14.size)).trans (T5.mono (by simp; have := T14.size; omega))
    clear hx HPK T14 T5 S4 hng
    go_wp2_with fail
    refine (l1NumberO_any x _).mono ?_
    rintro e w6 ⟨s6, rfl, hr6, hb6⟩
    obtain ⟨a6, n6, c6, rfl⟩ := hr6.shape
    go_wp2_with fail
    go_ret
    exact Dv.out_one T15 S5 hr6 hb6 rfl (Dv.ok_num x hxb) (by decide) (by omega)

end Go.Proofs.YtcglddahphkcpaaGreatDoor
