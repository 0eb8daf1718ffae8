/-
  Rows of keys and of parts that are built by appends, beside one another.
  A row of cells that can be appended to, as an answer.
  spec.l1Array, its answer as a row that can be appended to.
  What is kept while values are drawn.
  What is kept while the parts of a value are drawn.
-/
import Derived.Test.YtikeffckhklhbaaGreatDoorX21
import Derived.Test.YtikeffckhklhbaaGreatDoorX22
import Derived.Test.YtikeffckhklhbaaGreatDoorX30
namespace Go.Proofs.YtikeffckhklhbaaGreatDoor
open Go.RowKit
set_option linter.unusedVariables false
set_option linter.unusedSimpArgs false

namespace Dc
theorem ks_grown {w w' : World} {B base : Nat} {v s : Value} {ks : List ByteArray} {n size : Nat} {e : TypeId} {xs : List Value} (h : KS w B v ks) (ho : w.ownsRow base e size s n xs) (hne : e ≠ 9) (hg : w.grownBy w' s.ownBlock) : KS w' B v ks := by
  obtain ⟨h1, h2 | ⟨g, cap, cur, h3, h4, h5, h6⟩⟩ := h
  · exact ⟨h1, .inl h2⟩
  · obtain ⟨c, hc, ec⟩ := grown_own hg (b := g) (t := 9) (ys := cur.toList) ⟨cur, h5, rfl⟩ (other_block ho (b := g) (t := 9) (ys := cur.toList) ⟨cur, h5, rfl⟩ hne)
    have : c = cur := Array.toList_inj.1 ec
    subst this
    exact ⟨h1, .inr ⟨g, cap, c, h3, h4, hc, h6⟩⟩
theorem ss_grown {w w' : World} {B base : Nat} {v s : Value} {ps : List (List M.Cl)} {e : TypeId} {size n : Nat} {xs : List Value} (h : SS w B v ps) (ho : w.ownsRow base e size s n xs) (h1 : e ≠ 24) (h2 : e ≠ 41) (hg : w.grownBy w' s.ownBlock) : SS w' B v ps := by
  obtain ⟨ss, hl, hown, hres⟩ := h
  refine ⟨ss, hl, hown.kept hg ?_, fun i hi => grown_res ho hg (hres i hi) h2⟩
  obtain ⟨_, ⟨rfl, _⟩ | ⟨g, cap, cur, rfl, _, hh, _⟩⟩ := hown
  · exact .inl rfl
  · refine .inr fun e => ?_
    exact other_block ho (b := g) (t := 24) (ys := cur.toList) ⟨cur, hh, rfl⟩ h1 (by rw [← e]; rfl)
theorem ks_alloc {w : World} {B : Nat} {v : Value} {ks : List ByteArray} (h : KS w B v ks) (o : Obj) : KS (w.alloc o) B v ks := h.below ((Below.refl _ _).alloc (Nat.le_refl _) o)
theorem ss_alloc {w : World} {B : Nat} {v : Value} {ps : List (List M.Cl)} (h : SS w B v ps) (o : Obj) : SS (w.alloc o) B v ps := h.below ((Below.refl _ _).alloc (Nat.le_refl _) o)
theorem ks_empty (w : World) (B b : Nat) (hb : b = w.heap.size) (hB : B ≤ b) : KS (w.alloc (.cells #[] 9)) B (.slice (some ⟨b, 0, none⟩) 0 0) [] := by
  subst hb
  exact ⟨rfl, .inr ⟨w.heap.size, 0, #[], rfl, hB, heap_alloc_new _ _, Nat.le_refl _, by simp [maxLen], rfl, rfl⟩⟩
theorem ks_nil (w : World) (B : Nat) : KS w B (.slice none 0 0) [] := World.ownsRow_nil _ _ _ _
theorem one_str (key : ByteArray) : ∀ u ∈ ([Value.string key] : List Value), u.oneCell' = true := by
  intro u hu; simp only [List.mem_cons, List.not_mem_nil, or_false] at hu; subst hu; rfl
/-- The two rows. -/
structure Rw (wr : World) (B : Nat) (sk sl : Value) (ks : List ByteArray) (ps : List (List M.Cl)) : Prop where
  keys : KS wr B sk ks
  list : SS wr B sl ps
/-- A key more. -/
theorem Rw.key {wr w3 : World} {B : Nat} {sk sl v' : Value} {ks : List ByteArray} {ps : List (List M.Cl)} {o : Obj} {key : ByteArray} (h : Rw wr B sk sl ks ps) (hg : (wr.alloc o).grownBy w3 sk.ownBlock) (ho : w3.ownsRow B 9 1 v' (ks.length + 1) (ks.map Value.string ++ [.string key])) : Rw w3 B v' sl (ks ++ [key]) ps := by
  refine ⟨?_, ss_grown (ss_alloc h.list o) (ks_alloc h.keys o) (by decide) (by decide) hg⟩
  unfold KS
  simpa using ho
/-- A part more. -/
theorem Rw.part {wr w3 : World} {B : Nat} {sk sl v' sp : Value} {ks : List ByteArray} {ps : List (List M.Cl)} {o : Obj} {p : List M.Cl} {ss : List Value} (h : Rw wr B sk sl ks ps) (hl : ss.length = ps.length) (hown : wr.ownsRow B 24 1 sl ps.length ss) (hres : ∀ i, i < ps.length → Res wr B (ss.getD i (.slice none 0 0)) (ps.getD i [])) (hp : Res wr B sp p) (hg : (wr.alloc o).grownBy w3 sl.ownBlock) (ho : w3.ownsRow B 24 1 v' (ps.length + 1) (ss ++ [sp])) : Rw w3 B sk v' ks (ps ++ [p]) :=
  ⟨ks_grown (ks_alloc h.keys o) (hown.alloc o) (by decide) hg, SS.snoc rfl hl hown hres hp hg ho⟩
theorem bare_ne {ps : List (List M.Cl)} (h : ∀ j, j < ps.length → Bare (ps.getD j [])) : ∀ j, j < ps.length → ps.getD j [] ≠ [] := by
  intro j hj e
  have := (h j hj).1
  rw [e] at this
  simp at this
end Dc

end Go.Proofs.YtikeffckhklhbaaGreatDoor

namespace Go.Proofs.YtikeffckhklhbaaGreatDoor
open Go.RowKit
set_option linter.unusedVariables false
set_option linter.unusedSimpArgs false

/-- A row of cells of one's own, with its room. -/
def Rs (w : World) (B : Nat) (s : Value) (l : List M.Cl) : Prop := w.ownsRow B 41 5 s l.length (flat l) ∧ l.length ≤ 1048576
theorem Rs.res {w : World} {B : Nat} {s : Value} {l : List M.Cl} (h : Rs w B s l) : Res w B s l := res_of_owns h.1 h.2
theorem owns_mono {w : World} {B B' : Nat} {e : TypeId} {k : Nat} {v : Value} {n : Nat} {xs : List Value} (h : w.ownsRow B e k v n xs) (hB : B' ≤ B) : w.ownsRow B' e k v n xs := by
  obtain ⟨h1, h2 | ⟨g, cap, cur, h3, h4, h5⟩⟩ := h
  · exact ⟨h1, .inl h2⟩
  · exact ⟨h1, .inr ⟨g, cap, cur, h3, by omega, h5⟩⟩
theorem Rs.mono {w : World} {B B' : Nat} {s : Value} {l : List M.Cl} (h : Rs w B s l) (hB : B' ≤ B) : Rs w B' s l := ⟨owns_mono h.1 hB, h.2⟩
theorem Rs.shape {w : World} {B : Nat} {s : Value} {l : List M.Cl} (h : Rs w B s l) : ∃ a n c, s = .slice a n c := h.res.shape
set_option maxHeartbeats 400000 in
theorem l1NumberO_any (n : Int) (w : World) : Calls Tryz.prog 60 #[.int .i64 n] w fun e w' => ∃ s, e = .returned s ∧ Rs w' w.heap.size s [⟨3, n, ByteArray.empty, ByteArray.empty, 0⟩] ∧ Below w.heap.size w w' := by
  go_enter Tryz.func60, Tryz.ntmps60
  go_wp2_with fail
  go_ret
  exact ⟨_, rfl, ⟨one_own w w.heap.size w.heap.size ⟨3, n, ByteArray.empty, ByteArray.empty, 0⟩ rfl (Nat.le_refl _), by simp⟩, (Below.refl _ _).alloc (Nat.le_refl _) _⟩
set_option maxHeartbeats 400000 in
theorem l1StringO_any (s : ByteArray) (w : World) : Calls Tryz.prog 55 #[.string s] w fun e w' => ∃ r, e = .returned r ∧ Rs w' w.heap.size r [⟨4, 0, s, ByteArray.empty, 0⟩] ∧ Below w.heap.size w w' := by
  go_enter Tryz.func55, Tryz.ntmps55
  go_wp2_with fail
  go_ret
  exact ⟨_, rfl, ⟨one_own w w.heap.size w.heap.size ⟨4, 0, s, ByteArray.empty, 0⟩ rfl (Nat.le_refl _), by simp⟩, (Below.refl _ _).alloc (Nat.le_refl _) _⟩

end Go.Proofs.YtikeffckhklhbaaGreatDoor

namespace Go.Proofs.YtikeffckhklhbaaGreatDoor
open Go.RowKit
set_option linter.unusedVariables false
set_option linter.unusedSimpArgs false

set_option maxHeartbeats 1000000 in
theorem l1ArrayO_any (a : Option Addr) (cap : Nat) (ps : List (List M.Cl)) (w : World) (hL : LV w a ps) (hcap : ps.length ≤ cap) (hn : ps.length ≤ 4096) (ht : tot ps ps.length ≤ 8192) (hv : ∀ j, j < ps.length → Bare (ps.getD j [])) :
    Calls Tryz.prog 62 #[.slice a ps.length cap] w fun e w' => ∃ s, e = .returned s ∧ Rs w' w.heap.size s (arrV ps) ∧ Below w.heap.size w w' := by
  have HL := hide hL
  have HV := hide hv
  clear hL hv
  obtain ⟨i0, hi, hz0, hz1, hz2⟩ := info_parts Tryz.info41
  go_enter Tryz.func62, Tryz.ntmps62
  go_wp2_with fail
  go_loopg [3, 4] ps.length (fun gh s3 s4 wr => ∃ k : Nat, Hid (gh = ps.length - k) ∧ s4 = .int .i64 k ∧ k ≤ ps.length ∧ wr.ownsRow w.heap.size 41 5 s3 (arrK ps k).length (flat (arrK ps k)) ∧ Below w.heap.size w wr)
  case atStart => exact ⟨0, rfl, rfl, by omega, one_own w w.heap.size _ (headCl 5 ps.length) rfl (Nat.le_refl _), (Below.refl _ _).alloc (Nat.le_refl _) _⟩
  case round =>
    obtain ⟨k, hg, rfl, hk, hown, hbel⟩ := hrel
    by_cases hlt : k < ps.length
    · obtain ⟨g, b, off, c, rfl, hgl, f0, hc, hb, hr⟩ := ((unhide HL).below hbel) k hlt
      have hp := ((unhide HV) k hlt).1
      have hal := arrK_length ps k
      have hts := tot_part ps k hlt
      have hsucc := hide (show flat (arrK ps k) ++ flat (ps.getD k []) = flat (arrK ps (k + 1)) by rw [arrK_succ ps k hlt, flat_append])
      have hsl := hide (show (arrK ps k).length + (ps.getD k []).length = (arrK ps (k + 1)).length by rw [arrK_succ ps k hlt, List.length_append])
      have hnews := hide (row_words hr)
      have hone := hide (flat_one (ps.getD k []))
      have HFL := hide (flat_length (ps.getD k []))
      clear hr
      generalize ps.getD k [] = p at *
      have hb63 : (arrK ps k).length + p.length ≤ maxLen := by unfold maxLen; omega
      have hby : ((arrK ps k).length + p.length) * 56 ≤ 140737488355328 := by omega
      have hbse := hide (ownsRow_base hown)
      have HOWN := hide hown
      have hbase := hbel.size
      clear hown hal hts
      go_wp2_with (at_builtin; refine wpList_append_own _ rfl (.tmp 15) (.tmp 19) 24 rfl w.heap.size 41 i0 _ 5 56 Tryz.underlying24 hi hz0 hz1 hz2 rfl (by decide) _ (arrK ps k).length _ rfl (unhide HOWN) ⟨b, off, none⟩ p.length c (flat p) rfl (unhide HFL) (unhide hnews) (unhide hone) hb63 hby hbase ?_)
      intro v' w2 ho2 hg2 _
      rw [unhide hsucc, unhide hsl] at ho2
      have B2 : Below w.heap.size w w2 := hbel.grown hg2 hbase (unhide hbse)
      have HO2 := hide ho2
      clear ho2 hg2 f0
      go_wp2_with fail
      go_roundg (ps.length - (k + 1))
      case rel => exact ⟨k + 1, rfl, by go_num, by omega, unhide HO2, B2⟩
      case measure => have := hg.out; omega
    · have hke : k = ps.length := by omega
      have hal := arrK_length ps k
      have hts := tot_le ps ps.length k hk (Nat.le_refl _)
      have fin := hide (show Rs wr w.heap.size u3 (arrV ps) by unfold arrV; rw [← hke]; exact ⟨hown, by omega⟩)
      clear hke hown hal hts
      go_wp2_with fail
      go_ret
      exact ⟨_, rfl, unhide fin, hbel⟩

end Go.Proofs.YtikeffckhklhbaaGreatDoor

namespace Go.Proofs.YtikeffckhklhbaaGreatDoor
open Go.RowKit
set_option linter.unusedVariables false
set_option linter.unusedSimpArgs false

namespace Dv
section
variable {w w' : World} {B : Nat}
theorem res_kept {s : Value} {l : List M.Cl} (h : Res w B s l) (hk : ∀ b, B ≤ b → b < w.heap.size → w'.heap[b]? = w.heap[b]?) : Res w' B s l := by
  obtain ⟨hn, h | ⟨b, cap, h1, h2, h3, xs, ho, hw⟩⟩ := h
  · exact ⟨hn, .inl h⟩
  · have hl := ho.lt
    obtain ⟨c, q1, q2⟩ := ho
    exact ⟨hn, .inr ⟨b, cap, h1, h2, h3, xs, ⟨c, (hk b h2 hl).trans q1, q2⟩, hw⟩⟩
theorem owns_kept {e : TypeId} {k : Nat} {v : Value} {n : Nat} {xs : List Value} (h : w.ownsRow B e k v n xs) (hk : ∀ b, B ≤ b → b < w.heap.size → w'.heap[b]? = w.heap[b]?) : w'.ownsRow B e k v n xs := by
  obtain ⟨h1, h2 | ⟨g, cap, cur, h3, h4, h5, h6⟩⟩ := h
  · exact ⟨h1, .inl h2⟩
  · exact ⟨h1, .inr ⟨g, cap, cur, h3, h4, (hk g h4 (Array.getElem?_eq_some_iff.1 h5).1).trans h5, h6⟩⟩
theorem rw_kept {sk sl : Value} {ks : List ByteArray} {ps : List (List M.Cl)} (h : Dc.Rw w B sk sl ks ps) (hk : ∀ b, B ≤ b → b < w.heap.size → w'.heap[b]? = w.heap[b]?) : Dc.Rw w' B sk sl ks ps := by
  obtain ⟨h1, ss, h2, h3, h4⟩ := h
  exact ⟨owns_kept h1 hk, ss, h2, owns_kept h3 hk, fun i hi => res_kept (h4 i hi) hk⟩
theorem Tch.kept {bs : Nat} (h : Tch w.heap.size bs w w') (hB : bs < B) : ∀ b, B ≤ b → b < w.heap.size → w'.heap[b]? = w.heap[b]? := fun b h1 h2 => h.block b h2 (by omega)
end
/-- A value that was drawn: a row of its own, its first cell without a key, no more than N cells; the source has gone on. -/
def Out (w : World) (bs : Nat) (a : Option Addr) (len cap at_ N K : Nat) (e : Ending) (w' : World) : Prop :=
  ∃ s l at2, e = .returned s ∧ Rs w' w.heap.size s l ∧ Bare l ∧ l.length ≤ N ∧ (∀ c ∈ l, c.ok) ∧ Src w' bs a len cap at2 ∧ at2 ≤ at_ + K ∧ Tch w.heap.size bs w w'
def Says (d : Int) (N K mx : Nat) : Prop := ∀ (bs len cap at_ : Nat) (a : Option Addr) (w : World), Src w bs a len cap at_ → at_ ≤ mx →
  Calls Tryz.prog 27 #[.pointer (some ⟨bs, 0, none⟩), .int .i64 d] w (Out w bs a len cap at_ N K)
theorem out_one {w w1 w2 : World} {bs len cap at_ at2 N K : Nat} {a : Option Addr} {s : Value} {c : M.Cl} (hT : Tch w.heap.size bs w w1) (hS : Src w1 bs a len cap at2) (h : Rs w2 w1.heap.size s [c]) (hb : Below w1.heap.size w1 w2) (hk : c.key = ByteArray.empty) (ho : c.ok) (hN : 1 ≤ N) (hK : at2 ≤ at_ + K) : Out w bs a len cap at_ N K (.returned s) w2 := by
  refine ⟨s, [c], at2, rfl, h.mono hT.size, ⟨by simp, ?_⟩, by simpa using hN, fun x hx => ?_, hS.below hb, hK, hT.trans ((Tch.of_below' hb).mono hT.size)⟩
  · obtain ⟨k, n, t, ky, m⟩ := c
    simp only at hk
    subst hk
    rfl
  · rw [List.mem_singleton] at hx
    rw [hx]; exact ho
theorem ok_mk {k n m : Int} {t ky : ByteArray} (hk : -100000 ≤ k ∧ k ≤ 100000) (hn : -5000000000000000000 ≤ n ∧ n ≤ 5000000000000000000) (hm : -100000 ≤ m ∧ m ≤ 100000) (ht : t.size ≤ 100000) (hy : ky.size ≤ 100000) : (⟨k, n, t, ky, m⟩ : M.Cl).ok := by
  unfold M.Cl.ok
  simp only
  omega
theorem ok_kind (k : Int) (h : 0 ≤ k ∧ k ≤ 10) : (⟨k, 0, ByteArray.empty, ByteArray.empty, 0⟩ : M.Cl).ok := ok_mk (by omega) (by omega) (by omega) (by decide) (by decide)
theorem ok_num (n : Int) (h : -1000000000000000 ≤ n ∧ n ≤ 1000000000000000) : (⟨3, n, ByteArray.empty, ByteArray.empty, 0⟩ : M.Cl).ok := ok_mk (by omega) (by omega) (by omega) (by decide) (by decide)
theorem ok_str (t : ByteArray) (h : t.size ≤ 100) : (⟨4, 0, t, ByteArray.empty, 0⟩ : M.Cl).ok := ok_mk (by omega) (by omega) (by omega) (by omega) (by decide)
end Dv

end Go.Proofs.YtikeffckhklhbaaGreatDoor

namespace Go.Proofs.YtikeffckhklhbaaGreatDoor
open Go.RowKit
set_option linter.unusedVariables false
set_option linter.unusedSimpArgs false

namespace Dv
theorem getD_app {α : Type} (ps : List α) (p z : α) (Q : α → Prop) (h : ∀ j, j < ps.length → Q (ps.getD j z)) (hp : Q p) : ∀ j, j < (ps ++ [p]).length → Q ((ps ++ [p]).getD j z) := fun j hj => by
  rw [List.getD_eq_getElem?_getD]
  rw [List.length_append] at hj
  by_cases e : j < ps.length
  · rw [List.getElem?_append_left e, ← List.getD_eq_getElem?_getD]; exact h j e
  · have : j = ps.length := by simp at hj; omega
    subst this
    rw [List.getElem?_append_right (Nat.le_refl _), Nat.sub_self]
    exact hp
/-- Keys and parts so far. -/
structure Lp (w wr : World) (bs : Nat) (a : Option Addr) (len cap N : Nat) (sk sl : Value) (ks : List ByteArray) (ps : List (List M.Cl)) (at2 : Nat) : Prop where
  rw : Dc.Rw wr w.heap.size sk sl ks ps
  bare : ∀ j, j < ps.length → Bare (ps.getD j [])
  sz : ∀ j, j < ps.length → (ps.getD j []).length ≤ N
  ok : ∀ j, j < ps.length → ∀ c ∈ ps.getD j [], c.ok
  kok : ∀ j, j < ks.length → (ks.getD j ByteArray.empty).size ≤ 100
  src : Src wr bs a len cap at2
  tch : Tch w.heap.size bs w wr
  lt : bs < w.heap.size
section
variable {w wr w2 w3 : World} {bs len cap N at2 at3 : Nat} {a : Option Addr} {sk sl v' sp : Value} {ks : List ByteArray} {ps : List (List M.Cl)}
theorem Lp.call (h : Lp w wr bs a len cap N sk sl ks ps at2) (hS : Src w2 bs a len cap at3) (hT : Tch wr.heap.size bs wr w2) : Lp w w2 bs a len cap N sk sl ks ps at3 :=
  ⟨rw_kept h.rw (Tch.kept hT h.lt), h.bare, h.sz, h.ok, h.kok, hS, h.tch.trans (hT.mono h.tch.size), h.lt⟩
theorem grown_tch {o : Obj} {row : Option Nat} (h : Tch w.heap.size bs w wr) (hg : (wr.alloc o).grownBy w3 row) (hr : ∀ k, row = some k → w.heap.size ≤ k) : Tch w.heap.size bs w w3 :=
  ⟨hg.os.trans h.os, hg.tape.trans h.tape, hg.output.trans h.output, Nat.le_trans h.size (by have := hg.size; simp at this; omega), fun k hk hn => by
    have h1 : k < wr.heap.size := Nat.lt_of_lt_of_le hk h.size
    have h2 := hg.block k (by simp; omega) (fun e => by have := hr k e.symm; omega)
    rw [h2, heap_alloc_old _ _ h1]
    exact h.block k hk hn⟩
theorem grown_src {o : Obj} {row : Option Nat} (h : Src wr bs a len cap at2) (hg : (wr.alloc o).grownBy w3 row) (hr : ∀ k, row = some k → bs < k) : Src w3 bs a len cap at2 := h.keep fun k hk => by
  have h1 : k < wr.heap.size := by have := h.lt; omega
  have h2 := hg.block k (by simp; omega) (fun e => by have := hr k e.symm; omega)
  rw [h2, heap_alloc_old _ _ h1]
theorem Lp.part (h : Lp w wr bs a len cap N sk sl ks ps at2) {p : List M.Cl} {o : Obj} {ss : List Value} (hp : Res wr w.heap.size sp p) (hb : Bare p) (hl : p.length ≤ N) (hok : ∀ c ∈ p, c.ok) (hsl : ss.length = ps.length) (hown : wr.ownsRow w.heap.size 24 1 sl ps.length ss) (hres : ∀ i, i < ps.length → Res wr w.heap.size (ss.getD i (.slice none 0 0)) (ps.getD i []))
    (hg : (wr.alloc o).grownBy w3 sl.ownBlock) (ho : w3.ownsRow w.heap.size 24 1 v' (ps.length + 1) (ss ++ [sp])) : Lp w w3 bs a len cap N sk v' ks (ps ++ [p]) at2 :=
  ⟨h.rw.part hsl hown hres hp hg ho, getD_app ps p [] Bare h.bare hb, getD_app ps p [] (fun x => x.length ≤ N) h.sz hl, getD_app ps p [] (fun x => ∀ c ∈ x, c.ok) h.ok hok, h.kok, grown_src h.src hg (fun k e => by have := ownsRow_base hown k e; have := h.lt; omega), grown_tch h.tch hg (ownsRow_base hown), h.lt⟩
theorem Lp.key (h : Lp w wr bs a len cap N sk sl ks ps at2) {key : ByteArray} {o : Obj} (hk : key.size ≤ 100) (hg : (wr.alloc o).grownBy w3 sk.ownBlock) (ho : w3.ownsRow w.heap.size 9 1 v' (ks.length + 1) (ks.map Value.string ++ [.string key])) : Lp w w3 bs a len cap N v' sl (ks ++ [key]) ps at2 :=
  ⟨h.rw.key hg ho, h.bare, h.sz, h.ok, getD_app ks key ByteArray.empty (fun x => x.size ≤ 100) h.kok hk, grown_src h.src hg (fun k e => by have := ownsRow_base h.rw.keys k e; have := h.lt; omega), grown_tch h.tch hg (ownsRow_base h.rw.keys), h.lt⟩
end
theorem tot_le3 {ps : List (List M.Cl)} {N : Nat} (hs : ∀ j, j < ps.length → (ps.getD j []).length ≤ N) : ∀ k, k ≤ ps.length → tot ps k ≤ k * N := by
  intro k
  induction k with
  | zero => intro _; simp [tot]
  | succ k ih =>
    intro hk
    have h1 := ih (by omega)
    have h2 := tot_succ ps k (by omega)
    have h3 := hs k (by omega)
    rw [h2, Nat.add_mul]
    omega
end Dv

end Go.Proofs.YtikeffckhklhbaaGreatDoor
