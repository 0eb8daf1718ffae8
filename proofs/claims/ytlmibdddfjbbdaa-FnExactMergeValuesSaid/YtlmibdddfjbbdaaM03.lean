/-
  The laws' marks: laws.markText, laws.markCellS write told numbers into a row of the call's own; laws.heldCellS finds them there.
  laws.markCellS writes told numbers into a row of the call's own, and laws.heldCellS finds them there.
-/
import Derived.Test.YtlmibdddfjbbdaaM02
import Derived.Deep.LoopGhost
import Derived.Laws.IdiomStrings
namespace Go.Proofs.Ytlmibdddfjbbdaa
open Go.RowKit
set_option linter.unusedVariables false

theorem ret_str {a b : ByteArray} (h : a = b) : Ending.returned (.string a) = .returned (.string b) := by rw [h]

/-- The decimal digits of q ahead of o, f rounds at most. -/
def mtGo : Nat → Int → ByteArray → ByteArray
  | 0, _, o => o
  | f + 1, q, o => if 0 < q then mtGo f (q / 10) (⟨#[UInt8.ofNat (48 + q % 10).toNat]⟩ ++ o) else o
/-- What laws.markText answers. -/
def mt (k : Int) : ByteArray := if k ≤ 0 then ⟨#[109, 48]⟩ else ⟨#[109]⟩ ++ mtGo k.toNat k ByteArray.empty

theorem mtGo_zero (f : Nat) (q : Int) (o : ByteArray) (h : q ≤ 0) : mtGo f q o = o := by
  cases f with
  | zero => rfl
  | succ f => rw [mtGo, if_neg (by omega)]
theorem mtGo_step (f : Nat) (q : Int) (o : ByteArray) (h : 0 < q) (hf : 0 < f) : mtGo f q o = mtGo (f - 1) (q / 10) (⟨#[UInt8.ofNat (48 + q % 10).toNat]⟩ ++ o) := by
  cases f with
  | zero => omega
  | succ f => rw [mtGo, if_pos h]; rfl

theorem conv_digit (w : World) (x : Int) (h0 : 0 ≤ x) (h1 : x ≤ 255) :
    (convert 61 9 (.slice (some ⟨w.heap.size, 0, none⟩) 1 1)).run Try.prog (w.alloc (.cells #[.int .u8 x] 5)) = .ok (.string ⟨#[UInt8.ofNat x.toNat]⟩) (w.alloc (.cells #[.int .u8 x] 5)) := by
  have := run_convert_bytes_back (P := Try.prog) (w.alloc (.cells #[.int .u8 x] 5)) 61 9 5 ⟨w.heap.size, 0, none⟩ 1 [UInt8.ofNat x.toNat] Try.underlying61 Try.underlying5 Try.underlying9 (by
    intro j hj
    simp only [List.length_cons, List.length_nil] at hj
    obtain rfl : j = 0 := by omega
    have e : ((UInt8.ofNat x.toNat).toNat : Int) = x := by
      rw [UInt8.toNat_ofNat']; omega
    simp only [List.getElem_cons_zero, e]
    have a0 : (⟨w.heap.size, 0, none⟩ : Addr).add 0 = ⟨w.heap.size, 0, none⟩ := by simp [Addr.add]
    rw [a0]
    exact World.cell?_alloc_mark w #[.int .u8 x] 5 (0, 0) 0)
  exact this

set_option maxHeartbeats 400000 in
theorem markText_any (k : Int) (w : World) (h1 : k ≤ 1000000000000) :
    Calls Try.prog 23 #[.int .i64 k] w fun e w' => e = .returned (.string (mt k)) ∧ Below w.heap.size w w' := by
  by_cases h0 : k ≤ 0
  · have fin := hide (show mt k = ⟨#[109, 48]⟩ by unfold mt; rw [if_pos h0])
    go_enter Try.func23, Try.ntmps23
    go_wp2_with fail
    go_ret
    exact ⟨ret_str (unhide fin).symm, Below.refl _ _⟩
  have fin := hide (show mt k = ⟨#[109]⟩ ++ mtGo k.toNat k ByteArray.empty by unfold mt; rw [if_neg h0])
  have d0 : decide (k ≤ 0) = false := decide_eq_false h0
  have hk0 : 0 < k := by omega
  clear h0
  go_enter Try.func23, Try.ntmps23
  go_wp2_with fail
  go_loopg [0, 3] k.toNat (fun g s0 s3 wr => ∃ (q : Int) (o : ByteArray), s0 = .int .i64 q ∧ s3 = .string o ∧ 0 ≤ q ∧ q ≤ 1000000000000 ∧ Hid (q.toNat ≤ g ∧ g ≤ k.toNat) ∧ o.size ≤ 1000000000000 - q.toNat ∧ Hid (mtGo k.toNat k ByteArray.empty = mtGo g q o) ∧ Below w.heap.size w wr)
  case atStart => exact ⟨k, ByteArray.empty, rfl, rfl, by omega, h1, ⟨Nat.le_refl _, Nat.le_refl _⟩, by show 0 ≤ _; omega, rfl, Below.refl _ _⟩
  case round =>
    obtain ⟨q, o, rfl, rfl, hq, hq2, hg, ho, hm, hbel⟩ := hrel
    by_cases hlt : 0 < q
    · have hcv := conv_digit wr (48 + q % 10) (by omega) (by omega)
      have hst := hide (mtGo_step gk q o hlt (by have := hg.out.1; omega))
      have hsz : (⟨#[UInt8.ofNat (48 + q % 10).toNat]⟩ : ByteArray).size = 1 := rfl
      obtain ⟨D, hD⟩ : ∃ D : ByteArray, D = ⟨#[UInt8.ofNat (48 + q % 10).toNat]⟩ := ⟨_, rfl⟩
      rw [← hD] at hcv hst hsz
      have hs2 : D.size + o.size ≤ 9223372036854775807 := by omega
      have HS := hide hsz
      clear hD hsz
      go_wp2_with fail
      go_roundg (gk - 1)
      case rel =>
        refine ⟨_, _, rfl, rfl, by omega, by omega, ⟨?_, ?_⟩, ?_, ?_, hbel.alloc hbel.size _⟩
        · have := hg.out.1; omega
        · have := hg.out.2; omega
        · have h1 := unhide HS
          rw [ByteArray.size_append]
          omega
        · exact hm.out.trans (unhide hst)
      case measure => have := hg.out.1; omega
    · have hz := hide (mtGo_zero gk q o (by omega))
      have hs2 : (⟨#[109]⟩ : ByteArray).size + o.size ≤ 9223372036854775807 := by show 1 + _ ≤ _; omega
      go_wp2_with fail
      go_ret
      exact ⟨ret_str (by rw [unhide fin, hm.out, unhide hz]), hbel⟩

end Go.Proofs.Ytlmibdddfjbbdaa

namespace Go.Proofs.Ytlmibdddfjbbdaa
open Go.RowKit
set_option linter.unusedVariables false

/-- Below block number B all but block b is as it was. -/
structure But (B b : Nat) (w w' : World) : Prop where
  os : w'.os = w.os
  tape : w'.tape = w.tape
  output : w'.output = w.output
  size : w.heap.size ≤ w'.heap.size
  block : ∀ k, k < B → k ≠ b → w'.heap[k]? = w.heap[k]?

theorem But.refl (B b : Nat) (w : World) : But B b w w := ⟨rfl, rfl, rfl, Nat.le_refl _, fun _ _ _ => rfl⟩
theorem But.trans {B b : Nat} {u v w : World} (h : But B b u v) (k : But B b v w) : But B b u w :=
  ⟨k.os.trans h.os, k.tape.trans h.tape, k.output.trans h.output, Nat.le_trans h.size k.size, fun i h1 h2 => (k.block i h1 h2).trans (h.block i h1 h2)⟩
theorem But.ofBelow {B b : Nat} {w w' : World} (h : Below B w w') : But B b w w' := ⟨h.os, h.tape, h.output, h.size, fun k hk _ => h.block k hk⟩
theorem But.set (B b j : Nat) (w : World) (u : Value) : But B b w (w.setCell ⟨b, j, none⟩ u) :=
  ⟨rfl, rfl, rfl, by simp [World.setCell], fun k _ hk => Below.heap_setCell _ _ _ _ (by simpa using hk)⟩
theorem But.below {B B' b : Nat} {w w' : World} (h : But B b w w') (h1 : B' ≤ B) (h2 : B' ≤ b) : Below B' w w' :=
  ⟨h.os, h.tape, h.output, h.size, fun k hk => h.block k (by omega) (by omega)⟩
theorem But.own {B b : Nat} {w w' : World} (h : But B b w w') {c : Nat} {t : TypeId} {xs : List Value} (ho : Own w c t xs) (hc : c < B) (hn : c ≠ b) : Own w' c t xs := by
  obtain ⟨r, h1, h2⟩ := ho
  exact ⟨r, (h.block c hc hn).trans h1, h2⟩
theorem But.mono {B B' b : Nat} {w w' : World} (h : But B b w w') (h1 : B' ≤ B) : But B' b w w' := ⟨h.os, h.tape, h.output, h.size, fun k hk hn => h.block k (by omega) hn⟩
theorem But.ownRow {B b : Nat} {w w' : World} (h : But B b w w') {c : Nat} {t : TypeId} {l : List M.Cl} (ho : OwnRow w c t l) (hc : c < B) (hn : c ≠ b) : OwnRow w' c t l := by
  obtain ⟨xs, h1, h2⟩ := ho
  exact ⟨xs, h.own h1 hc hn, h2⟩

/-- As Words, where the row may be longer. -/
def WordsG (xs : List Value) (l : List M.Cl) (k : Nat) : Prop :=
  l.length * 5 ≤ xs.length ∧ ∀ i, i < k → xs[i * 5]? = some (.int .i64 (l.getD i M.zero).kind) ∧ xs[i * 5 + 1]? = some (.int .i64 (l.getD i M.zero).num) ∧ xs[i * 5 + 2]? = some (.string (l.getD i M.zero).text) ∧ xs[i * 5 + 3]? = some (.string (l.getD i M.zero).key) ∧ xs[i * 5 + 4]? = some (.int .i64 (l.getD i M.zero).n)

theorem WordsG.step {xs : List Value} {l : List M.Cl} {k : Nat} (h : WordsG xs l k) (hk : k < l.length) (c : M.Cl) (hc : c = l.getD k M.zero) :
    WordsG (((((xs.set (k * 5) (.int .i64 c.kind)).set (k * 5 + 1) (.int .i64 c.num)).set (k * 5 + 2) (.string c.text)).set (k * 5 + 3) (.string c.key)).set (k * 5 + 4) (.int .i64 c.n)) l (k + 1) := by
  subst hc
  obtain ⟨hl, hw⟩ := h
  have g := set5_get xs k (.int .i64 (l.getD k M.zero).kind) (.int .i64 (l.getD k M.zero).num) (.string (l.getD k M.zero).text) (.string (l.getD k M.zero).key) (.int .i64 (l.getD k M.zero).n) (by omega)
  refine ⟨by simpa using hl, fun i hi => ?_⟩
  by_cases e : i = k
  · subst e; exact ⟨g.1, g.2.1, g.2.2.1, g.2.2.2.1, g.2.2.2.2.1⟩
  · have o := g.2.2.2.2.2
    have hw' := hw i (by omega)
    exact ⟨(o _ (by omega)).trans hw'.1, (o _ (by omega)).trans hw'.2.1, (o _ (by omega)).trans hw'.2.2.1, (o _ (by omega)).trans hw'.2.2.2.1, (o _ (by omega)).trans hw'.2.2.2.2⟩

/-- A row of the call's own that begins with the cells of l. -/
def OwnG (w : World) (b : Nat) (t : TypeId) (l : List M.Cl) : Prop := ∃ xs, Own w b t xs ∧ WordsG xs l l.length
theorem OwnRow.wide {w : World} {b : Nat} {t : TypeId} {l : List M.Cl} (h : OwnRow w b t l) : OwnG w b t l := by
  obtain ⟨xs, h1, h2, h3⟩ := h; exact ⟨xs, h1, by omega, h3⟩
theorem OwnG.row {w : World} {b : Nat} {t : TypeId} {l : List M.Cl} (h : OwnG w b t l) : Row w b 0 l := by
  obtain ⟨xs, ho, _, hw⟩ := h
  intro i hi
  obtain ⟨h0, h1, h2, h3, h4⟩ := hw i hi
  simp only [Nat.zero_add]
  exact ⟨(ho.cell _).trans h0, (ho.cell _).trans h1, (ho.cell _).trans h2, (ho.cell _).trans h3, (ho.cell _).trans h4⟩
theorem OwnG.lt {w : World} {b : Nat} {t : TypeId} {l : List M.Cl} (h : OwnG w b t l) : b < w.heap.size := by obtain ⟨xs, ho, _⟩ := h; exact ho.lt
theorem OwnG.below {B : Nat} {w w' : World} {b : Nat} {t : TypeId} {l : List M.Cl} (h : OwnG w b t l) (hb : Below B w w') (hB : b < B) : OwnG w' b t l := by
  obtain ⟨xs, ho, hw⟩ := h; exact ⟨xs, ho.below hb hB, hw⟩
theorem But.ownG {B b : Nat} {w w' : World} (h : But B b w w') {c : Nat} {t : TypeId} {l : List M.Cl} (ho : OwnG w c t l) (hc : c < B) (hn : c ≠ b) : OwnG w' c t l := by
  obtain ⟨xs, h1, h2⟩ := ho
  exact ⟨xs, h.own h1 hc hn, h2⟩

/-- The cells that laws.markCellS leaves. -/
def markCl (k : Int) (i : Nat) : M.Cl := ⟨k + 5 * i, k + 5 * i + 1, mt (k + 5 * i + 2), mt (k + 5 * i + 3), k + 5 * i + 4⟩
def marked (n : Nat) (k : Int) : List M.Cl := (List.range n).map (markCl k)
theorem marked_length (n : Nat) (k : Int) : (marked n k).length = n := by simp [marked]
theorem marked_getD (n : Nat) (k : Int) (i : Nat) (hi : i < n) : (marked n k).getD i M.zero = markCl k i := by simp [marked, List.getD_eq_getElem?_getD, hi]

set_option maxRecDepth 100000 in
set_option maxHeartbeats 2000000 in
theorem markCellS_any (b cap : Nat) (l : List M.Cl) (k : Int) (w : World) (ho : OwnG w b 41 l) (hn : l.length ≤ 1048576) (hcap : l.length ≤ cap) (k0 : 0 ≤ k) (k1 : k ≤ 100000000000) :
    Calls Try.prog 10 #[.slice (some ⟨b, 0, none⟩) l.length cap, .int .i64 k] w fun e w' => e = .returned (.int .i64 (k + 5 * l.length)) ∧ OwnG w' b 41 (marked l.length k) ∧ But w.heap.size b w w' := by
  have hblt := ho.lt
  go_enter Try.func10, Try.ntmps10
  go_wp2_with fail
  go_loopg [1, 5] l.length (fun g s1 s5 wr => ∃ (i : Nat) (q : Int) (xs : List Value), Hid (g = l.length - i) ∧ s5 = .int .i64 i ∧ s1 = .int .i64 q ∧ i ≤ l.length ∧ 0 ≤ q ∧ q ≤ 200000000000 ∧ Hid (q = k + 5 * i) ∧ Own wr b 41 xs ∧ WordsG xs (marked l.length k) i ∧ But w.heap.size b w wr)
  case atStart =>
    obtain ⟨xs, o1, o2⟩ := ho
    exact ⟨0, k, xs, rfl, rfl, rfl, by omega, k0, by omega, by simp [Hid], o1, ⟨by rw [marked_length]; exact o2.1, fun i hi => absurd hi (by omega)⟩, But.refl _ _ _⟩
  case round =>
    clear ho
    obtain ⟨i, q, xs, hg, rfl, rfl, hi, q0, q1, hq, hown, hwords, hbut⟩ := hrel
    by_cases hlt : i < l.length
    · have hlen : l.length * 5 ≤ xs.length := by have := hwords.1; rwa [marked_length] at this
      obtain ⟨v0, g0⟩ := some_of_lt (xs := xs) (j := i * 5) (by omega)
      obtain ⟨v1, g1⟩ := some_of_lt (xs := xs) (j := i * 5 + 1) (by omega)
      obtain ⟨v2, g2⟩ := some_of_lt (xs := xs) (j := i * 5 + 2) (by omega)
      obtain ⟨v3, g3⟩ := some_of_lt (xs := xs) (j := i * 5 + 3) (by omega)
      obtain ⟨v4, g4⟩ := some_of_lt (xs := xs) (j := i * 5 + 4) (by omega)
      have i0 := (hown.cell (i * 5)).trans g0
      have i1 : ∀ u, (wr.setCell ⟨b, i * 5, none⟩ u).cell? ⟨b, i * 5 + 1, none⟩ = some v1 := fun u => ((hown.set (i * 5) u).cell (i * 5 + 1)).trans (by rw [List.getElem?_set_ne (by omega)]; exact g1)
      have z0 := hown.frozen (i * 5)
      have z1 : ∀ u, (wr.setCell ⟨b, i * 5, none⟩ u).frozen? ⟨b, i * 5 + 1, none⟩ = false := fun u => (hown.set (i * 5) u).frozen (i * 5 + 1)
      have HL := hide hlen
      have G2 := hide g2
      have G3 := hide g3
      have G4 := hide g4
      clear hlen g0 g1 g2 g3 g4
      go_wp2_with fail
      refine (markText_any _ _ (by omega)).mono ?_
      rintro e w1 ⟨rfl, hb1⟩
      have o1 := ((hown.set (i * 5) (.int .i64 q)).set (i * 5 + 1) (.int .i64 (q + 1))).below hb1 (by have := hown.lt; simpa [World.setCell] using this)
      have u1 : But w.heap.size b w w1 := ((hbut.trans (But.set _ b (i * 5) wr (.int .i64 q))).trans (But.set _ b (i * 5 + 1) _ (.int .i64 (q + 1)))).trans (But.ofBelow (hb1.mono (by have := hbut.size; simpa [World.setCell] using this)))
      have j2 : w1.cell? ⟨b, i * 5 + 2, none⟩ = some v2 := (o1.cell _).trans (by rw [List.getElem?_set_ne (by omega), List.getElem?_set_ne (by omega)]; exact unhide G2)
      have y2 := o1.frozen (i * 5 + 2)
      clear i0 i1 z0 z1 hb1
      generalize ht2 : mt (q + 1 + 1) = t2 at *
      have HT2 := hide ht2
      clear ht2
      go_wp2_with fail
      refine (markText_any _ _ (by omega)).mono ?_
      rintro e w2 ⟨rfl, hb2⟩
      have o2 := (o1.set (i * 5 + 2) (.string t2)).below hb2 (by have := o1.lt; simpa [World.setCell] using this)
      have u2 : But w.heap.size b w w2 := (u1.trans (But.set _ b (i * 5 + 2) _ (.string t2))).trans (But.ofBelow (hb2.mono (by have := u1.size; simpa [World.setCell] using this)))
      have j3 : w2.cell? ⟨b, i * 5 + 3, none⟩ = some v3 := (o2.cell _).trans (by rw [List.getElem?_set_ne (by omega), List.getElem?_set_ne (by omega), List.getElem?_set_ne (by omega)]; exact unhide G3)
      have y3 := o2.frozen (i * 5 + 3)
      have j4 : ∀ u, (w2.setCell ⟨b, i * 5 + 3, none⟩ u).cell? ⟨b, i * 5 + 4, none⟩ = some v4 := fun u => ((o2.set (i * 5 + 3) u).cell _).trans (by rw [List.getElem?_set_ne (by omega), List.getElem?_set_ne (by omega), List.getElem?_set_ne (by omega), List.getElem?_set_ne (by omega)]; exact unhide G4)
      have y4 : ∀ u, (w2.setCell ⟨b, i * 5 + 3, none⟩ u).frozen? ⟨b, i * 5 + 4, none⟩ = false := fun u => (o2.set (i * 5 + 3) u).frozen _
      clear j2 y2 hb2
      generalize ht3 : mt (q + 1 + 1 + 1) = t3 at *
      have HT3 := hide ht3
      clear ht3
      go_wp2_with fail
      go_roundg (l.length - (i + 1))
      case rel =>
        refine ⟨i + 1, _, _, rfl, by go_num, rfl, by omega, by omega, ?_, ?_, (o2.set (i * 5 + 3) _).set (i * 5 + 4) _, ?_, (u2.trans (But.set _ b (i * 5 + 3) _ _)).trans (But.set _ b (i * 5 + 4) _ _)⟩
        · have := hq.out; omega
        · show _ = _; have := hq.out; omega
        · have e := marked_getD l.length k i hlt
          have hs := hwords.step (by rw [marked_length]; exact hlt) (markCl k i) e.symm
          have h5 := hq.out
          simp only [markCl] at hs
          rw [show k + 5 * (i : Int) = q from by omega, show q + 2 = q + 1 + 1 from by omega, show q + 3 = q + 1 + 1 + 1 from by omega, unhide HT2, unhide HT3, show q + 4 = q + 1 + 1 + 1 + 1 from by omega] at hs
          exact hs
      case measure => have := hg.out; omega
    · have hie : i = l.length := by omega
      have fin : OwnG wr b 41 (marked l.length k) := ⟨xs, hown, by rw [marked_length]; exact hie ▸ hwords⟩
      have hq' := hq.out
      rw [hie] at hq'
      have HQ := hide hq'
      clear hie hq'
      go_wp2_with fail
      go_ret
      exact ⟨ret_int (unhide HQ), fin, hbut⟩

end Go.Proofs.Ytlmibdddfjbbdaa
