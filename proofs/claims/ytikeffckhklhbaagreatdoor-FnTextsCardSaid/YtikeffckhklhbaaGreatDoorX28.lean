/-
  (*scalarReader).quoted.
-/
import Derived.Test.YtikeffckhklhbaaGreatDoorX18
import Derived.Test.YtikeffckhklhbaaGreatDoorX27
import Derived.Lib.BufferRead
namespace Go.Proofs.YtikeffckhklhbaaGreatDoor
open Go.RowKit
set_option linter.unusedVariables false
set_option linter.unusedSimpArgs false

theorem Tch.owns {B b base : Nat} {w w' : World} {e : TypeId} {size : Nat} {v : Value} {n : Nat} {xs : List Value} (ht : Tch B b w w') (h : w.ownsRow base e size v n xs) (hB : w.heap.size ≤ B) (hb : b < base) : w'.ownsRow base e size v n xs := by
  obtain ⟨h0, h1 | ⟨g, cap, cur, h2, hg, hh, rest⟩⟩ := h
  · exact ⟨h0, .inl h1⟩
  · exact ⟨h0, .inr ⟨g, cap, cur, h2, hg, (ht.block g (Nat.lt_of_lt_of_le (Array.getElem?_eq_some_iff.1 hh).1 hB) (by omega)).trans hh, rest⟩⟩
theorem Tch.alloc {B b : Nat} {w w' : World} (h : Tch B b w w') (hB : B ≤ w'.heap.size) (o : Obj) : Tch B b w (w'.alloc o) :=
  ⟨h.os, h.tape, h.output, by have := h.size; simp; omega, fun k hk hn => (Below.heap_alloc w' o k (by omega)).trans (h.block k hk hn)⟩
theorem Tch.grown {B b : Nat} {w w1 w2 : World} {row : Option Nat} (h : Tch B b w w1) (hg : w1.grownBy w2 row) (hB : B ≤ w1.heap.size) (hr : ∀ k, row = some k → B ≤ k) : Tch B b w w2 :=
  ⟨hg.os.trans h.os, hg.tape.trans h.tape, hg.output.trans h.output, Nat.le_trans h.size hg.size, fun k hk hn => (hg.block k (by omega) (fun e => by have := hr k e.symm; omega)).trans (h.block k hk hn)⟩
theorem Rd.grown {w w' : World} {b : Nat} {t : TypeId} {s : ByteArray} {k : Nat} {rest : List Value} {row : Option Nat} (h : Rd w b t s k rest) (hg : w.grownBy w' row) (hne : row ≠ some b) : Rd w' b t s k rest := by
  obtain ⟨c, hc, e⟩ := h
  exact ⟨c, (hg.block b (Array.getElem?_eq_some_iff.1 hc).1 (fun h => hne h.symm)).trans hc, e⟩
theorem Rd.alloc {w : World} {b : Nat} {t : TypeId} {s : ByteArray} {k : Nat} {rest : List Value} (h : Rd w b t s k rest) (o : Obj) : Rd (w.alloc o) b t s k rest := Own.alloc h o
theorem Rd.lt {w : World} {b : Nat} {t : TypeId} {s : ByteArray} {k : Nat} {rest : List Value} (h : Rd w b t s k rest) : b < w.heap.size := Own.lt h
theorem bv_byte (l : List UInt8) (c : Int) (h0 : 0 ≤ c) (h1 : c ≤ 255) : J.bv l ++ [Value.int .u8 c] = J.bv (l ++ [UInt8.ofNat c.toNat]) := by
  have e : ((UInt8.ofNat c.toNat).toNat : Int) = c := by rw [UInt8.toNat_ofNat']; omega
  rw [← J.bv_snoc, e]

/-- What a reader of a string leaves. -/
def TextLeft (b : Nat) (t : TypeId) (s : ByteArray) (rest : List Value) (R : (Int × Nat) ⊕ (List UInt8 × Nat)) (e : Ending) (w' : World) : Prop :=
  (∃ l m, R = .inr (l, m) ∧ e = .returned (.tuple #[.string (J.bytes l), .nilIface]) ∧ m ≤ s.size ∧ Rd w' b t s m rest) ∨ (∃ (c : Int) (m q : Nat), R = .inl (c, m) ∧ e = .returned (.tuple #[.string ByteArray.empty, .iface 55 (.agg #[.int .i64 c, .int .i64 (m : Int)])]) ∧ q ≤ s.size ∧ Rd w' b t s q rest)

set_option maxRecDepth 100000 in
set_option maxHeartbeats 2000000 in
theorem quoted_any (b : Nat) (t : TypeId) (s : ByteArray) (k : Nat) (rest : List Value) (w : World) (h : Rd w b t s k rest) (hk : k ≤ s.size) (hs : s.size ≤ 1048576) : Calls Tryz.prog 88 #[.pointer (some ⟨b, 0, none⟩)] w fun e w' => TextLeft b t s rest (J.quotR s k) e w' ∧ Tch w.heap.size b w w' := by
  obtain ⟨i0, hi, hz0, hz1, hz2⟩ := info_parts Tryz.info5
  have q1 := h.cell 1
  simp only [List.getElem?_cons_zero, List.getElem?_cons_succ] at q1
  have hbw := h.lt
  by_cases hp : J.peek s k = 34
  · have hlt := J.peek_lt s k 34 (by decide) hp
    have HQ1 := hide (fun p => J.quotR_bad (p := p) hp)
    have HQ2 := hide (fun l e => J.quotR_big (l := l) (e := e) hp)
    have HQ3 := hide (fun l e => J.quotR_ok (l := l) (e := e) hp)
    have HF := hide (J.qF_fuel s (s.size + 1) (s.size + 1 - (k + 1)) (k + 1) [] (by omega) (by omega) (by omega))
    have HTK := hide (take_yes b t s k 34 rest w h hs (by decide) hp)
    clear hp
    go_enter Tryz.func88, Tryz.ntmps88
    go_wp2_with fail
    refine (unhide HTK).mono ?_
    rintro e w1 ⟨rfl, hr1, ht1⟩
    clear h HTK q1
    go_wp2_with fail
    go_loopg [5] (s.size + 1 - (k + 1)) (fun gh s5 wr => ∃ (i : Nat) (l : List UInt8), Hid (gh = s.size + 1 - i) ∧ i ≤ s.size ∧ wr.ownsRow w.heap.size 5 1 s5 l.length (J.bv l) ∧ l.length ≤ i ∧ Hid (J.qF s (s.size + 1) (k + 1) [] = J.qF s (s.size + 1 - i) i l) ∧ Rd wr b t s i rest ∧ Tch w.heap.size b w wr)
    case atStart => exact ⟨k + 1, [], rfl, by omega, World.ownsRow_nil _ _ _ _, by simp, unhide HF, hr1, ht1⟩
    case round =>
      obtain ⟨i, l, hg, his, hown, hli, hqf, hr, ht⟩ := hrel
      obtain ⟨xa, xn, xc, rfl⟩ : ∃ a n c, u5 = Value.slice a n c := by
        obtain ⟨_, ⟨rfl, _⟩ | ⟨g, cap, cur, rfl, _⟩⟩ := hown
        · exact ⟨_, _, _, rfl⟩
        · exact ⟨_, _, _, rfl⟩
      have hwsz := ht.size
      by_cases hp : J.peek s i = 34
      · have hlt2 := J.peek_lt s i 34 (by decide) hp
        have HE := hide (hqf.out.trans (J.qF_end his l hp))
        have HTK2 := hide (take_yes b t s i 34 rest wr hr hs (by decide) hp)
        clear hp
        go_wp2_with fail
        refine (unhide HTK2).mono ?_
        rintro e w2 ⟨rfl, hr2, ht2⟩
        have ht3 := ht.trans (ht2.mono hwsz)
        have hown2 := ht2.owns hown (Nat.le_refl _) hbw
        clear HTK2 ht2 ht hr hown
        have hlen : ∃ a c, Value.slice xa xn xc = Value.slice a l.length c := by
          obtain ⟨_, ⟨h1, h2⟩ | ⟨g, cap, cur, h1, _⟩⟩ := hown2
          · cases h1; exact ⟨_, _, by rw [h2]⟩
          · exact ⟨_, _, h1⟩
        obtain ⟨xa', xc', hx⟩ := hlen
        cases hx
        by_cases hbig : 60 < l.length
        · have hbI : (60 : Int) < (l.length : Int) := by omega
          have HR := hide ((unhide HQ2) l _ (unhide HE) hbig)
          clear hown2
          go_wp2_with fail
          go_ret2
          exact ⟨.inr ⟨2, k, i + 1, unhide HR, rfl, by omega, hr2⟩, ht3⟩
        · have hbI : ¬ (60 : Int) < (l.length : Int) := by omega
          have HR := hide ((unhide HQ3) l _ (unhide HE) hbig)
          rcases hown2.2 with ⟨hnil, h0⟩ | ⟨g2, cap2, cur, hsome, hgb, _⟩
          · have hl0 : l = [] := List.length_eq_zero_iff.1 h0
            subst hl0
            obtain ⟨rfl, rfl⟩ : xa = none ∧ xc = 0 := by injection hnil with e1 e2 e3; exact ⟨e1, e3⟩
            have hcv : (convert 22 9 (.slice none 0 0)).run Tryz.prog w2 = .ok (.string ByteArray.empty) w2 := Lib.run_convert_nil_bytes w2 22 9 5 0 Tryz.underlying22 Tryz.underlying5 Tryz.underlying9
            clear hown2 h0
            go_wp2_with fail
            go_ret2
            exact ⟨.inl ⟨[], i + 1, unhide HR, rfl, by omega, hr2⟩, ht3⟩
          · obtain ⟨rfl, rfl⟩ : xa = some ⟨g2, 0, none⟩ ∧ xc = cap2 := by injection hsome with e1 e2 e3; exact ⟨e1, e3⟩
            have hcv := show (convert 22 9 (.slice (some ⟨g2, 0, none⟩) l.length xc)).run Tryz.prog w2 = .ok (.string (J.bytes l)) w2 from
              run_convert_bytes_back _ _ _ 5 _ xc _ Tryz.underlying22 Tryz.underlying5 Tryz.underlying9 (J.owns_cells hown2)
            clear hown2
            go_wp2_with fail
            go_ret2
            exact ⟨.inl ⟨l, i + 1, unhide HR, rfl, by omega, hr2⟩, ht3⟩
      · have HTK2 := hide (take_no b t s i 34 rest wr hr his hs hp)
        have HNX := hide (fun c j (hsb : J.sbR s i = .inr (c, j)) => hqf.out.trans (J.qF_next his l hp hsb))
        have HBD := hide (fun p (hsb : J.sbR s i = .inl p) => hqf.out.trans (J.qF_bad his l hp hsb))
        clear hp
        go_wp2_with fail
        refine (unhide HTK2).mono ?_
        rintro e w2 ⟨rfl, q2, hw2⟩
        have hr2 : Rd w2 b t s i rest := by rw [hw2]; exact hr.drewN q2
        have ht2 : Tch w.heap.size b w w2 := by rw [hw2]; exact ht.drewN q2
        have hown2 : w2.ownsRow w.heap.size 5 1 (.slice xa xn xc) l.length (J.bv l) := by rw [hw2]; exact hown
        clear HTK2 hw2 hr ht hown
        go_wp2_with fail
        refine (stringByte_any b t s i rest _ hr2 his hs).mono ?_
        rintro e w3 ⟨hleft, ht3⟩
        have ht4 := ht2.trans (ht3.mono ht2.size)
        have hown3 := ht3.owns hown2 (Nat.le_refl _) hbw
        have hwsz3 := ht4.size
        clear ht2 ht3 hr2 hown2
        rcases hleft with ⟨c, j, hsb, rfl, hr3⟩ | ⟨c, j, q, hsb, rfl, hq, hr3⟩
        · have hok := J.sbR_ok his hsb
          have HN := hide ((unhide HNX) c j hsb)
          clear hsb HNX HBD
          have hown1 := hide (fun o => hown3.alloc o)
          have hone := hide (J.one_word w3 c)
          have honep := hide (J.one_plain c)
          have hb63 : l.length + 1 ≤ maxLen := by unfold maxLen; omega
          have hby : (l.length + 1) * 1 ≤ 140737488355328 := by omega
          have hbase : w.heap.size ≤ w3.heap.size + 1 := by omega
          have hbse := hide (J.owns_base hown3)
          clear hown3
          go_wp2_with (at_builtin; refine wpList_append_own _ rfl (.tmp 35) (.tmp 37) 22 rfl w.heap.size 5 i0 (.int .u8 0) 1 1 Tryz.underlying22 hi hz0 hz1 hz2 rfl (by decide) _ l.length _ rfl ((unhide hown1) _) ⟨w3.heap.size, 0, none⟩ 1 1 [.int .u8 c] rfl rfl (unhide hone) (unhide honep) hb63 hby (by simpa using hbase) ?_)
          intro v4 w4 ho4 hg4 _
          have ht5 : Tch w.heap.size b w w4 := (ht4.alloc hwsz3 _).grown hg4 (by simpa using hbase) (unhide hbse)
          have hr4 : Rd w4 b t s j rest := (hr3.alloc _).grown hg4 (fun e => by have := (unhide hbse) b e; omega)
          have HO4 := hide (show w4.ownsRow w.heap.size 5 1 v4 (l ++ [UInt8.ofNat c.toNat]).length (J.bv (l ++ [UInt8.ofNat c.toNat])) by
            rw [List.length_append, ← bv_byte l c (by omega) (by omega)]; exact ho4)
          clear ho4 hg4 hown1 hone honep hbse hr3 ht4
          obtain ⟨ya, yn, yc, rfl⟩ : ∃ a n c, v4 = Value.slice a n c := by
            obtain ⟨_, ⟨rfl, _⟩ | ⟨g, cap, cur, rfl, _⟩⟩ := unhide HO4
            · exact ⟨_, _, _, rfl⟩
            · exact ⟨_, _, _, rfl⟩
          go_wp2_with fail
          go_roundg (s.size + 1 - j)
          case rel => exact ⟨j, _, rfl, by omega, unhide HO4, by rw [List.length_append]; show l.length + 1 ≤ j; omega, unhide HN, hr4, ht5⟩
          case measure => have := hg.out; omega
        · have HR := hide ((unhide HQ1) _ ((unhide HBD) _ hsb))
          clear hsb HNX HBD hown3
          go_wp2_with fail
          go_ret2
          exact ⟨.inr ⟨c, j, q, unhide HR, rfl, hq, hr3⟩, ht4⟩
  · have HR := hide (J.quotR_no hp)
    have HTK := hide (take_no b t s k 34 rest w h hk hs hp)
    clear hp
    go_enter Tryz.func88, Tryz.ntmps88
    go_wp2_with fail
    refine (unhide HTK).mono ?_
    rintro e w1 ⟨rfl, q, hw1⟩
    have hr1 : Rd w1 b t s k rest := by rw [hw1]; exact h.drewN q
    have ht1 : Tch w.heap.size b w w1 := by rw [hw1]; exact (Tch.refl _ _ _).drewN q
    clear hw1 HTK h q1
    go_wp2_with fail
    refine (stuck_any b t s k rest _ hr1).mono ?_
    rintro e w4 ⟨rfl, hr4, ht4⟩
    have ht5 := ht1.trans (ht4.mono ht1.size)
    clear ht1 ht4 hr1
    go_wp2_with fail
    go_ret2
    exact ⟨.inr ⟨5, k, k, unhide HR, rfl, hk, hr4⟩, ht5⟩

end Go.Proofs.YtikeffckhklhbaaGreatDoor
