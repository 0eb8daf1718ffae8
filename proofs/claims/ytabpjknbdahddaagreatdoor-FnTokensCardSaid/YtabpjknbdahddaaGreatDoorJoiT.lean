/-
  spec.JoinTokens and impl.JoinTokens answer J.joinOut.
-/
import Derived.Test.YtabpjknbdahddaaGreatDoorTokS
import Derived.Test.YtabpjknbdahddaaGreatDoorTokI
import Derived.Test.YtabpjknbdahddaaGreatDoorJoiM
import Derived.Test.YtabpjknbdahddaaGreatDoorTkL
import Derived.Test.YtabpjknbdahddaaGreatDoorShelfJ
namespace Go.Proofs.YtabpjknbdahddaaGreatDoor
open Go.RowKit
set_option linter.unusedVariables false
set_option linter.unusedSimpArgs false

theorem one_str (w : World) (s : ByteArray) : ∀ j x, ([Value.string s] : List Value)[j]? = some x → (w.alloc (.cells #[.string s] 9)).cell? ((⟨w.heap.size, 0, none⟩ : Addr).add j) = some x := by
  intro j x hu
  match j, hu with
  | 0, hu =>
    simp only [List.getElem?_cons_zero, Option.some.injEq] at hu
    subst hu
    have a0 : (⟨w.heap.size, 0, none⟩ : Addr).add 0 = ⟨w.heap.size, 0, none⟩ := by simp [Addr.add]
    rw [a0]
    exact World.cell?_alloc_mark w #[.string s] 9 (0, 0) 0
theorem one_str_plain (s : ByteArray) : ∀ u ∈ ([Value.string s] : List Value), u.oneCell' = true := by
  intro u hu; simp only [List.mem_cons, List.not_mem_nil, or_false] at hu; subst hu; rfl
theorem infoStr : (Tryz.prog.info? 9).map (fun i => (i.zero, i.size, i.bytes)) = some (some (.string ByteArray.empty), 1, 16) := by kernel_rfl
theorem owns_shape2 {w : World} {base : Nat} {e : TypeId} {size : Nat} {v : Value} {n : Nat} {xs : List Value} (h : w.ownsRow base e size v n xs) : ∃ a k c, v = .slice a k c := by
  obtain ⟨_, ⟨rfl, _⟩ | ⟨g, cap, cur, rfl, _⟩⟩ := h
  · exact ⟨_, _, _, rfl⟩
  · exact ⟨_, _, _, rfl⟩
theorem owns_below2 {w w' : World} {base : Nat} {e : TypeId} {size : Nat} {v : Value} {n : Nat} {xs : List Value} (h : w.ownsRow base e size v n xs) (hb : Below w.heap.size w w') : w'.ownsRow base e size v n xs := by
  obtain ⟨h0, h1 | ⟨g, cap, cur, h2, hg, hh, rest⟩⟩ := h
  · exact ⟨h0, .inl h1⟩
  · exact ⟨h0, .inr ⟨g, cap, cur, h2, hg, (hb.block g (Array.getElem?_eq_some_iff.1 hh).1).trans hh, rest⟩⟩

set_option maxRecDepth 100000 in
set_option maxHeartbeats 2000000 in
theorem specJoin_any (b c : Nat) (l : List Tk) (w : World) (hrow : Tk.Row w b 0 l) (hb : b < w.heap.size) (hcl : l.length ≤ c) (hn : l.length ≤ 1048576) (hsz : ∀ i, i < l.length → (l.getD i Tk.zero).text.size ≤ 1048576) :
    Calls Tryz.prog 8 #[.slice (some ⟨b, 0, none⟩) l.length c] w fun e w' => e = .returned (.agg #[.int .i64 (J.joinOut l).1, .string (J.joinOut l).2]) ∧ Below w.heap.size w w' := by
  by_cases hmany : 300 < l.length
  · have fin := hide (J.join_many hmany)
    have hmI : (300 : Int) < (l.length : Int) := by omega
    go_enter Tryz.func8, Tryz.ntmps8
    go_wp2_with fail
    refine bodyPost_ret (v := .agg #[.int .i64 2, .string ByteArray.empty]) (by simp [results, Tryz.results8, go_sem]; try rfl) rfl ⟨by rw [unhide fin], ?_⟩
    exact (Below.refl _ _).alloc (Nat.le_refl _) _
  have hmI : ¬ (300 : Int) < (l.length : Int) := by omega
  have hn300 : l.length ≤ 300 := by omega
  have HM := hide hmany
  have HR := hide hrow
  have HS := hide hsz
  clear hrow hsz hmany
  obtain ⟨w0, hw0⟩ : ∃ w0, w0 = w.alloc (.cells #[.int .i64 0, .string ByteArray.empty] 27) := ⟨_, rfl⟩
  have B0 : Below w.heap.size w w0 := by rw [hw0]; exact (Below.refl _ _).alloc (Nat.le_refl _) _
  have hX0 : Own w0 w.heap.size 27 [.int .i64 0, .string ByteArray.empty] := by rw [hw0]; exact ⟨_, heap_alloc_new _ _, rfl⟩
  go_enter Tryz.func8, Tryz.ntmps8
  go_wp2_with fail
  try (rw [show (w.alloc (.cells #[.int .i64 0, .string { data := #[] }] 27)) = w0 from hw0.symm])
  clear hw0
  go_loopg [3, 4] l.length (fun gh s3 s4 wr => ∃ (k : Nat) (o : ByteArray), Hid (gh = l.length - k) ∧ s3 = .string o ∧ s4 = .int .i64 k ∧ k ≤ l.length ∧ Hid (o = J.joinK l k) ∧ Hid (∀ j, j < k → (J.tokT (l.getD j Tk.zero)).1 = 0) ∧ Below w0.heap.size w0 wr)
  case atStart => exact ⟨0, _, rfl, rfl, rfl, by omega, rfl, fun j hj => absurd hj (by omega), Below.refl _ _⟩
  case round =>
    obtain ⟨k, o, hg, rfl, rfl, hk, ho, hall, hbel⟩ := hrel
    have BW : Below w.heap.size w wr := B0.trans (hbel.mono B0.size)
    have hX := hX0.below hbel hX0.lt
    have hosz : o.size ≤ 400000000 := by rw [ho.out]; exact J.joinK_room l k (by omega) (fun j hj => (unhide HS) j (by omega))
    by_cases hlt : k < l.length
    · have hltI : (k : Int) < (l.length : Int) := by omega
      obtain ⟨f0, f1, f2, f3⟩ := ((unhide HR).below BW hb) k hlt
      simp only [Nat.zero_add] at f0 f1 f2 f3
      have hts := (unhide HS) k hlt
      have hsize := J.tokT_size hts
      have hhit := hide (fun hz => J.badAt_hit l k hall.out hlt hz)
      have hnext := hide (fun (h0 : (J.tokT (l.getD k Tk.zero)).1 = 0) j (hj : j < k + 1) => show (J.tokT (l.getD j Tk.zero)).1 = 0 by
        by_cases e : j = k
        · subst e; exact h0
        · exact hall.out j (by omega))
      have hline : Hid (J.joinK l (k + 1) = (if k = 0 then o else o ++ ⟨#[32]⟩) ++ (J.tokT (l.getD k Tk.zero)).2) := by
        show _ = _
        rw [ho.out, J.joinK]
      have hbd := hide (J.tokT_bad (t := l.getD k Tk.zero))
      have HT := hide (fun wq => specTok_any (l.getD k Tk.zero).kind (l.getD k Tk.zero).at_ (l.getD k Tk.zero).num (l.getD k Tk.zero).text wq hts)
      have hT2 : Hid (J.tokOut (l.getD k Tk.zero).kind (l.getD k Tk.zero).num (l.getD k Tk.zero).text = J.tokT (l.getD k Tk.zero)) := rfl
      rw [hT2.out] at HT
      clear hT2
      generalize J.tokT (l.getD k Tk.zero) = R at *
      generalize l.getD k Tk.zero = t at *
      obtain ⟨x, y⟩ := R
      simp only at hhit hnext hline hbd hsize HT
      go_wp2_with fail
      refine ((unhide HT) _).mono ?_
      rintro e1 w1 ⟨rfl, hb1⟩
      have B1 : Below w0.heap.size w0 w1 := hbel.trans (hb1.mono hbel.size)
      have hX1 := hX.below hb1 hX.lt
      have hne : w1.heap.size ≠ w.heap.size := by have := hX1.lt; omega
      clear f0 f1 f2 f3 hX hb1 HT
      have B2 : Below w0.heap.size w0 (w1.alloc (.cells #[.int .i64 x, .string y] 27)) := B1.alloc B1.size _
      by_cases hz : x = 0
      · have hn2 := hide ((unhide hnext) hz)
        subst hz
        clear hhit hnext hbd
        by_cases h0 : k = 0
        · rw [if_pos h0] at hline
          have hzI : ¬ (0 : Int) < (k : Int) := by omega
          go_wp2_with fail
          go_roundg (l.length - (k + 1))
          case rel => exact ⟨k + 1, _, rfl, rfl, by go_num, by omega, by (show _ = _; rw [hline.out]), unhide hn2, B2⟩
          case measure => have := hg.out; omega
        · rw [if_neg h0] at hline
          have hzI : (0 : Int) < (k : Int) := by omega
          have hos2 : (o ++ ({ data := #[32] } : ByteArray)).size ≤ 400000001 := by rw [ByteArray.size_append]; show o.size + 1 ≤ _; omega
          go_wp2_with fail
          go_roundg (l.length - (k + 1))
          case rel => exact ⟨k + 1, _, rfl, rfl, by go_num, by omega, by (show _ = _; rw [hline.out]), unhide hn2, B2⟩
          case measure => have := hg.out; omega
      · have hbad := (unhide hhit) hz
        have hy := (unhide hbd) hz
        subst hy
        have hz' : (x == 0) = false := by simp [hz]
        have fin := hide ((J.join_bad (unhide HM) (by rw [hbad]; exact hz)).trans (by rw [hbad]))
        have B1w : Below w.heap.size w w1 := B0.trans (B1.mono B0.size)
        clear hhit hnext hbad hz hbd
        have hX2 : ∀ o, Own (w1.alloc o) w.heap.size 27 [.int .i64 0, .string ByteArray.empty] := fun o => hX1.alloc o
        have r0 : ∀ o, (w1.alloc o).cell? ⟨w.heap.size, 0, none⟩ = some (.int .i64 0) := fun o => (hX2 o).cell 0
        have r1 : ∀ o, (w1.alloc o).cell? ⟨w.heap.size, 1, none⟩ = some (.string ByteArray.empty) := fun o => (hX2 o).cell 1
        have z0 : ∀ o, (w1.alloc o).frozen? ⟨w.heap.size, 0, none⟩ = false := fun o => (hX2 o).frozen 0
        have z1 : ∀ o, (w1.alloc o).frozen? ⟨w.heap.size, 1, none⟩ = false := fun o => (hX2 o).frozen 1
        have q0 := hX1.cell 0
        have q1 := hX1.cell 1
        have y0 := hX1.frozen 0
        have y1 := hX1.frozen 1
        simp only [List.getElem?_cons_zero, List.getElem?_cons_succ] at q0 q1
        go_wp2_with fail
        refine bodyPost_ret (v := .agg #[.int .i64 x, .string ByteArray.empty]) (by simp [results, Tryz.results8, go_sem, r0, r1, hne, hne.symm]; try rfl) rfl ⟨by rw [unhide fin], ?_⟩
        first
          | exact ((B1w.alloc B1w.size _).setCell (Nat.le_refl _) _).setCell (Nat.le_refl _) _
          | exact ((B1w.setCell (Nat.le_refl _) _).setCell (Nat.le_refl _) _).alloc (by simp; exact B1w.size) _
    · have hge : ¬ (k : Int) < (l.length : Int) := by omega
      have hke : k = l.length := by omega
      have fin := hide (J.join_ok (unhide HM) (J.badAt_none l (by rw [← hke]; exact hall.out)))
      have hq : Hid (J.joinK l l.length = o) := by show _ = _; rw [ho.out, hke]
      rw [hq.out] at fin
      clear hke
      have r0 := hX.cell 0
      have r1 := hX.cell 1
      have z0 := hX.frozen 0
      have z1 := hX.frozen 1
      simp only [List.getElem?_cons_zero, List.getElem?_cons_succ] at r0 r1
      go_wp2_with fail
      refine bodyPost_ret (v := .agg #[.int .i64 0, .string o]) (by simp [results, Tryz.results8, go_sem, r0, r1]) rfl ⟨by rw [unhide fin], ?_⟩
      exact (BW.setCell (Nat.le_refl _) _).setCell (Nat.le_refl _) _

set_option maxRecDepth 100000 in
set_option maxHeartbeats 2000000 in
theorem implJoin_any (b c : Nat) (l : List Tk) (w : World) (hrow : Tk.Row w b 0 l) (hb : b < w.heap.size) (hcl : l.length ≤ c) (hn : l.length ≤ 1048576) (hsz : ∀ i, i < l.length → (l.getD i Tk.zero).text.size ≤ 1048576) (htab : Lib.TabBelow Tryz.prog w.heap.size w "internal/strconv.uint64pow10" .u64 Lib.pow10Tab) :
    Calls Tryz.prog 7 #[.slice (some ⟨b, 0, none⟩) l.length c] w fun e w' => e = .returned (.agg #[.int .i64 (J.joinOut l).1, .string (J.joinOut l).2]) ∧ Below w.heap.size w w' := by
  by_cases hmany : 300 < l.length
  · have fin := hide (J.join_many hmany)
    have hmI : (300 : Int) < (l.length : Int) := by omega
    go_enter Tryz.func7, Tryz.ntmps7
    go_wp2_with fail
    refine bodyPost_ret (v := .agg #[.int .i64 2, .string ByteArray.empty]) (by simp [results, Tryz.results7, go_sem]; try rfl) rfl ⟨by rw [unhide fin], ?_⟩
    exact (Below.refl _ _).alloc (Nat.le_refl _) _
  have hmI : ¬ (300 : Int) < (l.length : Int) := by omega
  have hn300 : l.length ≤ 300 := by omega
  have HM := hide hmany
  have HR := hide hrow
  have HS := hide hsz
  have HTB := hide htab
  clear hrow hsz hmany htab
  obtain ⟨i0, hi, hz0, hz1, hz2⟩ := info_parts infoStr
  obtain ⟨w0, hw0⟩ : ∃ w0, w0 = w.alloc (.cells #[.int .i64 0, .string ByteArray.empty] 27) := ⟨_, rfl⟩
  have B0 : Below w.heap.size w w0 := by rw [hw0]; exact (Below.refl _ _).alloc (Nat.le_refl _) _
  have hX0 : Own w0 w.heap.size 27 [.int .i64 0, .string ByteArray.empty] := by rw [hw0]; exact ⟨_, heap_alloc_new _ _, rfl⟩
  obtain ⟨base, hbe⟩ : ∃ base, base = w0.heap.size := ⟨_, rfl⟩
  have hbase0 : base ≤ w0.heap.size := by omega
  have hbase1 : w.heap.size < base := by rw [hbe]; exact hX0.lt
  clear hbe
  go_enter Tryz.func7, Tryz.ntmps7
  go_wp2_with fail
  try (rw [show (w.alloc (.cells #[.int .i64 0, .string { data := #[] }] 27)) = w0 from hw0.symm])
  clear hw0
  go_loopg [3, 13] l.length (fun gh s3 s13 wr => ∃ k : Nat, Hid (gh = l.length - k) ∧ s13 = .int .i64 k ∧ k ≤ l.length ∧ wr.ownsRow base 9 1 s3 k ((J.textsK l k).map Value.string) ∧ Hid (∀ j, j < k → (J.tokT (l.getD j Tk.zero)).1 = 0) ∧ Below base w0 wr)
  case atStart => exact ⟨0, rfl, rfl, by omega, World.ownsRow_nil _ _ _ _, fun j hj => absurd hj (by omega), Below.refl _ _⟩
  case round =>
    obtain ⟨k, hg, rfl, hk, hown, hall, hbel⟩ := hrel
    have BW : Below w.heap.size w wr := B0.trans (hbel.mono (Nat.le_of_lt hbase1))
    have hX := hX0.below hbel hbase1
    have hbw : base ≤ wr.heap.size := by have := hbel.size; omega
    obtain ⟨xa, xn, xc, rfl⟩ := owns_shape2 hown
    by_cases hlt : k < l.length
    · have hltI : (k : Int) < (l.length : Int) := by omega
      obtain ⟨f0, f1, f2, f3⟩ := ((unhide HR).below BW hb) k hlt
      simp only [Nat.zero_add] at f0 f1 f2 f3
      have hts := (unhide HS) k hlt
      have hhit := hide (fun hz => J.badAt_hit l k hall.out hlt hz)
      have hnext := hide (fun (h0 : (J.tokT (l.getD k Tk.zero)).1 = 0) j (hj : j < k + 1) => show (J.tokT (l.getD j Tk.zero)).1 = 0 by
        by_cases e : j = k
        · subst e; exact h0
        · exact hall.out j (by omega))
      have hline := hide (J.textsK_succ l k)
      have hbd := hide (J.tokT_bad (t := l.getD k Tk.zero))
      have HT := hide (fun wq (hq : Below w.heap.size w wq) => implTok_any (l.getD k Tk.zero).kind (l.getD k Tk.zero).at_ (l.getD k Tk.zero).num (l.getD k Tk.zero).text wq hts (fun w' hb' => (unhide HTB) w' (hq.trans (hb'.mono hq.size))))
      have hT2 : Hid (J.tokOut (l.getD k Tk.zero).kind (l.getD k Tk.zero).num (l.getD k Tk.zero).text = J.tokT (l.getD k Tk.zero)) := rfl
      rw [hT2.out] at HT
      clear hT2
      generalize J.tokT (l.getD k Tk.zero) = R at *
      generalize l.getD k Tk.zero = t at *
      obtain ⟨x, y⟩ := R
      simp only at hhit hnext hline hbd HT
      go_wp2_with fail
      refine ((unhide HT) _ (BW.alloc BW.size _)).mono ?_
      rintro e1 w1 ⟨rfl, hb1⟩
      have hX1 := (hX.alloc _).below hb1 (by have := hX.lt; simp; omega)
      have hown1 := owns_below2 (hown.alloc _) hb1
      have B1 : Below base w0 w1 := (hbel.alloc hbw _).trans (hb1.mono (by simp; omega))
      have hbw1 : base ≤ w1.heap.size := by have := B1.size; omega
      have hne : w1.heap.size ≠ w.heap.size := by have := hX1.lt; omega
      clear f0 f1 f2 f3 hX hb1 HT hown
      by_cases hz : x = 0
      · have hn2 := hide ((unhide hnext) hz)
        subst hz
        clear hhit hnext hbd
        have hs1 : (w1.alloc (.cells #[.int .i64 0, .string y] 27)).heap.size = w1.heap.size + 1 := by simp
        have hown2 := hide (fun o => (hown1.alloc (.cells #[.int .i64 0, .string y] 27)).alloc o)
        have hone := hide (one_str (w1.alloc (.cells #[.int .i64 0, .string y] 27)) y)
        rw [hs1] at hone
        have honep := hide (one_str_plain y)
        have hb63 : k + 1 ≤ maxLen := by unfold maxLen; omega
        have hby : (k + 1) * 16 ≤ 140737488355328 := by omega
        have hbase : base ≤ w1.heap.size + 1 + 1 := by omega
        have hbse := hide (J.owns_base hown1)
        have HB2 := hide (fun o => (B1.alloc hbw1 (.cells #[.int .i64 0, .string y] 27)).alloc (by simp; omega) o)
        clear hown1 hs1
        go_wp2_with (at_builtin; refine wpList_append_own _ rfl (.tmp 23) (.tmp 26) 46 rfl base 9 i0 (.string ByteArray.empty) 1 16 Tryz.underlying46 hi hz0 hz1 hz2 rfl (by decide) _ k _ rfl ((unhide hown2) _) ⟨w1.heap.size + 1, 0, none⟩ 1 1 [.string y] rfl rfl (unhide hone) (unhide honep) hb63 hby (by simpa using hbase) ?_)
        intro v3 w3 ho3 hg3 _
        have B3 : Below base w0 w3 := ((unhide HB2) _).grown hg3 (by simpa using hbase) (unhide hbse)
        have HO3 := hide (show w3.ownsRow base 9 1 v3 (k + 1) ((J.textsK l (k + 1)).map Value.string) by
          rw [unhide hline, List.map_append]; exact ho3)
        clear hg3 ho3 hown2 hone honep hbse HB2
        obtain ⟨ya, yn, yc, rfl⟩ := owns_shape2 (unhide HO3)
        go_wp2_with fail
        go_roundg (l.length - (k + 1))
        case rel => exact ⟨k + 1, rfl, by go_num, by omega, unhide HO3, unhide hn2, B3⟩
        case measure => have := hg.out; omega
      · have hbad := (unhide hhit) hz
        have hy := (unhide hbd) hz
        subst hy
        have hz' : (x == 0) = false := by simp [hz]
        have fin := hide ((J.join_bad (unhide HM) (by rw [hbad]; exact hz)).trans (by rw [hbad]))
        have B1w : Below w.heap.size w w1 := B0.trans (B1.mono (Nat.le_of_lt hbase1))
        clear hhit hnext hbad hz hbd hown1
        have hX2 : ∀ o, Own (w1.alloc o) w.heap.size 27 [.int .i64 0, .string ByteArray.empty] := fun o => hX1.alloc o
        have r0 : ∀ o, (w1.alloc o).cell? ⟨w.heap.size, 0, none⟩ = some (.int .i64 0) := fun o => (hX2 o).cell 0
        have r1 : ∀ o, (w1.alloc o).cell? ⟨w.heap.size, 1, none⟩ = some (.string ByteArray.empty) := fun o => (hX2 o).cell 1
        have z0 : ∀ o, (w1.alloc o).frozen? ⟨w.heap.size, 0, none⟩ = false := fun o => (hX2 o).frozen 0
        have z1 : ∀ o, (w1.alloc o).frozen? ⟨w.heap.size, 1, none⟩ = false := fun o => (hX2 o).frozen 1
        have q0 := hX1.cell 0
        have q1 := hX1.cell 1
        have y0 := hX1.frozen 0
        have y1 := hX1.frozen 1
        simp only [List.getElem?_cons_zero, List.getElem?_cons_succ] at q0 q1
        go_wp2_with fail
        refine bodyPost_ret (v := .agg #[.int .i64 x, .string ByteArray.empty]) (by simp [results, Tryz.results7, go_sem, r0, r1, hne, hne.symm]; try rfl) rfl ⟨by rw [unhide fin], ?_⟩
        first
          | exact ((B1w.alloc B1w.size _).setCell (Nat.le_refl _) _).setCell (Nat.le_refl _) _
          | exact ((B1w.setCell (Nat.le_refl _) _).setCell (Nat.le_refl _) _).alloc (by simp; exact B1w.size) _
    · have hge : ¬ (k : Int) < (l.length : Int) := by omega
      have hke : k = l.length := by omega
      have fin := hide (J.join_ok (unhide HM) (J.badAt_none l (by rw [← hke]; exact hall.out)))
      rw [← hke] at fin
      have hroom := J.joinK_room l k (by omega) (fun j hj => (unhide HS) j (by omega))
      have hjj := J.joinK_join l k
      have hjl : (Lib.join ((J.textsK l k).map (·.data.toList)) [32]).length ≤ 140737488355328 := by
        rw [hjj] at hroom
        have : (Lib.join ((J.textsK l k).map (·.data.toList)) [32]).length ≤ 400000000 := by simpa [ByteArray.size] using hroom
        omega
      rcases hown.2 with ⟨hnil, h0⟩ | ⟨g2, cap2, cur, hsome, hgb, hh, hcap, _⟩
      · cases hnil
        have hJ := hide (fun w => Tryz.strings_Join_none none 0 ⟨#[32]⟩ w)
        have hK : Hid (J.joinK l k = ByteArray.empty) := by show _ = _; rw [h0]; rfl
        rw [hK.out] at fin
        clear hjl hjj hroom hke h0 hown hK
        have r0 := hX.cell 0
        have r1 := hX.cell 1
        have z0 := hX.frozen 0
        have z1 := hX.frozen 1
        simp only [List.getElem?_cons_zero, List.getElem?_cons_succ] at r0 r1
        go_wp2_with fail
        refine ((unhide hJ) _).mono ?_
        rintro e w5 ⟨rfl, hw5⟩
        have hw6 := hw5.symm
        clear hw5
        subst hw6
        go_wp2_with fail
        refine bodyPost_ret (v := .agg #[.int .i64 0, .string ByteArray.empty]) (by simp [results, Tryz.results7, go_sem, r0, r1]; try rfl) rfl ⟨by rw [unhide fin], ?_⟩
        exact (BW.setCell (Nat.le_refl _) _).setCell (Nat.le_refl _) _
      · obtain ⟨rfl, rfl, rfl⟩ : xa = some ⟨g2, 0, none⟩ ∧ xn = k ∧ xc = cap2 := by injection hsome with e1 e2 e3; exact ⟨e1, e2, e3⟩
        have hlen := J.textsK_length l xn
        have hJ := hide (Tryz.strings_Join g2 0 xc (J.textsK l xn) ⟨#[32]⟩ wr (fun j x hx => by
          have hj : j < (J.textsK l xn).length := (List.getElem?_eq_some_iff.1 hx).1
          rw [hlen] at hj
          have h := hown.cellAt j (by omega)
          rw [List.getElem?_map, hx] at h
          simpa using h) (Array.getElem?_eq_some_iff.1 hh).1 (by rw [hlen]; omega) (by rw [hlen]; exact hcap) hjl)
        rw [hlen] at hJ
        have hjb : Hid ((⟨(Lib.join ((J.textsK l xn).map (·.data.toList)) [32]).toArray⟩ : ByteArray) = J.joinK l xn) := hjj.symm
        have hJ2 := hide (show Calls Tryz.prog 18 #[.slice (some ⟨g2, 0, none⟩) xn xc, .string ⟨#[32]⟩] wr fun e w' => e = .returned (.string (J.joinK l xn)) ∧ Below wr.heap.size wr w' by
          have h := unhide hJ
          have e : (⟨#[32]⟩ : ByteArray).data.toList = [32] := rfl
          rw [e, hjb.out] at h
          exact h)
        clear hJ hjb hjl hjj hroom hke hown hsome hlen hh hcap hgb
        generalize J.joinK l xn = q at *
        go_wp2_with fail
        refine (unhide hJ2).mono ?_
        rintro e w5 ⟨rfl, hb5⟩
        have B5 : Below w.heap.size w w5 := BW.trans (hb5.mono BW.size)
        have hX5 := hX.below hb5 hX.lt
        clear hb5 hX
        have r0 := hX5.cell 0
        have r1 := hX5.cell 1
        have z0 := hX5.frozen 0
        have z1 := hX5.frozen 1
        simp only [List.getElem?_cons_zero, List.getElem?_cons_succ] at r0 r1
        go_wp2_with fail
        refine bodyPost_ret (v := .agg #[.int .i64 0, .string q]) (by simp [results, Tryz.results7, go_sem, r0, r1]) rfl ⟨by rw [unhide fin], ?_⟩
        exact (B5.setCell (Nat.le_refl _) _).setCell (Nat.le_refl _) _

end Go.Proofs.YtabpjknbdahddaaGreatDoor
