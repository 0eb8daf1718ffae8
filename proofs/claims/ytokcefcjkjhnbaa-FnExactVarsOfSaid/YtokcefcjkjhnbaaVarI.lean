/-
  impl.VarsOf: the names that are bound, sorted and compacted.
-/
import Derived.Test.YtokcefcjkjhnbaaVarC
import Derived.Test.YtokcefcjkjhnbaaTreI
import Derived.Test.YtokcefcjkjhnbaaVarN
import Derived.Test.YtokcefcjkjhnbaaSrtO
import Derived.Test.YtokcefcjkjhnbaaTreG
import Derived.Test.YtokcefcjkjhnbaaShelfV
import Derived.Test.YtokcefcjkjhnbaaAppT
import Derived.Test.YtokcefcjkjhnbaaSS
import Derived.Deep.CutRange
import Derived.Lib.OwnBridge
import Derived.Sort.OwnSorted
import Derived.Sort.Grow
namespace Go.Proofs.Ytokcefcjkjhnbaa
open Go.RowKit
set_option linter.unusedVariables false
set_option linter.unusedSimpArgs false


open Go.Sort (putRow grow Holds holds_grow holds_putRow holds_ahead mapBlock)
set_option maxRecDepth 100000 in
set_option maxHeartbeats 4000000 in
theorem implVarsOf_any (b : Nat) (l : List Nd) (w : World) (hrow : Nd.Row w b 0 l) (hb : b < w.heap.size) (hn : l.length ≤ 1048576) (hsz : ∀ i, i < l.length → (l.getD i Nd.zero).text.size ≤ 1048576) (hok : ∀ c ∈ l, c.ok) :
    Calls Try.prog 12 #[.slice (some ⟨b, 0, none⟩) l.length l.length] w fun e w' => ∃ v, e = .returned (.agg #[.int .i64 (Tr.varsOut l).1, v]) ∧ w'.ownsRow (w.heap.size + 1) 9 1 v (Tr.varsOut l).2.length ((Tr.varsOut l).2.map Value.string) ∧ Below w.heap.size w w' := by
  have HR := hide hrow
  have HS := hide hsz
  have HK := hide hok
  clear hrow hsz hok
  obtain ⟨w0, hw0⟩ : ∃ w0, w0 = w.alloc (.cells #[.int .i64 0, .slice none 0 0] 26) := ⟨_, rfl⟩
  have hs0 : w0.heap.size = w.heap.size + 1 := by rw [hw0]; simp
  have B0 : Below w.heap.size w w0 := by rw [hw0]; exact (Below.refl _ _).alloc (Nat.le_refl _) _
  have O0 : Own w0 w.heap.size 26 [.int .i64 0, .slice none 0 0] := by rw [hw0]; exact ⟨_, heap_alloc_new _ _, rfl⟩
  have HC := hide (implTreeFault_any b l w0 ((unhide HR).below B0 hb) (Nat.lt_of_lt_of_le hb B0.size) hn (unhide HS))
  obtain ⟨t0, ht0, hy0, hy1, hy2⟩ := info_parts Tr.infoT
  go_enter Try.func12, Try.ntmps12
  go_wp2_with fail
  rw [← hw0]
  clear hw0
  refine (unhide HC).mono ?_
  rintro e w1 ⟨rfl, hb1⟩
  have B1 : Below w.heap.size w w1 := B0.trans (hb1.mono B0.size)
  have O1 := O0.below hb1 O0.lt
  have hlt1 : w.heap.size + 1 ≤ w1.heap.size := by have := hb1.size; omega
  clear O0 B0 hb1 HC
  by_cases hf : Tr.fault l = 0
  case neg =>
    have fin := hide (show Tr.varsOut l = (Tr.fault l, []) by unfold Tr.varsOut; rw [if_pos hf])
    generalize Tr.fault l = q at *
    have g1 : (q != 0) = true := by simpa using hf
    have OX := O1
    clear hf O1
    obtain ⟨c0, c1⟩ := nres_of OX
    have z0 := OX.frozen 0
    have z1 := OX.frozen 1
    have O2 := hide ((OX.set 0 (.int .i64 q)).set 1 (.slice none 0 0))
    clear OX
    go_wp2_with fail
    obtain ⟨q0, q1⟩ := nres_of (x := q) (v := .slice none 0 0) (unhide O2)
    clear c0 c1 z0 z1 O2
    have B2 : Below w.heap.size w ((w1.setCell ⟨w.heap.size, 0, none⟩ (.int .i64 q)).setCell ⟨w.heap.size, 1, none⟩ (.slice none 0 0)) := (B1.setCell (Nat.le_refl _) _).setCell (Nat.le_refl _) _
    have HROW := hide (World.ownsRow_nil ((w1.setCell ⟨w.heap.size, 0, none⟩ (.int .i64 q)).setCell ⟨w.heap.size, 1, none⟩ (.slice none 0 0)) (w.heap.size + 1) 9 1)
    generalize (w1.setCell ⟨w.heap.size, 0, none⟩ (.int .i64 q)).setCell ⟨w.heap.size, 1, none⟩ (.slice none 0 0) = WW at *
    refine bodyPost_ret (v := .agg #[.int .i64 q, .slice none 0 0]) (by simp [results, Try.results12, go_sem, q0, q1]; try rfl) rfl ⟨_, by rw [unhide fin], by rw [unhide fin]; exact unhide HROW, B2⟩
  case pos =>
  have h200 : l.length ≤ 200 := by
    by_cases h : 200 < l.length
    · rw [Tr.fault_many (.inr h)] at hf; exact absurd hf (by decide)
    · omega
  have fin := hide (show Tr.varsOut l = (0, Tr.varsK l l.length) by unfold Tr.varsOut; rw [if_neg (by simpa using hf)])
  rw [hf]
  clear hf
  go_wp2_with fail
  go_loopg [4, 15] l.length (fun gh s4 s15 wr => ∃ (k : Nat) (L : List ByteArray), Hid (gh = l.length - k) ∧ s15 = .int .i64 k ∧ k ≤ l.length ∧ Hid (L = Tr.bnd l k) ∧ L.length ≤ k ∧ wr.ownsRow w1.heap.size 9 1 s4 L.length (L.map Value.string) ∧ Below w1.heap.size w1 wr)
  case atStart => exact ⟨0, [], rfl, rfl, by omega, rfl, by simp, World.ownsRow_nil _ _ _ _, Below.refl _ _⟩
  case round =>
    obtain ⟨k, L, hg, rfl, hk, hL, hLk, hown, hbel⟩ := hrel
    have BW : Below w.heap.size w wr := B1.trans (hbel.mono B1.size)
    by_cases hlt : k < l.length
    · have hltI : (k : Int) < (l.length : Int) := by omega
      obtain ⟨f0, f1, f2, f3, f4, f5⟩ := ((unhide HR).below BW hb) k hlt
      simp only [Nat.zero_add] at f0 f1 f2 f3 f4 f5
      have hs := hide (show Tr.bnd l (k + 1) = if Tr.binder (l.getD k Nd.zero) = true then Tr.bnd l k ++ [(l.getD k Nd.zero).text] else Tr.bnd l k from rfl)
      rw [← hL.out] at hs
      generalize l.getD k Nd.zero = n at *
      have HB : Hid (∀ o, Below w1.heap.size w1 (wr.alloc o)) := fun o => hbel.alloc hbel.size o
      have HO : Hid (∀ o, (wr.alloc o).ownsRow w1.heap.size 9 1 u4 L.length (L.map Value.string)) := fun o => hown.alloc o
      have HBS := hide (Tr.owns_base hown)
      have hszr := hbel.size
      clear hlt hown
      go_upto_region 8 with fail
      obtain ⟨wn, hwn⟩ : ∃ wn, wn = wr.alloc (.cells #[.int .i64 n.op, .int .i64 n.a, .int .i64 n.b, .int .i64 n.c, .int .i64 n.num, .string n.text] 71) := ⟨_, rfl⟩
      go_cut [26] from 16 to 32 (fun s26 wx => s26 = .bool (Tr.binder n) ∧ wx = wr.alloc (.cells #[.int .i64 n.op, .int .i64 n.a, .int .i64 n.b, .int .i64 n.c, .int .i64 n.num, .string n.text] 71))
      case first =>
        skip
        by_cases h20 : n.op = 20
        · have hv := hide (show Tr.binder n = true by unfold Tr.binder; rw [h20]; rfl)
          have g1 : (n.op == 20) = true := by simp [h20]
          clear h20
          go_wp2_with fail
          go_meet
          case rel => exact ⟨congrArg Value.bool (unhide hv).symm, rfl⟩
        · have g1 : (n.op == 20) = false := by simpa using h20
          by_cases h19 : n.op = 19
          · have hv := hide (show Tr.binder n = true by unfold Tr.binder; rw [h19]; rfl)
            have g2 : (n.op == 19) = true := by simp [h19]
            clear h19 h20
            go_wp2_with fail
            go_meet
            case rel => exact ⟨congrArg Value.bool (unhide hv).symm, rfl⟩
          · have hv := hide (show Tr.binder n = false by unfold Tr.binder; simp [h19, h20])
            have g2 : (n.op == 19) = false := by simpa using h19
            go_wp2_with fail
            go_meet
            case rel => exact ⟨congrArg Value.bool (unhide hv).symm, rfl⟩
      case rest =>
      obtain ⟨h26, hwc⟩ := hcut
      subst h26
      rw [← hwn] at hwc
      subst wc
      have hN : Own wn wr.heap.size 71 [.int .i64 n.op, .int .i64 n.a, .int .i64 n.b, .int .i64 n.c, .int .i64 n.num, .string n.text] := by rw [hwn]; exact ⟨_, heap_alloc_new _ _, rfl⟩
      have hB2 : Below w1.heap.size w1 wn := by rw [hwn]; exact HB.out _
      have hO2 : wn.ownsRow w1.heap.size 9 1 u4 L.length (L.map Value.string) := by rw [hwn]; exact HO.out _
      have hszn : w1.heap.size ≤ wn.heap.size := hB2.size
      clear hwn HB HO f0 f1 f2 f3 f4 f5
      cases hbi : Tr.binder n with
      | false =>
        have hn2 := hide (show L = Tr.bnd l (k + 1) by rw [unhide hs, if_neg (by rw [hbi]; decide)])
        have HO2 := hide hO2
        clear hs hO2 hN
        go_wp2_with fail
        go_roundg (l.length - (k + 1))
        case rel => exact ⟨k + 1, L, rfl, by go_num, by omega, unhide hn2, by omega, unhide HO2, hB2⟩
        case measure => have := hg.out; omega
      | true =>
        have hn2 := hide (show L ++ [n.text] = Tr.bnd l (k + 1) by rw [unhide hs, if_pos hbi])
        have c5 := hN.cell 5
        simp only [List.getElem?_cons_zero, List.getElem?_cons_succ] at c5
        generalize n.text = t at *
        have HO2 := hide (fun o => hO2.alloc o)
        have hone := hide (one_val wn (.string t) 9)
        have honep := hide (show ∀ u ∈ ([Value.string t] : List Value), u.oneCell' = true by intro u hu; simp only [List.mem_cons, List.not_mem_nil, or_false] at hu; subst hu; rfl)
        have hk63 : L.length + 1 ≤ maxLen := by unfold maxLen; omega
        have hby : (L.length + 1) * 16 ≤ 140737488355328 := by omega
        clear hs hO2 hN
        go_wp2_with (at_builtin; refine wpList_append_own _ rfl (.tmp 27) (.tmp 30) 24 rfl w1.heap.size 9 t0 (.string ByteArray.empty) 1 16 Try.underlying24 ht0 hy0 hy1 hy2 rfl (by decide) _ L.length _ rfl ((unhide HO2) _) ⟨wn.heap.size, 0, none⟩ 1 1 [.string t] rfl rfl (unhide hone) (unhide honep) hk63 hby (by simp; omega) ?_)
        intro v' w3 ho3 hg3 _
        have B3 : Below w1.heap.size w1 w3 := (hB2.alloc hB2.size _).grown hg3 (by simp; omega) (unhide HBS)
        have HO3 := hide (show w3.ownsRow w1.heap.size 9 1 v' (L ++ [t]).length ((L ++ [t]).map Value.string) by simpa using ho3)
        clear ho3 hg3 HO2 c5
        go_wp2_with fail
        go_roundg (l.length - (k + 1))
        case rel => exact ⟨k + 1, L ++ [t], rfl, by go_num, by omega, unhide hn2, by simp; omega, unhide HO3, B3⟩
        case measure => have := hg.out; omega
    · have hke : k = l.length := by omega
      have OX := O1.below hbel O1.lt
      have hsr : w.heap.size + 1 ≤ wr.heap.size := Nat.le_trans hlt1 hbel.size
      have HLV := hide (show Tr.onceB L = Tr.varsK l l.length by rw [hL.out, hke]; exact Tr.once_vars l)
      clear hke
      have HC2 := hide (sortedOnce_any u4 L w1.heap.size wr hown hbel.size (by omega))
      obtain ⟨ua, uc, hu⟩ := Tr.owns_slice hown
      subst hu
      clear hown
      go_wp2_with fail
      refine (unhide HC2).mono ?_
      rintro e w5 ⟨ra, rn, rc, rfl, hrw, hbw⟩
      have hbw1 : Below w1.heap.size w1 w5 := hbel.trans hbw
      clear HC2
      have B5 : Below w.heap.size w w5 := B1.trans (hbw1.mono B1.size)
      have OX5 := O1.below hbw1 O1.lt
      clear OX
      have OX := OX5
      clear OX5
      have HRW := hide (show w5.ownsRow (w.heap.size + 1) 9 1 (.slice ra rn rc) (Tr.varsK l l.length).length ((Tr.varsK l l.length).map Value.string) by
        rw [← unhide HLV]
        exact Tr.owns_lower hrw hlt1)
      clear hrw
      obtain ⟨c0, c1⟩ := nres_of OX
      have z0 := OX.frozen 0
      have z1 := OX.frozen 1
      have O2 := hide ((OX.set 0 (.int .i64 0)).set 1 (.slice ra rn rc))
      clear OX
      go_wp2_with fail
      obtain ⟨q0, q1⟩ := nres_of (x := 0) (v := .slice ra rn rc) (unhide O2)
      clear c0 c1 z0 z1 O2
      have B2 : Below w.heap.size w ((w5.setCell ⟨w.heap.size, 0, none⟩ (.int .i64 0)).setCell ⟨w.heap.size, 1, none⟩ (.slice ra rn rc)) := (B5.setCell (Nat.le_refl _) _).setCell (Nat.le_refl _) _
      have HROW := hide (Tr.owns_two (b := w.heap.size) (unhide HRW) (by omega) (.int .i64 0) (.slice ra rn rc))
      generalize (w5.setCell ⟨w.heap.size, 0, none⟩ (.int .i64 0)).setCell ⟨w.heap.size, 1, none⟩ (.slice ra rn rc) = WW at *
      refine bodyPost_ret (v := .agg #[.int .i64 0, .slice ra rn rc]) (by simp [results, Try.results12, go_sem, q0, q1]; try rfl) rfl ⟨_, by rw [unhide fin], by rw [unhide fin]; exact unhide HROW, B2⟩

end Go.Proofs.Ytokcefcjkjhnbaa
