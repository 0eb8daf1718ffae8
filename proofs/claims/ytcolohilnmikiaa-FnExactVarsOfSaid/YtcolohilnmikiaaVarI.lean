/-
  impl.VarsOf: the names that are bound, sorted and compacted.
-/
import Derived.Test.YtcolohilnmikiaaVarC
import Derived.Test.YtcolohilnmikiaaTreI
import Derived.Test.YtcolohilnmikiaaVarN
import Derived.Test.YtcolohilnmikiaaShelfV
import Derived.Test.YtcolohilnmikiaaAppT
import Derived.Test.YtcolohilnmikiaaSS
import Derived.Deep.CutRange
import Derived.Lib.OwnBridge
import Derived.Sort.OwnSorted
import Derived.Sort.Grow
namespace Go.Proofs.Ytcolohilnmikiaa
open Go.RowKit
set_option linter.unusedVariables false
set_option linter.unusedSimpArgs false


open Go.Sort (putRow grow Holds holds_grow holds_putRow holds_ahead mapBlock)
set_option maxRecDepth 100000 in
set_option maxHeartbeats 4000000 in
theorem implVarsOf_any (b : Nat) (l : List Nd) (w : World) (hrow : Nd.Row w b 0 l) (hb : b < w.heap.size) (hn : l.length ≤ 1048576) (hsz : ∀ i, i < l.length → (l.getD i Nd.zero).text.size ≤ 1048576) (hok : ∀ c ∈ l, c.ok) :
    Calls Try.prog 20 #[.slice (some ⟨b, 0, none⟩) l.length l.length] w fun e w' => ∃ v, e = .returned (.agg #[.int .i64 (Tr.varsOut l).1, v]) ∧ w'.ownsRow (w.heap.size + 1) 9 1 v (Tr.varsOut l).2.length ((Tr.varsOut l).2.map Value.string) ∧ Below w.heap.size w w' := by
  have HR := hide hrow
  have HS := hide hsz
  have HK := hide hok
  clear hrow hsz hok
  obtain ⟨w0, hw0⟩ : ∃ w0, w0 = w.alloc (.cells #[.int .i64 0, .slice none 0 0] 35) := ⟨_, rfl⟩
  have hs0 : w0.heap.size = w.heap.size + 1 := by rw [hw0]; simp
  have B0 : Below w.heap.size w w0 := by rw [hw0]; exact (Below.refl _ _).alloc (Nat.le_refl _) _
  have O0 : Own w0 w.heap.size 35 [.int .i64 0, .slice none 0 0] := by rw [hw0]; exact ⟨_, heap_alloc_new _ _, rfl⟩
  have HC := hide (implTreeFault_any b l w0 ((unhide HR).below B0 hb) (Nat.lt_of_lt_of_le hb B0.size) hn (unhide HS))
  obtain ⟨t0, ht0, hy0, hy1, hy2⟩ := info_parts Tr.infoT
  go_enter Try.func20, Try.ntmps20
  go_wp2_with fail
  rw [← hw0]
  clear hw0
  refine (unhide HC).mono ?_
  rintro e w1 ⟨rfl, hb1⟩
  have B1 : Below w.heap.size w w1 := B0.trans (hb1.mono B0.size)
  have O1 := O0.below hb1 O0.lt
  have hlt1 : w.heap.size + 1 ≤ w1.heap.size := by have := hb1.size; omega
  clear O0 B0 hb1 HC
  by_cases hf : Tr.fault l = 0
  case neg =>
    have fin := hide (show Tr.varsOut l = (Tr.fault l, []) by unfold Tr.varsOut; rw [if_pos hf])
    generalize Tr.fault l = q at *
    have g1 : (q != 0) = true := by simpa using hf
    have OX := O1
    clear hf O1
    obtain ⟨c0, c1⟩ := nres_of OX
    have z0 := OX.frozen 0
    have z1 := OX.frozen 1
    have O2 := hide ((OX.set 0 (.int .i64 q)).set 1 (.slice none 0 0))
    clear OX
    go_wp2_with fail
    obtain ⟨q0, q1⟩ := nres_of (x := q) (v := .slice none 0 0) (unhide O2)
    clear c0 c1 z0 z1 O2
    have B2 : Below w.heap.size w ((w1.setCell ⟨w.heap.size, 0, none⟩ (.int .i64 q)).setCell ⟨w.heap.size, 1, none⟩ (.slice none 0 0)) := (B1.setCell (Nat.le_refl _) _).setCell (Nat.le_refl _) _
    have HROW := hide (World.ownsRow_nil ((w1.setCell ⟨w.heap.size, 0, none⟩ (.int .i64 q)).setCell ⟨w.heap.size, 1, none⟩ (.slice none 0 0)) (w.heap.size + 1) 9 1)
    generalize (w1.setCell ⟨w.heap.size, 0, none⟩ (.int .i64 q)).setCell ⟨w.heap.size, 1, none⟩ (.slice none 0 0) = WW at *
    refine bodyPost_ret (v := .agg #[.int .i64 q, .slice none 0 0]) (by simp [results, Try.results20, go_sem, q0, q1]; try rfl) rfl ⟨_, by rw [unhide fin], by rw [unhide fin]; exact unhide HROW, B2⟩
  case pos =>
  have h200 : l.length ≤ 200 := by
    by_cases h : 200 < l.length
    · rw [Tr.fault_many (.inr h)] at hf; exact absurd hf (by decide)
    · omega
  have fin := hide (show Tr.varsOut l = (0, Tr.varsK l l.length) by unfold Tr.varsOut; rw [if_neg (by simpa using hf)])
  rw [hf]
  clear hf
  go_wp2_with fail
  go_loopg [4, 15] l.length (fun gh s4 s15 wr => ∃ (k : Nat) (L : List ByteArray), Hid (gh = l.length - k) ∧ s15 = .int .i64 k ∧ k ≤ l.length ∧ Hid (L = Tr.bnd l k) ∧ L.length ≤ k ∧ wr.ownsRow w1.heap.size 9 1 s4 L.length (L.map Value.string) ∧ Below w1.heap.size w1 wr)
  case atStart => exact ⟨0, [], rfl, rfl, by omega, rfl, by simp, World.ownsRow_nil _ _ _ _, Below.refl _ _⟩
  case round =>
    obtain ⟨k, L, hg, rfl, hk, hL, hLk, hown, hbel⟩ := hrel
    have BW : Below w.heap.size w wr := B1.trans (hbel.mono B1.size)
    by_cases hlt : k < l.length
    · have hltI : (k : Int) < (l.length : Int) := by omega
      obtain ⟨f0, f1, f2, f3, f4, f5⟩ := ((unhide HR).below BW hb) k hlt
      simp only [Nat.zero_add] at f0 f1 f2 f3 f4 f5
      have hs := hide (show Tr.bnd l (k + 1) = if Tr.binder (l.getD k Nd.zero) = true then Tr.bnd l k ++ [(l.getD k Nd.zero).text] else Tr.bnd l k from rfl)
      rw [← hL.out] at hs
      generalize l.getD k Nd.zero = n at *
      have HB : Hid (∀ o, Below w1.heap.size w1 (wr.alloc o)) := fun o => hbel.alloc hbel.size o
      have HO : Hid (∀ o, (wr.alloc o).ownsRow w1.heap.size 9 1 u4 L.length (L.map Value.string)) := fun o => hown.alloc o
      have HBS := hide (Tr.owns_base hown)
      have hszr := hbel.size
      clear hlt hown
      go_upto_region 8 with fail
      obtain ⟨wn, hwn⟩ : ∃ wn, wn = wr.alloc (.cells #[.int .i64 n.op, .int .i64 n.a, .int .i64 n.b, .int .i64 n.c, .int .i64 n.num, .string n.text] 73) := ⟨_, rfl⟩
      go_cut [26] from 16 to 32 (fun s26 wx => s26 = .bool (Tr.binder n) ∧ wx = wr.alloc (.cells #[.int .i64 n.op, .int .i64 n.a, .int .i64 n.b, .int .i64 n.c, .int .i64 n.num, .string n.text] 73))
      case first =>
        skip
        by_cases h20 : n.op = 20
        · have hv := hide (show Tr.binder n = true by unfold Tr.binder; rw [h20]; rfl)
          have g1 : (n.op == 20) = true := by simp [h20]
          clear h20
          go_wp2_with fail
          go_meet
          case rel => exact ⟨congrArg Value.bool (unhide hv).symm, rfl⟩
        · have g1 : (n.op == 20) = false := by simpa using h20
          by_cases h19 : n.op = 19
          · have hv := hide (show Tr.binder n = true by unfold Tr.binder; rw [h19]; rfl)
            have g2 : (n.op == 19) = true := by simp [h19]
            clear h19 h20
            go_wp2_with fail
            go_meet
            case rel => exact ⟨congrArg Value.bool (unhide hv).symm, rfl⟩
          · have hv := hide (show Tr.binder n = false by unfold Tr.binder; simp [h19, h20])
            have g2 : (n.op == 19) = false := by simpa using h19
            go_wp2_with fail
            go_meet
            case rel => exact ⟨congrArg Value.bool (unhide hv).symm, rfl⟩
      case rest =>
      obtain ⟨h26, hwc⟩ := hcut
      subst h26
      rw [← hwn] at hwc
      subst wc
      have hN : Own wn wr.heap.size 73 [.int .i64 n.op, .int .i64 n.a, .int .i64 n.b, .int .i64 n.c, .int .i64 n.num, .string n.text] := by rw [hwn]; exact ⟨_, heap_alloc_new _ _, rfl⟩
      have hB2 : Below w1.heap.size w1 wn := by rw [hwn]; exact HB.out _
      have hO2 : wn.ownsRow w1.heap.size 9 1 u4 L.length (L.map Value.string) := by rw [hwn]; exact HO.out _
      have hszn : w1.heap.size ≤ wn.heap.size := hB2.size
      clear hwn HB HO f0 f1 f2 f3 f4 f5
      cases hbi : Tr.binder n with
      | false =>
        have hn2 := hide (show L = Tr.bnd l (k + 1) by rw [unhide hs, if_neg (by rw [hbi]; decide)])
        have HO2 := hide hO2
        clear hs hO2 hN
        go_wp2_with fail
        go_roundg (l.length - (k + 1))
        case rel => exact ⟨k + 1, L, rfl, by go_num, by omega, unhide hn2, by omega, unhide HO2, hB2⟩
        case measure => have := hg.out; omega
      | true =>
        have hn2 := hide (show L ++ [n.text] = Tr.bnd l (k + 1) by rw [unhide hs, if_pos hbi])
        have c5 := hN.cell 5
        simp only [List.getElem?_cons_zero, List.getElem?_cons_succ] at c5
        generalize n.text = t at *
        have HO2 := hide (fun o => hO2.alloc o)
        have hone := hide (one_val wn (.string t) 9)
        have honep := hide (show ∀ u ∈ ([Value.string t] : List Value), u.oneCell' = true by intro u hu; simp only [List.mem_cons, List.not_mem_nil, or_false] at hu; subst hu; rfl)
        have hk63 : L.length + 1 ≤ maxLen := by unfold maxLen; omega
        have hby : (L.length + 1) * 16 ≤ 140737488355328 := by omega
        clear hs hO2 hN
        go_wp2_with (at_builtin; refine wpList_append_own _ rfl (.tmp 27) (.tmp 30) 33 rfl w1.heap.size 9 t0 (.string ByteArray.empty) 1 16 Try.underlying33 ht0 hy0 hy1 hy2 rfl (by decide) _ L.length _ rfl ((unhide HO2) _) ⟨wn.heap.size, 0, none⟩ 1 1 [.string t] rfl rfl (unhide hone) (unhide honep) hk63 hby (by simp; omega) ?_)
        intro v' w3 ho3 hg3 _
        have B3 : Below w1.heap.size w1 w3 := (hB2.alloc hB2.size _).grown hg3 (by simp; omega) (unhide HBS)
        have HO3 := hide (show w3.ownsRow w1.heap.size 9 1 v' (L ++ [t]).length ((L ++ [t]).map Value.string) by simpa using ho3)
        clear ho3 hg3 HO2 c5
        go_wp2_with fail
        go_roundg (l.length - (k + 1))
        case rel => exact ⟨k + 1, L ++ [t], rfl, by go_num, by omega, unhide hn2, by simp; omega, unhide HO3, B3⟩
        case measure => have := hg.out; omega
    · have hke : k = l.length := by omega
      have OX := O1.below hbel O1.lt
      have hsr : w.heap.size + 1 ≤ wr.heap.size := Nat.le_trans hlt1 hbel.size
      have HLV := hide (show (Tr.once L).map Tr.textOf = Tr.varsK l l.length by rw [hL.out, hke]; exact Tr.once_vars l)
      clear hke
      by_cases hnil : u4 = .slice none 0 0
      · subst hnil
        have hL0 : L.length = 0 := by
          rcases hown.2 with ⟨_, h0⟩ | ⟨_, _, _, h0, _⟩
          · exact h0
          · cases h0
        have hLn : L = [] := List.length_eq_zero_iff.1 hL0
        have fin2 := hide (show Tr.varsOut l = (0, []) by rw [unhide fin, ← unhide HLV, hLn, Tr.once_nil]; rfl)
        clear hown fin
        have fin := fin2
        clear fin2
        go_wp2_with fail
        refine (sortNone_any none 0 _).mono ?_
        rintro e w4 ⟨rfl, hw4⟩
        subst w4
        go_wp2_with fail
        refine (compactNone_any none 0 _).mono ?_
        rintro e w4 ⟨rfl, hw4⟩
        subst w4
        obtain ⟨c0, c1⟩ := nres_of OX
        have z0 := OX.frozen 0
        have z1 := OX.frozen 1
        have O2 := hide ((OX.set 0 (.int .i64 0)).set 1 (.slice none 0 0))
        clear OX
        go_wp2_with fail
        obtain ⟨q0, q1⟩ := nres_of (x := 0) (v := .slice none 0 0) (unhide O2)
        clear c0 c1 z0 z1 O2
        have B2 : Below w.heap.size w ((wr.setCell ⟨w.heap.size, 0, none⟩ (.int .i64 0)).setCell ⟨w.heap.size, 1, none⟩ (.slice none 0 0)) := (BW.setCell (Nat.le_refl _) _).setCell (Nat.le_refl _) _
        have HROW := hide (World.ownsRow_nil ((wr.setCell ⟨w.heap.size, 0, none⟩ (.int .i64 0)).setCell ⟨w.heap.size, 1, none⟩ (.slice none 0 0)) (w.heap.size + 1) 9 1)
        generalize (wr.setCell ⟨w.heap.size, 0, none⟩ (.int .i64 0)).setCell ⟨w.heap.size, 1, none⟩ (.slice none 0 0) = WW at *
        refine bodyPost_ret (v := .agg #[.int .i64 0, .slice none 0 0]) (by simp [results, Try.results20, go_sem, q0, q1]; try rfl) rfl ⟨_, by rw [unhide fin], by rw [unhide fin]; exact unhide HROW, B2⟩
      · have hmap := Lib.map_encStr L
        have hown' : wr.ownsRow w1.heap.size 9 1 u4 L.length ((L.map (·.data.toList)).map encStr) := by rw [hmap]; exact hown
        obtain ⟨g, cap, hu4, hbg, hgl, hncap, hcm, hlen, hH⟩ := Lib.holds_of_ownsRow hown' hnil
        subst hu4
        have HSO := hide (sortAll_any g cap (L.map (·.data.toList)) wr hH hgl (by rw [hlen]; omega))
        rw [hlen] at HSO
        have hH2 : ∀ nn os, Holds encStr (grow (putRow encStr (Sort.ahead wr nn) g 0 ((L.map (·.data.toList)).mergeSort fun x y => decide (x ≤ y)).toArray) os) g 0 ((L.map (·.data.toList)).mergeSort fun x y => decide (x ≤ y)).toArray := fun nn os =>
          holds_grow encStr _ os g 0 _ (by simpa [putRow, mapBlock, Sort.ahead] using hgl) (holds_putRow encStr _ g 0 _ _ (holds_ahead encStr wr nn g 0 _ hH) (by simp))
        have hl2 : ((L.map (·.data.toList)).mergeSort fun x y => decide (x ≤ y)).length = L.length := by rw [List.length_mergeSort]; exact hlen
        have HCO := hide (fun nn os => compactAll_any g cap ((L.map (·.data.toList)).mergeSort fun x y => decide (x ≤ y)) _ (hH2 nn os) (by rw [hl2]; omega) (by rw [hl2]; exact hncap))
        rw [hl2] at HCO
        have HLF : Hid (∀ nn os q, _) := fun nn os q => names_left (nn := nn) (os := os) (q := q) hown' hbel hbg hlen
        have hcl : (Lib.compact ((L.map (·.data.toList)).mergeSort fun x y => decide (x ≤ y))) = Tr.once L := rfl
        rw [hcl] at HCO HLF
        clear hH2 hH hown hown' hl2 hcl hmap hnil HR HS HK
        generalize ((L.map (·.data.toList)).mergeSort fun x y => decide (x ≤ y)) = srt at *
        generalize Tr.once L = on at *
        go_wp2_with fail
        refine (unhide HSO).mono ?_
        rintro e w4 ⟨rfl, nn, os, hw4⟩
        have HC2 := hide ((unhide HCO) nn os)
        rw [← hw4] at HC2
        have HL2 := hide ((unhide HLF) nn os)
        rw [← hw4] at HL2
        clear HSO HCO HLF hw4
        go_wp2_with fail
        refine (unhide HC2).mono ?_
        rintro e w5 ⟨rfl, q, hw5⟩
        obtain ⟨hrw, hbw⟩ := (unhide HL2) q
        rw [← hw5] at hrw hbw
        clear HC2 HL2 hw5
        have B5 : Below w.heap.size w w5 := B1.trans (hbw.mono B1.size)
        have OX5 := O1.below hbw O1.lt
        clear OX
        have OX := OX5
        clear OX5
        have HRW := hide (show w5.ownsRow (w.heap.size + 1) 9 1 (.slice (some ⟨g, 0, none⟩) on.length cap) (Tr.varsK l l.length).length ((Tr.varsK l l.length).map Value.string) by
          rw [← unhide HLV, List.length_map, List.map_map]
          exact Tr.owns_lower hrw hlt1)
        clear hrw
        obtain ⟨c0, c1⟩ := nres_of OX
        have z0 := OX.frozen 0
        have z1 := OX.frozen 1
        have O2 := hide ((OX.set 0 (.int .i64 0)).set 1 (.slice (some ⟨g, 0, none⟩) on.length cap))
        clear OX
        go_wp2_with fail
        obtain ⟨q0, q1⟩ := nres_of (x := 0) (v := .slice (some ⟨g, 0, none⟩) on.length cap) (unhide O2)
        clear c0 c1 z0 z1 O2
        have B2 : Below w.heap.size w ((w5.setCell ⟨w.heap.size, 0, none⟩ (.int .i64 0)).setCell ⟨w.heap.size, 1, none⟩ (.slice (some ⟨g, 0, none⟩) on.length cap)) := (B5.setCell (Nat.le_refl _) _).setCell (Nat.le_refl _) _
        have HROW := hide (Tr.owns_two (b := w.heap.size) (unhide HRW) (by omega) (.int .i64 0) (.slice (some ⟨g, 0, none⟩) on.length cap))
        generalize (w5.setCell ⟨w.heap.size, 0, none⟩ (.int .i64 0)).setCell ⟨w.heap.size, 1, none⟩ (.slice (some ⟨g, 0, none⟩) on.length cap) = WW at *
        refine bodyPost_ret (v := .agg #[.int .i64 0, .slice (some ⟨g, 0, none⟩) on.length cap]) (by simp [results, Try.results20, go_sem, q0, q1]; try rfl) rfl ⟨_, by rw [unhide fin], by rw [unhide fin]; exact unhide HROW, B2⟩

end Go.Proofs.Ytcolohilnmikiaa
