/-
  impl.standInOrder and impl.depthOfLast, over what the nodes name.
-/
import Derived.Test.YtkjmnkbiflkpdaaTreO
import Derived.Test.YtkjmnkbiflkpdaaTreD
namespace Go.Proofs.Ytkjmnkbiflkpdaa
open Go.RowKit
set_option linter.unusedVariables false

namespace Tr
theorem inOrder_none {l : List Nd} {k : Nat} (h : stk l k = none) (hk : k ≤ l.length) : inOrder l = false := by
  unfold inOrder; rw [stk_none_le h hk]
theorem inOrder_end {l : List Nd} {st : List Int} (h : stk l l.length = some st) : inOrder l = (st.length == 1) := by
  unfold inOrder; rw [h]
theorem stk_bad {l : List Nd} {k : Nat} {st : List Int} (h : stk l k = some st) (hb : ¬ ((links (l.getD k Nd.zero)).length ≤ st.length ∧ st.drop (st.length - (links (l.getD k Nd.zero)).length) = links (l.getD k Nd.zero))) : stk l (k + 1) = none := by
  rw [stk_step h, if_neg hb]
theorem stk_good {l : List Nd} {k : Nat} {st : List Int} (h : stk l k = some st) (hb : (links (l.getD k Nd.zero)).length ≤ st.length ∧ st.drop (st.length - (links (l.getD k Nd.zero)).length) = links (l.getD k Nd.zero)) : stk l (k + 1) = some (st.take (st.length - (links (l.getD k Nd.zero)).length) ++ [(k : Int)]) := by
  rw [stk_step h, if_pos hb]
theorem map_get (st : List Int) (j : Nat) (hj : j < st.length) : (st.map (Value.int .i64))[j]? = some (.int .i64 (st.getD j 0)) := by
  rw [List.getElem?_map, List.getElem?_eq_getElem hj, List.getD_eq_getElem?_getD, List.getElem?_eq_getElem hj]; rfl
theorem drop_getD (st : List Int) (r j : Nat) : (st.drop r).getD j 0 = st.getD (r + j) 0 := by
  rw [List.getD_eq_getElem?_getD, List.getElem?_drop, List.getD_eq_getElem?_getD]
theorem links_getD (n : Nd) (j : Nat) (hj : j < kids n.op) : (links n).getD j 0 = kidAt n j := by
  rw [links_kidAt, List.getD_eq_getElem?_getD, List.getElem?_map, List.getElem?_range hj]; rfl
theorem abc_get (n : Nd) (j : Nat) (hj : j < 3) : ([Value.int .i64 n.a, Value.int .i64 n.b, Value.int .i64 n.c] : List Value)[j]? = some (.int .i64 (kidAt n j)) := by
  have hh : j = 0 ∨ j = 1 ∨ j = 2 := by omega
  rcases hh with rfl | rfl | rfl <;> rfl
/-- What a node names, read off its row. -/
theorem links_view {w : World} {g : Nat} {n : Nd} (ho : Own w g 2 [.int .i64 n.a, .int .i64 n.b, .int .i64 n.c]) : IV w (some ⟨g, 0, none⟩) (kids n.op) (links n) := by
  refine ⟨links_length n, .inr ⟨g, 0, rfl, fun j hj => ?_⟩⟩
  have := kids_le n.op
  rw [Nat.zero_add, ho.cell, abc_get n j (by omega), links_getD n j hj]
/-- The upper part of the places that are not named yet. -/
theorem loose_view {w : World} {base g cap : Nat} {st : List Int} (h : w.ownsRow base 2 1 (.slice (some ⟨g, 0, none⟩) st.length cap) st.length (st.map (Value.int .i64))) (r : Nat) (hr : r ≤ st.length) (a : Option Addr) (ha : a = some ⟨g, r, none⟩ ∨ r = st.length) : IV w a (st.length - r) (st.drop r) := by
  refine ⟨by simp, ?_⟩
  by_cases e : r = st.length
  · left; omega
  · right
    have ha' : a = some ⟨g, r, none⟩ := by rcases ha with h | h; exact h; exact absurd h e
    refine ⟨g, r, ha', fun j hj => ?_⟩
    rw [owns_cell h (r + j) (by omega), map_get st (r + j) (by omega), drop_getD]
theorem np_cell {w : World} {B g cap m : Nat} {l : List Nd} {gs : List Nat} (h : NP w B (.slice (some ⟨g, 0, none⟩) m cap) l gs) (k : Nat) (hk : k < gs.length) : w.cell? ⟨g, k, none⟩ = some (.slice (some ⟨gs.getD k 0, 0, none⟩) (kids (l.getD k Nd.zero).op) 3) := by
  rw [owns_cell h.1 k hk, npL_get l gs k hk]; rfl
/-- Where there are nodes, the rows lie somewhere. -/
theorem NP.some {w : World} {B : Nat} {v : Value} {l : List Nd} {gs : List Nat} (h : NP w B v l gs) (h0 : 0 < gs.length) : ∃ g cap, v = .slice (some ⟨g, 0, none⟩) gs.length cap ∧ gs.length ≤ cap ∧ g < w.heap.size := by
  obtain ⟨⟨_, ⟨_, h2⟩ | ⟨g, cap, cur, h3, h4, h5, h6, _⟩⟩, _⟩ := h
  · omega
  · exact ⟨g, cap, h3, h6, (Array.getElem?_eq_some_iff.1 h5).1⟩
end Tr

set_option maxRecDepth 100000 in
set_option maxHeartbeats 2000000 in
theorem standInOrder_big (B g cap : Nat) (gs : List Nat) (l : List Nd) (w : World) (hnp : Tr.NP w B (.slice (some ⟨g, 0, none⟩) l.length cap) l gs) (hgl : gs.length = l.length) (hcap : l.length ≤ cap) (hg0 : g < w.heap.size) (h200 : l.length ≤ 1000) (h0 : 0 < l.length) :
    Calls Try.prog 47 #[.slice (some ⟨g, 0, none⟩) l.length cap] w fun e w' => e = .returned (.bool (Tr.inOrder l)) ∧ Below w.heap.size w w' := by
  have HNP := hide hnp
  have HGL := hide hgl
  clear hnp hgl
  obtain ⟨i0, hi, hz0, hz1, hz2⟩ := info_parts Tr.infoI
  go_enter Try.func47, Try.ntmps47
  go_wp2_with fail
  go_loopg [3, 9] l.length (fun gh s3 s9 wr => ∃ (k : Nat) (st : List Int), Hid (gh = l.length - k) ∧ s9 = .int .i64 k ∧ k ≤ l.length ∧ Hid (Tr.stk l k = some st) ∧ wr.ownsRow w.heap.size 2 1 s3 st.length (st.map (Value.int .i64)) ∧ Below w.heap.size w wr)
  case atStart => exact ⟨0, [], rfl, rfl, by omega, rfl, World.ownsRow_nil _ _ _ _, Below.refl _ _⟩
  case round =>
    obtain ⟨k, st, hg, rfl, hk, hst, hown, hbel⟩ := hrel
    have hsl := Tr.stk_len k st hst.out
    by_cases hlt : k < l.length
    · have hltI : (k : Int) < (l.length : Int) := by omega
      have hkg : k < gs.length := by rw [unhide HGL]; exact hlt
      have f0 := (hbel.cell (by exact hg0)).trans (Tr.np_cell (unhide HNP) k hkg)
      have hog := ((unhide HNP).2 k hkg).2
      have hog2 := hog.below hbel hog.lt
      have hgne : gs.getD k 0 < w.heap.size := hog.lt
      have hbad := hide (fun h => Tr.inOrder_none (Tr.stk_bad hst.out h) (by omega))
      have hgood := hide (Tr.stk_good hst.out)
      have HLV := hide (Tr.links_view hog2)
      have hll := Tr.links_length (l.getD k Nd.zero)
      rw [hll] at hbad hgood
      have hkl := Tr.kids_le (l.getD k Nd.zero).op
      clear hog hog2 hll hkg
      generalize Tr.links (l.getD k Nd.zero) = ls at hbad hgood HLV
      generalize gs.getD k 0 = gk' at f0 hgne HLV
      generalize Tr.kids (l.getD k Nd.zero).op = ks at f0 hbad hgood HLV hkl
      have hls := (unhide HLV).1
      obtain ⟨s, hs⟩ : ∃ s, s = st.length := ⟨_, rfl⟩
      rw [← hs] at hsl hbad hgood
      by_cases hr : s < ks
      · have fin := hide ((unhide hbad) (fun h => by omega))
        have hrI : (s : Int) - (ks : Int) < 0 := by omega
        obtain ⟨_, ⟨rfl, hz⟩ | ⟨g3, cap3, cur, rfl, _, _, h3, h4, _⟩⟩ := hown
        · have hs0 : s = 0 := by omega
          subst hs0
          have hrI2 : -(ks : Int) < 0 := by omega
          have hrI3 : 0 - (ks : Int) < 0 := by omega
          have hrI4 : (0 : Int) < (ks : Int) := by omega
          clear hbad hgood hz hs
          go_wp2_with fail
          go_ret
          exact ⟨ret_bool (unhide fin).symm, hbel⟩
        · rw [← hs]
          clear hbad hgood hs h3 h4
          go_wp2_with fail
          go_ret
          exact ⟨ret_bool (unhide fin).symm, hbel⟩
      · obtain ⟨r, hrr⟩ : ∃ r, s = r + ks := ⟨s - ks, by omega⟩
        have e1 : s - ks = r := by omega
        rw [e1] at hbad hgood
        have hd : (decide (st.drop r = ls)) = true ∨ (decide (st.drop r = ls)) = false := by cases decide (st.drop r = ls) <;> simp
        obtain ⟨_, ⟨rfl, hz⟩ | ⟨g3, cap3, cur, rfl, hg3, hh3, h3, h4, h5, h6⟩⟩ := id hown
        · have hs0 : s = 0 := by omega
          have hst0 : st = [] := List.length_eq_zero_iff.1 hz
          have hr0 : r = 0 := by omega
          have hk0 : ks = 0 := by omega
          subst hs0 hst0 hr0 hk0
          have hle : ls = [] := List.length_eq_zero_iff.1 (by omega)
          subst hle
          have HE := hide (fun c wq => equalInts_any none (some ⟨gk', 0, none⟩) 0 0 c [] [] wq ⟨rfl, .inl rfl⟩ ⟨rfl, .inl rfl⟩ (by omega) (by omega) (by omega))
          have HG := hide ((unhide hgood) ⟨by omega, rfl⟩)
          clear hbad hgood hz hs e1 hrr hd hr hls HLV
          have hnilI : Hid (∀ W : World, W.ownsRow w.heap.size 2 1 (.slice none 0 0) 0 []) := fun W => World.ownsRow_nil _ _ _ _
          go_wp2_with fail
          refine ((unhide HE) _ _).mono ?_
          rintro e w2 ⟨rfl, hb2⟩
          have B2 : Below w.heap.size w w2 := hbel.trans (hb2.mono hbel.size)
          have hone := hide (Tr.one_word w2 (k : Int))
          have honep := hide (Tr.one_plain (k : Int))
          have hb63 : 0 + 1 ≤ maxLen := by unfold maxLen; omega
          have hby : (0 + 1) * 8 ≤ 140737488355328 := by omega
          have hbase : w.heap.size ≤ w2.heap.size + 1 := by have := B2.size; omega
          clear hown
          go_wp2_with (at_builtin; refine wpList_append_own_at _ rfl (.tmp 31) (.tmp 33) 32 rfl w.heap.size 2 i0 (.int .i64 0) 1 8 Try.underlying32 hi hz0 hz1 hz2 rfl (by decide) _ 0 [] rfl (hnilI.out _) ⟨w2.heap.size, 0, none⟩ 1 1 [.int .i64 k] rfl rfl (unhide hone) (unhide honep) hb63 hby (by simpa using hbase) ?_)
          intro v' w3 ho3 hg3 _ _
          have B3 : Below w.heap.size w w3 := (B2.alloc B2.size _).grown hg3 (by simpa using hbase) (by intro q hq; simp [Value.ownBlock] at hq)
          have HO3 := hide ho3
          clear ho3 hg3
          go_wp2_with fail
          go_roundg (l.length - (k + 1))
          case rel => exact ⟨k + 1, [(k : Int)], rfl, by go_num, by omega, unhide HG, unhide HO3, B3⟩
          case measure => have := hg.out; omega
        · have hslen : st.length = s := hs.symm
          have hv1 := fun (a : Option Addr) (ha : a = some ⟨g3, r, none⟩ ∨ r = st.length) => Tr.loose_view hown r (by omega) a ha
          rw [hslen, show s - r = ks by omega] at hv1
          have HV1 := hide hv1
          have HTK := hide (fun (W : World) (hW : W.ownsRow w.heap.size 2 1 (.slice (some ⟨g3, 0, none⟩) st.length cap3) st.length (st.map (Value.int .i64))) => Tr.owns_take (r := r) hW (by omega))
          rw [hslen] at h3
          have HOWN := hide hown
          have hcr : r ≤ cap3 := by omega
          have hrsI : (r : Int) ≤ (s : Int) := by omega
          have hscI : (s : Int) ≤ (cap3 : Int) := by omega
          have hsub : (s : Int) - (ks : Int) = (r : Int) := by omega
          have hr0I : ¬ (r : Int) < 0 := by omega
          rw [hslen]
          have hcm : cap3 ≤ 9223372036854775807 := by unfold maxLen at h4; omega
          clear hv1 hown hr hh3 h4 h5 h6 e1
          have HS := hide hs
          have HSR := hide (show s - r = ks by omega)
          have hksr : r + ks = s := by omega
          have hs200 : s ≤ 1000 := by omega
          have hrs : r ≤ s := by omega
          have hksl : ks ≤ 3 := hkl
          have HKR := hide hksr
          clear hrr hs hslen hksr hls
          by_cases hcc : cap3 = r
          · have hrs2 := hide (show r = s by omega)
            have hks0 : ks = 0 := by have := unhide HKR; omega
            subst hks0
            subst cap3
            have hrs3 : r = s := unhide hrs2
            subst hrs3
            go_wp2_with fail
            try rw [unhide HSR]
            refine (equalInts_any _ _ 0 _ 3 (st.drop r) ls _ ((unhide HV1) _ (Or.inr (by first | trivial | rfl))) (unhide HLV) (by omega) (by omega) (by omega)).mono ?_
            rintro e w2 ⟨rfl, hb2⟩
            have B2 : Below w.heap.size w w2 := hbel.trans (hb2.mono hbel.size)
            have htk := (unhide HTK) w2 (Tr.owns_below (unhide HOWN) hb2)
            cases hd : decide (st.drop r = ls) with
            | false =>
              have fin := hide ((unhide hbad) (fun h => of_decide_eq_false hd h.2))
              go_wp2_with fail
              go_ret
              exact ⟨ret_bool (unhide fin).symm, B2⟩
            | true =>
              have HG := hide ((unhide hgood) ⟨by omega, of_decide_eq_true hd⟩)
              have hbse := hide (Tr.owns_base htk)
              have hown' := hide (fun o => htk.alloc o)
              have hone := hide (Tr.one_word w2 (k : Int))
              have honep := hide (Tr.one_plain (k : Int))
              have hb63 : r + 1 ≤ maxLen := by unfold maxLen; omega
              have hby : (r + 1) * 8 ≤ 140737488355328 := by omega
              have hbase : w.heap.size ≤ w2.heap.size + 1 := by have := B2.size; omega
              have hfin : Hid ((st.map (Value.int .i64)).take r ++ [.int .i64 (k : Int)] = (st.take r ++ [(k : Int)]).map (Value.int .i64) ∧ (st.take r ++ [(k : Int)]).length = r + 1) := by
                have := unhide HS
                refine ⟨by rw [List.map_append, List.map_take]; rfl, by rw [List.length_append, List.length_take, List.length_singleton]; omega⟩
              clear htk hd hbad hgood
              go_wp2_with (at_builtin; refine wpList_append_own_at _ rfl (.tmp 31) (.tmp 33) 32 rfl w.heap.size 2 i0 (.int .i64 0) 1 8 Try.underlying32 hi hz0 hz1 hz2 rfl (by decide) _ r _ rfl ((unhide hown') _) ⟨w2.heap.size, 0, none⟩ 1 1 [.int .i64 k] rfl rfl (unhide hone) (unhide honep) hb63 hby (by simpa using hbase) ?_)
              intro v' w3 ho3 hg3 _ _
              have B3 : Below w.heap.size w w3 := (B2.alloc B2.size _).grown hg3 (by simpa using hbase) (unhide hbse)
              rw [hfin.out.1, ← hfin.out.2] at ho3
              have HO3 := hide ho3
              clear ho3 hg3
              go_wp2_with fail
              go_roundg (l.length - (k + 1))
              case rel => exact ⟨k + 1, _, rfl, by go_num, by omega, unhide HG, unhide HO3, B3⟩
              case measure => have := hg.out; omega
          · have hcc2 : ¬ r = cap3 := fun h => hcc h.symm
            go_wp2_with fail
            rw [unhide HSR]
            refine (equalInts_any _ _ ks _ 3 (st.drop r) ls _ ((unhide HV1) _ (.inl rfl)) (unhide HLV) (by omega) (by omega) (by omega)).mono ?_
            rintro e w2 ⟨rfl, hb2⟩
            have B2 : Below w.heap.size w w2 := hbel.trans (hb2.mono hbel.size)
            have htk := (unhide HTK) w2 (Tr.owns_below (unhide HOWN) hb2)
            cases hd : decide (st.drop r = ls) with
            | false =>
              have fin := hide ((unhide hbad) (fun h => of_decide_eq_false hd h.2))
              go_wp2_with fail
              go_ret
              exact ⟨ret_bool (unhide fin).symm, B2⟩
            | true =>
              have HG := hide ((unhide hgood) ⟨by omega, of_decide_eq_true hd⟩)
              have hbse := hide (Tr.owns_base htk)
              have hown' := hide (fun o => htk.alloc o)
              have hone := hide (Tr.one_word w2 (k : Int))
              have honep := hide (Tr.one_plain (k : Int))
              have hb63 : r + 1 ≤ maxLen := by unfold maxLen; omega
              have hby : (r + 1) * 8 ≤ 140737488355328 := by omega
              have hbase : w.heap.size ≤ w2.heap.size + 1 := by have := B2.size; omega
              have hfin : Hid ((st.map (Value.int .i64)).take r ++ [.int .i64 (k : Int)] = (st.take r ++ [(k : Int)]).map (Value.int .i64) ∧ (st.take r ++ [(k : Int)]).length = r + 1) := by
                have := unhide HS
                refine ⟨by rw [List.map_append, List.map_take]; rfl, by rw [List.length_append, List.length_take, List.length_singleton]; omega⟩
              clear htk hd hbad hgood
              go_wp2_with (at_builtin; refine wpList_append_own_at _ rfl (.tmp 31) (.tmp 33) 32 rfl w.heap.size 2 i0 (.int .i64 0) 1 8 Try.underlying32 hi hz0 hz1 hz2 rfl (by decide) _ r _ rfl ((unhide hown') _) ⟨w2.heap.size, 0, none⟩ 1 1 [.int .i64 k] rfl rfl (unhide hone) (unhide honep) hb63 hby (by simpa using hbase) ?_)
              intro v' w3 ho3 hg3 _ _
              have B3 : Below w.heap.size w w3 := (B2.alloc B2.size _).grown hg3 (by simpa using hbase) (unhide hbse)
              rw [hfin.out.1, ← hfin.out.2] at ho3
              have HO3 := hide ho3
              clear ho3 hg3
              go_wp2_with fail
              go_roundg (l.length - (k + 1))
              case rel => exact ⟨k + 1, _, rfl, by go_num, by omega, unhide HG, unhide HO3, B3⟩
              case measure => have := hg.out; omega
    · have hke : k = l.length := by omega
      subst hke
      have fin := hide (Tr.inOrder_end hst.out)
      obtain ⟨_, ⟨rfl, hz⟩ | ⟨g3, cap3, cur, rfl, _, _, h3, h4, _⟩⟩ := hown
      · have hst0 : st = [] := List.length_eq_zero_iff.1 hz
        subst hst0
        clear hz hsl
        go_wp2_with fail
        go_ret
        exact ⟨ret_bool (unhide fin).symm, hbel⟩
      · have hsz : st.length ≤ 1000 := by omega
        by_cases h1 : st.length = 1
        · rw [h1] at fin ⊢
          clear h1
          go_wp2_with fail
          go_ret
          exact ⟨ret_bool (unhide fin).symm, hbel⟩
        · have g1 : ((st.length : Int) == 1) = false := by simp; omega
          have g2 : (st.length == 1) = false := by simpa using h1
          rw [g2] at fin
          clear h1
          go_wp2_with fail
          go_ret
          exact ⟨ret_bool (by first | exact (unhide fin).symm | (rw [unhide fin]; simpa using g1)), hbel⟩
theorem standInOrder_any (B g cap : Nat) (gs : List Nat) (l : List Nd) (w : World) (hnp : Tr.NP w B (.slice (some ⟨g, 0, none⟩) l.length cap) l gs) (hgl : gs.length = l.length) (hcap : l.length ≤ cap) (hg0 : g < w.heap.size) (h200 : l.length ≤ 200) (h0 : 0 < l.length) :
    Calls Try.prog 47 #[.slice (some ⟨g, 0, none⟩) l.length cap] w fun e w' => e = .returned (.bool (Tr.inOrder l)) ∧ Below w.heap.size w w' := standInOrder_big B g cap gs l w hnp hgl hcap hg0 (by omega) h0


end Go.Proofs.Ytkjmnkbiflkpdaa
