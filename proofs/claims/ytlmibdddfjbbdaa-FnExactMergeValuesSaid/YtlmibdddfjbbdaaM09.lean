/-
  spec.l1Shape: by induction on how many cells there are behind a place.
-/
import Derived.Test.YtlmibdddfjbbdaaM08
import Derived.Deep.LoopGhost
namespace Go.Proofs.Ytlmibdddfjbbdaa
open Go.RowKit
set_option linter.unusedVariables false

/-- What is promised of spec.l1Shape with f cells at most. -/
def L1ShapeSays (v : List M.Cl) (b off cap f : Nat) : Prop := ∀ (at' : Nat) (depth : Int) (w : World), v.length ≤ at' + f → at' < v.length → 0 ≤ depth → depth ≤ at' → Row w b off v → b < w.heap.size →
      Calls Try.prog 38 #[.slice (some ⟨b, off, none⟩) v.length cap, .int .i64 at', .int .i64 depth] w fun e w' => e = .returned (shOut (M.walk v f at')) ∧ Below w.heap.size w w'

set_option maxRecDepth 100000 in
set_option maxHeartbeats 4000000 in
theorem l1Shape_step (v : List M.Cl) (b off cap f : Nat) (IH : Hid (L1ShapeSays v b off cap f)) (hf2 : f ≤ 200) (hlen : v.length ≤ 200) (hcap : v.length ≤ cap) (hok : ∀ c ∈ v, c.ok) : L1ShapeSays v b off cap (f + 1) := by
  intro at' depth w hf hat hd0 hd hrow hb
  obtain ⟨c, hc⟩ : ∃ c, c = v.getD at' M.zero := ⟨_, rfl⟩
  obtain ⟨f0, f1, f2, f3, f4⟩ := hrow at' hat
  have hcok := hok _ (getD_mem v at' hat)
  rw [← hc] at f0 f1 f2 f3 f4 hcok
  obtain ⟨⟨k0, k1⟩, ⟨q0, q1⟩, ⟨n0, n1⟩, _, _⟩ := hcok
  have W := hide (walk_eq v f at' c hc)
  clear hc
  have OK := hide hok
  clear hok
  have d1 : decide (v.length ≤ at') = false := by simp; omega
  have d2 : decide ((200 : Int) < depth) = false := by simp; omega
  go_enter Try.func38, Try.ntmps38
  go_wp2_with fail
  go_loopg [9, 10, 11, 12] c.n.toNat (fun g s9 s10 s11 s12 wr => ∃ (k e d : Nat) (last : ByteArray), Hid (g = c.n.toNat - k) ∧ s12 = .int .i64 k ∧ s10 = .int .i64 e ∧ s9 = .int .i64 d ∧ s11 = .string last ∧ k ≤ c.n.toNat ∧ at' + 1 ≤ e ∧ e ≤ v.length ∧ d ≤ 200 ∧
      Hid (M.kids (M.walk v f) v c c.n.toNat 0 (at' + 1) 0 ByteArray.empty = M.kids (M.walk v f) v c (c.n.toNat - k) k e d last) ∧
      Own wr w.heap.size 41 [.int .i64 c.kind, .int .i64 c.num, .string c.text, .string c.key, .int .i64 c.n] ∧ Below w.heap.size w wr)
  case atStart => exact ⟨0, at' + 1, 0, ByteArray.empty, rfl, rfl, by go_num, rfl, rfl, by omega, by omega, by omega, by omega, rfl, ⟨_, heap_alloc_new _ _, rfl⟩, (Below.refl _ _).alloc (Nat.le_refl _) _⟩
  case round =>
    obtain ⟨k, e, d, last, hg, rfl, rfl, rfl, rfl, hk, he1, he2, hd2, hkids, hown, hbel⟩ := hrel
    have o0 := hown.cell 0
    have o4 := hown.cell 4
    simp only [List.getElem?_cons_zero, List.getElem?_cons_succ] at o0 o4
    have hr := hrow.below hbel hb
    have hbr : b < wr.heap.size := Nat.lt_of_lt_of_le hb hbel.size
    clear f0 f1 f2 f3 f4
    by_cases hkn : (k : Int) < c.n
    · by_cases hlt : e < v.length
      · obtain ⟨ce, hce⟩ : ∃ ce, ce = v.getD e M.zero := ⟨_, rfl⟩
        obtain ⟨g0, g1, g2, g3, g4⟩ := hr e hlt
        rw [← hce] at g0 g1 g2 g3 g4
        clear g0 g1 g2 g4
        refine round_cases v c ce k e last hlt hce _ ?_ ?_ ?_ ?_ ?_ ?_
        · intro t5 tk hbad
          have fin := hide (sh_none v f at' c _ (unhide W) hkids.out (kids_stop _ v c _ k e d last hbad (by omega)))
          clear hbad hce
          go_wp2_with fail
          go_ret2
          exact ⟨(congrArg Ending.returned (unhide fin)).symm, hbel⟩
        · intro t5 t6 tk tle hbad
          have fin := hide (sh_none v f at' c _ (unhide W) hkids.out (kids_stop _ v c _ k e d last hbad (by omega)))
          clear hbad hce
          go_wp2_with fail
          go_ret2
          exact ⟨(congrArg Ending.returned (unhide fin)).symm, hbel⟩
        · intro t5 t6 tk hgood
          have hgd := hide hgood
          clear hgood
          have HCE := hide hce
          clear hce
          go_wp2_with fail
          refine ((unhide IH) e (depth + 1) _ ?_ ?_ ?_ ?_ ?_ ?_).mono ?_
          · omega
          · exact hlt
          · omega
          · omega
          · exact hr
          · exact hbr
          rintro e1 w1 ⟨rfl, hb1⟩
          have hown1 := hown.below hb1 hown.lt
          have hb2 : Below w.heap.size w w1 := hbel.trans (hb1.mono hbel.size)
          have hbd := M.walk_bd v f e hlt
          generalize hres : M.walk v f e = res at *
          cases res with
          | none =>
            have fin := hide (sh_none v f at' c _ (unhide W) hkids.out (kids_none _ v c _ k e d last hres (by omega)))
            clear hres hbd
            simp only [shOut]
            go_wp2_with fail
            go_ret2
            exact ⟨(congrArg Ending.returned (unhide fin)).symm, hb2⟩
          | some r =>
            obtain ⟨e', d'⟩ := r
            have hb3 := hbd _ rfl
            simp only at hb3
            obtain ⟨hb4, hb5, hb6⟩ := hb3
            have nxt := hide (hkids.out.trans (kids_some _ v c _ k e d last (unhide hgd) e' d' hres (by omega)))
            clear hres hbd
            simp only [shOut]
            by_cases hdd : d < d'
            · go_wp2_with fail
              go_roundg (c.n.toNat - (k + 1))
              case rel => exact ⟨k + 1, e', d', ce.key, rfl, by go_num, rfl, rfl, rfl, by omega, by omega, by omega, by omega, (by have h := unhide nxt; rw [Nat.max_eq_right (by omega), ← unhide HCE] at h; exact h), hown1, hb2⟩
              case measure => have := hg.out; omega
            · go_wp2_with fail
              go_roundg (c.n.toNat - (k + 1))
              case rel => exact ⟨k + 1, e', d, ce.key, rfl, by go_num, rfl, rfl, rfl, by omega, by omega, by omega, by omega, (by have h := unhide nxt; rw [Nat.max_eq_left (by omega), ← unhide HCE] at h; exact h), hown1, hb2⟩
              case measure => have := hg.out; omega
        · intro t5 t6 tk hgood
          have hgd := hide hgood
          clear hgood
          have HCE := hide hce
          clear hce
          go_wp2_with fail
          refine ((unhide IH) e (depth + 1) _ ?_ ?_ ?_ ?_ ?_ ?_).mono ?_
          · omega
          · exact hlt
          · omega
          · omega
          · exact hr
          · exact hbr
          rintro e1 w1 ⟨rfl, hb1⟩
          have hown1 := hown.below hb1 hown.lt
          have hb2 : Below w.heap.size w w1 := hbel.trans (hb1.mono hbel.size)
          have hbd := M.walk_bd v f e hlt
          generalize hres : M.walk v f e = res at *
          cases res with
          | none =>
            have fin := hide (sh_none v f at' c _ (unhide W) hkids.out (kids_none _ v c _ k e d last hres (by omega)))
            clear hres hbd
            simp only [shOut]
            go_wp2_with fail
            go_ret2
            exact ⟨(congrArg Ending.returned (unhide fin)).symm, hb2⟩
          | some r =>
            obtain ⟨e', d'⟩ := r
            have hb3 := hbd _ rfl
            simp only at hb3
            obtain ⟨hb4, hb5, hb6⟩ := hb3
            have nxt := hide (hkids.out.trans (kids_some _ v c _ k e d last (unhide hgd) e' d' hres (by omega)))
            clear hres hbd
            simp only [shOut]
            by_cases hdd : d < d'
            · go_wp2_with fail
              go_roundg (c.n.toNat - (k + 1))
              case rel => exact ⟨k + 1, e', d', ce.key, rfl, by go_num, rfl, rfl, rfl, by omega, by omega, by omega, by omega, (by have h := unhide nxt; rw [Nat.max_eq_right (by omega), ← unhide HCE] at h; exact h), hown1, hb2⟩
              case measure => have := hg.out; omega
            · go_wp2_with fail
              go_roundg (c.n.toNat - (k + 1))
              case rel => exact ⟨k + 1, e', d, ce.key, rfl, by go_num, rfl, rfl, rfl, by omega, by omega, by omega, by omega, (by have h := unhide nxt; rw [Nat.max_eq_left (by omega), ← unhide HCE] at h; exact h), hown1, hb2⟩
              case measure => have := hg.out; omega
        · intro t5 t6 tk tle hgood
          have hgd := hide hgood
          clear hgood
          have HCE := hide hce
          clear hce
          go_wp2_with fail
          refine ((unhide IH) e (depth + 1) _ ?_ ?_ ?_ ?_ ?_ ?_).mono ?_
          · omega
          · exact hlt
          · omega
          · omega
          · exact hr
          · exact hbr
          rintro e1 w1 ⟨rfl, hb1⟩
          have hown1 := hown.below hb1 hown.lt
          have hb2 : Below w.heap.size w w1 := hbel.trans (hb1.mono hbel.size)
          have hbd := M.walk_bd v f e hlt
          generalize hres : M.walk v f e = res at *
          cases res with
          | none =>
            have fin := hide (sh_none v f at' c _ (unhide W) hkids.out (kids_none _ v c _ k e d last hres (by omega)))
            clear hres hbd
            simp only [shOut]
            go_wp2_with fail
            go_ret2
            exact ⟨(congrArg Ending.returned (unhide fin)).symm, hb2⟩
          | some r =>
            obtain ⟨e', d'⟩ := r
            have hb3 := hbd _ rfl
            simp only at hb3
            obtain ⟨hb4, hb5, hb6⟩ := hb3
            have nxt := hide (hkids.out.trans (kids_some _ v c _ k e d last (unhide hgd) e' d' hres (by omega)))
            clear hres hbd
            simp only [shOut]
            by_cases hdd : d < d'
            · go_wp2_with fail
              go_roundg (c.n.toNat - (k + 1))
              case rel => exact ⟨k + 1, e', d', ce.key, rfl, by go_num, rfl, rfl, rfl, by omega, by omega, by omega, by omega, (by have h := unhide nxt; rw [Nat.max_eq_right (by omega), ← unhide HCE] at h; exact h), hown1, hb2⟩
              case measure => have := hg.out; omega
            · go_wp2_with fail
              go_roundg (c.n.toNat - (k + 1))
              case rel => exact ⟨k + 1, e', d, ce.key, rfl, by go_num, rfl, rfl, rfl, by omega, by omega, by omega, by omega, (by have h := unhide nxt; rw [Nat.max_eq_left (by omega), ← unhide HCE] at h; exact h), hown1, hb2⟩
              case measure => have := hg.out; omega
        · intro t5 t6 hgood
          have hgd := hide hgood
          clear hgood
          have HCE := hide hce
          clear hce
          go_wp2_with fail
          refine ((unhide IH) e (depth + 1) _ ?_ ?_ ?_ ?_ ?_ ?_).mono ?_
          · omega
          · exact hlt
          · omega
          · omega
          · exact hr
          · exact hbr
          rintro e1 w1 ⟨rfl, hb1⟩
          have hown1 := hown.below hb1 hown.lt
          have hb2 : Below w.heap.size w w1 := hbel.trans (hb1.mono hbel.size)
          have hbd := M.walk_bd v f e hlt
          generalize hres : M.walk v f e = res at *
          cases res with
          | none =>
            have fin := hide (sh_none v f at' c _ (unhide W) hkids.out (kids_none _ v c _ k e d last hres (by omega)))
            clear hres hbd
            simp only [shOut]
            go_wp2_with fail
            go_ret2
            exact ⟨(congrArg Ending.returned (unhide fin)).symm, hb2⟩
          | some r =>
            obtain ⟨e', d'⟩ := r
            have hb3 := hbd _ rfl
            simp only at hb3
            obtain ⟨hb4, hb5, hb6⟩ := hb3
            have nxt := hide (hkids.out.trans (kids_some _ v c _ k e d last (unhide hgd) e' d' hres (by omega)))
            clear hres hbd
            simp only [shOut]
            by_cases hdd : d < d'
            · go_wp2_with fail
              go_roundg (c.n.toNat - (k + 1))
              case rel => exact ⟨k + 1, e', d', ce.key, rfl, by go_num, rfl, rfl, rfl, by omega, by omega, by omega, by omega, (by have h := unhide nxt; rw [Nat.max_eq_right (by omega), ← unhide HCE] at h; exact h), hown1, hb2⟩
              case measure => have := hg.out; omega
            · go_wp2_with fail
              go_roundg (c.n.toNat - (k + 1))
              case rel => exact ⟨k + 1, e', d, ce.key, rfl, by go_num, rfl, rfl, rfl, by omega, by omega, by omega, by omega, (by have h := unhide nxt; rw [Nat.max_eq_left (by omega), ← unhide HCE] at h; exact h), hown1, hb2⟩
              case measure => have := hg.out; omega
      · have fin := hide (sh_none v f at' c _ (unhide W) hkids.out (kids_stop _ v c _ k e d last (bad_end v c k e last (by omega)) (by omega)))
        go_wp2_with fail
        go_ret2
        exact ⟨(congrArg Ending.returned (unhide fin)).symm, hbel⟩
    · have hz : c.n.toNat - k = 0 := by omega
      have fin := hide (sh_some v f at' e d c _ (unhide W) hkids.out (by rw [hz]; rfl))
      clear hz
      go_wp2_with fail
      go_ret2
      exact ⟨(congrArg Ending.returned (unhide fin)).symm, hbel⟩

theorem l1Shape_any (v : List M.Cl) (b off cap : Nat) (hlen : v.length ≤ 200) (hcap : v.length ≤ cap) (hok : ∀ c ∈ v, c.ok) (f : Nat) (hf : f ≤ 201) : L1ShapeSays v b off cap f := by
  induction f with
  | zero => intro at' depth w h1 h2; omega
  | succ f ih => exact l1Shape_step v b off cap f (ih (by omega)) (by omega) hlen hcap hok

end Go.Proofs.Ytlmibdddfjbbdaa
