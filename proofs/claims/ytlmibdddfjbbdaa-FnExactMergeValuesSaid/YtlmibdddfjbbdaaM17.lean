/-
  Rows of lists of cells and rows of texts: spec.l1Parts and spec.l1Keys.
-/
import Derived.Test.YtlmibdddfjbbdaaM15
import Derived.Test.YtlmibdddfjbbdaaM16
namespace Go.Proofs.Ytlmibdddfjbbdaa
open Go.RowKit
set_option linter.unusedVariables false

/-- The slice value v is a row of slices, each of which holds the cells of one of the lists ps. -/
def SS (w : World) (B : Nat) (v : Value) (ps : List (List M.Cl)) : Prop :=
  ∃ ss : List Value, ss.length = ps.length ∧ w.ownsRow B 24 1 v ps.length ss ∧ ∀ i, i < ps.length → Res w B (ss.getD i (.slice none 0 0)) (ps.getD i [])
/-- The slice value v is a row of the texts ks. -/
def KS (w : World) (B : Nat) (v : Value) (ks : List ByteArray) : Prop := w.ownsRow B 9 1 v ks.length (ks.map Value.string)

theorem SS.below {w w' : World} {B : Nat} {v : Value} {ps : List (List M.Cl)} (h : SS w B v ps) (hb : Below w.heap.size w w') : SS w' B v ps := by
  obtain ⟨ss, h1, h2, h3⟩ := h
  exact ⟨ss, h1, ownsRow_below (B := 0) h2 hb, fun i hi => (h3 i hi).below hb⟩
theorem KS.below {w w' : World} {B : Nat} {v : Value} {ks : List ByteArray} (h : KS w B v ks) (hb : Below w.heap.size w w') : KS w' B v ks := ownsRow_below (B := 0) h hb

/-- Rows of unlike elements are not one. -/
theorem other_block {w : World} {base : Nat} {e : TypeId} {size : Nat} {v : Value} {n : Nat} {xs : List Value} (h : w.ownsRow base e size v n xs) {b : Nat} {t : TypeId} {ys : List Value} (ho : Own w b t ys) (hne : e ≠ t) : v.ownBlock ≠ some b := by
  obtain ⟨_, ⟨rfl, _⟩ | ⟨g, cap, cur, rfl, hg, hh, _⟩⟩ := h
  · simp [Value.ownBlock]
  · intro hx
    simp only [Value.ownBlock, Option.some.injEq] at hx
    subst hx
    obtain ⟨c, hc, _⟩ := ho
    rw [hh] at hc
    simp only [Option.some.injEq, Obj.cells.injEq] at hc
    exact hne hc.2.1
theorem grown_own {w w' : World} {row : Option Nat} (hg : w.grownBy w' row) {b : Nat} {t : TypeId} {ys : List Value} (ho : Own w b t ys) (hne : row ≠ some b) : Own w' b t ys := by
  obtain ⟨c, hc, e⟩ := ho
  exact ⟨c, (hg.block b (Array.getElem?_eq_some_iff.1 hc).1 (fun h => hne h.symm)).trans hc, e⟩
theorem grown_res {w w' : World} {base : Nat} {e : TypeId} {size : Nat} {v : Value} {n : Nat} {xs : List Value} (h : w.ownsRow base e size v n xs) (hg : w.grownBy w' v.ownBlock) {B : Nat} {s : Value} {l : List M.Cl} (hr : Res w B s l) (hne : e ≠ 41) : Res w' B s l := by
  obtain ⟨hn, g | ⟨b, cap, h1, h2, h3, ⟨ys, h4, h5⟩⟩⟩ := hr
  · exact ⟨hn, .inl g⟩
  · exact ⟨hn, .inr ⟨b, cap, h1, h2, h3, ⟨ys, grown_own hg h4 (other_block h h4 hne), h5⟩⟩⟩

theorem one_val (w : World) (u : Value) (t : TypeId) : ∀ j x, ([u] : List Value)[j]? = some x → (w.alloc (.cells #[u] t)).cell? ((⟨w.heap.size, 0, none⟩ : Addr).add j) = some x := by
  intro j x hu
  match j, hu with
  | 0, hu =>
    simp only [List.getElem?_cons_zero, Option.some.injEq] at hu
    subst hu
    have a0 : (⟨w.heap.size, 0, none⟩ : Addr).add 0 = ⟨w.heap.size, 0, none⟩ := by simp [Addr.add]
    rw [a0]
    exact World.cell?_alloc_mark w #[u] t (0, 0) 0

theorem firstPl_getD (v : List M.Cl) (a k j : Nat) (hj : j < k) : (firstPl v a k).getD j 0 = (M.iter v j (a + 1) : Int) := by
  simp [firstPl, List.getD_eq_getElem?_getD, hj]

/-- The first k keys of the parts. -/
def firstK (v : List M.Cl) (k : Nat) : List ByteArray := (List.range k).map fun (j : Nat) => (v.getD (M.iter v j 1) M.zero).key
theorem firstK_succ (v : List M.Cl) (k : Nat) : (firstK v k).map Value.string ++ [.string (v.getD (M.iter v k 1) M.zero).key] = (firstK v (k + 1)).map Value.string := by simp [firstK, List.range_succ]
theorem firstK_all (v : List M.Cl) : firstK v (M.arity v 0) = keysAt v 0 := by
  unfold firstK keysAt M.places
  rw [List.map_map]
  rfl

set_option maxRecDepth 100000 in
set_option maxHeartbeats 2000000 in
theorem l1Keys_any (v : List M.Cl) (b off cap : Nat) (w : World) (hv : M.valueFault v = 0) (hrow : Row w b off v) (hb : b < w.heap.size) (hcap : v.length ≤ cap) (hok : ∀ c ∈ v, c.ok) :
    Calls Try.prog 26 #[.slice (some ⟨b, off, none⟩) v.length cap] w fun e w' => ∃ s, e = .returned s ∧ KS w' w.heap.size s (keysAt v 0) ∧ Below w.heap.size w w' := by
  have hl1 := (M.fault_zero hv).1
  have hl2 := (M.fault_zero hv).2.1
  have hin := M.places_in hv 0 (by omega)
  have HIN := hide hin.1
  have hend := hide hin.2.2.1
  have hA := hin.2.2.2
  have HC := hide (fun w' (r : Row w' b off v) hb' => l1Children_any v b off cap 0 w' hv (by omega) r hb' hcap hok)
  have hall := hide (firstK_all v)
  clear hin hok
  generalize hm : M.arity v 0 = m at *
  clear hm
  have HV := hide hv
  clear hv
  obtain ⟨i0, hi, hz0, hz1, hz2⟩ := info_parts Try.info9
  have B0 : ∀ o, Below w.heap.size w (w.alloc o) := fun o => (Below.refl _ _).alloc (Nat.le_refl _) o
  have HB0 := hide B0
  clear B0
  go_enter Try.func26, Try.ntmps26
  go_wp2_with fail
  refine ((unhide HC) _ (hrow.below ((unhide HB0) _) hb) (by simp; omega)).mono ?_
  rintro e w1 ⟨sa, rfl, hra, hb1⟩
  have hO : w1.ownsRow w.heap.size 9 1 (.slice (some ⟨w.heap.size, 0, none⟩) 0 0) 0 [] := ownsRow_below (B := 0) (w := w.alloc (.cells #[] 9)) ⟨rfl, .inr ⟨w.heap.size, 0, #[], rfl, Nat.le_refl _, heap_alloc_new _ _, Nat.le_refl _, by simp [maxLen], rfl, rfl⟩⟩ hb1
  have B1 : Below w.heap.size w w1 := ((unhide HB0) _).trans (hb1.mono (by simp))
  clear hb1
  obtain ⟨_, ⟨rfl, hnil⟩ | ⟨ba, ca, rfl, _, hca, hoa⟩⟩ := hra
  · have hm0 : m = 0 := by have := congrArg List.length hnil; rwa [firstPl_length] at this
    subst hm0
    have fin := hide (unhide hall)
    go_wp2_with fail
    refine wp_loop_rounds 1 ?_
    rw [rounds_succ]
    go_wp2_with fail
    go_ret
    exact ⟨_, rfl, by rw [← unhide fin]; exact hO, B1⟩
  · rw [firstPl_length] at hca ⊢
    go_wp2_with fail
    go_loopg [3, 5] m (fun g s3 s5 wr => ∃ k : Nat, Hid (g = m - k) ∧ s5 = .int .i64 k ∧ k ≤ m ∧ wr.ownsRow w.heap.size 9 1 s3 k ((firstK v k).map Value.string) ∧ OwnI wr ba (firstPl v 0 m) ∧ Below w.heap.size w wr)
    case atStart => exact ⟨0, rfl, rfl, by omega, hO, hoa, B1⟩
    case round =>
      clear hO hoa B1
      obtain ⟨k, hg, rfl, hk, hown, hoi, hbel⟩ := hrel
      by_cases hlt : k < m
      · have h1 := (unhide HIN) k hlt
        have h2 := unhide hend
        have fa := hoi.cell (i := k) (by rw [firstPl_length]; exact hlt)
        rw [firstPl_getD v 0 m k hlt] at fa
        have fk := ((hrow.below hbel hb) (M.iter v k (0 + 1)) (by omega)).2.2.2.1
        have hsucc := hide (firstK_succ v k)
        simp only [Nat.zero_add] at fa fk h1
        have hp : M.iter v k 1 < v.length := by omega
        clear h1 h2
        generalize (v.getD (M.iter v k 1) M.zero).key = ky at *
        generalize M.iter v k 1 = p at *
        have hown1 := hide (fun o => hown.alloc o)
        have hbse := hide (ownsRow_base hown)
        have hone := hide (one_val wr (.string ky) 9)
        have honep := hide (show ∀ u ∈ ([Value.string ky] : List Value), u.oneCell' = true by intro u hu; simp only [List.mem_cons, List.not_mem_nil, or_false] at hu; subst hu; rfl)
        have hb63 : k + 1 ≤ maxLen := by unfold maxLen; omega
        have hby : (k + 1) * 16 ≤ 140737488355328 := by omega
        have hbase : w.heap.size ≤ wr.heap.size + 1 := by have := hbel.size; omega
        have hnb := hide (other_block hown hoi.choose_spec.1 (by decide))
        have HOI := hide hoi
        clear hown hoi
        go_wp2_with (at_builtin; refine wpList_append_own _ rfl (.tmp 15) (.tmp 24) 48 rfl w.heap.size 9 i0 (.string ByteArray.empty) 1 16 Try.underlying48 hi hz0 hz1 hz2 rfl (by decide) _ k _ rfl ((unhide hown1) _) ⟨wr.heap.size, 0, none⟩ 1 1 [.string ky] rfl rfl (unhide hone) (unhide honep) hb63 hby (by simpa using hbase) ?_)
        intro v' w2 ho2 hg2 _
        rw [unhide hsucc] at ho2
        have B2 : Below w.heap.size w w2 := (hbel.alloc hbel.size _).grown hg2 (by simpa using hbase) (unhide hbse)
        have hoi2 : OwnI w2 ba (firstPl v 0 m) := by
          obtain ⟨ys, y1, y2⟩ := unhide HOI
          exact ⟨ys, grown_own hg2 (y1.alloc _) (unhide hnb), y2⟩
        have HO2 := hide ho2
        clear ho2 hg2 fa fk
        go_wp2_with fail
        go_roundg (m - (k + 1))
        case rel => exact ⟨k + 1, rfl, by go_num, by omega, unhide HO2, hoi2, B2⟩
        case measure => have := hg.out; omega
      · have hke : k = m := by omega
        subst hke
        have fin := hide (unhide hall)
        have hlen : (keysAt v 0).length = k := by rw [← unhide fin]; simp [firstK]
        have hks : KS wr w.heap.size u3 (keysAt v 0) := by unfold KS; rw [hlen, ← unhide fin]; exact hown
        have HKS := hide hks
        have hsh : ∃ aa nn cc, u3 = Value.slice aa nn cc := by
          rcases hown.2 with ⟨h, _⟩ | ⟨_, _, _, h, _⟩
          · exact ⟨_, _, _, h⟩
          · exact ⟨_, _, _, h⟩
        obtain ⟨aa, nn, cc, hsh⟩ := hsh
        subst hsh
        clear hown hks hlen hoi
        go_wp2_with fail
        go_ret
        exact ⟨_, rfl, unhide HKS, hbel⟩

/-- The parts that come first. -/
def firstS (v : List M.Cl) (k : Nat) : List (List M.Cl) := (List.range k).map fun (j : Nat) => part v (M.iter v j 1)
theorem firstS_getD (v : List M.Cl) (k j : Nat) (hj : j < k) : (firstS v k).getD j [] = part v (M.iter v j 1) := by simp [firstS, List.getD_eq_getElem?_getD, hj]
theorem firstS_length (v : List M.Cl) (k : Nat) : (firstS v k).length = k := by simp [firstS]
theorem firstS_all (v : List M.Cl) : firstS v (M.arity v 0) = subs v 0 := by
  unfold firstS subs M.places
  rw [List.map_map]
  rfl

set_option maxRecDepth 100000 in
set_option maxHeartbeats 2000000 in
theorem l1Parts_any (v : List M.Cl) (b off cap : Nat) (w : World) (hv : M.valueFault v = 0) (hrow : Row w b off v) (hb : b < w.heap.size) (hcap : v.length ≤ cap) (hok : ∀ c ∈ v, c.ok) :
    Calls Try.prog 30 #[.slice (some ⟨b, off, none⟩) v.length cap] w fun e w' => ∃ s, e = .returned s ∧ SS w' w.heap.size s (subs v 0) ∧ Below w.heap.size w w' := by
  have hl1 := (M.fault_zero hv).1
  have hl2 := (M.fault_zero hv).2.1
  have hin := M.places_in hv 0 (by omega)
  have HIN := hide hin.1
  have hend := hide hin.2.2.1
  have hA := hin.2.2.2
  have HC := hide (fun w' (r : Row w' b off v) hb' => l1Children_any v b off cap 0 w' hv (by omega) r hb' hcap hok)
  have HPT := hide (fun a (ha : a < v.length) w' (r : Row w' b off v) hb' => l1Part_any v b off cap a w' hv ha r hb' hcap hok)
  have hall := hide (firstS_all v)
  clear hin hok
  generalize hm : M.arity v 0 = m at *
  clear hm
  have HV := hide hv
  clear hv
  obtain ⟨i0, hi, hz0, hz1, hz2⟩ := info_parts Try.info24
  have B0 : ∀ o, Below w.heap.size w (w.alloc o) := fun o => (Below.refl _ _).alloc (Nat.le_refl _) o
  have HB0 := hide B0
  clear B0
  go_enter Try.func30, Try.ntmps30
  go_wp2_with fail
  refine ((unhide HC) _ (hrow.below ((unhide HB0) _) hb) (by simp; omega)).mono ?_
  rintro e w1 ⟨sa, rfl, hra, hb1⟩
  have hO : w1.ownsRow w.heap.size 24 1 (.slice (some ⟨w.heap.size, 0, none⟩) 0 0) 0 [] := ownsRow_below (B := 0) (w := w.alloc (.cells #[] 24)) ⟨rfl, .inr ⟨w.heap.size, 0, #[], rfl, Nat.le_refl _, heap_alloc_new _ _, Nat.le_refl _, by simp [maxLen], rfl, rfl⟩⟩ hb1
  have B1 : Below w.heap.size w w1 := ((unhide HB0) _).trans (hb1.mono (by simp))
  clear hb1
  obtain ⟨_, ⟨rfl, hnil⟩ | ⟨ba, ca, rfl, _, hca, hoa⟩⟩ := hra
  · have hm0 : m = 0 := by have := congrArg List.length hnil; rwa [firstPl_length] at this
    subst hm0
    have fin := hide (unhide hall)
    go_wp2_with fail
    refine wp_loop_rounds 1 ?_
    rw [rounds_succ]
    go_wp2_with fail
    go_ret
    exact ⟨_, rfl, by rw [← unhide fin]; exact ⟨[], rfl, hO, fun i hi => by simp [firstS] at hi⟩, B1⟩
  · rw [firstPl_length] at hca ⊢
    go_wp2_with fail
    go_loopg [3, 5] m (fun g s3 s5 wr => ∃ (k : Nat) (ss : List Value), Hid (g = m - k) ∧ s5 = .int .i64 k ∧ k ≤ m ∧ wr.ownsRow w.heap.size 24 1 s3 k ss ∧ Hid (ss.length = k) ∧ Hid (∀ j, j < k → Res wr w.heap.size (ss.getD j (.slice none 0 0)) (part v (M.iter v j 1))) ∧ OwnI wr ba (firstPl v 0 m) ∧ Below w.heap.size w wr)
    case atStart => exact ⟨0, [], rfl, rfl, by omega, hO, rfl, fun j hj => absurd hj (by omega), hoa, B1⟩
    case round =>
      clear hO hoa B1
      obtain ⟨k, ss, hg, rfl, hk, hown, hsl, hres, hoi, hbel⟩ := hrel
      by_cases hlt : k < m
      · have h1 := (unhide HIN) k hlt
        have h2 := unhide hend
        have fa := hoi.cell (i := k) (by rw [firstPl_length]; exact hlt)
        rw [firstPl_getD v 0 m k hlt] at fa
        simp only [Nat.zero_add] at fa h1
        have hp : M.iter v k 1 < v.length := by omega
        clear h1 h2
        obtain ⟨p, hpp⟩ : ∃ p, p = M.iter v k 1 := ⟨_, rfl⟩
        rw [← hpp] at fa hp
        have HPP := hide hpp
        clear hpp
        have hbr : b < wr.heap.size := Nat.lt_of_lt_of_le hb hbel.size
        go_wp2_with fail
        refine ((unhide HPT) p hp _ (hrow.below hbel hb) hbr).mono ?_
        rintro e w2 ⟨sp, rfl, hrp, hb2⟩
        have B2 : Below w.heap.size w w2 := hbel.trans (hb2.mono hbel.size)
        have hown2 := ownsRow_below (B := 0) hown hb2
        have hoi2 := hoi.below hb2 hoi.lt
        have hres2 := hide (fun j (hj : j < k) => (hres.out j hj).below hb2)
        have hrp2 : Res w2 w.heap.size sp (part v p) := hrp.mono hbel.size
        clear hown hoi hres hb2 hbel hrp fa
        obtain ⟨pa, pn, pc, hsp⟩ := hrp2.shape
        have HRP := hide hrp2
        clear hrp2
        have hnb := hide (other_block hown2 hoi2.choose_spec.1 (by decide))
        have hkeep := hide (fun (w' : World) o (hg' : (w2.alloc o).grownBy w' _) (s : Value) (l : List M.Cl) (h : Res w2 w.heap.size s l) => grown_res (hown2.alloc o) hg' (h.alloc o) (by decide))
        have hown3 := hide (fun o => hown2.alloc o)
        have hbse := hide (ownsRow_base hown2)
        have hone := hide (one_val w2 sp 24)
        have honep := hide (show ∀ u ∈ ([sp] : List Value), u.oneCell' = true by intro u hu; simp only [List.mem_cons, List.not_mem_nil, or_false] at hu; subst hu; rw [hsp]; rfl)
        have hb63 : k + 1 ≤ maxLen := by unfold maxLen; omega
        have hby : (k + 1) * 24 ≤ 140737488355328 := by omega
        have hbase : w.heap.size ≤ w2.heap.size + 1 := by have := B2.size; omega
        have HOI := hide hoi2
        clear hown2 hoi2
        subst hsp
        go_wp2_with (at_builtin; refine wpList_append_own _ rfl (.tmp 15) (.tmp 22) 44 rfl w.heap.size 24 i0 (.slice none 0 0) 1 24 Try.underlying44 hi hz0 hz1 hz2 rfl (by decide) _ k ss rfl ((unhide hown3) _) ⟨w2.heap.size, 0, none⟩ 1 1 [.slice pa pn pc] rfl rfl (unhide hone) (unhide honep) hb63 hby (by simpa using hbase) ?_)
        intro v' w3 ho3 hg3 _
        have B3 : Below w.heap.size w w3 := (B2.alloc B2.size _).grown hg3 (by simpa using hbase) (unhide hbse)
        have hoi3 : OwnI w3 ba (firstPl v 0 m) := by
          obtain ⟨ys, y1, y2⟩ := unhide HOI
          exact ⟨ys, grown_own hg3 (y1.alloc _) (unhide hnb), y2⟩
        have hres3 := hide (show ∀ j, j < k + 1 → Res w3 w.heap.size ((ss ++ [Value.slice pa pn pc]).getD j (.slice none 0 0)) (part v (M.iter v j 1)) by
          intro j hj
          have hl := hsl.out
          by_cases e : j = k
          · subst e
            rw [← unhide HPP, List.getD_eq_getElem?_getD, List.getElem?_append_right (by omega), hl, Nat.sub_self]
            exact (unhide hkeep) _ _ hg3 _ _ (unhide HRP)
          · rw [List.getD_eq_getElem?_getD, List.getElem?_append_left (by omega), ← List.getD_eq_getElem?_getD]
            exact (unhide hkeep) _ _ hg3 _ _ ((unhide hres2) j (by omega)))
        have HO3 := hide ho3
        clear ho3 hg3 B2
        go_wp2_with fail
        go_roundg (m - (k + 1))
        case rel => exact ⟨k + 1, _, rfl, by go_num, by omega, unhide HO3, (by show _ = _; rw [List.length_append, hsl.out]; rfl), unhide hres3, hoi3, B3⟩
        case measure => have := hg.out; omega
      · have hke : k = m := by omega
        subst hke
        have fin := hide (unhide hall)
        have hks : SS wr w.heap.size u3 (subs v 0) := by
          rw [← unhide fin]
          exact ⟨ss, by rw [firstS_length]; exact hsl.out, by rw [firstS_length]; exact hown, fun i hi => by rw [firstS_length] at hi; rw [firstS_getD v k i hi]; exact hres.out i hi⟩
        have HKS := hide hks
        have hsh : ∃ aa nn cc, u3 = Value.slice aa nn cc := by
          rcases hown.2 with ⟨h, _⟩ | ⟨_, _, _, h, _⟩
          · exact ⟨_, _, _, h⟩
          · exact ⟨_, _, _, h⟩
        obtain ⟨aa, nn, cc, hsh⟩ := hsh
        subst hsh
        clear hown hks hoi hres
        go_wp2_with fail
        go_ret
        exact ⟨_, rfl, unhide HKS, hbel⟩

end Go.Proofs.Ytlmibdddfjbbdaa
