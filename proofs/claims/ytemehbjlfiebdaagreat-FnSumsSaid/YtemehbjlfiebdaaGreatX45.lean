/-
  spec.l3Add.
-/
import Derived.Test.YtemehbjlfiebdaaGreatX41
import Derived.Test.YtemehbjlfiebdaaGreatX44
import Derived.Deep.RegionHeld
namespace Go.Proofs.YtemehbjlfiebdaaGreat
open Go.RowKit
set_option linter.unusedVariables false

theorem num_okc {n : Int} {c : M.Cl} (hc : c ∈ [numCl n]) (h0 : -9223372036854775808 ≤ n) (h1 : n ≤ 9223372036854775807) : c.ok := by
  simp only [List.mem_cons, List.not_mem_nil, or_false] at hc
  subst hc
  unfold numCl M.Cl.ok
  simp only
  exact ⟨by omega, by omega, by omega, by decide, by decide⟩
theorem str_okc {s : ByteArray} {c : M.Cl} (hc : c ∈ [strCl s]) (h1 : s.size ≤ 9223372036854775807) : c.ok := by
  simp only [List.mem_cons, List.not_mem_nil, or_false] at hc
  subst hc
  unfold strCl M.Cl.ok
  simp only
  exact ⟨by omega, by omega, by omega, h1, by decide⟩
set_option maxRecDepth 100000 in
set_option maxHeartbeats 8000000 in
theorem addSpec_nl (v : List M.Cl) (b off cap : Nat) (u : List M.Cl) (b' off' cap' : Nat) (w : World) (hv : M.valueFault v = 0) (hu : M.valueFault u = 0) (hrow : Row w b off v) (hb : b < w.heap.size) (hn : v.length ≤ 1048576) (hcap : v.length ≤ cap) (hok : ∀ c ∈ v, c.ok) (hrow' : Row w b' off' u) (hb' : b' < w.heap.size) (hn' : u.length ≤ 1048576) (hcap' : u.length ≤ cap') (hok' : ∀ c ∈ u, c.ok) (k0 : (v.getD 0 M.zero).kind = 0) :
    Calls Tryz.prog 51 #[.slice (some ⟨b, off, none⟩) v.length cap, .slice (some ⟨b', off', none⟩) u.length cap'] w (Ans w (addIn v u)) := by
  have hl1 := (M.fault_zero hv).1
  have hl1' := (M.fault_zero hu).1
  have hl2 := (M.fault_zero hv).2.1
  have hl2' := (M.fault_zero hu).2.1
  have B0 : ∀ o, Below w.heap.size w (w.alloc o) := fun o => (Below.refl _ _).alloc (Nat.le_refl _) o
  have HB0 := hide B0
  clear B0
  obtain ⟨w0, hw0⟩ : ∃ w0, w0 = w.alloc (.cells #[.int .i64 0, .slice none 0 0] 28) := ⟨_, rfl⟩
  have HR0 : Own w0 w.heap.size 28 [.int .i64 0, .slice none 0 0] := by rw [hw0]; exact ⟨_, heap_alloc_new _ _, rfl⟩
  have B00 : Below w.heap.size w w0 := by rw [hw0]; exact (unhide HB0) _
  have hs0 : w0.heap.size = w.heap.size + 1 := by rw [hw0]; simp
  obtain ⟨f0, f1, f2, _, _⟩ := (hrow.below B00 hb) 0 (by omega)
  obtain ⟨g0, g1, g2, _, _⟩ := (hrow'.below B00 hb') 0 (by omega)
  simp only [Nat.zero_mul, Nat.add_zero] at f0 f1 f2 g0 g1 g2
  have hcv := code_bd (M.first_zero (M.fault_zero hv).2.2.1 _ (getD_mem v 0 (by omega)))
  have hcu := code_bd (M.first_zero (M.fault_zero hu).2.2.1 _ (getD_mem u 0 (by omega)))
  have fin := hide (add_l (u := u) k0)
  clear hv hu hok hok' hcv hcu
  rw [k0] at f0
  clear k0
  obtain ⟨i0, hi, hz0, hz1, hz2⟩ := info_parts Tryz.info33
  have hnews := hide (fun o => row_words ((hrow'.below B00 hb').below ((Below.refl w0.heap.size w0).alloc (Nat.le_refl _) o) (Nat.lt_of_lt_of_le hb' B00.size)))
  have hone := hide (flat_one u)
  have HFL := hide (flat_length u)
  have hoe := hide (owns_empty5 w0 33)
  have hb63 : 0 + u.length ≤ maxLen := by unfold maxLen; omega
  have hby : (0 + u.length) * 56 ≤ 140737488355328 := by omega
  rw [hs0] at hoe
  rw [hw0] at f0 f1 f2 g0 g1 g2 hnews hoe
  go_enter Tryz.func51, Tryz.ntmps51
  go_wp2_with (at_builtin; refine wpList_append_own _ rfl (.tmp 10) (.tmp 11) 24 rfl (w.heap.size + 1) 33 i0 _ 5 56 Tryz.underlying24 hi hz0 hz1 hz2 rfl (by decide) _ 0 [] rfl (unhide hoe) ⟨b', off', none⟩ u.length cap' (flat u) rfl (unhide HFL) ((unhide hnews) _) (unhide hone) hb63 hby (by simp <;> omega) ?_)
  intro v' w' ho hg _
  have hB0 : Below (w.heap.size + 1) (w.alloc (.cells #[.int .i64 0, .slice none 0 0] 28)) w' := ((Below.refl (w.heap.size + 1) (w.alloc (.cells #[.int .i64 0, .slice none 0 0] 28))).alloc (by simp) _).grown hg (by simp <;> omega) (fun q hq => by simp only [Value.ownBlock, Option.some.injEq] at hq; omega)
  have hB : Below w.heap.size w w' := ((unhide HB0) _).trans (hB0.mono (by omega))
  have hr : Res w' (w.heap.size + 1) v' u := res_of_owns (l := u) (by simpa using ho) (by omega)
  have hR2 : Own w' w.heap.size 28 [.int .i64 0, .slice none 0 0] := Own.below ⟨_, heap_alloc_new _ _, rfl⟩ hB0 (by omega)
  have r0 := hR2.cell 0
  have r1 := hR2.cell 1
  have z0 := hR2.frozen 0
  have z1 := hR2.frozen 1
  simp only [List.getElem?_cons_zero, List.getElem?_cons_succ] at r0 r1
  have HE := hide (Ans.storeC hr (by omega) hB)
  obtain ⟨ac, mc, cc, hsh⟩ := hr.shape
  subst hsh
  clear ho hg hr f0 f1 f2 g0 g1 g2 hB0
  go_wp2_with fail
  refine bodyPost_ret (v := .agg #[.int .i64 0, .slice ac mc cc]) (by simp [results, Tryz.results51, go_sem, r0, r1]) rfl (ans_of (unhide fin) ((unhide HE) _ _).1 ((unhide HE) _ _).2)

set_option maxRecDepth 100000 in
set_option maxHeartbeats 8000000 in
theorem addSpec_nr (v : List M.Cl) (b off cap : Nat) (u : List M.Cl) (b' off' cap' : Nat) (w : World) (hv : M.valueFault v = 0) (hu : M.valueFault u = 0) (hrow : Row w b off v) (hb : b < w.heap.size) (hn : v.length ≤ 1048576) (hcap : v.length ≤ cap) (hok : ∀ c ∈ v, c.ok) (hrow' : Row w b' off' u) (hb' : b' < w.heap.size) (hn' : u.length ≤ 1048576) (hcap' : u.length ≤ cap') (hok' : ∀ c ∈ u, c.ok) (k0 : (v.getD 0 M.zero).kind ≠ 0) (k1 : (u.getD 0 M.zero).kind = 0) :
    Calls Tryz.prog 51 #[.slice (some ⟨b, off, none⟩) v.length cap, .slice (some ⟨b', off', none⟩) u.length cap'] w (Ans w (addIn v u)) := by
  have hl1 := (M.fault_zero hv).1
  have hl1' := (M.fault_zero hu).1
  have hl2 := (M.fault_zero hv).2.1
  have hl2' := (M.fault_zero hu).2.1
  have B0 : ∀ o, Below w.heap.size w (w.alloc o) := fun o => (Below.refl _ _).alloc (Nat.le_refl _) o
  have HB0 := hide B0
  clear B0
  obtain ⟨w0, hw0⟩ : ∃ w0, w0 = w.alloc (.cells #[.int .i64 0, .slice none 0 0] 28) := ⟨_, rfl⟩
  have HR0 : Own w0 w.heap.size 28 [.int .i64 0, .slice none 0 0] := by rw [hw0]; exact ⟨_, heap_alloc_new _ _, rfl⟩
  have B00 : Below w.heap.size w w0 := by rw [hw0]; exact (unhide HB0) _
  have hs0 : w0.heap.size = w.heap.size + 1 := by rw [hw0]; simp
  obtain ⟨f0, f1, f2, _, _⟩ := (hrow.below B00 hb) 0 (by omega)
  obtain ⟨g0, g1, g2, _, _⟩ := (hrow'.below B00 hb') 0 (by omega)
  simp only [Nat.zero_mul, Nat.add_zero] at f0 f1 f2 g0 g1 g2
  have hcv := code_bd (M.first_zero (M.fault_zero hv).2.2.1 _ (getD_mem v 0 (by omega)))
  have hcu := code_bd (M.first_zero (M.fault_zero hu).2.2.1 _ (getD_mem u 0 (by omega)))
  have fin := hide (add_r k0 k1)
  clear hv hu hok hok' hcv hcu
  rw [k1] at g0
  generalize v.getD 0 M.zero = c at *
  have e0 : (c.kind == 0) = false := by simp [k0]
  clear k0 k1
  obtain ⟨i0, hi, hz0, hz1, hz2⟩ := info_parts Tryz.info33
  have hnews := hide (fun o => row_words ((hrow.below B00 hb).below ((Below.refl w0.heap.size w0).alloc (Nat.le_refl _) o) (Nat.lt_of_lt_of_le hb B00.size)))
  have hone := hide (flat_one v)
  have HFL := hide (flat_length v)
  have hoe := hide (owns_empty5 w0 33)
  have hb63 : 0 + v.length ≤ maxLen := by unfold maxLen; omega
  have hby : (0 + v.length) * 56 ≤ 140737488355328 := by omega
  rw [hs0] at hoe
  rw [hw0] at f0 f1 f2 g0 g1 g2 hnews hoe
  go_enter Tryz.func51, Tryz.ntmps51
  go_wp2_with (at_builtin; refine wpList_append_own _ rfl (.tmp 19) (.tmp 20) 24 rfl (w.heap.size + 1) 33 i0 _ 5 56 Tryz.underlying24 hi hz0 hz1 hz2 rfl (by decide) _ 0 [] rfl (unhide hoe) ⟨b, off, none⟩ v.length cap (flat v) rfl (unhide HFL) ((unhide hnews) _) (unhide hone) hb63 hby (by simp <;> omega) ?_)
  intro v' w' ho hg _
  have hB0 : Below (w.heap.size + 1) (w.alloc (.cells #[.int .i64 0, .slice none 0 0] 28)) w' := ((Below.refl (w.heap.size + 1) (w.alloc (.cells #[.int .i64 0, .slice none 0 0] 28))).alloc (by simp) _).grown hg (by simp <;> omega) (fun q hq => by simp only [Value.ownBlock, Option.some.injEq] at hq; omega)
  have hB : Below w.heap.size w w' := ((unhide HB0) _).trans (hB0.mono (by omega))
  have hr : Res w' (w.heap.size + 1) v' v := res_of_owns (l := v) (by simpa using ho) (by omega)
  have hR2 : Own w' w.heap.size 28 [.int .i64 0, .slice none 0 0] := Own.below ⟨_, heap_alloc_new _ _, rfl⟩ hB0 (by omega)
  have r0 := hR2.cell 0
  have r1 := hR2.cell 1
  have z0 := hR2.frozen 0
  have z1 := hR2.frozen 1
  simp only [List.getElem?_cons_zero, List.getElem?_cons_succ] at r0 r1
  have HE := hide (Ans.storeC hr (by omega) hB)
  obtain ⟨ac, mc, cc, hsh⟩ := hr.shape
  subst hsh
  clear ho hg hr f0 f1 f2 g0 g1 g2 hB0
  go_wp2_with fail
  refine bodyPost_ret (v := .agg #[.int .i64 0, .slice ac mc cc]) (by simp [results, Tryz.results51, go_sem, r0, r1]) rfl (ans_of (unhide fin) ((unhide HE) _ _).1 ((unhide HE) _ _).2)

set_option maxRecDepth 100000 in
set_option maxHeartbeats 8000000 in
theorem addSpec_no (v : List M.Cl) (b off cap : Nat) (u : List M.Cl) (b' off' cap' : Nat) (w : World) (hv : M.valueFault v = 0) (hu : M.valueFault u = 0) (hrow : Row w b off v) (hb : b < w.heap.size) (hn : v.length ≤ 1048576) (hcap : v.length ≤ cap) (hok : ∀ c ∈ v, c.ok) (hrow' : Row w b' off' u) (hb' : b' < w.heap.size) (hn' : u.length ≤ 1048576) (hcap' : u.length ≤ cap') (hok' : ∀ c ∈ u, c.ok) (k0 : (v.getD 0 M.zero).kind ≠ 0) (k1 : (u.getD 0 M.zero).kind ≠ 0) (hno : (v.getD 0 M.zero).kind ≠ (u.getD 0 M.zero).kind ∨ (v.getD 0 M.zero).kind = 1 ∨ (v.getD 0 M.zero).kind = 2) :
    Calls Tryz.prog 51 #[.slice (some ⟨b, off, none⟩) v.length cap, .slice (some ⟨b', off', none⟩) u.length cap'] w (Ans w (addIn v u)) := by
  have hl1 := (M.fault_zero hv).1
  have hl1' := (M.fault_zero hu).1
  have hl2 := (M.fault_zero hv).2.1
  have hl2' := (M.fault_zero hu).2.1
  have B0 : ∀ o, Below w.heap.size w (w.alloc o) := fun o => (Below.refl _ _).alloc (Nat.le_refl _) o
  have HB0 := hide B0
  clear B0
  obtain ⟨w0, hw0⟩ : ∃ w0, w0 = w.alloc (.cells #[.int .i64 0, .slice none 0 0] 28) := ⟨_, rfl⟩
  have HR0 : Own w0 w.heap.size 28 [.int .i64 0, .slice none 0 0] := by rw [hw0]; exact ⟨_, heap_alloc_new _ _, rfl⟩
  have B00 : Below w.heap.size w w0 := by rw [hw0]; exact (unhide HB0) _
  have hs0 : w0.heap.size = w.heap.size + 1 := by rw [hw0]; simp
  obtain ⟨f0, f1, f2, _, _⟩ := (hrow.below B00 hb) 0 (by omega)
  obtain ⟨g0, g1, g2, _, _⟩ := (hrow'.below B00 hb') 0 (by omega)
  simp only [Nat.zero_mul, Nat.add_zero] at f0 f1 f2 g0 g1 g2
  have hcv := code_bd (M.first_zero (M.fault_zero hv).2.2.1 _ (getD_mem v 0 (by omega)))
  have hcu := code_bd (M.first_zero (M.fault_zero hu).2.2.1 _ (getD_mem u 0 (by omega)))
  have fin := hide (show addIn v u = (6, []) by
    by_cases e : (v.getD 0 M.zero).kind = (u.getD 0 M.zero).kind
    · exact add_b e k0 (by omega) (by omega) (by omega) (by omega)
    · exact add_k k0 k1 e)
  clear hv hu hok hok' hcv hcu
  generalize v.getD 0 M.zero = c at *
  generalize u.getD 0 M.zero = d at *
  have e0 : (c.kind == 0) = false := by simp [k0]
  have e1 : (d.kind == 0) = false := by simp [k1]
  rw [hw0] at f0 f1 f2 g0 g1 g2
  by_cases hne : c.kind = d.kind
  · have n1 : (c.kind != d.kind) = false := by simp [hne]
    have e3 : (c.kind == 3) = false := by simp; omega
    have e4 : (c.kind == 4) = false := by simp; omega
    have e5 : (c.kind == 5) = false := by simp; omega
    have e6 : (c.kind == 6) = false := by simp; omega
    clear hne hno k0 k1
    have f0q := fun q => show ((w.alloc (.cells #[.int .i64 0, .slice none 0 0] 28)).drewN q).cell? ⟨b, off, none⟩ = some (.int .i64 c.kind) from f0
    have g0q := fun q => show ((w.alloc (.cells #[.int .i64 0, .slice none 0 0] 28)).drewN q).cell? ⟨b', off', none⟩ = some (.int .i64 d.kind) from g0
    go_enter Tryz.func51, Tryz.ntmps51
    go_wp2_with fail
    go_quiet (fail)
    obtain ⟨w9, hw9⟩ : ∃ w9, w9 = (w.alloc (.cells #[.int .i64 0, .slice none 0 0] 28)).drewN nq := ⟨_, rfl⟩
    have HR9 : Own w9 w.heap.size 28 [.int .i64 0, .slice none 0 0] := by rw [hw9, ← hw0]; exact HR0
    have B09 : Below w.heap.size w w9 := by rw [hw9, ← hw0]; exact below_drewN B00 nq
    have hs9 : w9.heap.size = w.heap.size + 1 := by rw [hw9, ← hw0]; exact hs0
    have f09 : w9.cell? ⟨b, off, none⟩ = some (.int .i64 c.kind) := by rw [hw9]; exact f0
    rw [← hw9]
    clear hw9 hw0 f0 f1 f2 g0 g1 g2 f0q g0q HR0 B00 hs0 hs9
    go_wp2_with fail
    refine (l3Bad_any _ _).mono ?_
    rintro ec wc ⟨sc, rfl, hrc, hbc⟩
    have hRc := HR9.below hbc HR9.lt
    have r0 := hRc.cell 0
    have r1 := hRc.cell 1
    have z0 := hRc.frozen 0
    have z1 := hRc.frozen 1
    simp only [List.getElem?_cons_zero, List.getElem?_cons_succ] at r0 r1
    have HE := hide (Ans.store hrc B09 HR9.lt hbc)
    obtain ⟨ac, mc, cc, rfl⟩ := hrc.shape
    clear hrc hbc
    go_wp2_with fail
    refine bodyPost_ret (v := .agg #[.int .i64 6, .slice ac mc cc]) (by simp [results, Tryz.results51, go_sem, r0, r1]) rfl (ans_of (unhide fin) ((unhide HE) _ _).1 ((unhide HE) _ _).2)
  · have n1 : (c.kind != d.kind) = true := by simp [hne]
    clear hne hno k0 k1
    have f0q := fun q => show ((w.alloc (.cells #[.int .i64 0, .slice none 0 0] 28)).drewN q).cell? ⟨b, off, none⟩ = some (.int .i64 c.kind) from f0
    have g0q := fun q => show ((w.alloc (.cells #[.int .i64 0, .slice none 0 0] 28)).drewN q).cell? ⟨b', off', none⟩ = some (.int .i64 d.kind) from g0
    go_enter Tryz.func51, Tryz.ntmps51
    go_wp2_with fail
    go_quiet (fail)
    obtain ⟨w9, hw9⟩ : ∃ w9, w9 = (w.alloc (.cells #[.int .i64 0, .slice none 0 0] 28)).drewN nq := ⟨_, rfl⟩
    have HR9 : Own w9 w.heap.size 28 [.int .i64 0, .slice none 0 0] := by rw [hw9, ← hw0]; exact HR0
    have B09 : Below w.heap.size w w9 := by rw [hw9, ← hw0]; exact below_drewN B00 nq
    have hs9 : w9.heap.size = w.heap.size + 1 := by rw [hw9, ← hw0]; exact hs0
    have f09 : w9.cell? ⟨b, off, none⟩ = some (.int .i64 c.kind) := by rw [hw9]; exact f0
    rw [← hw9]
    clear hw9 hw0 f0 f1 f2 g0 g1 g2 f0q g0q HR0 B00 hs0 hs9
    go_wp2_with fail
    refine (l3Bad_any _ _).mono ?_
    rintro ec wc ⟨sc, rfl, hrc, hbc⟩
    have hRc := HR9.below hbc HR9.lt
    have r0 := hRc.cell 0
    have r1 := hRc.cell 1
    have z0 := hRc.frozen 0
    have z1 := hRc.frozen 1
    simp only [List.getElem?_cons_zero, List.getElem?_cons_succ] at r0 r1
    have HE := hide (Ans.store hrc B09 HR9.lt hbc)
    obtain ⟨ac, mc, cc, rfl⟩ := hrc.shape
    clear hrc hbc
    go_wp2_with fail
    refine bodyPost_ret (v := .agg #[.int .i64 6, .slice ac mc cc]) (by simp [results, Tryz.results51, go_sem, r0, r1]) rfl (ans_of (unhide fin) ((unhide HE) _ _).1 ((unhide HE) _ _).2)

set_option maxRecDepth 100000 in
set_option maxHeartbeats 8000000 in
theorem addSpec_num (v : List M.Cl) (b off cap : Nat) (u : List M.Cl) (b' off' cap' : Nat) (w : World) (hv : M.valueFault v = 0) (hu : M.valueFault u = 0) (hrow : Row w b off v) (hb : b < w.heap.size) (hn : v.length ≤ 1048576) (hcap : v.length ≤ cap) (hok : ∀ c ∈ v, c.ok) (hrow' : Row w b' off' u) (hb' : b' < w.heap.size) (hn' : u.length ≤ 1048576) (hcap' : u.length ≤ cap') (hok' : ∀ c ∈ u, c.ok) (k3 : (v.getD 0 M.zero).kind = 3) (k3' : (u.getD 0 M.zero).kind = 3) :
    Calls Tryz.prog 51 #[.slice (some ⟨b, off, none⟩) v.length cap, .slice (some ⟨b', off', none⟩) u.length cap'] w (Ans w (addIn v u)) := by
  have hl1 := (M.fault_zero hv).1
  have hl1' := (M.fault_zero hu).1
  have hl2 := (M.fault_zero hv).2.1
  have hl2' := (M.fault_zero hu).2.1
  have B0 : ∀ o, Below w.heap.size w (w.alloc o) := fun o => (Below.refl _ _).alloc (Nat.le_refl _) o
  have HB0 := hide B0
  clear B0
  obtain ⟨w0, hw0⟩ : ∃ w0, w0 = w.alloc (.cells #[.int .i64 0, .slice none 0 0] 28) := ⟨_, rfl⟩
  have HR0 : Own w0 w.heap.size 28 [.int .i64 0, .slice none 0 0] := by rw [hw0]; exact ⟨_, heap_alloc_new _ _, rfl⟩
  have B00 : Below w.heap.size w w0 := by rw [hw0]; exact (unhide HB0) _
  have hs0 : w0.heap.size = w.heap.size + 1 := by rw [hw0]; simp
  obtain ⟨f0, f1, f2, _, _⟩ := (hrow.below B00 hb) 0 (by omega)
  obtain ⟨g0, g1, g2, _, _⟩ := (hrow'.below B00 hb') 0 (by omega)
  simp only [Nat.zero_mul, Nat.add_zero] at f0 f1 f2 g0 g1 g2
  have hcv := code_bd (M.first_zero (M.fault_zero hv).2.2.1 _ (getD_mem v 0 (by omega)))
  have hcu := code_bd (M.first_zero (M.fault_zero hu).2.2.1 _ (getD_mem u 0 (by omega)))
  have fin := hide ((add_3 k3 k3').trans (told_num _))
  rw [k3] at f0
  rw [k3'] at g0
  obtain ⟨_, _, x1, x2, _, _, x3, _⟩ := hcv
  obtain ⟨_, _, y1, y2, _, _, y3, _⟩ := hcu
  have x4 := textOk_size x3
  have y4 := textOk_size y3
  clear hv hu hok hok' k3 k3' x3 y3
  generalize v.getD 0 M.zero = c at *
  generalize u.getD 0 M.zero = d at *
  have hwrp : IntKind.i64.wrap (c.num + d.num) = c.num + d.num := IntWalk.i64_in _ ⟨by omega, by omega⟩
  have HSZ := hide (show (c.text ++ d.text).size = c.text.size + d.text.size by simp)
  rw [hw0] at f0 f1 f2 g0 g1 g2
  have f0q := fun q => show ((w.alloc (.cells #[.int .i64 0, .slice none 0 0] 28)).drewN q).cell? ⟨b, off, none⟩ = some (.int .i64 3) from f0
  have g0q := fun q => show ((w.alloc (.cells #[.int .i64 0, .slice none 0 0] 28)).drewN q).cell? ⟨b', off', none⟩ = some (.int .i64 3) from g0
  go_enter Tryz.func51, Tryz.ntmps51
  go_wp2_with fail
  go_quiet (fail)
  obtain ⟨w9, hw9⟩ : ∃ w9, w9 = (w.alloc (.cells #[.int .i64 0, .slice none 0 0] 28)).drewN nq := ⟨_, rfl⟩
  have HR9 : Own w9 w.heap.size 28 [.int .i64 0, .slice none 0 0] := by rw [hw9, ← hw0]; exact HR0
  have B09 : Below w.heap.size w w9 := by rw [hw9, ← hw0]; exact below_drewN B00 nq
  have hs9 : w9.heap.size = w.heap.size + 1 := by rw [hw9, ← hw0]; exact hs0
  have f09 : w9.cell? ⟨b, off, none⟩ = some (.int .i64 3) := by rw [hw9]; exact f0
  have f19 : w9.cell? ⟨b, off + 1, none⟩ = some (.int .i64 c.num) := by rw [hw9]; exact f1
  have g19 : w9.cell? ⟨b', off' + 1, none⟩ = some (.int .i64 d.num) := by rw [hw9]; exact g1
  rw [← hw9]
  clear hw9 hw0 f0 f1 f2 g0 g1 g2 f0q g0q HR0 B00 hs0 hs9
  generalize hR2 : numOut (c.num + d.num) = R at *
  obtain ⟨rc, rl⟩ := R
  have HR2 := hide hR2
  clear hR2
  go_wp2_with fail
  go_region_with (first | (go_at_call 16; skip; refine (l1Number_any _ _).mono ?_; rintro e1 w1 ⟨s1, rfl, hr1, hb1⟩; have hR1 := HR9.drew.below hb1 HR9.drew.lt; have hsz1 := hb1.size; have hb1' := hb1; have HT := hide (specTold_any s1 _ [numCl (c.num + d.num)] w1 hr1 hb1.size (by simp) (by simp) (fun c hc => num_okc hc (by omega) (by omega))); rw [told_num] at HT; obtain ⟨a1, m1, c1, rfl⟩ := hr1.shape; rw [unhide HR2] at HT) | (go_at_call 73; refine (unhide HT).mono ?_; rintro e7 w7 ⟨s7, rfl, hr7, hb7⟩; have hR7 := hR1.below hb7 hR1.lt; have r0 := hR7.cell 0; have r1 := hR7.cell 1; have z0 := hR7.frozen 0; have z1 := hR7.frozen 1; simp only [List.getElem?_cons_zero, List.getElem?_cons_succ] at r0 r1; have HE := hide (Ans.storeC hr7 (show w.heap.size < _ from by exact HR9.lt) ((B09.drew.trans (hb1'.mono (by exact B09.size))).trans (hb7.mono (by have := B09.size; have := hb1'.size; exact Nat.le_trans B09.size hb1'.size)))); obtain ⟨ac, mc, cc, rfl⟩ := hr7.shape))
  all_goals
    go_wp2_with fail
    refine bodyPost_ret (v := .agg #[.int .i64 rc, .slice ac mc cc]) (by simp [results, Tryz.results51, go_sem, r0, r1]) rfl (ans_of (unhide fin) ((unhide HE) _ _).1 ((unhide HE) _ _).2)

set_option maxRecDepth 100000 in
set_option maxHeartbeats 8000000 in
theorem addSpec_str (v : List M.Cl) (b off cap : Nat) (u : List M.Cl) (b' off' cap' : Nat) (w : World) (hv : M.valueFault v = 0) (hu : M.valueFault u = 0) (hrow : Row w b off v) (hb : b < w.heap.size) (hn : v.length ≤ 1048576) (hcap : v.length ≤ cap) (hok : ∀ c ∈ v, c.ok) (hrow' : Row w b' off' u) (hb' : b' < w.heap.size) (hn' : u.length ≤ 1048576) (hcap' : u.length ≤ cap') (hok' : ∀ c ∈ u, c.ok) (k3 : (v.getD 0 M.zero).kind = 4) (k3' : (u.getD 0 M.zero).kind = 4) :
    Calls Tryz.prog 51 #[.slice (some ⟨b, off, none⟩) v.length cap, .slice (some ⟨b', off', none⟩) u.length cap'] w (Ans w (addIn v u)) := by
  have hl1 := (M.fault_zero hv).1
  have hl1' := (M.fault_zero hu).1
  have hl2 := (M.fault_zero hv).2.1
  have hl2' := (M.fault_zero hu).2.1
  have B0 : ∀ o, Below w.heap.size w (w.alloc o) := fun o => (Below.refl _ _).alloc (Nat.le_refl _) o
  have HB0 := hide B0
  clear B0
  obtain ⟨w0, hw0⟩ : ∃ w0, w0 = w.alloc (.cells #[.int .i64 0, .slice none 0 0] 28) := ⟨_, rfl⟩
  have HR0 : Own w0 w.heap.size 28 [.int .i64 0, .slice none 0 0] := by rw [hw0]; exact ⟨_, heap_alloc_new _ _, rfl⟩
  have B00 : Below w.heap.size w w0 := by rw [hw0]; exact (unhide HB0) _
  have hs0 : w0.heap.size = w.heap.size + 1 := by rw [hw0]; simp
  obtain ⟨f0, f1, f2, _, _⟩ := (hrow.below B00 hb) 0 (by omega)
  obtain ⟨g0, g1, g2, _, _⟩ := (hrow'.below B00 hb') 0 (by omega)
  simp only [Nat.zero_mul, Nat.add_zero] at f0 f1 f2 g0 g1 g2
  have hcv := code_bd (M.first_zero (M.fault_zero hv).2.2.1 _ (getD_mem v 0 (by omega)))
  have hcu := code_bd (M.first_zero (M.fault_zero hu).2.2.1 _ (getD_mem u 0 (by omega)))
  have fin := hide ((add_4 k3 k3').trans (told_str _))
  rw [k3] at f0
  rw [k3'] at g0
  obtain ⟨_, _, x1, x2, _, _, x3, _⟩ := hcv
  obtain ⟨_, _, y1, y2, _, _, y3, _⟩ := hcu
  have x4 := textOk_size x3
  have y4 := textOk_size y3
  clear hv hu hok hok' k3 k3' x3 y3
  generalize v.getD 0 M.zero = c at *
  generalize u.getD 0 M.zero = d at *
  have hwrp : IntKind.i64.wrap (c.num + d.num) = c.num + d.num := IntWalk.i64_in _ ⟨by omega, by omega⟩
  have HSZ := hide (show (c.text ++ d.text).size = c.text.size + d.text.size by simp)
  rw [hw0] at f0 f1 f2 g0 g1 g2
  have f0q := fun q => show ((w.alloc (.cells #[.int .i64 0, .slice none 0 0] 28)).drewN q).cell? ⟨b, off, none⟩ = some (.int .i64 4) from f0
  have g0q := fun q => show ((w.alloc (.cells #[.int .i64 0, .slice none 0 0] 28)).drewN q).cell? ⟨b', off', none⟩ = some (.int .i64 4) from g0
  go_enter Tryz.func51, Tryz.ntmps51
  go_wp2_with fail
  go_quiet (fail)
  obtain ⟨w9, hw9⟩ : ∃ w9, w9 = (w.alloc (.cells #[.int .i64 0, .slice none 0 0] 28)).drewN nq := ⟨_, rfl⟩
  have HR9 : Own w9 w.heap.size 28 [.int .i64 0, .slice none 0 0] := by rw [hw9, ← hw0]; exact HR0
  have B09 : Below w.heap.size w w9 := by rw [hw9, ← hw0]; exact below_drewN B00 nq
  have hs9 : w9.heap.size = w.heap.size + 1 := by rw [hw9, ← hw0]; exact hs0
  have f09 : w9.cell? ⟨b, off, none⟩ = some (.int .i64 4) := by rw [hw9]; exact f0
  have f19 : w9.cell? ⟨b, off + 2, none⟩ = some (.string c.text) := by rw [hw9]; exact f2
  have g19 : w9.cell? ⟨b', off' + 2, none⟩ = some (.string d.text) := by rw [hw9]; exact g2
  rw [← hw9]
  clear hw9 hw0 f0 f1 f2 g0 g1 g2 f0q g0q HR0 B00 hs0 hs9
  generalize hR2 : strOut (c.text ++ d.text) = R at *
  obtain ⟨rc, rl⟩ := R
  have HR2 := hide hR2
  clear hR2
  go_wp2_with fail
  go_region_with (first | (go_at_call 30; skip; refine (l1String_any _ _).mono ?_; rintro e1 w1 ⟨s1, rfl, hr1, hb1⟩; have hR1 := HR9.drew.below hb1 HR9.drew.lt; have hsz1 := hb1.size; have hb1' := hb1; have HT := hide (specTold_any s1 _ [strCl (c.text ++ d.text)] w1 hr1 hb1.size (by simp) (by simp) (fun c hc => str_okc hc (by rw [unhide HSZ]; omega))); rw [told_str] at HT; obtain ⟨a1, m1, c1, rfl⟩ := hr1.shape; rw [unhide HR2] at HT) | (go_at_call 73; refine (unhide HT).mono ?_; rintro e7 w7 ⟨s7, rfl, hr7, hb7⟩; have hR7 := hR1.below hb7 hR1.lt; have r0 := hR7.cell 0; have r1 := hR7.cell 1; have z0 := hR7.frozen 0; have z1 := hR7.frozen 1; simp only [List.getElem?_cons_zero, List.getElem?_cons_succ] at r0 r1; have HE := hide (Ans.storeC hr7 (show w.heap.size < _ from by exact HR9.lt) ((B09.drew.trans (hb1'.mono (by exact B09.size))).trans (hb7.mono (by have := B09.size; have := hb1'.size; exact Nat.le_trans B09.size hb1'.size)))); obtain ⟨ac, mc, cc, rfl⟩ := hr7.shape))
  all_goals
    go_wp2_with fail
    refine bodyPost_ret (v := .agg #[.int .i64 rc, .slice ac mc cc]) (by simp [results, Tryz.results51, go_sem, r0, r1]) rfl (ans_of (unhide fin) ((unhide HE) _ _).1 ((unhide HE) _ _).2)

set_option maxHeartbeats 1000000 in
theorem l3Add_any (v : List M.Cl) (b off cap : Nat) (u : List M.Cl) (b' off' cap' : Nat) (w : World) (hv : M.valueFault v = 0) (hu : M.valueFault u = 0) (hrow : Row w b off v) (hb : b < w.heap.size) (hn : v.length ≤ 1048576) (hcap : v.length ≤ cap) (hok : ∀ c ∈ v, c.ok) (hrow' : Row w b' off' u) (hb' : b' < w.heap.size) (hn' : u.length ≤ 1048576) (hcap' : u.length ≤ cap') (hok' : ∀ c ∈ u, c.ok) :
    Calls Tryz.prog 51 #[.slice (some ⟨b, off, none⟩) v.length cap, .slice (some ⟨b', off', none⟩) u.length cap'] w (Ans w (addIn v u)) := by
  by_cases k0 : (v.getD 0 M.zero).kind = 0
  · exact addSpec_nl v b off cap u b' off' cap' w hv hu hrow hb hn hcap hok hrow' hb' hn' hcap' hok' k0
  by_cases k1 : (u.getD 0 M.zero).kind = 0
  · exact addSpec_nr v b off cap u b' off' cap' w hv hu hrow hb hn hcap hok hrow' hb' hn' hcap' hok' k0 k1
  by_cases hno : (v.getD 0 M.zero).kind ≠ (u.getD 0 M.zero).kind ∨ (v.getD 0 M.zero).kind = 1 ∨ (v.getD 0 M.zero).kind = 2
  · exact addSpec_no v b off cap u b' off' cap' w hv hu hrow hb hn hcap hok hrow' hb' hn' hcap' hok' k0 k1 hno
  have hl1 := (M.fault_zero hv).1
  have hcv := code_bd (M.first_zero (M.fault_zero hv).2.2.1 _ (getD_mem v 0 (by omega)))
  by_cases k3 : (v.getD 0 M.zero).kind = 3
  · exact addSpec_num v b off cap u b' off' cap' w hv hu hrow hb hn hcap hok hrow' hb' hn' hcap' hok' k3 (by omega)
  by_cases k4 : (v.getD 0 M.zero).kind = 4
  · exact addSpec_str v b off cap u b' off' cap' w hv hu hrow hb hn hcap hok hrow' hb' hn' hcap' hok' k4 (by omega)
  by_cases k5 : (v.getD 0 M.zero).kind = 5
  · exact addSpec_arr v b off cap u b' off' cap' w hv hu hrow hb hn hcap hok hrow' hb' hn' hcap' hok' k5 (by omega)
  · exact addSpec_obj v b off cap u b' off' cap' w hv hu hrow hb hn hcap hok hrow' hb' hn' hcap' hok' (by omega) (by omega)

end Go.Proofs.YtemehbjlfiebdaaGreat
