/-
  spec.TypeOf and impl.TypeOf.
-/
import Derived.Test.YtjoghcolfehkcaaOneC
import Derived.Test.YtjoghcolfehkcaaGet0
namespace Go.Proofs.Ytjoghcolfehkcaa
open Go.RowKit
set_option linter.unusedVariables false

/-- The name of a kind. -/
def typN (k : Int) : ByteArray := if k = 0 then ⟨#[110, 117, 108, 108]⟩ else if k = 1 ∨ k = 2 then ⟨#[98, 111, 111, 108, 101, 97, 110]⟩ else if k = 3 then ⟨#[110, 117, 109, 98, 101, 114]⟩ else if k = 4 then ⟨#[115, 116, 114, 105, 110, 103]⟩ else if k = 5 then ⟨#[97, 114, 114, 97, 121]⟩ else ⟨#[111, 98, 106, 101, 99, 116]⟩
def typIn (c : M.Cl) : Int × List M.Cl := (0, [⟨4, 0, typN c.kind, ByteArray.empty, 0⟩])
def typOut (v : List M.Cl) : Int × List M.Cl := if M.valueFault v ≠ 0 then (M.valueFault v, []) else typIn (v.getD 0 M.zero)
theorem typ_bad {v : List M.Cl} (h : M.valueFault v ≠ 0) : typOut v = (M.valueFault v, []) := if_pos h
theorem typ_ok {v : List M.Cl} (h : M.valueFault v = 0) : typOut v = typIn (v.getD 0 M.zero) := by unfold typOut; rw [if_neg (by simp [h])]
theorem kind_bd {v : List M.Cl} (hv : M.valueFault v = 0) : 0 ≤ (v.getD 0 M.zero).kind ∧ (v.getD 0 M.zero).kind ≤ 6 := by
  have hl1 := (M.fault_zero hv).1
  have h := M.first_zero (M.fault_zero hv).2.2.1 _ (getD_mem v 0 (by omega))
  unfold M.cellCode at h
  split at h
  · cases h
  · omega

set_option maxHeartbeats 2000000 in
theorem l3Type_any (v : List M.Cl) (b off cap : Nat) (w : World) (hv : M.valueFault v = 0) (hrow : Row w b off v) (hb : b < w.heap.size) (hcap : v.length ≤ cap) (hok : ∀ c ∈ v, c.ok) :
    Calls Try.prog 91 #[.slice (some ⟨b, off, none⟩) v.length cap] w (Ans w (typIn (v.getD 0 M.zero))) := by
  have hl1 := (M.fault_zero hv).1
  obtain ⟨c0, c1⟩ := kind_bd hv
  have B0 : ∀ o, Below w.heap.size w (w.alloc o) := fun o => (Below.refl _ _).alloc (Nat.le_refl _) o
  have HB0 := hide B0
  clear B0
  have hR0 : Own (w.alloc (.cells #[.int .i64 0, .slice none 0 0] 26)) w.heap.size 26 [.int .i64 0, .slice none 0 0] := ⟨_, heap_alloc_new _ _, rfl⟩
  have HR0 := hide hR0
  clear hR0
  obtain ⟨q0, _, _, _, _⟩ := hrow 0 (by omega)
  simp only [Nat.zero_mul, Nat.add_zero] at q0
  generalize v.getD 0 M.zero = c at *
  have f0 : ∀ o o', ((w.alloc o).alloc o').cell? ⟨b, off, none⟩ = some (.int .i64 c.kind) := fun o o' => ((((unhide HB0) o).alloc (by simp) o').cell hb).trans q0
  clear q0 hv hok hrow
  by_cases k0 : c.kind = 0
  · have fin := hide (show typIn c = (0, [⟨4, 0, ⟨#[110, 117, 108, 108]⟩, ByteArray.empty, 0⟩]) by unfold typIn typN; rw [k0]; rfl)
    rw [k0] at f0
    clear k0
    go_enter Try.func91, Try.ntmps91
    go_wp2_with fail
    have hRA : ∀ o, Own ((w.alloc (.cells #[.int .i64 0, .slice none 0 0] 26)).alloc o) w.heap.size 26 [.int .i64 0, .slice none 0 0] := fun o => (unhide HR0).alloc o
    have hBA : ∀ o o', Below w.heap.size w ((w.alloc o).alloc o') := fun o o' => ((unhide HB0) o).alloc (by simp) o'
    refine (l1String_any _ _).mono ?_
    rintro ec wc ⟨sc, rfl, hrc, hbc⟩
    have hRc := (hRA _).below hbc (hRA _).lt
    have r0 := hRc.cell 0
    have r1 := hRc.cell 1
    have z0 := hRc.frozen 0
    have z1 := hRc.frozen 1
    simp only [List.getElem?_cons_zero, List.getElem?_cons_succ] at r0 r1
    have HE := hide (Ans.store hrc (hBA _ _) (hRA _).lt hbc)
    obtain ⟨ac, mc, cc, rfl⟩ := hrc.shape
    clear f0 hrc hbc
    go_wp2_with fail
    refine bodyPost_ret (v := .agg #[.int .i64 0, .slice ac mc cc]) (by simp [results, Try.results91, go_sem, r0, r1]) rfl (ans_of (unhide fin) ((unhide HE) _ _).1 ((unhide HE) _ _).2)
  by_cases k1 : c.kind = 1
  · have fin := hide (show typIn c = (0, [⟨4, 0, ⟨#[98, 111, 111, 108, 101, 97, 110]⟩, ByteArray.empty, 0⟩]) by unfold typIn typN; rw [k1]; rfl)
    rw [k1] at f0
    clear k0 k1
    go_enter Try.func91, Try.ntmps91
    go_wp2_with fail
    have hRA : ∀ o, Own ((w.alloc (.cells #[.int .i64 0, .slice none 0 0] 26)).alloc o) w.heap.size 26 [.int .i64 0, .slice none 0 0] := fun o => (unhide HR0).alloc o
    have hBA : ∀ o o', Below w.heap.size w ((w.alloc o).alloc o') := fun o o' => ((unhide HB0) o).alloc (by simp) o'
    refine (l1String_any _ _).mono ?_
    rintro ec wc ⟨sc, rfl, hrc, hbc⟩
    have hRc := (hRA _).below hbc (hRA _).lt
    have r0 := hRc.cell 0
    have r1 := hRc.cell 1
    have z0 := hRc.frozen 0
    have z1 := hRc.frozen 1
    simp only [List.getElem?_cons_zero, List.getElem?_cons_succ] at r0 r1
    have HE := hide (Ans.store hrc (hBA _ _) (hRA _).lt hbc)
    obtain ⟨ac, mc, cc, rfl⟩ := hrc.shape
    clear f0 hrc hbc
    go_wp2_with fail
    refine bodyPost_ret (v := .agg #[.int .i64 0, .slice ac mc cc]) (by simp [results, Try.results91, go_sem, r0, r1]) rfl (ans_of (unhide fin) ((unhide HE) _ _).1 ((unhide HE) _ _).2)
  by_cases k2 : c.kind = 2
  · have fin := hide (show typIn c = (0, [⟨4, 0, ⟨#[98, 111, 111, 108, 101, 97, 110]⟩, ByteArray.empty, 0⟩]) by unfold typIn typN; rw [k2]; rfl)
    rw [k2] at f0
    clear k0 k1 k2
    go_enter Try.func91, Try.ntmps91
    go_wp2_with fail
    have hRA : ∀ o, Own ((w.alloc (.cells #[.int .i64 0, .slice none 0 0] 26)).alloc o) w.heap.size 26 [.int .i64 0, .slice none 0 0] := fun o => (unhide HR0).alloc o
    have hBA : ∀ o o', Below w.heap.size w ((w.alloc o).alloc o') := fun o o' => ((unhide HB0) o).alloc (by simp) o'
    refine (l1String_any _ _).mono ?_
    rintro ec wc ⟨sc, rfl, hrc, hbc⟩
    have hRc := (hRA _).below hbc (hRA _).lt
    have r0 := hRc.cell 0
    have r1 := hRc.cell 1
    have z0 := hRc.frozen 0
    have z1 := hRc.frozen 1
    simp only [List.getElem?_cons_zero, List.getElem?_cons_succ] at r0 r1
    have HE := hide (Ans.store hrc (hBA _ _) (hRA _).lt hbc)
    obtain ⟨ac, mc, cc, rfl⟩ := hrc.shape
    clear f0 hrc hbc
    go_wp2_with fail
    refine bodyPost_ret (v := .agg #[.int .i64 0, .slice ac mc cc]) (by simp [results, Try.results91, go_sem, r0, r1]) rfl (ans_of (unhide fin) ((unhide HE) _ _).1 ((unhide HE) _ _).2)
  by_cases k3 : c.kind = 3
  · have fin := hide (show typIn c = (0, [⟨4, 0, ⟨#[110, 117, 109, 98, 101, 114]⟩, ByteArray.empty, 0⟩]) by unfold typIn typN; rw [k3]; rfl)
    rw [k3] at f0
    clear k0 k1 k2 k3
    go_enter Try.func91, Try.ntmps91
    go_wp2_with fail
    have hRA : ∀ o, Own ((w.alloc (.cells #[.int .i64 0, .slice none 0 0] 26)).alloc o) w.heap.size 26 [.int .i64 0, .slice none 0 0] := fun o => (unhide HR0).alloc o
    have hBA : ∀ o o', Below w.heap.size w ((w.alloc o).alloc o') := fun o o' => ((unhide HB0) o).alloc (by simp) o'
    refine (l1String_any _ _).mono ?_
    rintro ec wc ⟨sc, rfl, hrc, hbc⟩
    have hRc := (hRA _).below hbc (hRA _).lt
    have r0 := hRc.cell 0
    have r1 := hRc.cell 1
    have z0 := hRc.frozen 0
    have z1 := hRc.frozen 1
    simp only [List.getElem?_cons_zero, List.getElem?_cons_succ] at r0 r1
    have HE := hide (Ans.store hrc (hBA _ _) (hRA _).lt hbc)
    obtain ⟨ac, mc, cc, rfl⟩ := hrc.shape
    clear f0 hrc hbc
    go_wp2_with fail
    refine bodyPost_ret (v := .agg #[.int .i64 0, .slice ac mc cc]) (by simp [results, Try.results91, go_sem, r0, r1]) rfl (ans_of (unhide fin) ((unhide HE) _ _).1 ((unhide HE) _ _).2)
  by_cases k4 : c.kind = 4
  · have fin := hide (show typIn c = (0, [⟨4, 0, ⟨#[115, 116, 114, 105, 110, 103]⟩, ByteArray.empty, 0⟩]) by unfold typIn typN; rw [k4]; rfl)
    rw [k4] at f0
    clear k0 k1 k2 k3 k4
    go_enter Try.func91, Try.ntmps91
    go_wp2_with fail
    have hRA : ∀ o, Own ((w.alloc (.cells #[.int .i64 0, .slice none 0 0] 26)).alloc o) w.heap.size 26 [.int .i64 0, .slice none 0 0] := fun o => (unhide HR0).alloc o
    have hBA : ∀ o o', Below w.heap.size w ((w.alloc o).alloc o') := fun o o' => ((unhide HB0) o).alloc (by simp) o'
    refine (l1String_any _ _).mono ?_
    rintro ec wc ⟨sc, rfl, hrc, hbc⟩
    have hRc := (hRA _).below hbc (hRA _).lt
    have r0 := hRc.cell 0
    have r1 := hRc.cell 1
    have z0 := hRc.frozen 0
    have z1 := hRc.frozen 1
    simp only [List.getElem?_cons_zero, List.getElem?_cons_succ] at r0 r1
    have HE := hide (Ans.store hrc (hBA _ _) (hRA _).lt hbc)
    obtain ⟨ac, mc, cc, rfl⟩ := hrc.shape
    clear f0 hrc hbc
    go_wp2_with fail
    refine bodyPost_ret (v := .agg #[.int .i64 0, .slice ac mc cc]) (by simp [results, Try.results91, go_sem, r0, r1]) rfl (ans_of (unhide fin) ((unhide HE) _ _).1 ((unhide HE) _ _).2)
  by_cases k5 : c.kind = 5
  · have fin := hide (show typIn c = (0, [⟨4, 0, ⟨#[97, 114, 114, 97, 121]⟩, ByteArray.empty, 0⟩]) by unfold typIn typN; rw [k5]; rfl)
    rw [k5] at f0
    clear k0 k1 k2 k3 k4 k5
    go_enter Try.func91, Try.ntmps91
    go_wp2_with fail
    have hRA : ∀ o, Own ((w.alloc (.cells #[.int .i64 0, .slice none 0 0] 26)).alloc o) w.heap.size 26 [.int .i64 0, .slice none 0 0] := fun o => (unhide HR0).alloc o
    have hBA : ∀ o o', Below w.heap.size w ((w.alloc o).alloc o') := fun o o' => ((unhide HB0) o).alloc (by simp) o'
    refine (l1String_any _ _).mono ?_
    rintro ec wc ⟨sc, rfl, hrc, hbc⟩
    have hRc := (hRA _).below hbc (hRA _).lt
    have r0 := hRc.cell 0
    have r1 := hRc.cell 1
    have z0 := hRc.frozen 0
    have z1 := hRc.frozen 1
    simp only [List.getElem?_cons_zero, List.getElem?_cons_succ] at r0 r1
    have HE := hide (Ans.store hrc (hBA _ _) (hRA _).lt hbc)
    obtain ⟨ac, mc, cc, rfl⟩ := hrc.shape
    clear f0 hrc hbc
    go_wp2_with fail
    refine bodyPost_ret (v := .agg #[.int .i64 0, .slice ac mc cc]) (by simp [results, Try.results91, go_sem, r0, r1]) rfl (ans_of (unhide fin) ((unhide HE) _ _).1 ((unhide HE) _ _).2)
  obtain k6 : c.kind = 6 := by omega
  have fin := hide (show typIn c = (0, [⟨4, 0, ⟨#[111, 98, 106, 101, 99, 116]⟩, ByteArray.empty, 0⟩]) by unfold typIn typN; rw [k6]; rfl)
  rw [k6] at f0
  clear k0 k1 k2 k3 k4 k5 k6
  go_enter Try.func91, Try.ntmps91
  go_wp2_with fail
  have hRA : ∀ o, Own ((w.alloc (.cells #[.int .i64 0, .slice none 0 0] 26)).alloc o) w.heap.size 26 [.int .i64 0, .slice none 0 0] := fun o => (unhide HR0).alloc o
  have hBA : ∀ o o', Below w.heap.size w ((w.alloc o).alloc o') := fun o o' => ((unhide HB0) o).alloc (by simp) o'
  refine (l1String_any _ _).mono ?_
  rintro ec wc ⟨sc, rfl, hrc, hbc⟩
  have hRc := (hRA _).below hbc (hRA _).lt
  have r0 := hRc.cell 0
  have r1 := hRc.cell 1
  have z0 := hRc.frozen 0
  have z1 := hRc.frozen 1
  simp only [List.getElem?_cons_zero, List.getElem?_cons_succ] at r0 r1
  have HE := hide (Ans.store hrc (hBA _ _) (hRA _).lt hbc)
  obtain ⟨ac, mc, cc, rfl⟩ := hrc.shape
  clear f0 hrc hbc
  go_wp2_with fail
  refine bodyPost_ret (v := .agg #[.int .i64 0, .slice ac mc cc]) (by simp [results, Try.results91, go_sem, r0, r1]) rfl (ans_of (unhide fin) ((unhide HE) _ _).1 ((unhide HE) _ _).2)

set_option maxHeartbeats 1000000 in
theorem specTypeOf_any (v : List M.Cl) (b off cap : Nat) (w : World) (hrow : Row w b off v) (hb : b < w.heap.size) (hn : v.length ≤ 1048576) (hcap : v.length ≤ cap) (hok : ∀ c ∈ v, c.ok) :
    Calls Try.prog 42 #[.slice (some ⟨b, off, none⟩) v.length cap] w (Ans w (typOut v)) := by
  have OK := hide hok
  have B0 : ∀ o, Below w.heap.size w (w.alloc o) := fun o => (Below.refl _ _).alloc (Nat.le_refl _) o
  have HB0 := hide B0
  clear B0
  clear hok
  go_enter Try.func42, Try.ntmps42
  go_wp2_with fail
  refine (specFault_any v b off cap _ (hrow.below ((unhide HB0) _) hb) (by simp; omega) hn hcap (unhide OK)).mono ?_
  rintro e1 w1 ⟨rfl, hb1⟩
  have hR : Own w1 w.heap.size 26 [.int .i64 0, .slice none 0 0] := Own.below ⟨_, heap_alloc_new _ _, rfl⟩ hb1 (by simp)
  have B1 : Below w.heap.size w w1 := ((unhide HB0) _).trans (hb1.mono (by simp))
  have hrow1 := hrow.below B1 hb
  have hb1' : b < w1.heap.size := Nat.lt_of_lt_of_le hb B1.size
  clear hb1
  generalize hq : M.valueFault v = q
  by_cases hz : q = 0
  · subst hz
    have fin := hide (typ_ok hq)
    have HG := hide (l3Type_any v b off cap w1 hq hrow1 hb1' hcap (unhide OK))
    clear hq
    generalize hR2 : typIn (v.getD 0 M.zero) = R at *
    obtain ⟨rc, rl⟩ := R
    clear hR2
    go_wp2_with fail
    refine (unhide HG).mono ?_
    rintro ec wc ⟨sc, rfl, hrc, hbc⟩
    have hRc := hR.below hbc hR.lt
    have r0 := hRc.cell 0
    have r1 := hRc.cell 1
    have z0 := hRc.frozen 0
    have z1 := hRc.frozen 1
    simp only [List.getElem?_cons_zero, List.getElem?_cons_succ] at r0 r1
    have HE := hide (Ans.store hrc B1 hR.lt hbc)
    obtain ⟨ac, mc, cc, rfl⟩ := hrc.shape
    clear hrc hbc
    go_wp2_with fail
    refine bodyPost_ret (v := .agg #[.int .i64 rc, .slice ac mc cc]) (by simp [results, Try.results42, go_sem, r0, r1]) rfl (ans_of (unhide fin) ((unhide HE) _ _).1 ((unhide HE) _ _).2)
  · have fin := hide ((typ_bad (by rw [hq]; exact hz)).trans (by rw [hq]))
    have hz' : (q == 0) = false := by simp [hz]
    clear hq
    go_wp2_with fail
    refine (l3Bad_any _ _).mono ?_
    rintro ec wc ⟨sc, rfl, hrc, hbc⟩
    have hRc := hR.below hbc hR.lt
    have r0 := hRc.cell 0
    have r1 := hRc.cell 1
    have z0 := hRc.frozen 0
    have z1 := hRc.frozen 1
    simp only [List.getElem?_cons_zero, List.getElem?_cons_succ] at r0 r1
    have HE := hide (Ans.store hrc B1 hR.lt hbc)
    obtain ⟨ac, mc, cc, rfl⟩ := hrc.shape
    clear hrc hbc
    go_wp2_with fail
    refine bodyPost_ret (v := .agg #[.int .i64 q, .slice ac mc cc]) (by simp [results, Try.results42, go_sem, r0, r1]) rfl (ans_of (unhide fin) ((unhide HE) _ _).1 ((unhide HE) _ _).2)

set_option maxRecDepth 100000 in
set_option maxHeartbeats 4000000 in
theorem implTypeOf_any (v : List M.Cl) (b off cap : Nat) (w : World) (hrow : Row w b off v) (hb : b < w.heap.size) (hn : v.length ≤ 1048576) (hcap : v.length ≤ cap) (hok : ∀ c ∈ v, c.ok) :
    Calls Try.prog 43 #[.slice (some ⟨b, off, none⟩) v.length cap] w (Ans w (typOut v)) := by
  have OK := hide hok
  have B0 : ∀ o, Below w.heap.size w (w.alloc o) := fun o => (Below.refl _ _).alloc (Nat.le_refl _) o
  have HB0 := hide B0
  clear B0
  clear hok
  go_enter Try.func43, Try.ntmps43
  go_wp2_with fail
  refine (implFault_any v b off cap _ (hrow.below ((unhide HB0) _) hb) (by simp; omega) hn hcap (unhide OK)).mono ?_
  rintro e1 w1 ⟨rfl, hb1⟩
  have hR : Own w1 w.heap.size 26 [.int .i64 0, .slice none 0 0] := Own.below ⟨_, heap_alloc_new _ _, rfl⟩ hb1 (by simp)
  have B1 : Below w.heap.size w w1 := ((unhide HB0) _).trans (hb1.mono (by simp))
  have hrow1 := hrow.below B1 hb
  have hb1' : b < w1.heap.size := Nat.lt_of_lt_of_le hb B1.size
  clear hb1
  by_cases hv : M.valueFault v = 0
  · rw [hv]
    have fin := hide (typ_ok hv)
    have hl1 := (M.fault_zero hv).1
    obtain ⟨c0, c1⟩ := kind_bd hv
    obtain ⟨q0, _, _, _, _⟩ := hrow1 0 (by omega)
    simp only [Nat.zero_mul, Nat.add_zero] at q0
    generalize v.getD 0 M.zero = c at *
    have f0 : ∀ o, (w1.alloc o).cell? ⟨b, off, none⟩ = some (.int .i64 c.kind) := fun o => ((((Below.refl w1.heap.size w1)).alloc (Nat.le_refl _) o).cell hb1').trans q0
    have HRA := hide (fun o => hR.alloc o)
    have HBA := hide (fun o => B1.alloc B1.size o)
    clear hv q0
    by_cases k0 : c.kind = 0
    · have fin2 := hide ((unhide fin).trans (show typIn c = (0, [⟨4, 0, ⟨#[110, 117, 108, 108]⟩, ByteArray.empty, 0⟩]) by unfold typIn typN; rw [k0]; rfl))
      have fin3 := hide (str_ok (s := ⟨#[110, 117, 108, 108]⟩) (by decide))
      rw [k0] at f0
      clear k0 fin
      go_wp2_with fail
      refine (stringValue_any _ _ (by decide)).mono ?_
      rintro ec wc ⟨sc, rfl, hrc, hbc⟩
      have hRc := ((unhide HRA) _).below hbc ((unhide HRA) _).lt
      have r0 := hRc.cell 0
      have r1 := hRc.cell 1
      have z0 := hRc.frozen 0
      have z1 := hRc.frozen 1
      simp only [List.getElem?_cons_zero, List.getElem?_cons_succ] at r0 r1
      rw [unhide fin3] at hrc ⊢
      have HE := hide (Ans.store hrc ((unhide HBA) _) ((unhide HRA) _).lt hbc)
      obtain ⟨ac, mc, cc, rfl⟩ := hrc.shape
      clear f0 hrc hbc
      go_wp2_with fail
      refine bodyPost_ret (v := .agg #[.int .i64 0, .slice ac mc cc]) (by simp [results, Try.results43, go_sem, r0, r1]) rfl (ans_of (unhide fin2) ((unhide HE) _ _).1 ((unhide HE) _ _).2)
    by_cases k1 : c.kind = 1
    · have fin2 := hide ((unhide fin).trans (show typIn c = (0, [⟨4, 0, ⟨#[98, 111, 111, 108, 101, 97, 110]⟩, ByteArray.empty, 0⟩]) by unfold typIn typN; rw [k1]; rfl))
      have fin3 := hide (str_ok (s := ⟨#[98, 111, 111, 108, 101, 97, 110]⟩) (by decide))
      rw [k1] at f0
      clear k0 k1 fin
      go_wp2_with fail
      refine (stringValue_any _ _ (by decide)).mono ?_
      rintro ec wc ⟨sc, rfl, hrc, hbc⟩
      have hRc := ((unhide HRA) _).below hbc ((unhide HRA) _).lt
      have r0 := hRc.cell 0
      have r1 := hRc.cell 1
      have z0 := hRc.frozen 0
      have z1 := hRc.frozen 1
      simp only [List.getElem?_cons_zero, List.getElem?_cons_succ] at r0 r1
      rw [unhide fin3] at hrc ⊢
      have HE := hide (Ans.store hrc ((unhide HBA) _) ((unhide HRA) _).lt hbc)
      obtain ⟨ac, mc, cc, rfl⟩ := hrc.shape
      clear f0 hrc hbc
      go_wp2_with fail
      refine bodyPost_ret (v := .agg #[.int .i64 0, .slice ac mc cc]) (by simp [results, Try.results43, go_sem, r0, r1]) rfl (ans_of (unhide fin2) ((unhide HE) _ _).1 ((unhide HE) _ _).2)
    by_cases k2 : c.kind = 2
    · have fin2 := hide ((unhide fin).trans (show typIn c = (0, [⟨4, 0, ⟨#[98, 111, 111, 108, 101, 97, 110]⟩, ByteArray.empty, 0⟩]) by unfold typIn typN; rw [k2]; rfl))
      have fin3 := hide (str_ok (s := ⟨#[98, 111, 111, 108, 101, 97, 110]⟩) (by decide))
      rw [k2] at f0
      clear k0 k1 k2 fin
      go_wp2_with fail
      refine (stringValue_any _ _ (by decide)).mono ?_
      rintro ec wc ⟨sc, rfl, hrc, hbc⟩
      have hRc := ((unhide HRA) _).below hbc ((unhide HRA) _).lt
      have r0 := hRc.cell 0
      have r1 := hRc.cell 1
      have z0 := hRc.frozen 0
      have z1 := hRc.frozen 1
      simp only [List.getElem?_cons_zero, List.getElem?_cons_succ] at r0 r1
      rw [unhide fin3] at hrc ⊢
      have HE := hide (Ans.store hrc ((unhide HBA) _) ((unhide HRA) _).lt hbc)
      obtain ⟨ac, mc, cc, rfl⟩ := hrc.shape
      clear f0 hrc hbc
      go_wp2_with fail
      refine bodyPost_ret (v := .agg #[.int .i64 0, .slice ac mc cc]) (by simp [results, Try.results43, go_sem, r0, r1]) rfl (ans_of (unhide fin2) ((unhide HE) _ _).1 ((unhide HE) _ _).2)
    by_cases k3 : c.kind = 3
    · have fin2 := hide ((unhide fin).trans (show typIn c = (0, [⟨4, 0, ⟨#[110, 117, 109, 98, 101, 114]⟩, ByteArray.empty, 0⟩]) by unfold typIn typN; rw [k3]; rfl))
      have fin3 := hide (str_ok (s := ⟨#[110, 117, 109, 98, 101, 114]⟩) (by decide))
      rw [k3] at f0
      clear k0 k1 k2 k3 fin
      go_wp2_with fail
      refine (stringValue_any _ _ (by decide)).mono ?_
      rintro ec wc ⟨sc, rfl, hrc, hbc⟩
      have hRc := ((unhide HRA) _).below hbc ((unhide HRA) _).lt
      have r0 := hRc.cell 0
      have r1 := hRc.cell 1
      have z0 := hRc.frozen 0
      have z1 := hRc.frozen 1
      simp only [List.getElem?_cons_zero, List.getElem?_cons_succ] at r0 r1
      rw [unhide fin3] at hrc ⊢
      have HE := hide (Ans.store hrc ((unhide HBA) _) ((unhide HRA) _).lt hbc)
      obtain ⟨ac, mc, cc, rfl⟩ := hrc.shape
      clear f0 hrc hbc
      go_wp2_with fail
      refine bodyPost_ret (v := .agg #[.int .i64 0, .slice ac mc cc]) (by simp [results, Try.results43, go_sem, r0, r1]) rfl (ans_of (unhide fin2) ((unhide HE) _ _).1 ((unhide HE) _ _).2)
    by_cases k4 : c.kind = 4
    · have fin2 := hide ((unhide fin).trans (show typIn c = (0, [⟨4, 0, ⟨#[115, 116, 114, 105, 110, 103]⟩, ByteArray.empty, 0⟩]) by unfold typIn typN; rw [k4]; rfl))
      have fin3 := hide (str_ok (s := ⟨#[115, 116, 114, 105, 110, 103]⟩) (by decide))
      rw [k4] at f0
      clear k0 k1 k2 k3 k4 fin
      go_wp2_with fail
      refine (stringValue_any _ _ (by decide)).mono ?_
      rintro ec wc ⟨sc, rfl, hrc, hbc⟩
      have hRc := ((unhide HRA) _).below hbc ((unhide HRA) _).lt
      have r0 := hRc.cell 0
      have r1 := hRc.cell 1
      have z0 := hRc.frozen 0
      have z1 := hRc.frozen 1
      simp only [List.getElem?_cons_zero, List.getElem?_cons_succ] at r0 r1
      rw [unhide fin3] at hrc ⊢
      have HE := hide (Ans.store hrc ((unhide HBA) _) ((unhide HRA) _).lt hbc)
      obtain ⟨ac, mc, cc, rfl⟩ := hrc.shape
      clear f0 hrc hbc
      go_wp2_with fail
      refine bodyPost_ret (v := .agg #[.int .i64 0, .slice ac mc cc]) (by simp [results, Try.results43, go_sem, r0, r1]) rfl (ans_of (unhide fin2) ((unhide HE) _ _).1 ((unhide HE) _ _).2)
    by_cases k5 : c.kind = 5
    · have fin2 := hide ((unhide fin).trans (show typIn c = (0, [⟨4, 0, ⟨#[97, 114, 114, 97, 121]⟩, ByteArray.empty, 0⟩]) by unfold typIn typN; rw [k5]; rfl))
      have fin3 := hide (str_ok (s := ⟨#[97, 114, 114, 97, 121]⟩) (by decide))
      rw [k5] at f0
      clear k0 k1 k2 k3 k4 k5 fin
      go_wp2_with fail
      refine (stringValue_any _ _ (by decide)).mono ?_
      rintro ec wc ⟨sc, rfl, hrc, hbc⟩
      have hRc := ((unhide HRA) _).below hbc ((unhide HRA) _).lt
      have r0 := hRc.cell 0
      have r1 := hRc.cell 1
      have z0 := hRc.frozen 0
      have z1 := hRc.frozen 1
      simp only [List.getElem?_cons_zero, List.getElem?_cons_succ] at r0 r1
      rw [unhide fin3] at hrc ⊢
      have HE := hide (Ans.store hrc ((unhide HBA) _) ((unhide HRA) _).lt hbc)
      obtain ⟨ac, mc, cc, rfl⟩ := hrc.shape
      clear f0 hrc hbc
      go_wp2_with fail
      refine bodyPost_ret (v := .agg #[.int .i64 0, .slice ac mc cc]) (by simp [results, Try.results43, go_sem, r0, r1]) rfl (ans_of (unhide fin2) ((unhide HE) _ _).1 ((unhide HE) _ _).2)
    obtain k6 : c.kind = 6 := by omega
    have fin2 := hide ((unhide fin).trans (show typIn c = (0, [⟨4, 0, ⟨#[111, 98, 106, 101, 99, 116]⟩, ByteArray.empty, 0⟩]) by unfold typIn typN; rw [k6]; rfl))
    have fin3 := hide (str_ok (s := ⟨#[111, 98, 106, 101, 99, 116]⟩) (by decide))
    rw [k6] at f0
    clear k0 k1 k2 k3 k4 k5 k6 fin
    go_wp2_with fail
    refine (stringValue_any _ _ (by decide)).mono ?_
    rintro ec wc ⟨sc, rfl, hrc, hbc⟩
    have hRc := ((unhide HRA) _).below hbc ((unhide HRA) _).lt
    have r0 := hRc.cell 0
    have r1 := hRc.cell 1
    have z0 := hRc.frozen 0
    have z1 := hRc.frozen 1
    simp only [List.getElem?_cons_zero, List.getElem?_cons_succ] at r0 r1
    rw [unhide fin3] at hrc ⊢
    have HE := hide (Ans.store hrc ((unhide HBA) _) ((unhide HRA) _).lt hbc)
    obtain ⟨ac, mc, cc, rfl⟩ := hrc.shape
    clear f0 hrc hbc
    go_wp2_with fail
    refine bodyPost_ret (v := .agg #[.int .i64 0, .slice ac mc cc]) (by simp [results, Try.results43, go_sem, r0, r1]) rfl (ans_of (unhide fin2) ((unhide HE) _ _).1 ((unhide HE) _ _).2)
  · have fin := hide (typ_bad hv)
    generalize M.valueFault v = q at *
    have hz' : (q == 0) = false := by simp [hv]
    have r0 := hR.cell 0
    have r1 := hR.cell 1
    have z0 := hR.frozen 0
    have z1 := hR.frozen 1
    simp only [List.getElem?_cons_zero, List.getElem?_cons_succ] at r0 r1
    clear hv
    go_wp2_with fail
    refine bodyPost_ret (v := .agg #[.int .i64 q, .slice none 0 0]) (by simp [results, Try.results43, go_sem, r0, r1]) rfl (ans_of (unhide fin) (resNil _ _) (store_below B1 _ _))

end Go.Proofs.Ytjoghcolfehkcaa
