/-
  impl.setSteps, impl.setMember and impl.setElement.
-/
import Derived.Test.YtheofnndigpjpaaPthG
import Derived.Test.YtheofnndigpjpaaSetI
import Derived.Test.YtheofnndigpjpaaBld
namespace Go.Proofs.Ytheofnndigpjpaa
open Go.RowKit
set_option linter.unusedVariables false

/-- What SetPath tells of a string and the steps behind it. -/
def Pth.memOut (v : List M.Cl) (key : ByteArray) (cs x : List M.Cl) : Int × List M.Cl :=
  if (getOut v key).1 = 0 then (if (Pth.setS (getOut v key).2 cs x).1 = 0 then setOut v key (Pth.setS (getOut v key).2 cs x).2 else Pth.setS (getOut v key).2 cs x) else getOut v key
theorem Pth.mem_no {v : List M.Cl} {key : ByteArray} {cs x : List M.Cl} {R : Int × List M.Cl} (h : getOut v key = R) (hz : R.1 ≠ 0) : Pth.memOut v key cs x = R := by unfold Pth.memOut; rw [h, if_neg hz]
theorem Pth.mem_in {v : List M.Cl} {key : ByteArray} {cs x l : List M.Cl} {R : Int × List M.Cl} (h : getOut v key = (0, l)) (h2 : Pth.setS l cs x = R) (hz : R.1 ≠ 0) : Pth.memOut v key cs x = R := by unfold Pth.memOut; rw [h]; simp only [if_pos, h2]; rw [if_neg hz]
theorem Pth.mem_ok {v : List M.Cl} {key : ByteArray} {cs x l l2 : List M.Cl} (h : getOut v key = (0, l)) (h2 : Pth.setS l cs x = (0, l2)) : Pth.memOut v key cs x = setOut v key l2 := by unfold Pth.memOut; rw [h]; simp only [if_pos, h2]
/-- What setSteps says of steps. -/
def Pth.SetI (cs x : List M.Cl) : Prop := ∀ (v : List M.Cl) (b off cap b' o cap' bx ox cx : Nat) (w : World), M.valueFault v = 0 → Row w b off v → b < w.heap.size → v.length ≤ cap → Row w b' o cs → b' < w.heap.size → cs.length ≤ cap' → cap' ≤ 9223372036854775807 → Row w bx ox x → bx < w.heap.size → x.length ≤ cx →
  Calls Try.prog 47 #[.slice (some ⟨b, off, none⟩) v.length cap, .slice (some ⟨b', o, none⟩) cs.length cap', .slice (some ⟨bx, ox, none⟩) x.length cx] w (Ans w (Pth.setS v cs x))
/-- What was told lies behind the answer's own block: it is put there. -/
theorem Pth.ret {w W : World} {s : Value} {l : List M.Cl} (hr : Res W (w.heap.size + 1) s l) (B : Below w.heap.size w W) (x y : Value) :
    Res ((W.setCell ⟨w.heap.size, 0, none⟩ x).setCell ⟨w.heap.size, 1, none⟩ y) w.heap.size s l ∧ Below w.heap.size w ((W.setCell ⟨w.heap.size, 0, none⟩ x).setCell ⟨w.heap.size, 1, none⟩ y) := by
  have hne : ∀ b, s.ownBlock = some b → b ≠ w.heap.size := fun b h => by have := hr.base b h; omega
  exact ⟨((hr.mono (by omega)).setOther _ _ hne).setOther _ _ hne, (B.setCell (Nat.le_refl _) _).setCell (Nat.le_refl _) _⟩

set_option maxRecDepth 100000 in
set_option maxHeartbeats 1000000 in
theorem setMember_any (cs x : List M.Cl) (ih : Hid (Pth.SetI cs x)) (hx : M.valueFault x = 0) (v : List M.Cl) (key : ByteArray) (b off cap b' o cap' bx ox cx : Nat) (w : World) (hv : M.valueFault v = 0) (ht : M.textOk key = true) (hrow : Row w b off v) (hb : b < w.heap.size) (hcap : v.length ≤ cap) (hrow' : Row w b' o cs) (hb' : b' < w.heap.size) (hcap' : cs.length ≤ cap') (hc' : cap' ≤ 9223372036854775807) (hrowx : Row w bx ox x) (hbx : bx < w.heap.size) (hcx : x.length ≤ cx) :
    Calls Try.prog 69 #[.slice (some ⟨b, off, none⟩) v.length cap, .string key, .slice (some ⟨b', o, none⟩) cs.length cap', .slice (some ⟨bx, ox, none⟩) x.length cx] w (Ans w (Pth.memOut v key cs x)) := by
  have hks := textOk_size ht
  have hlen := (Pth.lens hv).2
  have ROWS := hide (fun W (h : Below w.heap.size w W) => And.intro (hrow.below h hb) (And.intro (hrow'.below h hb') (hrowx.below h hbx)))
  have HGK := hide (fun W (h : Below w.heap.size w W) => implGetKey_any v b off cap key W (hrow.below h hb) (Nat.lt_of_lt_of_le hb h.size) (by omega) hcap (Pth.oks hv) (by omega))
  have HSK := hide (fun W (h : Below w.heap.size w W) u b2 c2 (hu : M.valueFault u = 0) (r : Row W b2 0 u) (hb2 : b2 < W.heap.size) (hc2 : u.length ≤ c2) => implSetKey_any v b off cap key u b2 0 c2 W (hrow.below h hb) (Nat.lt_of_lt_of_le hb h.size) (by omega) hcap (Pth.oks hv) r hb2 (by have := (Pth.lens hu).2; omega) hc2 (Pth.oks hu) (by omega))
  rw [gk_ok hv ht] at HGK
  have HGD := hide (Pth.get_gd hv key)
  have HIH := hide (fun u b2 c2 W (h : Below w.heap.size w W) hu r hb2 hc2 => ih.out u b2 0 c2 b' o cap' bx ox cx W hu r hb2 hc2 (hrow'.below h hb') (Nat.lt_of_lt_of_le hb' h.size) hcap' hc' (hrowx.below h hbx) (Nat.lt_of_lt_of_le hbx h.size) hcx)
  have SGD := hide (fun u (hu : M.valueFault u = 0) => Pth.setS_gd hu hx cs)
  have B0 : ∀ o, Below w.heap.size w (w.alloc o) := fun o => (Below.refl _ _).alloc (Nat.le_refl _) o
  have HB0 := hide B0
  clear ih B0 hrow hrow' hrowx
  generalize hR : getOut v key = R at *
  have HRR := hide hR
  clear hR
  obtain ⟨rc, rl⟩ := R
  go_enter Try.func69, Try.ntmps69
  go_wp2_with fail
  refine ((unhide HGK) _ ((unhide HB0) _)).mono ?_
  rintro e1 w1 ⟨s1, rfl, hr1, hb1⟩
  simp only [World.size_alloc] at hr1 hb1
  have hR1 : Own w1 w.heap.size 30 [.int .i64 0, .slice none 0 0] := Own.below ⟨_, heap_alloc_new _ _, rfl⟩ hb1 (by omega)
  have B1 : Below w.heap.size w w1 := ((unhide HB0) _).trans (hb1.mono (by omega))
  have L1 := hb1.size
  simp only [World.size_alloc] at L1
  obtain ⟨a1, n1, c1, rfl⟩ := hr1.shape
  obtain ⟨W1, hW1⟩ : ∃ W1, W1 = w1.alloc (.cells #[.int .i64 rc, .slice a1 n1 c1] 30) := ⟨_, rfl⟩
  have O1 : Own W1 w1.heap.size 30 [.int .i64 rc, .slice a1 n1 c1] := by rw [hW1]; exact ⟨_, heap_alloc_new _ _, rfl⟩
  have R1 : Own W1 w.heap.size 30 [.int .i64 0, .slice none 0 0] := by rw [hW1]; exact hR1.alloc _
  have V1 : Res W1 (w.heap.size + 1) (.slice a1 n1 c1) rl := by rw [hW1]; exact hr1.alloc _
  have C1 : Below w.heap.size w W1 := by rw [hW1]; exact B1.alloc B1.size _
  have S1 : w1.heap.size < W1.heap.size := by rw [hW1]; simp
  clear hR1 hr1 hb1 B1 HGK
  generalize hg1 : w1.heap.size = g1 at *
  have p0 := R1.cell 0
  have p1 := R1.cell 1
  have y0 := R1.frozen 0
  have y1 := R1.frozen 1
  have q0 := O1.cell 0
  have q1 := O1.cell 1
  simp only [List.getElem?_cons_zero, List.getElem?_cons_succ] at p0 p1 q0 q1
  go_upto_region 2 with fail
  rw [← hW1]
  clear hW1 hg1
  by_cases hz : rc = 0
  · subst hz
    have hrl := (unhide HGD).ok rfl
    obtain ⟨b1, c1', hsh, hc1, hl1, hlt1, hrw1⟩ := V1.rowedQ (Pth.val_ne hrl)
    simp only [Value.slice.injEq] at hsh
    obtain ⟨rfl, rfl, rfl⟩ := hsh
    have HC := hide ((unhide HIH) rl b1 c1 W1 C1 hrl hrw1 hlt1 hc1)
    have SG := hide ((unhide SGD) rl hrl)
    have EIN := hide (fun R h2 hz => Pth.mem_in (cs := cs) (x := x) (R := R) (unhide HRR) h2 hz)
    have EOK := hide (fun l2 h2 => Pth.mem_ok (cs := cs) (x := x) (l2 := l2) (unhide HRR) h2)
    clear V1 hrw1 HIH SGD HRR HGD
    generalize hR2 : Pth.setS rl cs x = R2 at *
    have HR2 := hide hR2
    clear hR2
    obtain ⟨rc2, rl2⟩ := R2
    have B1 := Below.refl W1.heap.size W1
    go_wp2_with fail
    refine (unhide HC).mono ?_
    rintro e2 w2 ⟨s2, rfl, hr2, hb2⟩
    obtain ⟨a2, n2, c2, rfl⟩ := hr2.shape
    obtain ⟨W2, hW2⟩ : ∃ W2, W2 = w2.alloc (.cells #[.int .i64 rc2, .slice a2 n2 c2] 30) := ⟨_, rfl⟩
    have O2 : Own W2 w2.heap.size 30 [.int .i64 rc2, .slice a2 n2 c2] := by rw [hW2]; exact ⟨_, heap_alloc_new _ _, rfl⟩
    have R2 : Own W2 w.heap.size 30 [.int .i64 0, .slice none 0 0] := by rw [hW2]; exact (R1.below hb2 R1.lt).alloc _
    have V2 : Res W2 (w.heap.size + 1) (.slice a2 n2 c2) rl2 := by rw [hW2]; exact (hr2.alloc _).mono (by omega)
    have C2 : Below w.heap.size w W2 := by rw [hW2]; exact (C1.trans (hb2.mono C1.size)).alloc (by have := C1.size; have := hb2.size; omega) _
    clear p0 p1 y0 y1 q0 q1 O1 R1 hr2 hb2 HC B1 C1
    generalize hg2 : w2.heap.size = g2 at *
    have p0 := R2.cell 0
    have p1 := R2.cell 1
    have y0 := R2.frozen 0
    have y1 := R2.frozen 1
    have q0 := O2.cell 0
    have q1 := O2.cell 1
    simp only [List.getElem?_cons_zero, List.getElem?_cons_succ] at p0 p1 q0 q1
    go_upto_region 5 with fail
    rw [← hW2]
    clear hW2 hg2
    by_cases hz2 : rc2 = 0
    · subst hz2
      have hr0 := (unhide SG).ok rfl
      obtain ⟨b2, c2', hsh, hc2, hl2, hlt2, hrw2⟩ := V2.rowedQ (Pth.val_ne hr0)
      simp only [Value.slice.injEq] at hsh
      obtain ⟨rfl, rfl, rfl⟩ := hsh
      have HC := hide ((unhide HSK) W2 C2 rl2 b2 c2 hr0 hrw2 hlt2 hc2)
      have E := hide ((unhide EOK) rl2 rfl)
      have R2' := hide R2
      clear V2 hrw2 SG EIN EOK HR2 HSK O2 R2
      generalize setOut v key rl2 = R3 at *
      obtain ⟨rc3, rl3⟩ := R3
      go_wp2_with fail
      refine (unhide HC).mono ?_
      rintro e3 w3 ⟨s3, rfl, hr3, hb3⟩
      obtain ⟨a3, n3, c3, rfl⟩ := hr3.shape
      have R3 := (unhide R2').below hb3 (unhide R2').lt
      have F := hide (Pth.ret (hr3.mono (by have := (unhide R2').lt; omega)) (C2.trans (hb3.mono C2.size)))
      clear p0 p1 y0 y1 q0 q1 hr3 hb3 HC
      have p0 := R3.cell 0
      have p1 := R3.cell 1
      have y0 := R3.frozen 0
      have y1 := R3.frozen 1
      simp only [List.getElem?_cons_zero, List.getElem?_cons_succ] at p0 p1
      go_wp2_with fail
      refine bodyPost_ret (v := .agg #[.int .i64 rc3, .slice a3 n3 c3]) (by simp [results, Try.results69, go_sem, p0, p1]) rfl (ans_of (unhide E) ((unhide F) _ _).1 ((unhide F) _ _).2)
    · have E := hide ((unhide EIN) _ rfl hz2)
      have F := hide (Pth.ret V2 C2)
      have hz' : (rc2 == 0) = false := by simp [hz2]
      clear V2 SG EIN EOK HR2 HSK O2 R2 hz2
      go_wp2_with fail
      refine bodyPost_ret (v := .agg #[.int .i64 rc2, .slice a2 n2 c2]) (by simp [results, Try.results69, go_sem, p0, p1]) rfl (ans_of (unhide E) ((unhide F) _ _).1 ((unhide F) _ _).2)
  · have E := hide (Pth.mem_no (cs := cs) (x := x) (unhide HRR) hz)
    have F := hide (Pth.ret V1 C1)
    have hz' : (rc == 0) = false := by simp [hz]
    clear V1 HIH SGD HRR HGD O1 R1 hz
    go_wp2_with fail
    refine bodyPost_ret (v := .agg #[.int .i64 rc, .slice a1 n1 c1]) (by simp [results, Try.results69, go_sem, p0, p1]) rfl (ans_of (unhide E) ((unhide F) _ _).1 ((unhide F) _ _).2)
end Go.Proofs.Ytheofnndigpjpaa
