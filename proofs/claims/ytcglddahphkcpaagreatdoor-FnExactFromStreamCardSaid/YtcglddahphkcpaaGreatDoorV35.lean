/-
  What DropKey tells, plainly: an object without one of its members has no fault.
  Lists of parts that are kept where another list grows.
  The paths of a value and of all in it, plainly. No word of the program is used here.
  impl.SetPath and spec.SetPath, whole.
  Paths as they lie in memory: rows of steps, rows of paths; an append of a row that may be nil.
-/
import Derived.Test.YtcglddahphkcpaaGreatDoorV19
import Derived.Test.YtcglddahphkcpaaGreatDoorV27
import Derived.Test.YtcglddahphkcpaaGreatDoorV32
import Derived.Test.YtcglddahphkcpaaGreatDoorV34
import Derived.Laws.OwnMore
import Derived.Maps.AppendAt
namespace Go.Proofs.YtcglddahphkcpaaGreatDoor
open Go.RowKit
set_option linter.unusedVariables false

/-- The keys of an object's members rise. -/
theorem keys_rise (v : List M.Cl) (hv : M.valueFault v = 0) (hk : (v.getD 0 M.zero).kind = 6) : ∀ j, j + 1 < M.arity v 0 → M.keyLe (v.getD (M.iter v (j + 1) 1) M.zero).key (v.getD (M.iter v j 1) M.zero).key = false := by
  have hl := (M.fault_zero hv).1
  obtain ⟨d, hw, _⟩ := (M.fault_zero hv).2.2.2.2
  obtain ⟨f, hf⟩ : ∃ f, v.length = f + 1 := ⟨v.length - 1, by omega⟩
  have hw' := hw
  rw [hf] at hw'
  simp only [M.walk, Option.map_eq_some_iff] at hw'
  obtain ⟨r, h1, _⟩ := hw'
  have key : ∀ m k e d last r, M.kids (M.walk v f) v (v.getD 0 M.zero) m k e d last = some r → e ≤ v.length → d ≤ f → (∀ j, j < m → (0 < k + j → M.keyLe (v.getD (M.iter v j e) M.zero).key (if j = 0 then last else (v.getD (M.iter v (j - 1) e) M.zero).key) = false)) := by
    intro m
    induction m with
    | zero => intro k e d last r _ _ _ j hj; omega
    | succ m ih =>
      intro k e d last r h he hd j hj hkj
      simp only [M.kids] at h
      split at h
      · cases h
      rename_i hb
      have hlt : e < v.length := by
        by_cases hx : e < v.length
        · exact hx
        · exact absurd (show M.bad v (v.getD 0 M.zero) k e last = true by unfold M.bad; rw [if_neg hx]) hb
      split at h
      · cases h
      · rename_i e1 d1 hr
        have hwb := M.walk_bd v f e hlt _ hr
        simp only at hwb
        have he1 : M.endOf v e = e1 := M.endOf_of (by omega) hr
        cases j with
        | zero =>
          rw [if_pos rfl]
          show M.keyLe (v.getD e M.zero).key last = false
          have hb' : M.bad v (v.getD 0 M.zero) k e last = false := by cases hx : M.bad v (v.getD 0 M.zero) k e last with | true => exact absurd hx hb | false => rfl
          unfold M.bad at hb'
          rw [if_pos hlt, Bool.or_eq_false_iff] at hb'
          have h2 := hb'.2
          rw [hk, decide_eq_true rfl, decide_eq_true (show 0 < k by omega)] at h2
          simpa using h2
        | succ j =>
          have := ih (k + 1) e1 (max d d1) _ r h hwb.2.1 (by omega) j (by omega) (by omega)
          rw [if_neg (by omega), Nat.add_sub_cancel]
          have hi : M.iter v (j + 1) e = M.iter v j e1 := by rw [M.iter, he1]
          rw [hi]
          by_cases hj0 : j = 0
          · subst hj0
            rw [if_pos rfl] at this
            exact this
          · rw [if_neg hj0] at this
            have hi2 : M.iter v j e = M.iter v (j - 1) e1 := by
              obtain ⟨i, rfl⟩ : ∃ i, j = i + 1 := ⟨j - 1, by omega⟩
              rw [M.iter, he1]; rfl
            rw [hi2]
            exact this
  intro j hj
  have := key _ 0 1 0 ByteArray.empty r h1 (by omega) (by omega) (j + 1) (by unfold M.arity at hj; omega) (by omega)
  rwa [if_neg (by omega), Nat.add_sub_cancel] at this
theorem keyLe_false {a b : ByteArray} (h : M.keyLe a b = false) : Op.bytesLess b.toList a.toList = true := by
  unfold M.keyLe at h
  rw [Bool.or_eq_false_iff] at h
  rcases St.bl_tri b.toList a.toList with h1 | h1 | h1
  · exact h1
  · have := h.2
    rw [h1] at this
    simp at this
  · rw [h1] at h; cases h.1
theorem keys_rise2 (v : List M.Cl) (hv : M.valueFault v = 0) (hk : (v.getD 0 M.zero).kind = 6) (i j : Nat) (hij : i < j) (hj : j < M.arity v 0) : Op.bytesLess (v.getD (M.iter v i 1) M.zero).key.toList (v.getD (M.iter v j 1) M.zero).key.toList = true := by
  induction j with
  | zero => omega
  | succ j ih =>
    have h1 := keyLe_false (keys_rise v hv hk j hj)
    by_cases e : i = j
    · subst e; exact h1
    · exact St.bl_trans _ _ _ (ih (by omega) (by omega)) h1
end Go.Proofs.YtcglddahphkcpaaGreatDoor

namespace Go.Proofs.YtcglddahphkcpaaGreatDoor
open Go.RowKit
set_option linter.unusedVariables false

/-- Two slices lie in unlike blocks. -/
def Apart (s t : Value) : Prop := ∀ g, t.ownBlock = some g → s.ownBlock ≠ some g
theorem row_blt {w : World} {base : Nat} {e : TypeId} {size : Nat} {v : Value} {n : Nat} {xs : List Value} (h : w.ownsRow base e size v n xs) : ∀ g, v.ownBlock = some g → base ≤ g ∧ g < w.heap.size := h.lt

end Go.Proofs.YtcglddahphkcpaaGreatDoor

namespace Go.Proofs.YtcglddahphkcpaaGreatDoor
open Go.RowKit
set_option linter.unusedVariables false
set_option linter.unusedSimpArgs false
namespace Al
/-- The step to the k-th part. -/
def stepAt (obj : Bool) (ks : List ByteArray) (k : Nat) : M.Cl := if obj = true then ⟨4, 0, ks.getD k ByteArray.empty, ByteArray.empty, 0⟩ else ⟨3, (k : Int), ByteArray.empty, ByteArray.empty, 0⟩
/-- The paths of the first k parts and of all in them. -/
def allK (g : List M.Cl → List M.Cl → List (List M.Cl)) (obj : Bool) (ks : List ByteArray) (ps : List (List M.Cl)) (ahead : List M.Cl) : Nat → List (List M.Cl)
  | 0 => []
  | k + 1 => allK g obj ks ps ahead k ++ g (ps.getD k []) (ahead ++ [stepAt obj ks k])
/-- The path of a value, if it is wanted. -/
def own (leaves : Bool) (n : Int) (ahead : List M.Cl) : List (List M.Cl) := if leaves = false ∨ n = 0 then [ahead] else []
/-- The paths of a value and of all in it, behind steps, by fuel. -/
def all (leaves : Bool) : Nat → List M.Cl → List M.Cl → List (List M.Cl)
  | 0, _, _ => []
  | f + 1, v, ahead => own leaves (v.getD 0 M.zero).n ahead ++ allK (all leaves f) (decide ((v.getD 0 M.zero).kind = 6)) (keysAt v 0) (subs v 0) ahead (M.arity v 0)
theorem places_getD (v : List M.Cl) (a k : Nat) (hk : k < M.arity v a) : (M.places v a)[k]? = some (M.iter v k (a + 1)) := by
  simp [M.places, hk]
theorem subs_getD (v : List M.Cl) (a k : Nat) (hk : k < M.arity v a) : (subs v a).getD k [] = part v (M.iter v k (a + 1)) := by
  rw [List.getD_eq_getElem?_getD, subs, List.getElem?_map, places_getD v a k hk]; rfl
theorem keysAt_getD (v : List M.Cl) (a k : Nat) (hk : k < M.arity v a) : (keysAt v a).getD k ByteArray.empty = (v.getD (M.iter v k (a + 1)) M.zero).key := by
  rw [List.getD_eq_getElem?_getD, keysAt, List.getElem?_map, places_getD v a k hk]; rfl
/-- The first k parts lie ahead of the place of the next one. -/
theorem iter_le {v : List M.Cl} (hv : M.valueFault v = 0) {k : Nat} (hk : k ≤ M.arity v 0) : k + 1 ≤ M.iter v k 1 ∧ M.iter v k 1 ≤ v.length := by
  have hl := (M.fault_zero hv).1
  obtain ⟨h1, h2, h3, _⟩ := M.places_in hv 0 (by omega)
  simp only [Nat.zero_add] at h1 h2
  induction k with
  | zero => exact ⟨Nat.le_refl _, by show 1 ≤ _; omega⟩
  | succ k ih =>
    obtain ⟨i1, i2⟩ := ih (by omega)
    have h5 := h1 k (by omega)
    have hg := end_gt hv (a := M.iter v k 1) (by omega)
    rw [M.iter_next]
    exact ⟨by omega, by omega⟩
theorem part_lt {v : List M.Cl} (hv : M.valueFault v = 0) {k : Nat} (hk : k < M.arity v 0) : M.iter v k 1 < v.length ∧ M.iter v k 1 + (part v (M.iter v k 1)).length = M.iter v (k + 1) 1 ∧ M.valueFault (part v (M.iter v k 1)) = 0 := by
  have hl := (M.fault_zero hv).1
  obtain ⟨h1, h2, h3, _⟩ := M.places_in hv 0 (by omega)
  simp only [Nat.zero_add] at h1
  have h5 := h1 k hk
  have hlt : M.iter v k 1 < v.length := by omega
  have hg := end_gt hv hlt
  have hp := part_len hv hlt
  refine ⟨hlt, ?_, part_valid hv hlt⟩
  rw [M.iter_next]
  omega
theorem mem_allK {g : List M.Cl → List M.Cl → List (List M.Cl)} {obj : Bool} {ks : List ByteArray} {ps : List (List M.Cl)} {ahead p : List M.Cl} : ∀ {n : Nat}, p ∈ allK g obj ks ps ahead n → ∃ k, k < n ∧ p ∈ g (ps.getD k []) (ahead ++ [stepAt obj ks k])
  | 0, h => by simp [allK] at h
  | n + 1, h => by
    rw [allK, List.mem_append] at h
    rcases h with h | h
    · obtain ⟨k, hk, h⟩ := mem_allK h
      exact ⟨k, by omega, h⟩
    · exact ⟨n, by omega, h⟩
/-- A step to a part is a step, and gets the part. -/
theorem step_to {v : List M.Cl} (hv : M.valueFault v = 0) {k : Nat} (hk : k < M.arity v 0) : Pth.Stp (stepAt (decide ((v.getD 0 M.zero).kind = 6)) (keysAt v 0) k) ∧ atIn v (stepAt (decide ((v.getD 0 M.zero).kind = 6)) (keysAt v 0) k) = (0, part v (M.iter v k 1)) := by
  have hl := (M.fault_zero hv).2.1
  obtain ⟨p1, _, _⟩ := part_lt hv hk
  have hi := iter_le hv (Nat.le_of_lt hk)
  have hcc := M.first_zero (M.fault_zero hv).2.2.1 _ (getD_mem v (M.iter v k 1) p1)
  have hnull : M.textOk ByteArray.empty = true := by decide
  unfold stepAt
  by_cases h6 : (v.getD 0 M.zero).kind = 6
  · rw [if_pos (by simpa using h6), keysAt_getD v 0 k hk, Nat.zero_add]
    have htk : M.textOk (v.getD (M.iter v k 1) M.zero).key = true := by
      generalize v.getD (M.iter v k 1) M.zero = c at *
      unfold M.cellCode at hcc
      split at hcc
      · cases hcc
      split at hcc
      · cases hcc
      split at hcc
      · cases hcc
      split at hcc
      · rename_i h4; exact h4.2
      · cases hcc
    refine ⟨⟨?_, .inl rfl, htk, by show (-1000000000000000 : Int) ≤ 0; decide, by show (0 : Int) ≤ 1000000000000000; decide⟩, ?_⟩
    · refine (one_valid (c := ⟨4, 0, (v.getD (M.iter v k 1) M.zero).key, ByteArray.empty, 0⟩) ?_ empty_list rfl).1
      unfold M.cellCode
      simp only
      rw [if_neg (by omega), if_neg (by omega), if_neg (by omega), if_pos ⟨htk, hnull⟩]
    · show getOut v (v.getD (M.iter v k 1) M.zero).key = _
      rw [get_some (.inr h6), getV_hit hk (fun j hj => ?_) (by simp)]
      have hr := keys_rise2 v hv h6 j k hj hk
      rw [beq_eq_false_iff_ne]
      intro e
      rw [e, St.bl_irr] at hr
      cases hr
  · rw [if_neg (by simpa using h6)]
    have h5 : (v.getD 0 M.zero).kind = 5 := by
      by_cases h : (v.getD 0 M.zero).kind = 5
      · exact h
      · have := arity_null hv h h6; omega
    refine ⟨⟨?_, .inr rfl, hnull, by show (-1000000000000000 : Int) ≤ (k : Int); omega, by show (k : Int) ≤ 1000000000000000; omega⟩, ?_⟩
    · refine (one_valid (c := ⟨3, (k : Int), ByteArray.empty, ByteArray.empty, 0⟩) ?_ empty_list rfl).1
      unfold M.cellCode
      simp only
      rw [if_neg (by omega), if_neg (by have := empty_list; simp [this]), if_neg (by omega), if_pos ⟨hnull, hnull⟩]
    · show idxOut v (k : Int) = _
      rw [idx_some (.inr h5), idx_pos hk]
end Al
end Go.Proofs.YtcglddahphkcpaaGreatDoor

namespace Go.Proofs.YtcglddahphkcpaaGreatDoor
open Go.RowKit
set_option linter.unusedVariables false
set_option linter.unusedSimpArgs false

theorem Pth.pl_of {w : World} {a : Option Addr} {ps : List (List M.Cl)} {cs : List M.Cl} (hpl : ps.length = cs.length) (hps : ∀ j, j < cs.length → ps.getD j [] = [cs.getD j M.zero]) (h : LV w a ps) : Pth.PL w a cs := by
  cases cs with
  | nil => exact .inl rfl
  | cons c cs =>
    obtain ⟨g, _, _, _, rfl, hg, _⟩ := h 0 (by rw [hpl]; simp)
    refine .inr ⟨g, 0, rfl, hg, fun i hi => ?_⟩
    obtain ⟨g', b, off, k, e, h1, h2, h3, h4, h5⟩ := h i (by rw [hpl]; exact hi)
    rw [hps i hi] at h2 h3 h5
    simp only [Option.some.injEq, Addr.mk.injEq, and_true] at e
    subst e
    rw [Nat.zero_add]
    exact ⟨b, off, k, h2, h3, h4, h5⟩

set_option maxRecDepth 100000 in
set_option maxHeartbeats 1000000 in
theorem implSetPath_any (v : List M.Cl) (b off cap : Nat) (p : List M.Cl) (b' off' cap' : Nat) (x : List M.Cl) (bx ox cx : Nat) (w : World) (hrow : Row w b off v) (hb : b < w.heap.size) (hn : v.length ≤ 1048576) (hcap : v.length ≤ cap) (hok : ∀ c ∈ v, c.ok) (hrow' : Row w b' off' p) (hb' : b' < w.heap.size) (hn' : p.length ≤ 1048576) (hcap' : p.length ≤ cap') (hc : cap' ≤ 9223372036854775807) (hok' : ∀ c ∈ p, c.ok) (hrowx : Row w bx ox x) (hbx : bx < w.heap.size) (hnx : x.length ≤ 1048576) (hcx : x.length ≤ cx) (hokx : ∀ c ∈ x, c.ok) :
    Calls Tryz.prog 40 #[.slice (some ⟨b, off, none⟩) v.length cap, .slice (some ⟨b', off', none⟩) p.length cap', .slice (some ⟨bx, ox, none⟩) x.length cx] w (Ans w (Pth.setOutP v p x)) := by
  have B0 : ∀ y, Below w.heap.size w (w.alloc y) := fun y => (Below.refl _ _).alloc (Nat.le_refl _) y
  have HA := hide (fun y => pathedFault_any v b off cap p b' off' cap' (w.alloc y) (hrow.below (B0 y) hb) (by simp; omega) hn hcap hok (hrow'.below (B0 y) hb') (by simp; omega) hn' hcap' hc hok')
  have HX := hide (fun W (h : Below w.heap.size w W) => implFault_any x bx ox cx W (hrowx.below h hbx) (Nat.lt_of_lt_of_le hbx h.size) hnx hcx hokx)
  have HB0 := hide B0
  have OK' := hide hok'
  have RX := hide hrowx
  clear B0 hok hok' hokx hrowx
  go_enter Tryz.func40, Tryz.ntmps40
  go_wp2_with fail
  refine ((unhide HA) _).mono ?_
  rintro e1 w1 ⟨rfl, hb1⟩
  have hR : Own w1 w.heap.size 59 [.int .i64 0, .slice none 0 0] := Own.below ⟨_, heap_alloc_new _ _, rfl⟩ hb1 (by simp)
  have B1 : Below w.heap.size w w1 := ((unhide HB0) _).trans (hb1.mono (by simp))
  clear hb1 HA
  generalize hq : Pth.asked v p = q
  by_cases hz : q = 0
  · subst hz
    have EX := hide (fun h => Pth.setP_x (x := x) hq h)
    have EO := hide (fun h => Pth.setP_ok (x := x) hq h)
    obtain ⟨hv, hp⟩ := Pth.asked_no hq
    have hst := Pth.steps hp
    have hpv := (Pth.fault_no hp).1
    have hpl := Pth.lens hpv
    clear hq
    go_wp2_with fail
    refine ((unhide HX) _ B1).mono ?_
    rintro e2 w2 ⟨rfl, hb2⟩
    have B2 : Below w.heap.size w w2 := B1.trans (hb2.mono B1.size)
    have hR2 := hR.below hb2 hR.lt
    have hrow1 := hrow.below B2 hb
    have hb1' : b < w2.heap.size := Nat.lt_of_lt_of_le hb B2.size
    have hrow2 := hrow'.below B2 hb'
    have hb2' : b' < w2.heap.size := Nat.lt_of_lt_of_le hb' B2.size
    clear hb2 HX B1 hR hrow hrow'
    generalize hqx : M.valueFault x = qx at *
    by_cases hzx : qx = 0
    · subst hzx
      have fin := hide ((unhide EO) rfl)
      have HD := hide (List.length_drop (i := 1) (l := p))
      have HSO := hide (stepsOf_any p b' off' cap' w2 hpl.1 hc hcap' hrow2)
      have HG := hide (fun o (r : Row w2 b' o (p.drop 1)) => setSteps_any (p.drop 1) x hqx hst.2.2 v b off cap b' o (cap' - 1) bx ox cx w2 hv hrow1 hb1' hcap r hb2' (by rw [unhide HD]; omega) (by omega) ((unhide RX).below B2 hbx) (Nat.lt_of_lt_of_le hbx B2.size) hcx)
      clear hv hp hst hpv hpl hrow1 hrow2 HD EX EO hqx
      generalize hR2 : Pth.setS v (p.drop 1) x = R at *
      obtain ⟨rc, rl⟩ := R
      clear hR2
      generalize p.drop 1 = cs at *
      go_wp2_with fail
      refine (unhide HSO).mono ?_
      rintro e3 w3 ⟨o, rfl, hw3, hr3⟩
      rw [hw3]
      have HGO := hide ((unhide HG) o hr3)
      clear hw3 w3 hr3 HG HSO
      have hR3 := hR2
      have B3 := B2
      go_wp2_with fail
      refine (unhide HGO).mono ?_
      rintro ec wc ⟨sc, rfl, hrc, hbc⟩
      have hRc := hR3.below hbc hR3.lt
      have r0 := hRc.cell 0
      have r1 := hRc.cell 1
      have z0 := hRc.frozen 0
      have z1 := hRc.frozen 1
      simp only [List.getElem?_cons_zero, List.getElem?_cons_succ] at r0 r1
      have HE := hide (Ans.store hrc B3 hR3.lt hbc)
      obtain ⟨ac, mc, cc, rfl⟩ := hrc.shape
      clear hrc hbc
      go_wp2_with fail
      refine bodyPost_ret (v := .agg #[.int .i64 rc, .slice ac mc cc]) (by simp [results, Tryz.results40, go_sem, r0, r1]) rfl (ans_of (unhide fin) ((unhide HE) _ _).1 ((unhide HE) _ _).2)
    · have fin := hide ((unhide EX) hzx)
      have hz' : (qx == 0) = false := by simp [hzx]
      clear EX EO hv hp hst hpv hpl hrow1 hrow2 hqx
      have r0 := hR2.cell 0
      have r1 := hR2.cell 1
      have z0 := hR2.frozen 0
      have z1 := hR2.frozen 1
      simp only [List.getElem?_cons_zero, List.getElem?_cons_succ] at r0 r1
      go_wp2_with fail
      refine bodyPost_ret (v := .agg #[.int .i64 qx, .slice none 0 0]) (by simp [results, Tryz.results40, go_sem, r0, r1]) rfl (ans_of (unhide fin) (resNil _ _) (store_below B2 _ _))
  · have fin := hide ((Pth.setP_bad (x := x) (by rw [hq]; exact hz)).trans (by rw [hq]))
    have hz' : (q == 0) = false := by simp [hz]
    clear hq HX hrow hrow'
    have r0 := hR.cell 0
    have r1 := hR.cell 1
    have z0 := hR.frozen 0
    have z1 := hR.frozen 1
    simp only [List.getElem?_cons_zero, List.getElem?_cons_succ] at r0 r1
    go_wp2_with fail
    refine bodyPost_ret (v := .agg #[.int .i64 q, .slice none 0 0]) (by simp [results, Tryz.results40, go_sem, r0, r1]) rfl (ans_of (unhide fin) (resNil _ _) (store_below B1 _ _))

end Go.Proofs.YtcglddahphkcpaaGreatDoor

namespace Go.Proofs.YtcglddahphkcpaaGreatDoor
open Go.RowKit
set_option linter.unusedVariables false
set_option linter.unusedSimpArgs false
namespace Al
/-- Blocks of cells, of slices of cells and of texts are kept. -/
def Kq (w w' : World) : Prop := ∀ (k : Nat) (c : Array Value) (t : TypeId), w.heap[k]? = some (Obj.cells c t (0, 0)) → (t = 24 ∨ t = 111 ∨ t = 9) → w'.heap[k]? = w.heap[k]?
theorem Kq.ofBelow {w w' : World} (h : Below w.heap.size w w') : Kq w w' := fun k c t h1 _ => h.block k (Array.getElem?_eq_some_iff.1 h1).1
theorem Kq.own {w w' : World} (h : Kq w w') {b : Nat} {t : TypeId} {xs : List Value} (ho : Own w b t xs) (ht : t = 24 ∨ t = 111 ∨ t = 9) : Own w' b t xs := by
  obtain ⟨c, h1, h2⟩ := ho
  exact ⟨c, (h b c t h1 ht).trans h1, h2⟩
theorem Kq.ownG {w w' : World} (h : Kq w w') {b : Nat} {l : List M.Cl} (ho : OwnG w b 111 l) : OwnG w' b 111 l := by
  obtain ⟨xs, h1, h2⟩ := ho
  exact ⟨xs, h.own h1 (.inr (.inl rfl)), h2⟩
/-- Slices of one cell each. -/
def Sl (w : World) (vs : List Value) (cs : List M.Cl) : Prop := vs.length = cs.length ∧ ∀ i, i < cs.length → ∃ b cap, vs[i]? = some (.slice (some ⟨b, 0, none⟩) 1 cap) ∧ 1 ≤ cap ∧ OwnG w b 111 [cs.getD i M.zero]
theorem Sl.keep {w w' : World} {vs : List Value} {cs : List M.Cl} (h : Sl w vs cs) (hk : Kq w w') : Sl w' vs cs := ⟨h.1, fun i hi => by
  obtain ⟨b, cap, h1, h2, h3⟩ := h.2 i hi
  exact ⟨b, cap, h1, h2, hk.ownG h3⟩⟩
theorem Sl.snoc {w : World} {vs : List Value} {cs : List M.Cl} (h : Sl w vs cs) {c : M.Cl} {b cap : Nat} (hc : 1 ≤ cap) (ho : OwnG w b 111 [c]) : Sl w (vs ++ [.slice (some ⟨b, 0, none⟩) 1 cap]) (cs ++ [c]) := by
  obtain ⟨h1, h2⟩ := h
  refine ⟨by simp [h1], fun i hi => ?_⟩
  by_cases e : i < cs.length
  · obtain ⟨b', cap', q1, q2, q3⟩ := h2 i e
    exact ⟨b', cap', by rw [List.getElem?_append_left (by omega)]; exact q1, q2, by rw [List.getD_eq_getElem?_getD, List.getElem?_append_left e, ← List.getD_eq_getElem?_getD]; exact q3⟩
  · have hi' : i = cs.length := by simp at hi; omega
    subst hi'
    exact ⟨b, cap, by rw [← h1]; simp, hc, by rw [List.getD_eq_getElem?_getD]; simpa using ho⟩
theorem Sl.plain {w : World} {vs : List Value} {cs : List M.Cl} (h : Sl w vs cs) : ∀ u ∈ vs, u.oneCell' = true := by
  intro u hu
  obtain ⟨i, hi, rfl⟩ := List.getElem_of_mem hu
  obtain ⟨b, cap, q1, _⟩ := h.2 i (by rw [← h.1]; exact hi)
  rw [List.getElem?_eq_getElem hi, Option.some.injEq] at q1
  rw [q1]; rfl
/-- A slice that holds steps, each as a list of its own. -/
def PT (w : World) (a : Option Addr) (cs : List M.Cl) : Prop := ∃ vs, Sl w vs cs ∧ (cs = [] ∨ ∃ g o c, a = some ⟨g, o, none⟩ ∧ w.heap[g]? = some (.cells c 24 (0, 0)) ∧ ∀ i, i < cs.length → c.toList[o + i]? = vs[i]?)
theorem PT.keep {w w' : World} {a : Option Addr} {cs : List M.Cl} (h : PT w a cs) (hk : Kq w w') : PT w' a cs := by
  obtain ⟨vs, h1, h2 | ⟨g, o, c, h3, h4, h5⟩⟩ := h
  · exact ⟨vs, h1.keep hk, .inl h2⟩
  · exact ⟨vs, h1.keep hk, .inr ⟨g, o, c, h3, (hk g c _ h4 (.inl rfl)).trans h4, h5⟩⟩
theorem PT.nil (w : World) (a : Option Addr) : PT w a [] := ⟨[], ⟨rfl, fun i hi => by simp at hi⟩, .inl rfl⟩
theorem cell_in {w : World} {g o : Nat} {c : Array Value} {t : TypeId} (h : w.heap[g]? = some (.cells c t (0, 0))) : w.cell? ⟨g, o, none⟩ = c.toList[o]? := Own.cell (xs := c.toList) ⟨c, h, rfl⟩ o
theorem PT.pl {w : World} {a : Option Addr} {cs : List M.Cl} (h : PT w a cs) : Pth.PL w a cs := by
  obtain ⟨vs, h1, h2 | ⟨g, o, c, h3, h4, h5⟩⟩ := h
  · exact .inl h2
  · refine .inr ⟨g, o, h3, (Array.getElem?_eq_some_iff.1 h4).1, fun i hi => ?_⟩
    obtain ⟨b, cap, q1, q2, q3⟩ := h1.2 i hi
    exact ⟨b, 0, cap, by rw [cell_in h4, h5 i hi]; exact q1, q2, q3.lt, q3.row⟩
theorem PT.of_own {w : World} {B : Nat} {v : Value} {vs : List Value} {cs : List M.Cl} (ho : w.ownsRow B 24 1 v cs.length vs) (hs : Sl w vs cs) : ∃ a c, v = .slice a cs.length c ∧ cs.length ≤ c ∧ c ≤ 9223372036854775807 ∧ PT w a cs := by
  obtain ⟨h1, ⟨h2, h3⟩ | ⟨g, cap, cur, h2, h3, h4, h5, h6, h7, h8⟩⟩ := ho
  · have : cs = [] := List.length_eq_zero_iff.1 h3
    subst this
    exact ⟨none, 0, h2, Nat.le_refl _, by omega, PT.nil _ _⟩
  · refine ⟨_, cap, h2, h5, by unfold maxLen at h6; omega, vs, hs, .inr ⟨g, 0, cur, rfl, h4, fun i hi => ?_⟩⟩
    rw [Nat.zero_add, ← h8, List.getElem?_take_of_lt (by omega)]
section
variable {P : Program}
/-- An append of a row that lies somewhere, or of nil. -/
theorem run_row (w : World) (t ty e : TypeId) (i : TypeInfo) (z : Value) (bytes : Nat) (ht : P.underlying t = some (.slice e)) (hi : P.info? e = some i) (hz : i.zero = some z) (hsize : i.size = 1) (hby : i.bytes = bytes) (hzs : z.cells.size = 1)
    (base : Nat) (v : Value) (n : Nat) (xs : List Value) (hown : w.ownsRow base e 1 v n xs) (x : Value) (ys : List Value)
    (hx : (x = .slice none 0 0 ∧ ys = []) ∨ ∃ ad c, x = .slice (some ad) ys.length c ∧ ∀ j u, ys[j]? = some u → w.cell? (ad.add j) = some u) (h1 : ∀ u ∈ ys, u.oneCell' = true)
    (h63 : n + ys.length ≤ maxLen) (hbytes : (n + ys.length) * bytes ≤ 140737488355328) (hbase : base ≤ w.heap.size) :
    ∃ v' w', (Builtin.append_ #[t, t] ty #[v, x]).run P w = .ok v' w' ∧ w'.ownsRow base e 1 v' (n + ys.length) (xs ++ ys) ∧ w.grownBy w' v.ownBlock := by
  rcases hx with ⟨rfl, rfl⟩ | ⟨ad, c, rfl, hc⟩
  · exact ⟨v, w, run_append_owned_none (P := P) (w := w) base t ty e i 1 ht hi v n xs hown, by simpa using hown, ⟨rfl, rfl, rfl, Nat.le_refl _, fun _ _ _ => rfl⟩⟩
  · obtain ⟨v', w', hr, h2, h3, _⟩ := run_append_own (P := P) w base t ty e i z 1 bytes ht hi hz hsize hby hzs (by decide) v n xs hown ad ys.length c ys (by simp) hc h1 h63 hbytes hbase
    exact ⟨v', w', hr, h2, h3⟩
theorem wp_row (w : World) {o : Oper} {a : Act} {K : Act → World → Prop} {Q : Exit → Act → World → Prop} (s x : Operand) (t : TypeId) (ho : o.op = .call { callee := .builtin .append, args := #[s, x], argTypes := #[t, t] })
    (e : TypeId) (i : TypeInfo) (z : Value) (bytes : Nat) (ht : P.underlying t = some (.slice e)) (hi : P.info? e = some i) (hz : i.zero = some z) (hsize : i.size = 1) (hby : i.bytes = bytes) (hzs : z.cells.size = 1)
    (base : Nat) (v : Value) (n : Nat) (xs : List Value) (hs : a.eval s = v) (hown : w.ownsRow base e 1 v n xs) (xv : Value) (hxv : a.eval x = xv) (ys : List Value)
    (hx : (xv = .slice none 0 0 ∧ ys = []) ∨ ∃ ad c, xv = .slice (some ad) ys.length c ∧ ∀ j u, ys[j]? = some u → w.cell? (ad.add j) = some u) (h1 : ∀ u ∈ ys, u.oneCell' = true)
    (h63 : n + ys.length ≤ maxLen) (hbytes : (n + ys.length) * bytes ≤ 140737488355328) (hbase : base ≤ w.heap.size)
    (h : ∀ v' w', w'.ownsRow base e 1 v' (n + ys.length) (xs ++ ys) → w.grownBy w' v.ownBlock → K (a.put o.dst v') w') : Oper.wp P o a w K Q := by
  obtain ⟨v', w', hr, h2, h3⟩ := run_row (P := P) w t o.type e i z bytes ht hi hz hsize hby hzs base v n xs hown xv ys hx h1 h63 hbytes hbase
  unfold Oper.wp execOp
  simp only [ho, resolve, invoke, builtin, Sem.run_bind, Sem.run_pure, Result.andThen_ok, List.map_toArray, List.map_cons, List.map_nil, hs, hxv, hr]
  exact h v' w' h2 h3
theorem wpList_row {w : World} {ops : Array Oper} {rest : List Oper} {o : Oper} {a : Act} {Q : Exit → Act → World → Prop} (hgd : o.guard = none) (s x : Operand) (t : TypeId) (ho : o.op = .call { callee := .builtin .append, args := #[s, x], argTypes := #[t, t] })
    (e : TypeId) (i : TypeInfo) (z : Value) (bytes : Nat) (ht : P.underlying t = some (.slice e)) (hi : P.info? e = some i) (hz : i.zero = some z) (hsize : i.size = 1) (hby : i.bytes = bytes) (hzs : z.cells.size = 1)
    (base : Nat) (v : Value) (n : Nat) (xs : List Value) (hs : a.eval s = v) (hown : w.ownsRow base e 1 v n xs) (xv : Value) (hxv : a.eval x = xv) (ys : List Value)
    (hx : (xv = .slice none 0 0 ∧ ys = []) ∨ ∃ ad c, xv = .slice (some ad) ys.length c ∧ ∀ j u, ys[j]? = some u → w.cell? (ad.add j) = some u) (h1 : ∀ u ∈ ys, u.oneCell' = true)
    (h63 : n + ys.length ≤ maxLen) (hbytes : (n + ys.length) * bytes ≤ 140737488355328) (hbase : base ≤ w.heap.size)
    (h : ∀ v' w', w'.ownsRow base e 1 v' (n + ys.length) (xs ++ ys) → w.grownBy w' v.ownBlock → wpList P ops Q rest (a.put o.dst v') w') : wpList P ops Q (o :: rest) a w := by
  refine wpList_plain hgd fun K hK => ?_
  exact wp_row w s x t ho e i z bytes ht hi hz hsize hby hzs base v n xs hs hown xv hxv ys hx h1 h63 hbytes hbase fun v' w' h2 h3 => hK _ _ (h v' w' h2 h3)
end
end Al
end Go.Proofs.YtcglddahphkcpaaGreatDoor
