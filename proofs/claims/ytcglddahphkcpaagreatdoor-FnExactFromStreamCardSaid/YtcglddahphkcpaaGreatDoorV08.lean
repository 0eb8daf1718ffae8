/-
  The words of a list of cells, one behind the other: how a row that was grown by append holds them.
  impl.appendPart lays a copy of a part behind a row of the call's own and gives its first cell a key.
  The places of a value: whether a place is one, and where the value at it ends, by the program and by its model.
  A part of a value by itself: spec.l1Part, spec.PartAt and impl.PartAt.
-/
import Derived.Test.YtcglddahphkcpaaGreatDoorV05
import Derived.Test.YtcglddahphkcpaaGreatDoorV06
import Derived.Test.YtcglddahphkcpaaGreatDoorV07
namespace Go.Proofs.YtcglddahphkcpaaGreatDoor
open Go.RowKit
set_option linter.unusedVariables false

def flat (l : List M.Cl) : List Value := l.flatMap M.Cl.vals
def setKey (l : List M.Cl) (k : ByteArray) : List M.Cl := match l with | [] => [] | c :: r => { c with key := k } :: r

theorem flat_cons (c : M.Cl) (l : List M.Cl) : flat (c :: l) = c.vals ++ flat l := rfl
theorem flat_append (a b : List M.Cl) : flat (a ++ b) = flat a ++ flat b := by simp [flat]
theorem flat_length (l : List M.Cl) : (flat l).length = l.length * 5 := by
  induction l with
  | nil => rfl
  | cons c l ih => rw [flat_cons, List.length_append, ih]; simp [M.Cl.vals]; omega

theorem flat_get (l : List M.Cl) (i j : Nat) (hi : i < l.length) (hj : j < 5) : (flat l)[i * 5 + j]? = ((l.getD i M.zero).vals)[j]? := by
  induction l generalizing i with
  | nil => simp at hi
  | cons c l ih =>
    rw [flat_cons]
    have hl : c.vals.length = 5 := rfl
    cases i with
    | zero => rw [List.getElem?_append_left (by omega)]; simp
    | succ i =>
      rw [List.getElem?_append_right (by omega), show (i + 1) * 5 + j - c.vals.length = i * 5 + j from by omega, List.getD_cons_succ]
      exact ih i (by simpa using hi)

theorem row_words {w : World} {b off : Nat} {l : List M.Cl} (h : Row w b off l) : ∀ j u, (flat l)[j]? = some u → w.cell? ((⟨b, off, none⟩ : Addr).add j) = some u := by
  intro j u hu
  have hj : j < l.length * 5 := by
    have := (List.getElem?_eq_some_iff.1 hu).1
    rwa [flat_length] at this
  have hd : j = (j / 5) * 5 + j % 5 := by omega
  have hi : j / 5 < l.length := by omega
  have hm : j % 5 < 5 := by omega
  rw [hd, flat_get l (j / 5) (j % 5) hi hm] at hu
  have ha : (⟨b, off, none⟩ : Addr).add j = ⟨b, off + j, none⟩ := by simp [Addr.add]
  rw [ha]
  obtain ⟨c0, c1, c2, c3, c4⟩ := h (j / 5) hi
  have e : off + j = off + j / 5 * 5 + j % 5 := by omega
  rw [e]
  generalize j % 5 = r at *
  match r, hm with
  | 0, _ => simp only [M.Cl.vals, List.getElem?_cons_zero, Option.some.injEq] at hu; subst hu; exact c0
  | 1, _ => simp only [M.Cl.vals, List.getElem?_cons_zero, List.getElem?_cons_succ, Option.some.injEq] at hu; subst hu; exact c1
  | 2, _ => simp only [M.Cl.vals, List.getElem?_cons_zero, List.getElem?_cons_succ, Option.some.injEq] at hu; subst hu; exact c2
  | 3, _ => simp only [M.Cl.vals, List.getElem?_cons_zero, List.getElem?_cons_succ, Option.some.injEq] at hu; subst hu; exact c3
  | 4, _ => simp only [M.Cl.vals, List.getElem?_cons_zero, List.getElem?_cons_succ, Option.some.injEq] at hu; subst hu; exact c4

theorem flat_one (l : List M.Cl) : ∀ u ∈ flat l, u.oneCell' = true := by
  intro u hu
  simp only [flat, List.mem_flatMap] at hu
  obtain ⟨c, _, hc⟩ := hu
  simp only [M.Cl.vals, List.mem_cons, List.not_mem_nil, or_false] at hc
  rcases hc with rfl | rfl | rfl | rfl | rfl <;> rfl

/-- An owned row of cells is an answer's row. -/
theorem res_of_owns {w : World} {B : Nat} {v : Value} {l : List M.Cl} (h : w.ownsRow B 111 5 v l.length (flat l)) (hn : l.length ≤ 1048576) : Res w B v l := by
  obtain ⟨h1, ⟨rfl, h2⟩ | ⟨g, cap, cur, rfl, hg, hh, hnc, hcm, hcs, ht⟩⟩ := h
  · exact ⟨hn, .inl ⟨rfl, List.length_eq_zero_iff.1 h2⟩⟩
  · refine ⟨hn, .inr ⟨g, cap, rfl, hg, hnc, ⟨cur.toList, ⟨cur, hh, rfl⟩, ?_, ?_⟩⟩⟩
    · simp only [Array.length_toList]; rw [hcs]; exact Nat.mul_le_mul_right 5 hnc
    · intro i hi
      have key : ∀ j, j < 5 → cur.toList[i * 5 + j]? = ((l.getD i M.zero).vals)[j]? := by
        intro j hj
        rw [← flat_get l i j hi hj, ← ht, List.getElem?_take, if_pos (by omega)]
      exact ⟨key 0 (by omega), key 1 (by omega), key 2 (by omega), key 3 (by omega), key 4 (by omega)⟩

/-- The first cell of what was laid behind l gets a key. -/
theorem flat_setKey (l p : List M.Cl) (k : ByteArray) (hp : p ≠ []) : (flat (l ++ p)).set (l.length * 5 + 3) (.string k) = flat (l ++ setKey p k) := by
  cases p with
  | nil => exact absurd rfl hp
  | cons c r =>
    rw [flat_append, flat_append, List.set_append_right _ _ (by rw [flat_length]; omega), flat_length]
    rw [show l.length * 5 + 3 - l.length * 5 = 3 from by omega]
    simp only [setKey, flat_cons]
    rfl
theorem setKey_length (p : List M.Cl) (k : ByteArray) : (setKey p k).length = p.length := by cases p <;> rfl

end Go.Proofs.YtcglddahphkcpaaGreatDoor

namespace Go.Proofs.YtcglddahphkcpaaGreatDoor
open Go.RowKit
set_option linter.unusedVariables false

set_option maxHeartbeats 1000000 in
theorem appendPart_any (base : Nat) (v : Value) (l p : List M.Cl) (b off c : Nat) (key : ByteArray) (w : World) (hown : w.ownsRow base 111 5 v l.length (flat l)) (hrow : Row w b off p) (hp : p ≠ []) (hn : l.length + p.length ≤ 1048576) (hbase : base ≤ w.heap.size) :
    Calls Tryz.prog 157 #[v, .slice (some ⟨b, off, none⟩) p.length c, .string key] w fun e w' => ∃ v', e = .returned v' ∧ w'.ownsRow base 111 5 v' (l ++ setKey p key).length (flat (l ++ setKey p key)) ∧ Below base w w' := by
  obtain ⟨i0, hi, hz0, hz1, hz2⟩ := info_parts Tryz.info111
  have hnews := hide (row_words hrow)
  have hone := hide (flat_one p)
  have hfl := flat_length p
  have HFL := hide hfl
  have hset := hide (flat_setKey l p key hp)
  have hpl : 0 < p.length := List.length_pos_iff.2 hp
  have hlen : (l ++ setKey p key).length = l.length + p.length := by rw [List.length_append, setKey_length]
  have HLEN := hide hlen
  have hb63 : l.length + p.length ≤ maxLen := by unfold maxLen; omega
  have hby : (l.length + p.length) * 56 ≤ 140737488355328 := by omega
  have HOWN := hide hown
  have fin : ∀ (vv : Value) (ww : World) (g cap : Nat), vv = .slice (some ⟨g, 0, none⟩) (l.length + p.length) cap → ww.ownsRow base 111 5 vv (l.length + p.length) (flat l ++ flat p) → Below base w ww → base ≤ g →
      (ww.setCell ⟨g, l.length * 5 + 3, none⟩ (.string key)).ownsRow base 111 5 vv (l ++ setKey p key).length (flat (l ++ setKey p key)) ∧ Below base w (ww.setCell ⟨g, l.length * 5 + 3, none⟩ (.string key)) := by
    rintro vv ww g cap rfl ho hb hg
    have h1 := (ho.stored (l.length * 5 + 3) (.string key)).1
    rw [← flat_append, unhide hset] at h1
    rw [unhide HLEN]
    exact ⟨h1, hb.setCell hg _⟩
  have FIN := hide fin
  clear hfl hlen fin hp hrow
  rcases hown.2 with ⟨rfl, hl0⟩ | ⟨g, cap, cur, rfl, hg, hh, hnc, hcm, hcs, htake⟩
  · clear hown
    have HL0 := hide hl0
    clear hl0
    go_enter Tryz.func157, Tryz.ntmps157
    go_wp2_with (at_builtin; refine wpList_append_own _ rfl (.tmp 10) (.tmp 11) 24 rfl base 111 i0 _ 5 56 Tryz.underlying24 hi hz0 hz1 hz2 rfl (by decide) (.slice none 0 0) l.length (flat l) rfl (unhide HOWN) ⟨b, off, none⟩ p.length c (flat p) rfl (unhide HFL) (unhide hnews) (unhide hone) hb63 hby hbase ?_)
    intro v' w1 ho1 hg1 hnil
    have hsh : ∃ g cap, v' = .slice (some ⟨g, 0, none⟩) (l.length + p.length) cap ∧ base ≤ g ∧ l.length + p.length ≤ cap := by
      rcases ho1.2 with ⟨_, h⟩ | ⟨g, cap, cur, h, h2, _, h3, _⟩
      · omega
      · exact ⟨g, cap, h, h2, h3⟩
    obtain ⟨g, cap, hv, hgb, hcap⟩ := hsh
    have B1 : Below base w w1 := (Below.refl base w).grown hg1 hbase (fun k hk => by simp [Value.ownBlock] at hk)
    have F := (unhide FIN) v' w1 g cap hv ho1 B1 hgb
    rw [unhide HL0] at F ho1 hv hcap
    subst hv
    have hz := ho1.frozenAt 3
    obtain ⟨u, hu⟩ := some_of_lt (xs := flat l ++ flat p) (j := 3) (by rw [List.length_append, unhide HFL]; omega)
    have hc := (ho1.cellAt 3 (by omega)).trans hu
    clear hu ho1 hg1 hnil
    have HF := hide F
    clear F
    simp only [Nat.zero_add] at hcap ⊢
    go_wp2_with fail
    go_ret
    have F := unhide HF
    simp only [Nat.zero_mul, Nat.zero_add] at F
    exact ⟨_, rfl, F.1, F.2⟩
  · clear hown hh hcs htake
    unfold maxLen at hcm
    go_enter Tryz.func157, Tryz.ntmps157
    go_wp2_with (at_builtin; refine wpList_append_own _ rfl (.tmp 10) (.tmp 11) 24 rfl base 111 i0 _ 5 56 Tryz.underlying24 hi hz0 hz1 hz2 rfl (by decide) (.slice (some ⟨g, 0, none⟩) l.length cap) l.length (flat l) rfl (unhide HOWN) ⟨b, off, none⟩ p.length c (flat p) rfl (unhide HFL) (unhide hnews) (unhide hone) hb63 hby hbase ?_)
    intro v' w1 ho1 hg1 hnil
    have hsh : ∃ g cap, v' = .slice (some ⟨g, 0, none⟩) (l.length + p.length) cap ∧ base ≤ g ∧ l.length + p.length ≤ cap := by
      rcases ho1.2 with ⟨_, h⟩ | ⟨g, cap, cur, h, h2, _, h3, _⟩
      · omega
      · exact ⟨g, cap, h, h2, h3⟩
    obtain ⟨g', cap', hv, hgb, hcap⟩ := hsh
    have B1 : Below base w w1 := (Below.refl base w).grown hg1 hbase (fun k hk => by simp only [Value.ownBlock, Option.some.injEq] at hk; omega)
    have F := (unhide FIN) v' w1 g' cap' hv ho1 B1 hgb
    subst hv
    have hz := ho1.frozenAt (l.length * 5 + 3)
    obtain ⟨u, hu⟩ := some_of_lt (xs := flat l ++ flat p) (j := l.length * 5 + 3) (by rw [List.length_append, flat_length, flat_length]; omega)
    have hc := (ho1.cellAt (l.length * 5 + 3) (by omega)).trans hu
    clear hu ho1 hg1 hnil
    have HF := hide F
    clear F
    go_wp2_with fail
    go_ret
    exact ⟨_, rfl, (unhide HF).1, (unhide HF).2⟩

end Go.Proofs.YtcglddahphkcpaaGreatDoor

namespace Go.Proofs.YtcglddahphkcpaaGreatDoor
open Go.RowKit
set_option linter.unusedVariables false

/-- The code of a place. -/
def asked (v : List M.Cl) (at' : Int) : Int := if M.valueFault v ≠ 0 then M.valueFault v else if at' < 0 ∨ (v.length : Int) ≤ at' then 3 else 0

set_option maxHeartbeats 1000000 in
theorem l1End_any (v : List M.Cl) (b off cap a : Nat) (w : World) (hv : M.valueFault v = 0) (ha : a < v.length) (hrow : Row w b off v) (hb : b < w.heap.size) (hcap : v.length ≤ cap) (hok : ∀ c ∈ v, c.ok) :
    Calls Tryz.prog 130 #[.slice (some ⟨b, off, none⟩) v.length cap, .int .i64 a] w fun e w' => e = .returned (.int .i64 (M.endOf v a)) ∧ Below w.heap.size w w' := by
  obtain ⟨d, h1, h2, h3, h4⟩ := M.endOf_spec hv a ha
  have hl := (M.fault_zero hv).2.1
  have IH := hide (l1Shape_any v b off cap hl hcap hok v.length (by omega))
  clear hok hv
  have H1 := hide h1
  clear h1
  go_enter Tryz.func130, Tryz.ntmps130
  go_wp2_with fail
  refine ((unhide IH) a 0 _ (by omega) ha (by omega) (by omega) hrow hb).mono ?_
  rintro e1 w1 ⟨rfl, hb1⟩
  rw [unhide H1]
  simp only [shOut]
  go_wp2_with fail
  go_ret
  exact ⟨rfl, hb1⟩

set_option maxHeartbeats 1000000 in
theorem endOf_any (v : List M.Cl) (b off cap a : Nat) (w : World) (hv : M.valueFault v = 0) (ha : a < v.length) (hrow : Row w b off v) (hb : b < w.heap.size) (hcap : v.length ≤ cap) :
    Calls Tryz.prog 162 #[.slice (some ⟨b, off, none⟩) v.length cap, .int .i64 a] w fun e w' => e = .returned (.int .i64 (M.endOf v a)) ∧ w' = w := by
  obtain ⟨d, h1, h2, h3, h4⟩ := M.endOf_spec hv a ha
  have hl := (M.fault_zero hv).2.1
  have hfit := hide (M.fits_of hv)
  have how := hide (M.walk_owe (M.fits_of hv) v.length a _ d h1)
  clear hv h1
  generalize M.endOf v a = z at *
  go_enter Tryz.func162, Tryz.ntmps162
  go_wp2_with fail
  go_loop [1, 5] (fun s1 s5 => ∃ (p : Nat) (q : Int), s1 = .int .i64 p ∧ s5 = .int .i64 q ∧ a ≤ p ∧ p ≤ z ∧ Hid (q = 1 + M.owe v a (p - a))) (fun s1 _ => z - (intOf s1).toNat)
  case atStart => exact ⟨a, 1, rfl, rfl, Nat.le_refl _, by omega, by simp [Hid, M.owe]⟩
  case round =>
    obtain ⟨p, q, rfl, rfl, hp1, hp2, hq⟩ := hrel
    by_cases hlt : p < z
    · have hpos := (unhide how).2.2 p hp1 hlt
      have q0 : 0 < q := by have := hq.out; omega
      have q1 : q ≤ 40000 := by have := hq.out; have := (M.owe_bd (unhide hfit) a (p - a)).2; omega
      have hN := M.fits_getD (unhide hfit) p
      obtain ⟨f0, f1, f2, f3, f4⟩ := hrow p (by omega)
      clear f0 f1 f2 f3
      have hstep : M.owe v a (p + 1 - a) = M.owe v a (p - a) + ((v.getD p M.zero).n - 1) := by
        rw [show p + 1 - a = (p - a) + 1 from by omega, M.owe, show a + (p - a) = p from by omega]
      have hs := hide hstep
      clear hstep hpos
      generalize v.getD p M.zero = c at *
      obtain ⟨n0, n1⟩ := hN
      go_wp2
      go_round
      case rel => exact ⟨p + 1, _, by go_num, rfl, by omega, by omega, by show _ = _; rw [unhide hs]; have := hq.out; omega⟩
      case measure => simp [intOf]; omega
    · have hpz : p = z := by omega
      have q0 : q = 0 := by have := hq.out; have := (unhide how).2.1; rw [hpz] at *; omega
      subst q0
      subst hpz
      go_wp2
      go_ret
      exact ⟨rfl, rfl⟩

end Go.Proofs.YtcglddahphkcpaaGreatDoor

namespace Go.Proofs.YtcglddahphkcpaaGreatDoor
open Go.RowKit
set_option linter.unusedVariables false

/-- The cells of the value at a place. -/
def cut (v : List M.Cl) (a e : Nat) : List M.Cl := (v.drop a).take (e - a)
theorem cut_length (v : List M.Cl) (a e : Nat) (h : e ≤ v.length) : (cut v a e).length = e - a := by unfold cut; rw [List.length_take, List.length_drop]; omega
theorem cut_getD (v : List M.Cl) (a e i : Nat) (hi : i < e - a) : (cut v a e).getD i M.zero = v.getD (a + i) M.zero := by
  unfold cut; rw [List.getD_eq_getElem?_getD, List.getD_eq_getElem?_getD, List.getElem?_take, if_pos hi, List.getElem?_drop]
theorem Row.cut {w : World} {b off : Nat} {v : List M.Cl} (h : Row w b off v) (a e : Nat) (he : e ≤ v.length) : Row w b (off + a * 5) (cut v a e) := by
  intro i hi
  rw [cut_length v a e he] at hi
  rw [cut_getD v a e i hi]
  have := h (a + i) (by omega)
  rwa [show off + (a + i) * 5 = off + a * 5 + i * 5 from by omega] at this

/-- The part at a place, its first cell without a key. -/
def part (v : List M.Cl) (a : Nat) : List M.Cl := setKey (cut v a (M.endOf v a)) ByteArray.empty

set_option maxHeartbeats 1000000 in
theorem l1Part_any (v : List M.Cl) (b off cap a : Nat) (w : World) (hv : M.valueFault v = 0) (ha : a < v.length) (hrow : Row w b off v) (hb : b < w.heap.size) (hcap : v.length ≤ cap) (hok : ∀ c ∈ v, c.ok) :
    Calls Tryz.prog 72 #[.slice (some ⟨b, off, none⟩) v.length cap, .int .i64 a] w fun e w' => ∃ s, e = .returned s ∧ Res w' w.heap.size s (part v a) ∧ Below w.heap.size w w' := by
  obtain ⟨d, _, h2, h3, h4⟩ := M.endOf_spec hv a ha
  have hl := (M.fault_zero hv).2.1
  have HC := hide (fun w' (r : Row w' b off v) hb' => l1End_any v b off cap a w' hv ha r hb' hcap hok)
  have HP := hide (show part v a = setKey (cut v a (M.endOf v a)) ByteArray.empty from rfl)
  clear hv hok
  generalize hz : M.endOf v a = z at *
  obtain ⟨i0, hi, hz0, hz1, hz2⟩ := info_parts Tryz.info111
  have hcl := cut_length v a z h3
  have HCL := hide hcl
  have hne : cut v a z ≠ [] := by intro h; rw [h] at hcl; simp at hcl; omega
  have hset := hide (flat_setKey [] (cut v a z) ByteArray.empty hne)
  clear hcl hne
  have h63 : 0 + (z - a) ≤ maxLen := by unfold maxLen; omega
  have hby : (0 + (z - a)) * 56 ≤ 140737488355328 := by omega
  have B0 : ∀ o, Below w.heap.size w (w.alloc o) := fun o => (Below.refl _ _).alloc (Nat.le_refl _) o
  have HB0 := hide B0
  clear B0
  go_enter Tryz.func72, Tryz.ntmps72
  go_wp2_with fail
  refine ((unhide HC) _ (hrow.below ((unhide HB0) _) hb) (by simp; omega)).mono ?_
  rintro e w1 ⟨rfl, hb1⟩
  have hO : Own w1 w.heap.size 111 [] := Own.below ⟨_, heap_alloc_new _ _, rfl⟩ hb1 (by simp)
  have hown : w1.ownsRow w.heap.size 111 5 (.slice (some ⟨w.heap.size, 0, none⟩) 0 0) 0 [] := by
    obtain ⟨cs, h1, h2⟩ := hO
    exact ⟨rfl, .inr ⟨w.heap.size, 0, cs, rfl, Nat.le_refl _, h1, Nat.le_refl _, by simp [maxLen], by rw [← Array.length_toList, h2]; rfl, by simp⟩⟩
  have HOWN := hide hown
  have B1 : Below w.heap.size w w1 := ((unhide HB0) _).trans (hb1.mono (by simp))
  have hnews := hide (row_words ((hrow.below B1 hb).cut a z h3))
  have hone := hide (flat_one (cut v a z))
  have hfl : (flat (cut v a z)).length = (z - a) * 5 := by rw [flat_length, unhide HCL]
  have HFL := hide hfl
  have hbase : w.heap.size ≤ w1.heap.size := B1.size
  clear hO hown hfl hb1
  go_wp2_with (at_builtin; refine wpList_append_own _ rfl (.tmp 6) (.tmp 12) 24 rfl w.heap.size 111 i0 _ 5 56 Tryz.underlying24 hi hz0 hz1 hz2 rfl (by decide) (.slice (some ⟨w.heap.size, 0, none⟩) 0 0) 0 [] rfl (unhide HOWN) ⟨b, off + a * 5, none⟩ (z - a) (cap - a) (flat (cut v a z)) rfl (unhide HFL) (unhide hnews) (unhide hone) h63 hby hbase ?_)
  intro v' w2 ho2 hg2 hnil
  try simp only [Nat.zero_add, List.nil_append] at ho2
  have hsh : ∃ g cap, v' = .slice (some ⟨g, 0, none⟩) (z - a) cap ∧ w.heap.size ≤ g ∧ z - a ≤ cap := by
    rcases ho2.2 with ⟨_, h⟩ | ⟨g, cap, cur, h, h2, _, h3, _⟩
    · omega
    · exact ⟨g, cap, h, h2, h3⟩
  obtain ⟨g, cap', hv', hgb, hcap'⟩ := hsh
  have B2 : Below w.heap.size w w2 := B1.grown hg2 hbase (fun k hk => by simp only [Value.ownBlock, Option.some.injEq] at hk; omega)
  subst hv'
  have hz3 := ho2.frozenAt 3
  obtain ⟨u, hu⟩ := some_of_lt (xs := flat (cut v a z)) (j := 3) (by rw [unhide HFL]; omega)
  have hc3 := (ho2.cellAt 3 (by omega)).trans hu
  have hR : Res (w2.setCell ⟨g, 3, none⟩ (.string ByteArray.empty)) w.heap.size (.slice (some ⟨g, 0, none⟩) (z - a) cap') (part v a) := by
    have h1 := (ho2.stored 3 (.string ByteArray.empty)).1
    have h5 := unhide hset
    simp only [List.nil_append, List.length_nil, Nat.zero_mul, Nat.zero_add] at h5
    rw [h5] at h1
    have h6 : (setKey (cut v a z) ByteArray.empty).length = z - a := by rw [setKey_length, unhide HCL]
    rw [unhide HP]
    exact res_of_owns (by rw [h6]; exact h1) (by rw [h6]; omega)
  have HR := hide hR
  clear hR ho2 hg2 hnil hu B1 hnews hone HOWN hbase
  go_wp2_with fail
  go_ret
  exact ⟨_, rfl, unhide HR, B2.setCell hgb _⟩

end Go.Proofs.YtcglddahphkcpaaGreatDoor
