/-
  impl.CodeText.
-/
import Derived.Test.YtfmljlhcaimafaaDoorInX
import Derived.Deep.RegionWith
import Derived.Deep.RegionHeld3
import Derived.Deep.RegionHeldLaw
import Derived.Deep.AppendLies
import Derived.Maps.AppendAt
import Derived.Lib.AppendStr
namespace Go.Proofs.YtfmljlhcaimafaaDoor
open Go.RowKit
set_option linter.unusedVariables false
set_option linter.unusedSimpArgs false

namespace Ic
section
variable {P : Program} (w : World)
theorem step_append_any {ops : Array Oper} {o : Oper} {a : Act} {K : Act → World → Prop} {Q : Exit → Act → World → Prop} {E : Prop} (hgd : o.guard = none) (s x : Operand) (t : TypeId)
    (ho : o.op = .call { callee := .builtin .append, args := #[s, x], argTypes := #[t, t] })
    (base : Nat) (e : TypeId) (i : TypeInfo) (z : Value) (size bytes : Nat) (ht : P.underlying t = some (.slice e)) (hi : P.info? e = some i) (hz : i.zero = some z)
    (hsize : i.size = size) (hby : i.bytes = bytes) (hzs : z.cells.size = size) (hsz : 0 < size)
    (v : Value) (n : Nat) (xs : List Value) (hs : a.eval s = v) (hown : w.ownsRow base e size v n xs)
    (ad : Addr) (m c : Nat) (news : List Value) (hx : a.eval x = .slice (some ad) m c) (hl : news.length = m * size) (hnews : ∀ j u, news[j]? = some u → w.cell? (ad.add j) = some u) (h1 : ∀ u ∈ news, u.oneCell' = true)
    (h63 : n + m ≤ maxLen) (hbytes : (n + m) * bytes ≤ 140737488355328) (hbase : base ≤ w.heap.size)
    (h : ∀ v' w', w'.ownsRow base e size v' (n + m) (xs ++ news) → w.grownBy w' v.ownBlock → K (a.put o.dst v') w') :
    if Region.wanted o (yielded ops a.tmps) = true then Oper.wp P o a w K Q else E := by
  have hw : Region.wanted o (yielded ops a.tmps) = true := by simp [Region.wanted, hgd]
  rw [if_pos hw]
  obtain ⟨v', w', hr, h2, h3, _⟩ := run_append_own_at (P := P) w base t o.type e i z size bytes ht hi hz hsize hby hzs hsz v n xs hown ad m c news hl hnews h1 h63 hbytes hbase
  unfold Oper.wp execOp
  simp only [ho, resolve, invoke, builtin, Sem.run_bind, Sem.run_pure, Result.andThen_ok, List.map_toArray, List.map_cons, List.map_nil, hs, hx, hr]
  exact h v' w' h2 h3
end
end Ic

set_option maxRecDepth 100000 in
set_option maxHeartbeats 8000000 in
theorem implCodeText_any (b : Nat) (l : List Ic) (rg : Int) (w : World) (hrow : Ic.Row w b l) (hb : b < w.heap.size) (hsz : ∀ i, i < l.length → (l.getD i Ic.zero).val.length ≤ 1048576) (hok : ∀ c ∈ l, c.ok) (hn : l.length ≤ 1048576) (hS : Shp w) (htab : Lib.TabBelow Tryd.prog w.heap.size w "internal/strconv.uint64pow10" .u64 Lib.pow10Tab) :
    Calls Tryd.prog 22 #[.slice (some ⟨b, 0, none⟩) l.length l.length, .int .i64 rg] w fun e w' => e = .returned (.agg #[.int .i64 (Ic.textOut l rg).1, .string (Ic.textOut l rg).2]) ∧ Below w.heap.size w w' := by
  have HR := hide hrow
  have HK := hide hok
  have HT := hide htab
  have HS := hide hS
  obtain ⟨i0, hi, hz0, hz1, hz2⟩ := info_parts Tryd.info5
  obtain ⟨w0, hw0⟩ : ∃ w0, w0 = w.alloc (.cells #[.int .i64 0, .string ByteArray.empty] 41) := ⟨_, rfl⟩
  have B0 : Below w.heap.size w w0 := by rw [hw0]; exact (Below.refl _ _).alloc (Nat.le_refl _) _
  have hX0 : Own w0 w.heap.size 41 [.int .i64 0, .string ByteArray.empty] := by rw [hw0]; exact ⟨_, heap_alloc_new _ _, rfl⟩
  have HC := hide (implCode_any b l rg w0 (hrow.below B0 hb) (Nat.lt_of_lt_of_le hb B0.size) hsz hok hn (hS.below B0))
  clear hrow hok htab hS
  go_enter Tryd.func22, Tryd.ntmps22
  go_wp2_with fail
  try (rw [show (w.alloc (.cells #[.int .i64 0, .string { data := #[] }] 41)) = w0 from hw0.symm])
  clear hw0
  refine (unhide HC).mono ?_
  rintro e w1 ⟨rfl, hb1⟩
  have B1 : Below w.heap.size w w1 := B0.trans (hb1.mono B0.size)
  have hX1 := hX0.below hb1 hX0.lt
  clear HC hb1 hX0 B0
  obtain ⟨fa, hfa⟩ : ∃ fa, fa = (Ic.fault l rg).2 := ⟨_, rfl⟩
  rw [← hfa]
  clear hfa
  by_cases hf : (Ic.fault l rg).1 = 0
  case neg =>
    have fin := hide (show Ic.textOut l rg = ((Ic.fault l rg).1, ByteArray.empty) by unfold Ic.textOut; rw [if_pos hf])
    generalize (Ic.fault l rg).1 = q at *
    have g1 : (q != 0) = true := by simpa using hf
    obtain ⟨w2, hw2⟩ : ∃ w2, w2 = w1.alloc (.cells #[.int .i64 q, .int .i64 fa, .slice none 0 0, .int .i64 0] 26) := ⟨_, rfl⟩
    have B2 : Below w.heap.size w w2 := by rw [hw2]; exact B1.alloc B1.size _
    have hX2 : Own w2 w.heap.size 41 [.int .i64 0, .string ByteArray.empty] := by rw [hw2]; exact hX1.alloc _
    have C2 : Own w2 w1.heap.size 26 [.int .i64 q, .int .i64 fa, .slice none 0 0, .int .i64 0] := by rw [hw2]; exact ⟨_, heap_alloc_new _ _, rfl⟩
    have c0 := C2.cell 0
    have r0 := hX2.cell 0
    have r1 := hX2.cell 1
    have z0 := hX2.frozen 0
    have z1 := hX2.frozen 1
    simp only [List.getElem?_cons_zero, List.getElem?_cons_succ] at r0 r1 c0
    rw [hw2] at c0 r0 r1 z0 z1
    go_wp2_with fail
    rw [← hw2] at r0 r1 z0 z1 c0
    try rw [← hw2]
    refine bodyPost_ret (v := .agg #[.int .i64 q, .string ByteArray.empty]) (by simp [results, Tryd.results22, go_sem, r0, r1]; try rfl) rfl ⟨by rw [unhide fin], ?_⟩
    exact (B2.setCell (Nat.le_refl _) _).setCell (Nat.le_refl _) _
  case pos =>
  obtain ⟨⟨hr0, hr1⟩, ⟨hl1, hl6⟩, hone, _⟩ := Ic.fault_parts hf
  have fin := hide (show Ic.textOut l rg = (0, J.bytes (Ic.linesT l l.length)) by unfold Ic.textOut; rw [if_neg (by simpa using hf)])
  have HO := hide hone
  rw [hf]
  clear hf hone
  obtain ⟨w2, hw2⟩ : ∃ w2, w2 = w1.alloc (.cells #[.int .i64 0, .int .i64 fa, .slice none 0 0, .int .i64 0] 26) := ⟨_, rfl⟩
  have B2 : Below w.heap.size w w2 := by rw [hw2]; exact B1.alloc B1.size _
  have hX2 : Own w2 w.heap.size 41 [.int .i64 0, .string ByteArray.empty] := by rw [hw2]; exact hX1.alloc _
  have C2 : Own w2 w1.heap.size 26 [.int .i64 0, .int .i64 fa, .slice none 0 0, .int .i64 0] := by rw [hw2]; exact ⟨_, heap_alloc_new _ _, rfl⟩
  have c0 := C2.cell 0
  simp only [List.getElem?_cons_zero] at c0
  rw [hw2] at c0
  obtain ⟨base, hbe⟩ : ∃ base, base = w2.heap.size := ⟨_, rfl⟩
  have hbase0 : base ≤ w2.heap.size := by omega
  have hbase1 : w.heap.size ≤ base := by have := B2.size; omega
  have HBE := hide hbe
  have hbb : b < base := by have := B2.size; omega
  have hGb : 0 < base := by have := (unhide HS).lt; omega
  clear hbe B1 hX1 C2
  go_wp2_with fail
  try rw [← hw2]
  clear hw2 c0
  go_loopg [6, 21] l.length (fun gh s6 s21 wr => ∃ k : Nat, Hid (gh = l.length - k) ∧ s21 = .int .i64 k ∧ k ≤ l.length ∧ wr.ownsRow base 5 1 s6 (Ic.linesT l k).length (J.bv (Ic.linesT l k)) ∧ Bk base w2 wr)
  case atStart => exact ⟨0, rfl, rfl, by omega, World.ownsRow_nil _ _ _ _, Bk.refl _ _⟩
  case round =>
    obtain ⟨k, hg, rfl, hk, hown, hbel⟩ := hrel
    have hll := Ic.lines_room (unhide HO) hl6 hr1 k hk
    have BW : Below w.heap.size w wr := B2.trans (hbel.1.mono hbase1)
    have hX := hX2.below hbel.1 (by rw [unhide HBE]; exact hX2.lt)
    obtain ⟨L, hL⟩ : ∃ L, L = Ic.linesT l k := ⟨_, rfl⟩
    rw [← hL] at hown hll
    have HLL := hide hL
    clear hL
    obtain ⟨xa, xn, xc, rfl⟩ := owns_shape hown
    by_cases hlt : k < l.length
    · have hltI : (k : Int) < (l.length : Int) := by omega
      obtain ⟨f0, f1, vg, f2, hvg, hvr⟩ := ((unhide HR).below B2 hb) k hlt
      have hone1 := (unhide HO) k hlt
      have hop1 := (Ic.one_parts hone1).1
      have harg := Ic.one_arg hone1 hl6 hr1
      have hval := hide (fun h => Ic.one_val hone1 h)
      have hok1 := hide ((unhide HK) _ (Ic.mem_at l k hlt)).2.2
      have hline := hide (show Ic.linesT l (k + 1) = Ic.linesT l k ++ Ic.lineT k (l.getD k Ic.zero) from rfl)
      have hlv := hide (fun h => Ic.line_val (i := k) (c := l.getD k Ic.zero) h)
      have hla := hide (fun h h2 => Ic.line_arg (i := k) (c := l.getD k Ic.zero) h h2)
      have hlb := hide (fun h h2 => Ic.line_bare (i := k) (c := l.getD k Ic.zero) h h2)
      have hvb : vg < base := by rw [unhide HBE]; exact hvg
      have HVR := hide hvr
      have e0 := (hbel.1.cell (by exact hbb)).trans f0
      have e1 := (hbel.1.cell (by exact hbb)).trans f1
      have e2 := (hbel.1.cell (by exact hbb)).trans f2
      clear hvr f0 f1 f2 hlt
      clear hone1
      generalize l.getD k Ic.zero = n at *
      obtain ⟨nop, narg, nval⟩ := n
      dsimp only at *
      obtain ⟨op, rfl⟩ : ∃ op : Nat, nop = (op : Int) := ⟨nop.toNat, by omega⟩
      obtain ⟨u, rfl⟩ : ∃ u : Nat, narg = (u : Int) := ⟨narg.toNat, by omega⟩
      simp only [Int.toNat_natCast] at hlv hla hlb
      have hopl : op < 20 := by omega
      have hopI : (op : Int) < 20 := by omega
      have hop0 : (0 : Int) ≤ (op : Int) := by omega
      have hwl := Ic.word_len op hopl
      have hbw : base ≤ wr.heap.size := by have := hbel.size; omega
      obtain ⟨w2', hw2'⟩ : ∃ w2', w2' = wr.alloc (.cells #[.int .i64 (op : Int), .int .i64 (u : Int), .slice (some ⟨vg, 0, none⟩) nval.length nval.length] 54) := ⟨_, rfl⟩
      obtain ⟨w3, hw3⟩ : ∃ w3, w3 = w2'.alloc (.cells #[.string (Ic.word op), .int .i64 (Ic.argK (op : Int)), .bool (Ic.holds (op : Int)), .int .i64 (Ic.takes (op : Int)), .int .i64 (Ic.lays (op : Int)), .bool (Ic.ends (op : Int))] 70) := ⟨_, rfl⟩
      have hs2' : w2'.heap.size = wr.heap.size + 1 := by rw [hw2']; simp
      have K2 : Bk base wr w2' := by rw [hw2']; exact (Bk.refl _ _).alloc hbw _
      have K3 : Bk base wr w3 := by rw [hw3]; exact K2.alloc (by omega) _
      have N2 : Own w2' wr.heap.size 54 [.int .i64 (op : Int), .int .i64 (u : Int), .slice (some ⟨vg, 0, none⟩) nval.length nval.length] := by rw [hw2']; exact ⟨_, heap_alloc_new _ _, rfl⟩
      have N3 : Own w3 wr.heap.size 54 [.int .i64 (op : Int), .int .i64 (u : Int), .slice (some ⟨vg, 0, none⟩) nval.length nval.length] := by rw [hw3]; exact N2.alloc _
      have S3 : Own w3 (wr.heap.size + 1) 70 [.string (Ic.word op), .int .i64 (Ic.argK (op : Int)), .bool (Ic.holds (op : Int)), .int .i64 (Ic.takes (op : Int)), .int .i64 (Ic.lays (op : Int)), .bool (Ic.ends (op : Int))] := by rw [hw3, ← hs2']; exact ⟨_, heap_alloc_new _ _, rfl⟩
      have hown3 : w3.ownsRow base 5 1 (.slice xa xn xc) L.length (J.bv L) := by rw [hw3, hw2']; exact (hown.alloc _).alloc _
      obtain ⟨t0, t1, t2, t3, t4, t5⟩ := ((((unhide HS).below BW).belowB (B := base) K2.1 hGb).cell op hopl)
      have n0 := N2.cell 0
      simp only [List.getElem?_cons_zero] at n0
      rw [hw2'] at t0 t1 t2 t3 t4 t5 n0 hw3
      have HI := hide (Tryd.strconv_AppendInt_10 base L.length (k : Int) (by omega) (by omega) (.slice xa xn xc) (J.bv L) w3 hown3 (by have := K3.size; omega) (by omega) (fun w' hb' => (unhide HT) w' (BW.trans ((K3.1.trans hb').mono hbase1))))
      have hil := Lib.itoa_length_le (k : Int) (by omega) (by omega)
      clear hown hown3 N2 K2 hs2'
      go_wp2_with fail
      try rw [← hw3]
      clear hw3 hw2' t0 t1 t2 t3 t4 t5 n0 e0 e1 e2
      refine (unhide HI).mono ?_
      rintro e w4 ⟨v4, rfl, ho4, hb4, hk4⟩
      obtain ⟨P4, hP4⟩ : ∃ P4, P4 = L ++ Lib.itoa (k : Int) := ⟨_, rfl⟩
      have w4o : w4.ownsRow base 5 1 v4 P4.length (J.bv P4) := by rw [hP4, List.length_append, ← bv_app]; exact ho4
      have k4 : Bk base w3 w4 := ⟨hb4, hk4⟩
      have w4b : Bk base wr w4 := K3.trans k4
      have l4 : P4.length ≤ L.length + 21 := by rw [hP4, List.length_append]; omega
      have EP4 := hide hP4
      have N4 := k4.own N3 (by decide)
      have S4 := k4.own S3 (by decide)
      clear ho4 hP4 HI hb4 hk4 N3 S3 k4
      obtain ⟨za, zn, zc, rfl⟩ := owns_shape w4o
      have HKO := hide (show ∀ (W : World) (t : TypeId) (xs : List Value) (q : Nat), Bk base w4 W → t ≠ 5 → Own w4 q t xs → Own W q t xs from fun W t xs q h ht ho => h.own ho ht)
      have hownw5 := hide (fun o => (w4o).alloc o)
      have honew5 := hide (J.one_word w4 32)
      have honepw5 := hide (J.one_plain 32)
      have hb63w5 : (P4).length + 1 ≤ maxLen := by unfold maxLen; omega
      have hbyw5 : ((P4).length + 1) * 1 ≤ 140737488355328 := by omega
      have hbasw5 : base ≤ w4.heap.size + 1 := by have := (w4b).size; omega
      have hbsew5 := hide (J.owns_base w4o)
      have hbsrw5 := hide (fun o => J.owns_row ((w4o).alloc o))
      clear w4o
      go_wp2_with (at_builtin; refine wpList_append_own _ rfl (.tmp 32) (.tmp 33) 68 rfl base 5 i0 (.int .u8 0) 1 1 Tryd.underlying68 hi hz0 hz1 hz2 rfl (by decide) _ (P4).length _ rfl ((unhide hownw5) _) ⟨w4.heap.size, 0, none⟩ 1 1 [.int .u8 32] rfl rfl (unhide honew5) (unhide honepw5) hb63w5 hbyw5 (by simpa using hbasw5) ?_)
      intro vw5 w5 w5h hgw5 _
      have hK45 : Bk base w4 w5 := ((Bk.refl base w4).alloc (by have := (w4b).size; omega) _).grown hgw5 (by simpa using hbasw5) (unhide hbsew5) ((unhide hbsrw5) _)
      have w5b : Bk base wr w5 := ((w4b).alloc (by have := (w4b).size; omega) _).grown hgw5 (by simpa using hbasw5) (unhide hbsew5) ((unhide hbsrw5) _)
      obtain ⟨P5, ew5⟩ : ∃ L', L' = P4 ++ [32] := ⟨_, rfl⟩
      have w5o : w5.ownsRow base 5 1 vw5 P5.length (J.bv P5) := by rw [ew5, List.length_append, ← J.bv_snoc]; exact w5h
      have lw5 : P5.length ≤ (P4).length + 1 := by rw [ew5, List.length_append]; exact Nat.le_refl _
      have Ew5 := hide ew5
      clear hgw5 w5h ew5 hownw5 honew5 honepw5 hb63w5 hbyw5 hbasw5 hbsew5 hbsrw5
      obtain ⟨xaw5, xnw5, xcw5, rfl⟩ := owns_shape w5o
      have N5 := hK45.own N4 (by decide)
      have S5 := hK45.own S4 (by decide)
      clear N4 S4 HKO
      have s0 := S5.cell 0
      simp only [List.getElem?_cons_zero] at s0
      have hws := Ic.word_size op
      have h63 : P5.length + (Ic.word op).size ≤ maxLen := by unfold maxLen; omega
      have hby : P5.length + (Ic.word op).size ≤ 140737488355328 := by omega
      have hbw5 : base ≤ w5.heap.size := by have := w5b.size; omega
      have hbse := hide (J.owns_base w5o)
      have hbsr := hide (J.owns_row w5o)
      have HO5 := hide w5o
      have HWB := hide (show Lib.strCells (Ic.word op) = J.bv (Ic.wordB op) from rfl)
      clear w5o
      obtain ⟨wo, hwo⟩ : ∃ wo, wo = Ic.word op := ⟨_, rfl⟩
      rw [← hwo] at s0 h63 hby hws HWB S5
      have HWS := hide hws
      clear hwo hws
      go_wp2_with (at_builtin; refine Lib.wpList_append_own_string _ rfl (.tmp 35) (.tmp 37) 68 9 rfl base 5 i0 Tryd.underlying68 Tryd.underlying9 hi hz0 hz1 hz2 _ P5.length _ rfl (unhide HO5) wo rfl h63 hby hbw5 ?_)
      intro v6 w6 ho6 hg6 _
      have k6 : Bk base w5 w6 := (Bk.refl base w5).grown hg6 hbw5 (unhide hbse) (unhide hbsr)
      have w6b : Bk base wr w6 := w5b.trans k6
      obtain ⟨P6, hP6⟩ : ∃ P6, P6 = P5 ++ Ic.wordB op := ⟨_, rfl⟩
      have w6o : w6.ownsRow base 5 1 v6 P6.length (J.bv P6) := by rw [hP6, List.length_append, ← bv_app, ← unhide HWB, ← unhide HWS]; exact ho6
      have l6 : P6.length ≤ 480600040 := by rw [hP6, List.length_append]; omega
      have N6 := k6.own N5 (by decide)
      have S6 := k6.own S5 (by decide)
      have HP6 := hide (show P6 = L ++ Ic.preT k op by rw [hP6, unhide Ew5, unhide EP4, Ic.preT]; simp only [List.append_assoc])
      clear ho6 hg6 hP6 k6 N5 S5 HO5 hbse hbsr h63 hby HWS HWB s0
      obtain ⟨ya, yn, yc, rfl⟩ := owns_shape w6o
      have s1 := S6.cell 1
      have s2 := S6.cell 2
      simp only [List.getElem?_cons_zero, List.getElem?_cons_succ] at s1 s2
      have hbw6 : base ≤ w6.heap.size := by have := w6b.size; omega
      rw [← unhide HLL] at hline
      cases hv : Ic.holds (op : Int) with
      | true =>
        have hz := (unhide hval) hv
        have hk0 := Ic.holds_K hv
        rw [hk0] at s1
        rw [hv] at s2
        have hn2 := hide (show Ic.linesT l (k + 1) = ((P6 ++ [32]) ++ J.encL 200 nval) ++ [10] by rw [unhide hline, (unhide hlv) hv, unhide HP6]; simp only [List.append_assoc])
        have hl1 := (M.fault_zero hz).1
        have hpl : (part nval 0).length ≤ 200 := by have := part_len hz (show 0 < nval.length by omega); have := (end_gt hz (show 0 < nval.length by omega)).2; have := (M.fault_zero hz).2.1; omega
        have hel := Ic.enc_len hz
        have HAT := hide (fun (W : World) (v : Value) (h1 : Bk base w6 W) (h2 : W.ownsRow base 5 1 v (P6.length + 1) (J.bv P6 ++ [.int .u8 32])) => show Calls Tryd.prog 44 #[v, .slice (some ⟨vg, 0, none⟩) nval.length nval.length, .int .i64 0] W (fun e w' => ∃ v', e = .returned v' ∧ w'.ownsRow base 5 1 v' ((P6 ++ [32]) ++ J.encL 200 nval).length (J.bv ((P6 ++ [32]) ++ J.encL 200 nval)) ∧ Bk base W w') from by
          have h3 : W.ownsRow base 5 1 v (P6 ++ [32]).length (J.bv (P6 ++ [32])) := by rw [List.length_append, ← J.bv_snoc]; exact h2
          have bb : Bk base w2 W := (hbel.trans w6b).trans h1
          have := appendText_any 200 nval 0 vg 0 nval.length base v (P6 ++ [32]) W hz (by omega) hpl ((unhide HVR).below bb.1 hvb) hvb (Nat.le_refl _) (by have := h1.size; omega) (by rw [List.length_append, List.length_cons, List.length_nil]; omega) h3 (fun w' hb' => (unhide HT) w' (B2.trans ((bb.1.trans hb').mono hbase1)))
          rw [J.encL_whole 199 hz (by omega)] at this
          exact this)
        clear hval hline hlv hla hlb hz hpl hl1 hk0
        have KEEP := hide (show ∀ W, Bk base w6 W → (W.cell? ⟨wr.heap.size, 2, none⟩ = some (.slice (some ⟨vg, 0, none⟩) nval.length nval.length) ∧ Bk base w6 W) from fun W h => ⟨(h.own N6 (by decide)).cell 2, h⟩)
        have KEEPA := hide (show ∀ W o, Bk base w6 W → (W.alloc o).cell? ⟨wr.heap.size, 2, none⟩ = some (.slice (some ⟨vg, 0, none⟩) nval.length nval.length) ∧ Bk base w6 (W.alloc o) from fun W o h => ⟨((h.alloc (by have := h.size; omega) o).own N6 (by decide)).cell 2, h.alloc (by have := h.size; omega) o⟩)
        have HOA := hide (show ((w6.alloc (.cells #[.int .u8 32] 5)).drew).ownsRow base 5 1 (.slice ya yn yc) P6.length (J.bv P6) from w6o.alloc _)
        have HONE := hide (show ∀ j u, ([Value.int .u8 32] : List Value)[j]? = some u → ((w6.alloc (.cells #[.int .u8 32] 5)).drew).cell? ((⟨w6.heap.size, 0, none⟩ : Addr).add j) = some u from J.one_word w6 32)
        have hbas : base ≤ ((w6.alloc (.cells #[.int .u8 32] 5)).drew).heap.size := by have := w6b.size; simp; omega
        have h63 : P6.length + 1 ≤ maxLen := by unfold maxLen; omega
        have hby : (P6.length + 1) * 1 ≤ 140737488355328 := by omega
        have HB0 := hide (show Bk base w6 ((w6.alloc (.cells #[.int .u8 32] 5)).drew) from ((Bk.refl base w6).alloc (by omega) _).drew)
        have HGR := hide (show ∀ w7, World.grownBy ((w6.alloc (.cells #[.int .u8 32] 5)).drew) w7 (Value.slice ya yn yc).ownBlock → Bk base w6 w7 from fun w7 hg => (unhide HB0).grown hg hbas (J.owns_base (unhide HOA)) (J.owns_row (unhide HOA)))
        clear w6o
        go_wp2_with fail
        go_region_held3 (fun w' => w'.cell? ⟨wr.heap.size, 2, none⟩ = some (.slice (some ⟨vg, 0, none⟩) nval.length nval.length) ∧ Bk base w6 w')
          (first | assumption | exact (unhide KEEP) _ (by assumption) | exact (unhide KEEP) _ (Bk.refl _ _).drew | exact (unhide KEEP) _ (Bk.refl _ _) | exact (unhide KEEPA) _ _ (And.right (by assumption)) | exact (unhide KEEPA) _ _ (Bk.refl _ _) | exact (unhide KEEP) _ (unhide HB0))
          (first
            | (refine Ic.step_append_any ((w6.alloc (.cells #[.int .u8 32] 5)).drew) (by rfl) (.tmp 50) (.tmp 51) 68 (by rfl) base 5 i0 (.int .u8 0) 1 1 Tryd.underlying68 hi hz0 hz1 hz2 rfl (by decide) (.slice ya yn yc) P6.length (J.bv P6) (by rfl) (unhide HOA) ⟨w6.heap.size, 0, none⟩ 1 1 [.int .u8 32] (by rfl) rfl (unhide HONE) (J.one_plain 32) h63 hby hbas ?_
               intro v7 w7 ho7 hg7
               have hB7 : Bk base w6 w7 := (unhide HGR) w7 hg7)
            | (go_at_call 44
               refine ((unhide HAT) _ _ hB7 ho7).mono ?_
               rintro e w8 ⟨v8, rfl, ho8, hk8⟩
               have hB8 : Bk base w6 w8 := hB7.trans hk8))
        all_goals
          obtain ⟨P8, hP8⟩ : ∃ P8, P8 = (P6 ++ [32]) ++ J.encL 200 nval := ⟨_, rfl⟩
          have w8o : w8.ownsRow base 5 1 v8 P8.length (J.bv P8) := by rw [hP8]; exact ho8
          have l8 : P8.length ≤ 480700000 := by rw [hP8]; simp only [List.length_append, List.length_cons, List.length_nil]; omega
          rw [← hP8] at hn2
          have w8b : Bk base wr w8 := w6b.trans hB8
          have S8 := hB8.own S6 (by decide)
          have q2 := S8.cell 2
          simp only [List.getElem?_cons_zero, List.getElem?_cons_succ] at q2
          clear hP8 ho8
          obtain ⟨za, zn, zc, rfl⟩ := owns_shape w8o
          have hownw9 := hide (fun o => (w8o).alloc o)
          have honew9 := hide (J.one_word w8 10)
          have honepw9 := hide (J.one_plain 10)
          have hb63w9 : (P8).length + 1 ≤ maxLen := by unfold maxLen; omega
          have hbyw9 : ((P8).length + 1) * 1 ≤ 140737488355328 := by omega
          have hbasw9 : base ≤ w8.heap.size + 1 := by have := (w8b).size; omega
          have hbsew9 := hide (J.owns_base w8o)
          have hbsrw9 := hide (fun o => J.owns_row ((w8o).alloc o))
          clear w8o
          go_wp2_with (at_builtin; refine wpList_append_own _ rfl (.tmp 56) (.tmp 57) 68 rfl base 5 i0 (.int .u8 0) 1 1 Tryd.underlying68 hi hz0 hz1 hz2 rfl (by decide) _ (P8).length _ rfl ((unhide hownw9) _) ⟨w8.heap.size, 0, none⟩ 1 1 [.int .u8 10] rfl rfl (unhide honew9) (unhide honepw9) hb63w9 hbyw9 (by simpa using hbasw9) ?_)
          intro vw9 w9 w9h hgw9 _
          have w9b : Bk base wr w9 := ((w8b).alloc (by have := (w8b).size; omega) _).grown hgw9 (by simpa using hbasw9) (unhide hbsew9) ((unhide hbsrw9) _)
          obtain ⟨P9, ew9⟩ : ∃ L', L' = P8 ++ [10] := ⟨_, rfl⟩
          have w9o : w9.ownsRow base 5 1 vw9 P9.length (J.bv P9) := by rw [ew9, List.length_append, ← J.bv_snoc]; exact w9h
          have lw9 : P9.length ≤ (P8).length + 1 := by rw [ew9, List.length_append]; exact Nat.le_refl _
          have Ew9 := hide ew9
          clear hgw9 w9h ew9 hownw9 honew9 honepw9 hb63w9 hbyw9 hbasw9 hbsew9 hbsrw9
          obtain ⟨xaw9, xnw9, xcw9, rfl⟩ := owns_shape w9o
          have W9O := hide (show w9.ownsRow base 5 1 (.slice xaw9 xnw9 xcw9) (Ic.linesT l (k + 1)).length (J.bv (Ic.linesT l (k + 1))) by
            have e : P9 = Ic.linesT l (k + 1) := by rw [unhide Ew9, unhide hn2]
            rw [← e]; exact w9o)
          clear w9o
          go_wp2_with fail
          go_roundg (l.length - (k + 1))
          case rel => exact ⟨k + 1, rfl, by go_num, by omega, unhide W9O, hbel.trans w9b⟩
          case measure => have := hg.out; omega
      | false =>
        by_cases hk0 : Ic.argK (op : Int) = 0
        · rw [hk0] at s1
          rw [hv] at s2
          have hn2 := hide (show Ic.linesT l (k + 1) = P6 ++ [10] by rw [unhide hline, (unhide hlb) hv hk0, unhide HP6]; simp only [List.append_assoc])
          clear hval hline hlv hla hlb hk0
          have hownw9 := hide (fun o => (w6o).alloc o)
          have honew9 := hide (J.one_word w6 10)
          have honepw9 := hide (J.one_plain 10)
          have hb63w9 : (P6).length + 1 ≤ maxLen := by unfold maxLen; omega
          have hbyw9 : ((P6).length + 1) * 1 ≤ 140737488355328 := by omega
          have hbasw9 : base ≤ w6.heap.size + 1 := by have := (w6b).size; omega
          have hbsew9 := hide (J.owns_base w6o)
          have hbsrw9 := hide (fun o => J.owns_row ((w6o).alloc o))
          clear w6o
          go_wp2_with (at_builtin; refine wpList_append_own _ rfl (.tmp 56) (.tmp 57) 68 rfl base 5 i0 (.int .u8 0) 1 1 Tryd.underlying68 hi hz0 hz1 hz2 rfl (by decide) _ (P6).length _ rfl ((unhide hownw9) _) ⟨w6.heap.size, 0, none⟩ 1 1 [.int .u8 10] rfl rfl (unhide honew9) (unhide honepw9) hb63w9 hbyw9 (by simpa using hbasw9) ?_)
          intro vw9 w9 w9h hgw9 _
          have w9b : Bk base wr w9 := ((w6b).alloc (by have := (w6b).size; omega) _).grown hgw9 (by simpa using hbasw9) (unhide hbsew9) ((unhide hbsrw9) _)
          obtain ⟨P9, ew9⟩ : ∃ L', L' = P6 ++ [10] := ⟨_, rfl⟩
          have w9o : w9.ownsRow base 5 1 vw9 P9.length (J.bv P9) := by rw [ew9, List.length_append, ← J.bv_snoc]; exact w9h
          have lw9 : P9.length ≤ (P6).length + 1 := by rw [ew9, List.length_append]; exact Nat.le_refl _
          have Ew9 := hide ew9
          clear hgw9 w9h ew9 hownw9 honew9 honepw9 hb63w9 hbyw9 hbasw9 hbsew9 hbsrw9
          obtain ⟨xaw9, xnw9, xcw9, rfl⟩ := owns_shape w9o
          have W9O := hide (show w9.ownsRow base 5 1 (.slice xaw9 xnw9 xcw9) (Ic.linesT l (k + 1)).length (J.bv (Ic.linesT l (k + 1))) by
            have e : P9 = Ic.linesT l (k + 1) := by rw [unhide Ew9, unhide hn2]
            rw [← e]; exact w9o)
          clear w9o
          go_wp2_with fail
          go_roundg (l.length - (k + 1))
          case rel => exact ⟨k + 1, rfl, by go_num, by omega, unhide W9O, hbel.trans w9b⟩
          case measure => have := hg.out; omega
        · have hn2 := hide (show Ic.linesT l (k + 1) = ((P6 ++ [32]) ++ Lib.itoa (u : Int)) ++ [10] by rw [unhide hline, (unhide hla) hv hk0, unhide HP6]; simp only [List.append_assoc])
          have g1 : (Ic.argK (op : Int) != 0) = true := by simpa using hk0
          rw [hv] at s2 S6
          have hiu := Lib.itoa_length_le (u : Int) (by omega) (by omega)
          have HAI := hide (fun (W : World) (v : Value) (h1 : Bk base w6 W) (h2 : W.ownsRow base 5 1 v (P6.length + 1) (J.bv P6 ++ [.int .u8 32])) => show Calls Tryd.prog 43 #[v, .int .i64 (u : Int), .int .i64 10] W (fun e w' => ∃ v', e = .returned v' ∧ w'.ownsRow base 5 1 v' ((P6 ++ [32]) ++ Lib.itoa (u : Int)).length (J.bv ((P6 ++ [32]) ++ Lib.itoa (u : Int))) ∧ Bk base W w') from by
            have h3 : W.ownsRow base 5 1 v (P6 ++ [32]).length (J.bv (P6 ++ [32])) := by rw [List.length_append, ← J.bv_snoc]; exact h2
            refine (Tryd.strconv_AppendInt_10 base (P6 ++ [32]).length (u : Int) (by omega) (by omega) v (J.bv (P6 ++ [32])) W h3 (by have := h1.size; omega) (by rw [List.length_append, List.length_cons, List.length_nil]; omega) (fun w' hb' => (unhide HT) w' (BW.trans (((w6b.trans h1).1.trans hb').mono hbase1)))).mono ?_
            rintro e w' ⟨v', he, ho, hb', hk'⟩
            exact ⟨v', he, by rw [show ((P6 ++ ([32] : List UInt8)) ++ Lib.itoa (u : Int)).length = (P6 ++ ([32] : List UInt8)).length + (Lib.itoa (u : Int)).length from List.length_append, ← bv_app (P6 ++ [32]) (Lib.itoa (u : Int))]; exact ho, hb', hk'⟩)
          clear hval hline hlv hla hlb hk0
          generalize Ic.argK (op : Int) = ak at *
          have KEEP := hide (show ∀ W, Bk base w6 W → (W.cell? ⟨wr.heap.size, 1, none⟩ = some (.int .i64 (u : Int)) ∧ Bk base w6 W) from fun W h => ⟨(h.own N6 (by decide)).cell 1, h⟩)
          have KEEPA := hide (show ∀ W o, Bk base w6 W → (W.alloc o).cell? ⟨wr.heap.size, 1, none⟩ = some (.int .i64 (u : Int)) ∧ Bk base w6 (W.alloc o) from fun W o h => ⟨((h.alloc (by have := h.size; omega) o).own N6 (by decide)).cell 1, h.alloc (by have := h.size; omega) o⟩)
          have HOA := hide (show ((w6.alloc (.cells #[.int .u8 32] 5)).drew).ownsRow base 5 1 (.slice ya yn yc) P6.length (J.bv P6) from w6o.alloc _)
          have HONE := hide (show ∀ j u, ([Value.int .u8 32] : List Value)[j]? = some u → ((w6.alloc (.cells #[.int .u8 32] 5)).drew).cell? ((⟨w6.heap.size, 0, none⟩ : Addr).add j) = some u from J.one_word w6 32)
          have hbas : base ≤ ((w6.alloc (.cells #[.int .u8 32] 5)).drew).heap.size := by have := w6b.size; simp; omega
          have h63 : P6.length + 1 ≤ maxLen := by unfold maxLen; omega
          have hby : (P6.length + 1) * 1 ≤ 140737488355328 := by omega
          have HB0 := hide (show Bk base w6 ((w6.alloc (.cells #[.int .u8 32] 5)).drew) from ((Bk.refl base w6).alloc (by omega) _).drew)
          have HGR := hide (show ∀ w7, World.grownBy ((w6.alloc (.cells #[.int .u8 32] 5)).drew) w7 (Value.slice ya yn yc).ownBlock → Bk base w6 w7 from fun w7 hg => (unhide HB0).grown hg hbas (J.owns_base (unhide HOA)) (J.owns_row (unhide HOA)))
          clear w6o
          go_wp2_with fail
          go_region_held3 (fun w' => w'.cell? ⟨wr.heap.size, 1, none⟩ = some (.int .i64 (u : Int)) ∧ Bk base w6 w')
            (first | assumption | exact (unhide KEEP) _ (by assumption) | exact (unhide KEEP) _ (Bk.refl _ _).drew | exact (unhide KEEP) _ (Bk.refl _ _) | exact (unhide KEEPA) _ _ (And.right (by assumption)) | exact (unhide KEEPA) _ _ (Bk.refl _ _) | exact (unhide KEEP) _ (unhide HB0))
            (first
              | (refine Ic.step_append_any ((w6.alloc (.cells #[.int .u8 32] 5)).drew) (by rfl) (.tmp 42) (.tmp 43) 68 (by rfl) base 5 i0 (.int .u8 0) 1 1 Tryd.underlying68 hi hz0 hz1 hz2 rfl (by decide) (.slice ya yn yc) P6.length (J.bv P6) (by rfl) (unhide HOA) ⟨w6.heap.size, 0, none⟩ 1 1 [.int .u8 32] (by rfl) rfl (unhide HONE) (J.one_plain 32) h63 hby hbas ?_
                 intro v7 w7 ho7 hg7
                 have hB7 : Bk base w6 w7 := (unhide HGR) w7 hg7)
              | (go_at_call 43
                 refine ((unhide HAI) _ _ hB7 ho7).mono ?_
                 rintro e w8 ⟨v8, rfl, ho8, hk8⟩
                 have hB8 : Bk base w6 w8 := hB7.trans hk8))
          all_goals
            obtain ⟨P8, hP8⟩ : ∃ P8, P8 = (P6 ++ [32]) ++ Lib.itoa (u : Int) := ⟨_, rfl⟩
            have w8o : w8.ownsRow base 5 1 v8 P8.length (J.bv P8) := by rw [hP8]; exact ho8
            have l8 : P8.length ≤ 480700000 := by rw [hP8]; simp only [List.length_append, List.length_cons, List.length_nil]; omega
            rw [← hP8] at hn2
            have w8b : Bk base wr w8 := w6b.trans hB8
            have S8 := hB8.own S6 (by decide)
            have q2 := S8.cell 2
            simp only [List.getElem?_cons_zero, List.getElem?_cons_succ] at q2
            clear hP8 ho8
            obtain ⟨za, zn, zc, rfl⟩ := owns_shape w8o
            have hownw9 := hide (fun o => (w8o).alloc o)
            have honew9 := hide (J.one_word w8 10)
            have honepw9 := hide (J.one_plain 10)
            have hb63w9 : (P8).length + 1 ≤ maxLen := by unfold maxLen; omega
            have hbyw9 : ((P8).length + 1) * 1 ≤ 140737488355328 := by omega
            have hbasw9 : base ≤ w8.heap.size + 1 := by have := (w8b).size; omega
            have hbsew9 := hide (J.owns_base w8o)
            have hbsrw9 := hide (fun o => J.owns_row ((w8o).alloc o))
            clear w8o
            go_wp2_with (at_builtin; refine wpList_append_own _ rfl (.tmp 56) (.tmp 57) 68 rfl base 5 i0 (.int .u8 0) 1 1 Tryd.underlying68 hi hz0 hz1 hz2 rfl (by decide) _ (P8).length _ rfl ((unhide hownw9) _) ⟨w8.heap.size, 0, none⟩ 1 1 [.int .u8 10] rfl rfl (unhide honew9) (unhide honepw9) hb63w9 hbyw9 (by simpa using hbasw9) ?_)
            intro vw9 w9 w9h hgw9 _
            have w9b : Bk base wr w9 := ((w8b).alloc (by have := (w8b).size; omega) _).grown hgw9 (by simpa using hbasw9) (unhide hbsew9) ((unhide hbsrw9) _)
            obtain ⟨P9, ew9⟩ : ∃ L', L' = P8 ++ [10] := ⟨_, rfl⟩
            have w9o : w9.ownsRow base 5 1 vw9 P9.length (J.bv P9) := by rw [ew9, List.length_append, ← J.bv_snoc]; exact w9h
            have lw9 : P9.length ≤ (P8).length + 1 := by rw [ew9, List.length_append]; exact Nat.le_refl _
            have Ew9 := hide ew9
            clear hgw9 w9h ew9 hownw9 honew9 honepw9 hb63w9 hbyw9 hbasw9 hbsew9 hbsrw9
            obtain ⟨xaw9, xnw9, xcw9, rfl⟩ := owns_shape w9o
            have W9O := hide (show w9.ownsRow base 5 1 (.slice xaw9 xnw9 xcw9) (Ic.linesT l (k + 1)).length (J.bv (Ic.linesT l (k + 1))) by
              have e : P9 = Ic.linesT l (k + 1) := by rw [unhide Ew9, unhide hn2]
              rw [← e]; exact w9o)
            clear w9o
            go_wp2_with fail
            go_roundg (l.length - (k + 1))
            case rel => exact ⟨k + 1, rfl, by go_num, by omega, unhide W9O, hbel.trans w9b⟩
            case measure => have := hg.out; omega
    · have hge : ¬ (k : Int) < (l.length : Int) := by omega
      have hke : k = l.length := by omega
      have hLe : L = Ic.linesT l l.length := by rw [unhide HLL, hke]
      rw [← hLe] at fin
      have r0 := hX.cell 0
      have r1 := hX.cell 1
      have z0 := hX.frozen 0
      have z1 := hX.frozen 1
      simp only [List.getElem?_cons_zero, List.getElem?_cons_succ] at r0 r1
      rcases hown.2 with ⟨hnil, h0⟩ | ⟨g2, cap2, cur, hsome, hgb, _⟩
      · cases hnil
        have hL0 : L = [] := List.length_eq_zero_iff.1 h0
        rw [hL0] at fin
        have hcv : (convert 68 9 (.slice none 0 0)).run Tryd.prog wr = .ok (.string ByteArray.empty) wr := Lib.run_convert_nil_bytes wr 68 9 5 0 Tryd.underlying68 Tryd.underlying5 Tryd.underlying9
        clear hLe hL0 h0 HLL hke hll hown
        go_wp2_with fail
        refine bodyPost_ret (v := .agg #[.int .i64 0, .string ByteArray.empty]) (by simp [results, Tryd.results22, go_sem, r0, r1]; try rfl) rfl ⟨by rw [unhide fin]; rfl, ?_⟩
        exact (BW.setCell (Nat.le_refl _) _).setCell (Nat.le_refl _) _
      · obtain ⟨rfl, rfl, rfl⟩ : xa = some ⟨g2, 0, none⟩ ∧ xn = L.length ∧ xc = cap2 := by injection hsome with e1 e2 e3; exact ⟨e1, e2, e3⟩
        have hcv := show (convert 68 9 (.slice (some ⟨g2, 0, none⟩) L.length xc)).run Tryd.prog wr = .ok (.string (J.bytes L)) wr from
          run_convert_bytes_back _ _ _ 5 _ xc _ Tryd.underlying68 Tryd.underlying5 Tryd.underlying9 (J.owns_cells hown)
        clear hown hLe HLL hke hll
        generalize L.length = n at *
        generalize J.bytes L = q at *
        go_wp2_with fail
        refine bodyPost_ret (v := .agg #[.int .i64 0, .string q]) (by simp [results, Tryd.results22, go_sem, r0, r1]) rfl ⟨by rw [unhide fin], ?_⟩
        exact (BW.setCell (Nat.le_refl _) _).setCell (Nat.le_refl _) _

end Go.Proofs.YtfmljlhcaimafaaDoor
