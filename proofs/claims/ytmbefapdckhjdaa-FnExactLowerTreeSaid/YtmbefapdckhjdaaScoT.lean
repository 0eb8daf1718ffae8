/-
  UsesOf: how many nodes have an op; an answer of two numbers.
  Both ScopeFaults tell the first node that is not known.
-/
import Derived.Test.YtmbefapdckhjdaaTreI
import Derived.Test.YtmbefapdckhjdaaScoI
import Derived.Test.YtmbefapdckhjdaaScoS
namespace Go.Proofs.Ytmbefapdckhjdaa
open Go.RowKit
set_option linter.unusedVariables false
set_option linter.unusedSimpArgs false

namespace Tr
def uses (l : List Nd) (op : Int) : Nat → Nat
  | 0 => 0
  | k + 1 => uses l op k + if (l.getD k Nd.zero).op = op then 1 else 0
theorem uses_le (l : List Nd) (op : Int) (k : Nat) : uses l op k ≤ k := by
  induction k with
  | zero => exact Nat.le_refl _
  | succ k ih => rw [uses]; split <;> omega
def usesOut (l : List Nd) (op : Int) : Int × Int := if fault l ≠ 0 then (fault l, 0) else (0, uses l op l.length)
end Tr
/-- An answer of two numbers, read off its own block. -/
theorem ires_of {w : World} {b : Nat} {x y : Int} (h : Own w b 49 [.int .i64 x, .int .i64 y]) : w.cell? ⟨b, 0, none⟩ = some (.int .i64 x) ∧ w.cell? ⟨b, 1, none⟩ = some (.int .i64 y) := ⟨h.cell 0, h.cell 1⟩

end Go.Proofs.Ytmbefapdckhjdaa

namespace Go.Proofs.Ytmbefapdckhjdaa
open Go.RowKit
set_option linter.unusedVariables false
set_option linter.unusedSimpArgs false


set_option maxRecDepth 100000 in
set_option maxHeartbeats 2000000 in
theorem specScopeFault_any (b : Nat) (l : List Nd) (w : World) (hrow : Nd.Row w b 0 l) (hb : b < w.heap.size) (hn : l.length ≤ 1048576) (hsz : ∀ i, i < l.length → (l.getD i Nd.zero).text.size ≤ 1048576) (hok : ∀ c ∈ l, c.ok) :
    Calls Try.prog 20 #[.slice (some ⟨b, 0, none⟩) l.length l.length] w fun e w' => e = .returned (.agg #[.int .i64 (Tr.scopeOut l).1, .int .i64 (Tr.scopeOut l).2]) ∧ Below w.heap.size w w' := by
  have HR := hide hrow
  have HS := hide hsz
  have HK := hide hok
  clear hrow hsz hok
  obtain ⟨w0, hw0⟩ : ∃ w0, w0 = w.alloc (.cells #[.int .i64 0, .int .i64 0] 49) := ⟨_, rfl⟩
  have B0 : Below w.heap.size w w0 := by rw [hw0]; exact (Below.refl _ _).alloc (Nat.le_refl _) _
  have O0 : Own w0 w.heap.size 49 [.int .i64 0, .int .i64 0] := by rw [hw0]; exact ⟨_, heap_alloc_new _ _, rfl⟩
  have HC := hide (specTreeFault_any b l w0 ((unhide HR).below B0 hb) (Nat.lt_of_lt_of_le hb B0.size) hn (unhide HS) (unhide HK))
  go_enter Try.func20, Try.ntmps20
  go_wp2_with fail
  rw [← hw0]
  clear hw0
  refine (unhide HC).mono ?_
  rintro e w1 ⟨rfl, hb1⟩
  have B1 : Below w.heap.size w w1 := B0.trans (hb1.mono B0.size)
  have O1 := O0.below hb1 O0.lt
  clear O0 B0 hb1 HC
  by_cases hf : Tr.fault l = 0
  case neg =>
    have fin := hide (Tr.scope_fault hf)
    generalize Tr.fault l = q at *
    have g1 : (q != 0) = true := by simpa using hf
    have OX := O1
    clear hf O1
    obtain ⟨c0, c1⟩ := ires_of OX
    have z0 := OX.frozen 0
    have z1 := OX.frozen 1
    have O2 := hide ((OX.set 0 (.int .i64 q)).set 1 (.int .i64 0))
    clear OX
    go_wp2_with fail
    obtain ⟨q0, q1⟩ := ires_of (x := q) (y := 0) (unhide O2)
    clear c0 c1 z0 z1 O2
    have B2 : Below w.heap.size w ((w1.setCell ⟨w.heap.size, 0, none⟩ (.int .i64 q)).setCell ⟨w.heap.size, 1, none⟩ (.int .i64 0)) := (B1.setCell (Nat.le_refl _) _).setCell (Nat.le_refl _) _
    generalize (w1.setCell ⟨w.heap.size, 0, none⟩ (.int .i64 q)).setCell ⟨w.heap.size, 1, none⟩ (.int .i64 0) = WW at *
    refine bodyPost_ret (v := .agg #[.int .i64 q, .int .i64 0]) (by simp [results, Try.results20, go_sem, q0, q1]; try rfl) rfl ⟨by rw [unhide fin], B2⟩
  case pos =>
  obtain ⟨h0, h200, hnf, hio⟩ := Tr.fault_parts hf
  have HF := hide hf
  have HFI := hide (Tr.fine_of hnf)
  have HOPS := hide (Tr.ops_of hnf)
  have HIO := hide hio
  rw [hf]
  clear hf hnf hio
  have hci := hide ((Tr.inOrder_iff (unhide HFI) h0).1 (unhide HIO))
  have hof : Hid (Tr.ordF l.length l (l.length - 1) = Tr.up 0 l.length) := by
    show _ = _
    rw [← unhide hci]
    unfold Tr.ord
    rw [show l.length - 1 + 1 = l.length by omega]
  have HSC := hide (l5Scope_any b w1.heap.size l h200 (unhide HFI) (unhide HIO) (unhide HOPS) l.length h200 (l.length - 1) [] [] (.slice none 0 0) (.slice none 0 0) w1 (by omega) (by omega) (by rw [hof.out, Tr.up_length]; simp; omega) (by simp; omega) (fun t => by rw [Tr.bound_root (unhide HFI) h0]; rfl) ((unhide HR).below B1 hb) (Nat.lt_of_lt_of_le hb B1.size) (Nat.le_refl _) (World.ownsRow_nil _ _ _ _) (World.ownsRow_nil _ _ _ _))
  have hsl := hide (fun L h => Tr.scope_list (unhide HF) (L := L) h)
  have hlb : ((Tr.up 0 l.length).filter (Tr.unkI l)).length ≤ 200 := by
    have := List.length_filter_le (Tr.unkI l) (Tr.up 0 l.length)
    rw [Tr.up_length] at this; omega
  rw [hof.out, List.nil_append] at HSC
  obtain ⟨L, hL⟩ : ∃ L, L = (Tr.up 0 l.length).filter (Tr.unkI l) := ⟨_, rfl⟩
  rw [← hL] at HSC hlb
  have fin0 := hide ((unhide hsl) L hL)
  have hmI : (l.length : Int) - 1 = ((l.length - 1 : Nat) : Int) := by omega
  clear hL hsl hof
  go_wp2_with fail
  refine (unhide HSC).mono ?_
  rintro e w2 ⟨v, rfl, ho2, k2⟩
  have B2 : Below w.heap.size w w2 := B1.trans (k2.1.mono B1.size)
  have O2 : Own w2 w.heap.size 49 [.int .i64 0, .int .i64 0] := k2.own O1 (by decide)
  clear O1
  cases L with
  | nil =>
    obtain ⟨va, vc, hv⟩ := Tr.owns_slice ho2
    subst hv
    have fin := hide (show Tr.scopeOut l = (0, 0) from unhide fin0)
    have OX := O2
    clear ho2 fin0 O2 HSC hci
    obtain ⟨c0, c1⟩ := ires_of OX
    have z0 := OX.frozen 0
    have z1 := OX.frozen 1
    have O2 := hide ((OX.set 0 (.int .i64 0)).set 1 (.int .i64 0))
    clear OX
    go_wp2_with fail
    obtain ⟨q0, q1⟩ := ires_of (x := 0) (y := 0) (unhide O2)
    clear c0 c1 z0 z1 O2
    have B2 : Below w.heap.size w ((w2.setCell ⟨w.heap.size, 0, none⟩ (.int .i64 0)).setCell ⟨w.heap.size, 1, none⟩ (.int .i64 0)) := (B2.setCell (Nat.le_refl _) _).setCell (Nat.le_refl _) _
    generalize (w2.setCell ⟨w.heap.size, 0, none⟩ (.int .i64 0)).setCell ⟨w.heap.size, 1, none⟩ (.int .i64 0) = WW at *
    refine bodyPost_ret (v := .agg #[.int .i64 0, .int .i64 0]) (by simp [results, Try.results20, go_sem, q0, q1]; try rfl) rfl ⟨by rw [unhide fin], B2⟩
  | cons x r =>
    have fin := hide (show Tr.scopeOut l = (4, x) from unhide fin0)
    obtain ⟨g, cap, hv, hcap⟩ : ∃ g cap, v = .slice (some ⟨g, 0, none⟩) (x :: r).length cap ∧ (x :: r).length ≤ cap := by
      obtain ⟨_, ⟨_, h⟩ | ⟨g, cap, cur, h, _, hh, h6, _⟩⟩ := ho2
      · simp at h
      · exact ⟨g, cap, h, h6⟩
    subst hv
    have f0 := (Tr.owns_cell ho2 0 (by simp)).trans (Tr.map_get (x :: r) 0 (by simp))
    have f1 : w2.cell? ⟨g, 0, none⟩ = some (.int .i64 x) := f0
    obtain ⟨m, hm⟩ : ∃ m, (x :: r).length = m + 1 := ⟨r.length, rfl⟩
    rw [hm]
    rw [hm] at hcap hlb
    have gm : (0 : Int) < ((m + 1 : Nat) : Int) := by omega
    have gm2 : (0 : Int) < (m : Int) + 1 := by omega
    have OX := O2
    clear ho2 fin0 f0 hm O2 HSC hci
    obtain ⟨c0, c1⟩ := ires_of OX
    have z0 := OX.frozen 0
    have z1 := OX.frozen 1
    have O2 := hide ((OX.set 0 (.int .i64 4)).set 1 (.int .i64 x))
    clear OX
    go_wp2_with fail
    obtain ⟨q0, q1⟩ := ires_of (x := 4) (y := x) (unhide O2)
    clear c0 c1 z0 z1 O2
    have B2 : Below w.heap.size w ((w2.setCell ⟨w.heap.size, 0, none⟩ (.int .i64 4)).setCell ⟨w.heap.size, 1, none⟩ (.int .i64 x)) := (B2.setCell (Nat.le_refl _) _).setCell (Nat.le_refl _) _
    generalize (w2.setCell ⟨w.heap.size, 0, none⟩ (.int .i64 4)).setCell ⟨w.heap.size, 1, none⟩ (.int .i64 x) = WW at *
    refine bodyPost_ret (v := .agg #[.int .i64 4, .int .i64 x]) (by simp [results, Try.results20, go_sem, q0, q1]; try rfl) rfl ⟨by rw [unhide fin], B2⟩

set_option maxRecDepth 100000 in
set_option maxHeartbeats 2000000 in
theorem implScopeFault_any (b : Nat) (l : List Nd) (w : World) (hrow : Nd.Row w b 0 l) (hb : b < w.heap.size) (hn : l.length ≤ 1048576) (hsz : ∀ i, i < l.length → (l.getD i Nd.zero).text.size ≤ 1048576) (hok : ∀ c ∈ l, c.ok) :
    Calls Try.prog 23 #[.slice (some ⟨b, 0, none⟩) l.length l.length] w fun e w' => e = .returned (.agg #[.int .i64 (Tr.scopeOut l).1, .int .i64 (Tr.scopeOut l).2]) ∧ Below w.heap.size w w' := by
  have HR := hide hrow
  have HS := hide hsz
  have HK := hide hok
  clear hrow hsz hok
  obtain ⟨w0, hw0⟩ : ∃ w0, w0 = w.alloc (.cells #[.int .i64 0, .int .i64 0] 49) := ⟨_, rfl⟩
  have B0 : Below w.heap.size w w0 := by rw [hw0]; exact (Below.refl _ _).alloc (Nat.le_refl _) _
  have O0 : Own w0 w.heap.size 49 [.int .i64 0, .int .i64 0] := by rw [hw0]; exact ⟨_, heap_alloc_new _ _, rfl⟩
  have HC := hide (implTreeFault_any b l w0 ((unhide HR).below B0 hb) (Nat.lt_of_lt_of_le hb B0.size) hn (unhide HS))
  go_enter Try.func23, Try.ntmps23
  go_wp2_with fail
  rw [← hw0]
  clear hw0
  refine (unhide HC).mono ?_
  rintro e w1 ⟨rfl, hb1⟩
  have B1 : Below w.heap.size w w1 := B0.trans (hb1.mono B0.size)
  have O1 := O0.below hb1 O0.lt
  clear O0 B0 hb1 HC
  by_cases hf : Tr.fault l = 0
  case neg =>
    have fin := hide (Tr.scope_fault hf)
    generalize Tr.fault l = q at *
    have g1 : (q != 0) = true := by simpa using hf
    have OX := O1
    clear hf O1
    obtain ⟨c0, c1⟩ := ires_of OX
    have z0 := OX.frozen 0
    have z1 := OX.frozen 1
    have O2 := hide ((OX.set 0 (.int .i64 q)).set 1 (.int .i64 0))
    clear OX
    go_wp2_with fail
    obtain ⟨q0, q1⟩ := ires_of (x := q) (y := 0) (unhide O2)
    clear c0 c1 z0 z1 O2
    have B2 : Below w.heap.size w ((w1.setCell ⟨w.heap.size, 0, none⟩ (.int .i64 q)).setCell ⟨w.heap.size, 1, none⟩ (.int .i64 0)) := (B1.setCell (Nat.le_refl _) _).setCell (Nat.le_refl _) _
    generalize (w1.setCell ⟨w.heap.size, 0, none⟩ (.int .i64 q)).setCell ⟨w.heap.size, 1, none⟩ (.int .i64 0) = WW at *
    refine bodyPost_ret (v := .agg #[.int .i64 q, .int .i64 0]) (by simp [results, Try.results23, go_sem, q0, q1]; try rfl) rfl ⟨by rw [unhide fin], B2⟩
  case pos =>
  obtain ⟨h0, h200, hnf, hio⟩ := Tr.fault_parts hf
  have HF := hide hf
  have HFI := hide (Tr.fine_of hnf)
  have HOPS := hide (Tr.ops_of hnf)
  have HIO := hide hio
  rw [hf]
  clear hf hnf hio
  go_wp2_with fail
  refine (namedPlaces_any b l w1 ((unhide HR).below B1 hb) (Nat.lt_of_lt_of_le hb B1.size) h200 (unhide HOPS)).mono ?_
  rintro e w2 ⟨v, gs, rfl, hgl, hnp, hb2⟩
  obtain ⟨g, cap, rfl, hcap, hg2⟩ := hnp.some (by omega)
  rw [hgl] at hcap hnp ⊢
  have HNP := hide hnp
  have HGL := hide hgl
  clear hnp hgl
  have B2 : Below w.heap.size w w2 := B1.trans (hb2.mono B1.size)
  have O2 := O1.below hb2 O1.lt
  go_wp2_with fail
  refine (holderPlaces_any _ g cap gs l w2 (unhide HNP) (unhide HGL) hcap hg2 h200 h0 (unhide HFI)).mono ?_
  rintro e w3 ⟨rfl, ⟨xs, hox, hho⟩, hb3⟩
  have B3 : Below w.heap.size w w3 := B2.trans (hb3.mono B2.size)
  have O3 := O2.below hb3 O2.lt
  have HHO := hide hho
  clear hho O1 O2 B1 B2 hb2 hb3
  generalize w2.heap.size = gh2 at *
  go_wp2_with fail
  go_loopg [18] l.length (fun gh s18 wr => ∃ k : Nat, Hid (gh = l.length - k) ∧ s18 = .int .i64 k ∧ k ≤ l.length ∧ Hid (∀ j, j < k → Tr.unk l j = false) ∧ Below w3.heap.size w3 wr)
  case atStart => exact ⟨0, rfl, rfl, by omega, fun j hj => absurd hj (by omega), Below.refl _ _⟩
  case round =>
    obtain ⟨k, hg, rfl, hk, hall, hbel⟩ := hrel
    have BW : Below w.heap.size w wr := B3.trans (hbel.mono B3.size)
    by_cases hlt : k < l.length
    · have hltI : (k : Int) < (l.length : Int) := by omega
      obtain ⟨f0, f1, f2, f3, f4, f5⟩ := ((unhide HR).below BW hb) k hlt
      simp only [Nat.zero_add] at f0 f1 f2 f3 f4 f5
      have hbad := hide (fun h => Tr.scope_first (unhide HF) hlt hall.out h)
      have hnext : Hid (Tr.unk l k = false → ∀ j, j < k + 1 → Tr.unk l j = false) := fun h j hj => by
        by_cases e : j = k
        · subst e; exact h
        · exact hall.out j (by omega)
      have hun : Hid (Tr.unk l k = (!Tr.callOk (l.getD k Nd.zero) || ((l.getD k Nd.zero).op == 21 && !Tr.bound l k (l.getD k Nd.zero).text))) := rfl
      have HBD := hide (fun (W : World) (hW : Below w3.heap.size w3 W) => isBound_any b gh2 l xs k W ((unhide HR).below (B3.trans (hW.mono B3.size)) hb) (Nat.lt_of_lt_of_le hb (B3.trans (hW.mono B3.size)).size) (hox.below hW hox.lt) (unhide HHO) hlt h200 (unhide HFI))
      have HKC := hide (fun wq => isKnownCall_any (l.getD k Nd.zero) wq)
      generalize l.getD k Nd.zero = n at *
      obtain ⟨w4, hw4⟩ : ∃ w4, w4 = wr.alloc (.cells #[.int .i64 n.op, .int .i64 n.a, .int .i64 n.b, .int .i64 n.c, .int .i64 n.num, .string n.text] 55) := ⟨_, rfl⟩
      have B4 : Below w3.heap.size w3 w4 := by rw [hw4]; exact hbel.alloc hbel.size _
      have N4 : Own w4 wr.heap.size 55 [.int .i64 n.op, .int .i64 n.a, .int .i64 n.b, .int .i64 n.c, .int .i64 n.num, .string n.text] := by rw [hw4]; exact ⟨_, heap_alloc_new _ _, rfl⟩
      clear hlt
      go_wp2_with fail
      rw [← hw4]
      clear hw4 f0 f1 f2 f3 f4 f5
      refine ((unhide HKC) _).mono ?_
      rintro e w5 ⟨rfl, hb5⟩
      have B5 : Below w3.heap.size w3 w5 := B4.trans (hb5.mono B4.size)
      have BW5 : Below w.heap.size w w5 := B3.trans (B5.mono B3.size)
      have c0 := (N4.below hb5 N4.lt).cell 0
      simp only [List.getElem?_cons_zero] at c0
      have O5 := O3.below B5 O3.lt
      cases hc : Tr.callOk n with
      | false =>
        have fin := hide ((unhide hbad) (by rw [hun.out, hc]; rfl))
        have OX := O5
        clear hnext hbad hun
        obtain ⟨c0, c1⟩ := ires_of OX
        have z0 := OX.frozen 0
        have z1 := OX.frozen 1
        have O2 := hide ((OX.set 0 (.int .i64 4)).set 1 (.int .i64 k))
        clear OX
        go_wp2_with fail
        obtain ⟨q0, q1⟩ := ires_of (x := 4) (y := k) (unhide O2)
        clear c0 c1 z0 z1 O2
        have B2 : Below w.heap.size w ((w5.setCell ⟨w.heap.size, 0, none⟩ (.int .i64 4)).setCell ⟨w.heap.size, 1, none⟩ (.int .i64 k)) := (BW5.setCell (Nat.le_refl _) _).setCell (Nat.le_refl _) _
        generalize (w5.setCell ⟨w.heap.size, 0, none⟩ (.int .i64 4)).setCell ⟨w.heap.size, 1, none⟩ (.int .i64 k) = WW at *
        refine bodyPost_ret (v := .agg #[.int .i64 4, .int .i64 k]) (by simp [results, Try.results23, go_sem, q0, q1]; try rfl) rfl ⟨by rw [unhide fin], B2⟩
      | true =>
        by_cases h21 : n.op = 21
        case neg =>
          have g1 : (n.op == 21) = false := by simpa using h21
          have hn2 := hide (hnext.out (by rw [hun.out, hc, g1]; rfl))
          clear h21 hnext hbad hun
          go_wp2_with fail
          go_roundg (l.length - (k + 1))
          case rel => exact ⟨k + 1, rfl, by go_num, by omega, unhide hn2, B5⟩
          case measure => have := hg.out; omega
        case pos =>
          have g1 : (n.op == 21) = true := by simp [h21]
          clear h21
          go_wp2_with fail
          refine ((unhide HBD) _ B5).mono ?_
          rintro e w6 ⟨rfl, hb6⟩
          have B6 : Below w3.heap.size w3 w6 := B5.trans (hb6.mono B5.size)
          have BW6 : Below w.heap.size w w6 := B3.trans (B6.mono B3.size)
          cases hbb : Tr.bound l k n.text with
          | true =>
            have hn2 := hide (hnext.out (by rw [hun.out, hc, g1, hbb]; rfl))
            clear hnext hbad hun
            go_wp2_with fail
            go_roundg (l.length - (k + 1))
            case rel => exact ⟨k + 1, rfl, by go_num, by omega, unhide hn2, B6⟩
            case measure => have := hg.out; omega
          | false =>
            have fin := hide ((unhide hbad) (by rw [hun.out, hc, g1, hbb]; rfl))
            have OX := O5.below hb6 O5.lt
            clear hnext hbad hun
            obtain ⟨c0, c1⟩ := ires_of OX
            have z0 := OX.frozen 0
            have z1 := OX.frozen 1
            have O2 := hide ((OX.set 0 (.int .i64 4)).set 1 (.int .i64 k))
            clear OX
            go_wp2_with fail
            obtain ⟨q0, q1⟩ := ires_of (x := 4) (y := k) (unhide O2)
            clear c0 c1 z0 z1 O2
            have B2 : Below w.heap.size w ((w6.setCell ⟨w.heap.size, 0, none⟩ (.int .i64 4)).setCell ⟨w.heap.size, 1, none⟩ (.int .i64 k)) := (BW6.setCell (Nat.le_refl _) _).setCell (Nat.le_refl _) _
            generalize (w6.setCell ⟨w.heap.size, 0, none⟩ (.int .i64 4)).setCell ⟨w.heap.size, 1, none⟩ (.int .i64 k) = WW at *
            refine bodyPost_ret (v := .agg #[.int .i64 4, .int .i64 k]) (by simp [results, Try.results23, go_sem, q0, q1]; try rfl) rfl ⟨by rw [unhide fin], B2⟩
    · have hke : k = l.length := by omega
      have fin := hide (Tr.scope_none (unhide HF) (fun j hj => hall.out j (by omega)))
      have OX := O3.below hbel O3.lt
      clear hke
      obtain ⟨c0, c1⟩ := ires_of OX
      have z0 := OX.frozen 0
      have z1 := OX.frozen 1
      have O2 := hide ((OX.set 0 (.int .i64 0)).set 1 (.int .i64 0))
      clear OX
      go_wp2_with fail
      obtain ⟨q0, q1⟩ := ires_of (x := 0) (y := 0) (unhide O2)
      clear c0 c1 z0 z1 O2
      have B2 : Below w.heap.size w ((wr.setCell ⟨w.heap.size, 0, none⟩ (.int .i64 0)).setCell ⟨w.heap.size, 1, none⟩ (.int .i64 0)) := (BW.setCell (Nat.le_refl _) _).setCell (Nat.le_refl _) _
      generalize (wr.setCell ⟨w.heap.size, 0, none⟩ (.int .i64 0)).setCell ⟨w.heap.size, 1, none⟩ (.int .i64 0) = WW at *
      refine bodyPost_ret (v := .agg #[.int .i64 0, .int .i64 0]) (by simp [results, Try.results23, go_sem, q0, q1]; try rfl) rfl ⟨by rw [unhide fin], B2⟩

end Go.Proofs.Ytmbefapdckhjdaa
