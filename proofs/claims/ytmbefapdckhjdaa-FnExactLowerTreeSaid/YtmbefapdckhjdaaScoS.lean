/-
  spec.l5Scope: the places of what is not known, in order.
-/
import Derived.Test.YtmbefapdckhjdaaScoM
import Derived.Test.YtmbefapdckhjdaaAnyZ
import Derived.Deep.RegionWith
import Derived.Deep.RegionHeld3
namespace Go.Proofs.Ytmbefapdckhjdaa
open Go.RowKit
set_option linter.unusedVariables false
set_option linter.unusedSimpArgs false


set_option maxHeartbeats 1000000 in
theorem l5Calls_any (w : World) : Calls Try.prog 71 #[] w fun e w' => ∃ v, e = .returned v ∧ w'.ownsRow 0 9 1 v Tr.theCalls.length (Tr.theCalls.map Value.string) ∧ Below w.heap.size w w' := by
  go_enter Try.func71, Try.ntmps71
  go_wp2_with fail
  go_ret
  refine ⟨_, rfl, ⟨rfl, .inr ⟨w.heap.size, 8, (Tr.theCalls.map Value.string).toArray, rfl, Nat.zero_le _, heap_alloc_new _ _, by decide, by unfold maxLen; omega, rfl, rfl⟩⟩, (Below.refl _ _).alloc (Nat.le_refl _) _⟩

set_option maxHeartbeats 1000000 in
theorem l5CallOnes_any (w : World) : Calls Try.prog 72 #[] w fun e w' => ∃ v, e = .returned v ∧ w'.ownsRow 0 9 1 v Tr.theOnes.length (Tr.theOnes.map Value.string) ∧ Below w.heap.size w w' := by
  go_enter Try.func72, Try.ntmps72
  go_wp2_with fail
  go_ret
  refine ⟨_, rfl, ⟨rfl, .inr ⟨w.heap.size, 3, (Tr.theOnes.map Value.string).toArray, rfl, Nat.zero_le _, heap_alloc_new _ _, by decide, by unfold maxLen; omega, rfl, rfl⟩⟩, (Below.refl _ _).alloc (Nat.le_refl _) _⟩

section
variable {P : Program} {md : Region.Mode} {ops : Array Oper} {Q : Exit → Act → World → Prop} {S : World → Prop}
/-- An operation that only reads, taken first; where it puts its value is named. -/
theorem take_at {i d : Nat} {oi : Oper} {v : Value} {fuel : Nat} {listed : Array Bool} {a : Act} {w : World} (hi : ops[i]? = some oi) (hd : oi.dst = some d)
    (hs : Region.noSelect ops = true) (hf : Region.free md ops listed i = true) (hr : (Region.ready md ops listed).contains i = true)
    (hQ : ∀ c a w, Q (.panic c) (a.put (some d) v) w → Q (.panic c) a w) (hy : YieldsIf P ops S oi v a) (hS : S w)
    (h : wpAnyH P md ops Q S fuel (listed.setIfInBounds i true) (a.put (some d) v) w) : wpAnyH P md ops Q S (fuel + 1) listed a w :=
  wpAnyH_take hi hs hf hr (by rw [hd]; exact hQ) hy hS (by rw [hd]; exact h)
/-- A call that is not wanted. -/
theorem skip_at {i d : Nat} {oi : Oper} {fuel : Nat} {listed : Array Bool} {a : Act} {w : World} (hi : ops[i]? = some oi) (hd : oi.dst = some d) (hr : Region.ready md ops listed = [i])
    (hw : Region.wanted oi (yielded ops a.tmps) = false) (hS : S w) (h : wpAnyH P md ops Q S fuel (listed.setIfInBounds i true) (a.put (some d) undef) w) : wpAnyH P md ops Q S (fuel + 1) listed a w :=
  wpAnyH_ready hr (by simp) (AllReadyH.cons hi (fun K hK => by
    rw [if_neg (by rw [hw]; decide)]
    exact hK.out _ _ hS (fun _ => by rw [hd]; exact h)) AllReadyH.nil)
/-- A call that is wanted, the only one that may come up. -/
theorem call_at {i d : Nat} {oi : Oper} {fuel : Nat} {listed : Array Bool} {a : Act} {w : World} (hi : ops[i]? = some oi) (hd : oi.dst = some d) (hr : Region.ready md ops listed = [i])
    (hw : Region.wanted oi (yielded ops a.tmps) = true) (h : ∀ K : Act → World → Prop, Shut (∀ v w', S w' → wpAnyH P md ops Q S fuel (listed.setIfInBounds i true) (a.put (some d) v) w' → K (a.put (some d) v) w') → Oper.wp P oi a w K Q) : wpAnyH P md ops Q S (fuel + 1) listed a w :=
  wpAnyH_ready hr (by simp) (AllReadyH.cons hi (fun K hK => by
    rw [if_pos hw]
    exact h K (fun v w' hS hW => hK.out _ _ hS (fun _ => hW))) AllReadyH.nil)
end
theorem unwanted {p : Bool} {X Y : Prop} (h : p = false) (hy : Y) : if p = true then X else Y := by subst h; simpa using hy

/-- What l5Scope of a node answers, where it may call itself f times deep. -/
def ScoSays (b B0 : Nat) (l : List Nd) (f : Nat) : Prop := ∀ (i : Nat) (ss : List ByteArray) (out : List Int) (nv v : Value) (w : World), i < l.length → i < f → out.length + (Tr.ordF f l i).length ≤ 400 → ss.length + f ≤ 400 → (∀ t, oneOf ss t = Tr.bound l i t) → Nd.Row w b 0 l → b < B0 → B0 ≤ w.heap.size → w.ownsRow 0 9 1 nv ss.length (ss.map Value.string) → w.ownsRow B0 2 1 v out.length (out.map (Value.int .i64)) →
    Calls Try.prog 37 #[.slice (some ⟨b, 0, none⟩) l.length l.length, .int .i64 i, nv, v] w fun e w' => ∃ v', e = .returned v' ∧ w'.ownsRow B0 2 1 v' (out ++ (Tr.ordF f l i).filter (Tr.unkI l)).length ((out ++ (Tr.ordF f l i).filter (Tr.unkI l)).map (Value.int .i64)) ∧ Tr.Kp B0 w w'

set_option maxRecDepth 100000 in
set_option maxHeartbeats 8000000 in
theorem l5Scope_step (b B0 : Nat) (l : List Nd) (f : Nat) (h200 : l.length ≤ 200) (hf : Tr.Fine l) (hod : Tr.inOrder l = true) (hop : ∀ i, i < l.length → 1 ≤ (l.getD i Nd.zero).op ∧ (l.getD i Nd.zero).op ≤ 24) (hf2 : f < 200) (ih : ScoSays b B0 l f) : ScoSays b B0 l (f + 1) := by
  intro i ss out nv v w hi hif hlen hssl hsem hrow hb hB hnv hown
  have hiI : (i : Int) < (l.length : Int) := by omega
  have hopi := hop i hi
  obtain ⟨f0, f1, f2, f3, f4, f5⟩ := hrow i hi
  simp only [Nat.zero_add] at f0 f1 f2 f3 f4 f5
  have hkl := Tr.kids_le (l.getD i Nd.zero).op
  have hall := hide (Tr.scoK_all f l out i)
  have hfin := hide (fun j hj => Tr.kid_fine hf i hi j hj)
  have hsucc := hide (fun j hj => Tr.scoK_succ f l (l.getD i Nd.zero) out j hj)
  have hbk := hide (fun (j : Nat) (hj : j < Tr.kids (l.getD i Nd.zero).op) (x : Nat) (hx : Tr.kidAt (l.getD i Nd.zero) j = x) (t : ByteArray) => show Tr.bound l x t = ((Tr.binds (l.getD i Nd.zero) x && ((l.getD i Nd.zero).text.toList == t.toList)) || Tr.bound l i t) from Tr.bound_kid hf hod hi (by rw [← hx]; exact Tr.kid_mem _ j hj) t)
  have hbn := hide (fun (j : Nat) (hj : j < Tr.kids (l.getD i Nd.zero).op) => Tr.binds_kid hod hi hj)
  have hrm := hide (fun (j : Nat) (hj : j < Tr.kids (l.getD i Nd.zero).op) => Tr.sco_room f l i out j hj)
  have hrm2 := hide (Tr.sco_room2 f l i out)
  have hunk : Hid (Tr.unk l i = (!Tr.callOk (l.getD i Nd.zero) || ((l.getD i Nd.zero).op == 21 && !Tr.bound l i (l.getD i Nd.zero).text))) := rfl
  have HR := hide hrow
  have HIH := hide ih
  have HK := hide (fun wq => l5Kids_any (l.getD i Nd.zero).op wq hopi.1 hopi.2)
  have HKD := hide (fun j hj wq => l5Kid_any (l.getD i Nd.zero) j hj wq)
  have hz := hide (Tr.scoK_zero f l (l.getD i Nd.zero) out)
  obtain ⟨i0, hi0, hz0, hz1, hz2⟩ := info_parts Tr.infoI
  obtain ⟨t0, ht0, hy0, hy1, hy2⟩ := info_parts Tr.infoT
  have HSEM := hide hsem
  clear hop hf hrow ih hopi hod hsem
  generalize l.getD i Nd.zero = n at *
  obtain ⟨ks, hks⟩ : ∃ ks, ks = Tr.kids n.op := ⟨_, rfl⟩
  rw [← hks] at hkl hall hfin hsucc HK hbk hbn hrm hrm2
  clear hks
  obtain ⟨w1, hw1⟩ : ∃ w1, w1 = w.alloc (.cells #[.int .i64 n.op, .int .i64 n.a, .int .i64 n.b, .int .i64 n.c, .int .i64 n.num, .string n.text] 55) := ⟨_, rfl⟩
  have B1 : Below w.heap.size w w1 := by rw [hw1]; exact (Below.refl _ _).alloc (Nat.le_refl _) _
  have N1 : Own w1 w.heap.size 55 [.int .i64 n.op, .int .i64 n.a, .int .i64 n.b, .int .i64 n.c, .int .i64 n.num, .string n.text] := by rw [hw1]; exact ⟨_, heap_alloc_new _ _, rfl⟩
  have hown1 := Tr.owns_below hown B1
  have hnv1 := hide (Tr.owns_below hnv B1)
  obtain ⟨va, vc, hv⟩ := Tr.owns_slice hown
  obtain ⟨na, nc, hnve⟩ := Tr.owns_slice hnv
  have HO1 := hide hown1
  clear hown hown1 hnv
  subst hv hnve
  obtain ⟨T, hT⟩ : ∃ T, T = out.length + (Tr.ordF (f + 1) l i).length := ⟨_, rfl⟩
  rw [← hT] at hlen hrm hrm2
  clear hT
  go_enter Try.func37, Try.ntmps37
  go_wp2_with fail
  rw [← hw1]
  clear hw1 f0 f1 f2 f3 f4 f5
  go_loopg [3, 10] 4 (fun gh s3 s10 wr => ∃ (j : Nat) (L : List Int), Hid (gh = 4 - j) ∧ s10 = .int .i64 j ∧ j ≤ ks ∧ Hid (L = Tr.scoK f l n out j) ∧ wr.ownsRow B0 2 1 s3 L.length (L.map (Value.int .i64)) ∧ Tr.Kp B0 w1 wr ∧ Own wr w.heap.size 55 [.int .i64 n.op, .int .i64 n.a, .int .i64 n.b, .int .i64 n.c, .int .i64 n.num, .string n.text])
  case atStart => exact ⟨0, out, rfl, rfl, by omega, (unhide hz).symm, unhide HO1, Tr.Kp.refl _ _, N1⟩
  case round =>
    obtain ⟨j, L, hg, rfl, hj, hL, hown, hbel, hN⟩ := hrel
    obtain ⟨ua, uc, hu⟩ := Tr.owns_slice hown
    subst hu
    have K1 : Tr.Kp B0 w w1 := Tr.Kp.of_below B1 hB
    have KW := K1.trans hbel
    have hsz := KW.1.size
    have hnvr := hide (hbel.owns (unhide hnv1) (by decide))
    have c0 := hN.cell 0
    have c1 := hN.cell 1
    have c2 := hN.cell 2
    have c3 := hN.cell 3
    have c4 := hN.cell 4
    have c5 := hN.cell 5
    simp only [List.getElem?_cons_zero, List.getElem?_cons_succ] at c0 c1 c2 c3 c4 c5
    have HL := hide hown
    by_cases hjl : j < ks
    · have g1 : (j : Int) < (ks : Int) := by omega
      have hb1 := (unhide hfin) j hjl
      have hs1 := hide ((unhide hsucc) j hjl)
      have hrj := (unhide hrm) j hjl
      obtain ⟨x, hx⟩ : ∃ x : Nat, Tr.kidAt n j = x := ⟨(Tr.kidAt n j).toNat, by omega⟩
      have HKJ := hide (fun wq => (unhide HKD) j (by omega) wq)
      have hbx := hide (fun t => (unhide hbk) j hjl x hx t)
      have hnx := (unhide hbn) j hjl
      rw [hx] at hb1 hs1 HKJ hrj hnx
      simp only [Int.toNat_natCast] at hs1 hrj
      rw [← hL.out] at hrj
      have hxi : x < i := by omega
      have HNX := hide hnx
      clear hx hb1 hnx
      have hN4w := hN
      clear hjl
      go_wp2_with fail
      refine ((unhide HK) _).mono ?_
      rintro e w2 ⟨rfl, hw2⟩
      subst w2
      have hEQ := hide (show Tr.scoK f l n out (j + 1) = L ++ (Tr.ordF f l x).filter (Tr.unkI l) by rw [unhide hs1, ← hL.out])
      clear hs1
      have HSY : Hid (Tr.binds n x = true → ∀ t, oneOf (ss ++ [n.text]) t = Tr.bound l x t) := fun hb t => by
        rw [Tr.oneOf_snoc, (unhide hbx) t, hb, Bool.true_and, (unhide HSEM) t, Bool.or_comm]
      have HSN : Hid (Tr.binds n x = false → ∀ t, oneOf ss t = Tr.bound l x t) := fun hb t => by
        rw [(unhide hbx) t, hb, Bool.false_and, Bool.false_or, (unhide HSEM) t]
      clear hbx
      by_cases h20 : n.op = 20
      · have g20 : (n.op == 20) = true := by simp [h20]
        have g19 : (n.op == 19) = false := by simp [h20]
        clear h20
        by_cases hj1 : j = 1
        · subst hj1
          have hbq : Tr.binds n x = true := by rw [unhide HNX]; simp [g20, g19]
          replace HSY := hide (HSY.out hbq)
          clear HSN hbq HNX
          obtain ⟨s2, hs2⟩ : ∃ s2, s2 = ss ++ [n.text] := ⟨_, rfl⟩
          have hs2l : s2.length + f ≤ 400 := by rw [hs2, List.length_append]; simp only [List.length_cons, List.length_nil]; omega
          rw [← hs2] at HSY
          have HS2 := hide hs2
          clear hs2
          have KEEP := hide (show ∀ W, Below wr.heap.size wr W → (W.cell? ⟨w.heap.size, 5, none⟩ = some (.string n.text) ∧ Below wr.heap.size wr W) from fun W hb => ⟨(hb.cell (by exact hN4w.lt)).trans c5, hb⟩)
          have NMV := hide (show ∀ W, Below wr.heap.size wr W → W.ownsRow 0 9 1 (.slice na ss.length nc) ss.length (ss.map Value.string) from fun W hb => Tr.owns_below (unhide hnvr) hb)
          go_wp2_with fail
          go_region_held_law (fun w' => w'.cell? ⟨w.heap.size, 5, none⟩ = some (.string n.text) ∧ Below wr.heap.size wr w')
            (first | assumption | exact (unhide KEEP) _ (by assumption) | exact (unhide KEEP) _ (Below.refl _ _).drew | exact (unhide KEEP) _ (Ap.below_alloc (And.right (by assumption))))
            (first
              | (refine Ap.step_append_row ((wr.alloc (.cells #[] 9)).drew) rfl (.tmp 40) (.tmp 41) 57 rfl wr.heap.size 9 t0 (.string ByteArray.empty) 16 Try.underlying57 ht0 hy0 hy1 hy2 rfl (.slice (some ⟨wr.heap.size, 0, none⟩) 0 0) 0 [] rfl (Ap.owns_empty (by omega) (Ap.heapE _ _)) 0 9 _ ss.length (ss.map Value.string) rfl ((unhide NMV) _ (by exact And.right (by assumption))) (Tr.strs_plain ss) (by unfold maxLen; omega) (by omega) (Below.size (B := wr.heap.size) (by exact And.right (by assumption))) ?_
                 intro v1 w1' ho1 hg1
                 have hB1 : Below wr.heap.size wr w1' := Below.grown (by exact And.right (by assumption)) hg1 (Below.size (B := wr.heap.size) (by exact And.right (by assumption))) (by intro q hq; simp only [Value.ownBlock, Option.some.injEq] at hq; omega))
              | (refine Ap.step_append_row (((wr.alloc (.cells #[] 9)).alloc (.cells #[.string n.text] 9)).drew) rfl (.tmp 40) (.tmp 41) 57 rfl wr.heap.size 9 t0 (.string ByteArray.empty) 16 Try.underlying57 ht0 hy0 hy1 hy2 rfl (.slice (some ⟨wr.heap.size, 0, none⟩) 0 0) 0 [] rfl (Ap.owns_empty (by omega) (Ap.heapEK _ _ _)) 0 9 _ ss.length (ss.map Value.string) rfl ((unhide NMV) _ (by exact And.right (by assumption))) (Tr.strs_plain ss) (by unfold maxLen; omega) (by omega) (Below.size (B := wr.heap.size) (by exact And.right (by assumption))) ?_
                 intro v1 w1' ho1 hg1
                 have hB1 : Below wr.heap.size wr w1' := Below.grown (by exact And.right (by assumption)) hg1 (Below.size (B := wr.heap.size) (by exact And.right (by assumption))) (by intro q hq; simp only [Value.ownBlock, Option.some.injEq] at hq; omega)
                 have hk1 : w1'.cell? ⟨wr.heap.size + 1, 0, none⟩ = some (.string n.text) := (World.grownBy.cell_far hg1 ⟨wr.heap.size + 1, 0, none⟩ (by simp) (Ap.ne_own (wr.heap.size + 1) wr.heap.size 0 0 (by omega))).trans (Ap.cellEK _ _ _))
              | (refine Ap.step_append_row (((wr.alloc (.cells #[.string n.text] 9)).alloc (.cells #[] 9)).drew) rfl (.tmp 40) (.tmp 41) 57 rfl wr.heap.size 9 t0 (.string ByteArray.empty) 16 Try.underlying57 ht0 hy0 hy1 hy2 rfl (.slice (some ⟨wr.heap.size + 1, 0, none⟩) 0 0) 0 [] rfl (Ap.owns_empty (by omega) (Ap.heapKE _ _ _)) 0 9 _ ss.length (ss.map Value.string) rfl ((unhide NMV) _ (by exact And.right (by assumption))) (Tr.strs_plain ss) (by unfold maxLen; omega) (by omega) (Below.size (B := wr.heap.size) (by exact And.right (by assumption))) ?_
                 intro v1 w1' ho1 hg1
                 have hB1 : Below wr.heap.size wr w1' := Below.grown (by exact And.right (by assumption)) hg1 (Below.size (B := wr.heap.size) (by exact And.right (by assumption))) (by intro q hq; simp only [Value.ownBlock, Option.some.injEq] at hq; omega)
                 have hk1 : w1'.cell? ⟨wr.heap.size, 0, none⟩ = some (.string n.text) := (World.grownBy.cell_far hg1 ⟨wr.heap.size, 0, none⟩ (by simp <;> omega) (Ap.ne_own wr.heap.size (wr.heap.size + 1) 0 0 (by omega))).trans (Ap.cellKE _ _ _))
              | (refine Ap.step_append_any _ rfl (.tmp 42) (.tmp 45) 57 rfl wr.heap.size 9 t0 (.string ByteArray.empty) 1 16 Try.underlying57 ht0 hy0 hy1 hy2 rfl (by decide) _ (0 + ss.length) _ rfl (by first | exact ho1 | exact ho1.alloc _) _ _ _ [.string n.text] rfl rfl (Ap.one_of (by first | assumption | exact World.cell?_alloc_mark _ _ _ _ _ | simp)) (by intro u hu; simp only [List.mem_cons, List.not_mem_nil, or_false] at hu; subst hu; rfl) (by unfold maxLen; omega) (by omega) (Below.size (B := wr.heap.size) (by exact And.right (by assumption))) ?_
                 intro v2 w2' ho2 hg2
                 have hB2 : Below wr.heap.size wr w2' := Below.grown (by exact And.right (by assumption)) hg2 (Below.size (B := wr.heap.size) (by exact And.right (by assumption))) (Tr.owns_base ho1)))
          all_goals
            have hv2 : w2'.ownsRow 0 9 1 v2 s2.length (s2.map Value.string) := by
              have := Tr.owns_mono ho2 (Nat.zero_le _)
              rw [unhide HS2, List.length_append, List.map_append]
              simpa using this
            have KP2 : Tr.Kp B0 wr w2' := Tr.Kp.of_below hB2 (by omega)
            obtain ⟨xa, xc, hxe⟩ := Tr.owns_slice hv2
            subst hxe
            have HV2 := hide hv2
            clear hv2 ho2 c0 c1 c2 c3 c4 c5
            have hN2 := Tr.Kp.own KP2 hN (by decide)
            have c0 := hN2.cell 0
            have c1 := hN2.cell 1
            have c2 := hN2.cell 2
            have c3 := hN2.cell 3
            have c4 := hN2.cell 4
            have c5 := hN2.cell 5
            simp only [List.getElem?_cons_zero, List.getElem?_cons_succ] at c0 c1 c2 c3 c4 c5
            go_wp2_with fail
            refine ((unhide HKJ) _).mono ?_
            rintro e w3 ⟨rfl, hb3⟩
            have K3 : Tr.Kp B0 wr w3 := Tr.Kp.trans KP2 (Tr.Kp.of_below hb3 (Nat.le_trans hB (Nat.le_trans hsz (Tr.Kp.trans KP2 (Tr.Kp.refl _ _)).1.size)))
            have hN3 := K3.own hN (by decide)
            have KW3 := KW.trans K3
            clear c0 c1 c2 c3 c4 c5
            go_wp2_with fail
            refine ((unhide HIH) x s2 L _ _ w3 (by omega) (by omega) (by omega) (by exact hs2l) (unhide HSY) ((unhide HR).below KW3.1 hb) hb (by have := KW3.1.size; omega) (Tr.owns_below (unhide HV2) hb3) (Tr.owns_below (Tr.owns_below (unhide HL) hB2) hb3)).mono ?_
            rintro e w4 ⟨v4, rfl, ho4, k4⟩
            have hN4 := k4.own hN3 (by decide)
            rw [← unhide hEQ] at ho4
            have HO4 := hide ho4
            clear ho4
            go_wp2_with fail
            go_roundg (4 - (1 + 1))
            case rel => exact ⟨1 + 1, _, rfl, by go_num, by omega, rfl, unhide HO4, hbel.trans (K3.trans k4), hN4⟩
            case measure => have := hg.out; omega
        · have q1 : ((j : Int) == 1) = false := beq_eq_false_iff_ne.2 (by omega)
          have q2 : (j == 1) = false := beq_eq_false_iff_ne.2 hj1
          have hbq : Tr.binds n x = false := by rw [unhide HNX]; simp [g20, g19, q2, hj1]
          replace HSN := hide (HSN.out hbq)
          clear HSY hbq HNX
          go_wp2_with fail
          refine ((unhide HKJ) _).mono ?_
          rintro e w3 ⟨rfl, hb3⟩
          have K3 : Tr.Kp B0 wr w3 := Tr.Kp.of_below hb3 (by omega)
          have hN3 := K3.own hN (by decide)
          have KW3 := KW.trans K3
          clear c0 c1 c2 c3 c4 c5
          go_wp2_with fail
          refine ((unhide HIH) x ss L _ _ w3 (by omega) (by omega) (by omega) (by omega) (unhide HSN) ((unhide HR).below KW3.1 hb) hb (by have := KW3.1.size; omega) (Tr.owns_below (unhide hnvr) hb3) (Tr.owns_below (unhide HL) hb3)).mono ?_
          rintro e w4 ⟨v4, rfl, ho4, k4⟩
          have hN4 := k4.own hN3 (by decide)
          rw [← unhide hEQ] at ho4
          have HO4 := hide ho4
          clear ho4
          go_wp2_with fail
          go_roundg (4 - (j + 1))
          case rel => exact ⟨j + 1, _, rfl, by go_num, by omega, rfl, unhide HO4, hbel.trans (K3.trans k4), hN4⟩
          case measure => have := hg.out; omega
      · have g20 : (n.op == 20) = false := by simpa using h20
        by_cases h19 : n.op = 19
        · have g19 : (n.op == 19) = true := by simp [h19]
          clear h20 h19
          by_cases hj1 : j = 2
          · subst hj1
            have hbq : Tr.binds n x = true := by rw [unhide HNX]; simp [g20, g19]
            replace HSY := hide (HSY.out hbq)
            clear HSN hbq HNX
            obtain ⟨s2, hs2⟩ : ∃ s2, s2 = ss ++ [n.text] := ⟨_, rfl⟩
            have hs2l : s2.length + f ≤ 400 := by rw [hs2, List.length_append]; simp only [List.length_cons, List.length_nil]; omega
            rw [← hs2] at HSY
            have HS2 := hide hs2
            clear hs2
            have KEEP := hide (show ∀ W, Below wr.heap.size wr W → (W.cell? ⟨w.heap.size, 5, none⟩ = some (.string n.text) ∧ Below wr.heap.size wr W) from fun W hb => ⟨(hb.cell (by exact hN4w.lt)).trans c5, hb⟩)
            have NMV := hide (show ∀ W, Below wr.heap.size wr W → W.ownsRow 0 9 1 (.slice na ss.length nc) ss.length (ss.map Value.string) from fun W hb => Tr.owns_below (unhide hnvr) hb)
            go_wp2_with fail
            go_region_held_law (fun w' => w'.cell? ⟨w.heap.size, 5, none⟩ = some (.string n.text) ∧ Below wr.heap.size wr w')
              (first | assumption | exact (unhide KEEP) _ (by assumption) | exact (unhide KEEP) _ (Below.refl _ _).drew | exact (unhide KEEP) _ (Ap.below_alloc (And.right (by assumption))))
              (first
                | (refine Ap.step_append_row ((wr.alloc (.cells #[] 9)).drew) rfl (.tmp 40) (.tmp 41) 57 rfl wr.heap.size 9 t0 (.string ByteArray.empty) 16 Try.underlying57 ht0 hy0 hy1 hy2 rfl (.slice (some ⟨wr.heap.size, 0, none⟩) 0 0) 0 [] rfl (Ap.owns_empty (by omega) (Ap.heapE _ _)) 0 9 _ ss.length (ss.map Value.string) rfl ((unhide NMV) _ (by exact And.right (by assumption))) (Tr.strs_plain ss) (by unfold maxLen; omega) (by omega) (Below.size (B := wr.heap.size) (by exact And.right (by assumption))) ?_
                   intro v1 w1' ho1 hg1
                   have hB1 : Below wr.heap.size wr w1' := Below.grown (by exact And.right (by assumption)) hg1 (Below.size (B := wr.heap.size) (by exact And.right (by assumption))) (by intro q hq; simp only [Value.ownBlock, Option.some.injEq] at hq; omega))
                | (refine Ap.step_append_row (((wr.alloc (.cells #[] 9)).alloc (.cells #[.string n.text] 9)).drew) rfl (.tmp 40) (.tmp 41) 57 rfl wr.heap.size 9 t0 (.string ByteArray.empty) 16 Try.underlying57 ht0 hy0 hy1 hy2 rfl (.slice (some ⟨wr.heap.size, 0, none⟩) 0 0) 0 [] rfl (Ap.owns_empty (by omega) (Ap.heapEK _ _ _)) 0 9 _ ss.length (ss.map Value.string) rfl ((unhide NMV) _ (by exact And.right (by assumption))) (Tr.strs_plain ss) (by unfold maxLen; omega) (by omega) (Below.size (B := wr.heap.size) (by exact And.right (by assumption))) ?_
                   intro v1 w1' ho1 hg1
                   have hB1 : Below wr.heap.size wr w1' := Below.grown (by exact And.right (by assumption)) hg1 (Below.size (B := wr.heap.size) (by exact And.right (by assumption))) (by intro q hq; simp only [Value.ownBlock, Option.some.injEq] at hq; omega)
                   have hk1 : w1'.cell? ⟨wr.heap.size + 1, 0, none⟩ = some (.string n.text) := (World.grownBy.cell_far hg1 ⟨wr.heap.size + 1, 0, none⟩ (by simp) (Ap.ne_own (wr.heap.size + 1) wr.heap.size 0 0 (by omega))).trans (Ap.cellEK _ _ _))
                | (refine Ap.step_append_row (((wr.alloc (.cells #[.string n.text] 9)).alloc (.cells #[] 9)).drew) rfl (.tmp 40) (.tmp 41) 57 rfl wr.heap.size 9 t0 (.string ByteArray.empty) 16 Try.underlying57 ht0 hy0 hy1 hy2 rfl (.slice (some ⟨wr.heap.size + 1, 0, none⟩) 0 0) 0 [] rfl (Ap.owns_empty (by omega) (Ap.heapKE _ _ _)) 0 9 _ ss.length (ss.map Value.string) rfl ((unhide NMV) _ (by exact And.right (by assumption))) (Tr.strs_plain ss) (by unfold maxLen; omega) (by omega) (Below.size (B := wr.heap.size) (by exact And.right (by assumption))) ?_
                   intro v1 w1' ho1 hg1
                   have hB1 : Below wr.heap.size wr w1' := Below.grown (by exact And.right (by assumption)) hg1 (Below.size (B := wr.heap.size) (by exact And.right (by assumption))) (by intro q hq; simp only [Value.ownBlock, Option.some.injEq] at hq; omega)
                   have hk1 : w1'.cell? ⟨wr.heap.size, 0, none⟩ = some (.string n.text) := (World.grownBy.cell_far hg1 ⟨wr.heap.size, 0, none⟩ (by simp <;> omega) (Ap.ne_own wr.heap.size (wr.heap.size + 1) 0 0 (by omega))).trans (Ap.cellKE _ _ _))
                | (refine Ap.step_append_any _ rfl (.tmp 42) (.tmp 45) 57 rfl wr.heap.size 9 t0 (.string ByteArray.empty) 1 16 Try.underlying57 ht0 hy0 hy1 hy2 rfl (by decide) _ (0 + ss.length) _ rfl (by first | exact ho1 | exact ho1.alloc _) _ _ _ [.string n.text] rfl rfl (Ap.one_of (by first | assumption | exact World.cell?_alloc_mark _ _ _ _ _ | simp)) (by intro u hu; simp only [List.mem_cons, List.not_mem_nil, or_false] at hu; subst hu; rfl) (by unfold maxLen; omega) (by omega) (Below.size (B := wr.heap.size) (by exact And.right (by assumption))) ?_
                   intro v2 w2' ho2 hg2
                   have hB2 : Below wr.heap.size wr w2' := Below.grown (by exact And.right (by assumption)) hg2 (Below.size (B := wr.heap.size) (by exact And.right (by assumption))) (Tr.owns_base ho1)))
            all_goals
              have hv2 : w2'.ownsRow 0 9 1 v2 s2.length (s2.map Value.string) := by
                have := Tr.owns_mono ho2 (Nat.zero_le _)
                rw [unhide HS2, List.length_append, List.map_append]
                simpa using this
              have KP2 : Tr.Kp B0 wr w2' := Tr.Kp.of_below hB2 (by omega)
              obtain ⟨xa, xc, hxe⟩ := Tr.owns_slice hv2
              subst hxe
              have HV2 := hide hv2
              clear hv2 ho2 c0 c1 c2 c3 c4 c5
              have hN2 := Tr.Kp.own KP2 hN (by decide)
              have c0 := hN2.cell 0
              have c1 := hN2.cell 1
              have c2 := hN2.cell 2
              have c3 := hN2.cell 3
              have c4 := hN2.cell 4
              have c5 := hN2.cell 5
              simp only [List.getElem?_cons_zero, List.getElem?_cons_succ] at c0 c1 c2 c3 c4 c5
              go_wp2_with fail
              refine ((unhide HKJ) _).mono ?_
              rintro e w3 ⟨rfl, hb3⟩
              have K3 : Tr.Kp B0 wr w3 := Tr.Kp.trans KP2 (Tr.Kp.of_below hb3 (Nat.le_trans hB (Nat.le_trans hsz (Tr.Kp.trans KP2 (Tr.Kp.refl _ _)).1.size)))
              have hN3 := K3.own hN (by decide)
              have KW3 := KW.trans K3
              clear c0 c1 c2 c3 c4 c5
              go_wp2_with fail
              refine ((unhide HIH) x s2 L _ _ w3 (by omega) (by omega) (by omega) (by exact hs2l) (unhide HSY) ((unhide HR).below KW3.1 hb) hb (by have := KW3.1.size; omega) (Tr.owns_below (unhide HV2) hb3) (Tr.owns_below (Tr.owns_below (unhide HL) hB2) hb3)).mono ?_
              rintro e w4 ⟨v4, rfl, ho4, k4⟩
              have hN4 := k4.own hN3 (by decide)
              rw [← unhide hEQ] at ho4
              have HO4 := hide ho4
              clear ho4
              go_wp2_with fail
              go_roundg (4 - (2 + 1))
              case rel => exact ⟨2 + 1, _, rfl, by go_num, by omega, rfl, unhide HO4, hbel.trans (K3.trans k4), hN4⟩
              case measure => have := hg.out; omega
          · have q1 : ((j : Int) == 2) = false := beq_eq_false_iff_ne.2 (by omega)
            have q2 : (j == 2) = false := beq_eq_false_iff_ne.2 hj1
            have hbq : Tr.binds n x = false := by rw [unhide HNX]; simp [g20, g19, q2, hj1]
            replace HSN := hide (HSN.out hbq)
            clear HSY hbq HNX
            go_wp2_with fail
            refine ((unhide HKJ) _).mono ?_
            rintro e w3 ⟨rfl, hb3⟩
            have K3 : Tr.Kp B0 wr w3 := Tr.Kp.of_below hb3 (by omega)
            have hN3 := K3.own hN (by decide)
            have KW3 := KW.trans K3
            clear c0 c1 c2 c3 c4 c5
            go_wp2_with fail
            refine ((unhide HIH) x ss L _ _ w3 (by omega) (by omega) (by omega) (by omega) (unhide HSN) ((unhide HR).below KW3.1 hb) hb (by have := KW3.1.size; omega) (Tr.owns_below (unhide hnvr) hb3) (Tr.owns_below (unhide HL) hb3)).mono ?_
            rintro e w4 ⟨v4, rfl, ho4, k4⟩
            have hN4 := k4.own hN3 (by decide)
            rw [← unhide hEQ] at ho4
            have HO4 := hide ho4
            clear ho4
            go_wp2_with fail
            go_roundg (4 - (j + 1))
            case rel => exact ⟨j + 1, _, rfl, by go_num, by omega, rfl, unhide HO4, hbel.trans (K3.trans k4), hN4⟩
            case measure => have := hg.out; omega
        · have g19 : (n.op == 19) = false := by simpa using h19
          clear h20 h19
          have hbq : Tr.binds n x = false := by rw [unhide HNX]; simp [g20, g19]
          replace HSN := hide (HSN.out hbq)
          clear HSY hbq HNX
          go_wp2_with fail
          refine ((unhide HKJ) _).mono ?_
          rintro e w3 ⟨rfl, hb3⟩
          have K3 : Tr.Kp B0 wr w3 := Tr.Kp.of_below hb3 (by omega)
          have hN3 := K3.own hN (by decide)
          have KW3 := KW.trans K3
          clear c0 c1 c2 c3 c4 c5
          go_wp2_with fail
          refine ((unhide HIH) x ss L _ _ w3 (by omega) (by omega) (by omega) (by omega) (unhide HSN) ((unhide HR).below KW3.1 hb) hb (by have := KW3.1.size; omega) (Tr.owns_below (unhide hnvr) hb3) (Tr.owns_below (unhide HL) hb3)).mono ?_
          rintro e w4 ⟨v4, rfl, ho4, k4⟩
          have hN4 := k4.own hN3 (by decide)
          rw [← unhide hEQ] at ho4
          have HO4 := hide ho4
          clear ho4
          go_wp2_with fail
          go_roundg (4 - (j + 1))
          case rel => exact ⟨j + 1, _, rfl, by go_num, by omega, rfl, unhide HO4, hbel.trans (K3.trans k4), hN4⟩
          case measure => have := hg.out; omega
    · have hje : j = ks := by omega
      have hrr : L.length + 1 ≤ T := by rw [hL.out, hje]; exact unhide hrm2
      have hfinal : Hid (out ++ (Tr.ordF (f + 1) l i).filter (Tr.unkI l) = L ++ (if Tr.unk l i = true then [(i : Int)] else [])) := (unhide hall).trans (by rw [hL.out, hje])
      have g1 : ¬ (j : Int) < (ks : Int) := by omega
      have g3 : decide ((j : Int) < (ks : Int)) = false := decide_eq_false g1
      have hjn : decide (j < ks) = false := decide_eq_false (by omega)
      have hsemt := (unhide HSEM) n.text
      have hub : Hid (Tr.unk l i = (!Tr.callOk n || (n.op == 21 && !oneOf ss n.text))) := by
        show _ = _
        rw [hunk.out, hsemt]
      clear hje hjl hunk hsemt
      have hNr := hN
      go_wp2_with fail
      refine ((unhide HK) _).mono ?_
      rintro e w2 ⟨rfl, hw2⟩
      subst w2
      have hap : Hid (∀ (W : World), Below wr.heap.size wr W → W.ownsRow B0 2 1 (.slice ua L.length uc) L.length (L.map (Value.int .i64)) ∧ Tr.Kp B0 w W ∧ B0 ≤ W.heap.size) := fun W hW => ⟨Tr.owns_below (unhide HL) hW, KW.trans (Tr.Kp.of_below hW (by omega)), by have := hW.size; omega⟩
      have hsize : L.length ≤ 400 := by omega
      clear hown hL
      by_cases h21 : n.op = 21
      · have g21 : (n.op == 21) = true := by simp [h21]
        have g22 : (n.op == 22) = false := by simp [h21]
        have g23 : (n.op == 23) = false := by simp [h21]
        have hco : Tr.callOk n = true := by unfold Tr.callOk; rw [if_neg (by omega), if_neg (by omega)]
        rw [hco, g21] at hub
        clear h21 hco
        have HAM := hide (fun wq (hq : wq.ownsRow 0 9 1 (.slice na ss.length nc) ss.length (ss.map Value.string)) => l4Among_row 0 _ ss n.text wq (by omega) hq)
        generalize oneOf ss n.text = A at *
        have hnq := hide (fun q => show (wr.drewN q).ownsRow 0 9 1 (.slice na ss.length nc) ss.length (ss.map Value.string) from Tr.owns_below (unhide hnvr) (below_drewN (Below.refl _ _) q))
        cases A with
        | false =>
          have hU := hide (show Tr.unk l i = true by rw [hub.out]; rfl)
          go_wp2_with fail
          go_quiet (first | (go_at_call 70; exact Calls.quiet_of_same ((unhide HAM) _ ((unhide hnq) _))))
          have hf2 := hide (show out ++ (Tr.ordF (f + 1) l i).filter (Tr.unkI l) = L ++ [(i : Int)] by rw [hfinal.out, unhide hU]; rfl)
          obtain ⟨hoW, kW, hBW⟩ := hap.out (wr.drewN nq) (by first | exact below_drewN (Below.refl _ _) _ | assumption | exact Below.refl _ _)
          have hbse := hide (Tr.owns_base hoW)
          have hown' := hide (fun o => hoW.alloc o)
          have hone := hide (Tr.one_word (wr.drewN nq) (i : Int))
          have honep := hide (Tr.one_plain (i : Int))
          have hb63 : L.length + 1 ≤ maxLen := by unfold maxLen; omega
          have hby : (L.length + 1) * 8 ≤ 140737488355328 := by omega
          have hbase : B0 ≤ ((wr.drewN nq)).heap.size + 1 := by omega
          clear hoW
          go_wp2_with (at_builtin; refine wpList_append_own_at _ rfl (.tmp 88) (.tmp 90) 74 rfl B0 2 i0 (.int .i64 0) 1 8 Try.underlying74 hi0 hz0 hz1 hz2 rfl (by decide) _ L.length _ rfl ((unhide hown') _) ⟨((wr.drewN nq)).heap.size, 0, none⟩ 1 1 [.int .i64 i] rfl rfl (unhide hone) (unhide honep) hb63 hby (by simpa using hbase) ?_)
          intro v' w9 ho9 hg9 _ _
          have K9 : Tr.Kp B0 w w9 := (kW.trans (Tr.Kp.of_below ((Below.refl _ _).alloc (Nat.le_refl _) _) (by omega))).trans (Tr.Kp.grown ((unhide hown') _) hg9 (by simpa using hbase))
          obtain ⟨xa, xc, hxe⟩ := Tr.owns_slice ho9
          subst hxe
          have HO9 := hide ho9
          clear ho9 hg9
          go_wp2_with fail
          go_ret
          refine ⟨_, rfl, ?_, K9⟩
          rw [unhide hf2, List.length_append, List.map_append]; exact unhide HO9
        | true =>
          have hU := hide (show Tr.unk l i = false by rw [hub.out]; rfl)
          go_wp2_with fail
          go_quiet (first | (go_at_call 70; exact Calls.quiet_of_same ((unhide HAM) _ ((unhide hnq) _))))
          have hf2 := hide (show out ++ (Tr.ordF (f + 1) l i).filter (Tr.unkI l) = L by rw [hfinal.out, unhide hU]; simp)
          obtain ⟨hoW, kW, hBW⟩ := hap.out (wr.drewN nq) (by first | exact below_drewN (Below.refl _ _) _ | assumption | exact Below.refl _ _)
          have HOW := hide hoW
          clear hoW
          go_wp2_with fail
          go_ret
          refine ⟨_, rfl, ?_, kW⟩
          rw [unhide hf2]; exact unhide HOW
      have g21 : (n.op == 21) = false := by simpa using h21
      rw [g21, Bool.false_and, Bool.or_false] at hub
      by_cases h22 : n.op = 22
      · have g22 : (n.op == 22) = true := by simp [h22]
        have g23 : (n.op == 23) = false := by simp [h22]
        have hco : Tr.callOk n = oneOf Tr.theCalls n.text := by unfold Tr.callOk; rw [if_pos h22]
        rw [hco] at hub
        rw [h22] at c0
        clear h22 hco h21
        have HAM := hide (fun v wq (hq : wq.ownsRow 0 9 1 v Tr.theCalls.length (Tr.theCalls.map Value.string)) => l4Among_row 0 v Tr.theCalls n.text wq (by decide) hq)
        generalize oneOf Tr.theCalls n.text = A at *
        cases A with
        | false =>
          have hU := hide (show Tr.unk l i = true by rw [hub.out]; rfl)
          go_wp2_with fail
          try rw [hjn]
          refine wp_region_held_drew (S := fun w' => w'.cell? ⟨w.heap.size, 0, none⟩ = some (.int .i64 22) ∧ w'.cell? ⟨w.heap.size, 5, none⟩ = some (.string n.text)) (by kernel_rfl) ⟨c0, c5⟩ (fun hHeld => ?_)
          refine take_at (i := 0) (d := 54) (v := .pointer (some ⟨w.heap.size, 0, none⟩)) rfl rfl (by kernel_rfl) (by kernel_rfl) (by kernel_rfl) (fun _ _ _ h => h) (Or.inl ⟨by rfl, ?_⟩) (by assumption) ?_
          · intro w' hSw; obtain ⟨s0, s5⟩ := hSw; go_simp
          simp only [Act.put, List.setIfInBounds_toArray, List.set_cons_zero, List.set_cons_succ]
          refine take_at (i := 1) (d := 55) (v := .int .i64 22) rfl rfl (by kernel_rfl) (by kernel_rfl) (by kernel_rfl) (fun _ _ _ h => h) (Or.inl ⟨by rfl, ?_⟩) (by assumption) ?_
          · intro w' hSw; obtain ⟨s0, s5⟩ := hSw; go_simp
          simp only [Act.put, List.setIfInBounds_toArray, List.set_cons_zero, List.set_cons_succ]
          refine take_at (i := 2) (d := 56) (v := .bool false) rfl rfl (by kernel_rfl) (by kernel_rfl) (by kernel_rfl) (fun _ _ _ h => h) (Or.inl ⟨by rfl, ?_⟩) (by assumption) ?_
          · intro w' hSw; obtain ⟨s0, s5⟩ := hSw; go_simp
          simp only [Act.put, List.setIfInBounds_toArray, List.set_cons_zero, List.set_cons_succ]
          refine take_at (i := 3) (d := 57) (v := .bool false) rfl rfl (by kernel_rfl) (by kernel_rfl) (by kernel_rfl) (fun _ _ _ h => h) (Or.inl ⟨by rfl, ?_⟩) (by assumption) ?_
          · intro w' hSw; obtain ⟨s0, s5⟩ := hSw; go_simp
          simp only [Act.put, List.setIfInBounds_toArray, List.set_cons_zero, List.set_cons_succ]
          refine take_at (i := 4) (d := 58) (v := undef) rfl rfl (by kernel_rfl) (by kernel_rfl) (by kernel_rfl) (fun _ _ _ h => h) (Or.inr ⟨by rfl, rfl⟩) (by assumption) ?_
          simp only [Act.put, List.setIfInBounds_toArray, List.set_cons_zero, List.set_cons_succ]
          refine take_at (i := 5) (d := 59) (v := undef) rfl rfl (by kernel_rfl) (by kernel_rfl) (by kernel_rfl) (fun _ _ _ h => h) (Or.inr ⟨by rfl, rfl⟩) (by assumption) ?_
          simp only [Act.put, List.setIfInBounds_toArray, List.set_cons_zero, List.set_cons_succ]
          refine take_at (i := 6) (d := 60) (v := undef) rfl rfl (by kernel_rfl) (by kernel_rfl) (by kernel_rfl) (fun _ _ _ h => h) (Or.inr ⟨by rfl, rfl⟩) (by assumption) ?_
          simp only [Act.put, List.setIfInBounds_toArray, List.set_cons_zero, List.set_cons_succ]
          refine skip_at (i := 7) (d := 61) rfl rfl (by kernel_rfl) (by rfl) (by assumption) ?_
          simp only [Act.put, List.setIfInBounds_toArray, List.set_cons_zero, List.set_cons_succ]
          refine take_at (i := 8) (d := 62) (v := undef) rfl rfl (by kernel_rfl) (by kernel_rfl) (by kernel_rfl) (fun _ _ _ h => h) (Or.inr ⟨by rfl, rfl⟩) (by assumption) ?_
          simp only [Act.put, List.setIfInBounds_toArray, List.set_cons_zero, List.set_cons_succ]
          refine take_at (i := 9) (d := 63) (v := .bool false) rfl rfl (by kernel_rfl) (by kernel_rfl) (by kernel_rfl) (fun _ _ _ h => h) (Or.inl ⟨by rfl, ?_⟩) (by assumption) ?_
          · intro w' hSw; obtain ⟨s0, s5⟩ := hSw; go_simp
          simp only [Act.put, List.setIfInBounds_toArray, List.set_cons_zero, List.set_cons_succ]
          refine take_at (i := 10) (d := 64) (v := .bool false) rfl rfl (by kernel_rfl) (by kernel_rfl) (by kernel_rfl) (fun _ _ _ h => h) (Or.inl ⟨by rfl, ?_⟩) (by assumption) ?_
          · intro w' hSw; obtain ⟨s0, s5⟩ := hSw; go_simp
          simp only [Act.put, List.setIfInBounds_toArray, List.set_cons_zero, List.set_cons_succ]
          refine take_at (i := 11) (d := 65) (v := .pointer (some ⟨w.heap.size, 0, none⟩)) rfl rfl (by kernel_rfl) (by kernel_rfl) (by kernel_rfl) (fun _ _ _ h => h) (Or.inl ⟨by rfl, ?_⟩) (by assumption) ?_
          · intro w' hSw; obtain ⟨s0, s5⟩ := hSw; go_simp
          simp only [Act.put, List.setIfInBounds_toArray, List.set_cons_zero, List.set_cons_succ]
          refine take_at (i := 12) (d := 66) (v := .int .i64 22) rfl rfl (by kernel_rfl) (by kernel_rfl) (by kernel_rfl) (fun _ _ _ h => h) (Or.inl ⟨by rfl, ?_⟩) (by assumption) ?_
          · intro w' hSw; obtain ⟨s0, s5⟩ := hSw; go_simp
          simp only [Act.put, List.setIfInBounds_toArray, List.set_cons_zero, List.set_cons_succ]
          refine take_at (i := 13) (d := 67) (v := .bool true) rfl rfl (by kernel_rfl) (by kernel_rfl) (by kernel_rfl) (fun _ _ _ h => h) (Or.inl ⟨by rfl, ?_⟩) (by assumption) ?_
          · intro w' hSw; obtain ⟨s0, s5⟩ := hSw; go_simp
          simp only [Act.put, List.setIfInBounds_toArray, List.set_cons_zero, List.set_cons_succ]
          refine take_at (i := 14) (d := 68) (v := .bool true) rfl rfl (by kernel_rfl) (by kernel_rfl) (by kernel_rfl) (fun _ _ _ h => h) (Or.inl ⟨by rfl, ?_⟩) (by assumption) ?_
          · intro w' hSw; obtain ⟨s0, s5⟩ := hSw; go_simp
          simp only [Act.put, List.setIfInBounds_toArray, List.set_cons_zero, List.set_cons_succ]
          refine take_at (i := 16) (d := 70) (v := .pointer (some ⟨w.heap.size, 5, none⟩)) rfl rfl (by kernel_rfl) (by kernel_rfl) (by kernel_rfl) (fun _ _ _ h => h) (Or.inl ⟨by rfl, ?_⟩) (by assumption) ?_
          · intro w' hSw; obtain ⟨s0, s5⟩ := hSw; go_simp
          simp only [Act.put, List.setIfInBounds_toArray, List.set_cons_zero, List.set_cons_succ]
          refine take_at (i := 17) (d := 71) (v := .string n.text) rfl rfl (by kernel_rfl) (by kernel_rfl) (by kernel_rfl) (fun _ _ _ h => h) (Or.inl ⟨by rfl, ?_⟩) (by assumption) ?_
          · intro w' hSw; obtain ⟨s0, s5⟩ := hSw; go_simp
          simp only [Act.put, List.setIfInBounds_toArray, List.set_cons_zero, List.set_cons_succ]
          refine call_at (i := 15) (d := 69) rfl rfl (by kernel_rfl) (by rfl) (fun K hK => ?_)
          go_simp
          refine (l5Calls_any _).mono ?_
          rintro e w7 ⟨v7, rfl, ho7, hb7⟩; have hHeld7 : w7.cell? ⟨w.heap.size, 0, none⟩ = some (.int .i64 22) ∧ w7.cell? ⟨w.heap.size, 5, none⟩ = some (.string n.text) := ⟨(hb7.cell (by exact hNr.lt)).trans c0, (hb7.cell (by exact hNr.lt)).trans c5⟩
          go_simp
          refine hK.out (v7) _ hHeld7 ?_
          clear hK K
          simp only [Act.put, List.setIfInBounds_toArray, List.set_cons_zero, List.set_cons_succ]
          refine call_at (i := 18) (d := 72) rfl rfl (by kernel_rfl) (by rfl) (fun K hK => ?_)
          go_simp
          refine ((unhide HAM) _ _ ho7).mono ?_
          rintro e w8 ⟨rfl, hw8⟩; subst w8
          go_simp
          refine hK.out (.bool false) _ hHeld7 ?_
          clear hK K
          simp only [Act.put, List.setIfInBounds_toArray, List.set_cons_zero, List.set_cons_succ]
          refine take_at (i := 19) (d := 73) (v := .bool true) rfl rfl (by kernel_rfl) (by kernel_rfl) (by kernel_rfl) (fun _ _ _ h => h) (Or.inl ⟨by rfl, ?_⟩) (by assumption) ?_
          · intro w' hSw; obtain ⟨s0, s5⟩ := hSw; go_simp
          simp only [Act.put, List.setIfInBounds_toArray, List.set_cons_zero, List.set_cons_succ]
          refine take_at (i := 20) (d := 74) (v := .bool true) rfl rfl (by kernel_rfl) (by kernel_rfl) (by kernel_rfl) (fun _ _ _ h => h) (Or.inl ⟨by rfl, ?_⟩) (by assumption) ?_
          · intro w' hSw; obtain ⟨s0, s5⟩ := hSw; go_simp
          simp only [Act.put, List.setIfInBounds_toArray, List.set_cons_zero, List.set_cons_succ]
          refine take_at (i := 21) (d := 75) (v := .bool true) rfl rfl (by kernel_rfl) (by kernel_rfl) (by kernel_rfl) (fun _ _ _ h => h) (Or.inl ⟨by rfl, ?_⟩) (by assumption) ?_
          · intro w' hSw; obtain ⟨s0, s5⟩ := hSw; go_simp
          simp only [Act.put, List.setIfInBounds_toArray, List.set_cons_zero, List.set_cons_succ]
          refine take_at (i := 22) (d := 76) (v := .bool true) rfl rfl (by kernel_rfl) (by kernel_rfl) (by kernel_rfl) (fun _ _ _ h => h) (Or.inl ⟨by rfl, ?_⟩) (by assumption) ?_
          · intro w' hSw; obtain ⟨s0, s5⟩ := hSw; go_simp
          simp only [Act.put, List.setIfInBounds_toArray, List.set_cons_zero, List.set_cons_succ]
          refine take_at (i := 23) (d := 77) (v := undef) rfl rfl (by kernel_rfl) (by kernel_rfl) (by kernel_rfl) (fun _ _ _ h => h) (Or.inr ⟨by rfl, rfl⟩) (by assumption) ?_
          simp only [Act.put, List.setIfInBounds_toArray, List.set_cons_zero, List.set_cons_succ]
          refine take_at (i := 24) (d := 78) (v := undef) rfl rfl (by kernel_rfl) (by kernel_rfl) (by kernel_rfl) (fun _ _ _ h => h) (Or.inr ⟨by rfl, rfl⟩) (by assumption) ?_
          simp only [Act.put, List.setIfInBounds_toArray, List.set_cons_zero, List.set_cons_succ]
          refine take_at (i := 25) (d := 79) (v := undef) rfl rfl (by kernel_rfl) (by kernel_rfl) (by kernel_rfl) (fun _ _ _ h => h) (Or.inr ⟨by rfl, rfl⟩) (by assumption) ?_
          simp only [Act.put, List.setIfInBounds_toArray, List.set_cons_zero, List.set_cons_succ]
          refine take_at (i := 26) (d := 80) (v := undef) rfl rfl (by kernel_rfl) (by kernel_rfl) (by kernel_rfl) (fun _ _ _ h => h) (Or.inr ⟨by rfl, rfl⟩) (by assumption) ?_
          simp only [Act.put, List.setIfInBounds_toArray, List.set_cons_zero, List.set_cons_succ]
          refine take_at (i := 28) (d := 82) (v := undef) rfl rfl (by kernel_rfl) (by kernel_rfl) (by kernel_rfl) (fun _ _ _ h => h) (Or.inr ⟨by rfl, rfl⟩) (by assumption) ?_
          simp only [Act.put, List.setIfInBounds_toArray, List.set_cons_zero, List.set_cons_succ]
          refine take_at (i := 29) (d := 83) (v := undef) rfl rfl (by kernel_rfl) (by kernel_rfl) (by kernel_rfl) (fun _ _ _ h => h) (Or.inr ⟨by rfl, rfl⟩) (by assumption) ?_
          simp only [Act.put, List.setIfInBounds_toArray, List.set_cons_zero, List.set_cons_succ]
          refine skip_at (i := 27) (d := 81) rfl rfl (by kernel_rfl) (by rfl) (by assumption) ?_
          simp only [Act.put, List.setIfInBounds_toArray, List.set_cons_zero, List.set_cons_succ]
          refine skip_at (i := 30) (d := 84) rfl rfl (by kernel_rfl) (by rfl) (by assumption) ?_
          simp only [Act.put, List.setIfInBounds_toArray, List.set_cons_zero, List.set_cons_succ]
          refine take_at (i := 31) (d := 85) (v := undef) rfl rfl (by kernel_rfl) (by kernel_rfl) (by kernel_rfl) (fun _ _ _ h => h) (Or.inr ⟨by rfl, rfl⟩) (by assumption) ?_
          simp only [Act.put, List.setIfInBounds_toArray, List.set_cons_zero, List.set_cons_succ]
          refine take_at (i := 32) (d := 86) (v := undef) rfl rfl (by kernel_rfl) (by kernel_rfl) (by kernel_rfl) (fun _ _ _ h => h) (Or.inr ⟨by rfl, rfl⟩) (by assumption) ?_
          simp only [Act.put, List.setIfInBounds_toArray, List.set_cons_zero, List.set_cons_succ]
          refine take_at (i := 33) (d := 87) (v := .bool true) rfl rfl (by kernel_rfl) (by kernel_rfl) (by kernel_rfl) (fun _ _ _ h => h) (Or.inl ⟨by rfl, ?_⟩) (by assumption) ?_
          · intro w' hSw; obtain ⟨s0, s5⟩ := hSw; go_simp
          simp only [Act.put, List.setIfInBounds_toArray, List.set_cons_zero, List.set_cons_succ]
          refine wpAnyH_done (by kernel_rfl) ?_ _
          have hB7 : Below wr.heap.size wr w7 := (Below.refl wr.heap.size wr).drew.trans hb7
          have hf2 := hide (show out ++ (Tr.ordF (f + 1) l i).filter (Tr.unkI l) = L ++ [(i : Int)] by rw [hfinal.out, unhide hU]; rfl)
          obtain ⟨hoW, kW, hBW⟩ := hap.out w7 (by first | exact below_drewN (Below.refl _ _) _ | assumption | exact Below.refl _ _)
          have hbse := hide (Tr.owns_base hoW)
          have hown' := hide (fun o => hoW.alloc o)
          have hone := hide (Tr.one_word w7 (i : Int))
          have honep := hide (Tr.one_plain (i : Int))
          have hb63 : L.length + 1 ≤ maxLen := by unfold maxLen; omega
          have hby : (L.length + 1) * 8 ≤ 140737488355328 := by omega
          have hbase : B0 ≤ (w7).heap.size + 1 := by omega
          clear hoW
          go_wp2_with (at_builtin; refine wpList_append_own_at _ rfl (.tmp 88) (.tmp 90) 74 rfl B0 2 i0 (.int .i64 0) 1 8 Try.underlying74 hi0 hz0 hz1 hz2 rfl (by decide) _ L.length _ rfl ((unhide hown') _) ⟨(w7).heap.size, 0, none⟩ 1 1 [.int .i64 i] rfl rfl (unhide hone) (unhide honep) hb63 hby (by simpa using hbase) ?_)
          intro v' w9 ho9 hg9 _ _
          have K9 : Tr.Kp B0 w w9 := (kW.trans (Tr.Kp.of_below ((Below.refl _ _).alloc (Nat.le_refl _) _) (by omega))).trans (Tr.Kp.grown ((unhide hown') _) hg9 (by simpa using hbase))
          obtain ⟨xa, xc, hxe⟩ := Tr.owns_slice ho9
          subst hxe
          have HO9 := hide ho9
          clear ho9 hg9
          go_wp2_with fail
          go_ret
          refine ⟨_, rfl, ?_, K9⟩
          rw [unhide hf2, List.length_append, List.map_append]; exact unhide HO9
        | true =>
          have hU := hide (show Tr.unk l i = false by rw [hub.out]; rfl)
          go_wp2_with fail
          try rw [hjn]
          refine wp_region_held_drew (S := fun w' => w'.cell? ⟨w.heap.size, 0, none⟩ = some (.int .i64 22) ∧ w'.cell? ⟨w.heap.size, 5, none⟩ = some (.string n.text)) (by kernel_rfl) ⟨c0, c5⟩ (fun hHeld => ?_)
          refine take_at (i := 0) (d := 54) (v := .pointer (some ⟨w.heap.size, 0, none⟩)) rfl rfl (by kernel_rfl) (by kernel_rfl) (by kernel_rfl) (fun _ _ _ h => h) (Or.inl ⟨by rfl, ?_⟩) (by assumption) ?_
          · intro w' hSw; obtain ⟨s0, s5⟩ := hSw; go_simp
          simp only [Act.put, List.setIfInBounds_toArray, List.set_cons_zero, List.set_cons_succ]
          refine take_at (i := 1) (d := 55) (v := .int .i64 22) rfl rfl (by kernel_rfl) (by kernel_rfl) (by kernel_rfl) (fun _ _ _ h => h) (Or.inl ⟨by rfl, ?_⟩) (by assumption) ?_
          · intro w' hSw; obtain ⟨s0, s5⟩ := hSw; go_simp
          simp only [Act.put, List.setIfInBounds_toArray, List.set_cons_zero, List.set_cons_succ]
          refine take_at (i := 2) (d := 56) (v := .bool false) rfl rfl (by kernel_rfl) (by kernel_rfl) (by kernel_rfl) (fun _ _ _ h => h) (Or.inl ⟨by rfl, ?_⟩) (by assumption) ?_
          · intro w' hSw; obtain ⟨s0, s5⟩ := hSw; go_simp
          simp only [Act.put, List.setIfInBounds_toArray, List.set_cons_zero, List.set_cons_succ]
          refine take_at (i := 3) (d := 57) (v := .bool false) rfl rfl (by kernel_rfl) (by kernel_rfl) (by kernel_rfl) (fun _ _ _ h => h) (Or.inl ⟨by rfl, ?_⟩) (by assumption) ?_
          · intro w' hSw; obtain ⟨s0, s5⟩ := hSw; go_simp
          simp only [Act.put, List.setIfInBounds_toArray, List.set_cons_zero, List.set_cons_succ]
          refine take_at (i := 4) (d := 58) (v := undef) rfl rfl (by kernel_rfl) (by kernel_rfl) (by kernel_rfl) (fun _ _ _ h => h) (Or.inr ⟨by rfl, rfl⟩) (by assumption) ?_
          simp only [Act.put, List.setIfInBounds_toArray, List.set_cons_zero, List.set_cons_succ]
          refine take_at (i := 5) (d := 59) (v := undef) rfl rfl (by kernel_rfl) (by kernel_rfl) (by kernel_rfl) (fun _ _ _ h => h) (Or.inr ⟨by rfl, rfl⟩) (by assumption) ?_
          simp only [Act.put, List.setIfInBounds_toArray, List.set_cons_zero, List.set_cons_succ]
          refine take_at (i := 6) (d := 60) (v := undef) rfl rfl (by kernel_rfl) (by kernel_rfl) (by kernel_rfl) (fun _ _ _ h => h) (Or.inr ⟨by rfl, rfl⟩) (by assumption) ?_
          simp only [Act.put, List.setIfInBounds_toArray, List.set_cons_zero, List.set_cons_succ]
          refine skip_at (i := 7) (d := 61) rfl rfl (by kernel_rfl) (by rfl) (by assumption) ?_
          simp only [Act.put, List.setIfInBounds_toArray, List.set_cons_zero, List.set_cons_succ]
          refine take_at (i := 8) (d := 62) (v := undef) rfl rfl (by kernel_rfl) (by kernel_rfl) (by kernel_rfl) (fun _ _ _ h => h) (Or.inr ⟨by rfl, rfl⟩) (by assumption) ?_
          simp only [Act.put, List.setIfInBounds_toArray, List.set_cons_zero, List.set_cons_succ]
          refine take_at (i := 9) (d := 63) (v := .bool false) rfl rfl (by kernel_rfl) (by kernel_rfl) (by kernel_rfl) (fun _ _ _ h => h) (Or.inl ⟨by rfl, ?_⟩) (by assumption) ?_
          · intro w' hSw; obtain ⟨s0, s5⟩ := hSw; go_simp
          simp only [Act.put, List.setIfInBounds_toArray, List.set_cons_zero, List.set_cons_succ]
          refine take_at (i := 10) (d := 64) (v := .bool false) rfl rfl (by kernel_rfl) (by kernel_rfl) (by kernel_rfl) (fun _ _ _ h => h) (Or.inl ⟨by rfl, ?_⟩) (by assumption) ?_
          · intro w' hSw; obtain ⟨s0, s5⟩ := hSw; go_simp
          simp only [Act.put, List.setIfInBounds_toArray, List.set_cons_zero, List.set_cons_succ]
          refine take_at (i := 11) (d := 65) (v := .pointer (some ⟨w.heap.size, 0, none⟩)) rfl rfl (by kernel_rfl) (by kernel_rfl) (by kernel_rfl) (fun _ _ _ h => h) (Or.inl ⟨by rfl, ?_⟩) (by assumption) ?_
          · intro w' hSw; obtain ⟨s0, s5⟩ := hSw; go_simp
          simp only [Act.put, List.setIfInBounds_toArray, List.set_cons_zero, List.set_cons_succ]
          refine take_at (i := 12) (d := 66) (v := .int .i64 22) rfl rfl (by kernel_rfl) (by kernel_rfl) (by kernel_rfl) (fun _ _ _ h => h) (Or.inl ⟨by rfl, ?_⟩) (by assumption) ?_
          · intro w' hSw; obtain ⟨s0, s5⟩ := hSw; go_simp
          simp only [Act.put, List.setIfInBounds_toArray, List.set_cons_zero, List.set_cons_succ]
          refine take_at (i := 13) (d := 67) (v := .bool true) rfl rfl (by kernel_rfl) (by kernel_rfl) (by kernel_rfl) (fun _ _ _ h => h) (Or.inl ⟨by rfl, ?_⟩) (by assumption) ?_
          · intro w' hSw; obtain ⟨s0, s5⟩ := hSw; go_simp
          simp only [Act.put, List.setIfInBounds_toArray, List.set_cons_zero, List.set_cons_succ]
          refine take_at (i := 14) (d := 68) (v := .bool true) rfl rfl (by kernel_rfl) (by kernel_rfl) (by kernel_rfl) (fun _ _ _ h => h) (Or.inl ⟨by rfl, ?_⟩) (by assumption) ?_
          · intro w' hSw; obtain ⟨s0, s5⟩ := hSw; go_simp
          simp only [Act.put, List.setIfInBounds_toArray, List.set_cons_zero, List.set_cons_succ]
          refine take_at (i := 16) (d := 70) (v := .pointer (some ⟨w.heap.size, 5, none⟩)) rfl rfl (by kernel_rfl) (by kernel_rfl) (by kernel_rfl) (fun _ _ _ h => h) (Or.inl ⟨by rfl, ?_⟩) (by assumption) ?_
          · intro w' hSw; obtain ⟨s0, s5⟩ := hSw; go_simp
          simp only [Act.put, List.setIfInBounds_toArray, List.set_cons_zero, List.set_cons_succ]
          refine take_at (i := 17) (d := 71) (v := .string n.text) rfl rfl (by kernel_rfl) (by kernel_rfl) (by kernel_rfl) (fun _ _ _ h => h) (Or.inl ⟨by rfl, ?_⟩) (by assumption) ?_
          · intro w' hSw; obtain ⟨s0, s5⟩ := hSw; go_simp
          simp only [Act.put, List.setIfInBounds_toArray, List.set_cons_zero, List.set_cons_succ]
          refine call_at (i := 15) (d := 69) rfl rfl (by kernel_rfl) (by rfl) (fun K hK => ?_)
          go_simp
          refine (l5Calls_any _).mono ?_
          rintro e w7 ⟨v7, rfl, ho7, hb7⟩; have hHeld7 : w7.cell? ⟨w.heap.size, 0, none⟩ = some (.int .i64 22) ∧ w7.cell? ⟨w.heap.size, 5, none⟩ = some (.string n.text) := ⟨(hb7.cell (by exact hNr.lt)).trans c0, (hb7.cell (by exact hNr.lt)).trans c5⟩
          go_simp
          refine hK.out (v7) _ hHeld7 ?_
          clear hK K
          simp only [Act.put, List.setIfInBounds_toArray, List.set_cons_zero, List.set_cons_succ]
          refine call_at (i := 18) (d := 72) rfl rfl (by kernel_rfl) (by rfl) (fun K hK => ?_)
          go_simp
          refine ((unhide HAM) _ _ ho7).mono ?_
          rintro e w8 ⟨rfl, hw8⟩; subst w8
          go_simp
          refine hK.out (.bool true) _ hHeld7 ?_
          clear hK K
          simp only [Act.put, List.setIfInBounds_toArray, List.set_cons_zero, List.set_cons_succ]
          refine take_at (i := 19) (d := 73) (v := .bool false) rfl rfl (by kernel_rfl) (by kernel_rfl) (by kernel_rfl) (fun _ _ _ h => h) (Or.inl ⟨by rfl, ?_⟩) (by assumption) ?_
          · intro w' hSw; obtain ⟨s0, s5⟩ := hSw; go_simp
          simp only [Act.put, List.setIfInBounds_toArray, List.set_cons_zero, List.set_cons_succ]
          refine take_at (i := 20) (d := 74) (v := .bool false) rfl rfl (by kernel_rfl) (by kernel_rfl) (by kernel_rfl) (fun _ _ _ h => h) (Or.inl ⟨by rfl, ?_⟩) (by assumption) ?_
          · intro w' hSw; obtain ⟨s0, s5⟩ := hSw; go_simp
          simp only [Act.put, List.setIfInBounds_toArray, List.set_cons_zero, List.set_cons_succ]
          refine take_at (i := 21) (d := 75) (v := .bool false) rfl rfl (by kernel_rfl) (by kernel_rfl) (by kernel_rfl) (fun _ _ _ h => h) (Or.inl ⟨by rfl, ?_⟩) (by assumption) ?_
          · intro w' hSw; obtain ⟨s0, s5⟩ := hSw; go_simp
          simp only [Act.put, List.setIfInBounds_toArray, List.set_cons_zero, List.set_cons_succ]
          refine take_at (i := 22) (d := 76) (v := .bool false) rfl rfl (by kernel_rfl) (by kernel_rfl) (by kernel_rfl) (fun _ _ _ h => h) (Or.inl ⟨by rfl, ?_⟩) (by assumption) ?_
          · intro w' hSw; obtain ⟨s0, s5⟩ := hSw; go_simp
          simp only [Act.put, List.setIfInBounds_toArray, List.set_cons_zero, List.set_cons_succ]
          refine take_at (i := 23) (d := 77) (v := .pointer (some ⟨w.heap.size, 0, none⟩)) rfl rfl (by kernel_rfl) (by kernel_rfl) (by kernel_rfl) (fun _ _ _ h => h) (Or.inl ⟨by rfl, ?_⟩) (by assumption) ?_
          · intro w' hSw; obtain ⟨s0, s5⟩ := hSw; go_simp
          simp only [Act.put, List.setIfInBounds_toArray, List.set_cons_zero, List.set_cons_succ]
          refine take_at (i := 24) (d := 78) (v := .int .i64 22) rfl rfl (by kernel_rfl) (by kernel_rfl) (by kernel_rfl) (fun _ _ _ h => h) (Or.inl ⟨by rfl, ?_⟩) (by assumption) ?_
          · intro w' hSw; obtain ⟨s0, s5⟩ := hSw; go_simp
          simp only [Act.put, List.setIfInBounds_toArray, List.set_cons_zero, List.set_cons_succ]
          refine take_at (i := 25) (d := 79) (v := .bool false) rfl rfl (by kernel_rfl) (by kernel_rfl) (by kernel_rfl) (fun _ _ _ h => h) (Or.inl ⟨by rfl, ?_⟩) (by assumption) ?_
          · intro w' hSw; obtain ⟨s0, s5⟩ := hSw; go_simp
          simp only [Act.put, List.setIfInBounds_toArray, List.set_cons_zero, List.set_cons_succ]
          refine take_at (i := 26) (d := 80) (v := .bool false) rfl rfl (by kernel_rfl) (by kernel_rfl) (by kernel_rfl) (fun _ _ _ h => h) (Or.inl ⟨by rfl, ?_⟩) (by assumption) ?_
          · intro w' hSw; obtain ⟨s0, s5⟩ := hSw; go_simp
          simp only [Act.put, List.setIfInBounds_toArray, List.set_cons_zero, List.set_cons_succ]
          refine take_at (i := 28) (d := 82) (v := undef) rfl rfl (by kernel_rfl) (by kernel_rfl) (by kernel_rfl) (fun _ _ _ h => h) (Or.inr ⟨by rfl, rfl⟩) (by assumption) ?_
          simp only [Act.put, List.setIfInBounds_toArray, List.set_cons_zero, List.set_cons_succ]
          refine take_at (i := 29) (d := 83) (v := undef) rfl rfl (by kernel_rfl) (by kernel_rfl) (by kernel_rfl) (fun _ _ _ h => h) (Or.inr ⟨by rfl, rfl⟩) (by assumption) ?_
          simp only [Act.put, List.setIfInBounds_toArray, List.set_cons_zero, List.set_cons_succ]
          refine skip_at (i := 27) (d := 81) rfl rfl (by kernel_rfl) (by rfl) (by assumption) ?_
          simp only [Act.put, List.setIfInBounds_toArray, List.set_cons_zero, List.set_cons_succ]
          refine skip_at (i := 30) (d := 84) rfl rfl (by kernel_rfl) (by rfl) (by assumption) ?_
          simp only [Act.put, List.setIfInBounds_toArray, List.set_cons_zero, List.set_cons_succ]
          refine take_at (i := 31) (d := 85) (v := undef) rfl rfl (by kernel_rfl) (by kernel_rfl) (by kernel_rfl) (fun _ _ _ h => h) (Or.inr ⟨by rfl, rfl⟩) (by assumption) ?_
          simp only [Act.put, List.setIfInBounds_toArray, List.set_cons_zero, List.set_cons_succ]
          refine take_at (i := 32) (d := 86) (v := .bool false) rfl rfl (by kernel_rfl) (by kernel_rfl) (by kernel_rfl) (fun _ _ _ h => h) (Or.inl ⟨by rfl, ?_⟩) (by assumption) ?_
          · intro w' hSw; obtain ⟨s0, s5⟩ := hSw; go_simp
          simp only [Act.put, List.setIfInBounds_toArray, List.set_cons_zero, List.set_cons_succ]
          refine take_at (i := 33) (d := 87) (v := .bool false) rfl rfl (by kernel_rfl) (by kernel_rfl) (by kernel_rfl) (fun _ _ _ h => h) (Or.inl ⟨by rfl, ?_⟩) (by assumption) ?_
          · intro w' hSw; obtain ⟨s0, s5⟩ := hSw; go_simp
          simp only [Act.put, List.setIfInBounds_toArray, List.set_cons_zero, List.set_cons_succ]
          refine wpAnyH_done (by kernel_rfl) ?_ _
          have hB7 : Below wr.heap.size wr w7 := (Below.refl wr.heap.size wr).drew.trans hb7
          have hf2 := hide (show out ++ (Tr.ordF (f + 1) l i).filter (Tr.unkI l) = L by rw [hfinal.out, unhide hU]; simp)
          obtain ⟨hoW, kW, hBW⟩ := hap.out w7 (by first | exact below_drewN (Below.refl _ _) _ | assumption | exact Below.refl _ _)
          have HOW := hide hoW
          clear hoW
          go_wp2_with fail
          go_ret
          refine ⟨_, rfl, ?_, kW⟩
          rw [unhide hf2]; exact unhide HOW
      by_cases h23 : n.op = 23
      · have g23 : (n.op == 23) = true := by simp [h23]
        have g22 : (n.op == 22) = false := by simp [h23]
        have hco : Tr.callOk n = oneOf Tr.theOnes n.text := by unfold Tr.callOk; rw [if_neg (by omega), if_pos h23]
        rw [hco] at hub
        rw [h23] at c0
        clear h23 hco h21 h22
        have HAM := hide (fun v wq (hq : wq.ownsRow 0 9 1 v Tr.theOnes.length (Tr.theOnes.map Value.string)) => l4Among_row 0 v Tr.theOnes n.text wq (by decide) hq)
        generalize oneOf Tr.theOnes n.text = A at *
        cases A with
        | false =>
          have hU := hide (show Tr.unk l i = true by rw [hub.out]; rfl)
          go_wp2_with fail
          try rw [hjn]
          refine wp_region_held_drew (S := fun w' => w'.cell? ⟨w.heap.size, 0, none⟩ = some (.int .i64 23) ∧ w'.cell? ⟨w.heap.size, 5, none⟩ = some (.string n.text)) (by kernel_rfl) ⟨c0, c5⟩ (fun hHeld => ?_)
          refine take_at (i := 0) (d := 54) (v := .pointer (some ⟨w.heap.size, 0, none⟩)) rfl rfl (by kernel_rfl) (by kernel_rfl) (by kernel_rfl) (fun _ _ _ h => h) (Or.inl ⟨by rfl, ?_⟩) (by assumption) ?_
          · intro w' hSw; obtain ⟨s0, s5⟩ := hSw; go_simp
          simp only [Act.put, List.setIfInBounds_toArray, List.set_cons_zero, List.set_cons_succ]
          refine take_at (i := 1) (d := 55) (v := .int .i64 23) rfl rfl (by kernel_rfl) (by kernel_rfl) (by kernel_rfl) (fun _ _ _ h => h) (Or.inl ⟨by rfl, ?_⟩) (by assumption) ?_
          · intro w' hSw; obtain ⟨s0, s5⟩ := hSw; go_simp
          simp only [Act.put, List.setIfInBounds_toArray, List.set_cons_zero, List.set_cons_succ]
          refine take_at (i := 2) (d := 56) (v := .bool false) rfl rfl (by kernel_rfl) (by kernel_rfl) (by kernel_rfl) (fun _ _ _ h => h) (Or.inl ⟨by rfl, ?_⟩) (by assumption) ?_
          · intro w' hSw; obtain ⟨s0, s5⟩ := hSw; go_simp
          simp only [Act.put, List.setIfInBounds_toArray, List.set_cons_zero, List.set_cons_succ]
          refine take_at (i := 3) (d := 57) (v := .bool false) rfl rfl (by kernel_rfl) (by kernel_rfl) (by kernel_rfl) (fun _ _ _ h => h) (Or.inl ⟨by rfl, ?_⟩) (by assumption) ?_
          · intro w' hSw; obtain ⟨s0, s5⟩ := hSw; go_simp
          simp only [Act.put, List.setIfInBounds_toArray, List.set_cons_zero, List.set_cons_succ]
          refine take_at (i := 4) (d := 58) (v := undef) rfl rfl (by kernel_rfl) (by kernel_rfl) (by kernel_rfl) (fun _ _ _ h => h) (Or.inr ⟨by rfl, rfl⟩) (by assumption) ?_
          simp only [Act.put, List.setIfInBounds_toArray, List.set_cons_zero, List.set_cons_succ]
          refine take_at (i := 5) (d := 59) (v := undef) rfl rfl (by kernel_rfl) (by kernel_rfl) (by kernel_rfl) (fun _ _ _ h => h) (Or.inr ⟨by rfl, rfl⟩) (by assumption) ?_
          simp only [Act.put, List.setIfInBounds_toArray, List.set_cons_zero, List.set_cons_succ]
          refine take_at (i := 6) (d := 60) (v := undef) rfl rfl (by kernel_rfl) (by kernel_rfl) (by kernel_rfl) (fun _ _ _ h => h) (Or.inr ⟨by rfl, rfl⟩) (by assumption) ?_
          simp only [Act.put, List.setIfInBounds_toArray, List.set_cons_zero, List.set_cons_succ]
          refine skip_at (i := 7) (d := 61) rfl rfl (by kernel_rfl) (by rfl) (by assumption) ?_
          simp only [Act.put, List.setIfInBounds_toArray, List.set_cons_zero, List.set_cons_succ]
          refine take_at (i := 8) (d := 62) (v := undef) rfl rfl (by kernel_rfl) (by kernel_rfl) (by kernel_rfl) (fun _ _ _ h => h) (Or.inr ⟨by rfl, rfl⟩) (by assumption) ?_
          simp only [Act.put, List.setIfInBounds_toArray, List.set_cons_zero, List.set_cons_succ]
          refine take_at (i := 9) (d := 63) (v := .bool false) rfl rfl (by kernel_rfl) (by kernel_rfl) (by kernel_rfl) (fun _ _ _ h => h) (Or.inl ⟨by rfl, ?_⟩) (by assumption) ?_
          · intro w' hSw; obtain ⟨s0, s5⟩ := hSw; go_simp
          simp only [Act.put, List.setIfInBounds_toArray, List.set_cons_zero, List.set_cons_succ]
          refine take_at (i := 10) (d := 64) (v := .bool false) rfl rfl (by kernel_rfl) (by kernel_rfl) (by kernel_rfl) (fun _ _ _ h => h) (Or.inl ⟨by rfl, ?_⟩) (by assumption) ?_
          · intro w' hSw; obtain ⟨s0, s5⟩ := hSw; go_simp
          simp only [Act.put, List.setIfInBounds_toArray, List.set_cons_zero, List.set_cons_succ]
          refine take_at (i := 11) (d := 65) (v := .pointer (some ⟨w.heap.size, 0, none⟩)) rfl rfl (by kernel_rfl) (by kernel_rfl) (by kernel_rfl) (fun _ _ _ h => h) (Or.inl ⟨by rfl, ?_⟩) (by assumption) ?_
          · intro w' hSw; obtain ⟨s0, s5⟩ := hSw; go_simp
          simp only [Act.put, List.setIfInBounds_toArray, List.set_cons_zero, List.set_cons_succ]
          refine take_at (i := 12) (d := 66) (v := .int .i64 23) rfl rfl (by kernel_rfl) (by kernel_rfl) (by kernel_rfl) (fun _ _ _ h => h) (Or.inl ⟨by rfl, ?_⟩) (by assumption) ?_
          · intro w' hSw; obtain ⟨s0, s5⟩ := hSw; go_simp
          simp only [Act.put, List.setIfInBounds_toArray, List.set_cons_zero, List.set_cons_succ]
          refine take_at (i := 13) (d := 67) (v := .bool false) rfl rfl (by kernel_rfl) (by kernel_rfl) (by kernel_rfl) (fun _ _ _ h => h) (Or.inl ⟨by rfl, ?_⟩) (by assumption) ?_
          · intro w' hSw; obtain ⟨s0, s5⟩ := hSw; go_simp
          simp only [Act.put, List.setIfInBounds_toArray, List.set_cons_zero, List.set_cons_succ]
          refine take_at (i := 14) (d := 68) (v := .bool false) rfl rfl (by kernel_rfl) (by kernel_rfl) (by kernel_rfl) (fun _ _ _ h => h) (Or.inl ⟨by rfl, ?_⟩) (by assumption) ?_
          · intro w' hSw; obtain ⟨s0, s5⟩ := hSw; go_simp
          simp only [Act.put, List.setIfInBounds_toArray, List.set_cons_zero, List.set_cons_succ]
          refine take_at (i := 16) (d := 70) (v := undef) rfl rfl (by kernel_rfl) (by kernel_rfl) (by kernel_rfl) (fun _ _ _ h => h) (Or.inr ⟨by rfl, rfl⟩) (by assumption) ?_
          simp only [Act.put, List.setIfInBounds_toArray, List.set_cons_zero, List.set_cons_succ]
          refine take_at (i := 17) (d := 71) (v := undef) rfl rfl (by kernel_rfl) (by kernel_rfl) (by kernel_rfl) (fun _ _ _ h => h) (Or.inr ⟨by rfl, rfl⟩) (by assumption) ?_
          simp only [Act.put, List.setIfInBounds_toArray, List.set_cons_zero, List.set_cons_succ]
          refine skip_at (i := 15) (d := 69) rfl rfl (by kernel_rfl) (by rfl) (by assumption) ?_
          simp only [Act.put, List.setIfInBounds_toArray, List.set_cons_zero, List.set_cons_succ]
          refine skip_at (i := 18) (d := 72) rfl rfl (by kernel_rfl) (by rfl) (by assumption) ?_
          simp only [Act.put, List.setIfInBounds_toArray, List.set_cons_zero, List.set_cons_succ]
          refine take_at (i := 19) (d := 73) (v := undef) rfl rfl (by kernel_rfl) (by kernel_rfl) (by kernel_rfl) (fun _ _ _ h => h) (Or.inr ⟨by rfl, rfl⟩) (by assumption) ?_
          simp only [Act.put, List.setIfInBounds_toArray, List.set_cons_zero, List.set_cons_succ]
          refine take_at (i := 20) (d := 74) (v := .bool false) rfl rfl (by kernel_rfl) (by kernel_rfl) (by kernel_rfl) (fun _ _ _ h => h) (Or.inl ⟨by rfl, ?_⟩) (by assumption) ?_
          · intro w' hSw; obtain ⟨s0, s5⟩ := hSw; go_simp
          simp only [Act.put, List.setIfInBounds_toArray, List.set_cons_zero, List.set_cons_succ]
          refine take_at (i := 21) (d := 75) (v := .bool false) rfl rfl (by kernel_rfl) (by kernel_rfl) (by kernel_rfl) (fun _ _ _ h => h) (Or.inl ⟨by rfl, ?_⟩) (by assumption) ?_
          · intro w' hSw; obtain ⟨s0, s5⟩ := hSw; go_simp
          simp only [Act.put, List.setIfInBounds_toArray, List.set_cons_zero, List.set_cons_succ]
          refine take_at (i := 22) (d := 76) (v := .bool false) rfl rfl (by kernel_rfl) (by kernel_rfl) (by kernel_rfl) (fun _ _ _ h => h) (Or.inl ⟨by rfl, ?_⟩) (by assumption) ?_
          · intro w' hSw; obtain ⟨s0, s5⟩ := hSw; go_simp
          simp only [Act.put, List.setIfInBounds_toArray, List.set_cons_zero, List.set_cons_succ]
          refine take_at (i := 23) (d := 77) (v := .pointer (some ⟨w.heap.size, 0, none⟩)) rfl rfl (by kernel_rfl) (by kernel_rfl) (by kernel_rfl) (fun _ _ _ h => h) (Or.inl ⟨by rfl, ?_⟩) (by assumption) ?_
          · intro w' hSw; obtain ⟨s0, s5⟩ := hSw; go_simp
          simp only [Act.put, List.setIfInBounds_toArray, List.set_cons_zero, List.set_cons_succ]
          refine take_at (i := 24) (d := 78) (v := .int .i64 23) rfl rfl (by kernel_rfl) (by kernel_rfl) (by kernel_rfl) (fun _ _ _ h => h) (Or.inl ⟨by rfl, ?_⟩) (by assumption) ?_
          · intro w' hSw; obtain ⟨s0, s5⟩ := hSw; go_simp
          simp only [Act.put, List.setIfInBounds_toArray, List.set_cons_zero, List.set_cons_succ]
          refine take_at (i := 25) (d := 79) (v := .bool true) rfl rfl (by kernel_rfl) (by kernel_rfl) (by kernel_rfl) (fun _ _ _ h => h) (Or.inl ⟨by rfl, ?_⟩) (by assumption) ?_
          · intro w' hSw; obtain ⟨s0, s5⟩ := hSw; go_simp
          simp only [Act.put, List.setIfInBounds_toArray, List.set_cons_zero, List.set_cons_succ]
          refine take_at (i := 26) (d := 80) (v := .bool true) rfl rfl (by kernel_rfl) (by kernel_rfl) (by kernel_rfl) (fun _ _ _ h => h) (Or.inl ⟨by rfl, ?_⟩) (by assumption) ?_
          · intro w' hSw; obtain ⟨s0, s5⟩ := hSw; go_simp
          simp only [Act.put, List.setIfInBounds_toArray, List.set_cons_zero, List.set_cons_succ]
          refine take_at (i := 28) (d := 82) (v := .pointer (some ⟨w.heap.size, 5, none⟩)) rfl rfl (by kernel_rfl) (by kernel_rfl) (by kernel_rfl) (fun _ _ _ h => h) (Or.inl ⟨by rfl, ?_⟩) (by assumption) ?_
          · intro w' hSw; obtain ⟨s0, s5⟩ := hSw; go_simp
          simp only [Act.put, List.setIfInBounds_toArray, List.set_cons_zero, List.set_cons_succ]
          refine take_at (i := 29) (d := 83) (v := .string n.text) rfl rfl (by kernel_rfl) (by kernel_rfl) (by kernel_rfl) (fun _ _ _ h => h) (Or.inl ⟨by rfl, ?_⟩) (by assumption) ?_
          · intro w' hSw; obtain ⟨s0, s5⟩ := hSw; go_simp
          simp only [Act.put, List.setIfInBounds_toArray, List.set_cons_zero, List.set_cons_succ]
          refine call_at (i := 27) (d := 81) rfl rfl (by kernel_rfl) (by rfl) (fun K hK => ?_)
          go_simp
          refine (l5CallOnes_any _).mono ?_
          rintro e w7 ⟨v7, rfl, ho7, hb7⟩; have hHeld7 : w7.cell? ⟨w.heap.size, 0, none⟩ = some (.int .i64 23) ∧ w7.cell? ⟨w.heap.size, 5, none⟩ = some (.string n.text) := ⟨(hb7.cell (by exact hNr.lt)).trans c0, (hb7.cell (by exact hNr.lt)).trans c5⟩
          go_simp
          refine hK.out (v7) _ hHeld7 ?_
          clear hK K
          simp only [Act.put, List.setIfInBounds_toArray, List.set_cons_zero, List.set_cons_succ]
          refine call_at (i := 30) (d := 84) rfl rfl (by kernel_rfl) (by rfl) (fun K hK => ?_)
          go_simp
          refine ((unhide HAM) _ _ ho7).mono ?_
          rintro e w8 ⟨rfl, hw8⟩; subst w8
          go_simp
          refine hK.out (.bool false) _ hHeld7 ?_
          clear hK K
          simp only [Act.put, List.setIfInBounds_toArray, List.set_cons_zero, List.set_cons_succ]
          refine take_at (i := 31) (d := 85) (v := .bool true) rfl rfl (by kernel_rfl) (by kernel_rfl) (by kernel_rfl) (fun _ _ _ h => h) (Or.inl ⟨by rfl, ?_⟩) (by assumption) ?_
          · intro w' hSw; obtain ⟨s0, s5⟩ := hSw; go_simp
          simp only [Act.put, List.setIfInBounds_toArray, List.set_cons_zero, List.set_cons_succ]
          refine take_at (i := 32) (d := 86) (v := .bool true) rfl rfl (by kernel_rfl) (by kernel_rfl) (by kernel_rfl) (fun _ _ _ h => h) (Or.inl ⟨by rfl, ?_⟩) (by assumption) ?_
          · intro w' hSw; obtain ⟨s0, s5⟩ := hSw; go_simp
          simp only [Act.put, List.setIfInBounds_toArray, List.set_cons_zero, List.set_cons_succ]
          refine take_at (i := 33) (d := 87) (v := .bool true) rfl rfl (by kernel_rfl) (by kernel_rfl) (by kernel_rfl) (fun _ _ _ h => h) (Or.inl ⟨by rfl, ?_⟩) (by assumption) ?_
          · intro w' hSw; obtain ⟨s0, s5⟩ := hSw; go_simp
          simp only [Act.put, List.setIfInBounds_toArray, List.set_cons_zero, List.set_cons_succ]
          refine wpAnyH_done (by kernel_rfl) ?_ _
          have hB7 : Below wr.heap.size wr w7 := (Below.refl wr.heap.size wr).drew.trans hb7
          have hf2 := hide (show out ++ (Tr.ordF (f + 1) l i).filter (Tr.unkI l) = L ++ [(i : Int)] by rw [hfinal.out, unhide hU]; rfl)
          obtain ⟨hoW, kW, hBW⟩ := hap.out w7 (by first | exact below_drewN (Below.refl _ _) _ | assumption | exact Below.refl _ _)
          have hbse := hide (Tr.owns_base hoW)
          have hown' := hide (fun o => hoW.alloc o)
          have hone := hide (Tr.one_word w7 (i : Int))
          have honep := hide (Tr.one_plain (i : Int))
          have hb63 : L.length + 1 ≤ maxLen := by unfold maxLen; omega
          have hby : (L.length + 1) * 8 ≤ 140737488355328 := by omega
          have hbase : B0 ≤ (w7).heap.size + 1 := by omega
          clear hoW
          go_wp2_with (at_builtin; refine wpList_append_own_at _ rfl (.tmp 88) (.tmp 90) 74 rfl B0 2 i0 (.int .i64 0) 1 8 Try.underlying74 hi0 hz0 hz1 hz2 rfl (by decide) _ L.length _ rfl ((unhide hown') _) ⟨(w7).heap.size, 0, none⟩ 1 1 [.int .i64 i] rfl rfl (unhide hone) (unhide honep) hb63 hby (by simpa using hbase) ?_)
          intro v' w9 ho9 hg9 _ _
          have K9 : Tr.Kp B0 w w9 := (kW.trans (Tr.Kp.of_below ((Below.refl _ _).alloc (Nat.le_refl _) _) (by omega))).trans (Tr.Kp.grown ((unhide hown') _) hg9 (by simpa using hbase))
          obtain ⟨xa, xc, hxe⟩ := Tr.owns_slice ho9
          subst hxe
          have HO9 := hide ho9
          clear ho9 hg9
          go_wp2_with fail
          go_ret
          refine ⟨_, rfl, ?_, K9⟩
          rw [unhide hf2, List.length_append, List.map_append]; exact unhide HO9
        | true =>
          have hU := hide (show Tr.unk l i = false by rw [hub.out]; rfl)
          go_wp2_with fail
          try rw [hjn]
          refine wp_region_held_drew (S := fun w' => w'.cell? ⟨w.heap.size, 0, none⟩ = some (.int .i64 23) ∧ w'.cell? ⟨w.heap.size, 5, none⟩ = some (.string n.text)) (by kernel_rfl) ⟨c0, c5⟩ (fun hHeld => ?_)
          refine take_at (i := 0) (d := 54) (v := .pointer (some ⟨w.heap.size, 0, none⟩)) rfl rfl (by kernel_rfl) (by kernel_rfl) (by kernel_rfl) (fun _ _ _ h => h) (Or.inl ⟨by rfl, ?_⟩) (by assumption) ?_
          · intro w' hSw; obtain ⟨s0, s5⟩ := hSw; go_simp
          simp only [Act.put, List.setIfInBounds_toArray, List.set_cons_zero, List.set_cons_succ]
          refine take_at (i := 1) (d := 55) (v := .int .i64 23) rfl rfl (by kernel_rfl) (by kernel_rfl) (by kernel_rfl) (fun _ _ _ h => h) (Or.inl ⟨by rfl, ?_⟩) (by assumption) ?_
          · intro w' hSw; obtain ⟨s0, s5⟩ := hSw; go_simp
          simp only [Act.put, List.setIfInBounds_toArray, List.set_cons_zero, List.set_cons_succ]
          refine take_at (i := 2) (d := 56) (v := .bool false) rfl rfl (by kernel_rfl) (by kernel_rfl) (by kernel_rfl) (fun _ _ _ h => h) (Or.inl ⟨by rfl, ?_⟩) (by assumption) ?_
          · intro w' hSw; obtain ⟨s0, s5⟩ := hSw; go_simp
          simp only [Act.put, List.setIfInBounds_toArray, List.set_cons_zero, List.set_cons_succ]
          refine take_at (i := 3) (d := 57) (v := .bool false) rfl rfl (by kernel_rfl) (by kernel_rfl) (by kernel_rfl) (fun _ _ _ h => h) (Or.inl ⟨by rfl, ?_⟩) (by assumption) ?_
          · intro w' hSw; obtain ⟨s0, s5⟩ := hSw; go_simp
          simp only [Act.put, List.setIfInBounds_toArray, List.set_cons_zero, List.set_cons_succ]
          refine take_at (i := 4) (d := 58) (v := undef) rfl rfl (by kernel_rfl) (by kernel_rfl) (by kernel_rfl) (fun _ _ _ h => h) (Or.inr ⟨by rfl, rfl⟩) (by assumption) ?_
          simp only [Act.put, List.setIfInBounds_toArray, List.set_cons_zero, List.set_cons_succ]
          refine take_at (i := 5) (d := 59) (v := undef) rfl rfl (by kernel_rfl) (by kernel_rfl) (by kernel_rfl) (fun _ _ _ h => h) (Or.inr ⟨by rfl, rfl⟩) (by assumption) ?_
          simp only [Act.put, List.setIfInBounds_toArray, List.set_cons_zero, List.set_cons_succ]
          refine take_at (i := 6) (d := 60) (v := undef) rfl rfl (by kernel_rfl) (by kernel_rfl) (by kernel_rfl) (fun _ _ _ h => h) (Or.inr ⟨by rfl, rfl⟩) (by assumption) ?_
          simp only [Act.put, List.setIfInBounds_toArray, List.set_cons_zero, List.set_cons_succ]
          refine skip_at (i := 7) (d := 61) rfl rfl (by kernel_rfl) (by rfl) (by assumption) ?_
          simp only [Act.put, List.setIfInBounds_toArray, List.set_cons_zero, List.set_cons_succ]
          refine take_at (i := 8) (d := 62) (v := undef) rfl rfl (by kernel_rfl) (by kernel_rfl) (by kernel_rfl) (fun _ _ _ h => h) (Or.inr ⟨by rfl, rfl⟩) (by assumption) ?_
          simp only [Act.put, List.setIfInBounds_toArray, List.set_cons_zero, List.set_cons_succ]
          refine take_at (i := 9) (d := 63) (v := .bool false) rfl rfl (by kernel_rfl) (by kernel_rfl) (by kernel_rfl) (fun _ _ _ h => h) (Or.inl ⟨by rfl, ?_⟩) (by assumption) ?_
          · intro w' hSw; obtain ⟨s0, s5⟩ := hSw; go_simp
          simp only [Act.put, List.setIfInBounds_toArray, List.set_cons_zero, List.set_cons_succ]
          refine take_at (i := 10) (d := 64) (v := .bool false) rfl rfl (by kernel_rfl) (by kernel_rfl) (by kernel_rfl) (fun _ _ _ h => h) (Or.inl ⟨by rfl, ?_⟩) (by assumption) ?_
          · intro w' hSw; obtain ⟨s0, s5⟩ := hSw; go_simp
          simp only [Act.put, List.setIfInBounds_toArray, List.set_cons_zero, List.set_cons_succ]
          refine take_at (i := 11) (d := 65) (v := .pointer (some ⟨w.heap.size, 0, none⟩)) rfl rfl (by kernel_rfl) (by kernel_rfl) (by kernel_rfl) (fun _ _ _ h => h) (Or.inl ⟨by rfl, ?_⟩) (by assumption) ?_
          · intro w' hSw; obtain ⟨s0, s5⟩ := hSw; go_simp
          simp only [Act.put, List.setIfInBounds_toArray, List.set_cons_zero, List.set_cons_succ]
          refine take_at (i := 12) (d := 66) (v := .int .i64 23) rfl rfl (by kernel_rfl) (by kernel_rfl) (by kernel_rfl) (fun _ _ _ h => h) (Or.inl ⟨by rfl, ?_⟩) (by assumption) ?_
          · intro w' hSw; obtain ⟨s0, s5⟩ := hSw; go_simp
          simp only [Act.put, List.setIfInBounds_toArray, List.set_cons_zero, List.set_cons_succ]
          refine take_at (i := 13) (d := 67) (v := .bool false) rfl rfl (by kernel_rfl) (by kernel_rfl) (by kernel_rfl) (fun _ _ _ h => h) (Or.inl ⟨by rfl, ?_⟩) (by assumption) ?_
          · intro w' hSw; obtain ⟨s0, s5⟩ := hSw; go_simp
          simp only [Act.put, List.setIfInBounds_toArray, List.set_cons_zero, List.set_cons_succ]
          refine take_at (i := 14) (d := 68) (v := .bool false) rfl rfl (by kernel_rfl) (by kernel_rfl) (by kernel_rfl) (fun _ _ _ h => h) (Or.inl ⟨by rfl, ?_⟩) (by assumption) ?_
          · intro w' hSw; obtain ⟨s0, s5⟩ := hSw; go_simp
          simp only [Act.put, List.setIfInBounds_toArray, List.set_cons_zero, List.set_cons_succ]
          refine take_at (i := 16) (d := 70) (v := undef) rfl rfl (by kernel_rfl) (by kernel_rfl) (by kernel_rfl) (fun _ _ _ h => h) (Or.inr ⟨by rfl, rfl⟩) (by assumption) ?_
          simp only [Act.put, List.setIfInBounds_toArray, List.set_cons_zero, List.set_cons_succ]
          refine take_at (i := 17) (d := 71) (v := undef) rfl rfl (by kernel_rfl) (by kernel_rfl) (by kernel_rfl) (fun _ _ _ h => h) (Or.inr ⟨by rfl, rfl⟩) (by assumption) ?_
          simp only [Act.put, List.setIfInBounds_toArray, List.set_cons_zero, List.set_cons_succ]
          refine skip_at (i := 15) (d := 69) rfl rfl (by kernel_rfl) (by rfl) (by assumption) ?_
          simp only [Act.put, List.setIfInBounds_toArray, List.set_cons_zero, List.set_cons_succ]
          refine skip_at (i := 18) (d := 72) rfl rfl (by kernel_rfl) (by rfl) (by assumption) ?_
          simp only [Act.put, List.setIfInBounds_toArray, List.set_cons_zero, List.set_cons_succ]
          refine take_at (i := 19) (d := 73) (v := undef) rfl rfl (by kernel_rfl) (by kernel_rfl) (by kernel_rfl) (fun _ _ _ h => h) (Or.inr ⟨by rfl, rfl⟩) (by assumption) ?_
          simp only [Act.put, List.setIfInBounds_toArray, List.set_cons_zero, List.set_cons_succ]
          refine take_at (i := 20) (d := 74) (v := .bool false) rfl rfl (by kernel_rfl) (by kernel_rfl) (by kernel_rfl) (fun _ _ _ h => h) (Or.inl ⟨by rfl, ?_⟩) (by assumption) ?_
          · intro w' hSw; obtain ⟨s0, s5⟩ := hSw; go_simp
          simp only [Act.put, List.setIfInBounds_toArray, List.set_cons_zero, List.set_cons_succ]
          refine take_at (i := 21) (d := 75) (v := .bool false) rfl rfl (by kernel_rfl) (by kernel_rfl) (by kernel_rfl) (fun _ _ _ h => h) (Or.inl ⟨by rfl, ?_⟩) (by assumption) ?_
          · intro w' hSw; obtain ⟨s0, s5⟩ := hSw; go_simp
          simp only [Act.put, List.setIfInBounds_toArray, List.set_cons_zero, List.set_cons_succ]
          refine take_at (i := 22) (d := 76) (v := .bool false) rfl rfl (by kernel_rfl) (by kernel_rfl) (by kernel_rfl) (fun _ _ _ h => h) (Or.inl ⟨by rfl, ?_⟩) (by assumption) ?_
          · intro w' hSw; obtain ⟨s0, s5⟩ := hSw; go_simp
          simp only [Act.put, List.setIfInBounds_toArray, List.set_cons_zero, List.set_cons_succ]
          refine take_at (i := 23) (d := 77) (v := .pointer (some ⟨w.heap.size, 0, none⟩)) rfl rfl (by kernel_rfl) (by kernel_rfl) (by kernel_rfl) (fun _ _ _ h => h) (Or.inl ⟨by rfl, ?_⟩) (by assumption) ?_
          · intro w' hSw; obtain ⟨s0, s5⟩ := hSw; go_simp
          simp only [Act.put, List.setIfInBounds_toArray, List.set_cons_zero, List.set_cons_succ]
          refine take_at (i := 24) (d := 78) (v := .int .i64 23) rfl rfl (by kernel_rfl) (by kernel_rfl) (by kernel_rfl) (fun _ _ _ h => h) (Or.inl ⟨by rfl, ?_⟩) (by assumption) ?_
          · intro w' hSw; obtain ⟨s0, s5⟩ := hSw; go_simp
          simp only [Act.put, List.setIfInBounds_toArray, List.set_cons_zero, List.set_cons_succ]
          refine take_at (i := 25) (d := 79) (v := .bool true) rfl rfl (by kernel_rfl) (by kernel_rfl) (by kernel_rfl) (fun _ _ _ h => h) (Or.inl ⟨by rfl, ?_⟩) (by assumption) ?_
          · intro w' hSw; obtain ⟨s0, s5⟩ := hSw; go_simp
          simp only [Act.put, List.setIfInBounds_toArray, List.set_cons_zero, List.set_cons_succ]
          refine take_at (i := 26) (d := 80) (v := .bool true) rfl rfl (by kernel_rfl) (by kernel_rfl) (by kernel_rfl) (fun _ _ _ h => h) (Or.inl ⟨by rfl, ?_⟩) (by assumption) ?_
          · intro w' hSw; obtain ⟨s0, s5⟩ := hSw; go_simp
          simp only [Act.put, List.setIfInBounds_toArray, List.set_cons_zero, List.set_cons_succ]
          refine take_at (i := 28) (d := 82) (v := .pointer (some ⟨w.heap.size, 5, none⟩)) rfl rfl (by kernel_rfl) (by kernel_rfl) (by kernel_rfl) (fun _ _ _ h => h) (Or.inl ⟨by rfl, ?_⟩) (by assumption) ?_
          · intro w' hSw; obtain ⟨s0, s5⟩ := hSw; go_simp
          simp only [Act.put, List.setIfInBounds_toArray, List.set_cons_zero, List.set_cons_succ]
          refine take_at (i := 29) (d := 83) (v := .string n.text) rfl rfl (by kernel_rfl) (by kernel_rfl) (by kernel_rfl) (fun _ _ _ h => h) (Or.inl ⟨by rfl, ?_⟩) (by assumption) ?_
          · intro w' hSw; obtain ⟨s0, s5⟩ := hSw; go_simp
          simp only [Act.put, List.setIfInBounds_toArray, List.set_cons_zero, List.set_cons_succ]
          refine call_at (i := 27) (d := 81) rfl rfl (by kernel_rfl) (by rfl) (fun K hK => ?_)
          go_simp
          refine (l5CallOnes_any _).mono ?_
          rintro e w7 ⟨v7, rfl, ho7, hb7⟩; have hHeld7 : w7.cell? ⟨w.heap.size, 0, none⟩ = some (.int .i64 23) ∧ w7.cell? ⟨w.heap.size, 5, none⟩ = some (.string n.text) := ⟨(hb7.cell (by exact hNr.lt)).trans c0, (hb7.cell (by exact hNr.lt)).trans c5⟩
          go_simp
          refine hK.out (v7) _ hHeld7 ?_
          clear hK K
          simp only [Act.put, List.setIfInBounds_toArray, List.set_cons_zero, List.set_cons_succ]
          refine call_at (i := 30) (d := 84) rfl rfl (by kernel_rfl) (by rfl) (fun K hK => ?_)
          go_simp
          refine ((unhide HAM) _ _ ho7).mono ?_
          rintro e w8 ⟨rfl, hw8⟩; subst w8
          go_simp
          refine hK.out (.bool true) _ hHeld7 ?_
          clear hK K
          simp only [Act.put, List.setIfInBounds_toArray, List.set_cons_zero, List.set_cons_succ]
          refine take_at (i := 31) (d := 85) (v := .bool false) rfl rfl (by kernel_rfl) (by kernel_rfl) (by kernel_rfl) (fun _ _ _ h => h) (Or.inl ⟨by rfl, ?_⟩) (by assumption) ?_
          · intro w' hSw; obtain ⟨s0, s5⟩ := hSw; go_simp
          simp only [Act.put, List.setIfInBounds_toArray, List.set_cons_zero, List.set_cons_succ]
          refine take_at (i := 32) (d := 86) (v := .bool false) rfl rfl (by kernel_rfl) (by kernel_rfl) (by kernel_rfl) (fun _ _ _ h => h) (Or.inl ⟨by rfl, ?_⟩) (by assumption) ?_
          · intro w' hSw; obtain ⟨s0, s5⟩ := hSw; go_simp
          simp only [Act.put, List.setIfInBounds_toArray, List.set_cons_zero, List.set_cons_succ]
          refine take_at (i := 33) (d := 87) (v := .bool false) rfl rfl (by kernel_rfl) (by kernel_rfl) (by kernel_rfl) (fun _ _ _ h => h) (Or.inl ⟨by rfl, ?_⟩) (by assumption) ?_
          · intro w' hSw; obtain ⟨s0, s5⟩ := hSw; go_simp
          simp only [Act.put, List.setIfInBounds_toArray, List.set_cons_zero, List.set_cons_succ]
          refine wpAnyH_done (by kernel_rfl) ?_ _
          have hB7 : Below wr.heap.size wr w7 := (Below.refl wr.heap.size wr).drew.trans hb7
          have hf2 := hide (show out ++ (Tr.ordF (f + 1) l i).filter (Tr.unkI l) = L by rw [hfinal.out, unhide hU]; simp)
          obtain ⟨hoW, kW, hBW⟩ := hap.out w7 (by first | exact below_drewN (Below.refl _ _) _ | assumption | exact Below.refl _ _)
          have HOW := hide hoW
          clear hoW
          go_wp2_with fail
          go_ret
          refine ⟨_, rfl, ?_, kW⟩
          rw [unhide hf2]; exact unhide HOW
      have hco : Tr.callOk n = true := by unfold Tr.callOk; rw [if_neg h22, if_neg h23]
      rw [hco] at hub
      have g22 : (n.op == 22) = false := by simpa using h22
      have g23 : (n.op == 23) = false := by simpa using h23
      have hU := hide (show Tr.unk l i = false by rw [hub.out]; rfl)
      clear h21 h22 h23 hco
      go_wp2_with fail
      go_quiet (fail)
      have hf2 := hide (show out ++ (Tr.ordF (f + 1) l i).filter (Tr.unkI l) = L by rw [hfinal.out, unhide hU]; simp)
      obtain ⟨hoW, kW, hBW⟩ := hap.out (wr.drewN nq) (by first | exact below_drewN (Below.refl _ _) _ | assumption | exact Below.refl _ _)
      have HOW := hide hoW
      clear hoW
      go_wp2_with fail
      go_ret
      refine ⟨_, rfl, ?_, kW⟩
      rw [unhide hf2]; exact unhide HOW

theorem l5Scope_any (b B0 : Nat) (l : List Nd) (h200 : l.length ≤ 200) (hf : Tr.Fine l) (hod : Tr.inOrder l = true) (hop : ∀ i, i < l.length → 1 ≤ (l.getD i Nd.zero).op ∧ (l.getD i Nd.zero).op ≤ 24) (f : Nat) : f ≤ 200 → ScoSays b B0 l f := by
  induction f with
  | zero => intro _ i ss out nv v w hi hif; omega
  | succ f ih => intro h; exact l5Scope_step b B0 l f h200 hf hod hop (by omega) (ih (by omega))

end Go.Proofs.Ytmbefapdckhjdaa
