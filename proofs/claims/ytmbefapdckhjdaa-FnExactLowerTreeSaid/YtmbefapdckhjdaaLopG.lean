/-
  spec.l6One at every place of a tree; spec.LowerTree.
  lay at every place of a tree whose names are known; impl.LowerTree.
-/
import Derived.Test.YtmbefapdckhjdaaLowU
import Derived.Test.YtmbefapdckhjdaaLowV
import Derived.Test.YtmbefapdckhjdaaLowX
import Derived.Test.YtmbefapdckhjdaaLowN
import Derived.Test.YtmbefapdckhjdaaScoT
import Derived.Test.YtmbefapdckhjdaaLopF
namespace Go.Proofs.Ytmbefapdckhjdaa
open Go.RowKit
set_option linter.unusedVariables false
set_option linter.unusedSimpArgs false


theorem l6One_says (base P tb lc : Nat) (l : List Nd) (hf : Tr.Fine l) (hop : ∀ i, i < l.length → 1 ≤ (l.getD i Nd.zero).op ∧ (l.getD i Nd.zero).op ≤ 24) (hlc : l.length ≤ lc) (hl2 : l.length ≤ 1048576) (tv : Value) (htv : tv = .slice (some ⟨tb, 0, none⟩) l.length lc) (htb : tb < base) (f : Nat) :
    ∀ i, i < l.length → i < f → ∀ nv b0 ns, ns.length + i ≤ 1000 → Lw.Says base P tv nv b0 ns (fun w => Nd.Row w tb 0 l) (Lw.low l f) (5 * (Tr.ordF f l i).length) (i : Int) := by
  induction f with
  | zero => intro i _ h; exact absurd h (Nat.not_lt_zero _)
  | succ f ih =>
    intro i hi hif nv b0 ns hns4 v s w hL hN hw hlen
    have hT : ∀ x y, Below base x y → Nd.Row x tb 0 l → Nd.Row y tb 0 l := fun x y hb hr => hr.below hb htb
    have hlow : Lw.low l (f + 1) (i : Int) ns s = ((Lw.lay (Lw.low l f) (Lw.form (l.getD i Nd.zero)) ns s).1, (Lw.lay (Lw.low l f) (Lw.form (l.getD i Nd.zero)) ns s).2.headD 0) := by rw [Lw.low_succ, Int.toNat_natCast]
    have hll := Lw.low_len l (f + 1) (i : Int) ns s
    rw [Int.toNat_natCast] at hll
    refine ⟨?_, hll⟩
    clear hll
    rw [hlow]
    clear hlow
    have hlk := hf i hi
    have ho := hop i hi
    have hord : (Tr.ordF (f + 1) l i).length = ((Tr.links (l.getD i Nd.zero)).flatMap (fun x => Tr.ordF f l x.toNat)).length + 1 := by rw [Tr.ordF, List.length_append, List.length_singleton]
    rw [hord] at hlen
    clear hord
    obtain ⟨n, hn⟩ : ∃ n, n = l.getD i Nd.zero := ⟨_, rfl⟩
    rw [← hn] at hlk ho hlen ⊢
    have kid : ∀ x ∈ Tr.links n, ∀ nv2 b2 ns2, ns2.length ≤ ns.length + 1 → Lw.Says base P tv nv2 b2 ns2 (fun w => Nd.Row w tb 0 l) (Lw.low l f) (5 * (Tr.ordF f l x.toNat).length) x := by
      intro x hx nv2 b2 ns2 h2
      obtain ⟨h0, h1⟩ := hlk x hx
      have h3 := ih x.toNat (by omega) (by omega) nv2 b2 ns2 (by omega)
      rwa [Int.toNat_of_nonneg h0] at h3
    have hcase : n.op = 1 ∨ n.op = 2 ∨ n.op = 3 ∨ n.op = 4 ∨ n.op = 5 ∨ n.op = 6 ∨ n.op = 7 ∨ n.op = 8 ∨ n.op = 9 ∨ n.op = 10 ∨ n.op = 11 ∨ n.op = 12 ∨ n.op = 13 ∨ n.op = 14 ∨ n.op = 15 ∨ n.op = 16 ∨ n.op = 17 ∨ n.op = 18 ∨ n.op = 19 ∨ n.op = 20 ∨ n.op = 21 ∨ n.op = 22 ∨ n.op = 23 ∨ n.op = 24 := by omega
    rcases hcase with h | h | h | h | h | h | h | h | h | h | h | h | h | h | h | h | h | h | h | h | h | h | h | h
    · exact l6One_leaf base P b0 0 0 0 tb lc v nv (Lw.low l f) ns s l i n hi hn hlc hl2 tv htv (fun w => Nd.Row w tb 0 l) hT (fun x hx => hx) w hL (by omega) hN hw (by omega) (by omega)
    · exact l6One_leaf base P b0 0 0 0 tb lc v nv (Lw.low l f) ns s l i n hi hn hlc hl2 tv htv (fun w => Nd.Row w tb 0 l) hT (fun x hx => hx) w hL (by omega) hN hw (by omega) (by omega)
    · exact l6One_leaf base P b0 0 0 0 tb lc v nv (Lw.low l f) ns s l i n hi hn hlc hl2 tv htv (fun w => Nd.Row w tb 0 l) hT (fun x hx => hx) w hL (by omega) hN hw (by omega) (by omega)
    · exact l6One_leaf base P b0 0 0 0 tb lc v nv (Lw.low l f) ns s l i n hi hn hlc hl2 tv htv (fun w => Nd.Row w tb 0 l) hT (fun x hx => hx) w hL (by omega) hN hw (by omega) (by omega)
    · have hl : Tr.links n = [n.a, n.b] := by unfold Tr.links; rw [h]; rfl
      rw [hl] at kid hlen
      simp only [List.flatMap_cons, List.flatMap_nil, List.length_append, List.length_nil] at hlen
      exact l6One_5 base P b0 (5 * (Tr.ordF f l n.a.toNat).length) (5 * (Tr.ordF f l n.b.toNat).length) 0 tb lc v nv (Lw.low l f) ns s l i n hi hn hlc hl2 tv htv (fun w => Nd.Row w tb 0 l) hT (fun x hx => hx) w hL (by omega) hN hw (kid n.a (by simp) nv b0 ns (by omega)) (kid n.b (by simp) nv b0 ns (by omega)) (by omega) h
    · have hl : Tr.links n = [n.a, n.b] := by unfold Tr.links; rw [h]; rfl
      rw [hl] at kid hlen
      simp only [List.flatMap_cons, List.flatMap_nil, List.length_append, List.length_nil] at hlen
      exact l6One_6 base P b0 (5 * (Tr.ordF f l n.a.toNat).length) (5 * (Tr.ordF f l n.b.toNat).length) 0 tb lc v nv (Lw.low l f) ns s l i n hi hn hlc hl2 tv htv (fun w => Nd.Row w tb 0 l) hT (fun x hx => hx) w hL (by omega) hN hw (kid n.a (by simp) nv b0 ns (by omega)) (kid n.b (by simp) nv b0 ns (by omega)) (by omega) h
    · have hl : Tr.links n = [n.a, n.b] := by unfold Tr.links; rw [h]; rfl
      rw [hl] at kid hlen
      simp only [List.flatMap_cons, List.flatMap_nil, List.length_append, List.length_nil] at hlen
      exact l6One_7 base P b0 (5 * (Tr.ordF f l n.a.toNat).length) (5 * (Tr.ordF f l n.b.toNat).length) 0 tb lc v nv (Lw.low l f) ns s l i n hi hn hlc hl2 tv htv (fun w => Nd.Row w tb 0 l) hT (fun x hx => hx) w hL (by omega) hN hw (kid n.a (by simp) nv b0 ns (by omega)) (kid n.b (by simp) nv b0 ns (by omega)) (by omega) h
    · have hl : Tr.links n = [n.a, n.b] := by unfold Tr.links; rw [h]; rfl
      rw [hl] at kid hlen
      simp only [List.flatMap_cons, List.flatMap_nil, List.length_append, List.length_nil] at hlen
      exact l6One_8 base P b0 (5 * (Tr.ordF f l n.a.toNat).length) (5 * (Tr.ordF f l n.b.toNat).length) 0 tb lc v nv (Lw.low l f) ns s l i n hi hn hlc hl2 tv htv (fun w => Nd.Row w tb 0 l) hT (fun x hx => hx) w hL (by omega) hN hw (kid n.a (by simp) nv b0 ns (by omega)) (kid n.b (by simp) nv b0 ns (by omega)) h
    · have hl : Tr.links n = [n.a, n.b] := by unfold Tr.links; rw [h]; rfl
      rw [hl] at kid hlen
      simp only [List.flatMap_cons, List.flatMap_nil, List.length_append, List.length_nil] at hlen
      exact l6One_9 base P b0 (5 * (Tr.ordF f l n.a.toNat).length) (5 * (Tr.ordF f l n.b.toNat).length) 0 tb lc v nv (Lw.low l f) ns s l i n hi hn hlc hl2 tv htv (fun w => Nd.Row w tb 0 l) hT (fun x hx => hx) w hL (by omega) hN hw (kid n.a (by simp) nv b0 ns (by omega)) (kid n.b (by simp) nv b0 ns (by omega)) h
    · have hl : Tr.links n = [n.a, n.b] := by unfold Tr.links; rw [h]; rfl
      rw [hl] at kid hlen
      simp only [List.flatMap_cons, List.flatMap_nil, List.length_append, List.length_nil] at hlen
      exact l6One_10 base P b0 (5 * (Tr.ordF f l n.a.toNat).length) (5 * (Tr.ordF f l n.b.toNat).length) 0 tb lc v nv (Lw.low l f) ns s l i n hi hn hlc hl2 tv htv (fun w => Nd.Row w tb 0 l) hT (fun x hx => hx) w hL (by omega) hN hw (kid n.a (by simp) nv b0 ns (by omega)) (kid n.b (by simp) nv b0 ns (by omega)) (by omega) h
    · have hl : Tr.links n = [n.a, n.b] := by unfold Tr.links; rw [h]; rfl
      rw [hl] at kid hlen
      simp only [List.flatMap_cons, List.flatMap_nil, List.length_append, List.length_nil] at hlen
      exact l6One_11 base P b0 (5 * (Tr.ordF f l n.a.toNat).length) (5 * (Tr.ordF f l n.b.toNat).length) 0 tb lc v nv (Lw.low l f) ns s l i n hi hn hlc hl2 tv htv (fun w => Nd.Row w tb 0 l) hT (fun x hx => hx) w hL (by omega) hN hw (kid n.a (by simp) nv b0 ns (by omega)) (kid n.b (by simp) nv b0 ns (by omega)) (by omega) h
    · have hl : Tr.links n = [n.a] := by unfold Tr.links; rw [h]; rfl
      rw [hl] at kid hlen
      simp only [List.flatMap_cons, List.flatMap_nil, List.length_append, List.length_nil] at hlen
      exact l6One_12 base P b0 (5 * (Tr.ordF f l n.a.toNat).length) 0 0 tb lc v nv (Lw.low l f) ns s l i n hi hn hlc hl2 tv htv (fun w => Nd.Row w tb 0 l) hT (fun x hx => hx) w hL (by omega) hN hw (kid n.a (by simp) nv b0 ns (by omega)) (by omega) h
    · have hl : Tr.links n = [n.a] := by unfold Tr.links; rw [h]; rfl
      rw [hl] at kid hlen
      simp only [List.flatMap_cons, List.flatMap_nil, List.length_append, List.length_nil] at hlen
      exact l6One_13 base P b0 (5 * (Tr.ordF f l n.a.toNat).length) 0 0 tb lc v nv (Lw.low l f) ns s l i n hi hn hlc hl2 tv htv (fun w => Nd.Row w tb 0 l) hT (fun x hx => hx) w hL (by omega) hN hw (kid n.a (by simp) nv b0 ns (by omega)) (by omega) h
    · have hl : Tr.links n = [n.a] := by unfold Tr.links; rw [h]; rfl
      rw [hl] at kid hlen
      simp only [List.flatMap_cons, List.flatMap_nil, List.length_append, List.length_nil] at hlen
      exact l6One_14 base P b0 (5 * (Tr.ordF f l n.a.toNat).length) 0 0 tb lc v nv (Lw.low l f) ns s l i n hi hn hlc hl2 tv htv (fun w => Nd.Row w tb 0 l) hT (fun x hx => hx) w hL (by omega) hN hw (kid n.a (by simp) nv b0 ns (by omega)) (by omega) h
    · exact l6One_leaf base P b0 0 0 0 tb lc v nv (Lw.low l f) ns s l i n hi hn hlc hl2 tv htv (fun w => Nd.Row w tb 0 l) hT (fun x hx => hx) w hL (by omega) hN hw (by omega) (by omega)
    · exact l6One_leaf base P b0 0 0 0 tb lc v nv (Lw.low l f) ns s l i n hi hn hlc hl2 tv htv (fun w => Nd.Row w tb 0 l) hT (fun x hx => hx) w hL (by omega) hN hw (by omega) (by omega)
    · have hl : Tr.links n = [n.a, n.b] := by unfold Tr.links; rw [h]; rfl
      rw [hl] at kid hlen
      simp only [List.flatMap_cons, List.flatMap_nil, List.length_append, List.length_nil] at hlen
      exact l6One_17 base P b0 (5 * (Tr.ordF f l n.a.toNat).length) (5 * (Tr.ordF f l n.b.toNat).length) 0 tb lc v nv (Lw.low l f) ns s l i n hi hn hlc hl2 tv htv (fun w => Nd.Row w tb 0 l) hT (fun x hx => hx) w hL (by omega) hN hw (kid n.a (by simp) nv b0 ns (by omega)) (kid n.b (by simp) nv b0 ns (by omega)) (by omega) h
    · have hl : Tr.links n = [n.a, n.b, n.c] := by unfold Tr.links; rw [h]; rfl
      rw [hl] at kid hlen
      simp only [List.flatMap_cons, List.flatMap_nil, List.length_append, List.length_nil] at hlen
      exact l6One_18 base P b0 (5 * (Tr.ordF f l n.a.toNat).length) (5 * (Tr.ordF f l n.b.toNat).length) (5 * (Tr.ordF f l n.c.toNat).length) tb lc v nv (Lw.low l f) ns s l i n hi hn hlc hl2 tv htv (fun w => Nd.Row w tb 0 l) hT (fun x hx => hx) w hL (by omega) hN hw (kid n.a (by simp) nv b0 ns (by omega)) (kid n.b (by simp) nv b0 ns (by omega)) (by omega) (kid n.c (by simp) nv b0 ns (by omega)) h
    · have hl : Tr.links n = [n.a, n.b, n.c] := by unfold Tr.links; rw [h]; rfl
      rw [hl] at kid hlen
      simp only [List.flatMap_cons, List.flatMap_nil, List.length_append, List.length_nil] at hlen
      exact l6One_19 base P b0 (5 * (Tr.ordF f l n.a.toNat).length) (5 * (Tr.ordF f l n.b.toNat).length) (5 * (Tr.ordF f l n.c.toNat).length) tb lc v nv (Lw.low l f) ns s l i n hi hn hlc hl2 tv htv (fun w => Nd.Row w tb 0 l) hT (fun x hx => hx) w hL (by omega) hN hw (kid n.a (by simp) nv b0 ns (by omega)) (kid n.b (by simp) nv b0 ns (by omega)) (by omega) (fun nv2 b2 => kid n.c (by simp) nv2 b2 (ns ++ [n.text]) (by simp)) h
    · have hl : Tr.links n = [n.a, n.b] := by unfold Tr.links; rw [h]; rfl
      rw [hl] at kid hlen
      simp only [List.flatMap_cons, List.flatMap_nil, List.length_append, List.length_nil] at hlen
      exact l6One_20 base P b0 (5 * (Tr.ordF f l n.a.toNat).length) (5 * (Tr.ordF f l n.b.toNat).length) 0 tb lc v nv (Lw.low l f) ns s l i n hi hn hlc hl2 tv htv (fun w => Nd.Row w tb 0 l) hT (fun x hx => hx) w hL (by omega) hN hw (kid n.a (by simp) nv b0 ns (by omega)) (kid n.b (by simp) nv b0 ns (by omega)) (by omega) (fun nv2 b2 => kid n.b (by simp) nv2 b2 (ns ++ [n.text]) (by simp)) h
    · exact l6One_leaf base P b0 0 0 0 tb lc v nv (Lw.low l f) ns s l i n hi hn hlc hl2 tv htv (fun w => Nd.Row w tb 0 l) hT (fun x hx => hx) w hL (by omega) hN hw (by omega) (by omega)
    · exact l6One_leaf base P b0 0 0 0 tb lc v nv (Lw.low l f) ns s l i n hi hn hlc hl2 tv htv (fun w => Nd.Row w tb 0 l) hT (fun x hx => hx) w hL (by omega) hN hw (by omega) (by omega)
    · have hl : Tr.links n = [n.a] := by unfold Tr.links; rw [h]; rfl
      rw [hl] at kid hlen
      simp only [List.flatMap_cons, List.flatMap_nil, List.length_append, List.length_nil] at hlen
      exact l6One_23 base P b0 (5 * (Tr.ordF f l n.a.toNat).length) 0 0 tb lc v nv (Lw.low l f) ns s l i n hi hn hlc hl2 tv htv (fun w => Nd.Row w tb 0 l) hT (fun x hx => hx) w hL (by omega) hN hw (by omega) (kid n.a (by simp) nv b0 ns (by omega)) h
    · exact l6One_leaf base P b0 0 0 0 tb lc v nv (Lw.low l f) ns s l i n hi hn hlc hl2 tv htv (fun w => Nd.Row w tb 0 l) hT (fun x hx => hx) w hL (by omega) hN hw (by omega) (by omega)

/-- What LowerTree leaves on spec's side. -/
def Lw.Told (l : List Nd) (w : World) (e : Ending) (w' : World) : Prop := ∃ v cs, e = .returned (.agg #[.int .i64 (Lw.out l).1, .int .i64 (Lw.out l).2.1, v]) ∧ cs.map Prod.fst = (Lw.out l).2.2 ∧ Lw.Rw w' w.heap.size v cs ∧ Below w.heap.size w w'
theorem Lw.ires {w : World} {b : Nat} {x y : Int} (h : Own w b 49 [.int .i64 x, .int .i64 y]) : w.cell? ⟨b, 0, none⟩ = some (.int .i64 x) ∧ w.cell? ⟨b, 1, none⟩ = some (.int .i64 y) := ⟨h.cell 0, h.cell 1⟩
theorem Lw.out_bad {l : List Nd} (h : (Tr.scopeOut l).1 ≠ 0) : Lw.out l = ((Tr.scopeOut l).1, (Tr.scopeOut l).2, []) := by unfold Lw.out; rw [if_pos h]
theorem Lw.out_many {l : List Nd} (h : ¬ (Tr.scopeOut l).1 ≠ 0) (h2 : 900 < (Lw.core l).length) : Lw.out l = (2, 0, []) := by unfold Lw.out; rw [if_neg h, if_pos h2]
theorem Lw.out_ok {l : List Nd} (h : ¬ (Tr.scopeOut l).1 ≠ 0) (h2 : ¬ 900 < (Lw.core l).length) : Lw.out l = (0, 0, Lw.core l) := by unfold Lw.out; rw [if_neg h, if_neg h2]
theorem Lw.rw_set {w : World} {base d j : Nat} {v x : Value} {cs : List (Co × Value)} {t : TypeId} {ys : List Value} (h : Lw.Rw w base v cs) (hd : Own w d t ys) (h1 : t ≠ 82) (h2 : t ≠ 120) : Lw.Rw (w.setCell ⟨d, j, none⟩ x) base v cs := by
  have hnp := h.ne hd h1
  refine ⟨?_, fun p hp => (h.2 p hp).setOther _ _ (fun b hb e => Lw.res_ne (h.2 p hp) hd h2 (by rw [hb]; exact congrArg some e))⟩
  obtain ⟨⟨q1, ⟨q2, q3⟩ | ⟨g, cap, cur, q4, hg', hh, q5⟩⟩, _⟩ := h
  · exact ⟨q1, .inl ⟨q2, q3⟩⟩
  · exact ⟨q1, .inr ⟨g, cap, cur, q4, hg', (heap_setCell_other _ ⟨d, j, none⟩ g _ (fun e => hnp (by rw [q4]; exact congrArg some e))).trans hh, q5⟩⟩
theorem Lw.scope_ok {l : List Nd} (h : ¬ (Tr.scopeOut l).1 ≠ 0) : Tr.fault l = 0 := by
  by_cases hf : Tr.fault l = 0
  · exact hf
  · exact absurd (by rw [Tr.scope_fault hf]; exact hf) h
theorem Lw.core_len {l : List Nd} (h : Tr.fault l = 0) : (Lw.core l).length ≤ 1000 := by
  obtain ⟨h0, h200, hnf, hio⟩ := Tr.fault_parts h
  have h1 := Lw.low_len l l.length ((l.length : Int) - 1) [] []
  have h2 : ((l.length : Int) - 1).toNat = l.length - 1 := by omega
  rw [h2] at h1
  have h3 : Tr.ordF l.length l (l.length - 1) = Tr.ord l (l.length - 1) := Tr.ordF_eq (Tr.fine_of hnf) l.length (l.length - 1 + 1) (l.length - 1) (by omega) (by omega) (by omega)
  have h4 : (Tr.ord l (l.length - 1)).length = l.length := by rw [(Tr.inOrder_iff (Tr.fine_of hnf) h0).1 hio, Tr.up_length]
  rw [h3, h4] at h1
  simp only [List.length_nil, Nat.zero_add] at h1
  unfold Lw.core
  omega
set_option maxRecDepth 100000 in
set_option maxHeartbeats 2000000 in
theorem specLower_any (b : Nat) (l : List Nd) (w : World) (hrow : Nd.Row w b 0 l) (hb : b < w.heap.size) (hn : l.length ≤ 1048576) (hsz : ∀ i, i < l.length → (l.getD i Nd.zero).text.size ≤ 1048576) (hok : ∀ c ∈ l, c.ok) :
    Calls Try.prog 6 #[.slice (some ⟨b, 0, none⟩) l.length l.length] w (Lw.Told l w) := by
  have HR := hide hrow
  obtain ⟨w0, hw0⟩ : ∃ w0, w0 = w.alloc (.cells #[.int .i64 0, .int .i64 0, .slice none 0 0] 26) := ⟨_, rfl⟩
  have B0 : Below w.heap.size w w0 := by rw [hw0]; exact (Below.refl _ _).alloc (Nat.le_refl _) _
  have O0 : Own w0 w.heap.size 26 [.int .i64 0, .int .i64 0, .slice none 0 0] := by rw [hw0]; exact ⟨_, heap_alloc_new _ _, rfl⟩
  have HC := hide (specScopeFault_any b l w0 (hrow.below B0 hb) (Nat.lt_of_lt_of_le hb B0.size) hn hsz hok)
  clear hrow hsz hok
  go_enter Try.func6, Try.ntmps6
  go_wp2_with fail
  rw [← hw0]
  clear hw0
  refine (unhide HC).mono ?_
  clear HC
  rintro e w1 ⟨rfl, hb1⟩
  have B1 : Below w.heap.size w w1 := B0.trans (hb1.mono B0.size)
  have O1 := O0.below hb1 O0.lt
  clear O0 B0 hb1
  by_cases hs : (Tr.scopeOut l).1 ≠ 0
  · have fin := hide (Lw.out_bad hs)
    generalize (Tr.scopeOut l).1 = x at *
    generalize (Tr.scopeOut l).2 = y at *
    have g1 : (x != 0) = true := by simpa using hs
    clear hs
    have c0 := O1.cell 0
    have c1 := O1.cell 1
    have c2 := O1.cell 2
    simp only [List.getElem?_cons_zero, List.getElem?_cons_succ] at c0 c1 c2
    have z0 := O1.frozen 0
    have z1 := O1.frozen 1
    have z2 := O1.frozen 2
    have hlt := O1.lt
    go_wp2_with fail
    refine bodyPost_ret (v := .agg #[.int .i64 x, .int .i64 y, .slice none 0 0]) (by simp [results, Try.results6, go_sem, c0, c1, c2, hlt]; try rfl) rfl ⟨.slice none 0 0, [], by rw [unhide fin], by rw [unhide fin]; rfl, Lw.Rw.nil _ _, ?_⟩
    have hle := B1.size
    repeat (first | exact B1 | refine Below.setCell ?_ (by simp <;> omega) _ | refine Below.alloc ?_ (by simp <;> omega) _)
  · have hf := Lw.scope_ok hs
    have hx : (Tr.scopeOut l).1 = 0 := by simpa using hs
    have hlen := Lw.core_len hf
    obtain ⟨h0, h200, hnf, hio⟩ := Tr.fault_parts hf
    have HFI := hide (Tr.fine_of hnf)
    have HORD := hide (show (Tr.ord l (l.length - 1)).length = l.length by rw [(Tr.inOrder_iff (Tr.fine_of hnf) h0).1 hio, Tr.up_length])
    have HOPS := hide (Tr.ops_of hnf)
    have OM := hide (fun h => Lw.out_many hs h)
    have OO := hide (fun h => Lw.out_ok hs h)
    rw [hx]
    generalize (Tr.scopeOut l).2 = y at *
    clear hf hs hnf hio hx
    obtain ⟨w2, hw2⟩ : ∃ w2, w2 = (w1.alloc (.cells #[.int .i64 0, .int .i64 y] 49)).alloc (.cells #[.slice (some ⟨b, 0, none⟩) l.length l.length, .slice none 0 0] 52) := ⟨_, rfl⟩
    have B2 : Below w1.heap.size w1 w2 := by rw [hw2]; exact ((Below.refl _ _).alloc (Nat.le_refl _) _).alloc (by simp) _
    have BB2 : Below w.heap.size w w2 := B1.trans (B2.mono B1.size)
    have P2 : Own w2 (w1.heap.size + 1) 52 [.slice (some ⟨b, 0, none⟩) l.length l.length, .slice none 0 0] := by
      rw [hw2]
      refine ⟨_, (by rw [show w1.heap.size + 1 = (w1.alloc (.cells #[.int .i64 0, .int .i64 y] 49)).heap.size by simp]; exact heap_alloc_new _ _), rfl⟩
    have O2 := O1.below B2 O1.lt
    have hle := B1.size
    have L2 : Lw.Ld w.heap.size (w1.heap.size + 1) (.slice (some ⟨b, 0, none⟩) l.length l.length) w2 (.slice none 0 0) [] := ⟨P2, by omega, [], rfl, Lw.Rw.nil _ _⟩
    have hlast : (l.length : Int) - 1 = ((l.length - 1 : Nat) : Int) := by omega
    have hordn : Tr.ordF l.length l (l.length - 1) = Tr.ord l (l.length - 1) := Tr.ordF_eq (unhide HFI) l.length (l.length - 1 + 1) (l.length - 1) (by omega) (by omega) (by omega)
    have HSAY := (l6One_says w.heap.size (w1.heap.size + 1) b l.length l (unhide HFI) (unhide HOPS) (Nat.le_refl _) hn _ rfl hb l.length (l.length - 1) (by omega) (by omega) (.slice none 0 0) 0 [] (by simp; omega) (.slice none 0 0) [] w2 L2 (World.ownsRow_nil _ _ _ _) ((unhide HR).below BB2 hb) (by
      have h4 : (Tr.ord l (l.length - 1)).length = l.length := unhide HORD
      rw [hordn, h4]; simp; omega)).1
    rw [← hlast] at HSAY
    have HSY := hide HSAY
    clear HSAY hordn HORD hlast L2 P2 HFI HOPS
    obtain ⟨core, hcore⟩ : ∃ c, c = Lw.core l := ⟨_, rfl⟩
    rw [← hcore] at hlen OM OO
    have HCORE := hide hcore
    clear hcore
    go_wp2_with fail
    rw [← hw2]
    clear hw2
    refine (unhide HSY).mono ?_
    rintro e w3 ⟨v3, rfl, L3, f3⟩
    obtain ⟨q3, hq3⟩ : ∃ q, q = (Lw.low l l.length ((l.length : Int) - 1) [] []).2 := ⟨_, rfl⟩
    rw [← hq3]
    clear hq3
    have hc3 : (Lw.low l l.length ((l.length : Int) - 1) [] []).1 = core := (unhide HCORE).symm
    rw [hc3] at L3
    clear hc3 HCORE HSY
    obtain ⟨L3o, L3l, cs, hcs, hrw⟩ := L3
    have hcl : cs.length = core.length := by rw [← hcs, List.length_map]
    obtain ⟨va, vc, hv3⟩ := hrw.slice
    rw [hcl] at hv3
    subst hv3
    have O3 := f3.kept O2 (by have := O1.lt; have := B1.size; omega) (by simp [Value.ownBlock])
    have B3 : Below w.heap.size w w3 := BB2.trans (f3.below (by omega) (fun b hb => by simp [Value.ownBlock] at hb) BB2.size)
    have p1 := L3o.cell 1
    have c0 := O3.cell 0
    have c1 := O3.cell 1
    have c2 := O3.cell 2
    simp only [List.getElem?_cons_zero, List.getElem?_cons_succ] at p1 c0 c1 c2
    have z0 := O3.frozen 0
    have z1 := O3.frozen 1
    have z2 := O3.frozen 2
    have hle3 := B3.size
    by_cases hbig : 900 < core.length
    · have fin := hide ((unhide OM) hbig)
      have hbigI : (900 : Int) < (core.length : Int) := by omega
      go_wp2_with fail
      refine bodyPost_ret (v := .agg #[.int .i64 2, .int .i64 0, .slice none 0 0]) (by simp [results, Try.results6, go_sem, c0, c1, c2]; try rfl) rfl ⟨.slice none 0 0, [], by rw [unhide fin], by rw [unhide fin]; rfl, Lw.Rw.nil _ _, ?_⟩
      repeat (first | exact B3 | refine Below.setCell ?_ (by simp <;> omega) _ | refine Below.alloc ?_ (by simp <;> omega) _)
    · have fin := hide ((unhide OO) hbig)
      have hbigI : ¬ (900 : Int) < (core.length : Int) := by omega
      have HRW := hide hrw
      have HCS := hide hcs
      have HO3 := hide O3
      clear hrw hcs
      go_wp2_with fail
      refine bodyPost_ret (v := .agg #[.int .i64 0, .int .i64 0, .slice va core.length vc]) (by simp [results, Try.results6, go_sem, c0, c1, c2]; try rfl) rfl ⟨.slice va core.length vc, cs, by rw [unhide fin], by rw [unhide fin]; exact unhide HCS, ?_, ?_⟩
      · exact Lw.rw_set (Lw.rw_set (Lw.rw_set (unhide HRW) (unhide HO3) (by decide) (by decide)) ((unhide HO3).set 0 (.int .i64 0)) (by decide) (by decide)) (((unhide HO3).set 0 (.int .i64 0)).set 1 (.int .i64 0)) (by decide) (by decide)
      · repeat (first | exact B3 | refine Below.setCell ?_ (by simp <;> omega) _ | refine Below.alloc ?_ (by simp <;> omega) _)

end Go.Proofs.Ytmbefapdckhjdaa

namespace Go.Proofs.Ytmbefapdckhjdaa
open Go.RowKit
set_option linter.unusedVariables false
set_option linter.unusedSimpArgs false


namespace Lp
def Okf (Q : Int → List ByteArray → Prop) : Fm → List ByteArray → Prop
  | .nil, _ => True
  | .cons h t, ns => Okf Q h ns ∧ Okf Q t ns
  | .tree i, ns => Q i ns
  | .var t, ns => oneOf ns t = true ∧ ns.length ≤ 4000
  | .node _ _ _ ps, ns => Okf Q ps ns
  | .bind _ t a b, ns => ns.length ≤ 3900 ∧ Okf Q a ns ∧ Okf Q b (ns ++ [t])
theorem say_all (base P : Nat) (tv : Value) (T : World → Prop) (hT : ∀ x y, Below base x y → T x → T y) (rec : Lw.Rec) (c : Int → Nat) (hc : ∀ i ns s, (rec i ns s).1.length ≤ s.length + c i) (Q : Int → List ByteArray → Prop) (hQ : ∀ i ns, Q i ns → SayF base P tv T rec c (.tree i) ns) (F : Fm) :
    Gd F → ∀ ns, Okf Q F ns → (isF F → SayF base P tv T rec c F ns) ∧ ∀ G ∈ elems F, SayF base P tv T rec c G ns := by
  induction F with
  | nil => intro _ ns _; exact ⟨fun h => absurd h (by simp [isF]), fun G hG => by simp [elems] at hG⟩
  | cons h t ihh iht =>
    rintro ⟨g1, g2, g3, g4⟩ ns ⟨o1, o2⟩
    refine ⟨fun h => absurd h (by simp [isF]), fun G hG => ?_⟩
    simp only [elems, List.mem_cons] at hG
    rcases hG with rfl | hG
    · exact (ihh g3 ns o1).1 g1
    · exact (iht g4 ns o2).2 G hG
  | tree i => intro _ ns o; exact ⟨fun _ => hQ i ns o, fun G hG => by simp [elems] at hG⟩
  | var t => intro _ ns o; exact ⟨fun _ => lay_var base P tv T rec c ns t o.1 o.2, fun G hG => by simp [elems] at hG⟩
  | node op num val ps ih =>
    rintro ⟨g1, g2, g3⟩ ns o
    exact ⟨fun _ => lay_node base P tv T hT rec c hc ns op num val ps g1 g2 g3 (ih g2 ns o).2, fun G hG => by simp [elems] at hG⟩
  | bind op t a b iha ihb =>
    rintro ⟨g1, g2, g3, g4, cF, rfl, g5⟩ ns ⟨o1, o2, o3⟩
    exact ⟨fun _ => lay_bind base P tv T hT rec c hc ns op t a cF g1 g2 g3 g5 (iha g2 ns o2).2 ((ihb g4 (ns ++ [t]) o3).2 cF (by simp [Lw.l1, elems])) o1, fun G hG => by simp [elems] at hG⟩
/-- A place whose names are those that are bound. -/
def Qt (l : List Nd) (f : Nat) (x : Int) (ns : List ByteArray) : Prop := 0 ≤ x ∧ x < l.length ∧ x < f ∧ (∀ t, oneOf ns t = Tr.bound l x.toNat t) ∧ ns.length + x.toNat ≤ 1000
theorem kid_bound {l : List Nd} (hf : Tr.Fine l) (ho : Tr.inOrder l = true) {i : Nat} (hi : i < l.length) {j : Nat} (hj : j < Tr.kids (l.getD i Nd.zero).op) (t : ByteArray) : Tr.bound l (Tr.kidAt (l.getD i Nd.zero) j).toNat t = (((((l.getD i Nd.zero).op == 20 && j == 1) || ((l.getD i Nd.zero).op == 19 && j == 2)) && ((l.getD i Nd.zero).text.toList == t.toList)) || Tr.bound l i t) := by
  have hx := Tr.kid_mem (l.getD i Nd.zero) j hj
  have h0 := hf i hi _ hx
  have e : (((Tr.kidAt (l.getD i Nd.zero) j).toNat : Nat) : Int) = Tr.kidAt (l.getD i Nd.zero) j := Int.toNat_of_nonneg h0.1
  rw [Tr.bound_kid hf ho hi (x := (Tr.kidAt (l.getD i Nd.zero) j).toNat) (by rw [e]; exact hx) t, e, Tr.binds_kid ho hi hj]
theorem kidQ {l : List Nd} (hf : Tr.Fine l) (ho : Tr.inOrder l = true) {i f : Nat} (hi : i < l.length) (hif : i < f + 1) {ns : List ByteArray} (hns : ∀ t, oneOf ns t = Tr.bound l i t) (hn : ns.length + i ≤ 1000) {n : Nd} (hni : n = l.getD i Nd.zero) (j : Nat) (hj : j < Tr.kids n.op) (hb : ((n.op == 20 && j == 1) || (n.op == 19 && j == 2)) = false) : Qt l f (Tr.kidAt n j) ns := by
  subst hni
  have h0 := hf i hi _ (Tr.kid_mem (l.getD i Nd.zero) j hj)
  refine ⟨h0.1, by omega, by omega, fun t => ?_, by omega⟩
  rw [kid_bound hf ho hi hj t, hb, hns t]; simp
theorem kidB {l : List Nd} (hf : Tr.Fine l) (ho : Tr.inOrder l = true) {i f : Nat} (hi : i < l.length) (hif : i < f + 1) {ns : List ByteArray} (hns : ∀ t, oneOf ns t = Tr.bound l i t) (hn : ns.length + i ≤ 1000) {n : Nd} (hni : n = l.getD i Nd.zero) (j : Nat) (hj : j < Tr.kids n.op) (hb : ((n.op == 20 && j == 1) || (n.op == 19 && j == 2)) = true) : Qt l f (Tr.kidAt n j) (ns ++ [n.text]) := by
  subst hni
  have h0 := hf i hi _ (Tr.kid_mem (l.getD i Nd.zero) j hj)
  refine ⟨h0.1, by omega, by omega, fun t => ?_, by rw [List.length_append, List.length_singleton]; omega⟩
  rw [kid_bound hf ho hi hj t, hb, Tr.oneOf_snoc, hns t, Bool.true_and, Bool.or_comm]
theorem unk_no {l : List Nd} (hf : Tr.fault l = 0) (hs : (Tr.scopeOut l).1 = 0) (j : Nat) : j < l.length → Tr.unk l j = false := by
  induction j using Nat.strongRecOn with
  | ind j ih =>
    intro hj
    cases hu : Tr.unk l j with
    | false => rfl
    | true =>
      rw [Tr.scope_first hf hj (fun i hi => ih i hi (by omega)) hu] at hs
      have hs' : (4 : Int) = 0 := hs
      omega
theorem okf_call (Q : Int → List ByteArray → Prop) (t : ByteArray) (ns : List ByteArray) : Okf Q (Lw.call t) ns := by
  unfold Lw.call
  repeat' split
  all_goals simp [Lw.over, Lw.done, Lw.con, Lw.l3, Okf]
theorem okf_one (Q : Int → List ByteArray → Prop) (t : ByteArray) (i : Int) (ns : List ByteArray) (h : Q i ns) : Okf Q (Lw.callOne t (.tree i)) ns := by
  unfold Lw.callOne
  repeat' split
  all_goals simp [Lw.over, Lw.done, Lw.con, Lw.l1, Lw.l2, Lw.l3, Okf, h]
theorem form_okf {l : List Nd} (hf : Tr.Fine l) (ho : Tr.inOrder l = true) {i f : Nat} (hi : i < l.length) (hif : i < f + 1) {ns : List ByteArray} (hns : ∀ t, oneOf ns t = Tr.bound l i t) (hn : ns.length + i ≤ 1000) {n : Nd} (hni : n = l.getD i Nd.zero) (h0 : 1 ≤ n.op) (h1 : n.op ≤ 24) (hvar : n.op = 21 → Tr.bound l i n.text = true) : Okf (Qt l f) (Lw.form n) ns := by
  have hcase : n.op = 1 ∨ n.op = 2 ∨ n.op = 3 ∨ n.op = 4 ∨ n.op = 5 ∨ n.op = 6 ∨ n.op = 7 ∨ n.op = 8 ∨ n.op = 9 ∨ n.op = 10 ∨ n.op = 11 ∨ n.op = 12 ∨ n.op = 13 ∨ n.op = 14 ∨ n.op = 15 ∨ n.op = 16 ∨ n.op = 17 ∨ n.op = 18 ∨ n.op = 19 ∨ n.op = 20 ∨ n.op = 21 ∨ n.op = 22 ∨ n.op = 23 ∨ n.op = 24 := by omega
  rcases hcase with h | h | h | h | h | h | h | h | h | h | h | h | h | h | h | h | h | h | h | h | h | h | h | h
  · rw [Lw.form_1 h]
    have hk : Tr.kids n.op = 0 := by rw [h]; rfl
    simp [Lw.over, Lw.done, Lw.con, Lw.truth, Lw.l1, Lw.l2, Lw.l3, Okf]
  · rw [Lw.form_2 h]
    have hk : Tr.kids n.op = 0 := by rw [h]; rfl
    simp [Lw.over, Lw.done, Lw.con, Lw.truth, Lw.l1, Lw.l2, Lw.l3, Okf]
  · rw [Lw.form_3 h]
    have hk : Tr.kids n.op = 0 := by rw [h]; rfl
    simp [Lw.over, Lw.done, Lw.con, Lw.truth, Lw.l1, Lw.l2, Lw.l3, Okf]
  · rw [Lw.form_4 h]
    have hk : Tr.kids n.op = 0 := by rw [h]; rfl
    simp [Lw.over, Lw.done, Lw.con, Lw.truth, Lw.l1, Lw.l2, Lw.l3, Okf]
  · rw [Lw.form_5 h]
    have hk : Tr.kids n.op = 2 := by rw [h]; rfl
    have k0 : Qt l f n.a ns := kidQ hf ho hi hif hns hn hni 0 (by omega) (by rw [h]; rfl)
    have k1 : Qt l f n.b ns := kidQ hf ho hi hif hns hn hni 1 (by omega) (by rw [h]; rfl)
    simp [Lw.over, Lw.done, Lw.con, Lw.truth, Lw.l1, Lw.l2, Lw.l3, Okf, k0, k1]
  · rw [Lw.form_6 h]
    have hk : Tr.kids n.op = 2 := by rw [h]; rfl
    have k0 : Qt l f n.a ns := kidQ hf ho hi hif hns hn hni 0 (by omega) (by rw [h]; rfl)
    have k1 : Qt l f n.b ns := kidQ hf ho hi hif hns hn hni 1 (by omega) (by rw [h]; rfl)
    simp [Lw.over, Lw.done, Lw.con, Lw.truth, Lw.l1, Lw.l2, Lw.l3, Okf, k0, k1]
  · rw [Lw.form_7 h]
    have hk : Tr.kids n.op = 2 := by rw [h]; rfl
    have k0 : Qt l f n.a ns := kidQ hf ho hi hif hns hn hni 0 (by omega) (by rw [h]; rfl)
    have k1 : Qt l f n.b ns := kidQ hf ho hi hif hns hn hni 1 (by omega) (by rw [h]; rfl)
    simp [Lw.over, Lw.done, Lw.con, Lw.truth, Lw.l1, Lw.l2, Lw.l3, Okf, k0, k1]
  · rw [Lw.form_8 h]
    have hk : Tr.kids n.op = 2 := by rw [h]; rfl
    have k0 : Qt l f n.a ns := kidQ hf ho hi hif hns hn hni 0 (by omega) (by rw [h]; rfl)
    have k1 : Qt l f n.b ns := kidQ hf ho hi hif hns hn hni 1 (by omega) (by rw [h]; rfl)
    simp [Lw.over, Lw.done, Lw.con, Lw.truth, Lw.l1, Lw.l2, Lw.l3, Okf, k0, k1]
  · rw [Lw.form_9 h]
    have hk : Tr.kids n.op = 2 := by rw [h]; rfl
    have k0 : Qt l f n.a ns := kidQ hf ho hi hif hns hn hni 0 (by omega) (by rw [h]; rfl)
    have k1 : Qt l f n.b ns := kidQ hf ho hi hif hns hn hni 1 (by omega) (by rw [h]; rfl)
    simp [Lw.over, Lw.done, Lw.con, Lw.truth, Lw.l1, Lw.l2, Lw.l3, Okf, k0, k1]
  · rw [Lw.form_10 h]
    have hk : Tr.kids n.op = 2 := by rw [h]; rfl
    have k0 : Qt l f n.a ns := kidQ hf ho hi hif hns hn hni 0 (by omega) (by rw [h]; rfl)
    have k1 : Qt l f n.b ns := kidQ hf ho hi hif hns hn hni 1 (by omega) (by rw [h]; rfl)
    simp [Lw.over, Lw.done, Lw.con, Lw.truth, Lw.l1, Lw.l2, Lw.l3, Okf, k0, k1]
  · rw [Lw.form_11 h]
    have hk : Tr.kids n.op = 2 := by rw [h]; rfl
    have k0 : Qt l f n.a ns := kidQ hf ho hi hif hns hn hni 0 (by omega) (by rw [h]; rfl)
    have k1 : Qt l f n.b ns := kidQ hf ho hi hif hns hn hni 1 (by omega) (by rw [h]; rfl)
    simp [Lw.over, Lw.done, Lw.con, Lw.truth, Lw.l1, Lw.l2, Lw.l3, Okf, k0, k1]
  · rw [Lw.form_12 h]
    have hk : Tr.kids n.op = 1 := by rw [h]; rfl
    have k0 : Qt l f n.a ns := kidQ hf ho hi hif hns hn hni 0 (by omega) (by rw [h]; rfl)
    simp [Lw.over, Lw.done, Lw.con, Lw.truth, Lw.l1, Lw.l2, Lw.l3, Okf, k0]
  · rw [Lw.form_13 h]
    have hk : Tr.kids n.op = 1 := by rw [h]; rfl
    have k0 : Qt l f n.a ns := kidQ hf ho hi hif hns hn hni 0 (by omega) (by rw [h]; rfl)
    simp [Lw.over, Lw.done, Lw.con, Lw.truth, Lw.l1, Lw.l2, Lw.l3, Okf, k0]
  · rw [Lw.form_14 h]
    have hk : Tr.kids n.op = 1 := by rw [h]; rfl
    have k0 : Qt l f n.a ns := kidQ hf ho hi hif hns hn hni 0 (by omega) (by rw [h]; rfl)
    simp [Lw.over, Lw.done, Lw.con, Lw.truth, Lw.l1, Lw.l2, Lw.l3, Okf, k0]
  · rw [Lw.form_15 h]
    have hk : Tr.kids n.op = 0 := by rw [h]; rfl
    simp [Lw.over, Lw.done, Lw.con, Lw.truth, Lw.l1, Lw.l2, Lw.l3, Okf]
  · rw [Lw.form_16 h]
    have hk : Tr.kids n.op = 0 := by rw [h]; rfl
    simp [Lw.over, Lw.done, Lw.con, Lw.truth, Lw.l1, Lw.l2, Lw.l3, Okf]
  · rw [Lw.form_17 h]
    have hk : Tr.kids n.op = 2 := by rw [h]; rfl
    have k0 : Qt l f n.a ns := kidQ hf ho hi hif hns hn hni 0 (by omega) (by rw [h]; rfl)
    have k1 : Qt l f n.b ns := kidQ hf ho hi hif hns hn hni 1 (by omega) (by rw [h]; rfl)
    simp [Lw.over, Lw.done, Lw.con, Lw.truth, Lw.l1, Lw.l2, Lw.l3, Okf, k0, k1]
  · rw [Lw.form_18 h]
    have hk : Tr.kids n.op = 3 := by rw [h]; rfl
    have k0 : Qt l f n.a ns := kidQ hf ho hi hif hns hn hni 0 (by omega) (by rw [h]; rfl)
    have k1 : Qt l f n.b ns := kidQ hf ho hi hif hns hn hni 1 (by omega) (by rw [h]; rfl)
    have k2 : Qt l f n.c ns := kidQ hf ho hi hif hns hn hni 2 (by omega) (by rw [h]; rfl)
    simp [Lw.over, Lw.done, Lw.con, Lw.truth, Lw.l1, Lw.l2, Lw.l3, Okf, k0, k1, k2]
  · rw [Lw.form_19 h]
    have hk : Tr.kids n.op = 3 := by rw [h]; rfl
    have k0 : Qt l f n.a ns := kidQ hf ho hi hif hns hn hni 0 (by omega) (by rw [h]; rfl)
    have k1 : Qt l f n.b ns := kidQ hf ho hi hif hns hn hni 1 (by omega) (by rw [h]; rfl)
    have k2 : Qt l f n.c (ns ++ [n.text]) := kidB hf ho hi hif hns hn hni 2 (by omega) (by rw [h]; rfl)
    exact ⟨by omega, ⟨k0, k1, trivial⟩, ⟨k2, trivial⟩⟩
  · rw [Lw.form_20 h]
    have hk : Tr.kids n.op = 2 := by rw [h]; rfl
    have k0 : Qt l f n.a ns := kidQ hf ho hi hif hns hn hni 0 (by omega) (by rw [h]; rfl)
    have k1 : Qt l f n.b (ns ++ [n.text]) := kidB hf ho hi hif hns hn hni 1 (by omega) (by rw [h]; rfl)
    exact ⟨by omega, ⟨k0, trivial⟩, ⟨k1, trivial⟩⟩
  · rw [Lw.form_21 h]
    have hk : Tr.kids n.op = 0 := by rw [h]; rfl
    exact ⟨by rw [hns]; exact hvar h, by omega⟩
  · rw [Lw.form_22 h]
    have hk : Tr.kids n.op = 0 := by rw [h]; rfl
    exact okf_call _ _ _
  · rw [Lw.form_23 h]
    have hk : Tr.kids n.op = 1 := by rw [h]; rfl
    have k0 : Qt l f n.a ns := kidQ hf ho hi hif hns hn hni 0 (by omega) (by rw [h]; rfl)
    exact okf_one _ _ _ _ k0
  · rw [Lw.form_24 h]
    have hk : Tr.kids n.op = 0 := by rw [h]; rfl
    simp [Lw.over, Lw.done, Lw.con, Lw.truth, Lw.l1, Lw.l2, Lw.l3, Okf]
end Lp
theorem lay_says (base P tb lc : Nat) (l : List Nd) (hf : Tr.Fine l) (ho : Tr.inOrder l = true) (hop : ∀ i, i < l.length → 1 ≤ (l.getD i Nd.zero).op ∧ (l.getD i Nd.zero).op ≤ 24) (hnum : ∀ i, i < l.length → (l.getD i Nd.zero).op = 4 → 0 ≤ (l.getD i Nd.zero).num ∧ (l.getD i Nd.zero).num ≤ 2) (hvar : ∀ i, i < l.length → (l.getD i Nd.zero).op = 21 → Tr.bound l i (l.getD i Nd.zero).text = true) (hlc : l.length ≤ lc) (hl2 : l.length ≤ 1048576) (htb : tb < base) (f : Nat) :
    ∀ x ns, Lp.Qt l f x ns → Lp.SayF base P (.slice (some ⟨tb, 0, none⟩) l.length lc) (fun w => Nd.Row w tb 0 l) (Lw.low l f) (fun x => 5 * (Tr.ordF f l x.toNat).length) (.tree x) ns := by
  induction f with
  | zero => rintro x ns ⟨h0, _, h2, _⟩; omega
  | succ f ih =>
    rintro x ns ⟨h0, h1, h2, h3, h4⟩
    obtain ⟨i, rfl⟩ := Int.eq_ofNat_of_zero_le h0
    have hi : i < l.length := by omega
    rw [Int.toNat_natCast] at h3 h4
    have ho' := hop i hi
    have hT : ∀ x y, Below base x y → Nd.Row x tb 0 l → Nd.Row y tb 0 l := fun x y hb hr => hr.below hb htb
    refine lay_tree base P tb lc l hlc hl2 htb (Lw.low l (f + 1)) (Lw.low l f) _ (fun x => 5 * (Tr.ordF f l x.toNat).length) ns i hi (l.getD i Nd.zero) rfl ho'.1 ho'.2 (hnum i hi) (fun s => ?_) ?_ ?_
    · rw [Lw.low_succ, Int.toNat_natCast]
    · have hcf := Lw.cst_form (fun x => 5 * (Tr.ordF f l x.toNat).length) (l.getD i Nd.zero)
      rw [Lw.sum_five (Tr.links (l.getD i Nd.zero)) (fun x => Tr.ordF f l x.toNat)] at hcf
      show _ ≤ 5 * (Tr.ordF (f + 1) l (i : Int).toNat).length
      rw [Int.toNat_natCast, Tr.ordF, List.length_append, List.length_singleton]
      omega
    · have hg := Lf.form_good (l.getD i Nd.zero) ho'.1 ho'.2
      exact (Lp.say_all base P _ _ hT (Lw.low l f) _ (fun i ns s => Lw.low_len l f i ns s) (Lp.Qt l f) ih (Lw.form (l.getD i Nd.zero)) hg.2 ns (Lp.form_okf hf ho hi (by omega) h3 h4 rfl ho'.1 ho'.2 (hvar i hi))).1 hg.1

/-- What LowerTree leaves on the program's side: besides, no two values share a block. -/
def Lp.Told (l : List Nd) (w : World) (e : Ending) (w' : World) : Prop := ∃ v cs, e = .returned (.agg #[.int .i64 (Lw.out l).1, .int .i64 (Lw.out l).2.1, v]) ∧ cs.map Prod.fst = (Lw.out l).2.2 ∧ Lw.Rw w' w.heap.size v cs ∧ (Lp.bls cs).Nodup ∧ Below w.heap.size w w'
theorem Lp.num_of {l : List Nd} (h : Tr.nf l l.length = 0) : ∀ i, i < l.length → (l.getD i Nd.zero).op = 4 → 0 ≤ (l.getD i Nd.zero).num ∧ (l.getD i Nd.zero).num ≤ 2 := by
  intro i hi h4
  have h5 := (Tr.node_parts (Tr.nf_all h i hi)).2.2.2.2.1
  rw [h4] at h5
  exact h5
theorem Lp.var_of {l : List Nd} (hf : Tr.fault l = 0) (hs : (Tr.scopeOut l).1 = 0) : ∀ i, i < l.length → (l.getD i Nd.zero).op = 21 → Tr.bound l i (l.getD i Nd.zero).text = true := by
  intro i hi h21
  have hu := Lp.unk_no hf hs i hi
  unfold Tr.unk at hu
  rw [h21] at hu
  simp only [Bool.or_eq_false_iff, Bool.and_eq_false_iff] at hu
  rcases hu.2 with x | x
  · exact absurd x (by decide)
  · simpa using x
set_option maxRecDepth 100000 in
set_option maxHeartbeats 2000000 in
theorem implLower_any (b : Nat) (l : List Nd) (w : World) (hrow : Nd.Row w b 0 l) (hb : b < w.heap.size) (hn : l.length ≤ 1048576) (hsz : ∀ i, i < l.length → (l.getD i Nd.zero).text.size ≤ 1048576) (hok : ∀ c ∈ l, c.ok) :
    Calls Try.prog 8 #[.slice (some ⟨b, 0, none⟩) l.length l.length] w (Lp.Told l w) := by
  have HR := hide hrow
  obtain ⟨w0, hw0⟩ : ∃ w0, w0 = w.alloc (.cells #[.int .i64 0, .int .i64 0, .slice none 0 0] 26) := ⟨_, rfl⟩
  have B0 : Below w.heap.size w w0 := by rw [hw0]; exact (Below.refl _ _).alloc (Nat.le_refl _) _
  have O0 : Own w0 w.heap.size 26 [.int .i64 0, .int .i64 0, .slice none 0 0] := by rw [hw0]; exact ⟨_, heap_alloc_new _ _, rfl⟩
  have HC := hide (implScopeFault_any b l w0 (hrow.below B0 hb) (Nat.lt_of_lt_of_le hb B0.size) hn hsz hok)
  clear hrow hsz hok
  go_enter Try.func8, Try.ntmps8
  go_wp2_with fail
  rw [← hw0]
  clear hw0
  refine (unhide HC).mono ?_
  clear HC
  rintro e w1 ⟨rfl, hb1⟩
  have B1 : Below w.heap.size w w1 := B0.trans (hb1.mono B0.size)
  have O1 := O0.below hb1 O0.lt
  clear O0 B0 hb1
  by_cases hs : (Tr.scopeOut l).1 ≠ 0
  · have fin := hide (Lw.out_bad hs)
    generalize (Tr.scopeOut l).1 = x at *
    generalize (Tr.scopeOut l).2 = y at *
    have g1 : (x != 0) = true := by simpa using hs
    clear hs
    have c0 := O1.cell 0
    have c1 := O1.cell 1
    have c2 := O1.cell 2
    simp only [List.getElem?_cons_zero, List.getElem?_cons_succ] at c0 c1 c2
    have z0 := O1.frozen 0
    have z1 := O1.frozen 1
    have z2 := O1.frozen 2
    have hlt := O1.lt
    go_wp2_with fail
    refine bodyPost_ret (v := .agg #[.int .i64 x, .int .i64 y, .slice none 0 0]) (by simp [results, Try.results8, go_sem, c0, c1, c2, hlt]; try rfl) rfl ⟨.slice none 0 0, [], by rw [unhide fin], by rw [unhide fin]; rfl, Lw.Rw.nil _ _, by simp [Lp.bls], ?_⟩
    have hle := B1.size
    repeat (first | exact B1 | refine Below.setCell ?_ (by simp <;> omega) _ | refine Below.alloc ?_ (by simp <;> omega) _)
  · have hf := Lw.scope_ok hs
    have hx : (Tr.scopeOut l).1 = 0 := by simpa using hs
    have hlen := Lw.core_len hf
    obtain ⟨h0, h200, hnf, hio⟩ := Tr.fault_parts hf
    have HFI := hide (Tr.fine_of hnf)
    have HORD := hide (show (Tr.ord l (l.length - 1)).length = l.length by rw [(Tr.inOrder_iff (Tr.fine_of hnf) h0).1 hio, Tr.up_length])
    have HOPS := hide (Tr.ops_of hnf)
    have HNUM := hide (Lp.num_of hnf)
    have HVAR := hide (Lp.var_of hf hx)
    have HIO := hide hio
    have OM := hide (fun h => Lw.out_many hs h)
    have OO := hide (fun h => Lw.out_ok hs h)
    rw [hx]
    generalize (Tr.scopeOut l).2 = y at *
    clear hf hs hnf hio hx
    obtain ⟨w2, hw2⟩ : ∃ w2, w2 = (w1.alloc (.cells #[.int .i64 0, .int .i64 y] 49)).alloc (.cells #[.slice (some ⟨b, 0, none⟩) l.length l.length, .slice none 0 0, .slice none 0 0] 59) := ⟨_, rfl⟩
    have B2 : Below w1.heap.size w1 w2 := by rw [hw2]; exact ((Below.refl _ _).alloc (Nat.le_refl _) _).alloc (by simp) _
    have BB2 : Below w.heap.size w w2 := B1.trans (B2.mono B1.size)
    have P2 : Own w2 (w1.heap.size + 1) 59 [.slice (some ⟨b, 0, none⟩) l.length l.length, .slice none 0 0, .slice none 0 0] := by
      rw [hw2]
      refine ⟨_, (by rw [show w1.heap.size + 1 = (w1.alloc (.cells #[.int .i64 0, .int .i64 y] 49)).heap.size by simp]; exact heap_alloc_new _ _), rfl⟩
    have O2 := O1.below B2 O1.lt
    have hle := B1.size
    have L2 : Lp.Li w.heap.size (w1.heap.size + 1) (.slice (some ⟨b, 0, none⟩) l.length l.length) w2 (.slice none 0 0) (.slice none 0 0) [] [] [] := ⟨P2, by omega, ⟨[], rfl, Lw.Rw.nil _ _, rfl⟩, List.nodup_nil, World.ownsRow_nil _ _ _ _⟩
    have hlast : (l.length : Int) - 1 = ((l.length - 1 : Nat) : Int) := by omega
    have hordn : Tr.ordF l.length l (l.length - 1) = Tr.ord l (l.length - 1) := Tr.ordF_eq (unhide HFI) l.length (l.length - 1 + 1) (l.length - 1) (by omega) (by omega) (by omega)
    have HSAY := lay_says w.heap.size (w1.heap.size + 1) b l.length l (unhide HFI) (unhide HIO) (unhide HOPS) (unhide HNUM) (unhide HVAR) (Nat.le_refl _) hn hb l.length ((l.length : Int) - 1) [] ⟨by omega, by omega, by omega, fun t => by rw [show ((l.length : Int) - 1).toNat = l.length - 1 by omega, Tr.bound_root (unhide HFI) h0]; rfl, by simp; omega⟩ (.slice none 0 0) (.slice none 0 0) [] [] w2 _ [] L2 ((unhide HR).below BB2 hb) ⟨rfl, rfl⟩ List.nodup_nil (fun b hb => by cases hb) (by
      show 0 + 5 * (Tr.ordF l.length l ((l.length : Int) - 1).toNat).length ≤ 3000
      have h4 : (Tr.ord l (l.length - 1)).length = l.length := unhide HORD
      rw [show ((l.length : Int) - 1).toNat = l.length - 1 by omega, hordn, h4]; omega)
    have HSY := hide HSAY
    clear HSAY hordn HORD hlast L2 P2 HFI HOPS HNUM HVAR HIO
    obtain ⟨core, hcore⟩ : ∃ c, c = Lw.core l := ⟨_, rfl⟩
    rw [← hcore] at hlen OM OO
    have HCORE := hide hcore
    clear hcore
    go_wp2_with fail
    rw [← hw2]
    clear hw2
    refine (unhide HSY).mono ?_
    rintro e w3 ⟨v3, bv3, bl3, rfl, L3, f3, I3⟩
    obtain ⟨q3, hq3⟩ : ∃ q, q = ((Lw.lay (Lw.low l l.length) (.tree ((l.length : Int) - 1)) [] []).1, (Lw.lay (Lw.low l l.length) (.tree ((l.length : Int) - 1)) [] []).2.headD 0).2 := ⟨_, rfl⟩
    rw [← hq3]
    clear hq3
    have hc3 : ((Lw.lay (Lw.low l l.length) (.tree ((l.length : Int) - 1)) [] []).1, (Lw.lay (Lw.low l l.length) (.tree ((l.length : Int) - 1)) [] []).2.headD 0).1 = core := (unhide HCORE).symm
    rw [hc3] at L3
    clear hc3 HCORE HSY I3
    obtain ⟨L3o, L3l, ⟨cs, hcs, hrw, hbls⟩, L3n, L3m⟩ := L3
    have hcl : cs.length = core.length := by rw [← hcs, List.length_map]
    obtain ⟨va, vc, hv3⟩ := hrw.slice
    rw [hcl] at hv3
    subst hv3
    have O3 : Own w3 w.heap.size 26 [.int .i64 0, .int .i64 0, .slice none 0 0] := by
      obtain ⟨r, q1, q2⟩ := O2
      exact ⟨r, (f3.block w.heap.size (Array.getElem?_eq_some_iff.1 q1).1 (by omega) (by simp [Value.ownBlock]) (by simp [Value.ownBlock])).trans q1, q2⟩
    have B3 : Below w.heap.size w w3 := BB2.trans ⟨f3.os, f3.tape, f3.output, f3.size, fun k hk => f3.block k (Nat.lt_of_lt_of_le hk BB2.size) (by omega) (by simp [Value.ownBlock]) (by simp [Value.ownBlock])⟩
    have p1 := L3o.cell 1
    have c0 := O3.cell 0
    have c1 := O3.cell 1
    have c2 := O3.cell 2
    simp only [List.getElem?_cons_zero, List.getElem?_cons_succ] at p1 c0 c1 c2
    have z0 := O3.frozen 0
    have z1 := O3.frozen 1
    have z2 := O3.frozen 2
    have hle3 := B3.size
    rw [← hbls] at L3n
    by_cases hbig : 900 < core.length
    · have fin := hide ((unhide OM) hbig)
      have hbigI : (900 : Int) < (core.length : Int) := by omega
      go_wp2_with fail
      refine bodyPost_ret (v := .agg #[.int .i64 2, .int .i64 0, .slice none 0 0]) (by simp [results, Try.results8, go_sem, c0, c1, c2]; try rfl) rfl ⟨.slice none 0 0, [], by rw [unhide fin], by rw [unhide fin]; rfl, Lw.Rw.nil _ _, by simp [Lp.bls], ?_⟩
      repeat (first | exact B3 | refine Below.setCell ?_ (by simp <;> omega) _ | refine Below.alloc ?_ (by simp <;> omega) _)
    · have fin := hide ((unhide OO) hbig)
      have hbigI : ¬ (900 : Int) < (core.length : Int) := by omega
      have HRW := hide hrw
      have HCS := hide hcs
      have HO3 := hide O3
      have HND := hide L3n
      clear hrw hcs L3n hbls
      go_wp2_with fail
      refine bodyPost_ret (v := .agg #[.int .i64 0, .int .i64 0, .slice va core.length vc]) (by simp [results, Try.results8, go_sem, c0, c1, c2]; try rfl) rfl ⟨.slice va core.length vc, cs, by rw [unhide fin], by rw [unhide fin]; exact unhide HCS, ?_, unhide HND, ?_⟩
      · exact Lw.rw_set (Lw.rw_set (Lw.rw_set (unhide HRW) (unhide HO3) (by decide) (by decide)) ((unhide HO3).set 0 (.int .i64 0)) (by decide) (by decide)) (((unhide HO3).set 0 (.int .i64 0)).set 1 (.int .i64 0)) (by decide) (by decide)
      · repeat (first | exact B3 | refine Below.setCell ?_ (by simp <;> omega) _ | refine Below.alloc ?_ (by simp <;> omega) _)

end Go.Proofs.Ytmbefapdckhjdaa
