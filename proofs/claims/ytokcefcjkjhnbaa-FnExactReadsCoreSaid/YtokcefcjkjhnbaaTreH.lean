/-
  spec.l5Deep: how deep the deepest node is.
-/
import Derived.Test.YtokcefcjkjhnbaaTreQ
import Derived.Deep.RegionHeld3
namespace Go.Proofs.Ytokcefcjkjhnbaa
open Go.RowKit
set_option linter.unusedVariables false

theorem l1Max_tr (a b : Int) (w : World) : Calls Try.prog 80 #[.int .i64 a, .int .i64 b] w fun e w' => e = .returned (.int .i64 (max a b)) ∧ w' = w := by
  by_cases h : a > b
  · have e : max a b = a := by omega
    rw [e]
    go_enter Try.func80, Try.ntmps80
    go_wp2
    go_ret
    exact ⟨rfl, rfl⟩
  · have e : max a b = b := by omega
    rw [e]
    go_enter Try.func80, Try.ntmps80
    go_wp2
    go_ret
    exact ⟨rfl, rfl⟩
namespace Tr
/-- The depths of the first k, and what is in the next place so far; the rest is 0. -/
def DepsK (l : List Nd) (xs : List Value) (k : Nat) (q : Int) : Prop := xs.length = l.length ∧ (∀ j, j < k → xs[j]? = some (.int .i64 (dep l j))) ∧ (k < l.length → xs[k]? = some (.int .i64 q)) ∧ ∀ j, k < j → j < l.length → xs[j]? = some (.int .i64 0)
theorem DepsK.put {l : List Nd} {xs : List Value} {k : Nat} {q : Int} (h : DepsK l xs k q) (hk : k < l.length) (q' : Int) : DepsK l (xs.set k (.int .i64 q')) k q' := by
  obtain ⟨h1, h2, h3, h4⟩ := h
  refine ⟨by rw [List.length_set]; exact h1, fun j hj => ?_, fun _ => ?_, fun j hj hl => ?_⟩
  · rw [List.getElem?_set_ne (by omega)]; exact h2 j hj
  · rw [List.getElem?_set_self (by omega)]
  · rw [List.getElem?_set_ne (by omega)]; exact h4 j hj hl
theorem DepsK.next {l : List Nd} {xs : List Value} {k : Nat} {q : Int} (h : DepsK l xs k q) (hk : k < l.length) (hq : q = dep l k) : DepsK l xs (k + 1) 0 := by
  obtain ⟨h1, h2, h3, h4⟩ := h
  refine ⟨h1, fun j hj => ?_, fun h => h4 _ (by omega) h, fun j hj hl => h4 j (by omega) hl⟩
  by_cases e : j = k
  · subst e; rw [h3 hk, hq]
  · exact h2 j (by omega)
theorem DepsK.zero (l : List Nd) : DepsK l (madeCells #[.int .i64 0] l.length).toList 0 0 := by
  have key : ∀ j, j < l.length → (madeCells #[.int .i64 0] l.length).toList[j]? = some (.int .i64 0) := by
    intro j hj
    rw [toList_madeCells_one, List.getElem?_replicate, if_pos hj]
  exact ⟨made_length _, fun j hj => absurd hj (by omega), fun h => key 0 h, fun j _ hl => key j hl⟩
end Tr

set_option maxRecDepth 100000 in
set_option maxHeartbeats 2000000 in
theorem l5Deep_any (b : Nat) (l : List Nd) (w : World) (hrow : Nd.Row w b 0 l) (hb : b < w.heap.size) (h200 : l.length ≤ 200) (hf : Tr.Fine l) (hop : ∀ i, i < l.length → 1 ≤ (l.getD i Nd.zero).op ∧ (l.getD i Nd.zero).op ≤ 24) :
    Calls Try.prog 68 #[.slice (some ⟨b, 0, none⟩) l.length l.length] w fun e w' => e = .returned (.int .i64 (Tr.most l l.length)) ∧ Below w.heap.size w w' := by
  have HR := hide hrow
  have HF := hide hf
  have HOP := hide hop
  clear hrow hf hop
  have hmk := Tr.make_ints l.length (by omega)
  go_enter Try.func68, Try.ntmps68
  go_wp2_with fail
  go_loopg [4, 5] l.length (fun gh s4 s5 wr => ∃ (k : Nat) (m : Nat) (xs : List Value), Hid (gh = l.length - k) ∧ s5 = .int .i64 k ∧ k ≤ l.length ∧ s4 = .int .i64 m ∧ m ≤ 201 ∧ Hid (m = Tr.most l k) ∧ Own wr w.heap.size 2 xs ∧ Hid (Tr.DepsK l xs k 0) ∧ Below w.heap.size w wr)
  case atStart => exact ⟨0, 0, _, rfl, rfl, by omega, rfl, by omega, rfl, ⟨_, heap_alloc_new _ _, rfl⟩, Tr.DepsK.zero l, (Below.refl _ _).alloc (Nat.le_refl _) _⟩
  case round =>
    clear hmk
    obtain ⟨k, m, xs, hg, rfl, hk, rfl, hm, hmd, hown, hdeps, hbel⟩ := hrel
    by_cases hlt : k < l.length
    · have hltI : (k : Int) < (l.length : Int) := by omega
      have hopk := (unhide HOP) k hlt
      have hkl := Tr.kids_le (l.getD k Nd.zero).op
      have hall := hide (Tr.depK_all (unhide HF) k hlt)
      have hdle := hide (Tr.dep_le (unhide HF) k hlt)
      have hfin := hide (fun j hj => Tr.kid_fine (unhide HF) k hlt j hj)
      have hsucc := hide (fun j hj => Tr.depK_succ l (l.getD k Nd.zero) j hj)
      have hz := hide (Tr.depK_zero l (l.getD k Nd.zero))
      have hrw := hide (fun wq (hq : Below w.heap.size w wq) => ((unhide HR).below hq hb) k hlt)
      have HK := hide (fun wq => l5Kids_any (l.getD k Nd.zero).op wq hopk.1 hopk.2)
      have HKD := hide (fun j hj wq => l5Kid_any (l.getD k Nd.zero) j hj wq)
      clear hopk
      generalize l.getD k Nd.zero = n at *
      obtain ⟨ks, hks⟩ : ∃ ks, ks = Tr.kids n.op := ⟨_, rfl⟩
      rw [← hks] at hkl hall hfin hsucc HK
      clear hks
      go_wp2_with fail
      go_loopg [6] ks (fun gh s6 w2 => ∃ (j : Nat) (q : Nat) (ys : List Value), Hid (gh = ks - j) ∧ s6 = .int .i64 j ∧ j ≤ ks ∧ q ≤ 201 ∧ Hid (q = Tr.depK l n j) ∧ Own w2 w.heap.size 2 ys ∧ Hid (Tr.DepsK l ys k q) ∧ Below w.heap.size w w2)
      case atStart => exact ⟨0, 0, xs, rfl, rfl, by omega, by omega, (unhide hz).symm, hown, hdeps.out, hbel⟩
      case round =>
        obtain ⟨j, q, ys, hgj, rfl, hj, hq, hqd, hown2, hdeps2, hbel2⟩ := hrel
        obtain ⟨f0, f1, f2, f3, f4, f5⟩ := (unhide hrw) _ hbel2
        simp only [Nat.zero_add] at f0 f1 f2 f3 f4 f5
        by_cases hjl : j < ks
        · have hjI : (j : Int) < (ks : Int) := by omega
          have hb1 := (unhide hfin) j hjl
          have hs1 := hide ((unhide hsucc) j hjl)
          have HKJ := hide (fun wq => (unhide HKD) j (by omega) wq)
          obtain ⟨x, hx⟩ : ∃ x : Nat, Tr.kidAt n j = x := ⟨(Tr.kidAt n j).toNat, by omega⟩
          rw [hx] at hb1 hs1 HKJ
          have hxk : x < k := by omega
          have hxI : (x : Int) < (l.length : Int) := by omega
          have hx0 : (0 : Int) ≤ (x : Int) := by omega
          have hk0 : (0 : Int) ≤ (k : Int) := by omega
          have d1 := (hown2.cell x).trans (hdeps2.out.2.1 x hxk)
          have d2 := (hown2.cell k).trans (hdeps2.out.2.2.1 hlt)
          have z2 := hown2.frozen k
          have hdl := Tr.dep_le (unhide HF) x (by omega)
          simp only [Int.toNat_natCast] at hs1
          have hput := hide (fun q' => hdeps2.out.put hlt q')
          generalize Tr.dep l x = dx at d1 hs1 hdl
          clear hx hb1 hjl
          go_wp2_with fail
          refine ((unhide HK) _).mono ?_
          rintro e w3 ⟨rfl, hw3⟩
          subst w3
          go_wp2_with fail
          have hmx : max (q : Int) (dx : Int) = ((max q dx : Nat) : Int) := by omega
          have hput2 : Hid (Tr.DepsK l (ys.set k (.int .i64 (max (q : Int) (dx : Int)))) k ((max q dx : Nat) : Int)) := by
            show Tr.DepsK _ _ _ _
            rw [hmx]; exact hdeps2.out.put hlt _
          clear hmx
          have hbb : b < wr.heap.size := Nat.lt_of_lt_of_le hb hbel2.size
          have hwl : w.heap.size < wr.heap.size := hown2.lt
          go_region_with (first | (go_at_call 97; refine ((unhide HKJ) _).mono ?_; rintro e w7 ⟨rfl, hb7⟩; have hO7 := hown2.drew.below hb7 hown2.drew.lt; have e1 := (hb7.cell (by exact hwl)).trans d1; have e2 := (hb7.cell (by exact hwl)).trans d2; have ez := hO7.frozen k) | (go_at_call 80; refine (l1Max_tr _ _ _).mono ?_; rintro e w8 ⟨rfl, hw8⟩; subst w8))
          all_goals
            go_wp2_with fail
            go_roundg (ks - (j + 1))
            case rel => exact ⟨j + 1, max q dx, _, rfl, by go_num, by omega, by omega, by (show _ = _; rw [unhide hs1, ← hqd.out]), hO7.set k _, unhide hput2, (hbel2.drew.trans (hb7.mono (by exact hbel2.size))).setCell (Nat.le_refl _) _⟩
            case measure => have := hgj.out; omega
        · have hje : j = ks := by omega
          have hdq : (q : Int) + 1 = Tr.dep l k := by rw [unhide hall, hqd.out, hje]; omega
          have hq1 : Hid (Tr.most l (k + 1) = max m (q + 1)) := by
            show _ = _
            rw [Tr.most, ← hmd.out]
            omega
          have hdk : (q : Int) + 1 ≤ 201 := by have := unhide hdle; omega
          have hq201 : q + 1 ≤ 201 := by omega
          have d2 := (hown2.cell k).trans (hdeps2.out.2.2.1 hlt)
          have z2 := hown2.frozen k
          have hnx := hide ((hdeps2.out.put hlt ((q : Int) + 1)).next hlt hdq)
          have o3 := hown2.set k (.int .i64 ((q : Int) + 1))
          have e3 := (o3.cell k).trans (List.getElem?_set_self (by rw [hdeps2.out.1]; exact hlt))
          have hmx : max (m : Int) ((q : Int) + 1) = ((max m (q + 1) : Nat) : Int) := by omega
          have HMX := hide hmx
          clear hje hdq hmx
          have hjN : ¬ (j : Int) < (ks : Int) := by omega
          have hjD : decide ((j : Int) < (ks : Int)) = false := decide_eq_false hjN
          go_wp2_with fail
          refine ((unhide HK) _).mono ?_
          rintro e w3 ⟨rfl, hw3⟩
          subst w3
          go_wp2_with fail
          refine (l1Max_tr _ _ _).mono ?_
          rintro e w4 ⟨rfl, hw4⟩
          subst w4
          rw [unhide HMX]
          go_wp2_with fail
          go_roundg (l.length - (k + 1))
          case rel => exact ⟨k + 1, max m (q + 1), _, rfl, by go_num, by omega, rfl, by omega, (hq1.out).symm, o3, unhide hnx, hbel2.setCell (Nat.le_refl _) _⟩
          case measure => have := hg.out; omega
    · have hke : k = l.length := by omega
      have fin := hide (show m = Tr.most l l.length by rw [hmd.out, hke])
      clear hke
      go_wp2_with fail
      go_ret
      exact ⟨ret_int (by rw [unhide fin]), hbel⟩

end Go.Proofs.Ytokcefcjkjhnbaa
