/-
  The plain mathematics of values that are made of parts: a head, and parts without a fault one behind the other, is a value without a fault. No word of the program is used here.
  impl.layArray and spec.l1Array of lists that lie anywhere.
  spec.l1Number, spec.l1String, impl.NumberValue, impl.StringValue: makers of one cell.
  A list of parts to which one more is appended; an answer whose slice was there already.
  The parts of a value are less deep. No word of the program is used here.
-/
import Derived.Test.YtikeffckhklhbaaGreatDoorX20
import Derived.Test.YtikeffckhklhbaaGreatDoorX21
namespace Go.Proofs.YtikeffckhklhbaaGreatDoor
open Go.RowKit
namespace M

theorem kids_sup {P v : List Cl} {a e : Nat} (hs : Sub P v a e) (f : Nat) (ih : ∀ p e1 d1, p < P.length → walk P f p = some (e1, d1) → walk v f (a + p) = some (a + e1, d1)) (c c' : Cl) (hc : c'.kind = c.kind) (m : Nat) :
    ∀ k p d last e1 d1, 0 < p → p ≤ P.length → d ≤ f → kids (walk P f) P c' m k p d last = some (e1, d1) → kids (walk v f) v c m k (a + p) d last = some (a + e1, d1) := by
  induction m with
  | zero =>
    intro k p d last e1 d1 hp _ _ h
    simp only [kids, Option.some.injEq, Prod.mk.injEq] at h ⊢
    obtain ⟨rfl, rfl⟩ := h
    exact ⟨rfl, rfl⟩
  | succ m ihm =>
    intro k p d last e1 d1 hp hpl hd h
    simp only [kids] at h ⊢
    split at h
    · cases h
    rename_i hb
    have hlt : p < P.length := by
      by_cases hx : p < P.length
      · exact hx
      · exact absurd (show bad P c' k p last = true by unfold bad; rw [if_neg hx]) hb
    have hltv : a + p < v.length := by have := hs.len; have := hs.top; omega
    split at h
    · cases h
    · rename_i e2 d2 hr
      have hw := walk_bd P f p hlt _ hr
      simp only at hw
      have hsame := hs.same p hp hlt
      have hbv : bad v c k (a + p) last = false := by
        have hb' : bad P c' k p last = false := by cases hx : bad P c' k p last with | true => exact absurd hx hb | false => rfl
        unfold bad at hb' ⊢
        rw [if_pos hlt, hsame, hc] at hb'
        rw [if_pos hltv]
        exact hb'
      rw [if_neg (by rw [hbv]; simp), ih p e2 d2 hlt hr]
      simp only
      rw [← hsame]
      exact ihm (k + 1) e2 (max d d2) (P.getD p zero).key e1 d1 (by omega) hw.2.1 (by omega) h

theorem walk_sup {P v : List Cl} {a e : Nat} (hs : Sub P v a e) (f : Nat) : ∀ p e1 d1, p < P.length → walk P f p = some (e1, d1) → walk v f (a + p) = some (a + e1, d1) := by
  induction f with
  | zero => intro p e1 d1 _ h; cases h
  | succ f ih =>
    intro p e1 d1 hp h
    simp only [walk, Option.map_eq_some_iff] at h ⊢
    obtain ⟨⟨x, y⟩, h1, h2⟩ := h
    simp only [Prod.mk.injEq] at h2
    obtain ⟨rfl, rfl⟩ := h2
    refine ⟨(a + x, y), ?_, rfl⟩
    rw [← hs.n p hp]
    have := kids_sup hs f ih (v.getD (a + p) zero) (P.getD p zero) (hs.kind p hp) _ 0 (p + 1) 0 ByteArray.empty x y (by omega) (by omega) (by omega) h1
    rw [show a + (p + 1) = a + p + 1 from by omega] at this
    exact this

/-- The key ahead of the k-th part. -/
def lastK (v : List Cl) (q : Nat → Nat) (k : Nat) : ByteArray := if k = 0 then ByteArray.empty else (v.getD (q (k - 1)) zero).key

theorem kids_made (v : List Cl) (c : Cl) (f D n : Nat) (q : Nat → Nat) (hq : ∀ j, j < n → ∃ d, walk v f (q j) = some (q (j + 1), d) ∧ d ≤ D) (hb : ∀ j, j < n → bad v c j (q j) (lastK v q j) = false) (m : Nat) :
    ∀ k d, k + m = n → d ≤ D → ∃ d', kids (walk v f) v c m k (q k) d (lastK v q k) = some (q n, d') ∧ d' ≤ D := by
  induction m with
  | zero => intro k d hk hd; exact ⟨d, by rw [kids, show k = n from by omega], hd⟩
  | succ m ih =>
    intro k d hk hd
    obtain ⟨d1, h1, h2⟩ := hq k (by omega)
    rw [kids, if_neg (by rw [hb k (by omega)]; simp), h1]
    simp only
    have := ih (k + 1) (max d d1) (by omega) (by omega)
    unfold lastK at this
    rw [if_neg (by omega), Nat.add_sub_cancel] at this
    exact this

end M

theorem code_setkey {c : M.Cl} {k : ByteArray} (h : M.cellCode c = 0) (hk : M.textOk k = true) : M.cellCode { c with key := k } = 0 := by
  unfold M.cellCode at h ⊢
  simp only at h ⊢
  split at h
  · cases h
  rename_i h1
  rw [if_neg h1]
  split at h
  · cases h
  rename_i h2
  rw [if_neg h2]
  split at h
  · cases h
  rename_i h3
  rw [if_neg h3]
  split at h
  · rename_i h4
    rw [if_pos ⟨h4.1, hk⟩]
  · cases h

theorem tot_flatten (qs : List (List M.Cl)) (k : Nat) : ((qs.take k).flatten).length = tot qs k := by simp [tot, List.length_flatten]

theorem flatten_at (qs : List (List M.Cl)) (j : Nat) (hj : j < qs.length) : ∃ rest, qs.flatten = (qs.take j).flatten ++ qs.getD j [] ++ rest := by
  refine ⟨(qs.drop (j + 1)).flatten, ?_⟩
  have h1 : qs.getD j [] = qs[j] := by rw [List.getD_eq_getElem?_getD, List.getElem?_eq_getElem hj]; rfl
  rw [h1, List.append_assoc]
  have : qs[j] ++ (qs.drop (j + 1)).flatten = (qs.drop j).flatten := by rw [List.drop_eq_getElem_cons hj]; rfl
  rw [this, ← List.flatten_append, List.take_append_drop]

/-- The p-th cell of the j-th part. -/
theorem made_at (h : M.Cl) (qs : List (List M.Cl)) (j p : Nat) (hj : j < qs.length) (hp : p < (qs.getD j []).length) : (h :: qs.flatten).getD (tot qs j + 1 + p) M.zero = (qs.getD j []).getD p M.zero := by
  obtain ⟨rest, e⟩ := flatten_at qs j hj
  rw [show tot qs j + 1 + p = (tot qs j + p) + 1 from by omega, List.getD_cons_succ, e]
  have hl := tot_flatten qs j
  generalize qs.getD j [] = q at *
  rw [List.getD_eq_getElem?_getD, List.getD_eq_getElem?_getD, List.getElem?_append_left (by rw [List.length_append]; omega), List.getElem?_append_right (by omega), hl, Nat.add_sub_cancel_left]

theorem made_length (h : M.Cl) (qs : List (List M.Cl)) : (h :: qs.flatten).length = tot qs qs.length + 1 := by
  rw [List.length_cons, ← tot_flatten qs qs.length, List.take_length]

theorem mem_part {qs : List (List M.Cl)} {c : M.Cl} (hc : c ∈ qs.flatten) : ∃ j, j < qs.length ∧ c ∈ qs.getD j [] := by
  obtain ⟨l, h1, h2⟩ := List.mem_flatten.1 hc
  obtain ⟨j, h3, rfl⟩ := List.getElem_of_mem h1
  exact ⟨j, h3, by rw [List.getD_eq_getElem?_getD, List.getElem?_eq_getElem h3]; exact h2⟩

theorem first_all {l : List M.Cl} (h : ∀ c ∈ l, M.cellCode c = 0) : M.firstCode l = 0 := by
  induction l with
  | nil => rfl
  | cons c r ih => rw [M.firstCode, if_pos (h c (by simp))]; exact ih fun x hx => h x (by simp [hx])

/-- A part that was laid: a value without a fault, with a key at its first cell. -/
def Laid (q : List M.Cl) : Prop := ∃ p k d, q = setKey p k ∧ M.valueFault p = 0 ∧ M.textOk k = true ∧ M.walk p p.length 0 = some (p.length, d) ∧ d ≤ 19

theorem made_ok (h : M.Cl) (qs : List (List M.Cl)) (hcode : M.cellCode h = 0) (hkey : h.key.toList = []) (hn : h.n = qs.length) (hlen : tot qs qs.length + 1 ≤ 200) (hq : ∀ j, j < qs.length → Laid (qs.getD j []))
    (h5 : h.kind = 5 → ∀ j, j < qs.length → ((qs.getD j []).getD 0 M.zero).key.toList = [])
    (h6 : h.kind = 6 → ∀ j, j + 1 < qs.length → M.keyLe ((qs.getD (j + 1) []).getD 0 M.zero).key ((qs.getD j []).getD 0 M.zero).key = false) : M.valueFault (h :: qs.flatten) = 0 := by
  have hL := made_length h qs
  have hpos : ∀ j, j < qs.length → 0 < (qs.getD j []).length := fun j hj => by
    obtain ⟨p, k, d, e, hv, _⟩ := hq j hj
    rw [e, setKey_length]; exact (fault_len hv).1
  have hmono : ∀ j, j < qs.length → tot qs (j + 1) ≤ tot qs qs.length := fun j hj => tot_le qs qs.length (j + 1) (by omega) (Nat.le_refl _)
  have hfc : M.firstCode (h :: qs.flatten) = 0 := by
    refine first_all fun c hc => ?_
    rcases List.mem_cons.1 hc with rfl | hc
    · exact hcode
    · obtain ⟨j, hj, hm⟩ := mem_part hc
      obtain ⟨p, k, d, e, hv, ht, _⟩ := hq j hj
      rw [e] at hm
      have hz := M.first_zero (M.fault_zero hv).2.2.1
      cases p with
      | nil => simp [setKey] at hm
      | cons c0 r =>
        simp only [setKey, List.mem_cons] at hm
        rcases hm with rfl | hm
        · exact code_setkey (hz c0 (by simp)) ht
        · exact hz c (by simp [hm])
  obtain ⟨f, hf⟩ : ∃ f, (h :: qs.flatten).length = f + 1 := ⟨tot qs qs.length, hL⟩
  have hwalk : ∀ j, j < qs.length → ∃ d, M.walk (h :: qs.flatten) f (tot qs j + 1) = some (tot qs (j + 1) + 1, d) ∧ d ≤ 19 := by
    intro j hj
    obtain ⟨p, k, d, e, hv, ht, hw, hd⟩ := hq j hj
    have hpl := (fault_len hv).1
    have hql : (qs.getD j []).length = p.length := by rw [e, setKey_length]
    have hts := tot_succ qs j hj
    have hm := hmono j hj
    have hs : M.Sub p (h :: qs.flatten) (tot qs j + 1) (tot qs (j + 1) + 1) := by
      have hat : ∀ i, i < p.length → (h :: qs.flatten).getD (tot qs j + 1 + i) M.zero = (setKey p k).getD i M.zero := fun i hi => by rw [made_at h qs j i hj (by omega), e]
      refine ⟨by omega, by omega, by omega, ?_, ?_, ?_⟩
      · intro i hi
        rw [hat i hi]
        by_cases h0 : i = 0
        · subst h0; rw [setKey_zero p k (by intro e; rw [e] at hpl; simp at hpl)]
        · rw [setKey_getD p k i (by omega)]
      · intro i hi
        rw [hat i hi]
        by_cases h0 : i = 0
        · subst h0; rw [setKey_zero p k (by intro e; rw [e] at hpl; simp at hpl)]
        · rw [setKey_getD p k i (by omega)]
      · intro i h0 hi
        rw [hat i hi, setKey_getD p k i h0]
    have hw2 := M.walk_le p p.length f (by omega) 0 _ hw
    have := M.walk_sup hs f 0 _ _ (by omega) hw2
    rw [Nat.add_zero, show tot qs j + 1 + p.length = tot qs (j + 1) + 1 from by omega] at this
    exact ⟨d, this, hd⟩
  have hfirst : ∀ j, j < qs.length → (h :: qs.flatten).getD (tot qs j + 1) M.zero = (qs.getD j []).getD 0 M.zero := fun j hj => made_at h qs j 0 hj (hpos j hj)
  have hbad : ∀ j, j < qs.length → M.bad (h :: qs.flatten) h j (tot qs j + 1) (M.lastK (h :: qs.flatten) (fun j => tot qs j + 1) j) = false := by
    intro j hj
    have hm := hmono j hj
    have hts := tot_succ qs j hj
    have hp0 := hpos j hj
    unfold M.bad
    rw [if_pos (by omega), hfirst j hj]
    rw [Bool.or_eq_false_iff]
    refine ⟨?_, ?_⟩
    · by_cases hk : h.kind = 5
      · rw [h5 hk j hj]; simp
      · simp [hk]
    · by_cases hk : h.kind = 6
      · by_cases h0 : 0 < j
        · have h7 := h6 hk (j - 1) (by omega)
          rw [show j - 1 + 1 = j from by omega] at h7
          unfold M.lastK
          rw [if_neg (by omega), hfirst (j - 1) (by omega), h7]
          simp
        · simp [h0]
      · simp [hk]
  obtain ⟨d', hk, hd'⟩ := M.kids_made (h :: qs.flatten) h f 19 qs.length (fun j => tot qs j + 1) hwalk hbad qs.length 0 0 (by omega) (by omega)
  have hw : M.walk (h :: qs.flatten) (h :: qs.flatten).length 0 = some ((h :: qs.flatten).length, d' + 1) := by
    rw [hf, M.walk]
    simp only [List.getD_cons_zero]
    rw [hn, Int.toNat_natCast]
    have h0 : M.lastK (h :: qs.flatten) (fun j => tot qs j + 1) 0 = ByteArray.empty := rfl
    rw [h0] at hk
    simp only [tot_zero, Nat.zero_add] at hk
    simp only [Nat.zero_add]
    rw [hk]
    simp only [Option.map_some]
    rw [← hL, hf]
  unfold M.valueFault
  rw [if_neg (by omega), if_neg (by simp [hfc]), hw]
  simp only
  rw [if_neg, if_neg (by omega)]
  intro hx
  rcases hx with hx | hx
  · exact hx rfl
  · exact hx (by rw [List.getD_cons_zero]; exact hkey)

end Go.Proofs.YtikeffckhklhbaaGreatDoor

namespace Go.Proofs.YtikeffckhklhbaaGreatDoor
open Go.RowKit
set_option linter.unusedVariables false

end Go.Proofs.YtikeffckhklhbaaGreatDoor

namespace Go.Proofs.YtikeffckhklhbaaGreatDoor
open Go.RowKit
set_option linter.unusedVariables false

def numOut (n : Int) : Int × List M.Cl := if n < -1000000000000000 ∨ 1000000000000000 < n then (3, []) else (0, [⟨3, n, ByteArray.empty, ByteArray.empty, 0⟩])
end Go.Proofs.YtikeffckhklhbaaGreatDoor

namespace Go.Proofs.YtikeffckhklhbaaGreatDoor
open Go.RowKit
set_option linter.unusedVariables false

theorem SS.snoc {w2 w3 : World} {o : Obj} {B k : Nat} {s v' sp : Value} {ps : List (List M.Cl)} {p : List M.Cl} {ss : List Value} (hk : ps.length = k) (hl : ss.length = ps.length) (hown : w2.ownsRow B 24 1 s ps.length ss) (hres : ∀ i, i < ps.length → Res w2 B (ss.getD i (.slice none 0 0)) (ps.getD i [])) (hp : Res w2 B sp p) (hg : (w2.alloc o).grownBy w3 s.ownBlock) (ho : w3.ownsRow B 24 1 v' (k + 1) (ss ++ [sp])) : SS w3 B v' (ps ++ [p]) := by
  subst hk
  have keep : ∀ (r : Value) (l : List M.Cl), Res w2 B r l → Res w3 B r l := fun r l h => grown_res (hown.alloc o) hg (h.alloc o) (by decide)
  refine ⟨ss ++ [sp], by simp [hl], by simpa using ho, fun i hi => ?_⟩
  rw [List.length_append] at hi
  simp only [List.length_cons, List.length_nil] at hi
  by_cases e : i < ps.length
  · rw [List.getD_eq_getElem?_getD, List.getElem?_append_left (by omega), ← List.getD_eq_getElem?_getD, List.getD_eq_getElem?_getD (l := ps ++ [p]), List.getElem?_append_left e, ← List.getD_eq_getElem?_getD]
    exact keep _ _ (hres i e)
  · obtain rfl : i = ps.length := by omega
    rw [List.getD_eq_getElem?_getD, List.getElem?_append_right (by omega), hl, Nat.sub_self, List.getD_eq_getElem?_getD (l := ps ++ [p]), List.getElem?_append_right (Nat.le_refl _), Nat.sub_self]
    exact keep _ _ hp
theorem SS.nil (w : World) (B : Nat) : SS w B (.slice none 0 0) [] := ⟨[], rfl, World.ownsRow_nil _ _ _ _, fun i hi => by simp at hi⟩
theorem SS.empty (w : World) (B b : Nat) (hb : b = w.heap.size) (hB : B ≤ b) : SS (w.alloc (.cells #[] 24)) B (.slice (some ⟨b, 0, none⟩) 0 0) [] := by
  subst hb
  exact ⟨[], rfl, ⟨rfl, .inr ⟨w.heap.size, 0, #[], rfl, hB, heap_alloc_new _ _, Nat.le_refl _, by simp [maxLen], rfl, rfl⟩⟩, fun i hi => by simp at hi⟩
theorem one_plain' (a : Option Addr) (n k : Nat) : ∀ u ∈ ([Value.slice a n k] : List Value), u.oneCell' = true := by
  intro u hu; simp only [List.mem_cons, List.not_mem_nil, or_false] at hu; subst hu; rfl
end Go.Proofs.YtikeffckhklhbaaGreatDoor

namespace Go.Proofs.YtikeffckhklhbaaGreatDoor
open Go.RowKit
set_option linter.unusedVariables false
set_option linter.unusedSimpArgs false
namespace Dq
theorem places_getD (v : List M.Cl) (a k : Nat) (hk : k < M.arity v a) : (M.places v a)[k]? = some (M.iter v k (a + 1)) := by
  simp [M.places, hk]
theorem subs_getD (v : List M.Cl) (a k : Nat) (hk : k < M.arity v a) : (subs v a).getD k [] = part v (M.iter v k (a + 1)) := by
  rw [List.getD_eq_getElem?_getD, subs, List.getElem?_map, places_getD v a k hk]; rfl
theorem iter_le {v : List M.Cl} (hv : M.valueFault v = 0) {k : Nat} (hk : k ≤ M.arity v 0) : k + 1 ≤ M.iter v k 1 ∧ M.iter v k 1 ≤ v.length := by
  have hl := (M.fault_zero hv).1
  obtain ⟨h1, h2, h3, _⟩ := M.places_in hv 0 (by omega)
  simp only [Nat.zero_add] at h1 h2
  induction k with
  | zero => exact ⟨Nat.le_refl _, by show 1 ≤ _; omega⟩
  | succ k ih =>
    obtain ⟨i1, i2⟩ := ih (by omega)
    have h5 := h1 k (by omega)
    have hg := end_gt hv (a := M.iter v k 1) (by omega)
    rw [M.iter_next]
    exact ⟨by omega, by omega⟩
theorem part_lt {v : List M.Cl} (hv : M.valueFault v = 0) {k : Nat} (hk : k < M.arity v 0) : M.iter v k 1 < v.length ∧ M.iter v k 1 + (part v (M.iter v k 1)).length = M.iter v (k + 1) 1 ∧ M.valueFault (part v (M.iter v k 1)) = 0 := by
  have hl := (M.fault_zero hv).1
  obtain ⟨h1, h2, h3, _⟩ := M.places_in hv 0 (by omega)
  simp only [Nat.zero_add] at h1
  have h5 := h1 k hk
  have hlt : M.iter v k 1 < v.length := by omega
  have hg := end_gt hv hlt
  have hp := part_len hv hlt
  refine ⟨hlt, ?_, part_valid hv hlt⟩
  rw [M.iter_next]
  omega
theorem subs_deep {v : List M.Cl} (hv : M.valueFault v = 0) {d0 : Nat} (hw0 : M.walk v v.length 0 = some (v.length, d0)) {j : Nat} (hj : j < M.arity v 0) : ∃ d, M.walk (part v (M.iter v j 1)) (part v (M.iter v j 1)).length 0 = some ((part v (M.iter v j 1)).length, d) ∧ d + 1 ≤ d0 := by
  have hl1 := (M.fault_zero hv).1
  have hl2 := (M.fault_zero hv).2.1
  obtain ⟨h1, h2, h3, _⟩ := M.places_in hv 0 (by omega)
  obtain ⟨ha1, ha2⟩ := h1 j hj
  simp only [Nat.zero_add] at ha1 ha2
  obtain ⟨f, hf⟩ : ∃ f, v.length = f + 1 := ⟨v.length - 1, by omega⟩
  have hw0' := hw0
  rw [hf] at hw0'
  simp only [M.walk, Option.map_eq_some_iff] at hw0'
  obtain ⟨⟨e1, d1⟩, h4, h5⟩ := hw0'
  simp only [Prod.mk.injEq] at h5
  obtain ⟨h5a, h5b⟩ := h5
  have hkd := (M.kids_depth v _ f (M.walk_depth v f) _ _ _ _ _ _ _ h4 (by omega) (by omega)).2 (M.iter v j 1) (by omega) (by omega)
  obtain ⟨e2, d2, hw2, hd2⟩ := hkd
  have hav : M.iter v j 1 < v.length := by omega
  have hw3 := M.walk_le v f v.length (by omega) _ _ hw2
  have he : M.endOf v (M.iter v j 1) = e2 := M.endOf_of (Nat.le_refl _) hw3
  have hg := end_gt hv hav
  have hpl := part_len hv hav
  have hs := M.walk_sub (part_sub hv hav) v.length 0 e2 d2 (by omega) hw3 (by omega)
  have hw := M.walk_less (part v (M.iter v j 1)) v.length (part v (M.iter v j 1)).length 0 _ d2 (by omega) hs (by omega)
  refine ⟨d2, ?_, by omega⟩
  rw [hw, hpl, he]
theorem leaf_one {v : List M.Cl} (hv : M.valueFault v = 0) {d0 : Nat} (hw0 : M.walk v v.length 0 = some (v.length, d0)) (hn : (v.getD 0 M.zero).n = 0) : v.length = 1 ∧ d0 = 1 := by
  have hl1 := (M.fault_zero hv).1
  obtain ⟨f, hf⟩ : ∃ f, v.length = f + 1 := ⟨v.length - 1, by omega⟩
  rw [hf] at hw0
  rw [M.walk, hn] at hw0
  simp [M.kids] at hw0
  omega
end Dq
end Go.Proofs.YtikeffckhklhbaaGreatDoor
