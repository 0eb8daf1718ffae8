/-
  Answers that tell a code and a value, and the small makers of them.
  The plain mathematics of values that are made of parts: a head, and parts without a fault one behind the other, is a value without a fault. No word of the program is used here.
  impl.layArray and spec.l1Array of lists that lie anywhere.
  spec.l1Number, spec.l1String, impl.NumberValue, impl.StringValue: makers of one cell.
  A list of parts to which one more is appended; an answer whose slice was there already.
  An answer that holds lists of cells: what the laws' helpers find, mark and find again in it.
  spec.EachOf and impl.EachOf.
-/
import Derived.Test.YtcglddahphkcpaaGreatDoorU04
import Derived.Test.YtcglddahphkcpaaGreatDoorU10
import Derived.Test.YtcglddahphkcpaaGreatDoorU16
import Derived.Deep.RegionHeld
import Derived.Deep.Slices
namespace Go.Proofs.YtcglddahphkcpaaGreatDoor
open Go.RowKit
set_option linter.unusedVariables false

/-- The call told the code and the cells of out, these in memory of their own. -/
def Ans (w : World) (out : Int × List M.Cl) (e : Ending) (w' : World) : Prop := ∃ s, e = .returned (.agg #[.int .i64 out.1, s]) ∧ Res w' w.heap.size s out.2 ∧ Below w.heap.size w w'
theorem ans_of {w w' : World} {out : Int × List M.Cl} {c : Int} {s : Value} {l : List M.Cl} (fin : out = (c, l)) (hr : Res w' w.heap.size s l) (hb : Below w.heap.size w w') : Ans w out (.returned (.agg #[.int .i64 c, s])) w' := by
  subst fin; exact ⟨s, rfl, hr, hb⟩
theorem resNil (w : World) (B : Nat) : Res w B (.slice none 0 0) [] := ⟨by simp, .inl ⟨rfl, rfl⟩⟩
/-- What was told is stored into the call's own answer. -/
theorem Ans.store {w w1 w2 : World} {s : Value} {l : List M.Cl} (hr : Res w2 w1.heap.size s l) (B1 : Below w.heap.size w w1) (hsz : w.heap.size < w1.heap.size) (hb : Below w1.heap.size w1 w2) (x y : Value) :
    Res ((w2.setCell ⟨w.heap.size, 0, none⟩ x).setCell ⟨w.heap.size, 1, none⟩ y) w.heap.size s l ∧ Below w.heap.size w ((w2.setCell ⟨w.heap.size, 0, none⟩ x).setCell ⟨w.heap.size, 1, none⟩ y) := by
  have hne : ∀ b, s.ownBlock = some b → b ≠ w.heap.size := fun b h => by have := hr.base b h; omega
  exact ⟨((hr.mono B1.size).setOther _ _ hne).setOther _ _ hne, ((B1.trans (hb.mono B1.size)).setCell (Nat.le_refl _) _).setCell (Nat.le_refl _) _⟩
theorem store_below {w w1 : World} (B1 : Below w.heap.size w w1) (x y : Value) : Below w.heap.size w ((w1.setCell ⟨w.heap.size, 0, none⟩ x).setCell ⟨w.heap.size, 1, none⟩ y) := (B1.setCell (Nat.le_refl _) _).setCell (Nat.le_refl _) _

/-- A row of one cell, laid by a literal. -/
theorem one_cell (w : World) (B b : Nat) (c : M.Cl) (hb : b = w.heap.size) (hB : B ≤ w.heap.size) : Res (w.alloc (.cells #[.int .i64 c.kind, .int .i64 c.num, .string c.text, .string c.key, .int .i64 c.n] 111)) B (.slice (some ⟨b, 0, none⟩) 1 1) [c] := by
  subst hb
  refine ⟨by simp, .inr ⟨w.heap.size, 1, rfl, hB, by simp, ⟨_, ⟨_, heap_alloc_new _ _, rfl⟩, by simp, fun i hi => ?_⟩⟩⟩
  simp only [List.length_cons, List.length_nil] at hi
  obtain rfl : i = 0 := by omega
  exact ⟨rfl, rfl, rfl, rfl, rfl⟩

set_option maxHeartbeats 400000 in
theorem nullResult_any (w : World) : Calls Tryz.prog 38 #[] w (Ans w (0, [M.zero])) := by
  go_enter Tryz.func38, Tryz.ntmps38
  go_wp2_with fail
  refine bodyPost_ret (v := .agg #[.int .i64 0, .slice (some ⟨w.heap.size + 1, 0, none⟩) 1 1]) (by simp [results, Tryz.results38, go_sem]) rfl (ans_of rfl ?_ ?_)
  · exact one_cell (w.alloc _) w.heap.size (w.heap.size + 1) M.zero (by simp) (by simp)
  · exact ((Below.refl _ _).alloc (Nat.le_refl _) _).alloc (by simp) _

end Go.Proofs.YtcglddahphkcpaaGreatDoor

namespace Go.Proofs.YtcglddahphkcpaaGreatDoor
open Go.RowKit
namespace M

theorem kids_sup {P v : List Cl} {a e : Nat} (hs : Sub P v a e) (f : Nat) (ih : ∀ p e1 d1, p < P.length → walk P f p = some (e1, d1) → walk v f (a + p) = some (a + e1, d1)) (c c' : Cl) (hc : c'.kind = c.kind) (m : Nat) :
    ∀ k p d last e1 d1, 0 < p → p ≤ P.length → d ≤ f → kids (walk P f) P c' m k p d last = some (e1, d1) → kids (walk v f) v c m k (a + p) d last = some (a + e1, d1) := by
  induction m with
  | zero =>
    intro k p d last e1 d1 hp _ _ h
    simp only [kids, Option.some.injEq, Prod.mk.injEq] at h ⊢
    obtain ⟨rfl, rfl⟩ := h
    exact ⟨rfl, rfl⟩
  | succ m ihm =>
    intro k p d last e1 d1 hp hpl hd h
    simp only [kids] at h ⊢
    split at h
    · cases h
    rename_i hb
    have hlt : p < P.length := by
      by_cases hx : p < P.length
      · exact hx
      · exact absurd (show bad P c' k p last = true by unfold bad; rw [if_neg hx]) hb
    have hltv : a + p < v.length := by have := hs.len; have := hs.top; omega
    split at h
    · cases h
    · rename_i e2 d2 hr
      have hw := walk_bd P f p hlt _ hr
      simp only at hw
      have hsame := hs.same p hp hlt
      have hbv : bad v c k (a + p) last = false := by
        have hb' : bad P c' k p last = false := by cases hx : bad P c' k p last with | true => exact absurd hx hb | false => rfl
        unfold bad at hb' ⊢
        rw [if_pos hlt, hsame, hc] at hb'
        rw [if_pos hltv]
        exact hb'
      rw [if_neg (by rw [hbv]; simp), ih p e2 d2 hlt hr]
      simp only
      rw [← hsame]
      exact ihm (k + 1) e2 (max d d2) (P.getD p zero).key e1 d1 (by omega) hw.2.1 (by omega) h

theorem walk_sup {P v : List Cl} {a e : Nat} (hs : Sub P v a e) (f : Nat) : ∀ p e1 d1, p < P.length → walk P f p = some (e1, d1) → walk v f (a + p) = some (a + e1, d1) := by
  induction f with
  | zero => intro p e1 d1 _ h; cases h
  | succ f ih =>
    intro p e1 d1 hp h
    simp only [walk, Option.map_eq_some_iff] at h ⊢
    obtain ⟨⟨x, y⟩, h1, h2⟩ := h
    simp only [Prod.mk.injEq] at h2
    obtain ⟨rfl, rfl⟩ := h2
    refine ⟨(a + x, y), ?_, rfl⟩
    rw [← hs.n p hp]
    have := kids_sup hs f ih (v.getD (a + p) zero) (P.getD p zero) (hs.kind p hp) _ 0 (p + 1) 0 ByteArray.empty x y (by omega) (by omega) (by omega) h1
    rw [show a + (p + 1) = a + p + 1 from by omega] at this
    exact this

/-- The key ahead of the k-th part. -/
def lastK (v : List Cl) (q : Nat → Nat) (k : Nat) : ByteArray := if k = 0 then ByteArray.empty else (v.getD (q (k - 1)) zero).key

theorem kids_made (v : List Cl) (c : Cl) (f D n : Nat) (q : Nat → Nat) (hq : ∀ j, j < n → ∃ d, walk v f (q j) = some (q (j + 1), d) ∧ d ≤ D) (hb : ∀ j, j < n → bad v c j (q j) (lastK v q j) = false) (m : Nat) :
    ∀ k d, k + m = n → d ≤ D → ∃ d', kids (walk v f) v c m k (q k) d (lastK v q k) = some (q n, d') ∧ d' ≤ D := by
  induction m with
  | zero => intro k d hk hd; exact ⟨d, by rw [kids, show k = n from by omega], hd⟩
  | succ m ih =>
    intro k d hk hd
    obtain ⟨d1, h1, h2⟩ := hq k (by omega)
    rw [kids, if_neg (by rw [hb k (by omega)]; simp), h1]
    simp only
    have := ih (k + 1) (max d d1) (by omega) (by omega)
    unfold lastK at this
    rw [if_neg (by omega), Nat.add_sub_cancel] at this
    exact this

end M

theorem code_setkey {c : M.Cl} {k : ByteArray} (h : M.cellCode c = 0) (hk : M.textOk k = true) : M.cellCode { c with key := k } = 0 := by
  unfold M.cellCode at h ⊢
  simp only at h ⊢
  split at h
  · cases h
  rename_i h1
  rw [if_neg h1]
  split at h
  · cases h
  rename_i h2
  rw [if_neg h2]
  split at h
  · cases h
  rename_i h3
  rw [if_neg h3]
  split at h
  · rename_i h4
    rw [if_pos ⟨h4.1, hk⟩]
  · cases h

theorem tot_flatten (qs : List (List M.Cl)) (k : Nat) : ((qs.take k).flatten).length = tot qs k := by simp [tot, List.length_flatten]

theorem flatten_at (qs : List (List M.Cl)) (j : Nat) (hj : j < qs.length) : ∃ rest, qs.flatten = (qs.take j).flatten ++ qs.getD j [] ++ rest := by
  refine ⟨(qs.drop (j + 1)).flatten, ?_⟩
  have h1 : qs.getD j [] = qs[j] := by rw [List.getD_eq_getElem?_getD, List.getElem?_eq_getElem hj]; rfl
  rw [h1, List.append_assoc]
  have : qs[j] ++ (qs.drop (j + 1)).flatten = (qs.drop j).flatten := by rw [List.drop_eq_getElem_cons hj]; rfl
  rw [this, ← List.flatten_append, List.take_append_drop]

/-- The p-th cell of the j-th part. -/
theorem made_at (h : M.Cl) (qs : List (List M.Cl)) (j p : Nat) (hj : j < qs.length) (hp : p < (qs.getD j []).length) : (h :: qs.flatten).getD (tot qs j + 1 + p) M.zero = (qs.getD j []).getD p M.zero := by
  obtain ⟨rest, e⟩ := flatten_at qs j hj
  rw [show tot qs j + 1 + p = (tot qs j + p) + 1 from by omega, List.getD_cons_succ, e]
  have hl := tot_flatten qs j
  generalize qs.getD j [] = q at *
  rw [List.getD_eq_getElem?_getD, List.getD_eq_getElem?_getD, List.getElem?_append_left (by rw [List.length_append]; omega), List.getElem?_append_right (by omega), hl, Nat.add_sub_cancel_left]

theorem made_length (h : M.Cl) (qs : List (List M.Cl)) : (h :: qs.flatten).length = tot qs qs.length + 1 := by
  rw [List.length_cons, ← tot_flatten qs qs.length, List.take_length]

theorem mem_part {qs : List (List M.Cl)} {c : M.Cl} (hc : c ∈ qs.flatten) : ∃ j, j < qs.length ∧ c ∈ qs.getD j [] := by
  obtain ⟨l, h1, h2⟩ := List.mem_flatten.1 hc
  obtain ⟨j, h3, rfl⟩ := List.getElem_of_mem h1
  exact ⟨j, h3, by rw [List.getD_eq_getElem?_getD, List.getElem?_eq_getElem h3]; exact h2⟩

theorem first_all {l : List M.Cl} (h : ∀ c ∈ l, M.cellCode c = 0) : M.firstCode l = 0 := by
  induction l with
  | nil => rfl
  | cons c r ih => rw [M.firstCode, if_pos (h c (by simp))]; exact ih fun x hx => h x (by simp [hx])

/-- A part that was laid: a value without a fault, with a key at its first cell. -/
def Laid (q : List M.Cl) : Prop := ∃ p k d, q = setKey p k ∧ M.valueFault p = 0 ∧ M.textOk k = true ∧ M.walk p p.length 0 = some (p.length, d) ∧ d ≤ 19

theorem made_ok (h : M.Cl) (qs : List (List M.Cl)) (hcode : M.cellCode h = 0) (hkey : h.key.toList = []) (hn : h.n = qs.length) (hlen : tot qs qs.length + 1 ≤ 200) (hq : ∀ j, j < qs.length → Laid (qs.getD j []))
    (h5 : h.kind = 5 → ∀ j, j < qs.length → ((qs.getD j []).getD 0 M.zero).key.toList = [])
    (h6 : h.kind = 6 → ∀ j, j + 1 < qs.length → M.keyLe ((qs.getD (j + 1) []).getD 0 M.zero).key ((qs.getD j []).getD 0 M.zero).key = false) : M.valueFault (h :: qs.flatten) = 0 := by
  have hL := made_length h qs
  have hpos : ∀ j, j < qs.length → 0 < (qs.getD j []).length := fun j hj => by
    obtain ⟨p, k, d, e, hv, _⟩ := hq j hj
    rw [e, setKey_length]; exact (fault_len hv).1
  have hmono : ∀ j, j < qs.length → tot qs (j + 1) ≤ tot qs qs.length := fun j hj => tot_le qs qs.length (j + 1) (by omega) (Nat.le_refl _)
  have hfc : M.firstCode (h :: qs.flatten) = 0 := by
    refine first_all fun c hc => ?_
    rcases List.mem_cons.1 hc with rfl | hc
    · exact hcode
    · obtain ⟨j, hj, hm⟩ := mem_part hc
      obtain ⟨p, k, d, e, hv, ht, _⟩ := hq j hj
      rw [e] at hm
      have hz := M.first_zero (M.fault_zero hv).2.2.1
      cases p with
      | nil => simp [setKey] at hm
      | cons c0 r =>
        simp only [setKey, List.mem_cons] at hm
        rcases hm with rfl | hm
        · exact code_setkey (hz c0 (by simp)) ht
        · exact hz c (by simp [hm])
  obtain ⟨f, hf⟩ : ∃ f, (h :: qs.flatten).length = f + 1 := ⟨tot qs qs.length, hL⟩
  have hwalk : ∀ j, j < qs.length → ∃ d, M.walk (h :: qs.flatten) f (tot qs j + 1) = some (tot qs (j + 1) + 1, d) ∧ d ≤ 19 := by
    intro j hj
    obtain ⟨p, k, d, e, hv, ht, hw, hd⟩ := hq j hj
    have hpl := (fault_len hv).1
    have hql : (qs.getD j []).length = p.length := by rw [e, setKey_length]
    have hts := tot_succ qs j hj
    have hm := hmono j hj
    have hs : M.Sub p (h :: qs.flatten) (tot qs j + 1) (tot qs (j + 1) + 1) := by
      have hat : ∀ i, i < p.length → (h :: qs.flatten).getD (tot qs j + 1 + i) M.zero = (setKey p k).getD i M.zero := fun i hi => by rw [made_at h qs j i hj (by omega), e]
      refine ⟨by omega, by omega, by omega, ?_, ?_, ?_⟩
      · intro i hi
        rw [hat i hi]
        by_cases h0 : i = 0
        · subst h0; rw [setKey_zero p k (by intro e; rw [e] at hpl; simp at hpl)]
        · rw [setKey_getD p k i (by omega)]
      · intro i hi
        rw [hat i hi]
        by_cases h0 : i = 0
        · subst h0; rw [setKey_zero p k (by intro e; rw [e] at hpl; simp at hpl)]
        · rw [setKey_getD p k i (by omega)]
      · intro i h0 hi
        rw [hat i hi, setKey_getD p k i h0]
    have hw2 := M.walk_le p p.length f (by omega) 0 _ hw
    have := M.walk_sup hs f 0 _ _ (by omega) hw2
    rw [Nat.add_zero, show tot qs j + 1 + p.length = tot qs (j + 1) + 1 from by omega] at this
    exact ⟨d, this, hd⟩
  have hfirst : ∀ j, j < qs.length → (h :: qs.flatten).getD (tot qs j + 1) M.zero = (qs.getD j []).getD 0 M.zero := fun j hj => made_at h qs j 0 hj (hpos j hj)
  have hbad : ∀ j, j < qs.length → M.bad (h :: qs.flatten) h j (tot qs j + 1) (M.lastK (h :: qs.flatten) (fun j => tot qs j + 1) j) = false := by
    intro j hj
    have hm := hmono j hj
    have hts := tot_succ qs j hj
    have hp0 := hpos j hj
    unfold M.bad
    rw [if_pos (by omega), hfirst j hj]
    rw [Bool.or_eq_false_iff]
    refine ⟨?_, ?_⟩
    · by_cases hk : h.kind = 5
      · rw [h5 hk j hj]; simp
      · simp [hk]
    · by_cases hk : h.kind = 6
      · by_cases h0 : 0 < j
        · have h7 := h6 hk (j - 1) (by omega)
          rw [show j - 1 + 1 = j from by omega] at h7
          unfold M.lastK
          rw [if_neg (by omega), hfirst (j - 1) (by omega), h7]
          simp
        · simp [h0]
      · simp [hk]
  obtain ⟨d', hk, hd'⟩ := M.kids_made (h :: qs.flatten) h f 19 qs.length (fun j => tot qs j + 1) hwalk hbad qs.length 0 0 (by omega) (by omega)
  have hw : M.walk (h :: qs.flatten) (h :: qs.flatten).length 0 = some ((h :: qs.flatten).length, d' + 1) := by
    rw [hf, M.walk]
    simp only [List.getD_cons_zero]
    rw [hn, Int.toNat_natCast]
    have h0 : M.lastK (h :: qs.flatten) (fun j => tot qs j + 1) 0 = ByteArray.empty := rfl
    rw [h0] at hk
    simp only [tot_zero, Nat.zero_add] at hk
    simp only [Nat.zero_add]
    rw [hk]
    simp only [Option.map_some]
    rw [← hL, hf]
  unfold M.valueFault
  rw [if_neg (by omega), if_neg (by simp [hfc]), hw]
  simp only
  rw [if_neg, if_neg (by omega)]
  intro hx
  rcases hx with hx | hx
  · exact hx rfl
  · exact hx (by rw [List.getD_cons_zero]; exact hkey)

theorem laid_of {p : List M.Cl} {d : Nat} (hv : M.valueFault p = 0) (hw : M.walk p p.length 0 = some (p.length, d)) (hd : d ≤ 19) : Laid p :=
  ⟨p, ByteArray.empty, d, (setKey_none hv).symm, hv, by decide, hw, hd⟩

/-- An array of parts without a fault that are not too deep has none, if it is not too great. -/
theorem arr_valid {ps : List (List M.Cl)} (hv : ∀ j, j < ps.length → M.valueFault (ps.getD j []) = 0) (hd : ∀ j, j < ps.length → Laid (ps.getD j [])) (hlen : tot ps ps.length + 1 ≤ 200) (hn : ps.length ≤ 200) : M.valueFault (arrV ps) = 0 := by
  have e : arrV ps = headCl 5 ps.length :: ps.flatten := by unfold arrV arrK; rw [List.take_length]
  rw [e]
  refine made_ok _ ps ?_ empty_toList rfl hlen hd (fun _ j hj => ?_) (fun h => absurd (show (5 : Int) = 6 from h) (by decide))
  · unfold headCl M.cellCode
    simp only
    rw [if_neg (by omega), if_neg, if_neg (by omega), if_pos ⟨by decide, by decide⟩]
    intro h
    rcases h with h | h | h
    · exact h.1 rfl
    · exact h.1 empty_toList
    · exact h.2.1 rfl
  · rw [fault_key (hv j hj)]; exact empty_toList

end Go.Proofs.YtcglddahphkcpaaGreatDoor

namespace Go.Proofs.YtcglddahphkcpaaGreatDoor
open Go.RowKit
set_option linter.unusedVariables false

set_option maxHeartbeats 1000000 in
theorem layArrayV_any (a : Option Addr) (cap : Nat) (ps : List (List M.Cl)) (w : World) (hL : LV w a ps) (hcap : ps.length ≤ cap) (hn : ps.length ≤ 4096) (hv : ∀ j, j < ps.length → M.valueFault (ps.getD j []) = 0) :
    Calls Tryz.prog 95 #[.slice a ps.length cap] w fun e w' => ∃ s, e = .returned s ∧ Res w' w.heap.size s (arrV ps) ∧ Below w.heap.size w w' := by
  have HL := hide hL
  have HV := hide hv
  clear hL hv
  go_enter Tryz.func95, Tryz.ntmps95
  go_wp2_with fail
  go_loopg [3, 12] ps.length (fun gh s3 s12 wr => ∃ k : Nat, Hid (gh = ps.length - k) ∧ s12 = .int .i64 k ∧ k ≤ ps.length ∧ wr.ownsRow w.heap.size 111 5 s3 (arrK ps k).length (flat (arrK ps k)) ∧ Below w.heap.size w wr)
  case atStart => exact ⟨0, rfl, rfl, by omega, one_own w w.heap.size _ (headCl 5 ps.length) rfl (Nat.le_refl _), (Below.refl _ _).alloc (Nat.le_refl _) _⟩
  case round =>
    obtain ⟨k, hg, rfl, hk, hown, hbel⟩ := hrel
    by_cases hlt : k < ps.length
    · obtain ⟨g, b, off, c, rfl, hgl, f0, hc, hb, hr⟩ := ((unhide HL).below hbel) k hlt
      have hpf := (unhide HV) k hlt
      have hp := fault_len hpf
      have hal := arrK_length ps k
      have hts := tot_small ps k hk (fun j hj => (fault_len ((unhide HV) j (by omega))).2)
      have hpn : ps.getD k [] ≠ [] := by intro e; rw [e] at hp; simp at hp
      have HAP := hide (appendPart_any w.heap.size u3 (arrK ps k) (ps.getD k []) b off c ByteArray.empty wr hown hr hpn (by omega) hbel.size)
      rw [setKey_none hpf, ← arrK_succ ps k hlt] at HAP
      clear hown hr hpn hpf hal hts
      generalize ps.getD k [] = p at *
      go_wp2_with fail
      refine (unhide HAP).mono ?_
      rintro e2 w2 ⟨v', rfl, ho2, hb2⟩
      have B2 : Below w.heap.size w w2 := hbel.trans hb2
      have HO2 := hide ho2
      clear ho2 hb2 f0 HAP
      go_wp2_with fail
      go_roundg (ps.length - (k + 1))
      case rel => exact ⟨k + 1, rfl, by go_num, by omega, unhide HO2, B2⟩
      case measure => have := hg.out; omega
    · have hke : k = ps.length := by omega
      have hal := arrK_length ps k
      have hts := tot_small ps k hk (fun j hj => (fault_len ((unhide HV) j (by omega))).2)
      have fin := hide (show Res wr w.heap.size u3 (arrV ps) by unfold arrV; rw [← hke]; exact res_of_owns hown (by omega))
      clear hke hown hal hts
      go_wp2_with fail
      go_ret
      exact ⟨_, rfl, unhide fin, hbel⟩

set_option maxHeartbeats 1000000 in
theorem l1ArrayV_any (a : Option Addr) (cap : Nat) (ps : List (List M.Cl)) (w : World) (hL : LV w a ps) (hcap : ps.length ≤ cap) (hn : ps.length ≤ 4096) (hv : ∀ j, j < ps.length → M.valueFault (ps.getD j []) = 0) :
    Calls Tryz.prog 85 #[.slice a ps.length cap] w fun e w' => ∃ s, e = .returned s ∧ Res w' w.heap.size s (arrV ps) ∧ Below w.heap.size w w' := by
  have HL := hide hL
  have HV := hide hv
  clear hL hv
  obtain ⟨i0, hi, hz0, hz1, hz2⟩ := info_parts Tryz.info111
  go_enter Tryz.func85, Tryz.ntmps85
  go_wp2_with fail
  go_loopg [3, 4] ps.length (fun gh s3 s4 wr => ∃ k : Nat, Hid (gh = ps.length - k) ∧ s4 = .int .i64 k ∧ k ≤ ps.length ∧ wr.ownsRow w.heap.size 111 5 s3 (arrK ps k).length (flat (arrK ps k)) ∧ Below w.heap.size w wr)
  case atStart => exact ⟨0, rfl, rfl, by omega, one_own w w.heap.size _ (headCl 5 ps.length) rfl (Nat.le_refl _), (Below.refl _ _).alloc (Nat.le_refl _) _⟩
  case round =>
    obtain ⟨k, hg, rfl, hk, hown, hbel⟩ := hrel
    by_cases hlt : k < ps.length
    · obtain ⟨g, b, off, c, rfl, hgl, f0, hc, hb, hr⟩ := ((unhide HL).below hbel) k hlt
      have hp := fault_len ((unhide HV) k hlt)
      have hal := arrK_length ps k
      have hts := tot_small ps k hk (fun j hj => (fault_len ((unhide HV) j (by omega))).2)
      have hsucc := hide (show flat (arrK ps k) ++ flat (ps.getD k []) = flat (arrK ps (k + 1)) by rw [arrK_succ ps k hlt, flat_append])
      have hsl := hide (show (arrK ps k).length + (ps.getD k []).length = (arrK ps (k + 1)).length by rw [arrK_succ ps k hlt, List.length_append])
      have hnews := hide (row_words hr)
      have hone := hide (flat_one (ps.getD k []))
      have HFL := hide (flat_length (ps.getD k []))
      clear hr
      generalize ps.getD k [] = p at *
      have hb63 : (arrK ps k).length + p.length ≤ maxLen := by unfold maxLen; omega
      have hby : ((arrK ps k).length + p.length) * 56 ≤ 140737488355328 := by omega
      have hbse := hide (ownsRow_base hown)
      have HOWN := hide hown
      have hbase := hbel.size
      clear hown hal hts
      go_wp2_with (at_builtin; refine wpList_append_own _ rfl (.tmp 15) (.tmp 19) 24 rfl w.heap.size 111 i0 _ 5 56 Tryz.underlying24 hi hz0 hz1 hz2 rfl (by decide) _ (arrK ps k).length _ rfl (unhide HOWN) ⟨b, off, none⟩ p.length c (flat p) rfl (unhide HFL) (unhide hnews) (unhide hone) hb63 hby hbase ?_)
      intro v' w2 ho2 hg2 _
      rw [unhide hsucc, unhide hsl] at ho2
      have B2 : Below w.heap.size w w2 := hbel.grown hg2 hbase (unhide hbse)
      have HO2 := hide ho2
      clear ho2 hg2 f0
      go_wp2_with fail
      go_roundg (ps.length - (k + 1))
      case rel => exact ⟨k + 1, rfl, by go_num, by omega, unhide HO2, B2⟩
      case measure => have := hg.out; omega
    · have hke : k = ps.length := by omega
      have hal := arrK_length ps k
      have hts := tot_small ps k hk (fun j hj => (fault_len ((unhide HV) j (by omega))).2)
      have fin := hide (show Res wr w.heap.size u3 (arrV ps) by unfold arrV; rw [← hke]; exact res_of_owns hown (by omega))
      clear hke hown hal hts
      go_wp2_with fail
      go_ret
      exact ⟨_, rfl, unhide fin, hbel⟩

end Go.Proofs.YtcglddahphkcpaaGreatDoor

namespace Go.Proofs.YtcglddahphkcpaaGreatDoor
open Go.RowKit
set_option linter.unusedVariables false

def strOut (s : ByteArray) : Int × List M.Cl := if M.textOk s = true then (0, [⟨4, 0, s, ByteArray.empty, 0⟩]) else (5, [])
theorem str_bad {s : ByteArray} (h : M.textOk s = false) : strOut s = (5, []) := by unfold strOut; rw [if_neg (by simp [h])]
theorem str_ok {s : ByteArray} (h : M.textOk s = true) : strOut s = (0, [⟨4, 0, s, ByteArray.empty, 0⟩]) := by unfold strOut; rw [if_pos h]

set_option maxHeartbeats 400000 in
theorem l1Number_any (n : Int) (w : World) : Calls Tryz.prog 108 #[.int .i64 n] w fun e w' => ∃ s, e = .returned s ∧ Res w' w.heap.size s [⟨3, n, ByteArray.empty, ByteArray.empty, 0⟩] ∧ Below w.heap.size w w' := by
  go_enter Tryz.func108, Tryz.ntmps108
  go_wp2_with fail
  go_ret
  exact ⟨_, rfl, one_cell w w.heap.size w.heap.size ⟨3, n, ByteArray.empty, ByteArray.empty, 0⟩ rfl (Nat.le_refl _), (Below.refl _ _).alloc (Nat.le_refl _) _⟩
set_option maxHeartbeats 400000 in
theorem l1String_any (s : ByteArray) (w : World) : Calls Tryz.prog 109 #[.string s] w fun e w' => ∃ r, e = .returned r ∧ Res w' w.heap.size r [⟨4, 0, s, ByteArray.empty, 0⟩] ∧ Below w.heap.size w w' := by
  go_enter Tryz.func109, Tryz.ntmps109
  go_wp2_with fail
  go_ret
  exact ⟨_, rfl, one_cell w w.heap.size w.heap.size ⟨4, 0, s, ByteArray.empty, 0⟩ rfl (Nat.le_refl _), (Below.refl _ _).alloc (Nat.le_refl _) _⟩

end Go.Proofs.YtcglddahphkcpaaGreatDoor

namespace Go.Proofs.YtcglddahphkcpaaGreatDoor
open Go.RowKit
set_option linter.unusedVariables false

theorem SS.snoc {w2 w3 : World} {o : Obj} {B k : Nat} {s v' sp : Value} {ps : List (List M.Cl)} {p : List M.Cl} {ss : List Value} (hk : ps.length = k) (hl : ss.length = ps.length) (hown : w2.ownsRow B 24 1 s ps.length ss) (hres : ∀ i, i < ps.length → Res w2 B (ss.getD i (.slice none 0 0)) (ps.getD i [])) (hp : Res w2 B sp p) (hg : (w2.alloc o).grownBy w3 s.ownBlock) (ho : w3.ownsRow B 24 1 v' (k + 1) (ss ++ [sp])) : SS w3 B v' (ps ++ [p]) := by
  subst hk
  have keep : ∀ (r : Value) (l : List M.Cl), Res w2 B r l → Res w3 B r l := fun r l h => grown_res (hown.alloc o) hg (h.alloc o) (by decide)
  refine ⟨ss ++ [sp], by simp [hl], by simpa using ho, fun i hi => ?_⟩
  rw [List.length_append] at hi
  simp only [List.length_cons, List.length_nil] at hi
  by_cases e : i < ps.length
  · rw [List.getD_eq_getElem?_getD, List.getElem?_append_left (by omega), ← List.getD_eq_getElem?_getD, List.getD_eq_getElem?_getD (l := ps ++ [p]), List.getElem?_append_left e, ← List.getD_eq_getElem?_getD]
    exact keep _ _ (hres i e)
  · obtain rfl : i = ps.length := by omega
    rw [List.getD_eq_getElem?_getD, List.getElem?_append_right (by omega), hl, Nat.sub_self, List.getD_eq_getElem?_getD (l := ps ++ [p]), List.getElem?_append_right (Nat.le_refl _), Nat.sub_self]
    exact keep _ _ hp
theorem SS.empty (w : World) (B b : Nat) (hb : b = w.heap.size) (hB : B ≤ b) : SS (w.alloc (.cells #[] 24)) B (.slice (some ⟨b, 0, none⟩) 0 0) [] := by
  subst hb
  exact ⟨[], rfl, ⟨rfl, .inr ⟨w.heap.size, 0, #[], rfl, hB, heap_alloc_new _ _, Nat.le_refl _, by simp [maxLen], rfl, rfl⟩⟩, fun i hi => by simp at hi⟩
/-- The slice that is stored lies behind the answer's own cell. -/
theorem Ans.storeC {w w2 : World} {C : Nat} {s : Value} {l : List M.Cl} (hr : Res w2 C s l) (hC : w.heap.size < C) (B2 : Below w.heap.size w w2) (x y : Value) :
    Res ((w2.setCell ⟨w.heap.size, 0, none⟩ x).setCell ⟨w.heap.size, 1, none⟩ y) w.heap.size s l ∧ Below w.heap.size w ((w2.setCell ⟨w.heap.size, 0, none⟩ x).setCell ⟨w.heap.size, 1, none⟩ y) := by
  have hne : ∀ b, s.ownBlock = some b → b ≠ w.heap.size := fun b h => by have := hr.base b h; omega
  exact ⟨((hr.mono (by omega)).setOther _ _ hne).setOther _ _ hne, (B2.setCell (Nat.le_refl _) _).setCell (Nat.le_refl _) _⟩
theorem field_value (c : Int) (a : Option Addr) (n k : Nat) (w : World) : (Instr.field 59 (.agg #[.int .i64 c, .slice a n k]) 1).run Tryz.prog w = .ok (.slice a n k) w := by kernel_rfl
theorem one_plain' (a : Option Addr) (n k : Nat) : ∀ u ∈ ([Value.slice a n k] : List Value), u.oneCell' = true := by
  intro u hu; simp only [List.mem_cons, List.not_mem_nil, or_false] at hu; subst hu; rfl
theorem valid_ne {ps : List (List M.Cl)} (hv : ∀ j, j < ps.length → M.valueFault (ps.getD j []) = 0) : ∀ j, j < ps.length → ps.getD j [] ≠ [] := by
  intro j hj e
  have := (fault_len (hv j hj)).1
  rw [e] at this
  simp at this

def strCl (s : ByteArray) : M.Cl := ⟨4, 0, s, ByteArray.empty, 0⟩
theorem code_str {s : ByteArray} (h : M.textOk s = true) : M.cellCode (strCl s) = 0 := by
  unfold strCl M.cellCode
  simp only
  rw [if_neg (by omega), if_neg, if_neg (by omega), if_pos ⟨h, by decide⟩]
  intro h
  rcases h with h | h | h
  · exact h.1 rfl
  · exact h.2 rfl
  · exact h.1 rfl
theorem one_valid {c : M.Cl} (hc : M.cellCode c = 0) (hk : c.key.toList = []) (hn : c.n = 0) : M.valueFault [c] = 0 ∧ M.walk [c] 1 0 = some (1, 1) := by
  have hw : M.walk [c] 1 0 = some (1, 1) := by simp [M.walk, M.kids, hn]
  refine ⟨?_, hw⟩
  unfold M.valueFault
  rw [if_neg (by simp), if_neg (by simp [M.firstCode, hc])]
  simp only [List.length_cons, List.length_nil, Nat.zero_add]
  rw [hw]
  simp only
  rw [if_neg (by simp [hk]), if_neg (by omega)]
theorem one_laid {c : M.Cl} (hc : M.cellCode c = 0) (hk : c.key.toList = []) (hn : c.n = 0) : Laid [c] := laid_of (d := 1) (one_valid hc hk hn).1 (one_valid hc hk hn).2 (by omega)
/-- Lists of parts of one cell each. -/
theorem tot_ones {ps : List (List M.Cl)} (h : ∀ j, j < ps.length → (ps.getD j []).length = 1) (k : Nat) (hk : k ≤ ps.length) : tot ps k = k := by
  induction k with
  | zero => rw [tot_zero]
  | succ k ih => rw [tot_succ ps k (by omega), ih (by omega), h k (by omega)]

end Go.Proofs.YtcglddahphkcpaaGreatDoor

namespace Go.Proofs.YtcglddahphkcpaaGreatDoor
open Go.RowKit
set_option linter.unusedVariables false

/-- All but what lies from block lo on and ahead of block hi is as it was. -/
structure Out (lo hi : Nat) (w w' : World) : Prop where
  os : w'.os = w.os
  tape : w'.tape = w.tape
  output : w'.output = w.output
  size : w.heap.size ≤ w'.heap.size
  block : ∀ k, k < w.heap.size → (k < lo ∨ hi ≤ k) → w'.heap[k]? = w.heap[k]?
/-- The slice v holds slices, each in a block of its own; all blocks lie from lo on and ahead of hi. -/
def PR (w : World) (lo hi : Nat) (v : Value) (ps : List (List M.Cl)) : Prop :=
  (v = .slice none 0 0 ∧ ps = []) ∨ ∃ (g cap : Nat) (xs : List Value) (β γ : Nat → Nat), v = .slice (some ⟨g, 0, none⟩) ps.length cap ∧ ps.length ≤ cap ∧ lo ≤ g ∧ g < hi ∧ Own w g 24 xs ∧
    (∀ i, i < ps.length → xs[i]? = some (.slice (some ⟨β i, 0, none⟩) (ps.getD i []).length (γ i)) ∧ (ps.getD i []).length ≤ γ i ∧ lo ≤ β i ∧ β i < hi ∧ β i ≠ g ∧ OwnG w (β i) 111 (ps.getD i [])) ∧
    ∀ i j, i < j → j < ps.length → β i ≠ β j
/-- The same, without a word of what is shared. -/
def PS (w : World) (lo hi : Nat) (v : Value) (ps : List (List M.Cl)) : Prop :=
  (v = .slice none 0 0 ∧ ps = []) ∨ ∃ (g cap : Nat) (xs : List Value) (β γ : Nat → Nat), v = .slice (some ⟨g, 0, none⟩) ps.length cap ∧ ps.length ≤ cap ∧ lo ≤ g ∧ g < hi ∧ Own w g 24 xs ∧
    (∀ i, i < ps.length → xs[i]? = some (.slice (some ⟨β i, 0, none⟩) (ps.getD i []).length (γ i)) ∧ (ps.getD i []).length ≤ γ i ∧ lo ≤ β i ∧ β i < hi ∧ OwnG w (β i) 111 (ps.getD i []))
theorem PR.ps {w : World} {lo hi : Nat} {v : Value} {ps : List (List M.Cl)} (h : PR w lo hi v ps) : PS w lo hi v ps := by
  rcases h with h | ⟨g, cap, xs, β, γ, h1, h2, h3, h4, h5, h6, _⟩
  · exact .inl h
  · exact .inr ⟨g, cap, xs, β, γ, h1, h2, h3, h4, h5, fun i hi => ⟨(h6 i hi).1, (h6 i hi).2.1, (h6 i hi).2.2.1, (h6 i hi).2.2.2.1, (h6 i hi).2.2.2.2.2⟩⟩
theorem OwnG.keep {w w' : World} {b : Nat} {t : TypeId} {l : List M.Cl} (h : OwnG w b t l) (hk : w'.heap[b]? = w.heap[b]?) : OwnG w' b t l := by
  obtain ⟨xs, ⟨c, h1, h2⟩, h3⟩ := h; exact ⟨xs, ⟨c, hk.trans h1, h2⟩, h3⟩
theorem Own.keep {w w' : World} {b : Nat} {t : TypeId} {xs : List Value} (h : Own w b t xs) (hk : w'.heap[b]? = w.heap[b]?) : Own w' b t xs := by
  obtain ⟨c, h1, h2⟩ := h; exact ⟨c, hk.trans h1, h2⟩
theorem PR.keep {w w' : World} {lo hi : Nat} {v : Value} {ps : List (List M.Cl)} (h : PR w lo hi v ps) (hk : ∀ k, lo ≤ k → k < hi → k < w.heap.size → w'.heap[k]? = w.heap[k]?) : PR w' lo hi v ps := by
  rcases h with h | ⟨g, cap, xs, β, γ, h1, h2, h3, h4, h5, h6, h7⟩
  · exact .inl h
  · exact .inr ⟨g, cap, xs, β, γ, h1, h2, h3, h4, h5.keep (hk g h3 h4 h5.lt), fun i hi => ⟨(h6 i hi).1, (h6 i hi).2.1, (h6 i hi).2.2.1, (h6 i hi).2.2.2.1, (h6 i hi).2.2.2.2.1, (h6 i hi).2.2.2.2.2.keep (hk _ (h6 i hi).2.2.1 (h6 i hi).2.2.2.1 (h6 i hi).2.2.2.2.2.lt)⟩, h7⟩
theorem PS.keep {w w' : World} {lo hi : Nat} {v : Value} {ps : List (List M.Cl)} (h : PS w lo hi v ps) (hk : ∀ k, lo ≤ k → k < hi → k < w.heap.size → w'.heap[k]? = w.heap[k]?) : PS w' lo hi v ps := by
  rcases h with h | ⟨g, cap, xs, β, γ, h1, h2, h3, h4, h5, h6⟩
  · exact .inl h
  · exact .inr ⟨g, cap, xs, β, γ, h1, h2, h3, h4, h5.keep (hk g h3 h4 h5.lt), fun i hi => ⟨(h6 i hi).1, (h6 i hi).2.1, (h6 i hi).2.2.1, (h6 i hi).2.2.2.1, (h6 i hi).2.2.2.2.keep (hk _ (h6 i hi).2.2.1 (h6 i hi).2.2.2.1 (h6 i hi).2.2.2.2.lt)⟩⟩
theorem PS.below {w w' : World} {lo hi : Nat} {v : Value} {ps : List (List M.Cl)} (h : PS w lo hi v ps) (hb : Below w.heap.size w w') : PS w' lo hi v ps := h.keep fun k _ _ hk => hb.block k hk
theorem PS.shape {w : World} {lo hi : Nat} {v : Value} {ps : List (List M.Cl)} (h : PS w lo hi v ps) : ∃ a n c, v = .slice a n c := by
  rcases h with ⟨rfl, _⟩ | ⟨g, cap, xs, β, γ, rfl, _⟩
  · exact ⟨_, _, _, rfl⟩
  · exact ⟨_, _, _, rfl⟩
theorem PS.mono {w : World} {lo hi lo' hi' : Nat} {v : Value} {ps : List (List M.Cl)} (h : PS w lo hi v ps) (h1 : lo' ≤ lo) (h2 : hi ≤ hi') : PS w lo' hi' v ps := by
  rcases h with h | ⟨g, cap, xs, β, γ, q1, q2, q3, q4, q5, q6⟩
  · exact .inl h
  · exact .inr ⟨g, cap, xs, β, γ, q1, q2, by omega, by omega, q5, fun i hi => ⟨(q6 i hi).1, (q6 i hi).2.1, by have := (q6 i hi).2.2.1; omega, by have := (q6 i hi).2.2.2.1; omega, (q6 i hi).2.2.2.2⟩⟩

theorem SS.ps {w : World} {B : Nat} {v : Value} {ps : List (List M.Cl)} (h : SS w B v ps) (hne : ∀ i, i < ps.length → ps.getD i [] ≠ []) : PS w B w.heap.size v ps := by
  obtain ⟨ss, hl, ho, hr⟩ := h
  obtain ⟨_, ⟨rfl, h0⟩ | ⟨g, cap, cur, rfl, hg, hh, hnc, hcm, hcs, ht⟩⟩ := ho
  · exact .inl ⟨rfl, List.length_eq_zero_iff.1 h0⟩
  · haveI : Inhabited (Nat × Nat) := ⟨(0, 0)⟩
    obtain ⟨σ, hσ⟩ := Go.Deep.choose_lt (n := ps.length) (p := fun i (t : Nat × Nat) => ss.getD i (.slice none 0 0) = .slice (some ⟨t.1, 0, none⟩) (ps.getD i []).length t.2 ∧ (ps.getD i []).length ≤ t.2 ∧ B ≤ t.1 ∧ OwnG w t.1 111 (ps.getD i [])) (fun i hi => by
      obtain ⟨_, ⟨_, e⟩ | ⟨b, c, h1, h2, h3, h4⟩⟩ := hr i hi
      · exact absurd e (hne i hi)
      · exact ⟨(b, c), h1, h3, h2, h4⟩)
    refine .inr ⟨g, cap, cur.toList, fun i => (σ i).1, fun i => (σ i).2, rfl, hnc, hg, (Array.getElem?_eq_some_iff.1 hh).1, ⟨cur, hh, rfl⟩, fun i hi => ⟨?_, (hσ i hi).2.1, (hσ i hi).2.2.1, (hσ i hi).2.2.2.lt, (hσ i hi).2.2.2⟩⟩
    have h3 : cur.toList[i]? = ss[i]? := by rw [← ht, List.getElem?_take, if_pos (by omega)]
    have e := (hσ i hi).1
    rw [List.getD_eq_getElem?_getD, List.getElem?_eq_getElem (by omega)] at e
    simp only [Option.getD_some] at e
    rw [h3, List.getElem?_eq_getElem (by omega), e]
theorem SD.pr {w : World} {B : Nat} {v : Value} {ps : List (List M.Cl)} (h : SD w B v ps) (hne : ∀ i, i < ps.length → ps.getD i [] ≠ []) : PR w B w.heap.size v ps := by
  obtain ⟨ss, hl, ho, hr, hd⟩ := h
  obtain ⟨_, ⟨rfl, h0⟩ | ⟨g, cap, cur, rfl, hg, hh, hnc, hcm, hcs, ht⟩⟩ := ho
  · exact .inl ⟨rfl, List.length_eq_zero_iff.1 h0⟩
  · haveI : Inhabited (Nat × Nat) := ⟨(0, 0)⟩
    obtain ⟨σ, hσ⟩ := Go.Deep.choose_lt (n := ps.length) (p := fun i (t : Nat × Nat) => ss.getD i (.slice none 0 0) = .slice (some ⟨t.1, 0, none⟩) (ps.getD i []).length t.2 ∧ (ps.getD i []).length ≤ t.2 ∧ B ≤ t.1 ∧ OwnG w t.1 111 (ps.getD i [])) (fun i hi => by
      obtain ⟨_, ⟨_, e⟩ | ⟨b, c, h1, h2, h3, h4⟩⟩ := hr i hi
      · exact absurd e (hne i hi)
      · exact ⟨(b, c), h1, h3, h2, h4⟩)
    refine .inr ⟨g, cap, cur.toList, fun i => (σ i).1, fun i => (σ i).2, rfl, hnc, hg, (Array.getElem?_eq_some_iff.1 hh).1, ⟨cur, hh, rfl⟩, fun i hi => ⟨?_, (hσ i hi).2.1, (hσ i hi).2.2.1, (hσ i hi).2.2.2.lt, ?_, (hσ i hi).2.2.2⟩, fun i j h1 h2 => ?_⟩
    · have h3 : cur.toList[i]? = ss[i]? := by rw [← ht, List.getElem?_take, if_pos (by omega)]
      have e := (hσ i hi).1
      rw [List.getD_eq_getElem?_getD, List.getElem?_eq_getElem (by omega)] at e
      simp only [Option.getD_some] at e
      rw [h3, List.getElem?_eq_getElem (by omega), e]
    · obtain ⟨ys, ⟨c, hc, _⟩, _⟩ := (hσ i hi).2.2.2
      intro e
      simp only at e
      rw [e, hh] at hc
      simp only [Option.some.injEq, Obj.cells.injEq] at hc
      exact absurd hc.2.1 (by decide)
    · have e1 := (hσ i (by omega)).1
      have e2 := (hσ j h2).1
      have := hd i j h1 h2 (σ i).1 (by rw [e1]; rfl)
      rw [e2] at this
      intro e
      simp only at e
      exact this (by rw [e]; rfl)

end Go.Proofs.YtcglddahphkcpaaGreatDoor

namespace Go.Proofs.YtcglddahphkcpaaGreatDoor
open Go.RowKit
set_option linter.unusedVariables false

/-- The call told the code and the lists of out. -/
def AnsS (w : World) (out : Int × List (List M.Cl)) (e : Ending) (w' : World) : Prop := ∃ s, e = .returned (.agg #[.int .i64 out.1, s]) ∧ PS w' w.heap.size w'.heap.size s out.2 ∧ Below w.heap.size w w'
def AnsR (w : World) (out : Int × List (List M.Cl)) (e : Ending) (w' : World) : Prop := ∃ s, e = .returned (.agg #[.int .i64 out.1, s]) ∧ PR w' w.heap.size w'.heap.size s out.2 ∧ Below w.heap.size w w'
theorem ansS_of {w w' : World} {out : Int × List (List M.Cl)} {c : Int} {s : Value} {l : List (List M.Cl)} (fin : out = (c, l)) (hr : PS w' w.heap.size w'.heap.size s l) (hb : Below w.heap.size w w') : AnsS w out (.returned (.agg #[.int .i64 c, s])) w' := by
  subst fin; exact ⟨s, rfl, hr, hb⟩
theorem ansR_of {w w' : World} {out : Int × List (List M.Cl)} {c : Int} {s : Value} {l : List (List M.Cl)} (fin : out = (c, l)) (hr : PR w' w.heap.size w'.heap.size s l) (hb : Below w.heap.size w w') : AnsR w out (.returned (.agg #[.int .i64 c, s])) w' := by
  subst fin; exact ⟨s, rfl, hr, hb⟩
theorem size_setCell2 (w : World) (p q : Addr) (x y : Value) : ((w.setCell p x).setCell q y).heap.size = w.heap.size := by simp
theorem heap_setCell2 (w : World) (b : Nat) (x y : Value) (k : Nat) (hk : k ≠ b) : ((w.setCell ⟨b, 0, none⟩ x).setCell ⟨b, 1, none⟩ y).heap[k]? = w.heap[k]? := (heap_setCell_other _ ⟨b, 1, none⟩ k y hk).trans (heap_setCell_other _ ⟨b, 0, none⟩ k x hk)
theorem PS.stored {w w1 w2 : World} {s : Value} {l : List (List M.Cl)} (hr : PS w2 w1.heap.size w2.heap.size s l) (B1 : Below w.heap.size w w1) (hsz : w.heap.size < w1.heap.size) (hb : Below w1.heap.size w1 w2) (x y : Value) :
    PS ((w2.setCell ⟨w.heap.size, 0, none⟩ x).setCell ⟨w.heap.size, 1, none⟩ y) w.heap.size ((w2.setCell ⟨w.heap.size, 0, none⟩ x).setCell ⟨w.heap.size, 1, none⟩ y).heap.size s l ∧ Below w.heap.size w ((w2.setCell ⟨w.heap.size, 0, none⟩ x).setCell ⟨w.heap.size, 1, none⟩ y) := by
  refine ⟨?_, ((B1.trans (hb.mono B1.size)).setCell (Nat.le_refl _) _).setCell (Nat.le_refl _) _⟩
  rw [size_setCell2]
  exact (hr.keep fun k h1 _ _ => heap_setCell2 w2 _ x y k (by omega)).mono (by omega) (Nat.le_refl _)
theorem PR.mono {w : World} {lo hi lo' hi' : Nat} {v : Value} {ps : List (List M.Cl)} (h : PR w lo hi v ps) (h1 : lo' ≤ lo) (h2 : hi ≤ hi') : PR w lo' hi' v ps := by
  rcases h with h | ⟨g, cap, xs, β, γ, q1, q2, q3, q4, q5, q6, q7⟩
  · exact .inl h
  · exact .inr ⟨g, cap, xs, β, γ, q1, q2, by omega, by omega, q5, fun i hi => ⟨(q6 i hi).1, (q6 i hi).2.1, by have := (q6 i hi).2.2.1; omega, by have := (q6 i hi).2.2.2.1; omega, (q6 i hi).2.2.2.2⟩, q7⟩
theorem PR.stored {w w1 w2 : World} {s : Value} {l : List (List M.Cl)} (hr : PR w2 w1.heap.size w2.heap.size s l) (B1 : Below w.heap.size w w1) (hsz : w.heap.size < w1.heap.size) (hb : Below w1.heap.size w1 w2) (x y : Value) :
    PR ((w2.setCell ⟨w.heap.size, 0, none⟩ x).setCell ⟨w.heap.size, 1, none⟩ y) w.heap.size ((w2.setCell ⟨w.heap.size, 0, none⟩ x).setCell ⟨w.heap.size, 1, none⟩ y).heap.size s l ∧ Below w.heap.size w ((w2.setCell ⟨w.heap.size, 0, none⟩ x).setCell ⟨w.heap.size, 1, none⟩ y) := by
  refine ⟨?_, ((B1.trans (hb.mono B1.size)).setCell (Nat.le_refl _) _).setCell (Nat.le_refl _) _⟩
  rw [size_setCell2]
  exact (hr.keep fun k h1 _ _ => heap_setCell2 w2 _ x y k (by omega)).mono (by omega) (Nat.le_refl _)

end Go.Proofs.YtcglddahphkcpaaGreatDoor
