/-
  The plain mathematics of values that are made of parts: a head, and parts without a fault one behind the other, is a value without a fault. No word of the program is used here.
  impl.layArray and spec.l1Array of lists that lie anywhere.
  spec.l1Number, spec.l1String, impl.NumberValue, impl.StringValue: makers of one cell.
  A list of parts to which one more is appended; an answer whose slice was there already.
-/
import Derived.Test.YtcglddahphkcpaaGreatDoorV17
import Derived.Test.YtcglddahphkcpaaGreatDoorV18
namespace Go.Proofs.YtcglddahphkcpaaGreatDoor
open Go.RowKit
namespace M

theorem kids_sup {P v : List Cl} {a e : Nat} (hs : Sub P v a e) (f : Nat) (ih : ∀ p e1 d1, p < P.length → walk P f p = some (e1, d1) → walk v f (a + p) = some (a + e1, d1)) (c c' : Cl) (hc : c'.kind = c.kind) (m : Nat) :
    ∀ k p d last e1 d1, 0 < p → p ≤ P.length → d ≤ f → kids (walk P f) P c' m k p d last = some (e1, d1) → kids (walk v f) v c m k (a + p) d last = some (a + e1, d1) := by
  induction m with
  | zero =>
    intro k p d last e1 d1 hp _ _ h
    simp only [kids, Option.some.injEq, Prod.mk.injEq] at h ⊢
    obtain ⟨rfl, rfl⟩ := h
    exact ⟨rfl, rfl⟩
  | succ m ihm =>
    intro k p d last e1 d1 hp hpl hd h
    simp only [kids] at h ⊢
    split at h
    · cases h
    rename_i hb
    have hlt : p < P.length := by
      by_cases hx : p < P.length
      · exact hx
      · exact absurd (show bad P c' k p last = true by unfold bad; rw [if_neg hx]) hb
    have hltv : a + p < v.length := by have := hs.len; have := hs.top; omega
    split at h
    · cases h
    · rename_i e2 d2 hr
      have hw := walk_bd P f p hlt _ hr
      simp only at hw
      have hsame := hs.same p hp hlt
      have hbv : bad v c k (a + p) last = false := by
        have hb' : bad P c' k p last = false := by cases hx : bad P c' k p last with | true => exact absurd hx hb | false => rfl
        unfold bad at hb' ⊢
        rw [if_pos hlt, hsame, hc] at hb'
        rw [if_pos hltv]
        exact hb'
      rw [if_neg (by rw [hbv]; simp), ih p e2 d2 hlt hr]
      simp only
      rw [← hsame]
      exact ihm (k + 1) e2 (max d d2) (P.getD p zero).key e1 d1 (by omega) hw.2.1 (by omega) h

theorem walk_sup {P v : List Cl} {a e : Nat} (hs : Sub P v a e) (f : Nat) : ∀ p e1 d1, p < P.length → walk P f p = some (e1, d1) → walk v f (a + p) = some (a + e1, d1) := by
  induction f with
  | zero => intro p e1 d1 _ h; cases h
  | succ f ih =>
    intro p e1 d1 hp h
    simp only [walk, Option.map_eq_some_iff] at h ⊢
    obtain ⟨⟨x, y⟩, h1, h2⟩ := h
    simp only [Prod.mk.injEq] at h2
    obtain ⟨rfl, rfl⟩ := h2
    refine ⟨(a + x, y), ?_, rfl⟩
    rw [← hs.n p hp]
    have := kids_sup hs f ih (v.getD (a + p) zero) (P.getD p zero) (hs.kind p hp) _ 0 (p + 1) 0 ByteArray.empty x y (by omega) (by omega) (by omega) h1
    rw [show a + (p + 1) = a + p + 1 from by omega] at this
    exact this

/-- The key ahead of the k-th part. -/
def lastK (v : List Cl) (q : Nat → Nat) (k : Nat) : ByteArray := if k = 0 then ByteArray.empty else (v.getD (q (k - 1)) zero).key

theorem kids_made (v : List Cl) (c : Cl) (f D n : Nat) (q : Nat → Nat) (hq : ∀ j, j < n → ∃ d, walk v f (q j) = some (q (j + 1), d) ∧ d ≤ D) (hb : ∀ j, j < n → bad v c j (q j) (lastK v q j) = false) (m : Nat) :
    ∀ k d, k + m = n → d ≤ D → ∃ d', kids (walk v f) v c m k (q k) d (lastK v q k) = some (q n, d') ∧ d' ≤ D := by
  induction m with
  | zero => intro k d hk hd; exact ⟨d, by rw [kids, show k = n from by omega], hd⟩
  | succ m ih =>
    intro k d hk hd
    obtain ⟨d1, h1, h2⟩ := hq k (by omega)
    rw [kids, if_neg (by rw [hb k (by omega)]; simp), h1]
    simp only
    have := ih (k + 1) (max d d1) (by omega) (by omega)
    unfold lastK at this
    rw [if_neg (by omega), Nat.add_sub_cancel] at this
    exact this

end M

theorem code_setkey {c : M.Cl} {k : ByteArray} (h : M.cellCode c = 0) (hk : M.textOk k = true) : M.cellCode { c with key := k } = 0 := by
  unfold M.cellCode at h ⊢
  simp only at h ⊢
  split at h
  · cases h
  rename_i h1
  rw [if_neg h1]
  split at h
  · cases h
  rename_i h2
  rw [if_neg h2]
  split at h
  · cases h
  rename_i h3
  rw [if_neg h3]
  split at h
  · rename_i h4
    rw [if_pos ⟨h4.1, hk⟩]
  · cases h

theorem tot_flatten (qs : List (List M.Cl)) (k : Nat) : ((qs.take k).flatten).length = tot qs k := by simp [tot, List.length_flatten]

theorem flatten_at (qs : List (List M.Cl)) (j : Nat) (hj : j < qs.length) : ∃ rest, qs.flatten = (qs.take j).flatten ++ qs.getD j [] ++ rest := by
  refine ⟨(qs.drop (j + 1)).flatten, ?_⟩
  have h1 : qs.getD j [] = qs[j] := by rw [List.getD_eq_getElem?_getD, List.getElem?_eq_getElem hj]; rfl
  rw [h1, List.append_assoc]
  have : qs[j] ++ (qs.drop (j + 1)).flatten = (qs.drop j).flatten := by rw [List.drop_eq_getElem_cons hj]; rfl
  rw [this, ← List.flatten_append, List.take_append_drop]

/-- The p-th cell of the j-th part. -/
theorem made_at (h : M.Cl) (qs : List (List M.Cl)) (j p : Nat) (hj : j < qs.length) (hp : p < (qs.getD j []).length) : (h :: qs.flatten).getD (tot qs j + 1 + p) M.zero = (qs.getD j []).getD p M.zero := by
  obtain ⟨rest, e⟩ := flatten_at qs j hj
  rw [show tot qs j + 1 + p = (tot qs j + p) + 1 from by omega, List.getD_cons_succ, e]
  have hl := tot_flatten qs j
  generalize qs.getD j [] = q at *
  rw [List.getD_eq_getElem?_getD, List.getD_eq_getElem?_getD, List.getElem?_append_left (by rw [List.length_append]; omega), List.getElem?_append_right (by omega), hl, Nat.add_sub_cancel_left]

theorem made_length (h : M.Cl) (qs : List (List M.Cl)) : (h :: qs.flatten).length = tot qs qs.length + 1 := by
  rw [List.length_cons, ← tot_flatten qs qs.length, List.take_length]

theorem mem_part {qs : List (List M.Cl)} {c : M.Cl} (hc : c ∈ qs.flatten) : ∃ j, j < qs.length ∧ c ∈ qs.getD j [] := by
  obtain ⟨l, h1, h2⟩ := List.mem_flatten.1 hc
  obtain ⟨j, h3, rfl⟩ := List.getElem_of_mem h1
  exact ⟨j, h3, by rw [List.getD_eq_getElem?_getD, List.getElem?_eq_getElem h3]; exact h2⟩

theorem first_all {l : List M.Cl} (h : ∀ c ∈ l, M.cellCode c = 0) : M.firstCode l = 0 := by
  induction l with
  | nil => rfl
  | cons c r ih => rw [M.firstCode, if_pos (h c (by simp))]; exact ih fun x hx => h x (by simp [hx])

/-- A part that was laid: a value without a fault, with a key at its first cell. -/
def Laid (q : List M.Cl) : Prop := ∃ p k d, q = setKey p k ∧ M.valueFault p = 0 ∧ M.textOk k = true ∧ M.walk p p.length 0 = some (p.length, d) ∧ d ≤ 19

theorem made_ok (h : M.Cl) (qs : List (List M.Cl)) (hcode : M.cellCode h = 0) (hkey : h.key.toList = []) (hn : h.n = qs.length) (hlen : tot qs qs.length + 1 ≤ 200) (hq : ∀ j, j < qs.length → Laid (qs.getD j []))
    (h5 : h.kind = 5 → ∀ j, j < qs.length → ((qs.getD j []).getD 0 M.zero).key.toList = [])
    (h6 : h.kind = 6 → ∀ j, j + 1 < qs.length → M.keyLe ((qs.getD (j + 1) []).getD 0 M.zero).key ((qs.getD j []).getD 0 M.zero).key = false) : M.valueFault (h :: qs.flatten) = 0 := by
  have hL := made_length h qs
  have hpos : ∀ j, j < qs.length → 0 < (qs.getD j []).length := fun j hj => by
    obtain ⟨p, k, d, e, hv, _⟩ := hq j hj
    rw [e, setKey_length]; exact (fault_len hv).1
  have hmono : ∀ j, j < qs.length → tot qs (j + 1) ≤ tot qs qs.length := fun j hj => tot_le qs qs.length (j + 1) (by omega) (Nat.le_refl _)
  have hfc : M.firstCode (h :: qs.flatten) = 0 := by
    refine first_all fun c hc => ?_
    rcases List.mem_cons.1 hc with rfl | hc
    · exact hcode
    · obtain ⟨j, hj, hm⟩ := mem_part hc
      obtain ⟨p, k, d, e, hv, ht, _⟩ := hq j hj
      rw [e] at hm
      have hz := M.first_zero (M.fault_zero hv).2.2.1
      cases p with
      | nil => simp [setKey] at hm
      | cons c0 r =>
        simp only [setKey, List.mem_cons] at hm
        rcases hm with rfl | hm
        · exact code_setkey (hz c0 (by simp)) ht
        · exact hz c (by simp [hm])
  obtain ⟨f, hf⟩ : ∃ f, (h :: qs.flatten).length = f + 1 := ⟨tot qs qs.length, hL⟩
  have hwalk : ∀ j, j < qs.length → ∃ d, M.walk (h :: qs.flatten) f (tot qs j + 1) = some (tot qs (j + 1) + 1, d) ∧ d ≤ 19 := by
    intro j hj
    obtain ⟨p, k, d, e, hv, ht, hw, hd⟩ := hq j hj
    have hpl := (fault_len hv).1
    have hql : (qs.getD j []).length = p.length := by rw [e, setKey_length]
    have hts := tot_succ qs j hj
    have hm := hmono j hj
    have hs : M.Sub p (h :: qs.flatten) (tot qs j + 1) (tot qs (j + 1) + 1) := by
      have hat : ∀ i, i < p.length → (h :: qs.flatten).getD (tot qs j + 1 + i) M.zero = (setKey p k).getD i M.zero := fun i hi => by rw [made_at h qs j i hj (by omega), e]
      refine ⟨by omega, by omega, by omega, ?_, ?_, ?_⟩
      · intro i hi
        rw [hat i hi]
        by_cases h0 : i = 0
        · subst h0; rw [setKey_zero p k (by intro e; rw [e] at hpl; simp at hpl)]
        · rw [setKey_getD p k i (by omega)]
      · intro i hi
        rw [hat i hi]
        by_cases h0 : i = 0
        · subst h0; rw [setKey_zero p k (by intro e; rw [e] at hpl; simp at hpl)]
        · rw [setKey_getD p k i (by omega)]
      · intro i h0 hi
        rw [hat i hi, setKey_getD p k i h0]
    have hw2 := M.walk_le p p.length f (by omega) 0 _ hw
    have := M.walk_sup hs f 0 _ _ (by omega) hw2
    rw [Nat.add_zero, show tot qs j + 1 + p.length = tot qs (j + 1) + 1 from by omega] at this
    exact ⟨d, this, hd⟩
  have hfirst : ∀ j, j < qs.length → (h :: qs.flatten).getD (tot qs j + 1) M.zero = (qs.getD j []).getD 0 M.zero := fun j hj => made_at h qs j 0 hj (hpos j hj)
  have hbad : ∀ j, j < qs.length → M.bad (h :: qs.flatten) h j (tot qs j + 1) (M.lastK (h :: qs.flatten) (fun j => tot qs j + 1) j) = false := by
    intro j hj
    have hm := hmono j hj
    have hts := tot_succ qs j hj
    have hp0 := hpos j hj
    unfold M.bad
    rw [if_pos (by omega), hfirst j hj]
    rw [Bool.or_eq_false_iff]
    refine ⟨?_, ?_⟩
    · by_cases hk : h.kind = 5
      · rw [h5 hk j hj]; simp
      · simp [hk]
    · by_cases hk : h.kind = 6
      · by_cases h0 : 0 < j
        · have h7 := h6 hk (j - 1) (by omega)
          rw [show j - 1 + 1 = j from by omega] at h7
          unfold M.lastK
          rw [if_neg (by omega), hfirst (j - 1) (by omega), h7]
          simp
        · simp [h0]
      · simp [hk]
  obtain ⟨d', hk, hd'⟩ := M.kids_made (h :: qs.flatten) h f 19 qs.length (fun j => tot qs j + 1) hwalk hbad qs.length 0 0 (by omega) (by omega)
  have hw : M.walk (h :: qs.flatten) (h :: qs.flatten).length 0 = some ((h :: qs.flatten).length, d' + 1) := by
    rw [hf, M.walk]
    simp only [List.getD_cons_zero]
    rw [hn, Int.toNat_natCast]
    have h0 : M.lastK (h :: qs.flatten) (fun j => tot qs j + 1) 0 = ByteArray.empty := rfl
    rw [h0] at hk
    simp only [tot_zero, Nat.zero_add] at hk
    simp only [Nat.zero_add]
    rw [hk]
    simp only [Option.map_some]
    rw [← hL, hf]
  unfold M.valueFault
  rw [if_neg (by omega), if_neg (by simp [hfc]), hw]
  simp only
  rw [if_neg, if_neg (by omega)]
  intro hx
  rcases hx with hx | hx
  · exact hx rfl
  · exact hx (by rw [List.getD_cons_zero]; exact hkey)

theorem laid_of {p : List M.Cl} {d : Nat} (hv : M.valueFault p = 0) (hw : M.walk p p.length 0 = some (p.length, d)) (hd : d ≤ 19) : Laid p :=
  ⟨p, ByteArray.empty, d, (setKey_none hv).symm, hv, by decide, hw, hd⟩

/-- An array of parts without a fault that are not too deep has none, if it is not too great. -/
theorem arr_valid {ps : List (List M.Cl)} (hv : ∀ j, j < ps.length → M.valueFault (ps.getD j []) = 0) (hd : ∀ j, j < ps.length → Laid (ps.getD j [])) (hlen : tot ps ps.length + 1 ≤ 200) (hn : ps.length ≤ 200) : M.valueFault (arrV ps) = 0 := by
  have e : arrV ps = headCl 5 ps.length :: ps.flatten := by unfold arrV arrK; rw [List.take_length]
  rw [e]
  refine made_ok _ ps ?_ empty_toList rfl hlen hd (fun _ j hj => ?_) (fun h => absurd (show (5 : Int) = 6 from h) (by decide))
  · unfold headCl M.cellCode
    simp only
    rw [if_neg (by omega), if_neg, if_neg (by omega), if_pos ⟨by decide, by decide⟩]
    intro h
    rcases h with h | h | h
    · exact h.1 rfl
    · exact h.1 empty_toList
    · exact h.2.1 rfl
  · rw [fault_key (hv j hj)]; exact empty_toList

end Go.Proofs.YtcglddahphkcpaaGreatDoor

namespace Go.Proofs.YtcglddahphkcpaaGreatDoor
open Go.RowKit
set_option linter.unusedVariables false

set_option maxHeartbeats 1000000 in
theorem layArrayV_any (a : Option Addr) (cap : Nat) (ps : List (List M.Cl)) (w : World) (hL : LV w a ps) (hcap : ps.length ≤ cap) (hn : ps.length ≤ 4096) (hv : ∀ j, j < ps.length → M.valueFault (ps.getD j []) = 0) :
    Calls Tryz.prog 95 #[.slice a ps.length cap] w fun e w' => ∃ s, e = .returned s ∧ Res w' w.heap.size s (arrV ps) ∧ Below w.heap.size w w' := by
  have HL := hide hL
  have HV := hide hv
  clear hL hv
  go_enter Tryz.func95, Tryz.ntmps95
  go_wp2_with fail
  go_loopg [3, 12] ps.length (fun gh s3 s12 wr => ∃ k : Nat, Hid (gh = ps.length - k) ∧ s12 = .int .i64 k ∧ k ≤ ps.length ∧ wr.ownsRow w.heap.size 111 5 s3 (arrK ps k).length (flat (arrK ps k)) ∧ Below w.heap.size w wr)
  case atStart => exact ⟨0, rfl, rfl, by omega, one_own w w.heap.size _ (headCl 5 ps.length) rfl (Nat.le_refl _), (Below.refl _ _).alloc (Nat.le_refl _) _⟩
  case round =>
    obtain ⟨k, hg, rfl, hk, hown, hbel⟩ := hrel
    by_cases hlt : k < ps.length
    · obtain ⟨g, b, off, c, rfl, hgl, f0, hc, hb, hr⟩ := ((unhide HL).below hbel) k hlt
      have hpf := (unhide HV) k hlt
      have hp := fault_len hpf
      have hal := arrK_length ps k
      have hts := tot_small ps k hk (fun j hj => (fault_len ((unhide HV) j (by omega))).2)
      have hpn : ps.getD k [] ≠ [] := by intro e; rw [e] at hp; simp at hp
      have HAP := hide (appendPart_any w.heap.size u3 (arrK ps k) (ps.getD k []) b off c ByteArray.empty wr hown hr hpn (by omega) hbel.size)
      rw [setKey_none hpf, ← arrK_succ ps k hlt] at HAP
      clear hown hr hpn hpf hal hts
      generalize ps.getD k [] = p at *
      go_wp2_with fail
      refine (unhide HAP).mono ?_
      rintro e2 w2 ⟨v', rfl, ho2, hb2⟩
      have B2 : Below w.heap.size w w2 := hbel.trans hb2
      have HO2 := hide ho2
      clear ho2 hb2 f0 HAP
      go_wp2_with fail
      go_roundg (ps.length - (k + 1))
      case rel => exact ⟨k + 1, rfl, by go_num, by omega, unhide HO2, B2⟩
      case measure => have := hg.out; omega
    · have hke : k = ps.length := by omega
      have hal := arrK_length ps k
      have hts := tot_small ps k hk (fun j hj => (fault_len ((unhide HV) j (by omega))).2)
      have fin := hide (show Res wr w.heap.size u3 (arrV ps) by unfold arrV; rw [← hke]; exact res_of_owns hown (by omega))
      clear hke hown hal hts
      go_wp2_with fail
      go_ret
      exact ⟨_, rfl, unhide fin, hbel⟩

set_option maxHeartbeats 1000000 in
theorem l1ArrayV_any (a : Option Addr) (cap : Nat) (ps : List (List M.Cl)) (w : World) (hL : LV w a ps) (hcap : ps.length ≤ cap) (hn : ps.length ≤ 4096) (hv : ∀ j, j < ps.length → M.valueFault (ps.getD j []) = 0) :
    Calls Tryz.prog 85 #[.slice a ps.length cap] w fun e w' => ∃ s, e = .returned s ∧ Res w' w.heap.size s (arrV ps) ∧ Below w.heap.size w w' := by
  have HL := hide hL
  have HV := hide hv
  clear hL hv
  obtain ⟨i0, hi, hz0, hz1, hz2⟩ := info_parts Tryz.info111
  go_enter Tryz.func85, Tryz.ntmps85
  go_wp2_with fail
  go_loopg [3, 4] ps.length (fun gh s3 s4 wr => ∃ k : Nat, Hid (gh = ps.length - k) ∧ s4 = .int .i64 k ∧ k ≤ ps.length ∧ wr.ownsRow w.heap.size 111 5 s3 (arrK ps k).length (flat (arrK ps k)) ∧ Below w.heap.size w wr)
  case atStart => exact ⟨0, rfl, rfl, by omega, one_own w w.heap.size _ (headCl 5 ps.length) rfl (Nat.le_refl _), (Below.refl _ _).alloc (Nat.le_refl _) _⟩
  case round =>
    obtain ⟨k, hg, rfl, hk, hown, hbel⟩ := hrel
    by_cases hlt : k < ps.length
    · obtain ⟨g, b, off, c, rfl, hgl, f0, hc, hb, hr⟩ := ((unhide HL).below hbel) k hlt
      have hp := fault_len ((unhide HV) k hlt)
      have hal := arrK_length ps k
      have hts := tot_small ps k hk (fun j hj => (fault_len ((unhide HV) j (by omega))).2)
      have hsucc := hide (show flat (arrK ps k) ++ flat (ps.getD k []) = flat (arrK ps (k + 1)) by rw [arrK_succ ps k hlt, flat_append])
      have hsl := hide (show (arrK ps k).length + (ps.getD k []).length = (arrK ps (k + 1)).length by rw [arrK_succ ps k hlt, List.length_append])
      have hnews := hide (row_words hr)
      have hone := hide (flat_one (ps.getD k []))
      have HFL := hide (flat_length (ps.getD k []))
      clear hr
      generalize ps.getD k [] = p at *
      have hb63 : (arrK ps k).length + p.length ≤ maxLen := by unfold maxLen; omega
      have hby : ((arrK ps k).length + p.length) * 56 ≤ 140737488355328 := by omega
      have hbse := hide (ownsRow_base hown)
      have HOWN := hide hown
      have hbase := hbel.size
      clear hown hal hts
      go_wp2_with (at_builtin; refine wpList_append_own _ rfl (.tmp 15) (.tmp 19) 24 rfl w.heap.size 111 i0 _ 5 56 Tryz.underlying24 hi hz0 hz1 hz2 rfl (by decide) _ (arrK ps k).length _ rfl (unhide HOWN) ⟨b, off, none⟩ p.length c (flat p) rfl (unhide HFL) (unhide hnews) (unhide hone) hb63 hby hbase ?_)
      intro v' w2 ho2 hg2 _
      rw [unhide hsucc, unhide hsl] at ho2
      have B2 : Below w.heap.size w w2 := hbel.grown hg2 hbase (unhide hbse)
      have HO2 := hide ho2
      clear ho2 hg2 f0
      go_wp2_with fail
      go_roundg (ps.length - (k + 1))
      case rel => exact ⟨k + 1, rfl, by go_num, by omega, unhide HO2, B2⟩
      case measure => have := hg.out; omega
    · have hke : k = ps.length := by omega
      have hal := arrK_length ps k
      have hts := tot_small ps k hk (fun j hj => (fault_len ((unhide HV) j (by omega))).2)
      have fin := hide (show Res wr w.heap.size u3 (arrV ps) by unfold arrV; rw [← hke]; exact res_of_owns hown (by omega))
      clear hke hown hal hts
      go_wp2_with fail
      go_ret
      exact ⟨_, rfl, unhide fin, hbel⟩

end Go.Proofs.YtcglddahphkcpaaGreatDoor

namespace Go.Proofs.YtcglddahphkcpaaGreatDoor
open Go.RowKit
set_option linter.unusedVariables false

def strOut (s : ByteArray) : Int × List M.Cl := if M.textOk s = true then (0, [⟨4, 0, s, ByteArray.empty, 0⟩]) else (5, [])
theorem str_bad {s : ByteArray} (h : M.textOk s = false) : strOut s = (5, []) := by unfold strOut; rw [if_neg (by simp [h])]
theorem str_ok {s : ByteArray} (h : M.textOk s = true) : strOut s = (0, [⟨4, 0, s, ByteArray.empty, 0⟩]) := by unfold strOut; rw [if_pos h]

set_option maxHeartbeats 400000 in
theorem l1Number_any (n : Int) (w : World) : Calls Tryz.prog 108 #[.int .i64 n] w fun e w' => ∃ s, e = .returned s ∧ Res w' w.heap.size s [⟨3, n, ByteArray.empty, ByteArray.empty, 0⟩] ∧ Below w.heap.size w w' := by
  go_enter Tryz.func108, Tryz.ntmps108
  go_wp2_with fail
  go_ret
  exact ⟨_, rfl, one_cell w w.heap.size w.heap.size ⟨3, n, ByteArray.empty, ByteArray.empty, 0⟩ rfl (Nat.le_refl _), (Below.refl _ _).alloc (Nat.le_refl _) _⟩
set_option maxHeartbeats 400000 in
theorem l1String_any (s : ByteArray) (w : World) : Calls Tryz.prog 109 #[.string s] w fun e w' => ∃ r, e = .returned r ∧ Res w' w.heap.size r [⟨4, 0, s, ByteArray.empty, 0⟩] ∧ Below w.heap.size w w' := by
  go_enter Tryz.func109, Tryz.ntmps109
  go_wp2_with fail
  go_ret
  exact ⟨_, rfl, one_cell w w.heap.size w.heap.size ⟨4, 0, s, ByteArray.empty, 0⟩ rfl (Nat.le_refl _), (Below.refl _ _).alloc (Nat.le_refl _) _⟩

end Go.Proofs.YtcglddahphkcpaaGreatDoor

namespace Go.Proofs.YtcglddahphkcpaaGreatDoor
open Go.RowKit
set_option linter.unusedVariables false

/-- The slice that is stored lies behind the answer's own cell. -/
theorem Ans.storeC {w w2 : World} {C : Nat} {s : Value} {l : List M.Cl} (hr : Res w2 C s l) (hC : w.heap.size < C) (B2 : Below w.heap.size w w2) (x y : Value) :
    Res ((w2.setCell ⟨w.heap.size, 0, none⟩ x).setCell ⟨w.heap.size, 1, none⟩ y) w.heap.size s l ∧ Below w.heap.size w ((w2.setCell ⟨w.heap.size, 0, none⟩ x).setCell ⟨w.heap.size, 1, none⟩ y) := by
  have hne : ∀ b, s.ownBlock = some b → b ≠ w.heap.size := fun b h => by have := hr.base b h; omega
  exact ⟨((hr.mono (by omega)).setOther _ _ hne).setOther _ _ hne, (B2.setCell (Nat.le_refl _) _).setCell (Nat.le_refl _) _⟩
theorem field_value (c : Int) (a : Option Addr) (n k : Nat) (w : World) : (Instr.field 59 (.agg #[.int .i64 c, .slice a n k]) 1).run Tryz.prog w = .ok (.slice a n k) w := by kernel_rfl
theorem one_plain' (a : Option Addr) (n k : Nat) : ∀ u ∈ ([Value.slice a n k] : List Value), u.oneCell' = true := by
  intro u hu; simp only [List.mem_cons, List.not_mem_nil, or_false] at hu; subst hu; rfl
def strCl (s : ByteArray) : M.Cl := ⟨4, 0, s, ByteArray.empty, 0⟩
theorem code_str {s : ByteArray} (h : M.textOk s = true) : M.cellCode (strCl s) = 0 := by
  unfold strCl M.cellCode
  simp only
  rw [if_neg (by omega), if_neg, if_neg (by omega), if_pos ⟨h, by decide⟩]
  intro h
  rcases h with h | h | h
  · exact h.1 rfl
  · exact h.2 rfl
  · exact h.1 rfl
theorem one_valid {c : M.Cl} (hc : M.cellCode c = 0) (hk : c.key.toList = []) (hn : c.n = 0) : M.valueFault [c] = 0 ∧ M.walk [c] 1 0 = some (1, 1) := by
  have hw : M.walk [c] 1 0 = some (1, 1) := by simp [M.walk, M.kids, hn]
  refine ⟨?_, hw⟩
  unfold M.valueFault
  rw [if_neg (by simp), if_neg (by simp [M.firstCode, hc])]
  simp only [List.length_cons, List.length_nil, Nat.zero_add]
  rw [hw]
  simp only
  rw [if_neg (by simp [hk]), if_neg (by omega)]
theorem one_laid {c : M.Cl} (hc : M.cellCode c = 0) (hk : c.key.toList = []) (hn : c.n = 0) : Laid [c] := laid_of (d := 1) (one_valid hc hk hn).1 (one_valid hc hk hn).2 (by omega)
/-- Lists of parts of one cell each. -/
theorem tot_ones {ps : List (List M.Cl)} (h : ∀ j, j < ps.length → (ps.getD j []).length = 1) (k : Nat) (hk : k ≤ ps.length) : tot ps k = k := by
  induction k with
  | zero => rw [tot_zero]
  | succ k ih => rw [tot_succ ps k (by omega), ih (by omega), h k (by omega)]

end Go.Proofs.YtcglddahphkcpaaGreatDoor
