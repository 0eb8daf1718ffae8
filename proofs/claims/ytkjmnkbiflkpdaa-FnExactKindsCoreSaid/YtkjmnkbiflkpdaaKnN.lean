/-
  impl.knownOfLast: what is known of the last node.
-/
import Derived.Test.YtkjmnkbiflkpdaaKnL
namespace Go.Proofs.Ytkjmnkbiflkpdaa
open Go.RowKit
set_option linter.unusedVariables false
set_option linter.unusedSimpArgs false

namespace Kn
theorem cells_len (k : Kn) : (cells k).length = 20 := rfl
theorem flat_get : ∀ (L : List Kn) (i j : Nat), i < L.length → j < 20 → (L.flatMap cells)[i * 20 + j]? = (cells (g L i))[j]? := by
  intro L
  induction L with
  | nil => intro i j h; simp at h
  | cons k r ih =>
    intro i j hi hj
    rw [List.flatMap_cons]
    cases i with
    | zero =>
      rw [List.getElem?_append_left (by rw [cells_len]; omega), Nat.zero_mul, Nat.zero_add]
      rfl
    | succ i =>
      rw [List.getElem?_append_right (by rw [cells_len]; omega), cells_len, show (i + 1) * 20 + j - 20 = i * 20 + j by omega, ih i j (by simpa using hi) hj]
      rfl
theorem flat_len (L : List Kn) : (L.flatMap cells).length = L.length * 20 := by
  induction L with
  | nil => rfl
  | cons k r ih => rw [List.flatMap_cons, List.length_append, cells_len, ih, List.length_cons]; omega
/-- A row of what is known, made by appends. -/
def Al (w : World) (B : Nat) (v : Value) (L : List Kn) : Prop := (L = [] ∧ v = .slice none 0 0) ∨ (L ≠ [] ∧ w.ownsRow B 55 20 v L.length (L.flatMap cells))
theorem Al.owns {w : World} {B : Nat} {v : Value} {L : List Kn} (h : Al w B v L) : w.ownsRow B 55 20 v L.length (L.flatMap cells) := by
  rcases h with ⟨rfl, rfl⟩ | ⟨_, h⟩
  · exact World.ownsRow_nil _ _ _ _
  · exact h
theorem Al.below {w w' : World} {B : Nat} {v : Value} {L : List Kn} (h : Al w B v L) (hb : Below w.heap.size w w') : Al w' B v L := by
  rcases h with h | ⟨h0, h⟩
  · exact .inl h
  · exact .inr ⟨h0, Tr.owns_below h hb⟩
theorem Al.shape {w : World} {B : Nat} {v : Value} {L : List Kn} (h : Al w B v L) : ∃ a c, v = .slice a L.length c := by
  rcases h with ⟨rfl, rfl⟩ | ⟨_, _, ⟨h2, h3⟩ | ⟨g, cap, cur, h3, _⟩⟩
  · exact ⟨_, _, rfl⟩
  · exact ⟨none, 0, by rw [h2, h3]⟩
  · exact ⟨_, _, h3⟩
theorem Al.row {w : World} {B : Nat} {v : Value} {L : List Kn} (h : Al w B v L) (h0 : L ≠ []) : ∃ q cap, v = .slice (some ⟨q, 0, none⟩) L.length cap ∧ L.length ≤ cap ∧ Kr w q 0 L := by
  rcases h with ⟨h1, _⟩ | ⟨_, h⟩
  · exact absurd h1 h0
  rcases h.2 with ⟨_, h3⟩ | ⟨q, cap, cur, rfl, _, hg, hnc, _⟩
  · exact absurd (List.length_eq_zero_iff.1 h3) h0
  refine ⟨q, cap, rfl, hnc, (Array.getElem?_eq_some_iff.1 hg).1, fun i hi j hj => ?_⟩
  have h4 := flat_get L i j hi hj
  have h5 : (cells (g L i))[j]? = some ((cells (g L i))[j]'(by rw [cells_len]; exact hj)) := List.getElem?_eq_getElem _
  have h6 := h.cells (g := q) rfl (i * 20 + j) _ (h4.trans h5)
  rw [Addr.add_mid] at h6
  rw [h5, Nat.zero_add]
  rw [Nat.zero_add] at h6
  exact h6
theorem Al.lies {w : World} {B : Nat} {v : Value} {L : List Kn} (h : Al w B v L) : Lies w v L := by
  by_cases h0 : L = []
  · rcases h with h | ⟨h1, _⟩
    · exact .inl h
    · exact absurd h0 h1
  · obtain ⟨q, cap, hv, hc, hr⟩ := h.row h0
    exact .inr ⟨q, cap, h0, hv, hc, hr⟩
theorem Al.push {w : World} {B : Nat} {v : Value} {L : List Kn} {k : Kn} (h : w.ownsRow B 55 20 v (L.length + 1) (L.flatMap cells ++ cells k)) : Al w B v (L ++ [k]) := by
  refine .inr ⟨by simp, ?_⟩
  rw [List.flatMap_append, List.length_append]
  simpa using h
theorem infoKn : (Try.prog.info? 55).map (fun i => (i.zero, i.size, i.bytes)) = some (some (.agg zArr), 20, 160) := by kernel_rfl
theorem new_cells (w : World) (k : Kn) : ∀ j u, (cells k)[j]? = some u → (w.alloc (.cells (arr k) 55)).cell? ((⟨w.heap.size, 0, none⟩ : Addr).add j) = some u := fun j u hu => by
  have h : Own (w.alloc (.cells (arr k) 55)) w.heap.size 55 (cells k) := ⟨_, heap_alloc_new _ _, rfl⟩
  rw [Addr.add_mid, Nat.zero_add, h.cell j]
  exact hu
theorem cells_ones (k : Kn) : ∀ u ∈ cells k, u.oneCell' = true := fun u hu => by
  have h := (Array.all_eq_true_iff_forall_mem.1 (cells_one k)) u (by simpa using hu)
  exact h
/-- What a node names, place by place. -/
theorem link_at {l : List Co} (hf : Tr.Fine (Co.tree l)) {i : Nat} (hi : i < l.length) {j : Nat} (hj : j < Co.kids (l.getD i Co.zero).op) : ∃ x : Nat, Tr.kidAt ((Co.tree l).getD i Nd.zero) j = (x : Int) ∧ x < i ∧ (lks (l.getD i Co.zero)).take (j + 1) = (lks (l.getD i Co.zero)).take j ++ [x] := by
  have hk : Tr.kids ((Co.tree l).getD i Nd.zero).op = Co.kids (l.getD i Co.zero).op := by rw [Co.tree_getD l hi]; exact Co.nd_kids _
  have hj' : j < Tr.kids ((Co.tree l).getD i Nd.zero).op := by rw [hk]; exact hj
  have h1 := Tr.kid_fine hf i (by rw [Co.tree_length]; exact hi) j hj'
  have h2 := Tr.links_getD ((Co.tree l).getD i Nd.zero) j hj'
  have hlen : j < (lks (l.getD i Co.zero)).length := by rw [lks_len]; exact hj
  refine ⟨(Tr.kidAt ((Co.tree l).getD i Nd.zero) j).toNat, by omega, by omega, ?_⟩
  have e : (lks (l.getD i Co.zero))[j]'hlen = (Tr.kidAt ((Co.tree l).getD i Nd.zero) j).toNat := by
    have h3 : (lks (l.getD i Co.zero))[j]? = some (Tr.kidAt ((Co.tree l).getD i Nd.zero) j).toNat := by
      have hl : j < ([(l.getD i Co.zero).a, (l.getD i Co.zero).b, (l.getD i Co.zero).c].take (Co.kids (l.getD i Co.zero).op)).length := by
        have := lks_len (l.getD i Co.zero)
        unfold lks at this
        rw [List.length_map] at this
        omega
      unfold lks
      rw [Co.tree_links l hi, List.getD_eq_getElem?_getD, List.getElem?_eq_getElem hl] at h2
      rw [List.getElem?_map, List.getElem?_eq_getElem hl, ← h2]
      rfl
    rw [List.getElem?_eq_getElem hlen] at h3
    exact Option.some.inj h3
  rw [List.take_succ_eq_append_getElem hlen, e]
end Kn
set_option maxRecDepth 100000 in
set_option maxHeartbeats 4000000 in
theorem knownOfLast_any (b : Nat) (l : List Co) (w : World) (hrow : Co.Row w b l) (hb : b < w.heap.size) (h0 : 0 < l.length) (h900 : l.length ≤ 900) (hop : ∀ i, i < l.length → 1 ≤ (l.getD i Co.zero).op ∧ (l.getD i Co.zero).op ≤ 17) (hf : Tr.Fine (Co.tree l)) (hkf : ∀ i, i < l.length → Kn.KF (Kn.at' l i).ki 1000) :
    Calls Try.prog 25 #[.slice (some ⟨b, 0, none⟩) l.length l.length] w fun e w' => e = .returned (.agg (Kn.cells (Kn.at' l (l.length - 1))).toArray) ∧ Below w.heap.size w w' := by
  obtain ⟨i0, hi, hz⟩ := Option.map_eq_some_iff.1 Kn.infoKn
  simp only [Prod.mk.injEq] at hz
  obtain ⟨hz0, hz1, hz2⟩ := hz
  obtain ⟨W0, hW0⟩ : ∃ W0, W0 = w.alloc (.cells Kn.zArr 55) := ⟨_, rfl⟩
  have B0 : Below w.heap.size w W0 := by rw [hW0]; exact (Below.refl _ _).alloc (Nat.le_refl _) _
  have O0 : Own W0 w.heap.size 55 Kn.zArr.toList := by rw [hW0]; exact ⟨_, heap_alloc_new _ _, rfl⟩
  have HCP := hide (corePlaces_any b l W0 (hrow.below B0 hb) (Nat.lt_of_lt_of_le hb B0.size) h900 hop)
  have HROW := hide (fun (V : World) (hV : Below w.heap.size w V) => hrow.below hV hb)
  have HOP := hide hop
  have HF := hide hf
  have HKF := hide hkf
  have HFIT := hide (fun i (hi : i < l.length) => Kn.at_fit hf l.length i hi hi)
  have HAT := hide (fun i (hi : i < l.length) => Kn.at_eq hf hi)
  have hb0 : b < w.heap.size := hb
  clear hrow hop hf hkf
  go_enter Try.func25, Try.ntmps25
  go_upto_region 0 with fail
  refine wp_region_lit ?_
  refine Kn.step_val (v := .pointer (some ⟨w.heap.size, 0, none⟩)) (w' := W0) rfl (by rw [hW0]; kernel_rfl) ?_
  simp only [Act.put, List.setIfInBounds_toArray, List.set_cons_zero, List.set_cons_succ]
  clear hW0
  go_wp2_with fail
  refine (unhide HCP).mono ?_
  rintro e w1 ⟨v, gs, rfl, hgl, hnp, hb1⟩
  obtain ⟨gp, cap, hv, hcap, hgp⟩ := hnp.some (by omega)
  subst hv
  rw [hgl] at hcap hnp ⊢
  have B1 : Below w.heap.size w w1 := B0.trans (hb1.mono B0.size)
  have O1 := O0.below hb1 O0.lt
  have HNP := hide hnp
  have HGL := hide hgl
  clear HCP hnp hgl hb1 B0 O0
  go_wp2_with fail
  go_loopg [3, 12] l.length (fun gh s3 s12 wr => ∃ (k : Nat), Hid (gh = l.length - k) ∧ s12 = .int .i64 k ∧ k ≤ l.length ∧ Hid (Kn.Al wr w1.heap.size s3 ((List.range k).map (Kn.at' l))) ∧ Hid (Below w1.heap.size w1 wr))
  case atStart => exact ⟨0, rfl, rfl, by omega, .inl ⟨rfl, rfl⟩, Below.refl _ _⟩
  case round =>
  rename World => wo
  obtain ⟨k, hg, rfl, hk, HAL, HBR⟩ := hrel
  have BW : Below w.heap.size w wo := B1.trans ((unhide HBR).mono B1.size)
  by_cases hlt : k < l.length
  · have hltI : (k : Int) < (l.length : Int) := by omega
    have hkg : k < gs.length := by rw [unhide HGL]; exact hlt
    have hopk := (unhide HOP) k hlt
    have hk3 := Co.kids_le (l.getD k Co.zero).op
    have hnd : Tr.kids ((Co.tree l).getD k Nd.zero).op = Co.kids (l.getD k Co.zero).op := by rw [Co.tree_getD l hlt]; exact Co.nd_kids _
    have f0 := ((unhide HBR).cell (by exact hgp)).trans (Tr.np_cell (unhide HNP) k hkg)
    rw [hnd] at f0
    have hog := ((unhide HNP).2 k hkg).2
    have hgl1 : gs.getD k 0 < wo.heap.size := Nat.lt_of_lt_of_le hog.lt (unhide HBR).size
    have hog2 := hog.below (unhide HBR) hog.lt
    have habc := hide (fun (V : World) (hV : Below wo.heap.size wo V) j hj => ((hog2.below hV hog2.lt).cell j).trans (Tr.abc_get ((Co.tree l).getD k Nd.zero) j hj))
    have HLK := hide (fun j hj => Kn.link_at (unhide HF) hlt (j := j) hj)
    obtain ⟨xa, xc, hs3⟩ := (unhide HAL).shape
    rw [List.length_map, List.length_range] at hs3
    subst hs3
    have HATK := hide ((unhide HAT) k hlt)
    have HLL := hide (Kn.lks_len (l.getD k Co.zero))
    have HLF := hide (fun x hx => Kn.lks_fine (unhide HF) hlt x hx)
    have HROWK := hide (fun (V : World) (hV : Below wo.heap.size wo V) => (unhide HROW) V (BW.trans (hV.mono BW.size)) k hlt)
    clear hog hog2 hkg hnd
    generalize (Co.tree l).getD k Nd.zero = nd at *
    generalize gs.getD k 0 = gk' at *
    generalize l.getD k Co.zero = c at *
    obtain ⟨ks, hks⟩ : ∃ ks, ks = Co.kids c.op := ⟨_, rfl⟩
    have HKS := hide hks
    rw [← hks] at f0 hk3 HLK HLL
    clear hks
    go_wp2_with fail
    go_loopg [6, 19] ks (fun gh s6 s19 w2 => ∃ (j : Nat), Hid (gh = ks - j) ∧ s19 = .int .i64 j ∧ j ≤ ks ∧ Hid (Kn.Al w2 wo.heap.size s6 (((Kn.lks c).take j).map (Kn.at' l))) ∧ Hid (Below wo.heap.size wo w2))
    case atStart => exact ⟨0, rfl, rfl, by omega, .inl ⟨rfl, rfl⟩, Below.refl _ _⟩
    case round =>
    obtain ⟨j, hgj, rfl, hj, HAP, HBI⟩ := hrel
    have hwi := (unhide HBI).size
    obtain ⟨ya, yc, hs6⟩ := (unhide HAP).shape
    rw [List.length_map, List.length_take, unhide HLL, Nat.min_eq_left hj] at hs6
    subst hs6
    by_cases hjl : j < ks
    · have hjI : (j : Int) < (ks : Int) := by omega
      have hj0 : (0 : Int) ≤ (j : Int) := by omega
      obtain ⟨x, hx, hxk, htk⟩ := (unhide HLK) j hjl
      have f1 := (unhide habc) wr (unhide HBI) j (by omega)
      rw [hx] at f1
      have hxI : (x : Int) < (k : Int) := by omega
      have hx0 : (0 : Int) ≤ (x : Int) := by omega
      have hAL2 := (unhide HAL).below (unhide HBI)
      obtain ⟨ga, cap2, hva, _, hkr⟩ := hAL2.row (by
        intro h
        have := congrArg List.length h
        rw [List.length_map, List.length_range] at this
        simp at this
        omega)
      rw [List.length_map, List.length_range] at hva
      have hgx : Kn.g ((List.range k).map (Kn.at' l)) x = Kn.at' l x := by
        unfold Kn.g
        rw [List.getD_eq_getElem?_getD, List.getElem?_map, List.getElem?_range hxk]
        rfl
      have hrg : wr.rangeAt ga (x * 20) (Kn.cells (Kn.at' l x)) := by
        rw [← hgx]
        exact hkr.range x (by rw [List.length_map, List.length_range]; exact hxk)
      have HNEW := hide (show ((Kn.lks c).take (j + 1)).map (Kn.at' l) = ((Kn.lks c).take j).map (Kn.at' l) ++ [Kn.at' l x] by rw [htk, List.map_append]; rfl)
      have HOWN := hide (show wr.ownsRow wo.heap.size 55 20 (.slice ya j yc) j ((((Kn.lks c).take j).map (Kn.at' l)).flatMap Kn.cells) by
        have := (unhide HAP).owns
        rw [List.length_map, List.length_take, unhide HLL, Nat.min_eq_left hj] at this
        exact this)
      have HLJ := hide (show (((Kn.lks c).take j).map (Kn.at' l)).length = j by rw [List.length_map, List.length_take, unhide HLL, Nat.min_eq_left hj])
      generalize Kn.at' l x = kx at *
      generalize ((Kn.lks c).take j).map (Kn.at' l) = P at *
      obtain ⟨hxa, hxc⟩ : xa = some ⟨ga, 0, none⟩ ∧ xc = cap2 := by injection hva with e1 _ e3; exact ⟨e1, e3⟩
      clear hAL2 hkr hgx hva htk hx hxk
      have HXA := hide hxa
      rw [hxa]
      clear hxa
      go_upto_region 9 with fail
      refine wp_region_lit ?_
      refine Kn.step_val (v := .slice ya j yc) (w' := wr) rfl (by rfl) ?_
      simp only [Act.put, List.setIfInBounds_toArray, List.set_cons_zero, List.set_cons_succ]
      refine Kn.step_val (v := .slice (some ⟨ga, 0, none⟩) k xc) (w' := wr) rfl (by rfl) ?_
      simp only [Act.put, List.setIfInBounds_toArray, List.set_cons_zero, List.set_cons_succ]
      refine Kn.step_val (v := .int .i64 (x : Int)) (w' := wr) rfl (by rfl) ?_
      simp only [Act.put, List.setIfInBounds_toArray, List.set_cons_zero, List.set_cons_succ]
      refine Kn.step_val (v := .pointer (some ⟨ga, x * 20, none⟩)) (w' := wr) rfl (by go_simp) ?_
      simp only [Act.put, List.setIfInBounds_toArray, List.set_cons_zero, List.set_cons_succ]
      refine wpList_load_mid rfl 55 (.tmp 26) rfl ga (x * 20) rfl (Kn.cells kx) _ hrg Try.underlying55 rfl Kn.knInfo ?_
      simp only [Act.put, List.setIfInBounds_toArray, List.set_cons_zero, List.set_cons_succ]
      refine Kn.step_val (v := .slice (some ⟨wr.heap.size, 0, none⟩) 1 1) (w' := wr.alloc (.cells (Kn.arr kx) 55)) rfl (by kernel_rfl) ?_
      simp only [Act.put, List.setIfInBounds_toArray, List.set_cons_zero, List.set_cons_succ]
      refine wpList_append_own _ rfl (.tmp 23) (.tmp 28) 78 rfl wo.heap.size 55 i0 (.agg Kn.zArr) 20 160 Try.underlying78 hi hz0 hz1 hz2 rfl (by decide) _ j _ rfl ((unhide HOWN).alloc _) ⟨wr.heap.size, 0, none⟩ 1 1 (Kn.cells kx) rfl rfl (Kn.new_cells wr kx) (Kn.cells_ones kx) (by unfold maxLen; omega) (by omega) (by rw [World.size_alloc]; omega) ?_
      intro v' w3 ho3 hg3 _
      rw [← unhide HLJ] at ho3
      have AL3 := hide (Kn.Al.push ho3)
      have BI3 := hide (((unhide HBI).alloc hwi _).grown hg3 (by rw [World.size_alloc]; omega) (Tr.owns_base (unhide HOWN)))
      obtain ⟨za, zc, hv3⟩ := (unhide AL3).shape
      subst hv3
      rw [List.length_append, unhide HLJ] at ho3 AL3 ⊢
      clear ho3 hg3 hrg HOWN HAP HBI
      simp only [Act.put, List.setIfInBounds_toArray, List.set_cons_zero, List.set_cons_succ]
      go_wp2_with fail
      rw [← unhide HXA]
      go_roundg (ks - (j + 1))
      case rel => exact ⟨j + 1, rfl, by go_num, by omega, by rw [unhide HNEW]; exact unhide AL3, unhide BI3⟩
      case measure => have := hgj.out; omega
    · have hjI : ¬ (j : Int) < (ks : Int) := by omega
      have hje : j = ks := by omega
      have HP := hide (show Kn.Lies wr (.slice ya j yc) ((Kn.lks c).map (Kn.at' l)) by
        have h := (unhide HAP).lies
        have h2 : (Kn.lks c).take j = Kn.lks c := List.take_of_length_le (by rw [unhide HLL]; omega)
        rw [h2] at h
        exact h)
      obtain ⟨g0, g1, g2, g3, g4, vg, g5, _, _⟩ := (unhide HROWK) wr (unhide HBI)
      have hrc : wr.rangeAt b (k * 6) [.int .i64 c.op, .int .i64 c.a, .int .i64 c.b, .int .i64 c.c, .int .i64 c.num, .slice (some ⟨vg, 0, none⟩) c.val.length c.val.length] := fun i v hv => by
        match i, hv with
        | 0, hv => cases hv; exact g0
        | 1, hv => cases hv; exact g1
        | 2, hv => cases hv; exact g2
        | 3, hv => cases hv; exact g3
        | 4, hv => cases hv; exact g4
        | 5, hv => cases hv; exact g5
        | i + 6, hv => simp at hv
      have HKO := hide (knownOf_any c (some ⟨vg, 0, none⟩) c.val.length c.val.length (.slice ya j yc) ((Kn.lks c).map (Kn.at' l)) hopk.1 hopk.2
        (fun y hy => by obtain ⟨x, hx, rfl⟩ := List.mem_map.1 hy; exact (unhide HFIT) x (by have := (unhide HLF) x hx; omega))
        (fun y hy => by obtain ⟨x, hx, rfl⟩ := List.mem_map.1 hy; exact (unhide HKF) x (by have := (unhide HLF) x hx; omega))
        (by rw [List.length_map, unhide HLL, unhide HKS]) wr (unhide HP))
      rw [← unhide HATK] at HKO
      have HNEW := hide (show (List.range (k + 1)).map (Kn.at' l) = (List.range k).map (Kn.at' l) ++ [Kn.at' l k] by rw [List.range_succ, List.map_append]; rfl)
      have HLJ := hide (show ((List.range k).map (Kn.at' l)).length = k by rw [List.length_map, List.length_range])
      generalize Kn.at' l k = kx at *
      generalize (List.range k).map (Kn.at' l) = P at *
      clear g0 g1 g2 g3 g4 g5 hje HP HROWK HATK HLK habc f0
      have hk0 : (0 : Int) ≤ (k : Int) := by omega
      go_upto_region 11 with fail
      refine wp_region_lit ?_
      refine Kn.step_val (v := .slice xa k xc) (w' := wr) rfl (by rfl) ?_
      simp only [Act.put, List.setIfInBounds_toArray, List.set_cons_zero, List.set_cons_succ]
      refine Kn.step_val (v := .slice (some ⟨b, 0, none⟩) l.length l.length) (w' := wr) rfl (by rfl) ?_
      simp only [Act.put, List.setIfInBounds_toArray, List.set_cons_zero, List.set_cons_succ]
      refine Kn.step_val (v := .int .i64 (k : Int)) (w' := wr) rfl (by rfl) ?_
      simp only [Act.put, List.setIfInBounds_toArray, List.set_cons_zero, List.set_cons_succ]
      refine Kn.step_val (v := .pointer (some ⟨b, k * 6, none⟩)) (w' := wr) rfl (by go_simp) ?_
      simp only [Act.put, List.setIfInBounds_toArray, List.set_cons_zero, List.set_cons_succ]
      refine wpList_load_mid rfl 48 (.tmp 34) rfl b (k * 6) rfl _ _ hrc Try.underlying48 rfl (by kernel_rfl) ?_
      simp only [Act.put, List.setIfInBounds_toArray, List.set_cons_zero, List.set_cons_succ]
      refine Kn.step_val (v := .slice ya j yc) (w' := wr) rfl (by rfl) ?_
      simp only [Act.put, List.setIfInBounds_toArray, List.set_cons_zero, List.set_cons_succ]
      refine wpList_plain rfl fun K hK => ?_
      go_simp
      refine (unhide HKO).mono ?_
      rintro e w4 ⟨rfl, hb4⟩
      have B4 : Below wo.heap.size wo w4 := (unhide HBI).trans (hb4.mono hwi)
      have AL4 := (unhide HAL).below B4
      have B14 : Below w1.heap.size w1 w4 := (unhide HBR).trans (B4.mono (unhide HBR).size)
      have hs4 := B14.size
      have HOWN := hide (show w4.ownsRow w1.heap.size 55 20 (.slice xa k xc) k (P.flatMap Kn.cells) by
        have := AL4.owns
        rw [unhide HLJ] at this
        exact this)
      go_simp
      refine hK _ _ ?_
      clear hK K HKO hb4 hrc AL4 B4
      refine Kn.step_val (v := .slice (some ⟨w4.heap.size, 0, none⟩) 1 1) (w' := w4.alloc (.cells (Kn.arr kx) 55)) rfl (by kernel_rfl) ?_
      simp only [Act.put, List.setIfInBounds_toArray, List.set_cons_zero, List.set_cons_succ]
      refine wpList_append_own _ rfl (.tmp 31) (.tmp 38) 78 rfl w1.heap.size 55 i0 (.agg Kn.zArr) 20 160 Try.underlying78 hi hz0 hz1 hz2 rfl (by decide) _ k _ rfl ((unhide HOWN).alloc _) ⟨w4.heap.size, 0, none⟩ 1 1 (Kn.cells kx) rfl rfl (Kn.new_cells w4 kx) (Kn.cells_ones kx) (by unfold maxLen; omega) (by omega) (by rw [World.size_alloc]; omega) ?_
      intro v' w5 ho5 hg5 _
      rw [← unhide HLJ] at ho5
      have AL5 := hide (Kn.Al.push ho5)
      have BI5 := hide ((B14.alloc hs4 _).grown hg5 (by rw [World.size_alloc]; omega) (Tr.owns_base (unhide HOWN)))
      obtain ⟨za, zc, hv5⟩ := (unhide AL5).shape
      subst hv5
      rw [List.length_append, unhide HLJ] at ho5 AL5 ⊢
      clear ho5 hg5 HOWN HAP HBI HAL HBR B14
      simp only [Act.put, List.setIfInBounds_toArray, List.set_cons_zero, List.set_cons_succ]
      go_wp2_with fail
      go_roundg (l.length - (k + 1))
      case rel => exact ⟨k + 1, rfl, by go_num, by omega, by rw [unhide HNEW]; exact unhide AL5, unhide BI5⟩
      case measure => have := hg.out; omega
  · have hltI : ¬ (k : Int) < (l.length : Int) := by omega
    have hke : k = l.length := by omega
    obtain ⟨q, cap2, hv, _, hkr⟩ := (unhide HAL).row (by
      intro h
      have := congrArg List.length h
      rw [List.length_map, List.length_range] at this
      simp at this
      omega)
    rw [List.length_map, List.length_range, hke] at hv
    subst hv
    obtain ⟨m, hm⟩ : ∃ m, l.length = m + 1 := ⟨l.length - 1, by omega⟩
    have hrg : wo.rangeAt q (m * 20) (Kn.cells (Kn.at' l (l.length - 1))) := by
      have hgx : Kn.g ((List.range k).map (Kn.at' l)) m = Kn.at' l (l.length - 1) := by
        unfold Kn.g
        rw [List.getD_eq_getElem?_getD, List.getElem?_map, List.getElem?_range (by omega), show l.length - 1 = m by omega]
        rfl
      rw [← hgx]
      exact hkr.range m (by rw [List.length_map, List.length_range]; omega)
    have O2 := O1.below (unhide HBR) O1.lt
    obtain ⟨kx, hkx⟩ : ∃ kx, kx = Kn.at' l (l.length - 1) := ⟨_, rfl⟩
    have HKX := hide hkx
    rw [← hkx] at hrg
    have hth : wo.there w.heap.size 0 (Kn.cells kx).toArray.size := Kn.own_there O2 (by rw [List.size_toArray]; rfl)
    have OR := hide (Kn.own_all O2 (ys := Kn.cells kx) rfl)
    have BR := hide (Kn.below_all (c := w.heap.size) (Nat.le_refl _) (Kn.cells kx) 0 wo BW)
    have hmI : (m : Int) < (l.length : Int) := by omega
    have hm0 : (0 : Int) ≤ (m : Int) := by omega
    have hwm : IntKind.i64.wrap (m : Int) = (m : Int) := by simp [IntKind.wrap, IntKind.bits, IntKind.signed]; omega
    have hms : ((l.length : Int) - 1) = (m : Int) := by omega
    clear hkx hke hkr HAL O1 HBR hm
    go_upto_region 13 with fail
    refine wp_region_lit ?_
    refine Kn.step_val (v := .slice (some ⟨q, 0, none⟩) l.length cap2) (w' := wo) rfl (by rfl) ?_
    simp only [Act.put, List.setIfInBounds_toArray, List.set_cons_zero, List.set_cons_succ]
    refine Kn.step_val (v := .slice (some ⟨q, 0, none⟩) l.length cap2) (w' := wo) rfl (by rfl) ?_
    simp only [Act.put, List.setIfInBounds_toArray, List.set_cons_zero, List.set_cons_succ]
    refine Kn.step_val (v := .int .i64 (l.length : Int)) (w' := wo) rfl (by go_simp) ?_
    simp only [Act.put, List.setIfInBounds_toArray, List.set_cons_zero, List.set_cons_succ]
    refine Kn.step_val (v := .int .i64 (m : Int)) (w' := wo) rfl (by go_simp) ?_
    simp only [Act.put, List.setIfInBounds_toArray, List.set_cons_zero, List.set_cons_succ]
    refine Kn.step_val (v := .pointer (some ⟨q, m * 20, none⟩)) (w' := wo) rfl (by go_simp) ?_
    simp only [Act.put, List.setIfInBounds_toArray, List.set_cons_zero, List.set_cons_succ]
    refine wpList_load_mid rfl 55 (.tmp 45) rfl q (m * 20) rfl (Kn.cells kx) _ hrg Try.underlying55 rfl Kn.knInfo ?_
    simp only [Act.put, List.setIfInBounds_toArray, List.set_cons_zero, List.set_cons_succ]
    refine wpList_store_mid rfl 55 (.tmp 2) (.tmp 46) rfl w.heap.size 0 (Kn.cells kx).toArray rfl rfl hth Kn.knInfo (Kn.cells_one kx) ?_
    simp only [Act.put, List.setIfInBounds_toArray, List.set_cons_zero, List.set_cons_succ]
    have hrr : (wo.setCells w.heap.size 0 (Kn.cells kx)).rangeAt w.heap.size 0 (Kn.cells kx) := Kn.own_range (unhide OR)
    have BF := unhide BR
    clear OR BR hrg hth O2
    generalize wo.setCells w.heap.size 0 (Kn.cells kx) = WW at *
    have hld := run_loadVar_mid WW w.heap.size 0 55 (Kn.cells kx) _ hrr Try.underlying55 rfl Kn.knInfo
    clear hrr
    go_wp2_with fail
    refine bodyPost_ret (v := .agg (Kn.cells kx).toArray) (Kn.results_cell Try.results25 _ _ _ _ _ rfl hld) rfl ?_
    exact ⟨by rw [unhide HKX], BF⟩

end Go.Proofs.Ytkjmnkbiflkpdaa
