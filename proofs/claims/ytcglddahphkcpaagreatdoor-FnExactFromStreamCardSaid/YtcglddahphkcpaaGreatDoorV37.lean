/-
  The parts of a value once more, with a bound on the capacities of the slices that are answered.
  Events and lists of them: plainly; impl.eventOf, impl.eventFault, spec.l15Event; both StreamFaults.
-/
import Derived.Test.YtcglddahphkcpaaGreatDoorV03
import Derived.Test.YtcglddahphkcpaaGreatDoorV16
import Derived.Test.YtcglddahphkcpaaGreatDoorV17
import Derived.Test.YtcglddahphkcpaaGreatDoorV18
import Derived.Test.YtcglddahphkcpaaGreatDoorV29
import Derived.WalkSpells
namespace Go.Proofs.YtcglddahphkcpaaGreatDoor
open Go.RowKit
set_option linter.unusedVariables false

/-- A list of cells in a block of its own, as Res says, of a capacity that a slice can have. -/
def RC (w : World) (B : Nat) (s : Value) (l : List M.Cl) : Prop := Res w B s l ∧ ∀ a n c, s = .slice a n c → c ≤ 9223372036854775807
theorem RC.below {w w' : World} {B : Nat} {s : Value} {l : List M.Cl} (h : RC w B s l) (hb : Below w.heap.size w w') : RC w' B s l := ⟨h.1.below hb, h.2⟩
theorem RC.alloc {w : World} {B : Nat} {s : Value} {l : List M.Cl} (h : RC w B s l) (o : Obj) : RC (w.alloc o) B s l := ⟨h.1.alloc o, h.2⟩
theorem RC.mono {w : World} {B B' : Nat} {s : Value} {l : List M.Cl} (h : RC w B s l) (hB : B' ≤ B) : RC w B' s l := ⟨h.1.mono hB, h.2⟩
theorem RC.base {w : World} {B : Nat} {s : Value} {l : List M.Cl} (h : RC w B s l) : ∀ b, s.ownBlock = some b → B ≤ b := h.1.base
theorem RC.lt {w : World} {B : Nat} {s : Value} {l : List M.Cl} (h : RC w B s l) : ∀ b, s.ownBlock = some b → b < w.heap.size := h.1.lt
theorem RC.shape {w : World} {B : Nat} {s : Value} {l : List M.Cl} (h : RC w B s l) : ∃ a n cap, s = .slice a n cap := h.1.shape
theorem rc_of_owns {w : World} {B : Nat} {v : Value} {l : List M.Cl} (h : w.ownsRow B 111 5 v l.length (flat l)) (hn : l.length ≤ 1048576) : RC w B v l := by
  refine ⟨res_of_owns h hn, fun a n c e => ?_⟩
  obtain ⟨h1, ⟨rfl, h2⟩ | ⟨g, cap, cur, rfl, hg, hh, hnc, hcm, hcs, ht⟩⟩ := h
  · injection e with _ _ e; omega
  · injection e with _ _ e; unfold maxLen at hcm; omega
theorem grown_rc {w w' : World} {base : Nat} {e : TypeId} {size : Nat} {v : Value} {n : Nat} {xs : List Value} (h : w.ownsRow base e size v n xs) (hg : w.grownBy w' v.ownBlock) {B : Nat} {s : Value} {l : List M.Cl} (hr : RC w B s l) (hne : e ≠ 111) : RC w' B s l := ⟨grown_res h hg hr.1 hne, hr.2⟩
theorem RC.any {w : World} {B : Nat} {s : Value} {l : List M.Cl} (h : RC w B s l) (hl : l ≠ []) : ∃ b cap, s = .slice (some ⟨b, 0, none⟩) l.length cap ∧ l.length ≤ cap ∧ cap ≤ 9223372036854775807 ∧ OwnG w b 111 l := by
  obtain ⟨b, cap, e, h1, h2⟩ := res_any h.1 hl
  exact ⟨b, cap, e, h1, h.2 _ _ _ e, h2⟩

/-- A row of slices as SD says, their capacities bounded. -/
def SC (w : World) (B : Nat) (v : Value) (ps : List (List M.Cl)) : Prop :=
  ∃ ss : List Value, ss.length = ps.length ∧ w.ownsRow B 24 1 v ps.length ss ∧ (∀ i, i < ps.length → RC w B (ss.getD i (.slice none 0 0)) (ps.getD i [])) ∧ ∀ i j, i < j → j < ps.length → ∀ b, (ss.getD i (.slice none 0 0)).ownBlock = some b → (ss.getD j (.slice none 0 0)).ownBlock ≠ some b
/-- What a reader of the row is told. -/
theorem SC.at {w : World} {B : Nat} {v : Value} {ps : List (List M.Cl)} (h : SC w B v ps) (hps : ps ≠ []) : ∃ g cap, v = .slice (some ⟨g, 0, none⟩) ps.length cap ∧ ps.length ≤ cap ∧ cap ≤ 9223372036854775807 ∧ g < w.heap.size ∧ ∀ i, i < ps.length → ∃ s, w.cell? ⟨g, i, none⟩ = some s ∧ RC w B s (ps.getD i []) := by
  obtain ⟨ss, hl, ho, hr, _⟩ := h
  obtain ⟨_, ⟨rfl, h0⟩ | ⟨g, cap, cur, rfl, hg, hh, hnc, hcm, hcs, ht⟩⟩ := ho
  · exact absurd (List.length_eq_zero_iff.1 h0) hps
  · refine ⟨g, cap, rfl, hnc, by unfold maxLen at hcm; omega, (Array.getElem?_eq_some_iff.1 hh).1, fun i hi => ⟨ss.getD i (.slice none 0 0), ?_, hr i hi⟩⟩
    rw [row_at (base := 0) (cap := 0) hh ht hi, List.getElem?_eq_getElem (by omega), List.getD_eq_getElem?_getD, List.getElem?_eq_getElem (by omega)]
    rfl

set_option maxHeartbeats 1000000 in
theorem partOf_rc (v : List M.Cl) (b off cap a : Nat) (w : World) (hv : M.valueFault v = 0) (ha : a < v.length) (hrow : Row w b off v) (hb : b < w.heap.size) (hcap : v.length ≤ cap) :
    Calls Tryz.prog 102 #[.slice (some ⟨b, off, none⟩) v.length cap, .int .i64 a] w fun e w' => ∃ s, e = .returned s ∧ RC w' w.heap.size s (part v a) ∧ Below w.heap.size w w' := by
  have hl := (M.fault_zero hv).2.1
  obtain ⟨d, _, h2, h3, h4⟩ := M.endOf_spec hv a (by omega)
  have HV := hide hv
  clear hv
  go_enter Tryz.func102, Tryz.ntmps102
  go_wp2_with fail
  refine (endOf_any v b off cap a _ (unhide HV) (by omega) hrow hb hcap).mono ?_
  rintro e2 w2 ⟨rfl, hw2⟩
  subst hw2
  have HP := hide (show part v a = setKey (cut v a (M.endOf v a)) ByteArray.empty from rfl)
  generalize hz : M.endOf v a = z at *
  have hcl := cut_length v a z h3
  have hne : cut v a z ≠ [] := by intro h; rw [h] at hcl; simp at hcl; omega
  have HCL := hide hcl
  clear hcl
  have HAP := hide (appendPart_any w2.heap.size (.slice none 0 0) [] (cut v a z) b (off + a * 5) (cap - a) ByteArray.empty w2 (World.ownsRow_nil _ _ _ _) (hrow.cut a z h3) hne (by rw [unhide HCL]; simp; omega) (Nat.le_refl _))
  rw [unhide HCL] at HAP
  clear hz
  go_wp2_with fail
  refine (unhide HAP).mono ?_
  rintro e3 w3 ⟨s, rfl, ho3, hb2⟩
  simp only [List.nil_append] at ho3
  have hr2 := rc_of_owns ho3 (by rw [setKey_length, unhide HCL]; omega)
  rw [← unhide HP] at hr2
  clear ho3 HAP
  have HR2 := hide hr2
  clear hr2
  go_wp2_with fail
  go_ret
  exact ⟨_, rfl, unhide HR2, hb2⟩

set_option maxRecDepth 100000 in
set_option maxHeartbeats 2000000 in
theorem partsOf_rc (v : List M.Cl) (b off cap : Nat) (w : World) (hv : M.valueFault v = 0) (hrow : Row w b off v) (hb : b < w.heap.size) (hcap : v.length ≤ cap) :
    Calls Tryz.prog 78 #[.slice (some ⟨b, off, none⟩) v.length cap] w fun e w' => ∃ s, e = .returned s ∧ SC w' w.heap.size s (subs v 0) ∧ Below w.heap.size w w' := by
  have hl1 := (M.fault_zero hv).1
  have hl2 := (M.fault_zero hv).2.1
  have hin := M.places_in hv 0 (by omega)
  have HIN := hide hin.1
  have hend := hide hin.2.2.1
  have hA := hin.2.2.2
  have HC := hide (fun w' (r : Row w' b off v) hb' => childPlaces_any v b off cap 0 w' hv (by omega) r hb' hcap)
  have HPT := hide (fun a (ha : a < v.length) w' (r : Row w' b off v) hb' => partOf_rc v b off cap a w' hv ha r hb' hcap)
  have hall := hide (firstS_all v)
  clear hin
  generalize hm : M.arity v 0 = m at *
  clear hm
  have HV := hide hv
  clear hv
  obtain ⟨i0, hi, hz0, hz1, hz2⟩ := info_parts Tryz.info24
  go_enter Tryz.func78, Tryz.ntmps78
  go_wp2_with fail
  refine ((unhide HC) _ hrow hb).mono ?_
  rintro e w1 ⟨sa, rfl, hra, hb1⟩
  have hO : w1.ownsRow w.heap.size 24 1 (.slice none 0 0) 0 [] := World.ownsRow_nil _ _ _ _
  have B1 : Below w.heap.size w w1 := hb1
  clear hb1
  obtain ⟨_, ⟨rfl, hnil⟩ | ⟨ba, ca, rfl, _, hca, hoa⟩⟩ := hra
  · have hm0 : m = 0 := by have := congrArg List.length hnil; rwa [firstPl_length] at this
    subst hm0
    have fin := hide (unhide hall)
    go_wp2_with fail
    refine wp_loop_rounds 1 ?_
    rw [rounds_succ]
    go_wp2_with fail
    go_ret
    exact ⟨_, rfl, by rw [← unhide fin]; exact ⟨[], rfl, hO, fun i hi => by simp [firstS] at hi, fun i j h1 h2 => by simp [firstS] at h2⟩, B1⟩
  · rw [firstPl_length] at hca ⊢
    go_wp2_with fail
    go_loopg [3, 9] m (fun g s3 s9 wr => ∃ (k : Nat) (ss : List Value), Hid (g = m - k) ∧ s9 = .int .i64 k ∧ k ≤ m ∧ wr.ownsRow w.heap.size 24 1 s3 k ss ∧ Hid (ss.length = k) ∧ Hid (∀ j, j < k → RC wr w.heap.size (ss.getD j (.slice none 0 0)) (part v (M.iter v j 1))) ∧ Hid (∀ i j, i < j → j < k → ∀ b, (ss.getD i (.slice none 0 0)).ownBlock = some b → (ss.getD j (.slice none 0 0)).ownBlock ≠ some b) ∧ OwnI wr ba (firstPl v 0 m) ∧ Below w.heap.size w wr)
    case atStart => exact ⟨0, [], rfl, rfl, by omega, hO, rfl, fun j hj => absurd hj (by omega), fun i j h1 h2 => absurd h2 (by omega), hoa, B1⟩
    case round =>
      clear hO hoa B1
      obtain ⟨k, ss, hg, rfl, hk, hown, hsl, hres, hdis, hoi, hbel⟩ := hrel
      by_cases hlt : k < m
      · have h1 := (unhide HIN) k hlt
        have h2 := unhide hend
        have fa := hoi.cell (i := k) (by rw [firstPl_length]; exact hlt)
        rw [firstPl_getD v 0 m k hlt] at fa
        simp only [Nat.zero_add] at fa h1
        have hp : M.iter v k 1 < v.length := by omega
        clear h1 h2
        obtain ⟨p, hpp⟩ : ∃ p, p = M.iter v k 1 := ⟨_, rfl⟩
        rw [← hpp] at fa hp
        have HPP := hide hpp
        clear hpp
        have hbr : b < wr.heap.size := Nat.lt_of_lt_of_le hb hbel.size
        go_wp2_with fail
        refine ((unhide HPT) p hp _ (hrow.below hbel hb) hbr).mono ?_
        rintro e w2 ⟨sp, rfl, hrp, hb2⟩
        have B2 : Below w.heap.size w w2 := hbel.trans (hb2.mono hbel.size)
        have hown2 := ownsRow_below (B := 0) hown hb2
        have hoi2 := hoi.below hb2 hoi.lt
        have hres2 := hide (fun j (hj : j < k) => (hres.out j hj).below hb2)
        have hrp2 : RC w2 w.heap.size sp (part v p) := hrp.mono hbel.size
        have hnew := hide (show ∀ j, j < k → ∀ b, (ss.getD j (.slice none 0 0)).ownBlock = some b → sp.ownBlock ≠ some b from fun j hj b h1 h2 => by have := (hres.out j hj).lt b h1; have := hrp.base b h2; omega)
        clear hown hoi hres hb2 hbel hrp fa
        obtain ⟨pa, pn, pc, hsp⟩ := hrp2.shape
        have HRP := hide hrp2
        clear hrp2
        have hnb := hide (other_block hown2 hoi2.choose_spec.1 (by decide))
        have hkeep := hide (fun (w' : World) o (hg' : (w2.alloc o).grownBy w' _) (s : Value) (l : List M.Cl) (h : RC w2 w.heap.size s l) => grown_rc (hown2.alloc o) hg' (h.alloc o) (by decide))
        have hown3 := hide (fun o => hown2.alloc o)
        have hbse := hide (ownsRow_base hown2)
        have hone := hide (one_val w2 sp 24)
        have honep := hide (show ∀ u ∈ ([sp] : List Value), u.oneCell' = true by intro u hu; simp only [List.mem_cons, List.not_mem_nil, or_false] at hu; subst hu; rw [hsp]; rfl)
        have hb63 : k + 1 ≤ maxLen := by unfold maxLen; omega
        have hby : (k + 1) * 24 ≤ 140737488355328 := by omega
        have hbase : w.heap.size ≤ w2.heap.size + 1 := by have := B2.size; omega
        have HOI := hide hoi2
        clear hown2 hoi2
        subst hsp
        go_wp2_with (at_builtin; refine wpList_append_own _ rfl (.tmp 13) (.tmp 17) 28 rfl w.heap.size 24 i0 (.slice none 0 0) 1 24 Tryz.underlying28 hi hz0 hz1 hz2 rfl (by decide) _ k ss rfl ((unhide hown3) _) ⟨w2.heap.size, 0, none⟩ 1 1 [.slice pa pn pc] rfl rfl (unhide hone) (unhide honep) hb63 hby (by simpa using hbase) ?_)
        intro v' w3 ho3 hg3 _
        have B3 : Below w.heap.size w w3 := (B2.alloc B2.size _).grown hg3 (by simpa using hbase) (unhide hbse)
        have hoi3 : OwnI w3 ba (firstPl v 0 m) := by
          obtain ⟨ys, y1, y2⟩ := unhide HOI
          exact ⟨ys, grown_own hg3 (y1.alloc _) (unhide hnb), y2⟩
        have hres3 := hide (show ∀ j, j < k + 1 → RC w3 w.heap.size ((ss ++ [Value.slice pa pn pc]).getD j (.slice none 0 0)) (part v (M.iter v j 1)) by
          intro j hj
          have hl := hsl.out
          by_cases e : j = k
          · subst e
            rw [← unhide HPP, List.getD_eq_getElem?_getD, List.getElem?_append_right (by omega), hl, Nat.sub_self]
            exact (unhide hkeep) _ _ hg3 _ _ (unhide HRP)
          · rw [List.getD_eq_getElem?_getD, List.getElem?_append_left (by omega), ← List.getD_eq_getElem?_getD]
            exact (unhide hkeep) _ _ hg3 _ _ ((unhide hres2) j (by omega)))
        have hdis3 := hide (show ∀ i j, i < j → j < k + 1 → ∀ b, ((ss ++ [Value.slice pa pn pc]).getD i (.slice none 0 0)).ownBlock = some b → ((ss ++ [Value.slice pa pn pc]).getD j (.slice none 0 0)).ownBlock ≠ some b by
          intro i j h1 h2 b
          have hl := hsl.out
          rw [List.getD_eq_getElem?_getD, List.getElem?_append_left (by omega), ← List.getD_eq_getElem?_getD]
          by_cases e : j = k
          · rw [List.getD_eq_getElem?_getD (l := ss ++ _), List.getElem?_append_right (by omega), show j - ss.length = 0 from by omega]
            exact (unhide hnew) i (by omega) b
          · rw [List.getD_eq_getElem?_getD (l := ss ++ _), List.getElem?_append_left (by omega), ← List.getD_eq_getElem?_getD]
            exact hdis.out i j h1 (by omega) b)
        have HO3 := hide ho3
        clear ho3 hg3 B2
        go_wp2_with fail
        go_roundg (m - (k + 1))
        case rel => exact ⟨k + 1, _, rfl, by go_num, by omega, unhide HO3, (by show _ = _; rw [List.length_append, hsl.out]; rfl), unhide hres3, unhide hdis3, hoi3, B3⟩
        case measure => have := hg.out; omega
      · have hke : k = m := by omega
        subst hke
        have fin := hide (unhide hall)
        have hks : SC wr w.heap.size u3 (subs v 0) := by
          rw [← unhide fin]
          exact ⟨ss, by rw [firstS_length]; exact hsl.out, by rw [firstS_length]; exact hown, fun i hi => (by rw [firstS_length] at hi; rw [firstS_getD v k i hi]; exact hres.out i hi), fun i j h1 h2 => (by rw [firstS_length] at h2; exact hdis.out i j h1 h2)⟩
        have HKS := hide hks
        have hsh : ∃ aa nn cc, u3 = Value.slice aa nn cc := by
          rcases hown.2 with ⟨h, _⟩ | ⟨_, _, _, h, _⟩
          · exact ⟨_, _, _, h⟩
          · exact ⟨_, _, _, h⟩
        obtain ⟨aa, nn, cc, hsh⟩ := hsh
        subst hsh
        clear hown hks hoi hres hdis
        go_wp2_with fail
        go_ret
        exact ⟨_, rfl, unhide HKS, hbel⟩

end Go.Proofs.YtcglddahphkcpaaGreatDoor

namespace Go.Proofs.YtcglddahphkcpaaGreatDoor
open Go.RowKit
set_option linter.unusedVariables false
set_option linter.unusedSimpArgs false

namespace Sev
/-- The j-th part of an event: its path, its leaf. -/
def P (l : List M.Cl) (j : Nat) : List M.Cl := (subs l 0).getD j []
/-- What StreamFault tells of an event. -/
def fault (l : List M.Cl) : Int :=
  if M.valueFault l ≠ 0 then M.valueFault l
  else if (l.getD 0 M.zero).kind ≠ 5 ∨ (l.getD 0 M.zero).n < 1 ∨ 2 < (l.getD 0 M.zero).n then 6
  else if Pth.fault (P l 0) ≠ 0 then Pth.fault (P l 0)
  else if (l.getD 0 M.zero).n = 1 then (if ((P l 0).getD 0 M.zero).n = 0 then 1 else 0)
  else if ((P l 1).getD 0 M.zero).n = 0 then 0 else 1
theorem fault_bad {l : List M.Cl} (h : M.valueFault l ≠ 0) : fault l = M.valueFault l := if_pos h
theorem fault_kind {l : List M.Cl} (hv : M.valueFault l = 0) (h : (l.getD 0 M.zero).kind ≠ 5 ∨ (l.getD 0 M.zero).n < 1 ∨ 2 < (l.getD 0 M.zero).n) : fault l = 6 := by
  unfold fault; rw [if_neg (by simp [hv]), if_pos h]
theorem fault_path {l : List M.Cl} (hv : M.valueFault l = 0) (hk : (l.getD 0 M.zero).kind = 5) (h1 : 1 ≤ (l.getD 0 M.zero).n) (h2 : (l.getD 0 M.zero).n ≤ 2) (h : Pth.fault (P l 0) ≠ 0) : fault l = Pth.fault (P l 0) := by
  unfold fault; rw [if_neg (by simp [hv]), if_neg (by omega), if_pos h]
theorem fault_one {l : List M.Cl} (hv : M.valueFault l = 0) (hk : (l.getD 0 M.zero).kind = 5) (hn : (l.getD 0 M.zero).n = 1) (h : Pth.fault (P l 0) = 0) : fault l = if ((P l 0).getD 0 M.zero).n = 0 then 1 else 0 := by
  unfold fault; rw [if_neg (by simp [hv]), if_neg (by omega), if_neg (by simp [h]), if_pos hn]
theorem fault_two {l : List M.Cl} (hv : M.valueFault l = 0) (hk : (l.getD 0 M.zero).kind = 5) (hn : (l.getD 0 M.zero).n = 2) (h : Pth.fault (P l 0) = 0) : fault l = if ((P l 1).getD 0 M.zero).n = 0 then 0 else 1 := by
  unfold fault; rw [if_neg (by simp [hv]), if_neg (by omega), if_neg (by simp [h]), if_neg (by omega)]
/-- The parts of an event. -/
theorem parts_n {l : List M.Cl} {n : Nat} (hn : (l.getD 0 M.zero).n = n) : (subs l 0).length = n := by
  rw [subs_length]; unfold M.arity; omega
theorem part_ok {l : List M.Cl} (hv : M.valueFault l = 0) (hok : ∀ c ∈ l, c.ok) {j : Nat} (hj : j < (subs l 0).length) : M.valueFault (P l j) = 0 ∧ (∀ c ∈ P l j, c.ok) ∧ P l j ≠ [] ∧ 1 ≤ (P l j).length ∧ (P l j).length ≤ 200 := by
  obtain ⟨_, h1, h2, h3⟩ := subs_all hv hok
  have := fault_len (h1 j hj)
  exact ⟨h1 j hj, h2 j hj, h3 j hj, this.1, this.2⟩
/-- A path's first cell tells how many steps it has. -/
theorem first_n {p : List M.Cl} (h : Pth.fault p = 0) : 1 ≤ p.length ∧ p.length ≤ 200 ∧ (p.getD 0 M.zero).n = (p.length : Int) - 1 := by
  obtain ⟨hv, hk, hs⟩ := Pth.fault_no h
  have hl := Pth.lens hv
  have hp := (Pth.places hv hs).1
  have hcd := Pth.cell_code hv (i := 0) (by omega)
  unfold M.arity at hp
  have hge : 0 ≤ (p.getD 0 M.zero).n := by
    unfold M.cellCode at hcd
    split at hcd
    · cases hcd
    split at hcd
    · cases hcd
    split at hcd
    · cases hcd
    rename_i h3
    omega
  exact ⟨hl.1, hl.2, by omega⟩
theorem n_ge {v : List M.Cl} (hv : M.valueFault v = 0) : 0 ≤ (v.getD 0 M.zero).n := by
  have hl := Pth.lens hv
  have hcd := Pth.cell_code hv (i := 0) (by omega)
  unfold M.cellCode at hcd
  split at hcd
  · cases hcd
  split at hcd
  · cases hcd
  split at hcd
  · cases hcd
  rename_i h3
  omega

theorem _root_.Go.Proofs.YtcglddahphkcpaaGreatDoor.RC.drew {w : World} {B : Nat} {s : Value} {l : List M.Cl} (h : RC w B s l) : RC w.drew B s l := h
theorem below2 {w W : World} (B : Below w.heap.size w W) (x y : Value) : Below w.heap.size w ((W.setCell ⟨w.heap.size, 0, none⟩ x).setCell ⟨w.heap.size, 1, none⟩ y) := (B.setCell (Nat.le_refl _) _).setCell (Nat.le_refl _) _
theorem _root_.Go.Proofs.YtcglddahphkcpaaGreatDoor.RC.set2 {w W : World} {s : Value} {p : List M.Cl} (h : RC W (w.heap.size + 1) s p) (x y : Value) : RC ((W.setCell ⟨w.heap.size, 0, none⟩ x).setCell ⟨w.heap.size, 1, none⟩ y) w.heap.size s p := by
  have hne : ∀ b, s.ownBlock = some b → b ≠ w.heap.size := fun b h' => by have := h.base b h'; omega
  exact ⟨((h.1.mono (by omega)).setOther _ _ hne).setOther _ _ hne, h.2⟩

set_option maxRecDepth 100000 in
set_option maxHeartbeats 1000000 in
/-- impl.eventOf at an array of one element. -/
theorem eventOf_one (l : List M.Cl) (b off cap : Nat) (w : World) (hv : M.valueFault l = 0) (hn : (l.getD 0 M.zero).n = 1) (hrow : Row w b off l) (hb : b < w.heap.size) (hcap : l.length ≤ cap) (hok : ∀ c ∈ l, c.ok) :
    Calls Tryz.prog 39 #[.slice (some ⟨b, off, none⟩) l.length cap] w fun e w' => ∃ s, e = .returned (.agg #[s, .slice none 0 0]) ∧ RC w' w.heap.size s (P l 0) ∧ Below w.heap.size w w' := by
  have h1 := parts_n (n := 1) hn
  have hp := part_ok hv hok (j := 0) (by omega)
  have B0 : ∀ y, Below w.heap.size w (w.alloc y) := fun y => (Below.refl _ _).alloc (Nat.le_refl _) y
  have HC := hide (fun y => partsOf_rc l b off cap (w.alloc y) hv (hrow.below (B0 y) hb) (by simp; omega) hcap)
  have HB0 := hide B0
  unfold P at hp ⊢
  clear hv hok hrow B0
  generalize subs l 0 = ps at *
  go_enter Tryz.func39, Tryz.ntmps39
  go_wp2_with fail
  refine ((unhide HC) _).mono ?_
  rintro e w1 ⟨s, rfl, hs, hb1⟩
  have B1 : Below w.heap.size w w1 := ((unhide HB0) _).trans (hb1.mono (by simp))
  have hR : Own w1 w.heap.size 65 [.slice none 0 0, .slice none 0 0] := Own.below ⟨_, heap_alloc_new _ _, rfl⟩ hb1 (by simp)
  obtain ⟨g, ca, rfl, hle, hcm, hg, hat⟩ := hs.at (by intro h; rw [h] at h1; cases h1)
  obtain ⟨s0, f0, r0⟩ := hat 0 (by omega)
  obtain ⟨b0, c0, rfl, hc0, hcm0, ho0⟩ := r0.any hp.2.2.1
  have r0' : RC w1 (w.heap.size + 1) (.slice (some ⟨b0, 0, none⟩) (ps.getD 0 []).length c0) (ps.getD 0 []) := r0.mono (by simp)
  have fin := hide (r0'.set2)
  have q0 := hR.cell 0
  have q1 := hR.cell 1
  have z0 := hR.frozen 0
  have z1 := hR.frozen 1
  simp only [List.getElem?_cons_zero, List.getElem?_cons_succ] at q0 q1
  rw [h1] at hle ⊢
  clear hs hat r0 r0' ho0 hp h1 HC hb1 hR
  obtain ⟨n0, hn0⟩ : ∃ n0, n0 = (ps.getD 0 []).length := ⟨_, rfl⟩
  rw [← hn0] at f0 fin hc0
  clear hn0
  go_wp2_with fail
  refine bodyPost_ret (v := .agg #[.slice (some ⟨b0, 0, none⟩) n0 c0, .slice none 0 0]) (by simp [results, Tryz.results39, go_sem, q0, q1]) rfl ⟨_, rfl, (unhide fin) _ _, below2 B1 _ _⟩

set_option maxRecDepth 100000 in
set_option maxHeartbeats 1000000 in
/-- impl.eventOf at an array of two elements. -/
theorem eventOf_two (l : List M.Cl) (b off cap : Nat) (w : World) (hv : M.valueFault l = 0) (hn : (l.getD 0 M.zero).n = 2) (hrow : Row w b off l) (hb : b < w.heap.size) (hcap : l.length ≤ cap) (hok : ∀ c ∈ l, c.ok) :
    Calls Tryz.prog 39 #[.slice (some ⟨b, off, none⟩) l.length cap] w fun e w' => ∃ s t, e = .returned (.agg #[s, t]) ∧ RC w' w.heap.size s (P l 0) ∧ RC w' w.heap.size t (P l 1) ∧ Below w.heap.size w w' := by
  have h1 := parts_n (n := 2) hn
  have hp := part_ok hv hok (j := 0) (by omega)
  have hq := part_ok hv hok (j := 1) (by omega)
  have B0 : ∀ y, Below w.heap.size w (w.alloc y) := fun y => (Below.refl _ _).alloc (Nat.le_refl _) y
  have HC := hide (fun y => partsOf_rc l b off cap (w.alloc y) hv (hrow.below (B0 y) hb) (by simp; omega) hcap)
  have HB0 := hide B0
  unfold P at hp hq ⊢
  clear hv hok hrow B0
  generalize subs l 0 = ps at *
  go_enter Tryz.func39, Tryz.ntmps39
  go_wp2_with fail
  refine ((unhide HC) _).mono ?_
  rintro e w1 ⟨s, rfl, hs, hb1⟩
  have B1 : Below w.heap.size w w1 := ((unhide HB0) _).trans (hb1.mono (by simp))
  have hR : Own w1 w.heap.size 65 [.slice none 0 0, .slice none 0 0] := Own.below ⟨_, heap_alloc_new _ _, rfl⟩ hb1 (by simp)
  obtain ⟨g, ca, rfl, hle, hcm, hg, hat⟩ := hs.at (by intro h; rw [h] at h1; cases h1)
  obtain ⟨s0, f0, r0⟩ := hat 0 (by omega)
  obtain ⟨s1, f1, r1⟩ := hat 1 (by omega)
  obtain ⟨b0, c0, rfl, hc0, hcm0, ho0⟩ := r0.any hp.2.2.1
  obtain ⟨b1, c1, rfl, hc1, hcm1, ho1⟩ := r1.any hq.2.2.1
  have r0' : RC w1 (w.heap.size + 1) (.slice (some ⟨b0, 0, none⟩) (ps.getD 0 []).length c0) (ps.getD 0 []) := r0.mono (by simp)
  have r1' : RC w1 (w.heap.size + 1) (.slice (some ⟨b1, 0, none⟩) (ps.getD 1 []).length c1) (ps.getD 1 []) := r1.mono (by simp)
  have fin := hide (fun x y => (r0'.set2 x y).drew)
  have fin1 := hide (fun x y => (r1'.set2 x y).drew)
  have q0 := hR.cell 0
  have q1 := hR.cell 1
  have z0 := hR.frozen 0
  have z1 := hR.frozen 1
  simp only [List.getElem?_cons_zero, List.getElem?_cons_succ] at q0 q1
  rw [h1] at hle ⊢
  clear hs hat r0 r0' r1 r1' ho0 ho1 hp hq h1 HC hb1 hR
  obtain ⟨n0, hn0⟩ : ∃ n0, n0 = (ps.getD 0 []).length := ⟨_, rfl⟩
  obtain ⟨n1, hn1⟩ : ∃ n1, n1 = (ps.getD 1 []).length := ⟨_, rfl⟩
  rw [← hn0] at f0 fin hc0
  rw [← hn1] at f1 fin1 hc1
  clear hn0 hn1
  go_wp2_with fail
  go_region
  go_wp2_with fail
  refine bodyPost_ret (v := .agg #[.slice (some ⟨b0, 0, none⟩) n0 c0, .slice (some ⟨b1, 0, none⟩) n1 c1]) (by simp [results, Tryz.results39, go_sem, q0, q1]) rfl ⟨_, _, rfl, (unhide fin) _ _, (unhide fin1) _ _, (below2 B1 _ _).drew⟩

theorem eql_nil (t e : TypeId) (h : Tryz.prog.underlying t = some (.slice e)) (a : Option Addr) (n c : Nat) (w : World) : (binOp .eql t (.slice a n c) (.slice none 0 0)).run Tryz.prog w = .ok (.bool a.isNone) w := Lib.run_eql_slice_nil w t e a n c 0 0 h
theorem neq_nil (t e : TypeId) (h : Tryz.prog.underlying t = some (.slice e)) (a : Option Addr) (n c : Nat) (w : World) : (binOp .neq t (.slice a n c) (.slice none 0 0)).run Tryz.prog w = .ok (.bool (!a.isNone)) w := Go.run_neq_slice_nil_any w t e a n c 0 0 h

set_option maxRecDepth 100000 in
set_option maxHeartbeats 1000000 in
theorem implEvent_any (l : List M.Cl) (b off cap : Nat) (w : World) (hrow : Row w b off l) (hb : b < w.heap.size) (hn : l.length ≤ 1048576) (hcap : l.length ≤ cap) (hok : ∀ c ∈ l, c.ok) :
    Calls Tryz.prog 58 #[.slice (some ⟨b, off, none⟩) l.length cap] w fun e w' => e = .returned (.int .i64 (fault l)) ∧ Below w.heap.size w w' := by
  have HE1 := hide (fun w' (hbl : Below w.heap.size w w') hv hn1 => eventOf_one l b off cap w' hv hn1 (hrow.below hbl hb) (Nat.lt_of_lt_of_le hb hbl.size) hcap hok)
  have HE2 := hide (fun w' (hbl : Below w.heap.size w w') hv hn1 => eventOf_two l b off cap w' hv hn1 (hrow.below hbl hb) (Nat.lt_of_lt_of_le hb hbl.size) hcap hok)
  have HPO := hide (fun hv (j : Nat) hj => part_ok hv hok (j := j) hj)
  have HRW := hide (fun w' (hbl : Below w.heap.size w w') => hrow.below hbl hb)
  have HF := hide (implFault_any l b off cap w hrow hb hn hcap hok)
  clear hrow hok hn
  have eqn : ∀ a n c W, (binOp .eql 24 (.slice a n c) (.slice none 0 0)).run Tryz.prog W = .ok (.bool a.isNone) W := fun a n c W => eql_nil _ _ Tryz.underlying24 a n c W
  have nqn : ∀ a n c W, (binOp .neq 24 (.slice a n c) (.slice none 0 0)).run Tryz.prog W = .ok (.bool (!a.isNone)) W := fun a n c W => neq_nil _ _ Tryz.underlying24 a n c W
  go_enter Tryz.func58, Tryz.ntmps58
  go_wp2_with fail
  refine (unhide HF).mono ?_
  rintro e w1 ⟨rfl, hb1⟩
  clear HF
  generalize hq : M.valueFault l = q
  by_cases hz : q = 0
  · subst hz
    have hl1 := Pth.lens hq
    obtain ⟨f0, _, _, _, f4⟩ := (unhide HRW) w1 hb1 0 (by omega)
    simp only [Nat.zero_mul, Nat.add_zero] at f0 f4
    have FK := hide (fault_kind hq)
    have FP := hide (fault_path hq)
    have F1 := hide (fault_one hq)
    have F2 := hide (fault_two hq)
    have HQ := hide hq
    have hl1 := hl1.1
    clear hq HRW
    by_cases hk : (l.getD 0 M.zero).kind = 5
    · rw [hk] at f0
      by_cases h1 : (l.getD 0 M.zero).n < 1
      · have fin := hide ((unhide FK) (.inr (.inl h1)))
        generalize (l.getD 0 M.zero).n = n at *
        clear FK FP F1 F2 HE1 HE2 HPO hk
        go_wp2_with fail
        go_ret
        exact ⟨ret_int (unhide fin).symm, hb1⟩
      by_cases h2 : 2 < (l.getD 0 M.zero).n
      · have fin := hide ((unhide FK) (.inr (.inr h2)))
        generalize (l.getD 0 M.zero).n = n at *
        clear FK FP F1 F2 HE1 HE2 HPO hk
        go_wp2_with fail
        go_ret
        exact ⟨ret_int (unhide fin).symm, hb1⟩
      have FP := hide ((unhide FP) hk (by omega) (by omega))
      have F1 := hide ((unhide F1) hk)
      have F2 := hide ((unhide F2) hk)
      clear FK hk
      by_cases e1 : (l.getD 0 M.zero).n = 1
      · have F1 := hide ((unhide F1) e1)
        have hpl := parts_n (n := 1) e1
        have hp := (unhide HPO) (unhide HQ) 0 (by omega)
        have HE := hide ((unhide HE1) w1 hb1 (unhide HQ) e1)
        rw [e1] at f4
        clear F2 HE1 HE2 HPO h1 h2 e1 hpl
        go_wp2_with fail
        refine (unhide HE).mono ?_
        rintro e w2 ⟨s, rfl, hs, hb2⟩
        obtain ⟨b0, c0, rfl, hc0, hcm0, ho0⟩ := hs.any hp.2.2.1
        have B2 : Below w.heap.size w w2 := hb1.trans (hb2.mono hb1.size)
        have BA : ∀ y, Below w2.heap.size w2 (w2.alloc y) := fun y => (Below.refl _ _).alloc (Nat.le_refl _) y
        have HPF := hide (fun y => implPathFault_any (P l 0) b0 0 c0 (w2.alloc y) (ho0.row.below (BA y) ho0.lt) (by have := ho0.lt; simp; omega) (by omega) hc0 hcm0 hp.2.1)
        have HRW := hide (fun W (h : Below w2.heap.size w2 W) => ho0.row.below h ho0.lt)
        have HBA := hide BA
        have FN := hide (first_n (p := P l 0))
        have hpl1 := hp.2.2.2.1
        clear hs HE hb2 hp ho0 f0 f4 BA
        generalize P l 0 = p at *
        go_wp2_with fail
        refine ((unhide HPF) _).mono ?_
        rintro e w3 ⟨rfl, hb3⟩
        have B3 : Below w.heap.size w w3 := (B2.alloc B2.size _).trans (hb3.mono (by have := B2.size; simp; omega))
        have hE : Own w3 w2.heap.size 65 [.slice (some ⟨b0, 0, none⟩) p.length c0, .slice none 0 0] := Own.below ⟨_, heap_alloc_new _ _, rfl⟩ hb3 (by simp)
        have HR3 := hide ((unhide HRW) w3 (((unhide HBA) _).trans (hb3.mono (by simp))))
        clear HPF hb3 B2 HRW HBA
        have g0 := hE.cell 0
        have g1 := hE.cell 1
        simp only [List.getElem?_cons_zero, List.getElem?_cons_succ] at g0 g1
        clear hE
        generalize hr : Pth.fault p = r at *
        by_cases hz : r = 0
        · subst hz
          have fn := (unhide FN) rfl
          have F1 := hide ((unhide F1) rfl)
          have HS := hide (stepsOf_any p b0 0 c0 w3 hpl1 hcm0 hc0 (unhide HR3))
          have hdl := List.length_drop (i := 1) (l := p)
          generalize p.drop 1 = cs at *
          have hcs : cs.length ≤ 200 := by omega
          have hcc := hide (show (p.getD 0 M.zero).n = cs.length by omega)
          clear FN FP fn hdl HR3 hr
          by_cases e : cs.length = 0
          · have fin := hide (show fault l = 1 by rw [unhide F1, if_pos (by have := unhide hcc; omega)])
            rw [e] at HS
            clear F1 hcc e
            go_wp2_with fail
            refine (unhide HS).mono ?_
            rintro e2 w4 ⟨o, rfl, rfl, hrr⟩
            go_wp2_with fail
            go_ret
            exact ⟨ret_int (unhide fin).symm, B3⟩
          · have fin := hide (show fault l = 0 by rw [unhide F1, if_neg (by have := unhide hcc; omega)])
            have e' : ((cs.length : Int) == 0) = false := by simp; intro h; exact e (by rw [h]; rfl)
            clear F1 hcc e
            go_wp2_with fail
            refine (unhide HS).mono ?_
            rintro e2 w4 ⟨o, rfl, rfl, hrr⟩
            go_wp2_with fail
            go_ret
            exact ⟨ret_int (unhide fin).symm, B3⟩
        · have fin := hide ((unhide FP) hz)
          have hz' : (r == 0) = false := by simp [hz]
          clear FP F1 FN HR3 hr hz
          go_wp2_with fail
          go_ret
          exact ⟨ret_int (unhide fin).symm, B3⟩
      · have e2 : (l.getD 0 M.zero).n = 2 := by omega
        have F2 := hide ((unhide F2) e2)
        have hpl := parts_n (n := 2) e2
        have hp := (unhide HPO) (unhide HQ) 0 (by omega)
        have hx := (unhide HPO) (unhide HQ) 1 (by omega)
        have HE := hide ((unhide HE2) w1 hb1 (unhide HQ) e2)
        rw [e2] at f4
        clear F1 HE1 HE2 HPO h1 h2 e1 hpl e2
        go_wp2_with fail
        refine (unhide HE).mono ?_
        rintro e w2 ⟨s, t, rfl, hs, ht, hb2⟩
        obtain ⟨b0, c0, rfl, hc0, hcm0, ho0⟩ := hs.any hp.2.2.1
        obtain ⟨b1, c1, rfl, hc1, hcm1, ho1⟩ := ht.any hx.2.2.1
        have B2 : Below w.heap.size w w2 := hb1.trans (hb2.mono hb1.size)
        have BA : ∀ y, Below w2.heap.size w2 (w2.alloc y) := fun y => (Below.refl _ _).alloc (Nat.le_refl _) y
        have HPF := hide (fun y => implPathFault_any (P l 0) b0 0 c0 (w2.alloc y) (ho0.row.below (BA y) ho0.lt) (by have := ho0.lt; simp; omega) (by omega) hc0 hcm0 hp.2.1)
        have HRW := hide (fun W (h : Below w2.heap.size w2 W) => ho1.row.below h ho1.lt)
        have HBA := hide BA
        have hge := hide (n_ge hx.1)
        have hxl := hx.2.2.2.1
        clear hs ht HE hb2 hp ho0 ho1 hx f0 f4 BA
        generalize P l 0 = p at *
        generalize P l 1 = x at *
        go_wp2_with fail
        refine ((unhide HPF) _).mono ?_
        rintro e w3 ⟨rfl, hb3⟩
        have B3 : Below w.heap.size w w3 := (B2.alloc B2.size _).trans (hb3.mono (by have := B2.size; simp; omega))
        have hE : Own w3 w2.heap.size 65 [.slice (some ⟨b0, 0, none⟩) p.length c0, .slice (some ⟨b1, 0, none⟩) x.length c1] := Own.below ⟨_, heap_alloc_new _ _, rfl⟩ hb3 (by simp)
        obtain ⟨_, _, _, _, k4⟩ := (unhide HRW) w3 (((unhide HBA) _).trans (hb3.mono (by simp))) 0 (by omega)
        simp only [Nat.zero_mul, Nat.add_zero] at k4
        clear HPF hb3 B2 HRW HBA
        have g0 := hE.cell 0
        have g1 := hE.cell 1
        simp only [List.getElem?_cons_zero, List.getElem?_cons_succ] at g0 g1
        clear hE
        have hxI : (0 : Int) < (x.length : Int) := by omega
        generalize hr : Pth.fault p = r at *
        by_cases hz : r = 0
        · subst hz
          have F2 := hide ((unhide F2) rfl)
          clear FP hr
          generalize (x.getD 0 M.zero).n = xn at *
          by_cases e : xn = 0
          · have fin := hide (show fault l = 0 by rw [unhide F2, if_pos e])
            rw [e] at k4
            clear F2 e hge
            go_wp2_with fail
            go_ret
            exact ⟨ret_int (unhide fin).symm, B3⟩
          · have fin := hide (show fault l = 1 by rw [unhide F2, if_neg e])
            have hgt : 0 < xn := by have := unhide hge; omega
            clear F2 e hge
            go_wp2_with fail
            go_ret
            exact ⟨ret_int (unhide fin).symm, B3⟩
        · have fin := hide ((unhide FP) hz)
          have hz' : (r == 0) = false := by simp [hz]
          clear FP F2 hr hz k4 hge
          go_wp2_with fail
          go_ret
          exact ⟨ret_int (unhide fin).symm, B3⟩
    · have fin := hide ((unhide FK) (.inl hk))
      have n5 : ((l.getD 0 M.zero).kind != 5) = true := bne_iff_ne.2 hk
      generalize (l.getD 0 M.zero).kind = kd at *
      clear FK FP F1 F2 HE1 HE2 HPO hk
      go_wp2_with fail
      go_ret
      exact ⟨ret_int (unhide fin).symm, hb1⟩
  · have fin := hide ((fault_bad (by rw [hq]; exact hz)).trans hq)
    have hz' : (q == 0) = false := by simp [hz]
    clear hq HRW HE1 HE2 HPO
    go_wp2_with fail
    go_ret
    exact ⟨ret_int (unhide fin).symm, hb1⟩
end Sev
end Go.Proofs.YtcglddahphkcpaaGreatDoor
