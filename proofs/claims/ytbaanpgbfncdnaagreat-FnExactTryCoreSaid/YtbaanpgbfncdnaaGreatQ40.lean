/-
  impl.through: a tree in memory goes through a pass.
  A list of nodes that is laid behind another: how it lies, what a call that lays may turn; the links of a node.
-/
import Derived.Test.YtbaanpgbfncdnaaGreatQ25
import Derived.Test.YtbaanpgbfncdnaaGreatQ35
import Derived.Test.YtbaanpgbfncdnaaGreatQ39
import Derived.Deep.LoopGhost
namespace Go.Proofs.YtbaanpgbfncdnaaGreat
open Go.RowKit
set_option linter.unusedVariables false
set_option linter.unusedSimpArgs false

namespace Ste
/-- What through tells. -/
def Ths (pid : Int) (w : World) (s : Ste) (R : List Nat) (e : Ending) (w' : World) : Prop := ∃ p' R', e = .returned (.tuple #[.pointer (some ⟨p', 0, none⟩), .int .i64 ((pass pid s).2 : Int)]) ∧ Sh w' (pass pid s).1 p' R' ∧ (∀ k ∈ R', k ∈ R) ∧ Fr R w w'
theorem Tl.at {pid : Int} {w wr : World} {p : Nat} {s : Ste} {Rs0 Rs : List (List Nat)} {r P : List Nat} {i q : Nat} (T : Tl pid w wr p s Rs0 r i P Rs) (hr : r = [q]) {j : Nat} (hj : j < s.ks.length) : wr.cell? ⟨q, j, none⟩ = some (.pointer (some ⟨P.getD j 0, 0, none⟩)) := by
  obtain ⟨a, b, c, vv, pv, h1, _, h3⟩ := T.hN
  have hP := T.hP
  rcases h3 with ⟨_, e, _⟩ | ⟨q', cap, xs, e1, e2, e3, e4, e5⟩
  · rw [e] at hP; simp at hP; omega
  · rw [hr] at e3
    obtain rfl : q = q' := by simpa using e3
    exact (e4.cell j).trans (e5 j (by omega))
theorem did_le (pid : Int) (L : List Ste) (h : ∀ k ∈ L, Ok k) : didL pid L ≤ szL L := by
  induction L with
  | nil => simp [didL, szL]
  | cons s r ih =>
    have h1 := (pass_ok pid s (h s (List.mem_cons_self ..))).2.2
    have h2 := ih (fun k hk => h k (List.mem_cons_of_mem _ hk))
    simp only [didL, szL]
    omega
theorem view {w : World} {p : Nat} {h : Hd} {P r : List Nat} (hN : Nd w p h P r) : ∃ a cap, w.cell? ⟨p, 6, none⟩ = some (.slice a P.length cap) ∧ (0 < P.length → ∃ q, r = [q] ∧ a = some ⟨q, 0, none⟩) := by
  obtain ⟨a, b, c, vv, pv, h1, _, h3⟩ := hN
  have c6 := h1.cell 6
  rcases h3 with ⟨e1, e2, e3⟩ | ⟨q, cap, xs, e1, e2, e3, e4, e5⟩
  · exact ⟨none, 0, by rw [e1] at c6; rw [e2]; exact c6, fun h => by rw [e2] at h; cases h⟩
  · exact ⟨some ⟨q, 0, none⟩, cap, by rw [e1] at c6; exact c6, fun _ => ⟨q, e3, rfl⟩⟩
end Ste
set_option maxRecDepth 100000 in
set_option maxHeartbeats 4000000 in
theorem through_3 (s : Ste) : ∀ (w : World) (p : Nat) (R : List Nat), Ste.Sh w s p R → Ste.Ok s → Ste.sz s ≤ 900 →
    Calls Tryz.prog 43 #[.pointer (some ⟨p, 0, none⟩), .func (.func 40) #[] #[]] w (Ste.Ths 3 w s R) := by
  induction s using Ste.ind with
  | H s ih =>
  intro w p R hS hok h900
  obtain ⟨hF, hO⟩ := (Ste.ok_iff s).1 hok
  have hsz := Ste.sz_ks s
  have hpe := Ste.pass_eq 3 s (fun q => by rw [q] at hF; exact Ste.one_leaf hF)
  cases hS with
  | mk hP hR hN hS hE hD =>
  rename_i P Rs r
  subst hE
  obtain ⟨a, cap, c6, hq⟩ := Ste.view hN
  rw [hP] at c6 hq
  have T0 := hide (Ste.Tl.start (pid := 3) hP hR hN hS)
  have HQ := hide hq
  have HIH := hide (fun k (hk : k ∈ s.ks) w p R h1 h2 h3 => ih k hk w p R h1 h2 h3)
  have HO := hide hO
  have HF := hide hF
  have HD := hide hD
  have HR := hide hR
  have hdl := hide (fun i => Nat.le_trans (Ste.did_le 3 (s.ks.take i) (fun k hk => hO k (List.mem_of_mem_take hk))) (Ste.szL_take_le s.ks i))
  have HPE := hide hpe
  have hb9 : Ste.szL s.ks ≤ 899 := by omega
  obtain ⟨n, hn⟩ : ∃ n, n = s.ks.length := ⟨_, rfl⟩
  have hn3 : n ≤ 3 := by rw [hn]; exact Ste.ks_le s
  rw [← hn] at c6 HQ
  have HN := hide hn
  clear ih hok h900 hF hO hP hR hN hS hD hq hpe hsz hn
  go_enter Tryz.func43, Tryz.ntmps43
  go_wp2_with fail
  go_loopg [6, 17] n (fun gh s6 s17 wr => ∃ (i : Nat) (P' : List Nat) (Rs' : List (List Nat)), Hid (gh = n - i) ∧ s17 = .int .i64 (i : Int) ∧ i ≤ n ∧ s6 = .int .i64 (Ste.didL 3 (s.ks.take i) : Int) ∧ Hid (Ste.Tl 3 w wr p s Rs r i P' Rs'))
  case atStart => exact ⟨0, P, Rs, rfl, rfl, by omega, rfl, unhide T0⟩
  case round =>
    clear T0
    obtain ⟨i, P', Rs', hg, rfl, hi, rfl, HT⟩ := hrel
    by_cases hlt : i < n
    · have hltI : (i : Int) < (n : Int) := by omega
      have hi0 : (0 : Int) ≤ (i : Int) := by omega
      obtain ⟨q, hr, ha⟩ := (unhide HQ) (by omega)
      subst ha
      have hil : i < s.ks.length := by rw [← unhide HN]; exact hlt
      have ci := (unhide HT).at hr hil
      have hmem := Ste.g_mem hil
      have hSi := (unhide HT).hS i hil
      unfold Ste.cur at hSi
      rw [if_neg (by omega)] at hSi
      have HC := hide ((unhide HIH) _ hmem wr _ _ hSi ((unhide HO) _ hmem) (by have := Ste.szL_mem hmem; omega))
      have hd0 := (unhide hdl) i
      have hd1 := (unhide hdl) (i + 1)
      rw [Ste.didL_take_succ 3 s.ks i hil] at hd1
      have HDS := hide (Ste.didL_take_succ 3 s.ks i hil)
      have HST := hide (fun (w1 : World) (p' : Nat) (R' : List Nat) h1 h2 h3 => (unhide HT).step (w1 := w1) (p' := p') (R' := R') (unhide HD) (unhide HR) hil h1 h2 h3)
      have eG : s.ks.getD i Ste.z = Ste.g s.ks i := rfl
      rw [eG] at hd1 HDS
      clear hSi HT hmem eG
      generalize P'.getD i 0 = pi at *
      unfold Ste.Ths at HC
      generalize (Ste.pass 3 (Ste.g s.ks i)).2 = di at *
      go_wp2_with fail
      refine (unhide HC).mono ?_
      rintro e w1 ⟨p1, R1, rfl, hs1, hsub1, hf1⟩
      obtain ⟨q2, hr2, ⟨cap2, c62⟩, ⟨u, cu⟩, zu, hTn⟩ := (unhide HST) w1 p1 R1 hs1 hsub1 hf1
      obtain rfl : q = q2 := by rw [hr] at hr2; simpa using hr2
      rw [← unhide HN] at c62
      have HTN := hide hTn
      clear hs1 hsub1 hf1 hTn HC HST ci
      generalize hdd : Ste.didL 3 (s.ks.take i) = dd at *
      go_wp2_with fail
      go_roundg (n - (i + 1))
      case rel => exact ⟨i + 1, _, _, rfl, by go_num, by omega, by rw [unhide HDS]; push_cast; rfl, unhide HTN⟩
      case measure => have := hg.out; omega
    · have hie : i = n := by omega
      have hltI : ¬ (i : Int) < (n : Int) := by omega
      rw [hie, unhide HN] at HT
      have hRd := (unhide HT).done (unhide HO) (unhide HF)
      have hWh := (unhide HT).whole (unhide HO) (unhide HF) (unhide HD) (unhide HR)
      have hFr := (unhide HT).fr
      have HCALL := hide (alive_any p s.hd _ P' Rs' r wr hRd)
      have hdn : Ste.didL 3 (s.ks.take i) = Ste.didL 3 s.ks := by rw [hie, unhide HN, List.take_length]
      have hd0 := (unhide hdl) i
      rw [hdn] at hd0 ⊢
      have hpe := unhide HPE
      cases ho : Ste.one 3 s.hd (s.ks.map fun k => (Ste.pass 3 k).1) with
      | none =>
        have HFIN := hide (fun (w' : World) (hb : Below wr.heap.size wr w') => show Ste.Ths 3 w s (r ++ Rs.flatten) (.returned (.tuple #[.pointer (some ⟨p, 0, none⟩), .int .i64 (Ste.didL 3 s.ks : Int)])) w' from by
          unfold Ste.Ths
          rw [hpe]
          unfold Ste.fin
          rw [ho]
          exact ⟨p, r ++ Rs'.flatten, rfl, hWh.1.lower hb, fun k hk => by
            rcases List.mem_append.1 hk with hk | hk
            · exact List.mem_append_left _ hk
            · exact List.mem_append_right _ (hWh.2 k hk), hFr.trans (Ste.Fr.ofBelow hb)⟩)
        rw [ho] at HCALL
        clear HT hRd hWh hFr hpe ho HPE hdn
        generalize Ste.didL 3 s.ks = dd at *
        go_wp2_with fail
        refine (unhide HCALL).mono ?_
        rintro e w1 ⟨hb1, rfl⟩
        go_wp2_with fail
        go_ret2
        exact (unhide HFIN) _ hb1
      | some t =>
        have HFIN := hide (fun (w' : World) (hb : Below wr.heap.size wr w') (p1 : Nat) (R1 : List Nat) (hs : Ste.Sh w' t p1 R1) (hsub : ∀ k ∈ R1, k ∈ Rs'.flatten) => show Ste.Ths 3 w s (r ++ Rs.flatten) (.returned (.tuple #[.pointer (some ⟨p1, 0, none⟩), .int .i64 ((Ste.didL 3 s.ks : Int) + 1)])) w' from by
          unfold Ste.Ths
          rw [hpe]
          unfold Ste.fin
          rw [ho]
          exact ⟨p1, R1, by push_cast; rfl, hs, fun k hk => List.mem_append_right _ (hWh.2 k (hsub k hk)), hFr.trans (Ste.Fr.ofBelow hb)⟩)
        rw [ho] at HCALL
        clear HT hRd hWh hFr hpe ho HPE hdn
        generalize Ste.didL 3 s.ks = dd at *
        go_wp2_with fail
        refine (unhide HCALL).mono ?_
        rintro e w1 ⟨hb1, p1, R1, rfl, hs1, hsub1⟩
        have HX := hide ((unhide HFIN) w1 hb1 p1 R1 hs1 hsub1)
        clear hs1 hsub1 HFIN
        go_wp2_with fail
        go_ret2
        exact unhide HX
set_option maxRecDepth 100000 in
set_option maxHeartbeats 4000000 in
theorem through_4 (s : Ste) : ∀ (w : World) (p : Nat) (R : List Nat), Ste.Sh w s p R → Ste.Ok s → Ste.sz s ≤ 900 →
    Calls Tryz.prog 43 #[.pointer (some ⟨p, 0, none⟩), .func (.func 41) #[] #[]] w (Ste.Ths 4 w s R) := by
  induction s using Ste.ind with
  | H s ih =>
  intro w p R hS hok h900
  obtain ⟨hF, hO⟩ := (Ste.ok_iff s).1 hok
  have hsz := Ste.sz_ks s
  have hpe := Ste.pass_eq 4 s (fun q => by rw [q] at hF; exact Ste.one_leaf hF)
  cases hS with
  | mk hP hR hN hS hE hD =>
  rename_i P Rs r
  subst hE
  obtain ⟨a, cap, c6, hq⟩ := Ste.view hN
  rw [hP] at c6 hq
  have T0 := hide (Ste.Tl.start (pid := 4) hP hR hN hS)
  have HQ := hide hq
  have HIH := hide (fun k (hk : k ∈ s.ks) w p R h1 h2 h3 => ih k hk w p R h1 h2 h3)
  have HO := hide hO
  have HF := hide hF
  have HD := hide hD
  have HR := hide hR
  have hdl := hide (fun i => Nat.le_trans (Ste.did_le 4 (s.ks.take i) (fun k hk => hO k (List.mem_of_mem_take hk))) (Ste.szL_take_le s.ks i))
  have HPE := hide hpe
  have hb9 : Ste.szL s.ks ≤ 899 := by omega
  obtain ⟨n, hn⟩ : ∃ n, n = s.ks.length := ⟨_, rfl⟩
  have hn3 : n ≤ 3 := by rw [hn]; exact Ste.ks_le s
  rw [← hn] at c6 HQ
  have HN := hide hn
  clear ih hok h900 hF hO hP hR hN hS hD hq hpe hsz hn
  go_enter Tryz.func43, Tryz.ntmps43
  go_wp2_with fail
  go_loopg [6, 17] n (fun gh s6 s17 wr => ∃ (i : Nat) (P' : List Nat) (Rs' : List (List Nat)), Hid (gh = n - i) ∧ s17 = .int .i64 (i : Int) ∧ i ≤ n ∧ s6 = .int .i64 (Ste.didL 4 (s.ks.take i) : Int) ∧ Hid (Ste.Tl 4 w wr p s Rs r i P' Rs'))
  case atStart => exact ⟨0, P, Rs, rfl, rfl, by omega, rfl, unhide T0⟩
  case round =>
    clear T0
    obtain ⟨i, P', Rs', hg, rfl, hi, rfl, HT⟩ := hrel
    by_cases hlt : i < n
    · have hltI : (i : Int) < (n : Int) := by omega
      have hi0 : (0 : Int) ≤ (i : Int) := by omega
      obtain ⟨q, hr, ha⟩ := (unhide HQ) (by omega)
      subst ha
      have hil : i < s.ks.length := by rw [← unhide HN]; exact hlt
      have ci := (unhide HT).at hr hil
      have hmem := Ste.g_mem hil
      have hSi := (unhide HT).hS i hil
      unfold Ste.cur at hSi
      rw [if_neg (by omega)] at hSi
      have HC := hide ((unhide HIH) _ hmem wr _ _ hSi ((unhide HO) _ hmem) (by have := Ste.szL_mem hmem; omega))
      have hd0 := (unhide hdl) i
      have hd1 := (unhide hdl) (i + 1)
      rw [Ste.didL_take_succ 4 s.ks i hil] at hd1
      have HDS := hide (Ste.didL_take_succ 4 s.ks i hil)
      have HST := hide (fun (w1 : World) (p' : Nat) (R' : List Nat) h1 h2 h3 => (unhide HT).step (w1 := w1) (p' := p') (R' := R') (unhide HD) (unhide HR) hil h1 h2 h3)
      have eG : s.ks.getD i Ste.z = Ste.g s.ks i := rfl
      rw [eG] at hd1 HDS
      clear hSi HT hmem eG
      generalize P'.getD i 0 = pi at *
      unfold Ste.Ths at HC
      generalize (Ste.pass 4 (Ste.g s.ks i)).2 = di at *
      go_wp2_with fail
      refine (unhide HC).mono ?_
      rintro e w1 ⟨p1, R1, rfl, hs1, hsub1, hf1⟩
      obtain ⟨q2, hr2, ⟨cap2, c62⟩, ⟨u, cu⟩, zu, hTn⟩ := (unhide HST) w1 p1 R1 hs1 hsub1 hf1
      obtain rfl : q = q2 := by rw [hr] at hr2; simpa using hr2
      rw [← unhide HN] at c62
      have HTN := hide hTn
      clear hs1 hsub1 hf1 hTn HC HST ci
      generalize hdd : Ste.didL 4 (s.ks.take i) = dd at *
      go_wp2_with fail
      go_roundg (n - (i + 1))
      case rel => exact ⟨i + 1, _, _, rfl, by go_num, by omega, by rw [unhide HDS]; push_cast; rfl, unhide HTN⟩
      case measure => have := hg.out; omega
    · have hie : i = n := by omega
      have hltI : ¬ (i : Int) < (n : Int) := by omega
      rw [hie, unhide HN] at HT
      have hRd := (unhide HT).done (unhide HO) (unhide HF)
      have hWh := (unhide HT).whole (unhide HO) (unhide HF) (unhide HD) (unhide HR)
      have hFr := (unhide HT).fr
      have HCALL := hide (untried_any p s.hd _ P' Rs' r wr hRd)
      have hdn : Ste.didL 4 (s.ks.take i) = Ste.didL 4 s.ks := by rw [hie, unhide HN, List.take_length]
      have hd0 := (unhide hdl) i
      rw [hdn] at hd0 ⊢
      have hpe := unhide HPE
      cases ho : Ste.one 4 s.hd (s.ks.map fun k => (Ste.pass 4 k).1) with
      | none =>
        have HFIN := hide (fun (w' : World) (hb : Below wr.heap.size wr w') => show Ste.Ths 4 w s (r ++ Rs.flatten) (.returned (.tuple #[.pointer (some ⟨p, 0, none⟩), .int .i64 (Ste.didL 4 s.ks : Int)])) w' from by
          unfold Ste.Ths
          rw [hpe]
          unfold Ste.fin
          rw [ho]
          exact ⟨p, r ++ Rs'.flatten, rfl, hWh.1.lower hb, fun k hk => by
            rcases List.mem_append.1 hk with hk | hk
            · exact List.mem_append_left _ hk
            · exact List.mem_append_right _ (hWh.2 k hk), hFr.trans (Ste.Fr.ofBelow hb)⟩)
        rw [ho] at HCALL
        clear HT hRd hWh hFr hpe ho HPE hdn
        generalize Ste.didL 4 s.ks = dd at *
        go_wp2_with fail
        refine (unhide HCALL).mono ?_
        rintro e w1 ⟨hb1, rfl⟩
        go_wp2_with fail
        go_ret2
        exact (unhide HFIN) _ hb1
      | some t =>
        have HFIN := hide (fun (w' : World) (hb : Below wr.heap.size wr w') (p1 : Nat) (R1 : List Nat) (hs : Ste.Sh w' t p1 R1) (hsub : ∀ k ∈ R1, k ∈ Rs'.flatten) => show Ste.Ths 4 w s (r ++ Rs.flatten) (.returned (.tuple #[.pointer (some ⟨p1, 0, none⟩), .int .i64 ((Ste.didL 4 s.ks : Int) + 1)])) w' from by
          unfold Ste.Ths
          rw [hpe]
          unfold Ste.fin
          rw [ho]
          exact ⟨p1, R1, by push_cast; rfl, hs, fun k hk => List.mem_append_right _ (hWh.2 k (hsub k hk)), hFr.trans (Ste.Fr.ofBelow hb)⟩)
        rw [ho] at HCALL
        clear HT hRd hWh hFr hpe ho HPE hdn
        generalize Ste.didL 4 s.ks = dd at *
        go_wp2_with fail
        refine (unhide HCALL).mono ?_
        rintro e w1 ⟨hb1, p1, R1, rfl, hs1, hsub1⟩
        have HX := hide ((unhide HFIN) w1 hb1 p1 R1 hs1 hsub1)
        clear hs1 hsub1 HFIN
        go_wp2_with fail
        go_ret2
        exact unhide HX

end Go.Proofs.YtbaanpgbfncdnaaGreat

namespace Go.Proofs.YtbaanpgbfncdnaaGreat
open Go.RowKit
set_option linter.unusedVariables false
set_option linter.unusedSimpArgs false
namespace Lw
theorem Rw.push {w wA : World} {base : Nat} {v v' x : Value} {cs : List (Co × Value)} {c : Co} (h : Rw w base v cs) (ho : wA.ownsRow base 47 6 v' (cs.length + 1) (flat cs ++ nodeV c x)) (hg : w.grownBy wA v.ownBlock) (hx : Res w base x c.val) : Rw wA base v' (cs ++ [(c, x)]) := by
  refine ⟨by rw [List.length_append, flat_snoc]; exact ho, fun p hp => ?_⟩
  have hw : Res w base p.2 p.1.val := by
    rcases List.mem_append.1 hp with hp | hp
    · exact h.2 p hp
    · simp only [List.mem_singleton] at hp; subst hp; exact hx
  obtain ⟨hn, q | ⟨b, cap, h1, h2, h3, xs, ⟨cc, hc, h4⟩, h5⟩⟩ := hw
  · exact ⟨hn, .inl q⟩
  · have hb : p.2.ownBlock = some b := by rw [h1]; rfl
    have hr : Res w base p.2 p.1.val := ⟨hn, .inr ⟨b, cap, h1, h2, h3, xs, ⟨cc, hc, h4⟩, h5⟩⟩
    exact ⟨hn, .inr ⟨b, cap, h1, h2, h3, xs, ⟨cc, (hg.block b (hr.lt b hb) (fun e => h.apart hr (b := b) e.symm hb)).trans hc, h4⟩, h5⟩⟩
theorem Rw.bls_lt {w : World} {base : Nat} {v : Value} {cs : List (Co × Value)} (h : Rw w base v cs) : ∀ b ∈ Lp.bls cs, b < w.heap.size := fun b hb => by
  unfold Lp.bls at hb
  rw [List.mem_flatMap] at hb
  obtain ⟨p, hp, e⟩ := hb
  exact (h.2 p hp).lt b (by simpa using e)
end Lw
namespace Ste
/-- What a call that lays nodes leaves: all blocks that were there but that of the list. -/
structure Lf (v v' : Value) (w w' : World) : Prop where
  os : w'.os = w.os
  tape : w'.tape = w.tape
  output : w'.output = w.output
  size : w.heap.size ≤ w'.heap.size
  block : ∀ k, k < w.heap.size → v.ownBlock ≠ some k → w'.heap[k]? = w.heap[k]?
  own : v'.ownBlock = v.ownBlock ∨ ∃ b, v'.ownBlock = some b ∧ w.heap.size ≤ b
theorem Lf.refl (v : Value) (w : World) : Lf v v w w := ⟨rfl, rfl, rfl, Nat.le_refl _, fun _ _ _ => rfl, .inl rfl⟩
theorem Lf.trans {v v1 v2 : Value} {w w1 w2 : World} (h : Lf v v1 w w1) (k : Lf v1 v2 w1 w2) : Lf v v2 w w2 :=
  ⟨k.os.trans h.os, k.tape.trans h.tape, k.output.trans h.output, Nat.le_trans h.size k.size, fun i h1 h3 =>
    (k.block i (Nat.lt_of_lt_of_le h1 h.size) (fun e => by
      rcases h.own with e1 | ⟨b, e1, e2⟩
      · exact h3 (e1.symm.trans e)
      · rw [e1] at e; cases e; omega)).trans (h.block i h1 h3),
    by
      rcases k.own with e1 | ⟨b, e1, e2⟩
      · rw [e1]; exact h.own
      · exact .inr ⟨b, e1, Nat.le_trans h.size e2⟩⟩
theorem Lf.behind {v v' : Value} {w w1 w2 : World} (k : Lf v v' w w1) (hb : Below w.heap.size w1 w2) (hs : w1.heap.size ≤ w2.heap.size) : Lf v v' w w2 :=
  ⟨hb.os.trans k.os, hb.tape.trans k.tape, hb.output.trans k.output, Nat.le_trans k.size hs, fun i h1 h3 => (hb.block i h1).trans (k.block i h1 h3), k.own⟩
theorem Lf.grown {v v' : Value} {w w' : World} (hg : w.grownBy w' v.ownBlock) (ho : v'.ownBlock = v.ownBlock ∨ v'.ownBlock = some w.heap.size) : Lf v v' w w' :=
  ⟨hg.os, hg.tape, hg.output, hg.size, fun k h1 h2 => hg.block k h1 (fun e => h2 e.symm), by
    rcases ho with e | e
    · exact .inl e
    · exact .inr ⟨_, e, Nat.le_refl _⟩⟩
/-- A block of another kind than a list of nodes is kept. -/
theorem Lf.keep {v v' : Value} {w w' : World} {base : Nat} {cs : List (Co × Value)} (h : Lf v v' w w') (hr : Lw.Rw w base v cs) {k : Nat} {c : Array Value} {t : TypeId} (hk : w.heap[k]? = some (Obj.cells c t (0, 0))) (ht : t ≠ 47) : w'.heap[k]? = w.heap[k]? := by
  refine h.block k (Array.getElem?_eq_some_iff.1 hk).1 (fun e => ?_)
  obtain ⟨_, c', q⟩ := hr.typed e
  rw [hk] at q
  simp only [Option.some.injEq, Obj.cells.injEq] at q
  exact ht q.2.1
theorem Lf.ownk {v v' : Value} {w w' : World} {base : Nat} {cs : List (Co × Value)} (h : Lf v v' w w') (hr : Lw.Rw w base v cs) {b : Nat} {t : TypeId} {xs : List Value} (ho : Own w b t xs) (ht : t ≠ 47) : Own w' b t xs := by
  obtain ⟨c, q1, q2⟩ := ho
  exact ⟨c, (h.keep hr q1 ht).trans q1, q2⟩
theorem Lf.below {v v' : Value} {w w' : World} {B : Nat} (h : Lf v v' w w') (hv : ∀ b, v.ownBlock = some b → B ≤ b) (hB : B ≤ w.heap.size) : Below B w w' :=
  ⟨h.os, h.tape, h.output, h.size, fun k hk => h.block k (by omega) (fun e => by have := hv k e; omega)⟩
/-- What layBehind tells. -/
def Lys (base : Nat) (w : World) (v : Value) (cs : List (Co × Value)) (s : Ste) (e : Ending) (w' : World) : Prop := ∃ v' cs', e = .returned v' ∧ cs'.map Prod.fst = cs.map Prod.fst ++ lay cs.length s ∧ Lw.Rw w' base v' cs' ∧ (Lp.bls cs').Nodup ∧ Lf v v' w w'
/-- The links that are told so far. -/
def lnk (b : Nat) (L : List Ste) (i j : Nat) : Int := if j < i then endAt b L j else 0
/-- The parts ahead of i are laid. -/
structure Ll (base : Nat) (w wr : World) (v0 : Value) (cs0 : List (Co × Value)) (s : Ste) (lb i : Nat) (v : Value) (cs : List (Co × Value)) : Prop where
  row : Lw.Rw wr base v cs
  eq : cs.map Prod.fst = cs0.map Prod.fst ++ layL cs0.length (s.ks.take i)
  nd : (Lp.bls cs).Nodup
  fr : Lf v0 v w wr
  lk : Own wr lb 93 [.int .i64 (lnk cs0.length s.ks i 0), .int .i64 (lnk cs0.length s.ks i 1), .int .i64 (lnk cs0.length s.ks i 2)]
theorem Ll.len {base : Nat} {w wr : World} {v0 v : Value} {cs0 cs : List (Co × Value)} {s : Ste} {lb i : Nat} (h : Ll base w wr v0 cs0 s lb i v cs) : cs.length = cs0.length + szL (s.ks.take i) := by
  have := congrArg List.length h.eq
  rw [List.length_map, List.length_append, List.length_map, layL_len] at this
  exact this
/-- A part is laid, and its link told. -/
theorem Ll.step {base : Nat} {w wr w1 : World} {v0 v v1 : Value} {cs0 cs cs1 : List (Co × Value)} {s : Ste} {lb i : Nat} (h : Ll base w wr v0 cs0 s lb i v cs) (hi : i < s.ks.length) (hlb : base ≤ lb) (he : cs1.map Prod.fst = cs.map Prod.fst ++ lay cs.length (g s.ks i)) (hr : Lw.Rw w1 base v1 cs1) (hn : (Lp.bls cs1).Nodup) (hf : Lf v v1 wr w1) (hlw : w.heap.size ≤ lb) :
    (∃ u, w1.cell? ⟨lb, i, none⟩ = some u) ∧ w1.frozen? ⟨lb, i, none⟩ = false ∧ Ll base w (w1.setCell ⟨lb, i, none⟩ (.int .i64 ((cs1.length : Int) - 1))) v0 cs0 s lb (i + 1) v1 cs1 := by
  have h3 := ks_le s
  have o1 := hf.ownk h.row h.lk (by decide)
  have heq : cs1.map Prod.fst = cs0.map Prod.fst ++ layL cs0.length (s.ks.take (i + 1)) := by
    rw [he, h.eq, h.len, layL_take_succ _ _ _ hi, List.append_assoc]
    rfl
  have hlen : cs1.length = cs0.length + szL (s.ks.take (i + 1)) := by
    have := congrArg List.length heq
    rw [List.length_map, List.length_append, List.length_map, layL_len] at this
    exact this
  have hend : endAt cs0.length s.ks i = (cs1.length : Int) - 1 := by
    unfold endAt
    rw [if_pos hi, hlen]
  have hne : v1.ownBlock ≠ some lb := hr.ne o1 (by decide)
  refine ⟨?_, o1.frozen i, ⟨?_, heq, hn, (h.fr.trans hf).behind ((Below.refl _ _).setCell (show w.heap.size ≤ lb from hlw) _) (by simp), ?_⟩⟩
  · have hc := o1.cell i
    have : i = 0 ∨ i = 1 ∨ i = 2 := by omega
    rcases this with rfl | rfl | rfl <;> exact ⟨_, hc⟩
  · refine ⟨?_, fun p hp => ?_⟩
    · obtain ⟨⟨q1, ⟨q2, q3⟩ | ⟨gb, cap, cur, q4, hg', hh, q5⟩⟩, _⟩ := hr
      · exact ⟨q1, .inl ⟨q2, q3⟩⟩
      · exact ⟨q1, .inr ⟨gb, cap, cur, q4, hg', (heap_setCell_other _ ⟨lb, i, none⟩ gb _ (fun e => hne (by rw [q4]; show some gb = some lb; rw [e]))).trans hh, q5⟩⟩
    · have hq := hr.2 p hp
      refine hq.setOther _ _ (fun b hb e => ?_)
      have e : b = lb := e
      obtain ⟨_, ⟨q, _⟩ | ⟨bb, cc, u1, _, _, xs, ⟨arr, v2, _⟩, _⟩⟩ := hq
      · rw [q] at hb; cases hb
      · rw [u1] at hb
        cases hb
        have e : bb = lb := e
        obtain ⟨arr2, u2, _⟩ := o1
        rw [e, u2] at v2
        simp only [Option.some.injEq, Obj.cells.injEq] at v2
        exact absurd v2.2.1 (by decide)
  · have hset := o1.set i (.int .i64 ((cs1.length : Int) - 1))
    have : i = 0 ∨ i = 1 ∨ i = 2 := by omega
    rcases this with rfl | rfl | rfl
    · simpa [lnk, hend] using hset
    · simpa [lnk, hend] using hset
    · simpa [lnk, hend] using hset
end Ste
end Go.Proofs.YtbaanpgbfncdnaaGreat
