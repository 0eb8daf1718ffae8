/-
  impl.layObject of parts that are not asked for a fault, of no more cells than a text has bytes.
-/
import Derived.Test.YtlmibdddfjbbdaaM26
import Derived.Test.YtlmibdddfjbbdaaM27
namespace Go.Proofs.Ytlmibdddfjbbdaa
open Go.RowKit
set_option linter.unusedVariables false

set_option maxRecDepth 100000 in
set_option maxHeartbeats 2000000 in
theorem layObjectC_any (kq kc : Nat) (a' : Option Addr) (lc : Nat) (ks : List ByteArray) (ps : List (List M.Cl)) (w : World) (hklt : kq < w.heap.size) (hK : ∀ i, i < ks.length → w.cell? ⟨kq, i, none⟩ = some (.string (ks.getD i ByteArray.empty))) (hL : LV w a' ps) (hkc : ks.length ≤ kc) (hlc : ps.length ≤ lc) (hlen : ks.length = ps.length) (hn : ks.length ≤ 4096) (ht : tot ps ps.length ≤ 8192) (hv : ∀ j, j < ps.length → Bare (ps.getD j [])) :
    Calls Try.prog 34 #[.slice (some ⟨kq, 0, none⟩) ks.length kc, .slice a' ps.length lc] w fun e w' => ∃ s, e = .returned s ∧ Res w' w.heap.size s (objV ks ps) ∧ Below w.heap.size w w' := by
  have HK := hide hK
  have HL := hide hL
  have HV := hide hv
  have hle1 : ks.length ≤ ps.length := by omega
  have hle2 : ps.length ≤ ks.length := by omega
  clear hK hL hv hlen
  go_enter Try.func34, Try.ntmps34
  go_wp2_with fail
  refine (standing_any kq kc ks _ hklt (unhide HK) (by omega) hkc).mono ?_
  rintro e1 w1 ⟨s1, rfl, ho1, hb1⟩
  have hst := hide (St.stand_lt ks ks.length)
  have hsl := St.stand_length ks ks.length
  have hOL := hide (fun k => objK_le ks ps (St.stand ks ks.length) (J.stand_nodup ks ks.length) (fun x hx => by have := (unhide hst) x hx; omega) k)
  have hfin := hide (show objV ks ps = objK ks ps (St.stand ks ks.length) (St.stand ks ks.length).length from rfl)
  generalize St.stand ks ks.length = L at *
  have hel : ∃ a c, s1 = .slice a L.length c ∧ ∀ i, i < L.length → ∃ b, a = some ⟨b, 0, none⟩ ∧ b < w1.heap.size ∧ w1.cell? ⟨b, i, none⟩ = some (.int .i64 (L.getD i 0 : Nat)) := by
    obtain ⟨_, ⟨rfl, h0⟩ | ⟨g, cap, cur, rfl, hg, hh, hnc, hcm, hcs, ht⟩⟩ := ho1
    · exact ⟨_, _, by rw [h0], fun i hi => by omega⟩
    · refine ⟨_, _, rfl, fun i hi => ⟨g, rfl, (Array.getElem?_eq_some_iff.1 hh).1, ?_⟩⟩
      rw [cell_of_row w1 g i cur 3 (0, 0) hh]
      have h3 : cur.toList[i]? = (natV L)[i]? := by rw [← ht, List.getElem?_take, if_pos (by omega)]
      have h4 : cur[i]? = cur.toList[i]? := by simp
      rw [h4, h3, natV_get L i hi]
  obtain ⟨sa, sc, rfl, hel⟩ := hel
  have HEL := hide hel
  clear hel ho1
  go_wp2_with fail
  go_loopg [6, 17] L.length (fun gh s6 s17 wr => ∃ k : Nat, Hid (gh = L.length - k) ∧ s17 = .int .i64 k ∧ k ≤ L.length ∧ wr.ownsRow w1.heap.size 41 5 s6 (objK ks ps L k).length (flat (objK ks ps L k)) ∧ Below w1.heap.size w1 wr)
  case atStart => exact ⟨0, rfl, rfl, by omega, one_own w1 w1.heap.size _ (headCl 6 L.length) rfl (Nat.le_refl _), (Below.refl _ _).alloc (Nat.le_refl _) _⟩
  case round =>
    obtain ⟨k, hg, rfl, hk, hown, hbel⟩ := hrel
    have BR : Below w.heap.size w wr := hb1.trans (hbel.mono hb1.size)
    by_cases hlt : k < L.length
    · obtain ⟨pb, rfl, hpb, hpc⟩ := (unhide HEL) k hlt
      have hpc2 := (hbel.cell (p := ⟨pb, k, none⟩) hpb).trans hpc
      have hmem : L.getD k 0 ∈ L := by rw [List.getD_eq_getElem?_getD, List.getElem?_eq_getElem hlt]; exact List.getElem_mem _
      have hx := (unhide hst) _ hmem
      have hsucc := hide (objK_succ ks ps L k hlt)
      have hol := (unhide hOL) k
      obtain ⟨x, hxe⟩ : ∃ x, x = L.getD k 0 := ⟨_, rfl⟩
      rw [← hxe] at hpc2 hx hsucc
      clear hxe hmem hpc
      obtain ⟨gl, b, off, c, rfl, hgl, f0, hcc, hb, hr⟩ := ((unhide HL).below BR) x (by omega)
      have hp := ((unhide HV) x (by omega)).1
      have htp := tot_part ps x (by omega)
      have hpn : ps.getD x [] ≠ [] := by intro e; rw [e] at hp; simp at hp
      have hkey := (BR.cell (p := ⟨kq, x, none⟩) hklt).trans ((unhide HK) x hx)
      have hxz : (x : Int) < (ks.length : Int) := by omega
      have hxz2 : (x : Int) < (ps.length : Int) := by omega
      generalize ks.getD x ByteArray.empty = key at *
      have HAP := hide (appendPart_any w1.heap.size u6 (objK ks ps L k) (ps.getD x []) b off c key wr.drew hown hr hpn (by omega) hbel.size)
      rw [← unhide hsucc] at HAP
      clear hown hr hpn hsucc htp
      generalize ps.getD x [] = p at *
      go_wp2_with fail
      go_region_with (go_at_call 44; refine (unhide HAP).mono ?_; rintro e2 w2 ⟨v', rfl, ho2, hb2⟩)
      all_goals
        have B2 : Below w1.heap.size w1 w2 := hbel.drew.trans hb2
        have HO2 := hide ho2
        clear ho2 hb2 f0 HAP hkey
        go_wp2_with fail
        go_roundg (L.length - (k + 1))
        case rel => exact ⟨k + 1, rfl, by go_num, by omega, unhide HO2, B2⟩
        case measure => have := hg.out; omega
    · have hke : k = L.length := by omega
      subst hke
      have hol := (unhide hOL) L.length
      have fin := hide (show Res wr w.heap.size u6 (objV ks ps) by rw [unhide hfin]; exact (res_of_owns hown (by omega)).mono hb1.size)
      clear hown
      go_wp2_with fail
      go_ret
      exact ⟨_, rfl, unhide fin, BR⟩

theorem layObjectB_any (a a' : Option Addr) (kc lc : Nat) (ks : List ByteArray) (ps : List (List M.Cl)) (w : World) (hK : TV w a ks) (hL : LV w a' ps) (hkc : ks.length ≤ kc) (hlc : ps.length ≤ lc) (hlen : ks.length = ps.length) (hn : ks.length ≤ 4096) (ht : tot ps ps.length ≤ 8192) (hv : ∀ j, j < ps.length → Bare (ps.getD j [])) :
    Calls Try.prog 34 #[.slice a ks.length kc, .slice a' ps.length lc] w fun e w' => ∃ s, e = .returned s ∧ Res w' w.heap.size s (objV ks ps) ∧ Below w.heap.size w w' := by
  by_cases h0 : ks.length = 0
  · have h1 : ks = [] := List.length_eq_zero_iff.1 h0
    have h2 : ps = [] := List.length_eq_zero_iff.1 (by omega)
    subst h1 h2
    exact layObject_none a a' kc lc w
  · obtain ⟨g, rfl, hg, _⟩ := hK 0 (by omega)
    refine layObjectC_any g kc a' lc ks ps w hg (fun i hi => ?_) hL hkc hlc hlen hn ht hv
    obtain ⟨k, e, _, hk⟩ := hK i hi
    cases e
    exact hk
end Go.Proofs.Ytlmibdddfjbbdaa
