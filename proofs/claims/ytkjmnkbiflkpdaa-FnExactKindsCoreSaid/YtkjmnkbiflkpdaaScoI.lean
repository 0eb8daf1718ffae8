/-
  ScopeFault, the program's side: holderPlaces, isBound, isKnownCall.
-/
import Derived.Test.YtkjmnkbiflkpdaaScoM
import Derived.Test.YtkjmnkbiflkpdaaTreI
import Derived.Test.YtkjmnkbiflkpdaaHldI
namespace Go.Proofs.Ytkjmnkbiflkpdaa
open Go.RowKit
set_option linter.unusedVariables false
set_option linter.unusedSimpArgs false

set_option maxRecDepth 100000 in
set_option maxHeartbeats 2000000 in
theorem holderPlaces_big (B g cap : Nat) (gs : List Nat) (l : List Nd) (w : World) (hnp : Tr.NP w B (.slice (some ⟨g, 0, none⟩) l.length cap) l gs) (hgl : gs.length = l.length) (hcap : l.length ≤ cap) (hg0 : g < w.heap.size) (h200 : l.length ≤ 1000) (h0 : 0 < l.length) (hf : Tr.Fine l) :
    Calls Try.prog 49 #[.slice (some ⟨g, 0, none⟩) l.length cap] w fun e w' => e = .returned (.slice (some ⟨w.heap.size, 0, none⟩) l.length l.length) ∧ (∃ xs, Own w' w.heap.size 2 xs ∧ Tr.Holds l xs (Tr.hold l)) ∧ Below w.heap.size w w' := by
  have HNP := hide hnp
  have HGL := hide hgl
  have HF := hide hf
  clear hnp hgl hf
  have hmk := Tr.make_ints l.length (by omega)
  go_enter Try.func49, Try.ntmps49
  go_wp2_with fail
  go_loopg [13] l.length (fun gh s13 wr => ∃ (k : Nat) (xs : List Value), Hid (gh = l.length - k) ∧ s13 = .int .i64 k ∧ k ≤ l.length ∧ Own wr w.heap.size 2 xs ∧ Hid (Tr.Holds l xs (Tr.holdK l k)) ∧ Below w.heap.size w wr)
  case atStart =>
    refine ⟨0, _, rfl, rfl, by omega, ⟨_, heap_alloc_new _ _, rfl⟩, ?_, (Below.refl _ _).alloc (Nat.le_refl _) _⟩
    exact ⟨Tr.made_length _, fun j hj => by rw [toList_madeCells_one, List.getElem?_replicate, if_pos hj]; rfl⟩
  case round =>
    clear hmk
    obtain ⟨k, xs, hg, rfl, hk, hown, hh, hbel⟩ := hrel
    by_cases hlt : k < l.length
    · have hltI : (k : Int) < (l.length : Int) := by omega
      have hkg : k < gs.length := by rw [unhide HGL]; exact hlt
      have f0 := (hbel.cell (by exact hg0)).trans (Tr.np_cell (unhide HNP) k hkg)
      have hog := ((unhide HNP).2 k hkg).2
      have hgne : gs.getD k 0 < w.heap.size := hog.lt
      have hkl := Tr.kids_le (l.getD k Nd.zero).op
      have hfin := hide (fun j hj => Tr.kid_fine (unhide HF) k hlt j hj)
      have hsucc := hide (fun m hm x hx j => Tr.holdM_succ l k m hm x hx j)
      have hz := hide (fun j => Tr.holdM_zero l k j)
      have hall := hide (fun j => Tr.holdM_all l k j)
      have habc := hide (fun (W : World) (hW : Below w.heap.size w W) j hj => ((hog.below hW hog.lt).cell j).trans (Tr.abc_get (l.getD k Nd.zero) j hj))
      obtain ⟨v0, g0⟩ : ∃ v, xs[k]? = some v := ⟨_, hh.out.2 k hlt⟩
      have i0 := (hown.cell k).trans g0
      have z0 := hown.frozen k
      have G0 := hide g0
      clear hog hkg g0
      generalize l.getD k Nd.zero = n at *
      generalize gs.getD k 0 = gk' at *
      obtain ⟨ks, hks⟩ : ∃ ks, ks = Tr.kids n.op := ⟨_, rfl⟩
      rw [← hks] at f0 hkl hfin hsucc hall
      clear hks
      have hsb : Below w.heap.size w (wr.setCell ⟨w.heap.size, k, none⟩ (.int .i64 (-1))) := hbel.setCell (Nat.le_refl _) _
      have hso := hown.set k (.int .i64 (-1))
      have hsh := hide ((hh.out.put k (-1)).congr (h' := Tr.holdM l k 0) (fun j _ => by rw [(unhide hz) j]))
      go_wp2_with fail
      go_loopg [23] ks (fun gh s23 w2 => ∃ (m : Nat) (ys : List Value), Hid (gh = ks - m) ∧ s23 = .int .i64 m ∧ m ≤ ks ∧ Own w2 w.heap.size 2 ys ∧ Hid (Tr.Holds l ys (Tr.holdM l k m)) ∧ Below w.heap.size w w2)
      case atStart => exact ⟨0, _, rfl, rfl, by omega, hso, unhide hsh, hsb⟩
      case round =>
        obtain ⟨m, ys, hgm, rfl, hm, hown2, hh2, hbel2⟩ := hrel
        clear i0 z0 hso hsb
        by_cases hml : m < ks
        · have hmI : (m : Int) < (ks : Int) := by omega
          have f1 := (unhide habc) _ hbel2 m (by omega)
          have hb1 := (unhide hfin) m hml
          obtain ⟨x, hx⟩ : ∃ x : Nat, Tr.kidAt n m = x := ⟨(Tr.kidAt n m).toNat, by omega⟩
          have hs1 := hide (fun j => (unhide hsucc) m hml x hx j)
          rw [hx] at f1 hb1
          have hxk : x < k := by omega
          have hxI : (x : Int) < (l.length : Int) := by omega
          have hx0 : (0 : Int) ≤ (x : Int) := by omega
          obtain ⟨v1, g1⟩ : ∃ v, ys[x]? = some v := ⟨_, hh2.out.2 x (by omega)⟩
          have i1 := (hown2.cell x).trans g1
          have z1 := hown2.frozen x
          have hn2 := hide ((hh2.out.put x (k : Int)).congr (h' := Tr.holdM l k (m + 1)) (fun j _ => by rw [(unhide hs1) j]))
          have G1 := hide g1
          clear hx hb1 hml g1
          go_wp2_with fail
          go_roundg (ks - (m + 1))
          case rel => exact ⟨m + 1, _, rfl, by go_num, by omega, hown2.set x _, unhide hn2, hbel2.setCell (Nat.le_refl _) _⟩
          case measure => have := hgm.out; omega
        · have hme : m = ks := by omega
          have hn2 := hide (hh2.out.congr (h' := Tr.holdK l (k + 1)) (fun j _ => by rw [hme, (unhide hall) j]))
          clear hme
          go_wp2_with fail
          go_roundg (l.length - (k + 1))
          case rel => exact ⟨k + 1, _, rfl, by go_num, by omega, hown2, unhide hn2, hbel2⟩
          case measure => have := hg.out; omega
    · have hke : k = l.length := by omega
      have fin := hide (show Tr.Holds l xs (Tr.hold l) by have := hh.out; rw [hke] at this; exact this)
      clear hke
      go_wp2_with fail
      go_ret
      exact ⟨rfl, ⟨xs, hown, unhide fin⟩, hbel⟩
theorem holderPlaces_any (B g cap : Nat) (gs : List Nat) (l : List Nd) (w : World) (hnp : Tr.NP w B (.slice (some ⟨g, 0, none⟩) l.length cap) l gs) (hgl : gs.length = l.length) (hcap : l.length ≤ cap) (hg0 : g < w.heap.size) (h200 : l.length ≤ 200) (h0 : 0 < l.length) (hf : Tr.Fine l) :
    Calls Try.prog 49 #[.slice (some ⟨g, 0, none⟩) l.length cap] w fun e w' => e = .returned (.slice (some ⟨w.heap.size, 0, none⟩) l.length l.length) ∧ (∃ xs, Own w' w.heap.size 2 xs ∧ Tr.Holds l xs (Tr.hold l)) ∧ Below w.heap.size w w' := holderPlaces_big B g cap gs l w hnp hgl hcap hg0 (by omega) h0 hf
theorem calls_w0 : (Tr.theCalls.getD 0 ByteArray.empty).toList = [108, 101, 110, 103, 116, 104] := by first | rfl | decide | simp [Tr.theCalls] | simp [Tr.theCalls, go_sem]
theorem calls_w1 : (Tr.theCalls.getD 1 ByteArray.empty).toList = [107, 101, 121, 115] := by first | rfl | decide | simp [Tr.theCalls] | simp [Tr.theCalls, go_sem]
theorem calls_w2 : (Tr.theCalls.getD 2 ByteArray.empty).toList = [110, 111, 116] := by first | rfl | decide | simp [Tr.theCalls] | simp [Tr.theCalls, go_sem]
theorem calls_w3 : (Tr.theCalls.getD 3 ByteArray.empty).toList = [101, 109, 112, 116, 121] := by first | rfl | decide | simp [Tr.theCalls] | simp [Tr.theCalls, go_sem]
theorem calls_w4 : (Tr.theCalls.getD 4 ByteArray.empty).toList = [101, 114, 114, 111, 114] := by first | rfl | decide | simp [Tr.theCalls] | simp [Tr.theCalls, go_sem]
theorem calls_w5 : (Tr.theCalls.getD 5 ByteArray.empty).toList = [116, 121, 112, 101] := by first | rfl | decide | simp [Tr.theCalls] | simp [Tr.theCalls, go_sem]
theorem calls_w6 : (Tr.theCalls.getD 6 ByteArray.empty).toList = [115, 111, 114, 116] := by first | rfl | decide | simp [Tr.theCalls] | simp [Tr.theCalls, go_sem]
theorem calls_w7 : (Tr.theCalls.getD 7 ByteArray.empty).toList = [97, 100, 100] := by first | rfl | decide | simp [Tr.theCalls] | simp [Tr.theCalls, go_sem]

theorem ones_w0 : (Tr.theOnes.getD 0 ByteArray.empty).toList = [109, 97, 112] := by first | rfl | decide | simp [Tr.theOnes] | simp [Tr.theOnes, go_sem]
theorem ones_w1 : (Tr.theOnes.getD 1 ByteArray.empty).toList = [115, 101, 108, 101, 99, 116] := by first | rfl | decide | simp [Tr.theOnes] | simp [Tr.theOnes, go_sem]
theorem ones_w2 : (Tr.theOnes.getD 2 ByteArray.empty).toList = [114, 97, 110, 103, 101] := by first | rfl | decide | simp [Tr.theOnes] | simp [Tr.theOnes, go_sem]

end Go.Proofs.Ytkjmnkbiflkpdaa
