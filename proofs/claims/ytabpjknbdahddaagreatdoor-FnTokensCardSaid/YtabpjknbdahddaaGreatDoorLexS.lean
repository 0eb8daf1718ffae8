/-
  impl.LexProgram: the tokens of a text, where each of its pieces is one; a text that is too long.
-/
import Derived.Test.YtabpjknbdahddaaGreatDoorLexQ
import Derived.Test.YtabpjknbdahddaaGreatDoorAsT
namespace Go.Proofs.YtabpjknbdahddaaGreatDoor
open Go.RowKit
set_option linter.unusedVariables false
set_option linter.unusedSimpArgs false


/-- The program's error for numbers. -/
def GErr (w : World) : Prop := ∃ ev : Value, (ev = .nilIface ∨ ∃ te pe, ev = .iface te pe) ∧ 6 < w.heap.size ∧ w.cell? ⟨6, 0, none⟩ = some ev
theorem GErr.glob {w w' : World} {b : Nat} (h : GErr w) (hb : Below w.heap.size w w') (hw : w.heap.size ≤ b) : Glob w' b := by
  obtain ⟨ev, h1, h2, h3⟩ := h
  exact ⟨ev, h1, Nat.lt_of_lt_of_le h2 hb.size, by omega, (hb.cell (p := ⟨6, 0, none⟩) h2).trans h3⟩
theorem row_keep {w w' : World} {B B' : Nat} {t : TypeId} {n sz : Nat} {v : Value} {xs : List Value} (h : w.ownsRow B t sz v n xs) (hB : B' ≤ B) (hk : ∀ g, B ≤ g → g < w.heap.size → w'.heap[g]? = w.heap[g]?) : w'.ownsRow B' t sz v n xs := by
  obtain ⟨h0, h1 | ⟨g, c, cur, h2, hg, hh, rest⟩⟩ := h
  · exact ⟨h0, .inl h1⟩
  · exact ⟨h0, .inr ⟨g, c, cur, h2, by omega, (hk g hg (Array.getElem?_eq_some_iff.1 hh).1).trans hh, rest⟩⟩
theorem row_shape {w : World} {B : Nat} {t : TypeId} {n sz : Nat} {v : Value} {xs : List Value} (h : w.ownsRow B t sz v n xs) : ∃ (a : Option Addr) (c : Nat), v = .slice a n c := by
  obtain ⟨h0, h1 | ⟨g, c, cur, h2, hg, hh, rest⟩⟩ := h
  · exact ⟨none, 0, by rw [h1.1, h1.2]⟩
  · exact ⟨_, _, h2⟩
/-- What LexProgram answers of a text that is read. -/
def LexSaid (w : World) (ts : List Tk) (e : Ending) (w' : World) : Prop := ∃ v : Value, e = .returned (.agg #[.int .i64 0, .int .i64 0, v]) ∧ w'.ownsRow w.heap.size 33 4 v ts.length (tkFlat ts) ∧ Below w.heap.size w w'
set_option maxHeartbeats 1000000 in
theorem lexProgram_big (s : ByteArray) (w : World) (hs : 4000 < s.size) : Calls Tryz.prog 9 #[.string s] w fun e w' => e = .returned (.agg #[.int .i64 2, .int .i64 0, .slice none 0 0]) ∧ Below w.heap.size w w' := by
  have hbz : (4000 : Int) < (s.size : Int) := by omega
  clear hs
  go_enter Tryz.func9, Tryz.ntmps9
  go_wp2_with fail
  refine bodyPost_ret (v := .agg #[.int .i64 2, .int .i64 0, .slice none 0 0]) (by simp [results, Tryz.results9, go_sem]; try rfl) rfl ⟨rfl, (Below.refl _ _).alloc (Nat.le_refl _) _⟩
set_option maxRecDepth 100000 in
set_option maxHeartbeats 4000000 in
theorem lexProgram_any (s : ByteArray) (ts : List Tk) (w : World) (hs : s.size ≤ 4000) (hG : GErr w) (hn : ts.length ≤ 300) (hr : Reads s (J.skip s 0) ts) :
    Calls Tryz.prog 9 #[.string s] w (LexSaid w ts) := by
  have hbz : ¬ (4000 : Int) < (s.size : Int) := by omega
  obtain ⟨w1, hw1⟩ : ∃ w1, w1 = w.alloc (.cells #[.int .i64 0, .int .i64 0, .slice none 0 0] 30) := ⟨_, rfl⟩
  have B1 : Below w.heap.size w w1 := by rw [hw1]; exact (Below.refl _ _).alloc (Nat.le_refl _) _
  have O1 : Own w1 w.heap.size 30 [.int .i64 0, .int .i64 0, .slice none 0 0] := by rw [hw1]; exact ⟨_, heap_alloc_new _ _, rfl⟩
  have hs1 : w1.heap.size = w.heap.size + 1 := by rw [hw1]; simp
  have HS1 := hide hs1
  clear hs1
  have HM := hide (markNumbers_any w1)
  have HG := hide hG
  have HT := hide (fun (W : World) (b mb : Nat) (h : Lx W W b mb s 0) (hB : Below w.heap.size w W) (hb : w.heap.size ≤ b) => tokens_any b mb s ts W h hs (hG.glob hB hb) hn hr)
  clear hG hr
  go_enter Tryz.func9, Tryz.ntmps9
  go_wp2_with fail
  rw [← hw1]
  clear hw1
  refine (unhide HM).mono ?_
  rintro e w2 ⟨rfl, hm2, hb2⟩
  have hs1 := unhide HS1
  have B2 : Below w.heap.size w w2 := B1.trans (hb2.mono B1.size)
  have O2 := O1.below hb2 (by omega)
  have hs2 := hb2.size
  have hml : w1.heap.size < w2.heap.size := hm2.lt
  obtain ⟨w3, hw3⟩ : ∃ w3, w3 = w2.alloc (.cells #[.string s, .int .i64 0, .map (some w1.heap.size)] 56) := ⟨_, rfl⟩
  have R3 : Lx w3 w3 w2.heap.size w1.heap.size s 0 := by
    have hR : Rd w3 w2.heap.size 56 s 0 [.map (some w1.heap.size)] := by rw [hw3]; exact ⟨_, heap_alloc_new _ _, rfl⟩
    exact ⟨hR, Tch.refl _ _ _, map_keep hm2 (by rw [hw3]; exact Below.heap_alloc _ _ _ hml), by omega⟩
  have B3 : Below w.heap.size w w3 := by rw [hw3]; exact B2.alloc B2.size _
  have O3 : Own w3 w.heap.size 30 [.int .i64 0, .int .i64 0, .slice none 0 0] := by rw [hw3]; exact O2.alloc _
  have hs3 : w3.heap.size = w2.heap.size + 1 := by rw [hw3]; simp
  have HT3 := hide ((unhide HT) w3 w2.heap.size w1.heap.size R3 B3 B2.size)
  have HS3 := hide hs3
  have HML := hide hml
  clear HT HM hm2 hb2 B1 O1 B2 O2 R3 hs1 hs2 hs3 hml
  go_wp2_with fail
  rw [show w2.alloc (.cells #[.string s, .int .i64 0, .map (some w1.heap.size)] 56) = w3 from hw3.symm]
  clear hw3
  refine (unhide HT3).mono ?_
  rintro e w4 ⟨v, k, rfl, L4⟩
  have hs1 := unhide HS1
  have hs3 := unhide HS3
  have hml := unhide HML
  have row4 := L4.row
  have tch4 := L4.lx.tch
  have B4 : Below w.heap.size w w4 := B3.trans (tch4.below (by omega) (by omega))
  have O4 : Own w4 w.heap.size 30 [.int .i64 0, .int .i64 0, .slice none 0 0] := by
    obtain ⟨xs, h1, h2⟩ := O3
    exact ⟨xs, (tch4.block _ (by omega) (by omega)).trans h1, h2⟩
  obtain ⟨va, vc, rfl⟩ := row_shape row4
  have FIN := hide (fun (o : Obj) x0 x1 x2 => show ((((w4.alloc o).setCell ⟨w.heap.size, 0, none⟩ x0).setCell ⟨w.heap.size, 1, none⟩ x1).setCell ⟨w.heap.size, 2, none⟩ x2).ownsRow w.heap.size 33 4 (.slice va ts.length vc) ts.length (tkFlat ts) from
    row_keep row4 (by omega) (fun g h1 h2 => by rw [heap_setCell_other _ ⟨w.heap.size, 2, none⟩ g x2 (by simp only; omega), heap_setCell_other _ ⟨w.heap.size, 1, none⟩ g x1 (by simp only; omega), heap_setCell_other _ ⟨w.heap.size, 0, none⟩ g x0 (by simp only; omega)]; exact Below.heap_alloc _ _ _ h2))
  have B5 := hide (fun (o : Obj) x0 x1 x2 => show Below w.heap.size w ((((w4.alloc o).setCell ⟨w.heap.size, 0, none⟩ x0).setCell ⟨w.heap.size, 1, none⟩ x1).setCell ⟨w.heap.size, 2, none⟩ x2) from (((B4.alloc B4.size o).setCell (Nat.le_refl _) _).setCell (Nat.le_refl _) _).setCell (Nat.le_refl _) _)
  have c0 : ∀ o, (w4.alloc o).cell? ⟨w.heap.size, 0, none⟩ = some (.int .i64 0) := fun o => (O4.alloc o).cell 0
  have z0 : ∀ o, (w4.alloc o).frozen? ⟨w.heap.size, 0, none⟩ = false := fun o => (O4.alloc o).frozen 0
  have c1 : ∀ o, (w4.alloc o).cell? ⟨w.heap.size, 1, none⟩ = some (.int .i64 0) := fun o => (O4.alloc o).cell 1
  have z1 : ∀ o, (w4.alloc o).frozen? ⟨w.heap.size, 1, none⟩ = false := fun o => (O4.alloc o).frozen 1
  have c2 : ∀ o, (w4.alloc o).cell? ⟨w.heap.size, 2, none⟩ = some (.slice none 0 0) := fun o => (O4.alloc o).cell 2
  have z2 : ∀ o, (w4.alloc o).frozen? ⟨w.heap.size, 2, none⟩ = false := fun o => (O4.alloc o).frozen 2
  clear L4 row4 tch4 B4 O4 B3 O3 HT3 hs1 hs3 hml
  go_wp2_with fail
  refine (as_nil _ _).mono ?_
  rintro e wk ⟨rfl, hwk⟩
  rw [hwk]
  clear hwk
  go_wp2_with fail
  refine bodyPost_ret (v := .agg #[.int .i64 0, .int .i64 0, .slice va ts.length vc]) (by simp [results, Tryz.results9, go_sem, c0, c1, c2]; try rfl) rfl ⟨_, rfl, (unhide FIN) _ _ _ _, (unhide B5) _ _ _ _⟩

end Go.Proofs.YtabpjknbdahddaaGreatDoor
