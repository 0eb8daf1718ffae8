/-
  The laws' marks: laws.markText, laws.markCellS write told numbers into a row of the call's own; laws.heldCellS finds them there.
  laws.markCellS writes told numbers into a row of the call's own, and laws.heldCellS finds them there.
  laws.heldCellS finds the told numbers in a row that holds them.
  An answer that holds a list of cells: what it is that it lies in memory of its own, and what the laws' helpers find, mark and find again in it.
  The words of a list of cells, one behind the other: how a row that was grown by append holds them.
  impl.appendPart lays a copy of a part behind a row of the call's own and gives its first cell a key.
-/
import Derived.Test.YtcglddahphkcpaaGreatDoorU01
import Derived.Deep.LoopGhost
import Derived.Laws.IdiomStrings
namespace Go.Proofs.YtcglddahphkcpaaGreatDoor
open Go.RowKit
set_option linter.unusedVariables false

end Go.Proofs.YtcglddahphkcpaaGreatDoor

namespace Go.Proofs.YtcglddahphkcpaaGreatDoor
open Go.RowKit
set_option linter.unusedVariables false

/-- Below block number B all but block b is as it was. -/
structure But (B b : Nat) (w w' : World) : Prop where
  os : w'.os = w.os
  tape : w'.tape = w.tape
  output : w'.output = w.output
  size : w.heap.size ≤ w'.heap.size
  block : ∀ k, k < B → k ≠ b → w'.heap[k]? = w.heap[k]?

theorem But.refl (B b : Nat) (w : World) : But B b w w := ⟨rfl, rfl, rfl, Nat.le_refl _, fun _ _ _ => rfl⟩
theorem But.trans {B b : Nat} {u v w : World} (h : But B b u v) (k : But B b v w) : But B b u w :=
  ⟨k.os.trans h.os, k.tape.trans h.tape, k.output.trans h.output, Nat.le_trans h.size k.size, fun i h1 h2 => (k.block i h1 h2).trans (h.block i h1 h2)⟩
theorem But.ofBelow {B b : Nat} {w w' : World} (h : Below B w w') : But B b w w' := ⟨h.os, h.tape, h.output, h.size, fun k hk _ => h.block k hk⟩
theorem But.set (B b j : Nat) (w : World) (u : Value) : But B b w (w.setCell ⟨b, j, none⟩ u) :=
  ⟨rfl, rfl, rfl, by simp [World.setCell], fun k _ hk => Below.heap_setCell _ _ _ _ (by simpa using hk)⟩
theorem But.below {B B' b : Nat} {w w' : World} (h : But B b w w') (h1 : B' ≤ B) (h2 : B' ≤ b) : Below B' w w' :=
  ⟨h.os, h.tape, h.output, h.size, fun k hk => h.block k (by omega) (by omega)⟩
theorem But.mono {B B' b : Nat} {w w' : World} (h : But B b w w') (h1 : B' ≤ B) : But B' b w w' := ⟨h.os, h.tape, h.output, h.size, fun k hk hn => h.block k (by omega) hn⟩
/-- As Words, where the row may be longer. -/
def WordsG (xs : List Value) (l : List M.Cl) (k : Nat) : Prop :=
  l.length * 5 ≤ xs.length ∧ ∀ i, i < k → xs[i * 5]? = some (.int .i64 (l.getD i M.zero).kind) ∧ xs[i * 5 + 1]? = some (.int .i64 (l.getD i M.zero).num) ∧ xs[i * 5 + 2]? = some (.string (l.getD i M.zero).text) ∧ xs[i * 5 + 3]? = some (.string (l.getD i M.zero).key) ∧ xs[i * 5 + 4]? = some (.int .i64 (l.getD i M.zero).n)

/-- A row of the call's own that begins with the cells of l. -/
def OwnG (w : World) (b : Nat) (t : TypeId) (l : List M.Cl) : Prop := ∃ xs, Own w b t xs ∧ WordsG xs l l.length
theorem OwnG.row {w : World} {b : Nat} {t : TypeId} {l : List M.Cl} (h : OwnG w b t l) : Row w b 0 l := by
  obtain ⟨xs, ho, _, hw⟩ := h
  intro i hi
  obtain ⟨h0, h1, h2, h3, h4⟩ := hw i hi
  simp only [Nat.zero_add]
  exact ⟨(ho.cell _).trans h0, (ho.cell _).trans h1, (ho.cell _).trans h2, (ho.cell _).trans h3, (ho.cell _).trans h4⟩
theorem OwnG.lt {w : World} {b : Nat} {t : TypeId} {l : List M.Cl} (h : OwnG w b t l) : b < w.heap.size := by obtain ⟨xs, ho, _⟩ := h; exact ho.lt
theorem OwnG.below {B : Nat} {w w' : World} {b : Nat} {t : TypeId} {l : List M.Cl} (h : OwnG w b t l) (hb : Below B w w') (hB : b < B) : OwnG w' b t l := by
  obtain ⟨xs, ho, hw⟩ := h; exact ⟨xs, ho.below hb hB, hw⟩
end Go.Proofs.YtcglddahphkcpaaGreatDoor

namespace Go.Proofs.YtcglddahphkcpaaGreatDoor
open Go.RowKit
set_option linter.unusedVariables false

end Go.Proofs.YtcglddahphkcpaaGreatDoor

namespace Go.Proofs.YtcglddahphkcpaaGreatDoor
open Go.RowKit
set_option linter.unusedVariables false

/-- The slice value s holds the cells l, in a block of its own from number B on; or it is nil and there are none. -/
def Res (w : World) (B : Nat) (s : Value) (l : List M.Cl) : Prop :=
  l.length ≤ 1048576 ∧ ((s = .slice none 0 0 ∧ l = []) ∨ ∃ b cap, s = .slice (some ⟨b, 0, none⟩) l.length cap ∧ B ≤ b ∧ l.length ≤ cap ∧ OwnG w b 111 l)

theorem Res.below {w w' : World} {B : Nat} {s : Value} {l : List M.Cl} (h : Res w B s l) (hb : Below w.heap.size w w') : Res w' B s l := by
  obtain ⟨hn, h | ⟨b, cap, h1, h2, h3, h4⟩⟩ := h
  · exact ⟨hn, .inl h⟩
  · exact ⟨hn, .inr ⟨b, cap, h1, h2, h3, h4.below hb h4.lt⟩⟩
theorem Res.alloc {w : World} {B : Nat} {s : Value} {l : List M.Cl} (h : Res w B s l) (o : Obj) : Res (w.alloc o) B s l := h.below ((Below.refl _ _).alloc (Nat.le_refl _) o)
theorem Res.mono {w : World} {B B' : Nat} {s : Value} {l : List M.Cl} (h : Res w B s l) (hB : B' ≤ B) : Res w B' s l := by
  obtain ⟨hn, h | ⟨b, cap, h1, h2, h3, h4⟩⟩ := h
  · exact ⟨hn, .inl h⟩
  · exact ⟨hn, .inr ⟨b, cap, h1, by omega, h3, h4⟩⟩

theorem Res.base {w : World} {B : Nat} {s : Value} {l : List M.Cl} (h : Res w B s l) : ∀ b, s.ownBlock = some b → B ≤ b := by
  obtain ⟨hn, ⟨rfl, _⟩ | ⟨b, cap, rfl, h2, h3, h4⟩⟩ := h
  · intro b hb; simp [Value.ownBlock] at hb
  · intro c hc; simp only [Value.ownBlock, Option.some.injEq] at hc; omega
theorem Res.lt {w : World} {B : Nat} {s : Value} {l : List M.Cl} (h : Res w B s l) : ∀ b, s.ownBlock = some b → b < w.heap.size := by
  obtain ⟨hn, ⟨rfl, _⟩ | ⟨b, cap, rfl, h2, h3, h4⟩⟩ := h
  · intro b hb; simp [Value.ownBlock] at hb
  · intro c hc; simp only [Value.ownBlock, Option.some.injEq] at hc; have := h4.lt; omega
/-- The shape of an answer's slice: the walk wants to see it. -/
theorem Res.shape {w : World} {B : Nat} {s : Value} {l : List M.Cl} (h : Res w B s l) : ∃ a n cap, s = .slice a n cap := by
  obtain ⟨_, ⟨rfl, _⟩ | ⟨b, cap, rfl, _⟩⟩ := h
  · exact ⟨_, _, _, rfl⟩
  · exact ⟨_, _, _, rfl⟩

theorem ownsRow_base {w : World} {base : Nat} {e : TypeId} {size : Nat} {v : Value} {n : Nat} {xs : List Value} (h : w.ownsRow base e size v n xs) : ∀ k, v.ownBlock = some k → base ≤ k := by
  obtain ⟨_, ⟨rfl, _⟩ | ⟨g, cap, cur, rfl, hg, _⟩⟩ := h
  · intro k hk; simp [Value.ownBlock] at hk
  · intro k hk; simp only [Value.ownBlock, Option.some.injEq] at hk; omega
theorem OwnG.setOther {w : World} {b : Nat} {t : TypeId} {l : List M.Cl} (h : OwnG w b t l) (p : Addr) (u : Value) (hp : b ≠ p.block) : OwnG (w.setCell p u) b t l := by
  obtain ⟨xs, h1, h2⟩ := h; exact ⟨xs, h1.setOther p u hp, h2⟩
theorem Res.setOther {w : World} {B : Nat} {s : Value} {l : List M.Cl} (h : Res w B s l) (p : Addr) (u : Value) (hp : ∀ b, s.ownBlock = some b → b ≠ p.block) : Res (w.setCell p u) B s l := by
  obtain ⟨hn, h | ⟨b, cap, rfl, h2, h3, h4⟩⟩ := h
  · exact ⟨hn, .inl h⟩
  · exact ⟨hn, .inr ⟨b, cap, rfl, h2, h3, h4.setOther p u (hp b rfl)⟩⟩

end Go.Proofs.YtcglddahphkcpaaGreatDoor

namespace Go.Proofs.YtcglddahphkcpaaGreatDoor
open Go.RowKit
set_option linter.unusedVariables false

def flat (l : List M.Cl) : List Value := l.flatMap M.Cl.vals
def setKey (l : List M.Cl) (k : ByteArray) : List M.Cl := match l with | [] => [] | c :: r => { c with key := k } :: r

theorem flat_cons (c : M.Cl) (l : List M.Cl) : flat (c :: l) = c.vals ++ flat l := rfl
theorem flat_append (a b : List M.Cl) : flat (a ++ b) = flat a ++ flat b := by simp [flat]
theorem flat_length (l : List M.Cl) : (flat l).length = l.length * 5 := by
  induction l with
  | nil => rfl
  | cons c l ih => rw [flat_cons, List.length_append, ih]; simp [M.Cl.vals]; omega

theorem flat_get (l : List M.Cl) (i j : Nat) (hi : i < l.length) (hj : j < 5) : (flat l)[i * 5 + j]? = ((l.getD i M.zero).vals)[j]? := by
  induction l generalizing i with
  | nil => simp at hi
  | cons c l ih =>
    rw [flat_cons]
    have hl : c.vals.length = 5 := rfl
    cases i with
    | zero => rw [List.getElem?_append_left (by omega)]; simp
    | succ i =>
      rw [List.getElem?_append_right (by omega), show (i + 1) * 5 + j - c.vals.length = i * 5 + j from by omega, List.getD_cons_succ]
      exact ih i (by simpa using hi)

theorem row_words {w : World} {b off : Nat} {l : List M.Cl} (h : Row w b off l) : ∀ j u, (flat l)[j]? = some u → w.cell? ((⟨b, off, none⟩ : Addr).add j) = some u := by
  intro j u hu
  have hj : j < l.length * 5 := by
    have := (List.getElem?_eq_some_iff.1 hu).1
    rwa [flat_length] at this
  have hd : j = (j / 5) * 5 + j % 5 := by omega
  have hi : j / 5 < l.length := by omega
  have hm : j % 5 < 5 := by omega
  rw [hd, flat_get l (j / 5) (j % 5) hi hm] at hu
  have ha : (⟨b, off, none⟩ : Addr).add j = ⟨b, off + j, none⟩ := by simp [Addr.add]
  rw [ha]
  obtain ⟨c0, c1, c2, c3, c4⟩ := h (j / 5) hi
  have e : off + j = off + j / 5 * 5 + j % 5 := by omega
  rw [e]
  generalize j % 5 = r at *
  match r, hm with
  | 0, _ => simp only [M.Cl.vals, List.getElem?_cons_zero, Option.some.injEq] at hu; subst hu; exact c0
  | 1, _ => simp only [M.Cl.vals, List.getElem?_cons_zero, List.getElem?_cons_succ, Option.some.injEq] at hu; subst hu; exact c1
  | 2, _ => simp only [M.Cl.vals, List.getElem?_cons_zero, List.getElem?_cons_succ, Option.some.injEq] at hu; subst hu; exact c2
  | 3, _ => simp only [M.Cl.vals, List.getElem?_cons_zero, List.getElem?_cons_succ, Option.some.injEq] at hu; subst hu; exact c3
  | 4, _ => simp only [M.Cl.vals, List.getElem?_cons_zero, List.getElem?_cons_succ, Option.some.injEq] at hu; subst hu; exact c4

theorem flat_one (l : List M.Cl) : ∀ u ∈ flat l, u.oneCell' = true := by
  intro u hu
  simp only [flat, List.mem_flatMap] at hu
  obtain ⟨c, _, hc⟩ := hu
  simp only [M.Cl.vals, List.mem_cons, List.not_mem_nil, or_false] at hc
  rcases hc with rfl | rfl | rfl | rfl | rfl <;> rfl

/-- An owned row of cells is an answer's row. -/
theorem res_of_owns {w : World} {B : Nat} {v : Value} {l : List M.Cl} (h : w.ownsRow B 111 5 v l.length (flat l)) (hn : l.length ≤ 1048576) : Res w B v l := by
  obtain ⟨h1, ⟨rfl, h2⟩ | ⟨g, cap, cur, rfl, hg, hh, hnc, hcm, hcs, ht⟩⟩ := h
  · exact ⟨hn, .inl ⟨rfl, List.length_eq_zero_iff.1 h2⟩⟩
  · refine ⟨hn, .inr ⟨g, cap, rfl, hg, hnc, ⟨cur.toList, ⟨cur, hh, rfl⟩, ?_, ?_⟩⟩⟩
    · simp only [Array.length_toList]; rw [hcs]; exact Nat.mul_le_mul_right 5 hnc
    · intro i hi
      have key : ∀ j, j < 5 → cur.toList[i * 5 + j]? = ((l.getD i M.zero).vals)[j]? := by
        intro j hj
        rw [← flat_get l i j hi hj, ← ht, List.getElem?_take, if_pos (by omega)]
      exact ⟨key 0 (by omega), key 1 (by omega), key 2 (by omega), key 3 (by omega), key 4 (by omega)⟩

/-- The first cell of what was laid behind l gets a key. -/
theorem flat_setKey (l p : List M.Cl) (k : ByteArray) (hp : p ≠ []) : (flat (l ++ p)).set (l.length * 5 + 3) (.string k) = flat (l ++ setKey p k) := by
  cases p with
  | nil => exact absurd rfl hp
  | cons c r =>
    rw [flat_append, flat_append, List.set_append_right _ _ (by rw [flat_length]; omega), flat_length]
    rw [show l.length * 5 + 3 - l.length * 5 = 3 from by omega]
    simp only [setKey, flat_cons]
    rfl
theorem setKey_length (p : List M.Cl) (k : ByteArray) : (setKey p k).length = p.length := by cases p <;> rfl

end Go.Proofs.YtcglddahphkcpaaGreatDoor

namespace Go.Proofs.YtcglddahphkcpaaGreatDoor
open Go.RowKit
set_option linter.unusedVariables false

set_option maxHeartbeats 1000000 in
theorem appendPart_any (base : Nat) (v : Value) (l p : List M.Cl) (b off c : Nat) (key : ByteArray) (w : World) (hown : w.ownsRow base 111 5 v l.length (flat l)) (hrow : Row w b off p) (hp : p ≠ []) (hn : l.length + p.length ≤ 1048576) (hbase : base ≤ w.heap.size) :
    Calls Tryz.prog 157 #[v, .slice (some ⟨b, off, none⟩) p.length c, .string key] w fun e w' => ∃ v', e = .returned v' ∧ w'.ownsRow base 111 5 v' (l ++ setKey p key).length (flat (l ++ setKey p key)) ∧ Below base w w' := by
  obtain ⟨i0, hi, hz0, hz1, hz2⟩ := info_parts Tryz.info111
  have hnews := hide (row_words hrow)
  have hone := hide (flat_one p)
  have hfl := flat_length p
  have HFL := hide hfl
  have hset := hide (flat_setKey l p key hp)
  have hpl : 0 < p.length := List.length_pos_iff.2 hp
  have hlen : (l ++ setKey p key).length = l.length + p.length := by rw [List.length_append, setKey_length]
  have HLEN := hide hlen
  have hb63 : l.length + p.length ≤ maxLen := by unfold maxLen; omega
  have hby : (l.length + p.length) * 56 ≤ 140737488355328 := by omega
  have HOWN := hide hown
  have fin : ∀ (vv : Value) (ww : World) (g cap : Nat), vv = .slice (some ⟨g, 0, none⟩) (l.length + p.length) cap → ww.ownsRow base 111 5 vv (l.length + p.length) (flat l ++ flat p) → Below base w ww → base ≤ g →
      (ww.setCell ⟨g, l.length * 5 + 3, none⟩ (.string key)).ownsRow base 111 5 vv (l ++ setKey p key).length (flat (l ++ setKey p key)) ∧ Below base w (ww.setCell ⟨g, l.length * 5 + 3, none⟩ (.string key)) := by
    rintro vv ww g cap rfl ho hb hg
    have h1 := (ho.stored (l.length * 5 + 3) (.string key)).1
    rw [← flat_append, unhide hset] at h1
    rw [unhide HLEN]
    exact ⟨h1, hb.setCell hg _⟩
  have FIN := hide fin
  clear hfl hlen fin hp hrow
  rcases hown.2 with ⟨rfl, hl0⟩ | ⟨g, cap, cur, rfl, hg, hh, hnc, hcm, hcs, htake⟩
  · clear hown
    have HL0 := hide hl0
    clear hl0
    go_enter Tryz.func157, Tryz.ntmps157
    go_wp2_with (at_builtin; refine wpList_append_own _ rfl (.tmp 10) (.tmp 11) 24 rfl base 111 i0 _ 5 56 Tryz.underlying24 hi hz0 hz1 hz2 rfl (by decide) (.slice none 0 0) l.length (flat l) rfl (unhide HOWN) ⟨b, off, none⟩ p.length c (flat p) rfl (unhide HFL) (unhide hnews) (unhide hone) hb63 hby hbase ?_)
    intro v' w1 ho1 hg1 hnil
    have hsh : ∃ g cap, v' = .slice (some ⟨g, 0, none⟩) (l.length + p.length) cap ∧ base ≤ g ∧ l.length + p.length ≤ cap := by
      rcases ho1.2 with ⟨_, h⟩ | ⟨g, cap, cur, h, h2, _, h3, _⟩
      · omega
      · exact ⟨g, cap, h, h2, h3⟩
    obtain ⟨g, cap, hv, hgb, hcap⟩ := hsh
    have B1 : Below base w w1 := (Below.refl base w).grown hg1 hbase (fun k hk => by simp [Value.ownBlock] at hk)
    have F := (unhide FIN) v' w1 g cap hv ho1 B1 hgb
    rw [unhide HL0] at F ho1 hv hcap
    subst hv
    have hz := ho1.frozenAt 3
    obtain ⟨u, hu⟩ := some_of_lt (xs := flat l ++ flat p) (j := 3) (by rw [List.length_append, unhide HFL]; omega)
    have hc := (ho1.cellAt 3 (by omega)).trans hu
    clear hu ho1 hg1 hnil
    have HF := hide F
    clear F
    simp only [Nat.zero_add] at hcap ⊢
    go_wp2_with fail
    go_ret
    have F := unhide HF
    simp only [Nat.zero_mul, Nat.zero_add] at F
    exact ⟨_, rfl, F.1, F.2⟩
  · clear hown hh hcs htake
    unfold maxLen at hcm
    go_enter Tryz.func157, Tryz.ntmps157
    go_wp2_with (at_builtin; refine wpList_append_own _ rfl (.tmp 10) (.tmp 11) 24 rfl base 111 i0 _ 5 56 Tryz.underlying24 hi hz0 hz1 hz2 rfl (by decide) (.slice (some ⟨g, 0, none⟩) l.length cap) l.length (flat l) rfl (unhide HOWN) ⟨b, off, none⟩ p.length c (flat p) rfl (unhide HFL) (unhide hnews) (unhide hone) hb63 hby hbase ?_)
    intro v' w1 ho1 hg1 hnil
    have hsh : ∃ g cap, v' = .slice (some ⟨g, 0, none⟩) (l.length + p.length) cap ∧ base ≤ g ∧ l.length + p.length ≤ cap := by
      rcases ho1.2 with ⟨_, h⟩ | ⟨g, cap, cur, h, h2, _, h3, _⟩
      · omega
      · exact ⟨g, cap, h, h2, h3⟩
    obtain ⟨g', cap', hv, hgb, hcap⟩ := hsh
    have B1 : Below base w w1 := (Below.refl base w).grown hg1 hbase (fun k hk => by simp only [Value.ownBlock, Option.some.injEq] at hk; omega)
    have F := (unhide FIN) v' w1 g' cap' hv ho1 B1 hgb
    subst hv
    have hz := ho1.frozenAt (l.length * 5 + 3)
    obtain ⟨u, hu⟩ := some_of_lt (xs := flat l ++ flat p) (j := l.length * 5 + 3) (by rw [List.length_append, flat_length, flat_length]; omega)
    have hc := (ho1.cellAt (l.length * 5 + 3) (by omega)).trans hu
    clear hu ho1 hg1 hnil
    have HF := hide F
    clear F
    go_wp2_with fail
    go_ret
    exact ⟨_, rfl, (unhide HF).1, (unhide HF).2⟩

end Go.Proofs.YtcglddahphkcpaaGreatDoor
