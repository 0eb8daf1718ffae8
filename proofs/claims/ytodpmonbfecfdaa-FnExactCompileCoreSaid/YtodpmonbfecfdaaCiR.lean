/-
  Compiling, the side of the program: what was laid, and that all other blocks are kept.
  impl.coder: put, putJump, land, newRegister; a value copied, an array of nothing.
  impl.coder.layWith: a node with the variable of a slot in a register.
-/
import Derived.Test.YtodpmonbfecfdaaCmX
import Derived.Test.YtodpmonbfecfdaaAns
import Derived.BigQuiet
import Derived.Lib.SliceRun
import Derived.Maps.AppendAt
import Derived.Deep.RegionHeld3
namespace Go.Proofs.Ytodpmonbfecfdaa
open Go.RowKit
set_option linter.unusedVariables false
set_option linter.unusedSimpArgs false


namespace Cm
def St.puts (s : St) (l : List Ic) : St := ⟨s.ins ++ l, s.regs⟩
theorem puts_len (s : St) (l : List Ic) : (s.puts l).len = s.len + l.length := by simp [St.puts, St.len]
theorem puts_regs (s : St) (l : List Ic) : (s.puts l).regs = s.regs := rfl
theorem flat_append (a b : List (Ic × Value)) : flat (a ++ b) = flat a ++ flat b := by simp [flat]
/-- Instructions behind the last one: the list is grown, then stored. -/
theorem Sp.pushAll {T : TypeId} {w wA : World} {pb : Nat} {cv v v' : Value} {tl : List Value} {s : St} {cs xs : List (Ic × Value)} (h : Sp T w pb cv tl s v cs)
    (ho : wA.ownsRow (pb + 1) 56 3 v' (cs.length + xs.length) (flat cs ++ flat xs)) (hg : w.grownBy wA v.ownBlock) (hvb : v'.ownBlock = v.ownBlock ∨ v'.ownBlock = some w.heap.size) (hx : ∀ p ∈ xs, Res w (pb + 1) p.2 p.1.val) (hnd : (bls (cs ++ xs)).Nodup) :
    Own wA pb T ([cv, v, .int .i64 s.regs] ++ tl) ∧ Sp T (wA.setCell ⟨pb, 1, none⟩ v') pb cv tl (s.puts (xs.map Prod.fst)) v' (cs ++ xs) ∧ Fr pb v v' w (wA.setCell ⟨pb, 1, none⟩ v') := by
  have hl := h.own.lt
  have hne : v.ownBlock ≠ some pb := fun e => by have := (h.row.typed e).1; omega
  have oA : Own wA pb T ([cv, v, .int .i64 s.regs] ++ tl) := own_keep h.own (hg.block pb hl (fun e => hne e.symm))
  have rA : ∀ p ∈ cs ++ xs, Res wA (pb + 1) p.2 p.1.val := fun p hp => by
    have hw : Res w (pb + 1) p.2 p.1.val := by
      rcases List.mem_append.1 hp with hp | hp
      · exact h.row.2 p hp
      · exact hx p hp
    exact res_keep hw fun b hb => hg.block b (hw.lt b hb) (fun e => by
      have := h.row.apart hw (b := b) e.symm
      exact this hb)
  refine ⟨oA, ⟨?_, ⟨?_, fun p hp => ?_⟩, ?_, hnd⟩, ⟨hg.os, hg.tape, hg.output, by simpa using hg.size, fun k h1 h2 h3 => (heap_setCell_other wA ⟨pb, 1, none⟩ k v' h2).trans (hg.block k h1 (fun e => h3 e.symm)), ?_⟩⟩
  · exact oA.set 1 v'
  · rw [List.length_append, flat_append]
    obtain ⟨h1, ⟨h2, h3⟩ | ⟨g, cap, cur, h4, hg', hh, h5⟩⟩ := ho
    · exact ⟨h1, .inl ⟨h2, h3⟩⟩
    · exact ⟨h1, .inr ⟨g, cap, cur, h4, hg', (heap_setCell_other wA ⟨pb, 1, none⟩ g v' (by simp only; omega)).trans hh, h5⟩⟩
  · have hq := rA p hp
    exact hq.setOther _ _ (fun b hb e => by have := hq.base b hb; simp only at e; omega)
  · rw [List.map_append, h.eq]; rfl
  · rcases hvb with e | e
    · exact .inl e
    · exact .inr ⟨_, e, Nat.le_refl _⟩
/-- The values lie where those of cS lie, or in blocks that were made since. -/
def Nw (wS : World) (cS cs : List (Ic × Value)) : Prop := ∀ b ∈ bls cs, b ∈ bls cS ∨ wS.heap.size ≤ b
theorem Nw.refl (w : World) (cs : List (Ic × Value)) : Nw w cs cs := fun _ h => .inl h
theorem Nw.trans {w w' : World} {a b c : List (Ic × Value)} (h : Nw w a b) (k : Nw w' b c) (hs : w.heap.size ≤ w'.heap.size) : Nw w a c := fun x hx => by
  rcases k x hx with q | q
  · exact h x q
  · exact .inr (by omega)
/-- What was laid so far, and that all but the struct and the list that was there is kept since wS. -/
def Li (pb : Nat) (cv : Value) (tl : List Value) (wS : World) (vS : Value) (cS : List (Ic × Value)) (s : St) (w : World) : Prop := ∃ v cs, Sp 52 w pb cv tl s v cs ∧ Fr pb vS v wS w ∧ Nw wS cS cs
theorem Li.start {pb : Nat} {cv v : Value} {tl : List Value} {s : St} {w : World} {cs : List (Ic × Value)} (h : Sp 52 w pb cv tl s v cs) : Li pb cv tl w v cs s w := ⟨v, cs, h, Fr.refl _ _ _, Nw.refl _ _⟩
theorem Li.below {cS : List (Ic × Value)} {pb : Nat} {cv vS : Value} {tl : List Value} {s : St} {wS w w' : World} (h : Li pb cv tl wS vS cS s w) (hb : Below w.heap.size w w') : Li pb cv tl wS vS cS s w' := by
  obtain ⟨v, cs, h1, h2, h3⟩ := h
  exact ⟨v, cs, h1.below hb, h2.behind hb, h3⟩
theorem Li.alloc {cS : List (Ic × Value)} {pb : Nat} {cv vS : Value} {tl : List Value} {s : St} {wS w : World} (h : Li pb cv tl wS vS cS s w) (o : Obj) : Li pb cv tl wS vS cS s (w.alloc o) := h.below ((Below.refl _ _).alloc (Nat.le_refl _) o)
theorem Li.ahead {cS : List (Ic × Value)} {pb : Nat} {cv vS : Value} {tl : List Value} {s : St} {w wS w' : World} (hb : Below w.heap.size w wS) (h : Li pb cv tl wS vS cS s w') : Li pb cv tl w vS cS s w' := by
  obtain ⟨v, cs, h1, h2, h3⟩ := h
  exact ⟨v, cs, h1, h2.ahead hb, (Nw.refl w cS).trans h3 hb.size⟩
theorem Li.lt {cS : List (Ic × Value)} {pb : Nat} {cv vS : Value} {tl : List Value} {s : St} {wS w : World} (h : Li pb cv tl wS vS cS s w) : pb < w.heap.size := by
  obtain ⟨v, cs, h1, h2, h3⟩ := h
  exact h1.own.lt
theorem Li.own {cS : List (Ic × Value)} {pb : Nat} {cv vS : Value} {tl : List Value} {s : St} {wS w : World} (h : Li pb cv tl wS vS cS s w) {b : Nat} {t : TypeId} {xs : List Value} (ho : Own wS b t xs) (h1 : b ≠ pb) (h2 : vS.ownBlock ≠ some b) : Own w b t xs := by
  obtain ⟨v, cs, _, k, _⟩ := h
  exact k.kept ho h1 h2
theorem Li.since {cS : List (Ic × Value)} {pb : Nat} {cv vS : Value} {tl : List Value} {s : St} {w0 wS w : World} (h : Li pb cv tl wS vS cS s w) (hp : w0.heap.size ≤ pb) (hb : Below w0.heap.size w0 wS) (hv : ∀ b, vS.ownBlock = some b → w0.heap.size ≤ b) : Below w0.heap.size w0 w := by
  obtain ⟨v, cs, _, k, _⟩ := h
  exact hb.trans (k.below hp hv hb.size)
/-- A call's contract at what was laid so far. -/
theorem Li.use {cS : List (Ic × Value)} {pb : Nat} {cv vS : Value} {tl tl' : List Value} {s s' : St} {wS w : World} {F : Nat} {args : Array Value} {X : Ending} (h : Li pb cv tl wS vS cS s w) (H : ∀ v cs, Sp 52 w pb cv tl s v cs → Calls Try.prog F args w fun e w' => e = X ∧ Li pb cv tl' w v cs s' w') :
    Calls Try.prog F args w fun e w' => e = X ∧ Li pb cv tl' wS vS cS s' w' := by
  obtain ⟨v, cs, h1, h2, h3⟩ := h
  refine (H v cs h1).mono ?_
  rintro e w' ⟨rfl, v', cs', k1, k2, k3⟩
  exact ⟨rfl, v', cs', k1, h2.trans k2, h3.trans k3 h2.size⟩
/-- The same, where a value that was just made is handed over. -/
theorem Li.useX {pb : Nat} {cv vS : Value} {tl tl' : List Value} {s s' : St} {cS : List (Ic × Value)} {wS u w : World} {F : Nat} {args : Array Value} {X : Ending} (h : Li pb cv tl wS vS cS s u) (hb : Below u.heap.size u w) (xs : List (Ic × Value)) (hx : ∀ b ∈ bls xs, u.heap.size ≤ b) (H : ∀ v cs, Sp 52 w pb cv tl s v cs → (∀ b ∈ bls xs, b ∉ bls cs) → Calls Try.prog F args w fun e w' => e = X ∧ Li pb cv tl' w v (cs ++ xs) s' w') :
    Calls Try.prog F args w fun e w' => e = X ∧ Li pb cv tl' wS vS cS s' w' := by
  obtain ⟨v, cs, h1, h2, h3⟩ := h
  refine (H v cs (h1.below hb) (fun b q1 q2 => by have := hx b q1; have := h1.row.bls_lt b q2; omega)).mono ?_
  rintro e w' ⟨rfl, v', cs', k1, k2, k3⟩
  refine ⟨rfl, v', cs', k1, (h2.behind hb).trans k2, fun b q => ?_⟩
  have := h2.size
  have := hb.size
  rcases k3 b q with q | q
  · rw [bls_append, List.mem_append] at q
    rcases q with q | q
    · exact h3 b q
    · exact .inr (by have := hx b q; omega)
  · exact .inr (by omega)
theorem Sp.vlow {T : TypeId} {w : World} {pb n : Nat} {cv v : Value} {tl : List Value} {s : St} {cs : List (Ic × Value)} (h : Sp T w pb cv tl s v cs) (hn : n ≤ pb) : ∀ b, v.ownBlock = some b → n ≤ b := fun b hb => by have := (h.row.typed hb).1; omega
theorem Sp.vnew {T : TypeId} {w : World} {pb : Nat} {cv v : Value} {tl : List Value} {s : St} {cs : List (Ic × Value)} (h : Sp T w pb cv tl s v cs) : v.ownBlock ≠ some w.heap.size := fun e => by have := h.row.lt e; omega
/-- What the code of a node does on the program's side. -/
def LaysI (w0 : World) (pb : Nat) (cv : Value) (rec : Rec) (n : Nat) (a : Int) : Prop :=
  (∀ rs s, Up n s (rec a rs s)) ∧ ∀ (rs : List Int) (s : St) (v : Value) (cs : List (Ic × Value)) (w : World), Sp 52 w pb cv (rs.map (Value.int .i64)) s v cs → Below w0.heap.size w0 w → rs.length = 60 → s.len + 14 * n ≤ 20000 → 0 ≤ s.regs → s.regs + 2 * (n : Int) ≤ 20000 →
    Calls Try.prog 19 #[.pointer (some ⟨pb, 0, none⟩), .int .i64 a] w fun e w' => e = .returned (.tuple #[]) ∧ Li pb cv (rs.map (Value.int .i64)) w v cs (rec a rs s) w'
theorem LaysI.at {cS : List (Ic × Value)} {w0 : World} {pb : Nat} {cv vS : Value} {rec : Rec} {n : Nat} {a : Int} (H : LaysI w0 pb cv rec n a) {rs : List Int} {s s' : St} {wS w : World} (hp : w0.heap.size ≤ pb) (hb : Below w0.heap.size w0 wS) (hv : ∀ b, vS.ownBlock = some b → w0.heap.size ≤ b) (L : Li pb cv (rs.map (Value.int .i64)) wS vS cS s w) (h60 : rs.length = 60) (h1 : s.len + 14 * n ≤ 20000) (h2 : 0 ≤ s.regs) (h3 : s.regs + 2 * (n : Int) ≤ 20000) (hs : rec a rs s = s') :
    Calls Try.prog 19 #[.pointer (some ⟨pb, 0, none⟩), .int .i64 a] w fun e w' => e = .returned (.tuple #[]) ∧ Li pb cv (rs.map (Value.int .i64)) wS vS cS s' w' := by
  subst hs
  exact L.use fun v cs h => H.2 rs s v cs w h (L.since hp hb hv) h60 h1 h2 h3
theorem Fr.setP {P j : Nat} {v : Value} {w : World} (x : Value) : Fr P v v w (w.setCell ⟨P, j, none⟩ x) := ⟨rfl, rfl, rfl, by simp, fun k _ h2 _ => heap_setCell_other w ⟨P, j, none⟩ k x h2, .inl rfl⟩
theorem Fr.setV {P g j n cap : Nat} {w : World} (x : Value) : Fr P (.slice (some ⟨g, 0, none⟩) n cap) (.slice (some ⟨g, 0, none⟩) n cap) w (w.setCell ⟨g, j, none⟩ x) := ⟨rfl, rfl, rfl, by simp, fun k _ _ h3 => heap_setCell_other w ⟨g, j, none⟩ k x (fun e => h3 (congrArg some e.symm)), .inl rfl⟩
end Cm

end Go.Proofs.Ytodpmonbfecfdaa

namespace Go.Proofs.Ytodpmonbfecfdaa
open Go.RowKit
set_option linter.unusedVariables false
set_option linter.unusedSimpArgs false


theorem Cm.plain_all {xs : List (Ic × Value)} (h : ∀ p ∈ xs, p.2.oneCell' = true) : ∀ u ∈ Cm.flat xs, u.oneCell' = true := by
  intro u hu
  simp only [Cm.flat, List.mem_flatMap] at hu
  obtain ⟨p, hp, hu⟩ := hu
  exact Cm.plain_in p.1 p.2 (h p hp) u hu
set_option maxRecDepth 100000 in
set_option maxHeartbeats 4000000 in
theorem cput_any (pb : Nat) (cv : Value) (tl : List Value) (s : Cm.St) (v : Value) (cs xs : List (Ic × Value)) (sb cap : Nat) (w : World) (h : Cm.Sp 52 w pb cv tl s v cs) (hl : s.len ≤ 100000) (hm : xs.length ≤ 100) (hX : Own w sb 56 (Cm.flat xs)) (hr : ∀ p ∈ xs, Res w (pb + 1) p.2 p.1.val) (hnd : (Cm.bls (cs ++ xs)).Nodup) :
    Calls Try.prog 20 #[.pointer (some ⟨pb, 0, none⟩), .slice (some ⟨sb, 0, none⟩) xs.length cap] w fun e w' => e = .returned (.tuple #[]) ∧ ∃ v', Cm.Sp 52 w' pb cv tl (s.puts (xs.map Prod.fst)) v' (cs ++ xs) ∧ Cm.Fr pb v v' w w' := by
  obtain ⟨i0, hi, hz0, hz1, hz2⟩ := info_parts Cm.infoIn
  obtain ⟨va, vc, hv⟩ := h.row.slice
  subst hv
  have HL := hide h.len
  have hl2 : cs.length ≤ 100000 := by rw [unhide HL]; exact hl
  have hpl := h.own.lt
  have hnews : ∀ j u, (Cm.flat xs)[j]? = some u → w.cell? ((⟨sb, 0, none⟩ : Addr).add j) = some u := fun j u hu => by
    have ha : (⟨sb, 0, none⟩ : Addr).add j = ⟨sb, j, none⟩ := by unfold Addr.add; split <;> simp_all
    rw [ha, hX.cell j]
    exact hu
  have HN := hide hnews
  have HPL := hide (Cm.plain_all (xs := xs) fun p hp => by obtain ⟨a, n, c, e⟩ := (hr p hp).shape; rw [e]; rfl)
  have HFL := hide (Cm.flat_length xs)
  have HST := hide (fun (wA : World) (v' : Value) ho hg hvb => h.pushAll (wA := wA) (v' := v') (xs := xs) ho hg hvb hr hnd)
  have HO := hide h.row.1
  have c1 := h.own.cell 1
  simp only [List.cons_append, List.nil_append, List.getElem?_cons_zero, List.getElem?_cons_succ] at c1
  have hb63 : cs.length + xs.length ≤ maxLen := by unfold maxLen; omega
  have hby : (cs.length + xs.length) * 40 ≤ 140737488355328 := by omega
  have hbase : pb + 1 ≤ w.heap.size := by omega
  clear h hnews hX hr hl hnd
  go_enter Try.func20, Try.ntmps20
  go_wp2_with (at_builtin; refine wpList_append_own_at _ rfl (.tmp 8) (.tmp 9) 24 rfl (pb + 1) 56 i0 (.agg #[.int .i64 0, .int .i64 0, .slice none 0 0]) 3 40 Try.underlying24 hi hz0 hz1 hz2 rfl (by decide) _ cs.length _ rfl (unhide HO) ⟨sb, 0, none⟩ xs.length cap (Cm.flat xs) rfl (unhide HFL) (unhide HN) (unhide HPL) hb63 hby hbase ?_)
  intro v' wA ho hg _ hvb
  obtain ⟨hoA, hSp, hFr⟩ := (unhide HST) wA v' ho hg hvb
  obtain ⟨ya, yc, hv'⟩ := hSp.row.slice
  rw [List.length_append] at hv'
  have d1 := hoA.cell 1
  have z1 := hoA.frozen 1
  simp only [List.cons_append, List.nil_append, List.getElem?_cons_zero, List.getElem?_cons_succ] at d1
  have FIN := hide (And.intro hSp hFr)
  rw [hv'] at FIN
  subst hv'
  clear hoA hSp hFr ho hg hvb HST
  go_wp2_with fail
  go_end0
  exact ⟨rfl, _, (unhide FIN).1, (unhide FIN).2⟩
namespace Cm
/-- Instructions that were just built are put. -/
theorem putx_li {pb : Nat} {cv vS : Value} {tl : List Value} {s s' : St} {cS cT : List (Ic × Value)} {wS u w : World} (xs : List (Ic × Value)) (L : Li pb cv tl wS vS cS s u) (hb : Below u.heap.size u w) (hl : s.len ≤ 100000) (hm : xs.length ≤ 100) (hr : ∀ p ∈ xs, Res w (pb + 1) p.2 p.1.val) (hx : (bls xs).Nodup) (hf : ∀ cs, Nw wS cS cs → (∀ b ∈ bls cs, b < u.heap.size) → ∀ b ∈ bls xs, b ∉ bls cs) (hS : ∀ b ∈ bls cS, b ∈ bls cT) (hnew : ∀ b ∈ bls xs, b ∈ bls cT ∨ wS.heap.size ≤ b) (hs : s.puts (xs.map Prod.fst) = s') :
    Calls Try.prog 20 #[.pointer (some ⟨pb, 0, none⟩), .slice (some ⟨w.heap.size, 0, none⟩) xs.length xs.length] (w.alloc (.cells (flat xs).toArray 56)) fun e w' => e = .returned (.tuple #[]) ∧ Li pb cv tl wS vS cT s' w' := by
  subst hs
  obtain ⟨v, cs, h1, h2, h3⟩ := L
  have hb2 : Below u.heap.size u (w.alloc (.cells (flat xs).toArray 56)) := hb.alloc hb.size _
  refine (cput_any pb cv tl s v cs xs w.heap.size xs.length _ (h1.below hb2) hl hm ⟨_, heap_alloc_new _ _, by simp⟩ (fun p hp => (hr p hp).alloc _) ?_).mono ?_
  · rw [bls_append, List.nodup_append]
    refine ⟨h1.nd, hx, fun a ha b hb e => ?_⟩
    subst e
    exact hf cs h3 h1.row.bls_lt a hb ha
  · rintro e w' ⟨rfl, v', k1, k2⟩
    refine ⟨rfl, v', _, k1, (h2.behind hb2).trans k2, fun b q => ?_⟩
    rw [bls_append, List.mem_append] at q
    rcases q with q | q
    · rcases h3 b q with q | q
      · exact .inl (hS b q)
      · exact .inr q
    · exact hnew b q
theorem puts2 (s : St) (a b : Ic) : s.puts [a, b] = ⟨(s.ins ++ [a]) ++ [b], s.regs⟩ := by simp [St.puts]
/-- Instructions without values. -/
theorem putn_li {pb : Nat} {cv vS : Value} {tl : List Value} {s s' : St} {cS : List (Ic × Value)} {wS w : World} (xs : List (Ic × Value)) (L : Li pb cv tl wS vS cS s w) (hl : s.len ≤ 100000) (hm : xs.length ≤ 100) (hr : ∀ p ∈ xs, Res w (pb + 1) p.2 p.1.val) (hx : bls xs = []) (hs : s.puts (xs.map Prod.fst) = s') :
    Calls Try.prog 20 #[.pointer (some ⟨pb, 0, none⟩), .slice (some ⟨w.heap.size, 0, none⟩) xs.length xs.length] (w.alloc (.cells (flat xs).toArray 56)) fun e w' => e = .returned (.tuple #[]) ∧ Li pb cv tl wS vS cS s' w' :=
  putx_li xs L (Below.refl _ _) hl hm hr (by rw [hx]; exact List.nodup_nil) (fun _ _ _ b hb => by rw [hx] at hb; cases hb) (fun _ h => h) (fun b hb => by rw [hx] at hb; cases hb) hs
/-- Instructions with one value, which was made behind u. -/
theorem putv1_li {pb : Nat} {cv vS x : Value} {tl : List Value} {s s' : St} {cS : List (Ic × Value)} {wS u w : World} (xs : List (Ic × Value)) (l : List M.Cl) (L : Li pb cv tl wS vS cS s u) (hb : Below u.heap.size u w) (hl : s.len ≤ 100000) (hm : xs.length ≤ 100) (hx : Res w u.heap.size x l) (hr : ∀ p ∈ xs, Res w (pb + 1) p.2 p.1.val) (hbl : bls xs = x.ownBlock.toList) (hs : s.puts (xs.map Prod.fst) = s') :
    Calls Try.prog 20 #[.pointer (some ⟨pb, 0, none⟩), .slice (some ⟨w.heap.size, 0, none⟩) xs.length xs.length] (w.alloc (.cells (flat xs).toArray 56)) fun e w' => e = .returned (.tuple #[]) ∧ Li pb cv tl wS vS cS s' w' := by
  have hle : wS.heap.size ≤ u.heap.size := by obtain ⟨_, _, _, h2, _⟩ := L; exact h2.size
  have hmem : ∀ b ∈ bls xs, u.heap.size ≤ b := fun b q => by rw [hbl] at q; exact hx.base b (by simpa using q)
  exact putx_li xs L hb hl hm hr (by rw [hbl]; cases x.ownBlock <;> simp) (fun cs _ h2 b q1 q2 => by have := hmem b q1; have := h2 b q2; omega) (fun _ h => h) (fun b q => .inr (by have := hmem b q; omega)) hs
theorem put1_li {pb : Nat} {cv vS : Value} {tl : List Value} {s s' : St} {cS : List (Ic × Value)} {wS w : World} (op arg : Int) (L : Li pb cv tl wS vS cS s w) (hl : s.len ≤ 100000) (hs : s.put op arg = s') :
    Calls Try.prog 20 #[.pointer (some ⟨pb, 0, none⟩), .slice (some ⟨w.heap.size, 0, none⟩) 1 1] (w.alloc (.cells #[.int .i64 op, .int .i64 arg, .slice none 0 0] 56)) fun e w' => e = .returned (.tuple #[]) ∧ Li pb cv tl wS vS cS s' w' :=
  putn_li [(⟨op, arg, []⟩, .slice none 0 0)] L hl (by simp) (fun p hp => by simp only [List.mem_singleton] at hp; subst hp; exact res_nil _ _) rfl hs
theorem put2_li {pb : Nat} {cv vS : Value} {tl : List Value} {s s' : St} {cS : List (Ic × Value)} {wS w : World} (op arg op2 arg2 : Int) (L : Li pb cv tl wS vS cS s w) (hl : s.len ≤ 100000) (hs : (s.put op arg).put op2 arg2 = s') :
    Calls Try.prog 20 #[.pointer (some ⟨pb, 0, none⟩), .slice (some ⟨w.heap.size, 0, none⟩) 2 2] (w.alloc (.cells #[.int .i64 op, .int .i64 arg, .slice none 0 0, .int .i64 op2, .int .i64 arg2, .slice none 0 0] 56)) fun e w' => e = .returned (.tuple #[]) ∧ Li pb cv tl wS vS cS s' w' :=
  putn_li [(⟨op, arg, []⟩, .slice none 0 0), (⟨op2, arg2, []⟩, .slice none 0 0)] L hl (by simp) (fun p hp => by simp only [List.mem_cons, List.not_mem_nil, or_false] at hp; rcases hp with rfl | rfl <;> exact res_nil _ _) rfl ((puts2 _ _ _).trans hs)
theorem bls_va (c d : Ic) (x : Value) : bls [(c, x), (d, .slice none 0 0)] = x.ownBlock.toList := by
  rw [show [(c, x), (d, Value.slice none 0 0)] = [(c, x)] ++ [(d, Value.slice none 0 0)] from rfl, bls_append, bls_one, bls_one]
  simp [Value.ownBlock]
theorem bls_av (c d : Ic) (x : Value) : bls [(c, .slice none 0 0), (d, x)] = x.ownBlock.toList := by
  rw [show [(c, Value.slice none 0 0), (d, x)] = [(c, Value.slice none 0 0)] ++ [(d, x)] from rfl, bls_append, bls_one, bls_one]
  simp [Value.ownBlock]
/-- A value, and an instruction behind it. -/
theorem vput_li {pb : Nat} {cv vS x : Value} {tl : List Value} {s s' : St} {cS : List (Ic × Value)} {wS u w : World} (op : Int) (l : List M.Cl) (op2 arg2 : Int) (L : Li pb cv tl wS vS cS s u) (hb : Below u.heap.size u w) (hl : s.len ≤ 100000) (hx : Res w u.heap.size x l) (hs : (s.val op l).put op2 arg2 = s') :
    Calls Try.prog 20 #[.pointer (some ⟨pb, 0, none⟩), .slice (some ⟨w.heap.size, 0, none⟩) 2 2] (w.alloc (.cells #[.int .i64 op, .int .i64 0, x, .int .i64 op2, .int .i64 arg2, .slice none 0 0] 56)) fun e w' => e = .returned (.tuple #[]) ∧ Li pb cv tl wS vS cS s' w' :=
  putv1_li [(⟨op, 0, l⟩, x), (⟨op2, arg2, []⟩, .slice none 0 0)] l L hb hl (by simp) hx (fun p hp => by simp only [List.mem_cons, List.not_mem_nil, or_false] at hp; (rcases hp with rfl | rfl; exact hx.mono (by have := L.lt; omega); exact res_nil _ _)) (bls_va _ _ _) ((puts2 _ _ _).trans hs)
/-- An instruction, and a value behind it. -/
theorem putv_li {pb : Nat} {cv vS x : Value} {tl : List Value} {s s' : St} {cS : List (Ic × Value)} {wS u w : World} (op arg op2 : Int) (l : List M.Cl) (L : Li pb cv tl wS vS cS s u) (hb : Below u.heap.size u w) (hl : s.len ≤ 100000) (hx : Res w u.heap.size x l) (hs : (s.put op arg).val op2 l = s') :
    Calls Try.prog 20 #[.pointer (some ⟨pb, 0, none⟩), .slice (some ⟨w.heap.size, 0, none⟩) 2 2] (w.alloc (.cells #[.int .i64 op, .int .i64 arg, .slice none 0 0, .int .i64 op2, .int .i64 0, x] 56)) fun e w' => e = .returned (.tuple #[]) ∧ Li pb cv tl wS vS cS s' w' :=
  putv1_li [(⟨op, arg, []⟩, .slice none 0 0), (⟨op2, 0, l⟩, x)] l L hb hl (by simp) hx (fun p hp => by simp only [List.mem_cons, List.not_mem_nil, or_false] at hp; (rcases hp with rfl | rfl; exact res_nil _ _; exact hx.mono (by have := L.lt; omega))) (bls_av _ _ _) ((puts2 _ _ _).trans hs)
end Cm
set_option maxHeartbeats 4000000 in
theorem cjump_any (pb : Nat) (cv : Value) (tl : List Value) (s : Cm.St) (v : Value) (cs : List (Ic × Value)) (op : Int) (w : World) (h : Cm.Sp 52 w pb cv tl s v cs) (hl : s.len ≤ 100000) :
    Calls Try.prog 52 #[.pointer (some ⟨pb, 0, none⟩), .int .i64 op] w fun e w' => e = .returned (.int .i64 (s.len : Int)) ∧ Cm.Li pb cv tl w v cs (s.put op 0) w' := by
  have HC := hide (Cm.put1_li op 0 (Cm.Li.start h) hl rfl)
  clear h
  go_enter Try.func52, Try.ntmps52
  go_wp2_with fail
  refine (unhide HC).mono ?_
  rintro e w1 ⟨rfl, v1, cs1, h1, f1, n1⟩
  obtain ⟨va, vc, hv⟩ := h1.row.slice
  have hc := h1.len
  rw [Cm.put_len] at hc
  rw [hc] at hv
  have c1 := h1.own.cell 1
  simp only [List.cons_append, List.nil_append, List.getElem?_cons_zero, List.getElem?_cons_succ] at c1
  rw [hv] at c1
  have FIN := hide (show Cm.Li pb cv tl w v cs (s.put op 0) w1 from ⟨v1, cs1, h1, f1, n1⟩)
  clear h1 f1 n1 hc hv
  go_wp2_with fail
  go_ret
  exact ⟨by first | rfl | go_num, unhide FIN⟩
set_option maxHeartbeats 4000000 in
theorem creg_any (pb : Nat) (cv : Value) (tl : List Value) (s : Cm.St) (v : Value) (cs : List (Ic × Value)) (w : World) (h : Cm.Sp 52 w pb cv tl s v cs) (h0 : 0 ≤ s.regs) (h1 : s.regs ≤ 100000) :
    Calls Try.prog 75 #[.pointer (some ⟨pb, 0, none⟩)] w fun e w' => e = .returned (.int .i64 s.regs) ∧ Cm.Li pb cv tl w v cs s.reg w' := by
  have c2 := h.own.cell 2
  have z2 := h.own.frozen 2
  have H2 := hide (show Cm.Li pb cv tl w v cs s.reg _ from ⟨v, cs, h.setReg.1, Cm.Fr.setP _, Cm.Nw.refl _ _⟩)
  have e2 := h.setReg.1.own.cell 2
  simp only [List.cons_append, List.nil_append, List.getElem?_cons_zero, List.getElem?_cons_succ] at c2 e2
  rw [Cm.reg_regs] at e2
  have wr1 : IntKind.i64.wrap (s.regs + 1) = s.regs + 1 := IntWalk.i64_in _ ⟨by omega, by omega⟩
  clear h
  generalize s.regs = r at *
  go_enter Try.func75, Try.ntmps75
  go_wp2_with fail
  go_ret
  exact ⟨by first | rfl | (congr 2; omega), unhide H2⟩
set_option maxRecDepth 100000 in
set_option maxHeartbeats 4000000 in
theorem cland_any (pb : Nat) (cv : Value) (tl : List Value) (s : Cm.St) (v : Value) (cs : List (Ic × Value)) (k : Nat) (w : World) (h : Cm.Sp 52 w pb cv tl s v cs) (hk : k < s.len) (hl : s.len ≤ 100000) :
    Calls Try.prog 53 #[.pointer (some ⟨pb, 0, none⟩), .int .i64 (k : Int)] w fun e w' => e = .returned (.tuple #[]) ∧ Cm.Li pb cv tl w v cs (s.here k) w' := by
  obtain ⟨g, cap, a, rfl, hcap, hgp, ca, za, ⟨cs', hS, hbl⟩, hK⟩ := h.setHere hk
  have c1 := h.own.cell 1
  simp only [List.cons_append, List.nil_append, List.getElem?_cons_zero, List.getElem?_cons_succ] at c1
  have hpl := h.own.lt
  have HF : Cm.Li pb cv tl w (.slice (some ⟨g, 0, none⟩) s.len cap) cs (s.here k) (w.setCell ⟨g, k * 3 + 1, none⟩ (.int .i64 (s.len : Int))) := ⟨_, cs', hS, Cm.Fr.setV _, fun b hb => .inl (by rw [← hbl]; exact hb)⟩
  have HD := hide (HF.below ((Below.refl _ _).drew))
  have HF := hide HF
  have KP := hide (show (w.setCell ⟨g, k * 3 + 1, none⟩ (.int .i64 (s.len : Int))).cell? ⟨pb, 1, none⟩ = some (.slice (some ⟨g, 0, none⟩) s.len cap) from by have := hS.own.cell 1; simpa using this)
  have hkI : (k : Int) < (s.len : Int) := by omega
  have hk0 : (0 : Int) ≤ (k : Int) := by omega
  generalize s.here k = s' at *
  generalize s.len = n at *
  clear h hS hK hbl
  go_enter Try.func53, Try.ntmps53
  go_wp2_with fail
  go_region_held3 (fun w' => w'.cell? ⟨pb, 1, none⟩ = some (.slice (some ⟨g, 0, none⟩) n cap)) (first | exact unhide KP | assumption | go_keep) (fail)
  all_goals
    go_wp2_with fail
    go_end0
    exact ⟨rfl, by first | exact unhide HF | exact unhide HD⟩
set_option maxRecDepth 100000 in
set_option maxHeartbeats 1000000 in
theorem cclone_any (l : List M.Cl) (b off cap : Nat) (w : World) (hrow : Row w b off l) (hb : b < w.heap.size) (hn : l.length ≤ 1048576) :
    Calls Try.prog 49 #[.slice (some ⟨b, off, none⟩) l.length cap] w fun e w' => ∃ s, e = .returned s ∧ Res w' w.heap.size s l ∧ Below w.heap.size w w' := by
  obtain ⟨i0, hi, hz0, hz1, hz2⟩ := info_parts Try.info84
  have hnews := hide (fun o => row_words (hrow.below ((Below.refl w.heap.size w).alloc (Nat.le_refl _) o) hb))
  have hone := hide (flat_one l)
  have HFL := hide (flat_length l)
  have hoe := hide (show (w.alloc (.cells #[] 84)).ownsRow w.heap.size 84 5 (.slice (some ⟨w.heap.size, 0, none⟩) 0 0) 0 [] from Cm.owns_empty 5 (Nat.le_refl _) (heap_alloc_new w _))
  have hb63 : 0 + l.length ≤ maxLen := by unfold maxLen; omega
  have hby : (0 + l.length) * 56 ≤ 140737488355328 := by omega
  have heq : ∀ w', (binOp .eql 46 (.slice (some ⟨b, off, none⟩) l.length cap) (.slice none 0 0)).run Try.prog w' = .ok (.bool false) w' := fun w' => Lib.run_eql_slice_nil w' 46 84 (some ⟨b, off, none⟩) l.length cap 0 0 Try.underlying46
  go_enter Try.func49, Try.ntmps49
  go_wp2_with (at_builtin; refine wpList_append_own _ rfl (.tmp 5) (.tmp 6) 46 rfl w.heap.size 84 i0 _ 5 56 Try.underlying46 hi hz0 hz1 hz2 rfl (by decide) _ 0 [] rfl (unhide hoe) ⟨b, off, none⟩ l.length cap (flat l) rfl (unhide HFL) ((unhide hnews) _) (unhide hone) hb63 hby (by simp) ?_)
  intro v' w' ho hg _
  have hB : Below w.heap.size w w' := ((Below.refl _ w).alloc (Nat.le_refl _) _).grown hg (by simp) (fun q hq => by simp only [Value.ownBlock, Option.some.injEq] at hq; omega)
  have hr := hide (res_of_owns (l := l) (by simpa using ho) hn)
  clear ho hg
  go_wp2_with fail
  go_ret
  exact ⟨_, rfl, unhide hr, hB⟩
set_option maxHeartbeats 1000000 in
theorem clayNone_any (w : World) : Calls Try.prog 76 #[.slice none 0 0] w fun e w' => ∃ s, e = .returned s ∧ Res w' w.heap.size s [Cm.kindC 5] ∧ Below w.heap.size w w' := by
  have HR := hide (one_cell w w.heap.size w.heap.size (Cm.kindC 5) rfl (Nat.le_refl _))
  go_enter Try.func76, Try.ntmps76
  go_wp2_with fail
  go_loopg [3, 12] 0 (fun gh s3 s12 wr => s3 = .slice (some ⟨w.heap.size, 0, none⟩) 1 1 ∧ s12 = .int .i64 0 ∧ Hid (wr = w.alloc (.cells #[.int .i64 5, .int .i64 0, .string ByteArray.empty, .string ByteArray.empty, .int .i64 0] 84)))
  case atStart => exact ⟨rfl, rfl, rfl⟩
  case round =>
    obtain ⟨rfl, rfl, hw⟩ := hrel
    go_wp2_with fail
    go_ret
    refine ⟨_, rfl, ?_, ?_⟩
    · rw [hw.out]; exact unhide HR
    · rw [hw.out]; exact (Below.refl _ _).alloc (Nat.le_refl _) _

end Go.Proofs.Ytodpmonbfecfdaa

namespace Go.Proofs.Ytodpmonbfecfdaa
open Go.RowKit
set_option linter.unusedVariables false
set_option linter.unusedSimpArgs false


namespace Cm
/-- The register of a slot, and another one set. -/
theorem Sp.setTl {T : TypeId} {w : World} {pb : Nat} {cv v : Value} {rs : List Int} {s : St} {cs : List (Ic × Value)} (h : Sp T w pb cv (rs.map (Value.int .i64)) s v cs) (k : Nat) (r : Int) : Sp T (w.setCell ⟨pb, 3 + k, none⟩ (.int .i64 r)) pb cv ((rs.set k r).map (Value.int .i64)) s v cs := by
  refine ⟨?_, h.row.setFar (3 + k) _, h.eq, h.nd⟩
  have := h.own.set (3 + k) (.int .i64 r)
  rw [List.set_append_right _ _ (by simp)] at this
  rw [List.map_set]
  simpa using this
theorem Sp.getTl {T : TypeId} {w : World} {pb : Nat} {cv v : Value} {rs : List Int} {s : St} {cs : List (Ic × Value)} (h : Sp T w pb cv (rs.map (Value.int .i64)) s v cs) {k : Nat} (hk : k < rs.length) : w.cell? ⟨pb, 3 + k, none⟩ = some (.int .i64 (rs.getD k 0)) := by
  rw [h.own.cell (3 + k), List.getElem?_append_right (by simp)]
  simp only [List.length_cons, List.length_nil, Nat.zero_add, Nat.reduceAdd, Nat.add_sub_cancel_left, List.getElem?_map]
  rw [List.getElem?_eq_getElem hk, List.getD_eq_getElem?_getD, List.getElem?_eq_getElem hk]
  rfl
theorem set_back (rs : List Int) (k : Nat) (r : Int) (hk : k < rs.length) : (rs.set k r).set k (rs.getD k 0) = rs := by
  rw [List.set_set, List.getD_eq_getElem?_getD, List.getElem?_eq_getElem hk]
  exact List.set_getElem_self hk
end Cm
set_option maxRecDepth 100000 in
set_option maxHeartbeats 4000000 in
theorem clayWith_any (w0 : World) (pb : Nat) (cv : Value) (rec : Cm.Rec) (n : Nat) (a : Int) (H : Cm.LaysI w0 pb cv rec n a) (rs : List Int) (s : Cm.St) (v : Value) (cs : List (Ic × Value)) (k : Nat) (r : Int) (w : World) (h : Cm.Sp 52 w pb cv (rs.map (Value.int .i64)) s v cs) (hp : w0.heap.size ≤ pb) (hB0 : Below w0.heap.size w0 w) (h60 : rs.length = 60) (hk : k < 60) (h1 : s.len + 14 * n ≤ 20000) (h2 : 0 ≤ s.regs) (h3 : s.regs + 2 * (n : Int) ≤ 20000) :
    Calls Try.prog 77 #[.pointer (some ⟨pb, 0, none⟩), .int .i64 (k : Int), .int .i64 r, .int .i64 a] w fun e w' => e = .returned (.tuple #[]) ∧ Cm.Li pb cv (rs.map (Value.int .i64)) w v cs (rec a (rs.set k r) s) w' := by
  have HC := hide (H.2 (rs.set k r) s v cs _ (h.setTl k r) ((hB0.setCell (p := ⟨pb, 3 + k, none⟩) hp _)) (by rw [List.length_set]; exact h60) h1 h2 h3)
  have HK := hide (Cm.Fr.setP (P := pb) (j := 3 + k) (v := v) (w := w) (.int .i64 r))
  have c := h.getTl (k := k) (by omega)
  have z := h.own.frozen (3 + k)
  have hkI : (k : Int) < 60 := by omega
  have hk0 : (0 : Int) ≤ (k : Int) := by omega
  have HB := hide (Cm.set_back rs k r (by omega))
  have HL2 := hide (show k < (rs.set k r).length by rw [List.length_set]; omega)
  obtain ⟨x, hx⟩ : ∃ x, rs.getD k 0 = x := ⟨_, rfl⟩
  rw [hx] at c HB
  clear h hB0 H hx hp h60 h1 h2 h3
  go_enter Try.func77, Try.ntmps77
  go_wp2_with fail
  refine (unhide HC).mono ?_
  rintro e w1 ⟨rfl, v1, cs1, k1, f1, n1⟩
  have d := k1.getTl (k := k) (unhide HL2)
  have y := k1.own.frozen (3 + k)
  have K2 := k1.setTl k x
  rw [unhide HB] at K2
  have FIN := hide (show Cm.Li pb cv (rs.map (Value.int .i64)) w v cs _ _ from ⟨v1, cs1, K2, ((unhide HK).trans f1).trans (Cm.Fr.setP (j := 3 + k) (.int .i64 x)), fun b hb => by have := n1 b hb; simpa using this⟩)
  clear k1 f1 n1 K2
  go_wp2_with fail
  go_end0
  exact ⟨rfl, unhide FIN⟩

end Go.Proofs.Ytodpmonbfecfdaa
