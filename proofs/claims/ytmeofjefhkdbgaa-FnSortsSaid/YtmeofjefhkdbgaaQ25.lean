/-
  impl.compareAt by induction.
  The order of values is an order: plainly. Values put in one by one. No word of the program is used here.
-/
import Derived.Test.YtmeofjefhkdbgaaQ10
import Derived.Test.YtmeofjefhkdbgaaQ16
import Derived.Test.YtmeofjefhkdbgaaQ20
import Derived.Test.YtmeofjefhkdbgaaQ21
import Derived.Test.YtmeofjefhkdbgaaQ24
namespace Go.Proofs.Ytmeofjefhkdbgaa
open Go.RowKit
set_option linter.unusedVariables false

theorem cl_ext {x y : M.Cl} (h0 : x.kind = y.kind) (h1 : x.num = y.num) (h2 : x.text.toList = y.text.toList) (h3 : x.key.toList = y.key.toList) (h4 : x.n = y.n) : x = y := by
  have e2 := bytes_ext h2
  have e3 := bytes_ext h3
  clear h2 h3
  cases x; cases y
  simp only at h0 h1 e2 e3 h4
  rw [h0, h1, e2, e3, h4]
theorem sgn_eq {a b : Int} (h : sgn a b = 0) : a = b := by
  unfold sgn at h
  split at h
  · cases h
  · split at h
    · cases h
    · omega
theorem cmpK_eq {a b : ByteArray} (h : cmpK a b = 0) : a.toList = b.toList := by
  unfold cmpK at h
  split at h
  · cases h
  · split at h
    · rename_i h2; exact eq_of_beq h2
    · cases h

theorem compareAt_step (v u : List M.Cl) (b off cap b' off' cap' f : Nat) (IH : CatSays v u b off cap b' off' cap' f) (hv : M.valueFault v = 0) (hu : M.valueFault u = 0) (hcap : v.length ≤ cap) (hcap' : u.length ≤ cap') : CatSays v u b off cap b' off' cap' (f + 1) := by
  intro i j w hi hj hpl hr hb hr' hb'
  have IH := hide IH
  have HV := hide hv
  have HU := hide hu
  obtain ⟨x, hx⟩ : ∃ x, x = v.getD i M.zero := ⟨_, rfl⟩
  obtain ⟨y, hy⟩ : ∃ y, y = u.getD j M.zero := ⟨_, rfl⟩
  by_cases hor : orCells x y = 0
  · have hk : x.kind = y.kind := by
      by_cases e : x.kind = y.kind
      · exact e
      · exact absurd hor (orCells_kind e).1
    have ho := orCells_same hk
    rw [hor] at ho
    have hs : sgn x.num y.num = 0 := by
      by_cases e : sgn x.num y.num = 0
      · exact e
      · rw [if_pos e] at ho; exact ho.symm
    rw [if_neg (fun g => g hs)] at ho
    have hn := sgn_eq hs
    have ht := cmpK_eq ho.symm
    have g1 : (x.kind == y.kind) = true := by simp [hk]
    have g2 : (x.num == y.num) = true := by simp [hn]
    have g3 : (x.text.toList == y.text.toList) = true := by simp [ht]
    by_cases hq : x.key.toList = y.key.toList
    · have g4 : (x.key.toList == y.key.toList) = true := by simp [hq]
      by_cases hm : x.n = y.n
      · exact cat_same v u b off cap b' off' cap' f i j IH w HV HU hi hj hpl hr hb hr' hb' hcap hcap' x y hx hy hor (cl_ext hk hn ht hq hm)
      · exact cat_n v u b off cap b' off' cap' f i j IH w HV HU hi hj hpl hr hb hr' hb' hcap hcap' x y hx hy hor g1 g2 g3 g4 (by simp [hm])
    · exact cat_key v u b off cap b' off' cap' f i j IH w HV HU hi hj hpl hr hb hr' hb' hcap hcap' x y hx hy hor g1 g2 g3 (by simp [hq])
  · by_cases hk : x.kind = y.kind
    · have g1 : (x.kind == y.kind) = true := by simp [hk]
      by_cases hn : x.num = y.num
      · have g2 : (x.num == y.num) = true := by simp [hn]
        by_cases ht : x.text.toList = y.text.toList
        · refine absurd ?_ hor
          rw [orCells_same hk, hn, sgn_self, if_neg (fun g => g rfl), bytes_ext ht, cmpK_self]
        · exact cat_text v u b off cap b' off' cap' f i j IH w HV HU hi hj hpl hr hb hr' hb' hcap hcap' x y hx hy hor g1 g2 (by simp [ht])
      · exact cat_num v u b off cap b' off' cap' f i j IH w HV HU hi hj hpl hr hb hr' hb' hcap hcap' x y hx hy hor g1 (by simp [hn])
    · exact cat_kind v u b off cap b' off' cap' f i j IH w HV HU hi hj hpl hr hb hr' hb' hcap hcap' x y hx hy hor (by simp [hk])

theorem compareAt_any (v u : List M.Cl) (b off cap b' off' cap' f : Nat) (hv : M.valueFault v = 0) (hu : M.valueFault u = 0) (hcap : v.length ≤ cap) (hcap' : u.length ≤ cap') : CatSays v u b off cap b' off' cap' f := by
  induction f with
  | zero =>
    intro i j w hi hj hpl
    have h1 := part_len hv hi
    have h2 := end_gt hv hi
    omega
  | succ f ih => exact compareAt_step v u b off cap b' off' cap' f ih hv hu hcap hcap'

/-- The order of two values, as a number. -/
def cmpOut (A C : List M.Cl) : Int := if M.valueFault A = 0 ∧ M.valueFault C = 0 then cmpL A.length A C else 0
def sameOut (A C : List M.Cl) : Bool := decide (M.valueFault A = 0 ∧ M.valueFault C = 0 ∧ cmpL A.length A C = 0)

theorem cmpL_whole {A C : List M.Cl} (hv : M.valueFault A = 0) (hu : M.valueFault C = 0) : cmpL A.length (part A 0) (part C 0) = cmpL A.length A C := by
  have h1 := (M.fault_zero hv).1
  have h2 := (M.fault_zero hu).1
  obtain ⟨n, hn⟩ : ∃ n, A.length = n + 1 := ⟨A.length - 1, by omega⟩
  rw [hn, cmpL_part n hv hu (by omega) (by omega)]
  rfl

end Go.Proofs.Ytmeofjefhkdbgaa

namespace Go.Proofs.Ytmeofjefhkdbgaa
open Go.RowKit
set_option linter.unusedVariables false

theorem subs_val {v : List M.Cl} (hv : M.valueFault v = 0) : ∀ p ∈ subs v 0, M.valueFault p = 0 ∧ p.length < v.length := by
  intro p hp
  have h0 := (M.fault_zero hv).1
  simp only [subs, List.mem_map, M.places, List.mem_range] at hp
  obtain ⟨q, ⟨j, hj, rfl⟩, rfl⟩ := hp
  have hin := (M.places_in hv 0 (by omega)).1 j hj
  have hg := (end_gt hv (a := 0) (by omega)).2
  have hlt : M.iter v j (0 + 1) < v.length := by omega
  have hg2 := end_gt hv hlt
  have hl := part_len hv hlt
  exact ⟨part_valid hv hlt, by omega⟩

theorem lex_congr {α : Type} {c d : α → α → Int} : ∀ (A B : List α), (∀ a ∈ A, ∀ b ∈ B, c a b = d a b) → lex c A B = lex d A B
  | [], [], _ => rfl
  | [], _ :: _, _ => rfl
  | _ :: _, [], _ => rfl
  | a :: xs, b :: ys, h => by
    rw [lex, lex, h a (by simp) b (by simp), lex_congr xs ys (fun x hx y hy => h x (by simp [hx]) y (by simp [hy]))]
theorem lex_neg {α : Type} {c d : α → α → Int} : ∀ (A B : List α), (∀ a ∈ A, ∀ b ∈ B, c a b = - d b a) → lex c A B = - lex d B A
  | [], [], _ => rfl
  | [], _ :: _, _ => rfl
  | _ :: _, [], _ => rfl
  | a :: xs, b :: ys, h => by
    have h1 := h a (by simp) b (by simp)
    rw [lex, lex, lex_neg xs ys (fun x hx y hy => h x (by simp [hx]) y (by simp [hy]))]
    by_cases e : d b a = 0
    · rw [if_neg (by omega), if_neg (by omega)]
    · rw [if_pos (by omega), if_pos (by omega), h1]
/-- Of three in a row: what the first two tell of the third. -/
def TT (x y z : Int) : Prop := x ≤ 0 → y ≤ 0 → (z ≤ 0 ∧ ((x < 0 ∨ y < 0) → z < 0) ∧ (x = 0 → y = 0 → z = 0))
theorem TT.pair {k1 k2 k3 s1 s2 s3 : Int} (K : TT k1 k2 k3) (S : TT s1 s2 s3) : TT (if k1 ≠ 0 then k1 else s1) (if k2 ≠ 0 then k2 else s2) (if k3 ≠ 0 then k3 else s3) := by
  by_cases e1 : k1 = 0
  · rw [if_neg (fun h => h e1)]
    by_cases e2 : k2 = 0
    · rw [if_neg (fun h => h e2)]
      have := (K (by omega) (by omega)).2.2 e1 e2
      rw [if_neg (fun h => h this)]
      exact S
    · rw [if_pos e2]
      intro hx hy
      have := (K (by omega) hy).2.1 (.inr (by omega))
      rw [if_pos (by omega)]
      exact ⟨by omega, fun _ => this, fun _ h => absurd h e2⟩
  · rw [if_pos e1]
    intro hx hy
    have hy2 : k2 ≤ 0 := by
      by_cases e2 : k2 = 0
      · omega
      · rw [if_pos e2] at hy; exact hy
    have := (K hx hy2).2.1 (.inl (by omega))
    rw [if_pos (by omega)]
    exact ⟨by omega, fun _ => this, fun h => absurd h e1⟩
theorem lex_TT {α : Type} {c : α → α → Int} : ∀ (A B C : List α), (∀ a ∈ A, ∀ b ∈ B, ∀ e ∈ C, TT (c a b) (c b e) (c a e)) → TT (lex c A B) (lex c B C) (lex c A C)
  | [], [], [], _ => show TT 0 0 0 from fun _ _ => ⟨by decide, fun h => (by rcases h with h | h <;> cases h), fun _ _ => rfl⟩
  | [], [], _ :: _, _ => show TT 0 (-1) (-1) from fun _ _ => ⟨by decide, fun _ => by decide, fun _ h => absurd h (by decide)⟩
  | [], _ :: _, [], _ => show TT (-1) 1 0 from fun _ h => absurd h (by decide)
  | [], _ :: _, _ :: _, _ => show TT (-1) _ (-1) from fun _ _ => ⟨by decide, fun _ => by decide, fun h => absurd h (by decide)⟩
  | _ :: _, [], _, _ => show TT 1 _ _ from fun h => absurd h (by decide)
  | _ :: _, _ :: _, [], _ => show TT _ 1 _ from fun _ h => absurd h (by decide)
  | a :: xs, b :: ys, e :: zs, h => by
    have h1 := h a (by simp) b (by simp) e (by simp)
    have h2 := lex_TT xs ys zs (fun x hx y hy z hz => h x (by simp [hx]) y (by simp [hy]) z (by simp [hz]))
    rw [lex, lex, lex]
    exact h1.pair h2
theorem sgn_neg (a b : Int) : sgn a b = - sgn b a := by unfold sgn; split <;> split <;> omega
theorem sgn_TT (a b c : Int) : TT (sgn a b) (sgn b c) (sgn a c) := by
  unfold TT sgn
  intro h1 h2
  refine ⟨?_, fun h3 => ?_, fun h3 h4 => ?_⟩ <;> (split at h1 <;> split at h2 <;> split <;> first | omega | (split at h1 <;> omega) | (split at h2 <;> omega) | (split <;> omega) | (split at h1 <;> split at h2 <;> split <;> omega))
theorem cmpK_cases (a b : ByteArray) : (cmpK a b = -1 ∧ Op.bytesLess a.toList b.toList = true) ∨ (cmpK a b = 0 ∧ a.toList = b.toList) ∨ (cmpK a b = 1 ∧ Op.bytesLess b.toList a.toList = true) := by
  unfold cmpK
  rcases St.bl_tri a.toList b.toList with h | h | h
  · left; rw [if_pos h]; exact ⟨rfl, h⟩
  · right; left; rw [h, St.bl_irr]; simp
  · right; right
    have h1 : Op.bytesLess a.toList b.toList ≠ true := fun e => by have := St.bl_trans _ _ _ e h; rw [St.bl_irr] at this; cases this
    have h2 : (a.toList == b.toList) ≠ true := fun e => by rw [eq_of_beq e, St.bl_irr] at h; cases h
    rw [if_neg h1, if_neg h2]; exact ⟨rfl, h⟩
theorem cmpK_less {a b : ByteArray} (h : Op.bytesLess a.toList b.toList = true) : cmpK a b = -1 := by unfold cmpK; rw [if_pos h]
theorem cmpK_more {a b : ByteArray} (h : Op.bytesLess b.toList a.toList = true) : cmpK a b = 1 := by
  rcases cmpK_cases a b with ⟨_, e⟩ | ⟨_, e⟩ | ⟨e, _⟩
  · have := St.bl_trans _ _ _ e h; rw [St.bl_irr] at this; cases this
  · rw [e, St.bl_irr] at h; cases h
  · exact e
theorem cmpK_none {a b : ByteArray} (h : a.toList = b.toList) : cmpK a b = 0 := by unfold cmpK; rw [h, St.bl_irr]; simp
theorem cmpK_neg (a b : ByteArray) : cmpK a b = - cmpK b a := by
  rcases cmpK_cases a b with ⟨e, h⟩ | ⟨e, h⟩ | ⟨e, h⟩
  · rw [e, cmpK_more h]
  · rw [e, cmpK_none h.symm]; rfl
  · rw [e, cmpK_less h]; rfl
theorem cmpK_TT (a b c : ByteArray) : TT (cmpK a b) (cmpK b c) (cmpK a c) := by
  intro h1 h2
  rcases cmpK_cases a b with ⟨e, h⟩ | ⟨e, h⟩ | ⟨e, h⟩
  · rcases cmpK_cases b c with ⟨e', h'⟩ | ⟨e', h'⟩ | ⟨e', h'⟩
    · rw [cmpK_less (St.bl_trans _ _ _ h h')]; exact ⟨by decide, fun _ => by decide, fun q => by rw [e] at q; cases q⟩
    · rw [cmpK_less (show Op.bytesLess a.toList c.toList = true by rw [← h']; exact h)]; exact ⟨by decide, fun _ => by decide, fun q => by rw [e] at q; cases q⟩
    · rw [e'] at h2; exact absurd h2 (by decide)
  · rcases cmpK_cases b c with ⟨e', h'⟩ | ⟨e', h'⟩ | ⟨e', h'⟩
    · rw [cmpK_less (show Op.bytesLess a.toList c.toList = true by rw [h]; exact h')]; exact ⟨by decide, fun _ => by decide, fun _ q => by rw [e'] at q; cases q⟩
    · rw [cmpK_none (h.trans h')]
      exact ⟨by decide, fun q => (by rw [e, e'] at q; rcases q with q | q <;> cases q), fun _ _ => rfl⟩
    · rw [e'] at h2; exact absurd h2 (by decide)
  · rw [e] at h1; exact absurd h1 (by decide)

/-- The order of kinds, and behind it that of what a kind holds. -/
theorem cmpL_step (f : Nat) (P Q : List M.Cl) : cmpL (f + 1) P Q = if sgn (P.getD 0 M.zero).kind (Q.getD 0 M.zero).kind ≠ 0 then sgn (P.getD 0 M.zero).kind (Q.getD 0 M.zero).kind else
    if (P.getD 0 M.zero).kind = 3 then sgn (P.getD 0 M.zero).num (Q.getD 0 M.zero).num
    else if (P.getD 0 M.zero).kind = 4 then cmpK (P.getD 0 M.zero).text (Q.getD 0 M.zero).text
    else if (P.getD 0 M.zero).kind = 5 then lex (cmpL f) (subs P 0) (subs Q 0)
    else if (P.getD 0 M.zero).kind = 6 then (if lex cmpK (keysAt P 0) (keysAt Q 0) ≠ 0 then lex cmpK (keysAt P 0) (keysAt Q 0) else lex (cmpL f) (subs P 0) (subs Q 0))
    else 0 := by
  rw [cmpL]
  by_cases h : (P.getD 0 M.zero).kind = (Q.getD 0 M.zero).kind
  · have hs : sgn (P.getD 0 M.zero).kind (Q.getD 0 M.zero).kind = 0 := by rw [h, sgn_self]
    rw [if_neg (show ¬ ((P.getD 0 M.zero).kind ≠ (Q.getD 0 M.zero).kind) from fun e => e h), hs, if_neg (show ¬ ((0 : Int) ≠ 0) from fun e => e rfl)]
  · rw [if_pos (show (P.getD 0 M.zero).kind ≠ (Q.getD 0 M.zero).kind from h)]
    by_cases h1 : (P.getD 0 M.zero).kind < (Q.getD 0 M.zero).kind
    · have hs : sgn (P.getD 0 M.zero).kind (Q.getD 0 M.zero).kind = -1 := by unfold sgn; rw [if_pos h1]
      rw [if_pos h1, hs, if_pos (show (-1 : Int) ≠ 0 by decide)]
    · have hs : sgn (P.getD 0 M.zero).kind (Q.getD 0 M.zero).kind = 1 := by unfold sgn; rw [if_neg h1, if_pos (by omega)]
      rw [if_neg h1, hs, if_pos (show (1 : Int) ≠ 0 by decide)]
theorem cmpL_fuel : ∀ (f g : Nat) (P Q : List M.Cl), M.valueFault P = 0 → P.length ≤ f → P.length ≤ g → cmpL f P Q = cmpL g P Q := by
  intro f
  induction f with
  | zero => intro g P Q hP h1 _; have := (M.fault_zero hP).1; omega
  | succ f ih =>
    intro g P Q hP h1 h2
    have h0 := (M.fault_zero hP).1
    obtain ⟨g, rfl⟩ : ∃ q, g = q + 1 := ⟨g - 1, by omega⟩
    have hs : lex (cmpL f) (subs P 0) (subs Q 0) = lex (cmpL g) (subs P 0) (subs Q 0) := lex_congr _ _ fun a ha b _ => by
      obtain ⟨a1, a2⟩ := subs_val hP a ha
      exact ih g a b a1 (by omega) (by omega)
    rw [cmpL_step f P Q, cmpL_step g P Q, hs]
theorem cmpL_neg : ∀ (f : Nat) (P Q : List M.Cl), M.valueFault P = 0 → M.valueFault Q = 0 → P.length ≤ f → Q.length ≤ f → cmpL f P Q = - cmpL f Q P := by
  intro f
  induction f with
  | zero => intro P Q hP _ h1 _; have := (M.fault_zero hP).1; omega
  | succ f ih =>
    intro P Q hP hQ h1 h2
    have hs : lex (cmpL f) (subs P 0) (subs Q 0) = - lex (cmpL f) (subs Q 0) (subs P 0) := lex_neg _ _ fun a ha b hb => by
      obtain ⟨a1, a2⟩ := subs_val hP a ha
      obtain ⟨b1, b2⟩ := subs_val hQ b hb
      exact ih a b a1 b1 (by omega) (by omega)
    have hk : lex cmpK (keysAt P 0) (keysAt Q 0) = - lex cmpK (keysAt Q 0) (keysAt P 0) := lex_neg _ _ fun a _ b _ => cmpK_neg a b
    have hsg := sgn_neg (P.getD 0 M.zero).kind (Q.getD 0 M.zero).kind
    rw [cmpL_step f P Q, cmpL_step f Q P]
    by_cases h : sgn (Q.getD 0 M.zero).kind (P.getD 0 M.zero).kind = 0
    · have h' : sgn (P.getD 0 M.zero).kind (Q.getD 0 M.zero).kind = 0 := by omega
      rw [if_neg (show ¬ (sgn (P.getD 0 M.zero).kind (Q.getD 0 M.zero).kind ≠ 0) from fun e => e h'), if_neg (show ¬ (sgn (Q.getD 0 M.zero).kind (P.getD 0 M.zero).kind ≠ 0) from fun e => e h), sgn_eq h]
      by_cases k3 : (P.getD 0 M.zero).kind = 3
      · rw [if_pos k3, if_pos k3]; exact sgn_neg _ _
      rw [if_neg k3, if_neg k3]
      by_cases k4 : (P.getD 0 M.zero).kind = 4
      · rw [if_pos k4, if_pos k4]; exact cmpK_neg _ _
      rw [if_neg k4, if_neg k4]
      by_cases k5 : (P.getD 0 M.zero).kind = 5
      · rw [if_pos k5, if_pos k5]; exact hs
      rw [if_neg k5, if_neg k5]
      by_cases k6 : (P.getD 0 M.zero).kind = 6
      · rw [if_pos k6, if_pos k6]
        by_cases e : lex cmpK (keysAt Q 0) (keysAt P 0) = 0
        · have e' : lex cmpK (keysAt P 0) (keysAt Q 0) = 0 := by omega
          rw [if_neg (show ¬ (lex cmpK (keysAt P 0) (keysAt Q 0) ≠ 0) from fun q => q e'), if_neg (show ¬ (lex cmpK (keysAt Q 0) (keysAt P 0) ≠ 0) from fun q => q e)]
          exact hs
        · rw [if_pos (show lex cmpK (keysAt P 0) (keysAt Q 0) ≠ 0 by omega), if_pos (show lex cmpK (keysAt Q 0) (keysAt P 0) ≠ 0 from e)]
          exact hk
      rw [if_neg k6, if_neg k6]; rfl
    · rw [if_pos (show sgn (P.getD 0 M.zero).kind (Q.getD 0 M.zero).kind ≠ 0 by omega), if_pos (show sgn (Q.getD 0 M.zero).kind (P.getD 0 M.zero).kind ≠ 0 from h)]
      exact hsg
theorem cmpL_TT : ∀ (f : Nat) (P Q R : List M.Cl), M.valueFault P = 0 → M.valueFault Q = 0 → M.valueFault R = 0 → P.length ≤ f → Q.length ≤ f → R.length ≤ f → TT (cmpL f P Q) (cmpL f Q R) (cmpL f P R) := by
  intro f
  induction f with
  | zero => intro P Q R hP _ _ h1 _ _; have := (M.fault_zero hP).1; omega
  | succ f ih =>
    intro P Q R hP hQ hR h1 h2 h3
    have hs : TT (lex (cmpL f) (subs P 0) (subs Q 0)) (lex (cmpL f) (subs Q 0) (subs R 0)) (lex (cmpL f) (subs P 0) (subs R 0)) := lex_TT _ _ _ fun a ha b hb c hc => by
      obtain ⟨a1, a2⟩ := subs_val hP a ha
      obtain ⟨b1, b2⟩ := subs_val hQ b hb
      obtain ⟨c1, c2⟩ := subs_val hR c hc
      exact ih a b c a1 b1 c1 (by omega) (by omega) (by omega)
    have hk : TT (lex cmpK (keysAt P 0) (keysAt Q 0)) (lex cmpK (keysAt Q 0) (keysAt R 0)) (lex cmpK (keysAt P 0) (keysAt R 0)) := lex_TT _ _ _ fun a _ b _ c _ => cmpK_TT a b c
    rw [cmpL_step f P Q, cmpL_step f Q R, cmpL_step f P R]
    by_cases e : (P.getD 0 M.zero).kind = (Q.getD 0 M.zero).kind ∧ (Q.getD 0 M.zero).kind = (R.getD 0 M.zero).kind
    · refine TT.pair (sgn_TT _ _ _) ?_
      rw [← e.1]
      by_cases k3 : (P.getD 0 M.zero).kind = 3
      · rw [if_pos k3, if_pos k3, if_pos k3]; exact sgn_TT _ _ _
      rw [if_neg k3, if_neg k3, if_neg k3]
      by_cases k4 : (P.getD 0 M.zero).kind = 4
      · rw [if_pos k4, if_pos k4, if_pos k4]; exact cmpK_TT _ _ _
      rw [if_neg k4, if_neg k4, if_neg k4]
      by_cases k5 : (P.getD 0 M.zero).kind = 5
      · rw [if_pos k5, if_pos k5, if_pos k5]; exact hs
      rw [if_neg k5, if_neg k5, if_neg k5]
      by_cases k6 : (P.getD 0 M.zero).kind = 6
      · rw [if_pos k6, if_pos k6, if_pos k6]; exact hk.pair hs
      rw [if_neg k6, if_neg k6, if_neg k6]
      exact fun _ _ => ⟨by decide, fun h => (by rcases h with h | h <;> cases h), fun _ _ => rfl⟩
    · generalize (P.getD 0 M.zero).kind = x at *
      generalize (Q.getD 0 M.zero).kind = y at *
      generalize (R.getD 0 M.zero).kind = z at *
      have S := sgn_TT x y z
      have z1 : sgn x y = 0 ↔ x = y := ⟨sgn_eq, fun h => by rw [h, sgn_self]⟩
      have z2 : sgn y z = 0 ↔ y = z := ⟨sgn_eq, fun h => by rw [h, sgn_self]⟩
      intro hx hy
      have hx' : sgn x y ≤ 0 := by
        by_cases q : sgn x y = 0
        · omega
        · rw [if_pos q] at hx; exact hx
      have hy' : sgn y z ≤ 0 := by
        by_cases q : sgn y z = 0
        · omega
        · rw [if_pos q] at hy; exact hy
      have hlt := (S hx' hy').2.1 (by
        by_cases q : sgn x y = 0
        · by_cases q2 : sgn y z = 0
          · exact absurd ⟨z1.1 q, z2.1 q2⟩ e
          · right; omega
        · left; omega)
      rw [if_pos (show sgn x z ≠ 0 by omega)]
      refine ⟨by omega, fun _ => hlt, fun g1 g2 => ?_⟩
      by_cases q : sgn x y = 0
      · by_cases q2 : sgn y z = 0
        · exact absurd ⟨z1.1 q, z2.1 q2⟩ e
        · rw [if_pos q2] at g2; exact absurd g2 q2
      · rw [if_pos q] at g1; exact absurd g1 q

namespace St
/-- The list at a place, or null where it has a fault. -/
def vOf (ps : List (List M.Cl)) (x : Nat) : List M.Cl := if M.valueFault (ps.getD x []) = 0 then ps.getD x [] else [M.zero]
theorem null_valid : M.valueFault [M.zero] = 0 := by
  refine (one_valid (c := M.zero) ?_ empty_toList rfl).1
  · unfold M.zero M.cellCode
    simp only
    rw [if_neg (by omega), if_neg, if_neg (by omega), if_pos ⟨by decide, by decide⟩]
    intro g
    rcases g with g | g | g
    · exact g.1 rfl
    · exact g.1 empty_toList
    · exact g.1 rfl
theorem vOf_valid (ps : List (List M.Cl)) (x : Nat) : M.valueFault (vOf ps x) = 0 := by
  unfold vOf
  split
  · assumption
  · exact null_valid
theorem vOf_eq {ps : List (List M.Cl)} {x : Nat} (h : M.valueFault (ps.getD x []) = 0) : vOf ps x = ps.getD x [] := if_pos h
def cmpV (ps : List (List M.Cl)) (x y : Nat) : Int := cmpL (vOf ps x).length (vOf ps x) (vOf ps y)
theorem cmpV_at (ps : List (List M.Cl)) (x y n : Nat) (h : (vOf ps x).length ≤ n) : cmpL n (vOf ps x) (vOf ps y) = cmpV ps x y := cmpL_fuel _ _ _ _ (vOf_valid ps x) h (Nat.le_refl _)
theorem cmpV_neg' (ps : List (List M.Cl)) (x y : Nat) : cmpV ps x y = - cmpV ps y x := by
  have h := cmpL_neg ((vOf ps x).length + (vOf ps y).length) (vOf ps x) (vOf ps y) (vOf_valid ps x) (vOf_valid ps y) (by omega) (by omega)
  rwa [cmpV_at ps x y _ (by omega), cmpV_at ps y x _ (by omega)] at h
theorem cmpV_TT (ps : List (List M.Cl)) (x y z : Nat) : TT (cmpV ps x y) (cmpV ps y z) (cmpV ps x z) := by
  have h := cmpL_TT ((vOf ps x).length + (vOf ps y).length + (vOf ps z).length) (vOf ps x) (vOf ps y) (vOf ps z) (vOf_valid ps x) (vOf_valid ps y) (vOf_valid ps z) (by omega) (by omega) (by omega)
  rwa [cmpV_at ps x y _ (by omega), cmpV_at ps y z _ (by omega), cmpV_at ps x z _ (by omega)] at h
def pltV (ps : List (List M.Cl)) (x y : Nat) : Prop := cmpV ps x y < 0 ∨ (cmpV ps x y = 0 ∧ x < y)
def ptestV (ps : List (List M.Cl)) (x y : Nat) : Bool := decide (cmpV ps x y < 0)
theorem cmpV_neg (ps : List (List M.Cl)) (x y : Nat) : decide (cmpV ps x y < 0) = ptestV ps x y := rfl
theorem pltV_le {ps : List (List M.Cl)} {x y : Nat} (h : pltV ps x y) : cmpV ps x y ≤ 0 := by rcases h with h | h <;> omega
theorem pltV_trans {ps : List (List M.Cl)} {x y z : Nat} (h1 : pltV ps x y) (h2 : pltV ps y z) : pltV ps x z := by
  have T := cmpV_TT ps x y z (pltV_le h1) (pltV_le h2)
  rcases h1 with h1 | ⟨h1, h1'⟩
  · exact .inl (T.2.1 (.inl h1))
  · rcases h2 with h2 | ⟨h2, h2'⟩
    · exact .inl (T.2.1 (.inr h2))
    · exact .inr ⟨T.2.2 h1 h2, by omega⟩
theorem pltV_irr {ps : List (List M.Cl)} {x : Nat} (h : pltV ps x x) : False := by
  have := cmpV_neg' ps x x
  rcases h with h | h <;> omega
theorem pordV (ps : List (List M.Cl)) : Ord (pltV ps) (ptestV ps) where
  trans := pltV_trans
  left := by
    intro x y z h1 h2
    have h2 := of_decide_eq_true h2
    exact decide_eq_true ((cmpV_TT ps x y z (pltV_le h1) (by omega)).2.1 (.inr h2))
  right := by
    intro x y z h2 h1
    have h2 := of_decide_eq_true h2
    exact decide_eq_true ((cmpV_TT ps z x y (by omega) (pltV_le h1)).2.1 (.inl h2))
  yes := fun h => .inl (of_decide_eq_true h)
  no := by
    intro x y h1 h2
    have h1 := of_decide_eq_false h1
    have := cmpV_neg' ps x y
    by_cases e : cmpV ps x y = 0
    · exact .inr ⟨e, h2⟩
    · exact .inl (by omega)
theorem pw_extV {ps : List (List M.Cl)} : ∀ L L' : List Nat, L.Pairwise (pltV ps) → L'.Pairwise (pltV ps) → (∀ x, x ∈ L ↔ x ∈ L') → L = L'
  | [], [], _, _, _ => rfl
  | [], b :: r, _, _, h => absurd ((h b).2 (by simp)) (by simp)
  | a :: r, [], _, _, h => absurd ((h a).1 (by simp)) (by simp)
  | a :: r, b :: r', h1, h2, h => by
    obtain ⟨a1, a2⟩ := List.pairwise_cons.1 h1
    obtain ⟨b1, b2⟩ := List.pairwise_cons.1 h2
    have e : a = b := by
      rcases List.mem_cons.1 ((h a).1 (by simp)) with e | e
      · exact e
      · rcases List.mem_cons.1 ((h b).2 (by simp)) with e' | e'
        · exact e'.symm
        · exact (pltV_irr (pltV_trans (b1 a e) (a1 b e'))).elim
    subst e
    congr 1
    refine pw_extV r r' a2 b2 fun x => ⟨fun hx => ?_, fun hx => ?_⟩
    · rcases List.mem_cons.1 ((h x).1 (List.mem_cons_of_mem _ hx)) with e | e
      · subst e; exact (pltV_irr (a1 x hx)).elim
      · exact e
    · rcases List.mem_cons.1 ((h x).2 (List.mem_cons_of_mem _ hx)) with e | e
      · subst e; exact (pltV_irr (b1 x hx)).elim
      · exact e

/-- The places below k, in order. -/
structure Good (ps : List (List M.Cl)) (k : Nat) (L : List Nat) : Prop where
  pw : L.Pairwise (pltV ps)
  mem : ∀ x, x ∈ L ↔ x < k
  len : L.length = k
theorem Good.unique {ps : List (List M.Cl)} {k : Nat} {L L' : List Nat} (h : Good ps k L) (h' : Good ps k L') : L = L' := pw_extV L L' h.pw h'.pw fun x => (h.mem x).trans (h'.mem x).symm
theorem Good.step {ps : List (List M.Cl)} {k at' : Nat} {L : List Nat} (h : Good ps k L) (hat : at' ≤ L.length) (hgt : ∀ j, at' ≤ j → j < L.length → 0 < cmpV ps (L.getD j 0) k) (hst : at' = 0 ∨ ¬ 0 < cmpV ps (L.getD (at' - 1) 0) k) : Good ps (k + 1) (L.take at' ++ [k] ++ L.drop at') := by
  have hL : ∀ j (hj : j < L.length), L[j] = L.getD j 0 := fun j hj => by rw [List.getD_eq_getElem?_getD, List.getElem?_eq_getElem hj]; rfl
  have hlt : ∀ j, j < L.length → L.getD j 0 < k := fun j hj => (h.mem _).1 (by rw [← hL j hj]; exact List.getElem_mem hj)
  have hpw : ∀ i j, i < j → j < L.length → pltV ps (L.getD i 0) (L.getD j 0) := fun i j hij hj => by
    rw [← hL i (by omega), ← hL j hj]
    exact List.pairwise_iff_getElem.1 h.pw i j (by omega) hj hij
  have hA : ∀ a ∈ L.take at', pltV ps a k := fun a ha => by
    obtain ⟨i, hi, e⟩ := List.getElem_of_mem ha
    have hi2 : i < at' := by rw [List.length_take] at hi; omega
    rw [List.getElem_take] at e
    have hi3 : i < L.length := by omega
    rw [hL i hi3] at e
    have h1 : pltV ps (L.getD (at' - 1) 0) k := by
      rcases hst with q | q
      · omega
      · have hk := hlt (at' - 1) (by omega)
        by_cases z : cmpV ps (L.getD (at' - 1) 0) k = 0
        · exact .inr ⟨z, hk⟩
        · exact .inl (by omega)
    rw [← e]
    by_cases q : i = at' - 1
    · rw [q]; exact h1
    · exact pltV_trans (hpw i (at' - 1) (by omega) (by omega)) h1
  have hB : ∀ b ∈ L.drop at', pltV ps k b := fun b hb => by
    obtain ⟨i, hi, e⟩ := List.getElem_of_mem hb
    rw [List.length_drop] at hi
    rw [List.getElem_drop] at e
    have hi3 : at' + i < L.length := by omega
    rw [hL (at' + i) hi3] at e
    rw [← e]
    have := hgt (at' + i) (by omega) hi3
    have := cmpV_neg' ps k (L.getD (at' + i) 0)
    exact .inl (by omega)
  refine ⟨?_, fun x => ?_, ?_⟩
  · rw [List.pairwise_append, List.pairwise_append]
    refine ⟨⟨h.pw.sublist (List.take_sublist _ _), List.pairwise_singleton _ _, fun a ha b hb => ?_⟩, h.pw.sublist (List.drop_sublist _ _), fun a ha b hb => ?_⟩
    · rw [List.mem_singleton.1 hb]; exact hA a ha
    · rcases List.mem_append.1 ha with q | q
      · exact pltV_trans (hA a q) (hB b hb)
      · rw [List.mem_singleton.1 q]; exact hB b hb
  · have hm := h.mem x
    have e : x ∈ L ↔ x ∈ L.take at' ∨ x ∈ L.drop at' := by rw [← List.mem_append, List.take_append_drop]
    simp only [List.mem_append, List.mem_singleton]
    constructor
    · rintro ((q | q) | q)
      · have := hm.1 (e.2 (.inl q)); omega
      · omega
      · have := hm.1 (e.2 (.inr q)); omega
    · intro q
      by_cases z : x = k
      · exact .inl (.inr z)
      · rcases e.1 (hm.2 (by omega)) with q | q
        · exact .inl (.inl q)
        · exact .inr q
  · have := h.len
    simp only [List.length_append, List.length_take, List.length_drop, List.length_cons, List.length_nil]
    omega
def posF (g : Nat → Bool) : Nat → Nat
  | 0 => 0
  | m + 1 => if g m = true then posF g m else m + 1
theorem posF_spec (g : Nat → Bool) : ∀ m, posF g m ≤ m ∧ (∀ j, posF g m ≤ j → j < m → g j = true) ∧ (posF g m = 0 ∨ g (posF g m - 1) = false)
  | 0 => ⟨Nat.le_refl _, fun j _ h => by omega, .inl rfl⟩
  | m + 1 => by
    rw [posF]
    by_cases h : g m = true
    · rw [if_pos h]
      obtain ⟨h1, h2, h3⟩ := posF_spec g m
      refine ⟨by omega, fun j j1 j2 => ?_, h3⟩
      by_cases e : j = m
      · rw [e]; exact h
      · exact h2 j j1 (by omega)
    · rw [if_neg h]
      exact ⟨Nat.le_refl _, fun j j1 j2 => by omega, .inr (by simpa using h)⟩
def placeIn (ps : List (List M.Cl)) (L : List Nat) (k : Nat) : Nat := posF (fun j => decide (0 < cmpV ps (L.getD j 0) k)) L.length
def sortI (ps : List (List M.Cl)) : Nat → List Nat
  | 0 => []
  | k + 1 => (sortI ps k).take (placeIn ps (sortI ps k) k) ++ [k] ++ (sortI ps k).drop (placeIn ps (sortI ps k) k)
theorem good_sortI (ps : List (List M.Cl)) : ∀ k, Good ps k (sortI ps k)
  | 0 => ⟨List.Pairwise.nil, fun x => by simp [sortI], rfl⟩
  | k + 1 => by
    obtain ⟨h1, h2, h3⟩ := posF_spec (fun j => decide (0 < cmpV ps ((sortI ps k).getD j 0) k)) (sortI ps k).length
    refine (good_sortI ps k).step h1 (fun j j1 j2 => of_decide_eq_true (h2 j j1 j2)) ?_
    rcases h3 with h3 | h3
    · exact .inl h3
    · exact .inr (of_decide_eq_false h3)
theorem sum_sortI (ps : List (List M.Cl)) (g : Nat → Nat) : ∀ k, ((sortI ps k).map g).sum = ((List.range k).map g).sum
  | 0 => rfl
  | k + 1 => by
    have ih := sum_sortI ps g k
    have e : ((sortI ps k).map g).sum = (((sortI ps k).take (placeIn ps (sortI ps k) k)).map g).sum + (((sortI ps k).drop (placeIn ps (sortI ps k) k)).map g).sum := by
      rw [← List.sum_append, ← List.map_append, List.take_append_drop]
    rw [sortI, List.range_succ]
    simp only [List.map_append, List.sum_append, List.map_cons, List.map_nil, List.sum_cons, List.sum_nil]
    omega
end St

/-- The lists in order. -/
def sortedP (ps : List (List M.Cl)) : List (List M.Cl) := (St.sortI ps ps.length).map fun x => ps.getD x []
theorem sortedP_length (ps : List (List M.Cl)) : (sortedP ps).length = ps.length := by unfold sortedP; rw [List.length_map]; exact (St.good_sortI ps ps.length).len
theorem sortedP_at {ps : List (List M.Cl)} {j : Nat} (hj : j < (sortedP ps).length) : ∃ i, i < ps.length ∧ (sortedP ps).getD j [] = ps.getD i [] ∧ (St.sortI ps ps.length).getD j 0 = i := by
  have hl := sortedP_length ps
  have hj2 : j < (St.sortI ps ps.length).length := by rw [(St.good_sortI ps ps.length).len]; omega
  refine ⟨(St.sortI ps ps.length)[j], ((St.good_sortI ps ps.length).mem _).1 (List.getElem_mem hj2), ?_, ?_⟩
  · unfold sortedP
    rw [List.getD_eq_getElem?_getD, List.getElem?_map, List.getElem?_eq_getElem hj2]; rfl
  · rw [List.getD_eq_getElem?_getD, List.getElem?_eq_getElem hj2]; rfl
theorem tot_range (ps : List (List M.Cl)) : ((List.range ps.length).map fun x => (ps.getD x []).length).sum = tot ps ps.length := by
  have h : ∀ k, k ≤ ps.length → ((List.range k).map fun x => (ps.getD x []).length).sum = tot ps k := by
    intro k
    induction k with
    | zero => intro _; rw [tot_zero]; rfl
    | succ k ih =>
      intro hk
      rw [List.range_succ, List.map_append, List.sum_append, ih (by omega), tot_succ ps k (by omega)]
      simp
  exact h _ (Nat.le_refl _)
theorem tot_sortedP (ps : List (List M.Cl)) : tot (sortedP ps) (sortedP ps).length = tot ps ps.length := by
  rw [← tot_range ps, ← St.sum_sortI ps (fun x => (ps.getD x []).length) ps.length]
  unfold tot sortedP
  rw [List.take_length, List.map_map]
  rfl
theorem tot_subsS {v : List M.Cl} (hv : M.valueFault v = 0) : tot (subs v 0) (subs v 0).length + 1 ≤ 200 := by
  have hl := (M.fault_zero hv).1
  have hl2 := (M.fault_zero hv).2.1
  obtain ⟨h1, h2, h3, _⟩ := M.places_in hv 0 (by omega)
  have key : ∀ k, k ≤ M.arity v 0 → tot (subs v 0) k + 1 ≤ M.iter v k 1 := by
    intro k
    induction k with
    | zero => intro _; rw [tot_zero]; show 0 + 1 ≤ 1; omega
    | succ k ih =>
      intro hk
      have := ih (by omega)
      have h5 := h1 k (by omega)
      simp only [Nat.zero_add] at h5
      have hg := end_gt hv (a := M.iter v k 1) (by omega)
      rw [M.iter_next, tot_succ _ k (by rw [subs_length]; omega)]
      have e : (subs v 0).getD k [] = part v (M.iter v k 1) := by simp [subs, M.places, List.getD_eq_getElem?_getD, show k < M.arity v 0 by omega]
      rw [e, part_len hv (by omega)]
      omega
  have := key (M.arity v 0) (Nat.le_refl _)
  simp only [Nat.zero_add] at h2
  rw [h2] at this
  rw [subs_length]
  omega
theorem sorted_facts {v : List M.Cl} (hv : M.valueFault v = 0) (hok : ∀ c ∈ v, c.ok) : (sortedP (subs v 0)).length ≤ 200 ∧ (∀ j, j < (sortedP (subs v 0)).length → M.valueFault ((sortedP (subs v 0)).getD j []) = 0) ∧ OkS (sortedP (subs v 0)) := by
  have hall := subs_all hv hok
  refine ⟨by rw [sortedP_length]; exact hall.1, fun j hj => ?_, fun j hj => ?_⟩
  · obtain ⟨i, hi, e, _⟩ := sortedP_at hj
    rw [e]; exact hall.2.1 i hi
  · obtain ⟨i, hi, e, _⟩ := sortedP_at hj
    rw [e]; exact hall.2.2.1 i hi
theorem sorted_valid {v : List M.Cl} (hv : M.valueFault v = 0) (hok : ∀ c ∈ v, c.ok) : M.valueFault (arrV (sortedP (subs v 0))) = 0 := by
  have hall := subs_all hv hok
  have hf := sorted_facts hv hok
  have ht := tot_subsS hv
  refine arr_valid hf.2.1 (fun j hj => ?_) ?_ hf.1
  · obtain ⟨i, hi, e, _⟩ := sortedP_at hj
    rw [e]
    obtain ⟨d, h1, h2⟩ := subs_laid hv hi
    exact laid_of (hall.2.1 i hi) h1 h2
  · rw [tot_sortedP]; exact ht
def sortIn (v : List M.Cl) : Int × List M.Cl := if (v.getD 0 M.zero).kind = 5 then (0, arrV (sortedP (subs v 0))) else (6, [])
def sortOut (v : List M.Cl) : Int × List M.Cl := if M.valueFault v ≠ 0 then (M.valueFault v, []) else sortIn v
theorem sort_bad {v : List M.Cl} (h : M.valueFault v ≠ 0) : sortOut v = (M.valueFault v, []) := if_pos h
theorem sort_ok {v : List M.Cl} (h : M.valueFault v = 0) : sortOut v = sortIn v := by unfold sortOut; rw [if_neg (by simp [h])]
theorem sort_5 {v : List M.Cl} (h : (v.getD 0 M.zero).kind = 5) : sortIn v = (0, arrV (sortedP (subs v 0))) := if_pos h
theorem sort_no {v : List M.Cl} (h : (v.getD 0 M.zero).kind ≠ 5) : sortIn v = (6, []) := if_neg h

end Go.Proofs.Ytmeofjefhkdbgaa
