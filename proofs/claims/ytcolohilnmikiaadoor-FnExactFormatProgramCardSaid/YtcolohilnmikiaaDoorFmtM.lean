/-
  The text of a program, plainly; no text is too long.
-/
import Derived.Test.YtcolohilnmikiaaDoorTreP
import Derived.Test.YtcolohilnmikiaaDoorQuoT
import Derived.Lib.ItoaNum
import Derived.Lib.ItoaLen
import Derived.Lib.Strings
namespace Go.Proofs.YtcolohilnmikiaaDoor
open Go.RowKit
set_option linter.unusedVariables false
set_option linter.unusedSimpArgs false

namespace Tr
def qt (s : ByteArray) : ByteArray := J.bytes (J.quote s)
def jointsT : List (ByteArray × Int × Int) := [(⟨#[124]⟩, 5, 0), (⟨#[44]⟩, 6, 0), (⟨#[47, 47]⟩, 7, 0), (⟨#[111, 114]⟩, 8, 0), (⟨#[97, 110, 100]⟩, 9, 0), (⟨#[43]⟩, 10, 1), (⟨#[45]⟩, 10, 2), (⟨#[42]⟩, 10, 3), (⟨#[61, 61]⟩, 10, 4), (⟨#[33, 61]⟩, 10, 5), (⟨#[60]⟩, 10, 6), (⟨#[60, 61]⟩, 10, 7), (⟨#[62]⟩, 10, 8), (⟨#[62, 61]⟩, 10, 9), (⟨#[47]⟩, 10, 10), (⟨#[37]⟩, 10, 11)]
def jmatch (op num : Int) (j : ByteArray × Int × Int) : Bool := j.2.1 == op && j.2.2 == num
def jsign (op num : Int) : Option ByteArray := (jointsT.find? (jmatch op num)).map (·.1)
def word3 (n : Int) : ByteArray := if n = 0 then ⟨#[110, 117, 108, 108]⟩ else if n = 1 then ⟨#[102, 97, 108, 115, 101]⟩ else ⟨#[116, 114, 117, 101]⟩
def leafT (n : Nd) : ByteArray :=
  if n.op = 1 then ⟨#[46]⟩ else if n.op = 24 then ⟨#[46, 46]⟩ else if n.op = 15 then ⟨#[91, 93]⟩ else if n.op = 16 then ⟨#[123, 125]⟩
  else if n.op = 2 then ⟨(Lib.decDigits n.num.toNat).toArray⟩ else if n.op = 3 then qt n.text else if n.op = 4 then word3 n.num
  else if n.op = 21 then ⟨#[36]⟩ ++ n.text else n.text
def memT (n : Nd) (o b : ByteArray) : ByteArray := ((((if o.toList = [123] then o else o ++ ⟨#[44]⟩) ++ qt n.text) ++ ⟨#[58]⟩) ++ b) ++ ⟨#[125]⟩
def trimB (a : ByteArray) : ByteArray := ⟨(Lib.trimSuffix a.data.toList [125]).toArray⟩
def joinT (a s b : ByteArray) : ByteArray := (((((⟨#[40]⟩ : ByteArray) ++ a) ++ ⟨#[32]⟩) ++ s) ++ ⟨#[32]⟩) ++ b ++ ⟨#[41]⟩
def nodeT (n : Nd) (a b c : ByteArray) : ByteArray :=
  if n.op = 11 then ((a ++ ⟨#[91]⟩) ++ b) ++ ⟨#[93]⟩
  else if n.op = 12 then a ++ ⟨#[91, 93]⟩
  else if n.op = 13 then (⟨#[40, 116, 114, 121, 32]⟩ ++ a) ++ ⟨#[41]⟩
  else if n.op = 14 then (⟨#[91]⟩ ++ a) ++ ⟨#[93]⟩
  else if n.op = 17 then memT n (trimB a) b
  else if n.op = 18 then (((((⟨#[40, 105, 102, 32]⟩ ++ a) ++ ⟨#[32, 116, 104, 101, 110, 32]⟩) ++ b) ++ ⟨#[32, 101, 108, 115, 101, 32]⟩) ++ c) ++ ⟨#[32, 101, 110, 100, 41]⟩
  else if n.op = 19 then (((((((⟨#[40, 114, 101, 100, 117, 99, 101, 32]⟩ ++ a) ++ ⟨#[32, 97, 115, 32, 36]⟩) ++ n.text) ++ ⟨#[32, 40]⟩) ++ b) ++ ⟨#[32, 59, 32]⟩) ++ c) ++ ⟨#[41, 41]⟩
  else if n.op = 20 then (((((⟨#[40]⟩ ++ a) ++ ⟨#[32, 97, 115, 32, 36]⟩) ++ n.text) ++ ⟨#[32, 124, 32]⟩) ++ b) ++ ⟨#[41]⟩
  else if n.op = 23 then ((n.text ++ ⟨#[40]⟩) ++ a) ++ ⟨#[41]⟩
  else match jsign n.op n.num with
    | some s => joinT a s b
    | none => leafT n
def keep (p : Bool) (a : ByteArray) : ByteArray := if p then a else ByteArray.empty
theorem jsign_none {op num : Int} (h : op < 5 ∨ 10 < op) : jsign op num = none := by
  have e : ∀ k : Int, 5 ≤ k → k ≤ 10 → (k == op) = false := fun k h1 h2 => beq_eq_false_iff_ne.2 (by omega)
  unfold jsign jointsT
  simp [jmatch, List.find?, e 5 (by omega) (by omega), e 6 (by omega) (by omega), e 7 (by omega) (by omega), e 8 (by omega) (by omega), e 9 (by omega) (by omega), e 10 (by omega) (by omega)]
/-- What is not named plays no part. -/
theorem nodeT_irr (n : Nd) (a b c : ByteArray) (h1 : 1 ≤ n.op) (h2 : n.op ≤ 24) : nodeT n a b c = nodeT n (keep (decide (0 < kids n.op)) a) (keep (decide (1 < kids n.op)) b) (keep (decide (2 < kids n.op)) c) := by
  obtain ⟨op, x, y, z, num, text⟩ := n
  simp only at h1 h2
  have hh : op = 1 ∨ op = 2 ∨ op = 3 ∨ op = 4 ∨ op = 5 ∨ op = 6 ∨ op = 7 ∨ op = 8 ∨ op = 9 ∨ op = 10 ∨ op = 11 ∨ op = 12 ∨ op = 13 ∨ op = 14 ∨ op = 15 ∨ op = 16 ∨ op = 17 ∨ op = 18 ∨ op = 19 ∨ op = 20 ∨ op = 21 ∨ op = 22 ∨ op = 23 ∨ op = 24 := by omega
  rcases hh with rfl | rfl | rfl | rfl | rfl | rfl | rfl | rfl | rfl | rfl | rfl | rfl | rfl | rfl | rfl | rfl | rfl | rfl | rfl | rfl | rfl | rfl | rfl | rfl
  all_goals simp [nodeT, kids, keep, jsign_none]
/-- The text of a node. -/
def txtF : Nat → List Nd → Nat → ByteArray
  | 0, _, _ => ByteArray.empty
  | f + 1, l, i => nodeT (l.getD i Nd.zero) (keep (decide (0 < kids (l.getD i Nd.zero).op)) (txtF f l (l.getD i Nd.zero).a.toNat)) (keep (decide (1 < kids (l.getD i Nd.zero).op)) (txtF f l (l.getD i Nd.zero).b.toNat)) (keep (decide (2 < kids (l.getD i Nd.zero).op)) (txtF f l (l.getD i Nd.zero).c.toNat))
theorem keep_congr {p : Bool} {a b : ByteArray} (h : p = true → a = b) : keep p a = keep p b := by
  cases p with
  | false => rfl
  | true => rw [h rfl]
theorem kid_fine' {l : List Nd} (hf : Fine l) (i : Nat) (hi : i < l.length) : (0 < kids (l.getD i Nd.zero).op → 0 ≤ (l.getD i Nd.zero).a ∧ (l.getD i Nd.zero).a < i) ∧ (1 < kids (l.getD i Nd.zero).op → 0 ≤ (l.getD i Nd.zero).b ∧ (l.getD i Nd.zero).b < i) ∧ (2 < kids (l.getD i Nd.zero).op → 0 ≤ (l.getD i Nd.zero).c ∧ (l.getD i Nd.zero).c < i) := by
  have h : ∀ k, k < kids (l.getD i Nd.zero).op → 0 ≤ kidAt (l.getD i Nd.zero) k ∧ kidAt (l.getD i Nd.zero) k < i := fun k hk => hf i hi _ (by rw [links_kidAt]; exact List.mem_map.2 ⟨k, List.mem_range.2 hk, rfl⟩)
  exact ⟨fun hk => h 0 hk, fun hk => h 1 hk, fun hk => h 2 hk⟩
theorem txtF_eq {l : List Nd} (hf : Fine l) (f : Nat) : ∀ g i, i < l.length → i < f → i < g → txtF f l i = txtF g l i := by
  induction f with
  | zero => intro g i _ h; omega
  | succ f ih =>
    intro g i hi h1 h2
    obtain ⟨g, rfl⟩ : ∃ k, g = k + 1 := ⟨g - 1, by omega⟩
    obtain ⟨ka, kb, kc⟩ := kid_fine' hf i hi
    rw [txtF, txtF]
    congr 1
    · exact keep_congr fun h => by have := ka (by simpa using h); exact ih g _ (by omega) (by omega) (by omega)
    · exact keep_congr fun h => by have := kb (by simpa using h); exact ih g _ (by omega) (by omega) (by omega)
    · exact keep_congr fun h => by have := kc (by simpa using h); exact ih g _ (by omega) (by omega) (by omega)
def txt (l : List Nd) (i : Nat) : ByteArray := txtF (i + 1) l i
/-- The text of a node by those of what it names; whatever stands for what it doesn't name. -/
theorem txt_eq {l : List Nd} (hf : Fine l) (i : Nat) (hi : i < l.length) (h1 : 1 ≤ (l.getD i Nd.zero).op) (h2 : (l.getD i Nd.zero).op ≤ 24) (a b c : ByteArray) (ha : 0 < kids (l.getD i Nd.zero).op → a = txt l (l.getD i Nd.zero).a.toNat) (hb : 1 < kids (l.getD i Nd.zero).op → b = txt l (l.getD i Nd.zero).b.toNat) (hc : 2 < kids (l.getD i Nd.zero).op → c = txt l (l.getD i Nd.zero).c.toNat) : nodeT (l.getD i Nd.zero) a b c = txt l i := by
  unfold txt
  rw [txtF, nodeT_irr _ a b c h1 h2]
  obtain ⟨ka, kb, kc⟩ := kid_fine' hf i hi
  congr 1
  · exact keep_congr fun h => by have := ka (by simpa using h); rw [ha (by simpa using h)]; exact txtF_eq hf _ _ _ (by omega) (by omega) (by omega)
  · exact keep_congr fun h => by have := kb (by simpa using h); rw [hb (by simpa using h)]; exact txtF_eq hf _ _ _ (by omega) (by omega) (by omega)
  · exact keep_congr fun h => by have := kc (by simpa using h); rw [hc (by simpa using h)]; exact txtF_eq hf _ _ _ (by omega) (by omega) (by omega)
def fmtOut (l : List Nd) : Int × ByteArray := if fault l ≠ 0 then (fault l, ByteArray.empty) else (0, txt l (l.length - 1))
end Tr
namespace Tr
theorem sz_mk (x : Array UInt8) : (⟨x⟩ : ByteArray).size = x.size := rfl
theorem jsign_size {op num : Int} {s : ByteArray} (h : jsign op num = some s) : s.size ≤ 3 := by
  unfold jsign at h
  obtain ⟨j, hj, rfl⟩ := Option.map_eq_some_iff.1 h
  have hm := List.mem_of_find?_eq_some hj
  have all : ∀ j ∈ jointsT, j.1.size ≤ 3 := by decide
  exact all j hm
theorem leafT_size (n : Nd) (h : n.text.size ≤ 60) (hq : (qt n.text).size ≤ 122) (hd : (Lib.decDigits n.num.toNat).length ≤ 21) : (leafT n).size ≤ 122 := by
  unfold leafT
  split; · exact (by decide : (⟨#[46]⟩ : ByteArray).size ≤ 122)
  split; · exact (by decide : (⟨#[46, 46]⟩ : ByteArray).size ≤ 122)
  split; · exact (by decide : (⟨#[91, 93]⟩ : ByteArray).size ≤ 122)
  split; · exact (by decide : (⟨#[123, 125]⟩ : ByteArray).size ≤ 122)
  split; · rw [sz_mk]; simp; omega
  split; · exact hq
  split
  · unfold word3
    split
    · decide
    · split <;> decide
  split
  · rw [ByteArray.size_append, sz_mk]; simp; omega
  · omega
theorem trimB_size (a : ByteArray) : (trimB a).size ≤ a.size := by
  unfold trimB Lib.trimSuffix
  rw [sz_mk]
  split
  · first | (simp; done) | (simp; exact Nat.sub_le _ _)
  · first | (simp; done) | (simp; exact Nat.le_refl _)
theorem nodeT_size (n : Nd) (a b c : ByteArray) (h : n.text.size ≤ 60) (hq : (qt n.text).size ≤ 122) (hd : (Lib.decDigits n.num.toNat).length ≤ 21) : (nodeT n a b c).size ≤ a.size + b.size + c.size + 200 := by
  unfold nodeT
  split; · simp only [ByteArray.size_append, sz_mk]; simp; omega
  split; · simp only [ByteArray.size_append, sz_mk]; simp; omega
  split; · simp only [ByteArray.size_append, sz_mk]; simp; omega
  split; · simp only [ByteArray.size_append, sz_mk]; simp; omega
  split
  · unfold memT
    have he := trimB_size a
    split
    · simp only [ByteArray.size_append, sz_mk]; simp; omega
    · simp only [ByteArray.size_append, sz_mk]; simp; omega
  split; · simp only [ByteArray.size_append, sz_mk]; simp; omega
  split; · simp only [ByteArray.size_append, sz_mk]; simp; omega
  split; · simp only [ByteArray.size_append, sz_mk]; simp; omega
  split; · simp only [ByteArray.size_append, sz_mk]; simp; omega
  split
  · rename_i s hs
    have := jsign_size hs
    unfold joinT
    simp only [ByteArray.size_append, sz_mk]; simp; omega
  · have := leafT_size n h hq hd; omega
theorem flat_ge {α β : Type} (g : α → List β) (ls : List α) (y : α) (hy : y ∈ ls) : (g y).length ≤ (ls.flatMap g).length := by
  induction ls with
  | nil => simp at hy
  | cons x r ih =>
    rw [List.flatMap_cons, List.length_append]
    rcases List.mem_cons.1 hy with rfl | hy
    · omega
    · have := ih hy; omega
/-- How many nodes are below one. -/
theorem ord_len {l : List Nd} (hf : Fine l) (i : Nat) : i < l.length → ∀ x ∈ ord l i, (ord l x.toNat).length ≤ (ord l i).length := by
  induction i using Nat.strongRecOn with
  | ind i ih =>
    intro hi x hx
    rw [ord_eq hf i hi] at hx
    rcases List.mem_append.1 hx with hx | hx
    · obtain ⟨y, hy, hxy⟩ := List.mem_flatMap.1 hx
      have hb := hf i hi y hy
      have h1 := ih y.toNat (by omega) (by omega) x hxy
      have h2 : (ord l y.toNat).length ≤ ((links (l.getD i Nd.zero)).flatMap (fun x => ord l x.toNat)).length := by
        exact flat_ge (fun x : Int => ord l x.toNat) _ y hy
      rw [ord_eq hf i hi, List.length_append]
      omega
    · simp at hx; subst hx; simp
theorem ord_small {l : List Nd} (hf : Fine l) (h0 : 0 < l.length) (ho : inOrder l = true) (i : Nat) (hi : i < l.length) : (ord l i).length ≤ l.length := by
  have he := (inOrder_iff hf h0).1 ho
  have hm : (i : Int) ∈ ord l (l.length - 1) := by
    rw [he]; exact List.mem_of_getElem? (i := i) (by rw [up_get 0 _ i hi]; simp)
  have := ord_len hf (l.length - 1) (by omega) _ hm
  rw [he, up_length] at this
  simpa using this
theorem keep_size (p : Bool) (a : ByteArray) : (keep p a).size ≤ a.size := by cases p <;> simp [keep]
theorem txtF_size {l : List Nd} (hf : Fine l) (hs : ∀ i, i < l.length → (l.getD i Nd.zero).text.size ≤ 60 ∧ (qt (l.getD i Nd.zero).text).size ≤ 122 ∧ (Lib.decDigits (l.getD i Nd.zero).num.toNat).length ≤ 21) (f : Nat) : ∀ i, i < l.length → (txtF f l i).size ≤ 200 * (ordF f l i).length := by
  induction f with
  | zero => intro i _; simp [txtF, ordF]
  | succ f ih =>
    intro i hi
    obtain ⟨s1, s2, s3⟩ := hs i hi
    obtain ⟨ka, kb, kc⟩ := kid_fine' hf i hi
    rw [txtF, ordF, List.length_append]
    refine Nat.le_trans (nodeT_size _ _ _ _ s1 s2 s3) ?_
    have hk := kids_le (l.getD i Nd.zero).op
    unfold links
    match e : kids (l.getD i Nd.zero).op, hk with
    | 0, _ => simp [keep]
    | 1, _ =>
      have q := ka (by omega)
      have := ih (l.getD i Nd.zero).a.toNat (by omega)
      simp [keep] at this ⊢; omega
    | 2, _ =>
      have q1 := ka (by omega)
      have q2 := kb (by omega)
      have t1 := ih (l.getD i Nd.zero).a.toNat (by omega)
      have t2 := ih (l.getD i Nd.zero).b.toNat (by omega)
      simp [keep] at t1 t2 ⊢; omega
    | 3, _ =>
      have q1 := ka (by omega)
      have q2 := kb (by omega)
      have q3 := kc (by omega)
      have t1 := ih (l.getD i Nd.zero).a.toNat (by omega)
      have t2 := ih (l.getD i Nd.zero).b.toNat (by omega)
      have t3 := ih (l.getD i Nd.zero).c.toNat (by omega)
      simp [keep] at t1 t2 t3 ⊢; omega
end Tr
namespace Tr
theorem find_first (p : ByteArray × Int × Int → Bool) (l : List (ByteArray × Int × Int)) (d : ByteArray × Int × Int) (k : Nat) (hk : k < l.length) (h : ∀ j, j < k → p (l.getD j d) = false) (ht : p (l.getD k d) = true) : l.find? p = some (l.getD k d) := by
  induction l generalizing k with
  | nil => simp at hk
  | cons x r ih =>
    cases k with
    | zero => simp at ht ⊢; simp [List.find?, ht]
    | succ k =>
      have h0 := h 0 (by omega)
      simp only [List.getD_cons_zero] at h0
      simp only [List.getD_cons_succ] at ht ⊢
      rw [List.find?_cons, h0]
      exact ih k (by simpa using hk) (fun j hj => by have := h (j + 1) (by omega); simpa only [List.getD_cons_succ] using this) ht
theorem find_none (p : ByteArray × Int × Int → Bool) (l : List (ByteArray × Int × Int)) (d : ByteArray × Int × Int) (h : ∀ j, j < l.length → p (l.getD j d) = false) : l.find? p = none := by
  rw [List.find?_eq_none]
  intro x hx
  obtain ⟨j, hj, rfl⟩ := List.getElem_of_mem hx
  have := h j hj
  rw [List.getD_eq_getElem?_getD, List.getElem?_eq_getElem hj] at this
  simpa using this
def jd : ByteArray × Int × Int := (ByteArray.empty, 0, 0)
theorem jsign_first {op num : Int} {k : Nat} (hk : k < 16) (h : ∀ j, j < k → jmatch op num (jointsT.getD j jd) = false) (ht : jmatch op num (jointsT.getD k jd) = true) : jsign op num = some (jointsT.getD k jd).1 := by
  unfold jsign; rw [find_first _ jointsT jd k hk h ht]; rfl
theorem jsign_all {op num : Int} (h : ∀ j, j < 16 → jmatch op num (jointsT.getD j jd) = false) : jsign op num = none := by
  unfold jsign; rw [find_none _ jointsT jd h]; rfl
theorem nodeT_rest {n : Nd} {a b c : ByteArray} (h : n.op ≠ 11 ∧ n.op ≠ 12 ∧ n.op ≠ 13 ∧ n.op ≠ 14 ∧ n.op ≠ 17 ∧ n.op ≠ 18 ∧ n.op ≠ 19 ∧ n.op ≠ 20 ∧ n.op ≠ 23) : nodeT n a b c = match jsign n.op n.num with | some s => joinT a s b | none => leafT n := by
  unfold nodeT
  rw [if_neg h.1, if_neg h.2.1, if_neg h.2.2.1, if_neg h.2.2.2.1, if_neg h.2.2.2.2.1, if_neg h.2.2.2.2.2.1, if_neg h.2.2.2.2.2.2.1, if_neg h.2.2.2.2.2.2.2.1, if_neg h.2.2.2.2.2.2.2.2]
def jvals : List Value := jointsT.flatMap fun j => [.string j.1, .int .i64 j.2.1, .int .i64 j.2.2]
theorem jvals_get (k : Nat) (hk : k < 16) : jvals[k * 3]? = some (.string (jointsT.getD k jd).1) ∧ jvals[k * 3 + 1]? = some (.int .i64 (jointsT.getD k jd).2.1) ∧ jvals[k * 3 + 2]? = some (.int .i64 (jointsT.getD k jd).2.2) := by
  have hh : k = 0 ∨ k = 1 ∨ k = 2 ∨ k = 3 ∨ k = 4 ∨ k = 5 ∨ k = 6 ∨ k = 7 ∨ k = 8 ∨ k = 9 ∨ k = 10 ∨ k = 11 ∨ k = 12 ∨ k = 13 ∨ k = 14 ∨ k = 15 := by omega
  rcases hh with rfl | rfl | rfl | rfl | rfl | rfl | rfl | rfl | rfl | rfl | rfl | rfl | rfl | rfl | rfl | rfl
  all_goals exact ⟨rfl, rfl, rfl⟩
end Tr

end Go.Proofs.YtcolohilnmikiaaDoor
