/-
  spec.l4List, spec.DrawJoinTokens: a list of tokens, whatever they are.
-/
import Derived.Test.YtabpjknbdahddaaGreatDoorDrwU
import Derived.Test.YtabpjknbdahddaaGreatDoorTkL
namespace Go.Proofs.YtabpjknbdahddaaGreatDoor
open Go.RowKit
set_option linter.unusedVariables false
set_option linter.unusedSimpArgs false


def tkFlat (l : List Tk) : List Value := (l.map Tk.vals).flatten
theorem tkFlat_snoc (l : List Tk) (t : Tk) : tkFlat l ++ t.vals = tkFlat (l ++ [t]) := by simp [tkFlat]
theorem tk_one (w : World) (t : Tk) : ∀ j x, t.vals[j]? = some x → (w.alloc (.cells #[.int .i64 t.kind, .int .i64 t.at_, .int .i64 t.num, .string t.text] 33)).cell? ((⟨w.heap.size, 0, none⟩ : Addr).add j) = some x := by
  intro j x hu
  have O : Own (w.alloc (.cells #[.int .i64 t.kind, .int .i64 t.at_, .int .i64 t.num, .string t.text] 33)) w.heap.size 33 t.vals := ⟨_, heap_alloc_new _ _, rfl⟩
  have e : ((⟨w.heap.size, 0, none⟩ : Addr).add j) = ⟨w.heap.size, j, none⟩ := by simp [Addr.add]; try (intro h; exact h.symm)
  rw [e]
  exact (O.cell j).trans hu
theorem tk_plain (t : Tk) : ∀ u ∈ t.vals, u.oneCell' = true := by
  intro u hu
  simp only [Tk.vals, List.mem_cons, List.not_mem_nil, or_false] at hu
  rcases hu with rfl | rfl | rfl | rfl <;> rfl
/-- What the loops of l4List hold. -/
structure Ll (w wr : World) (bs : Nat) (a : Option Addr) (len cap at_ : Nat) (v : Value) (l : List Tk) : Prop where
  src : Src wr bs a len cap at_
  tch : Tch w.heap.size bs w wr
  row : wr.ownsRow w.heap.size 33 4 v l.length (tkFlat l)
  small : ∀ t ∈ l, t.text.size ≤ 100
  bs : bs < w.heap.size
theorem Ll.go {w wr w2 : World} {bs len cap at_ at2 : Nat} {a : Option Addr} {v : Value} {l : List Tk} (h : Ll w wr bs a len cap at_ v l) (hs : Src w2 bs a len cap at2) (ht : Tch wr.heap.size bs wr w2) : Ll w w2 bs a len cap at2 v l :=
  ⟨hs, h.tch.trans (ht.mono h.tch.size), by
    obtain ⟨h0, h1 | ⟨g, c, cur, h2, hg, hh, rest⟩⟩ := h.row
    · exact ⟨h0, .inl h1⟩
    · exact ⟨h0, .inr ⟨g, c, cur, h2, hg, (ht.block g (Array.getElem?_eq_some_iff.1 hh).1 (by have := h.bs; omega)).trans hh, rest⟩⟩, h.small, h.bs⟩
theorem Ll.nil {w wr : World} {bs len cap at_ : Nat} {a : Option Addr} {v : Value} {l : List Tk} (h : Ll w wr bs a len cap at_ v l) : Ll w wr bs a len cap at_ (.slice none 0 0) [] := ⟨h.src, h.tch, World.ownsRow_nil _ _ _ _, fun t ht => by simp at ht, h.bs⟩
theorem Ll.put {w wr w3 : World} {bs len cap at_ : Nat} {a : Option Addr} {v v' : Value} {l : List Tk} {o : Obj} {t : Tk} (h : Ll w wr bs a len cap at_ v l) (ht : t.text.size ≤ 100) (hg : (wr.alloc o).grownBy w3 v.ownBlock) (ho : w3.ownsRow w.heap.size 33 4 v' (l.length + 1) (tkFlat l ++ t.vals)) : Ll w w3 bs a len cap at_ v' (l ++ [t]) := by
  have hb := h.bs
  have hbase : ∀ k, v.ownBlock = some k → w.heap.size ≤ k := by
    obtain ⟨_, ⟨h1, _⟩ | ⟨g, c, cur, h2, hg, _⟩⟩ := h.row
    · intro k hk; rw [h1] at hk; simp [Value.ownBlock] at hk
    · intro k hk; rw [h2] at hk; simp only [Value.ownBlock, Option.some.injEq] at hk; omega
  have hlt := h.src.own.lt
  have kp : ∀ k, k < w.heap.size → w3.heap[k]? = wr.heap[k]? := fun k hk => by
    have := h.tch.size
    rw [hg.block k (by simp; omega) (fun e => by have := hbase k e.symm; omega)]
    exact Below.heap_alloc _ _ _ (by omega)
  refine ⟨h.src.keep fun k hk => kp k (by omega), ⟨hg.os.trans h.tch.os, hg.tape.trans h.tch.tape, hg.output.trans h.tch.output, by have h1 := hg.size; rw [World.size_alloc] at h1; have := h.tch.size; omega, fun k hk hn => (kp k hk).trans (h.tch.block k hk hn)⟩, ?_, fun u hu => ?_, hb⟩
  · rw [← tkFlat_snoc]; simpa using ho
  · rcases List.mem_append.1 hu with hu | hu
    · exact h.small u hu
    · rw [List.mem_singleton] at hu; subst hu; exact ht

/-- What l4List answers. -/
def ListSaid (w : World) (bs : Nat) (e : Ending) (w' : World) : Prop := ∃ (v : Value) (l : List Tk), e = .returned v ∧ w'.ownsRow w.heap.size 33 4 v l.length (tkFlat l) ∧ l.length ≤ 302 ∧ (∀ t ∈ l, t.text.size ≤ 100) ∧ Tch w.heap.size bs w w'
set_option maxRecDepth 100000 in
set_option maxHeartbeats 8000000 in
theorem l4List_any (bs len cap at_ : Nat) (a : Option Addr) (w : World) (h : Src w bs a len cap at_) (hat : at_ ≤ 1000) :
    Calls Tryz.prog 15 #[.pointer (some ⟨bs, 0, none⟩)] w (ListSaid w bs) := by
  obtain ⟨i0, hi0, hz0, hz1, hz2⟩ := info_parts Tk.info
  have H0 := hide (show Ll w (w.alloc (.cells #[] 33)) bs a len cap at_ (.slice (some ⟨w.heap.size, 0, none⟩) 0 0) [] from ⟨h.alloc _, Tch.of_below' ((Below.refl _ _).alloc (Nat.le_refl _) _), ⟨rfl, .inr ⟨w.heap.size, 0, #[], rfl, Nat.le_refl _, heap_alloc_new _ _, Nat.le_refl _, by simp [maxLen], rfl, rfl⟩⟩, fun t ht => by simp at ht, h.lt⟩)
  clear h
  go_enter Tryz.func15, Tryz.ntmps15
  go_wp2_with fail
  refine (l1Next_any 9 bs len cap at_ a _ (unhide H0).src (by decide) (by omega)).mono ?_
  rintro e w1 ⟨r1, rfl, hr1, S1, T1⟩
  have hr1' : r1 < 9 := by have := hr1 (by decide); omega
  have H1 := hide ((unhide H0).go S1 T1)
  clear H0 S1 T1 hr1
  go_wp2_with fail
  go_loopg [3, 4] r1 (fun gh s3 s4 wr => ∃ (k at2 : Nat) (l : List Tk), Hid (gh = k) ∧ s4 = .int .i64 (k : Int) ∧ k ≤ 8 ∧ l.length + k ≤ 8 ∧ at2 + 10 * k ≤ 1090 ∧ Hid (Ll w wr bs a len cap at2 s3 l))
  case atStart => exact ⟨r1, at_ + 1, [], rfl, rfl, by omega, by simp; omega, by omega, unhide H1⟩
  case round =>
    obtain ⟨k, at2, l, hg, rfl, hk8, hlk, hak, HL⟩ := hrel
    clear H1
    by_cases hk : 0 < k
    · have hkz : (0 : Int) < (k : Int) := by omega
      go_wp2_with fail
      refine (l4Draw_any bs len cap at2 a _ (unhide HL).src (by omega)).mono ?_
      rintro e w2 ⟨t, at3, rfl, hts, hat3, S2, T2⟩
      have H2 := hide ((unhide HL).go S2 T2)
      clear HL S2 T2
      have hown' := hide (fun o => World.ownsRow.alloc (unhide H2).row o)
      have hone := hide (tk_one w2 t)
      have honep := hide (tk_plain t)
      have hszw := (unhide H2).tch.size
      have HP := hide (fun (W : World) v' o (hg : (w2.alloc o).grownBy W u3.ownBlock) ho => (unhide H2).put (v' := v') (w3 := W) (t := t) hts hg ho)
      have hb63 : l.length + 1 ≤ maxLen := by unfold maxLen; omega
      have hby : (l.length + 1) * 40 ≤ 140737488355328 := by omega
      clear H2
      go_wp2_with (at_builtin; refine wpList_append_own _ rfl (.tmp 13) (.tmp 16) 24 rfl w.heap.size 33 i0 _ 4 40 Tryz.underlying24 hi0 hz0 hz1 hz2 rfl (by decide) _ l.length _ rfl ((unhide hown') _) ⟨w2.heap.size, 0, none⟩ 1 1 t.vals rfl rfl (unhide hone) (unhide honep) hb63 hby (by simp; omega) ?_)
      intro v7 w7 ho7 hg7 _
      have H7 := hide ((unhide HP) w7 v7 _ hg7 ho7)
      clear ho7 hg7 HP hown' hone honep
      have hk1 : IntKind.i64.wrap ((k : Int) - 1) = (((k - 1 : Nat)) : Int) := by rw [IntWalk.i64_in _ ⟨by omega, by omega⟩]; omega
      go_wp2_with fail
      go_roundg (k - 1)
      case rel => exact ⟨k - 1, at3, _, rfl, by first | rfl | (congr 1; omega), by omega, by simp; omega, by omega, unhide H7⟩
      case measure => have := hg.out; omega
    · have hkz : ¬ (0 : Int) < (k : Int) := by omega
      go_wp2_with fail
      refine (l1Chance_any 60 bs len cap at2 a _ (unhide HL).src (by decide) (by omega)).mono ?_
      rintro e w2 ⟨⟨r, rfl⟩, S2, T2⟩
      have H2 := hide ((unhide HL).go S2 T2)
      clear HL S2 T2
      cases r with
      | false =>
        go_wp2_with fail
        go_ret
        exact ⟨_, l, rfl, (unhide H2).row, by omega, (unhide H2).small, (unhide H2).tch⟩
      | true =>
        have H3 := hide ((unhide H2).nil)
        clear H2
        go_wp2_with fail
        go_loopg [3, 5] 302 (fun gh s3 s5 wr => ∃ (k at2 : Nat) (l : List Tk), Hid (gh = 302 - k) ∧ s5 = .int .i64 (k : Int) ∧ k ≤ 301 ∧ l.length = k ∧ at2 ≤ 2000 + k ∧ Hid (Ll w wr bs a len cap at2 s3 l))
        case atStart => exact ⟨0, at2 + 1, [], rfl, rfl, by omega, rfl, by omega, unhide H3⟩
        case round =>
          obtain ⟨k, at4, l, hg, rfl, hk301, hlk, hak, HL⟩ := hrel
          have HLK := hide hlk
          clear H3 hlk
          go_wp2_with fail
          refine (l1Next_any 2 bs len cap at4 a _ (unhide HL).src (by decide) (by omega)).mono ?_
          rintro e w3 ⟨r3, rfl, hr3, S3, T3⟩
          have hr3' : r3 < 2 := by have := hr3 (by decide); omega
          have H4 := hide ((unhide HL).go S3 T3)
          clear HL S3 T3 hr3
          by_cases hlt : k < 300 + r3
          · have hltz : (k : Int) < 300 + (r3 : Int) := by omega
            obtain ⟨t, ht⟩ : ∃ t : Tk, t = ⟨6, 0, 0, ⟨#[46]⟩⟩ := ⟨_, rfl⟩
            have hts : (⟨6, 0, 0, ⟨#[46]⟩⟩ : Tk).text.size ≤ 100 := by show (⟨#[46]⟩ : ByteArray).size ≤ 100; decide
            have hll : l.length ≤ 301 := by have := unhide HLK; omega
            clear ht
            have hown' := hide (fun o => World.ownsRow.alloc (unhide H4).row o)
            have hone := hide (tk_one w3 (⟨6, 0, 0, ⟨#[46]⟩⟩ : Tk))
            have honep := hide (tk_plain (⟨6, 0, 0, ⟨#[46]⟩⟩ : Tk))
            have hszw := (unhide H4).tch.size
            have HP := hide (fun (W : World) v' o (hg : (w3.alloc o).grownBy W u3.ownBlock) ho => (unhide H4).put (v' := v') (w3 := W) (t := (⟨6, 0, 0, ⟨#[46]⟩⟩ : Tk)) hts hg ho)
            have hb63 : l.length + 1 ≤ maxLen := by unfold maxLen; omega
            have hby : (l.length + 1) * 40 ≤ 140737488355328 := by omega
            clear H4
            go_wp2_with (at_builtin; refine wpList_append_own _ rfl (.tmp 27) (.tmp 29) 24 rfl w.heap.size 33 i0 _ 4 40 Tryz.underlying24 hi0 hz0 hz1 hz2 rfl (by decide) _ l.length _ rfl ((unhide hown') _) ⟨w3.heap.size, 0, none⟩ 1 1 (⟨6, 0, 0, ⟨#[46]⟩⟩ : Tk).vals rfl rfl (unhide hone) (unhide honep) hb63 hby (by simp; omega) ?_)
            intro v7 w7 ho7 hg7 _
            have H7 := hide ((unhide HP) w7 v7 _ hg7 ho7)
            clear ho7 hg7 HP hown' hone honep
            have HLK2 := hide (show l.length + 1 = k + 1 by have := unhide HLK; omega)
            go_wp2_with fail
            go_roundg (302 - (k + 1))
            case rel => exact ⟨k + 1, at4 + 1, _, rfl, by go_num, by omega, by simpa using unhide HLK, by omega, unhide H7⟩
            case measure => have := hg.out; omega
          · have hltz : ¬ (k : Int) < 300 + (r3 : Int) := by omega
            go_wp2_with fail
            go_ret
            exact ⟨_, l, rfl, (unhide H4).row, by have := unhide HLK; omega, (unhide H4).small, (unhide H4).tch⟩
set_option maxHeartbeats 1000000 in
theorem drawJoinTokens_any (a : Option Addr) (len cap : Nat) (w : World) (hb : ∀ i, i < len → ∃ b off c : Nat, a = some ⟨b, off, none⟩ ∧ b < w.heap.size ∧ c ≤ 255 ∧ w.cell? ⟨b, off + i, none⟩ = some (.int .u8 (c : Int))) (hc : len ≤ cap) (hl : len ≤ 1048576) :
    Calls Tryz.prog 6 #[.slice a len cap] w fun e w' => ∃ (v : Value) (l : List Tk), e = .returned v ∧ w'.ownsRow w.heap.size 33 4 v l.length (tkFlat l) ∧ l.length ≤ 302 ∧ (∀ t ∈ l, t.text.size ≤ 100) ∧ Below w.heap.size w w' := by
  have HS := hide (l1Source_any a len cap w hb hc hl)
  clear hb
  go_enter Tryz.func6, Tryz.ntmps6
  go_wp2_with fail
  refine (unhide HS).mono ?_
  rintro e w1 ⟨rfl, S1, B1⟩
  have hlt := S1.lt
  go_wp2_with fail
  refine (l4List_any w.heap.size len cap 0 a _ S1 (by decide)).mono ?_
  rintro e w2 ⟨v, l, rfl, hrow, hlen, hsm, T2⟩
  obtain ⟨va, vn, vc, hv⟩ : ∃ a n c, v = .slice a n c := by
    obtain ⟨_, ⟨h, _⟩ | ⟨g2, cap, cur, h, _⟩⟩ := hrow
    · exact ⟨_, _, _, h⟩
    · exact ⟨_, _, _, h⟩
  subst hv
  have hrow' : w2.ownsRow w.heap.size 33 4 (.slice va vn vc) l.length (tkFlat l) := by
    obtain ⟨h0, h1 | ⟨g, c, cur, h2, hg, rest⟩⟩ := hrow
    · exact ⟨h0, .inl h1⟩
    · exact ⟨h0, .inr ⟨g, c, cur, h2, by omega, rest⟩⟩
  have B2 : Below w.heap.size w w2 := B1.trans (T2.below (by omega) (Nat.le_refl _))
  clear hrow T2
  go_wp2_with fail
  go_ret
  exact ⟨_, l, rfl, hrow', hlen, hsm, B2⟩

end Go.Proofs.YtabpjknbdahddaaGreatDoor
