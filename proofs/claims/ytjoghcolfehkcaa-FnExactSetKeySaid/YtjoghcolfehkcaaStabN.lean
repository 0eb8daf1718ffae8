/-
  The plain mathematics of the stable sort, its phases: blocks of twenty by insertion, and merges of blocks that grow twofold.
-/
import Derived.Test.YtjoghcolfehkcaaStabM
namespace Go.Proofs.Ytjoghcolfehkcaa
namespace St
set_option linter.unusedVariables false
variable {lt : Nat → Nat → Prop} {t : Nat → Nat → Bool}

theorem dn_at (f : Nat → Nat) (j i : Nat) : dn f j i j = f i := by unfold dn; rw [if_pos rfl]
theorem dn_ahead (f : Nat → Nat) (j i k : Nat) (h : k < j) : dn f j i k = f k := by unfold dn; rw [if_neg (by omega), if_neg (by omega)]

theorem ins_step (O : Ord lt t) {a i j : Nat} {f : Nat → Nat} (hs : Srt lt a i f) (hlo : Lo a i (i + 1) f) (haj : a ≤ j) (hji : j ≤ i) (hr : ∀ h, j ≤ h → h < i → t (f i) (f h) = true) (hstop : j = a ∨ t (f i) (f (j - 1)) = false) : Srt lt a (i + 1) (dn f j i) := by
  refine dn_sorted O hs hlo haj hji (fun h h1 h2 => ?_) hr
  rcases hstop with e | e
  · omega
  · cases hx : t (f i) (f h) with
    | false => rfl
    | true =>
      by_cases c : h = j - 1
      · rw [c, e] at hx; cases hx
      · have := O.right hx (hs h (j - 1) h1 (by omega) (by omega))
        rw [e] at this; cases this

def Ok (lt : Nat → Nat → Prop) (a b : Nat) (f : Nat → Nat) : Prop := Srt lt a b f ∧ In a b f
theorem Ok.same {a b : Nat} {f g : Nat → Nat} (h : Ok lt a b f) (e : ∀ k, a ≤ k → k < b → g k = f k) : Ok lt a b g := ⟨h.1.same e, fun k h1 h2 => by rw [e k h1 h2]; exact h.2 k h1 h2⟩
theorem Ok.off {a b c d : Nat} {f g : Nat → Nat} (h : Ok lt a b f) (p : Per c d f g) (hd : b ≤ c ∨ d ≤ a) : Ok lt a b g := h.same fun k h1 h2 => p.1 k (by omega)

def Ph1 (lt : Nat → Nat → Prop) (n a : Nat) (f : Nat → Nat) : Prop := a % 20 = 0 ∧ a ≤ n ∧ (∀ c, c % 20 = 0 → c + 20 ≤ a → Ok lt c (c + 20) f) ∧ ∀ k, a ≤ k → f k = k
def Ph2 (lt : Nat → Nat → Prop) (n s : Nat) (f : Nat → Nat) : Prop := ∀ c, c % s = 0 → c < n → Ok lt c (min (c + s) n) f
def Ph3 (lt : Nat → Nat → Prop) (n s a : Nat) (f : Nat → Nat) : Prop := a % (2 * s) = 0 ∧ a ≤ n ∧ (∀ c, c % (2 * s) = 0 → c + 2 * s ≤ a → Ok lt c (c + 2 * s) f) ∧ ∀ c, c % s = 0 → a ≤ c → c < n → Ok lt c (min (c + s) n) f
def Sz (s : Nat) : Prop := s = 20 ∨ s = 40 ∨ s = 80 ∨ s = 160 ∨ s = 320 ∨ s = 640 ∨ s = 1280 ∨ s = 2560 ∨ s = 5120

theorem Ph1.start (n : Nat) : Ph1 lt n 0 (fun k => k) := ⟨rfl, by omega, fun c h1 h2 => by omega, fun k _ => rfl⟩
theorem Ph1.step {n a : Nat} {f g : Nat → Nat} (h : Ph1 lt n a f) (hn : a + 20 ≤ n) (p : Per a (a + 20) f g) (s : Srt lt a (a + 20) g) : Ph1 lt n (a + 20) g := by
  obtain ⟨h1, h2, h3, h4⟩ := h
  refine ⟨by omega, hn, fun c c1 c2 => ?_, fun k hk => (p.1 k (by omega)).trans (h4 k (by omega))⟩
  by_cases e : c = a
  · subst e
    refine ⟨s, In.per (fun k k1 k2 => ?_) p⟩
    rw [h4 k k1]; omega
  · exact (h3 c c1 (by omega)).off p (by omega)
theorem Ph1.last {n a : Nat} {f g : Nat → Nat} (h : Ph1 lt n a f) (hn : n < a + 20) (p : Per a n f g) (s : Srt lt a n g) : Ph2 lt n 20 g := by
  obtain ⟨h1, h2, h3, h4⟩ := h
  intro c c1 c2
  by_cases e : c = a
  · subst e
    rw [show min (c + 20) n = n by omega]
    refine ⟨s, In.per (fun k k1 k2 => ?_) p⟩
    rw [h4 k k1]; omega
  · rw [show min (c + 20) n = c + 20 by omega]
    exact (h3 c c1 (by omega)).off p (by omega)
theorem Ph2.whole {n s : Nat} {f : Nat → Nat} (h : Ph2 lt n s f) (hs : n ≤ s) (hn : 0 < n) : Srt lt 0 n f := by
  have := (h 0 (Nat.zero_mod _) hn).1
  rwa [show min (0 + s) n = n by omega] at this
theorem Ph2.begin {n s : Nat} {f : Nat → Nat} (h : Ph2 lt n s f) (hs : 0 < s) : Ph3 lt n s 0 f := ⟨Nat.zero_mod _, by omega, fun c h1 h2 => by omega, fun c h1 _ h2 => h c h1 h2⟩
/-- What the merge of two whole blocks is told. -/
theorem Ph3.asks {n s a : Nat} {f : Nat → Nat} (h : Ph3 lt n s a f) (z : Sz s) (hn : a + 2 * s ≤ n) : Srt lt a (a + s) f ∧ Srt lt (a + s) (a + 2 * s) f ∧ Lo a (a + s) (a + 2 * s) f ∧ In a (a + 2 * s) f := by
  obtain ⟨h1, h2, h3, h4⟩ := h
  have o1 := h4 a (by rcases z with rfl | rfl | rfl | rfl | rfl | rfl | rfl | rfl | rfl <;> omega) (by omega) (by rcases z with rfl | rfl | rfl | rfl | rfl | rfl | rfl | rfl | rfl <;> omega)
  have o2 := h4 (a + s) (by rcases z with rfl | rfl | rfl | rfl | rfl | rfl | rfl | rfl | rfl <;> omega) (by omega) (by rcases z with rfl | rfl | rfl | rfl | rfl | rfl | rfl | rfl | rfl <;> omega)
  rw [show min (a + s) n = a + s by omega] at o1
  rw [show min (a + s + s) n = a + 2 * s by omega] at o2
  have j := In.join o1.2 o2.2 (by omega) (by omega)
  exact ⟨o1.1, o2.1, j.2, j.1⟩
theorem Ph3.step {n s a : Nat} {f g : Nat → Nat} (h : Ph3 lt n s a f) (z : Sz s) (hn : a + 2 * s ≤ n) (p : Per a (a + 2 * s) f g) (o : Srt lt a (a + 2 * s) g) : Ph3 lt n s (a + 2 * s) g := by
  have hin := (h.asks z hn).2.2.2
  obtain ⟨h1, h2, h3, h4⟩ := h
  refine ⟨by rcases z with rfl | rfl | rfl | rfl | rfl | rfl | rfl | rfl | rfl <;> omega, hn, fun c c1 c2 => ?_, fun c c1 c2 c3 => (h4 c c1 (by omega) c3).off p (by omega)⟩
  by_cases e : c = a
  · subst e; exact ⟨o, hin.per p⟩
  · exact (h3 c c1 (by rcases z with rfl | rfl | rfl | rfl | rfl | rfl | rfl | rfl | rfl <;> omega)).off p (by rcases z with rfl | rfl | rfl | rfl | rfl | rfl | rfl | rfl | rfl <;> omega)
theorem Ph3.asks2 {n s a : Nat} {f : Nat → Nat} (h : Ph3 lt n s a f) (z : Sz s) (hn : n < a + 2 * s) (hm : a + s < n) : Srt lt a (a + s) f ∧ Srt lt (a + s) n f ∧ Lo a (a + s) n f ∧ In a n f := by
  obtain ⟨h1, h2, h3, h4⟩ := h
  have o1 := h4 a (by rcases z with rfl | rfl | rfl | rfl | rfl | rfl | rfl | rfl | rfl <;> omega) (by omega) (by omega)
  have o2 := h4 (a + s) (by rcases z with rfl | rfl | rfl | rfl | rfl | rfl | rfl | rfl | rfl <;> omega) (by omega) hm
  rw [show min (a + s) n = a + s by omega] at o1
  rw [show min (a + s + s) n = n by omega] at o2
  have j := In.join o1.2 o2.2 (by omega) (by omega)
  exact ⟨o1.1, o2.1, j.2, j.1⟩
theorem Ph3.last {n s a : Nat} {f g : Nat → Nat} (h : Ph3 lt n s a f) (z : Sz s) (hn : n < a + 2 * s) (hm : a + s < n) (p : Per a n f g) (o : Srt lt a n g) : Ph2 lt n (2 * s) g := by
  have hin := (h.asks2 z hn hm).2.2.2
  obtain ⟨h1, h2, h3, h4⟩ := h
  intro c c1 c2
  by_cases e : c = a
  · subst e
    rw [show min (c + 2 * s) n = n by omega]
    exact ⟨o, hin.per p⟩
  · have hc : c + 2 * s ≤ a := by rcases z with rfl | rfl | rfl | rfl | rfl | rfl | rfl | rfl | rfl <;> omega
    rw [show min (c + 2 * s) n = c + 2 * s by omega]
    exact (h3 c c1 hc).off p (by omega)
theorem Ph3.rest {n s a : Nat} {f : Nat → Nat} (h : Ph3 lt n s a f) (z : Sz s) (hn : n < a + 2 * s) (hm : n ≤ a + s) : Ph2 lt n (2 * s) f := by
  obtain ⟨h1, h2, h3, h4⟩ := h
  intro c c1 c2
  by_cases e : c = a
  · subst e
    have o1 := h4 c (by rcases z with rfl | rfl | rfl | rfl | rfl | rfl | rfl | rfl | rfl <;> omega) (by omega) c2
    rw [show min (c + s) n = n by omega] at o1
    rw [show min (c + 2 * s) n = n by omega]
    exact o1
  · have hc : c + 2 * s ≤ a := by rcases z with rfl | rfl | rfl | rfl | rfl | rfl | rfl | rfl | rfl <;> omega
    rw [show min (c + 2 * s) n = c + 2 * s by omega]
    exact h3 c c1 hc
theorem Sz.twice {s n : Nat} (z : Sz s) (h : s < n) (hn : n ≤ 5120) : Sz (2 * s) := by
  unfold Sz at *; omega
theorem Sz.pos {s : Nat} (z : Sz s) : 20 ≤ s ∧ s ≤ 5120 := by unfold Sz at z; omega

/-- The searches of a merge: what is found from lo to hi on is monotone. -/
theorem find_up (O : Ord lt t) {a b : Nat} {f : Nat → Nat} (hs : Srt lt (a + 1) b f) {h h' : Nat} (h1 : a + 1 ≤ h') (h2 : h' ≤ h) (h3 : h < b) (e : t (f h) (f a) = true) : t (f h') (f a) = true := by
  by_cases c : h' = h
  · rw [c]; exact e
  · exact O.left (hs h' h h1 (by omega) h3) e
theorem find_dn (O : Ord lt t) {a m : Nat} {f : Nat → Nat} (hs : Srt lt a m f) {h h' : Nat} (h1 : a ≤ h) (h2 : h ≤ h') (h3 : h' < m) (e : t (f m) (f h) = true) : t (f m) (f h') = true := by
  by_cases c : h = h'
  · rw [← c]; exact e
  · exact O.right e (hs h h' h1 (by omega) h3)
theorem find_mid (O : Ord lt t) {a m b p : Nat} {f : Nat → Nat} (hl : Srt lt a m f) (hr : Srt lt m b f) {c c' : Nat} (h1 : a ≤ c) (h2 : c ≤ c') (h3 : c' < m) (h4 : m ≤ p - c') (h5 : p - c < b) (h6 : c' ≤ p) (e : t (f (p - c)) (f c) = true) : t (f (p - c')) (f c') = true := by
  by_cases x : c = c'
  · rw [← x]; exact e
  · exact O.left (hr _ _ h4 (by omega) h5) (O.right e (hl c c' h1 (by omega) h3))
/-- What the turn in the middle leaves, told once. -/
structure Turn (lt : Nat → Nat → Prop) (a m e mid s E : Nat) (f g : Nat → Nat) : Prop where
  per : Per a e f g
  s1 : Srt lt a s g
  s2 : Srt lt s mid g
  l1 : Lo a s mid g
  s3 : Srt lt mid E g
  s4 : Srt lt E e g
  l2 : Lo mid E e g
  x : ∀ i j, a ≤ i → i < mid → mid ≤ j → j < e → lt (g i) (g j)
theorem turn (O : Ord lt t) {a m e mid s E lo hi : Nat} {f : Nat → Nat} (hl : Srt lt a m f) (hr : Srt lt m e f) (hlo : Lo a m e f) (ham : a < m) (hme : m < e) (hmid : mid = (a + e) / 2) (hlohi : (mid < m ∧ lo + e = mid + m ∧ hi = mid) ∨ (m ≤ mid ∧ lo = a ∧ hi = m)) (h1 : lo ≤ s) (h2 : s ≤ hi) (hE : E + s = mid + m)
    (hno : ∀ c, lo ≤ c → c < s → t (f (mid + m - 1 - c)) (f c) = false) (hyes : ∀ c, s ≤ c → c < hi → t (f (mid + m - 1 - c)) (f c) = true) : Turn lt a m e mid s E f (rot f s m E) := by
  have h := mid_turn O (mid := mid) (s := s) (e := E) hl hr hlo (by omega) (by omega) (by omega) (by omega) hE (by omega) (by omega)
    (fun c1 c2 => by have := hno (s - 1) (by omega) (by omega); rwa [show mid + m - 1 - (s - 1) = E by omega] at this)
    (fun c1 c2 => by have := hyes s (Nat.le_refl _) (by omega); rwa [show mid + m - 1 - s = E - 1 by omega] at this)
  exact ⟨(Per.rot f (by omega) (by omega)).mono (by omega) (by omega), h.1, h.2.1, h.2.2.1, h.2.2.2.1, h.2.2.2.2.1, h.2.2.2.2.2.1, h.2.2.2.2.2.2⟩
theorem Turn.first {a m e mid s E : Nat} {f g : Nat → Nat} (T : Turn lt a m e mid s E f g) (h1 : a ≤ s) (h2 : s ≤ mid) (h : ¬ (a < s ∧ s < mid)) : Srt lt a mid g := by
  by_cases c : s = a
  · subst c; exact T.s2
  · have : s = mid := by omega
    subst this; exact T.s1
theorem Turn.second {a m e mid s E : Nat} {f g g2 : Nat → Nat} (T : Turn lt a m e mid s E f g) (p2 : Per a mid g g2) (h1 : mid ≤ E) (h2 : E ≤ e) (h : ¬ (mid < E ∧ E < e)) : Srt lt mid e g2 := by
  refine Srt.same (f := g) ?_ (fun k k1 _ => p2.1 k (by omega))
  by_cases c : E = mid
  · subst c; exact T.s4
  · have : E = e := by omega
    subst this; exact T.s3
theorem Turn.asks {a m e mid s E : Nat} {f g g2 : Nat → Nat} (T : Turn lt a m e mid s E f g) (p2 : Per a mid g g2) (h1 : mid ≤ E) : Srt lt mid E g2 ∧ Srt lt E e g2 ∧ Lo mid E e g2 :=
  ⟨T.s3.same (fun k k1 _ => p2.1 k (by omega)), T.s4.same (fun k k1 _ => p2.1 k (by omega)), fun i j i1 i2 j1 j2 => by rw [p2.1 i (by omega), p2.1 j (by omega)]; exact T.l2 i j i1 i2 j1 j2⟩
theorem merge_end {a m e mid s E : Nat} {f g g2 g3 : Nat → Nat} (T : Turn lt a m e mid s E f g) (ha : a ≤ mid) (he : mid ≤ e) (p2 : Per a mid g g2) (s2 : Srt lt a mid g2) (p3 : Per mid e g2 g3) (s3 : Srt lt mid e g3) : Per a e f g3 ∧ Srt lt a e g3 := by
  refine ⟨(T.per.trans (p2.mono (Nat.le_refl _) he)).trans (p3.mono ha (Nat.le_refl _)), ?_⟩
  refine Srt.join (f := g) (s2.same (fun k k1 k2 => p3.1 k (by omega))) s3 (fun k k1 k2 => ?_) (fun k k1 k2 => ?_) T.x
  · rw [p3.1 k (by omega)]; exact p2.2.1 k k1 k2
  · obtain ⟨j, j1, j2, ej⟩ := p3.2.1 k k1 k2
    exact ⟨j, j1, j2, by rw [ej, p2.1 j (by omega)]⟩
theorem Per.less {a e n : Nat} {f g : Nat → Nat} (p : Per a e f g) (he : e ≤ n) (h : ∀ k, k < n → f k < n) : ∀ k, k < n → g k < n := fun k hk => by
  by_cases c : a ≤ k ∧ k < e
  · obtain ⟨j, j1, j2, ej⟩ := p.2.1 k c.1 c.2
    rw [ej]; exact h j (by omega)
  · rw [p.1 k c]; exact h k hk
end St
end Go.Proofs.Ytjoghcolfehkcaa
