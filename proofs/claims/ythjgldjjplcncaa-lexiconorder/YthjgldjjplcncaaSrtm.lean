/-
  Plain facts on the stable sort's merging of two ordered stretches: ranges exchanged, a stretch rotated, one value put into its place, two stretches merged about a middle.
-/
import Derived.Sort.LotA
namespace Go.Proofs.Ythjgldjjplcncaa.Srt
open Go.Sort
variable {α : Type} [Inhabited α]

/-- n places from a on exchanged with n places from b on. -/
def swapR (d : Array α) (a b : Nat) : Nat → Array α
  | 0 => d
  | n + 1 => swp (swapR d a b n) (a + n) (b + n)
theorem swapR_size (d : Array α) (a b n : Nat) : (swapR d a b n).size = d.size := by
  induction n with
  | zero => rfl
  | succ n ih => rw [swapR, swp_size, ih]
theorem swapR_get (d : Array α) (a b n : Nat) (h1 : a + n ≤ b) (h2 : b + n ≤ d.size) (x : Nat) :
    (swapR d a b n)[x]! = if a ≤ x ∧ x < a + n then d[x + (b - a)]! else if b ≤ x ∧ x < b + n then d[x - (b - a)]! else d[x]! := by
  induction n generalizing x with
  | zero => rw [if_neg (by omega), if_neg (by omega)]; rfl
  | succ n ih =>
    have hz := swapR_size d a b n
    rw [swapR, swp_get _ (by omega) (by omega)]
    have hi := ih (by omega) (by omega)
    by_cases e1 : x = b + n
    · rw [if_pos e1, hi, if_neg (by omega), if_neg (by omega), if_neg (by omega), if_pos (by omega)]
      congr 1; omega
    · rw [if_neg e1]
      by_cases e2 : x = a + n
      · rw [if_pos e2, hi, if_neg (by omega), if_neg (by omega), if_pos (by omega)]
        congr 1; omega
      · rw [if_neg e2, hi]
        by_cases e3 : a ≤ x ∧ x < a + n
        · rw [if_pos e3, if_pos (by omega)]
        · rw [if_neg e3, if_neg (show ¬ (a ≤ x ∧ x < a + (n + 1)) by omega)]
          by_cases e4 : b ≤ x ∧ x < b + n
          · rw [if_pos e4, if_pos (by omega)]
          · rw [if_neg e4, if_neg (by omega)]
theorem swapR_perm (d : Array α) (a b n lo hi : Nat) (h1 : a + n ≤ b) (h2 : b + n ≤ hi) (h3 : hi ≤ d.size) (h4 : lo ≤ a) : PermIn lo hi d (swapR d a b n) := by
  induction n with
  | zero => exact permIn_refl _ _ _
  | succ n ih =>
    have := swp_permIn (swapR d a b n) lo hi (a + n) (b + n) (by omega) (by omega) (by omega) (by omega) (by rw [swapR_size]; exact h3)
    exact permIn_trans _ _ _ _ _ (ih (by omega) (by omega)) this

/-- What lies where, once the stretch from a to m stands behind that from m to b. -/
def rotF (f : Nat → α) (a m b x : Nat) : α := if a ≤ x ∧ x < a + (b - m) then f (x + (m - a)) else if a + (b - m) ≤ x ∧ x < b then f (x - (b - m)) else f x

omit [Inhabited α] in
theorem rotF_none1 (f : Nat → α) (m b x : Nat) (h : m ≤ b) : rotF f m m b x = f x := by
  unfold rotF
  split
  · congr 1; omega
  · rw [if_neg (by omega)]
omit [Inhabited α] in
theorem rotF_none2 (f : Nat → α) (a m x : Nat) (_h : a ≤ m) : rotF f a m m x = f x := by
  unfold rotF
  rw [if_neg (by omega)]
  split
  · congr 1; omega
  · rfl

/-- The rotation under way: what is left, i places and j about m, done, is what is asked. -/
structure RotI (d dk : Array α) (a m b i j : Nat) : Prop where
  perm : PermIn a b d dk
  i0 : 0 < i
  j0 : 0 < j
  hi : a + i ≤ m
  hj : m + j ≤ b
  eq : ∀ x, rotF (fun k => dk[k]!) (m - i) m (m + j) x = rotF (fun k => d[k]!) a m b x

theorem RotI.size {d dk : Array α} {a m b i j : Nat} (h : RotI d dk a m b i j) : dk.size = d.size := h.perm.1
theorem RotI.start (d : Array α) {a m b : Nat} (h1 : a < m) (h2 : m < b) : RotI d d a m b (m - a) (b - m) :=
  ⟨permIn_refl _ _ _, by omega, by omega, by omega, by omega, fun x => by
    rw [show m - (m - a) = a by omega, show m + (b - m) = b by omega]⟩
theorem RotI.more {d dk : Array α} {a m b i j : Nat} (h : RotI d dk a m b i j) (hb : b ≤ d.size) (hij : j < i) : RotI d (swapR dk (m - i) m j) a m b (i - j) j := by
  obtain ⟨hp, h1, h2, h3, h4, h5⟩ := h
  have hz := hp.1
  refine ⟨permIn_trans _ _ _ _ _ hp (swapR_perm _ _ _ _ _ _ (by omega) (by omega) (by omega) (by omega)), by omega, h2, by omega, h4, fun x => ?_⟩
  rw [← h5 x]
  have g := swapR_get dk (m - i) m j (by omega) (by omega)
  unfold rotF
  dsimp only
  rw [g, g, g]
  repeat' split
  all_goals first | rfl | (exfalso; omega) | (congr 1; omega)
theorem RotI.less {d dk : Array α} {a m b i j : Nat} (h : RotI d dk a m b i j) (hb : b ≤ d.size) (hij : i < j) : RotI d (swapR dk (m - i) (m + j - i) i) a m b i (j - i) := by
  obtain ⟨hp, h1, h2, h3, h4, h5⟩ := h
  have hz := hp.1
  refine ⟨permIn_trans _ _ _ _ _ hp (swapR_perm _ _ _ _ _ _ (by omega) (by omega) (by omega) (by omega)), h1, by omega, h3, by omega, fun x => ?_⟩
  rw [← h5 x]
  have g := swapR_get dk (m - i) (m + j - i) i (by omega) (by omega)
  unfold rotF
  dsimp only
  rw [g, g, g]
  repeat' split
  all_goals first | rfl | (exfalso; omega) | (congr 1; omega)
theorem RotI.last {d dk : Array α} {a m b i : Nat} (h : RotI d dk a m b i i) (hb : b ≤ d.size) :
    PermIn a b d (swapR dk (m - i) m i) ∧ ∀ x, (swapR dk (m - i) m i)[x]! = rotF (fun k => d[k]!) a m b x := by
  obtain ⟨hp, h1, h2, h3, h4, h5⟩ := h
  have hz := hp.1
  refine ⟨permIn_trans _ _ _ _ _ hp (swapR_perm _ _ _ _ _ _ (by omega) (by omega) (by omega) (by omega)), fun x => ?_⟩
  rw [← h5 x, swapR_get dk (m - i) m i (by omega) (by omega)]
  unfold rotF
  dsimp only
  repeat' split
  all_goals first | rfl | (exfalso; omega) | (congr 1; omega)

variable {lt : α → α → Bool}

theorem sorted_one (d : Array α) (a b : Nat) (h : b ≤ a + 1) : SortedIn lt a b d := fun i j _ _ _ => by omega
theorem sorted_le (hS : SWO lt) {d : Array α} {a b i j : Nat} (h : SortedIn lt a b d) (h1 : a ≤ i) (h2 : i ≤ j) (h3 : j < b) : lt d[j]! d[i]! = false := by
  rcases Nat.lt_or_ge i j with h4 | h4
  · exact h i j h1 h4 h3
  · rw [show j = i by omega]; exact hS.irrefl _

/-- The first value put into its place among the others. -/
def upF (d : Array α) (a i x : Nat) : α := if a ≤ x ∧ x < i then d[x + 1]! else if x = i then d[a]! else d[x]!
theorem upF_start (d : Array α) (a x : Nat) : upF d a a x = d[x]! := by
  unfold upF
  rw [if_neg (by omega)]
  split
  · rename_i h; rw [h]
  · rfl
theorem upF_step {d dk : Array α} {a k : Nat} (h : ∀ x, dk[x]! = upF d a k x) (hz : dk.size = d.size) (hk : k + 1 < d.size) (hak : a ≤ k) : ∀ x, (swp dk k (k + 1))[x]! = upF d a (k + 1) x := by
  intro x
  rw [swp_get _ (by omega) (by omega), h, h, h]
  unfold upF
  repeat' split
  all_goals first | rfl | (exfalso; omega) | (congr 1; omega)
theorem up_sorted (hS : SWO lt) {d d' : Array α} {a b i : Nat} (hs : SortedIn lt (a + 1) b d) (h : ∀ x, d'[x]! = upF d a (i - 1) x) (h1 : a + 1 ≤ i) (h2 : i ≤ b)
    (hl : i = a + 1 ∨ lt d[i - 1]! d[a]! = true) (hr : i = b ∨ lt d[i]! d[a]! = false) : SortedIn lt a b d' := by
  intro p q hp hpq hq
  rw [h, h]
  unfold upF
  by_cases q1 : a ≤ q ∧ q < i - 1
  · rw [if_pos q1, if_pos (by omega)]
    exact hs _ _ (by omega) (by omega) (by omega)
  · rw [if_neg q1]
    by_cases q2 : q = i - 1
    · rw [if_pos q2, if_pos (by omega)]
      rcases hl with hl | hl
      · omega
      · have h3 := sorted_le hS hs (i := p + 1) (j := i - 1) (by omega) (by omega) (by omega)
        exact hS.ntrans _ _ _ (hS.asymmA hl) h3
    · rw [if_neg q2]
      have hr' : lt d[i]! d[a]! = false := by rcases hr with hr | hr; omega; exact hr
      by_cases p1 : a ≤ p ∧ p < i - 1
      · rw [if_pos p1]; exact hs _ _ (by omega) (by omega) (by omega)
      · rw [if_neg p1]
        by_cases p2 : p = i - 1
        · rw [if_pos p2]
          have h3 := sorted_le hS hs (i := i) (j := q) (by omega) (by omega) (by omega)
          exact hS.ntrans _ _ _ h3 hr'
        · rw [if_neg p2]; exact hs _ _ (by omega) (by omega) (by omega)

/-- The last value put into its place among the others. -/
def dnF (d : Array α) (m i x : Nat) : α := if x = i then d[m]! else if i < x ∧ x ≤ m then d[x - 1]! else d[x]!
theorem dnF_start (d : Array α) (m x : Nat) : dnF d m m x = d[x]! := by
  unfold dnF
  split
  · rename_i h; rw [h]
  · rw [if_neg (by omega)]
theorem dnF_step {d dk : Array α} {m k : Nat} (h : ∀ x, dk[x]! = dnF d m (k + 1) x) (hz : dk.size = d.size) (hk : k + 1 ≤ m) (hm : m < d.size) : ∀ x, (swp dk (k + 1) k)[x]! = dnF d m k x := by
  intro x
  rw [swp_get _ (by omega) (by omega), h, h, h]
  unfold dnF
  repeat' split
  all_goals first | rfl | (exfalso; omega) | (congr 1; omega)
theorem dn_sorted (hS : SWO lt) {d d' : Array α} {a m i : Nat} (hs : SortedIn lt a m d) (h : ∀ x, d'[x]! = dnF d m i x) (h1 : a ≤ i) (h2 : i ≤ m)
    (hl : i = a ∨ lt d[m]! d[i - 1]! = false) (hr : i = m ∨ lt d[m]! d[i]! = true) : SortedIn lt a (m + 1) d' := by
  intro p q hp hpq hq
  rw [h, h]
  unfold dnF
  by_cases q2 : q = i
  · rw [if_pos q2, if_neg (by omega), if_neg (by omega)]
    rcases hl with hl | hl
    · omega
    · have h3 := sorted_le hS hs (i := p) (j := i - 1) (by omega) (by omega) (by omega)
      exact hS.ntrans _ _ _ hl h3
  · rw [if_neg q2]
    by_cases q1 : i < q ∧ q ≤ m
    · rw [if_pos q1]
      have hr' : lt d[m]! d[i]! = true := by rcases hr with hr | hr; omega; exact hr
      by_cases p2 : p = i
      · rw [if_pos p2]
        have h3 := sorted_le hS hs (i := i) (j := q - 1) (by omega) (by omega) (by omega)
        exact hS.ntrans _ _ _ h3 (hS.asymmA hr')
      · rw [if_neg p2]
        by_cases p1 : i < p ∧ p ≤ m
        · rw [if_pos p1]; exact hs _ _ (by omega) (by omega) (by omega)
        · rw [if_neg p1]; exact hs _ _ (by omega) (by omega) (by omega)
    · rw [if_neg q1, if_neg (by omega), if_neg (by omega)]
      exact hs _ _ (by omega) (by omega) (by omega)

/-- What the search about the middle finds. -/
structure Found (lt : α → α → Bool) (d : Array α) (a m b start : Nat) : Prop where
  lo : (if (a + b) / 2 < m then (a + b) / 2 + m - b else a) ≤ start
  hi : start ≤ (if (a + b) / 2 < m then (a + b) / 2 else m)
  left : start = (if (a + b) / 2 < m then (a + b) / 2 + m - b else a) ∨ lt d[(a + b) / 2 + m - start]! d[start - 1]! = false
  right : start = (if (a + b) / 2 < m then (a + b) / 2 else m) ∨ lt d[(a + b) / 2 + m - start - 1]! d[start]! = true

theorem Found.bounds {d : Array α} {a m b start : Nat} (h : Found lt d a m b start) (_h1 : a < m) (h2 : m < b) :
    a ≤ start ∧ start ≤ m ∧ start ≤ (a + b) / 2 ∧ m ≤ (a + b) / 2 + m - start ∧ (a + b) / 2 + m - start ≤ b ∧ (a + b) / 2 ≤ (a + b) / 2 + m - start := by
  obtain ⟨hl, hh, _, _⟩ := h
  split at hl <;> split at hh <;> omega

/-- The four stretches about the middle. -/
structure Parts (lt : α → α → Bool) (d1 : Array α) (a start mid e b : Nat) : Prop where
  s1 : SortedIn lt a start d1
  s2 : SortedIn lt start mid d1
  s3 : SortedIn lt mid e d1
  s4 : SortedIn lt e b d1
  cross : ∀ x y, a ≤ x → x < mid → mid ≤ y → y < b → lt d1[y]! d1[x]! = false

theorem Found.parts (hS : SWO lt) {d d1 : Array α} {a m b start : Nat} (h : Found lt d a m b start) (h1 : a < m) (h2 : m < b) (hl : SortedIn lt a m d) (hr : SortedIn lt m b d)
    (hd : ∀ x, d1[x]! = rotF (fun k => d[k]!) start m ((a + b) / 2 + m - start) x) : Parts lt d1 a start ((a + b) / 2) ((a + b) / 2 + m - start) b := by
  have hb := h.bounds h1 h2
  obtain ⟨_, _, hL, hR⟩ := h
  have hL' : start = a ∨ (a + b) / 2 + m - start = b ∨ lt d[(a + b) / 2 + m - start]! d[start - 1]! = false := by
    rcases hL with e | e
    · split at e
      · right; left; omega
      · left; exact e
    · exact .inr (.inr e)
  have hR' : start = m ∨ (a + b) / 2 + m - start = m ∨ lt d[(a + b) / 2 + m - start - 1]! d[start]! = true := by
    rcases hR with e | e
    · split at e
      · right; left; omega
      · left; exact e
    · exact .inr (.inr e)
  clear hL hR
  generalize hm : (a + b) / 2 = mid at *
  generalize he : mid + m - start = e at *
  have v1 : ∀ x, x < start → d1[x]! = d[x]! := fun x hx => by rw [hd]; unfold rotF; rw [if_neg (by omega), if_neg (by omega)]
  have v2 : ∀ x, start ≤ x → x < mid → d1[x]! = d[x + (m - start)]! := fun x _ _ => by rw [hd]; unfold rotF; rw [if_pos (by omega)]
  have v3 : ∀ x, mid ≤ x → x < e → d1[x]! = d[x - (e - m)]! := fun x _ _ => by rw [hd]; unfold rotF; rw [if_neg (by omega), if_pos (by omega)]
  have v4 : ∀ x, e ≤ x → d1[x]! = d[x]! := fun x _ => by rw [hd]; unfold rotF; rw [if_neg (by omega), if_neg (by omega)]
  refine ⟨?_, ?_, ?_, ?_, ?_⟩
  · intro p q _ _ _; rw [v1 p (by omega), v1 q (by omega)]; exact hl _ _ (by omega) (by omega) (by omega)
  · intro p q _ _ _; rw [v2 p (by omega) (by omega), v2 q (by omega) (by omega)]; exact hr _ _ (by omega) (by omega) (by omega)
  · intro p q _ _ _; rw [v3 p (by omega) (by omega), v3 q (by omega) (by omega)]; exact hl _ _ (by omega) (by omega) (by omega)
  · intro p q _ _ _; rw [v4 p (by omega), v4 q (by omega)]; exact hr _ _ (by omega) (by omega) (by omega)
  · intro x y hx1 hx2 hy1 hy2
    by_cases hx : x < start
    · rw [v1 x hx]
      by_cases hy : y < e
      · rw [v3 y hy1 hy]; exact sorted_le hS hl (by omega) (by omega) (by omega)
      · rw [v4 y (by omega)]
        rcases hL' with h3 | h3 | h3
        · omega
        · omega
        · have k1 := sorted_le hS hl (i := x) (j := start - 1) (by omega) (by omega) (by omega)
          have k2 := sorted_le hS hr (i := e) (j := y) (by omega) (by omega) (by omega)
          exact hS.ntrans _ _ _ (hS.ntrans _ _ _ k2 h3) k1
    · rw [v2 x (by omega) hx2]
      by_cases hy : y < e
      · rw [v3 y hy1 hy]
        rcases hR' with h3 | h3 | h3
        · omega
        · omega
        · have k1 := sorted_le hS hr (i := x + (m - start)) (j := e - 1) (by omega) (by omega) (by omega)
          have k2 := sorted_le hS hl (i := start) (j := y - (e - m)) (by omega) (by omega) (by omega)
          exact hS.ntrans _ _ _ (hS.ntrans _ _ _ k2 (hS.asymmA h3)) k1
      · rw [v4 y (by omega)]; exact sorted_le hS hr (by omega) (by omega) (by omega)

/-- Both sides of the middle in order: the whole is. -/
theorem Parts.whole {d1 d2 d3 : Array α} {a start mid e b : Nat} (h : Parts lt d1 a start mid e b) (h1 : a ≤ mid) (h2 : mid ≤ b) (hz : b ≤ d1.size)
    (p2 : PermIn a mid d1 d2) (s2 : SortedIn lt a mid d2) (p3 : PermIn mid b d2 d3) (s3 : SortedIn lt mid b d3) : PermIn a b d1 d3 ∧ SortedIn lt a b d3 := by
  have hz2 := p2.1
  have hz3 := p3.1
  refine ⟨permIn_trans _ _ _ _ _ (permIn_mono _ _ _ _ _ _ (Nat.le_refl _) h2 hz p2) (permIn_mono _ _ _ _ _ _ h1 (Nat.le_refl _) (by omega) p3), ?_⟩
  intro p q hp hpq hq
  by_cases q1 : q < mid
  · rw [p3.2.1 p (by omega), p3.2.1 q (by omega)]; exact s2 _ _ hp hpq q1
  · by_cases pp : mid ≤ p
    · exact s3 _ _ pp hpq hq
    · rw [p3.2.1 p (by omega)]
      have c1 : ∀ y, mid ≤ y → y < b → lt d1[y]! d2[p]! = false := fun y hy1 hy2 =>
        permIn_all d1 d2 a mid (fun v => lt d1[y]! v = false) (by omega) p2 (fun i hi1 hi2 => h.cross i y hi1 hi2 hy1 hy2) p hp (by omega)
      have c2 : ∀ y, mid ≤ y → y < b → lt d2[y]! d2[p]! = false := fun y hy1 hy2 => by rw [p2.2.1 y (by omega)]; exact c1 y hy1 hy2
      exact permIn_all d2 d3 mid b (fun v => lt v d2[p]! = false) (by omega) p3 c2 q (by omega) hq
end Go.Proofs.Ythjgldjjplcncaa.Srt
