/-
  Plain facts on the stable sort's merging of two ordered stretches: ranges exchanged, a stretch rotated, one value put into its place, two stretches merged about a middle.
-/
import Derived.Sort.LotA
import Derived.Test.YtcocbjipikeebaaDoorProg
import Derived.Shelf.SlSortCmp.Insertion1
import Derived.Deep.DeepCutAuto
import Derived.Shelf.SlSortCmp.Insertion
import Derived.Shelf.SlSortCmp.NoneTotal
namespace Go.Proofs.YtcocbjipikeebaaDoor.Srt
open Go.Sort
variable {α : Type} [Inhabited α]

/-- n places from a on exchanged with n places from b on. -/
def swapR (d : Array α) (a b : Nat) : Nat → Array α
  | 0 => d
  | n + 1 => swp (swapR d a b n) (a + n) (b + n)
theorem swapR_size (d : Array α) (a b n : Nat) : (swapR d a b n).size = d.size := by
  induction n with
  | zero => rfl
  | succ n ih => rw [swapR, swp_size, ih]
theorem swapR_get (d : Array α) (a b n : Nat) (h1 : a + n ≤ b) (h2 : b + n ≤ d.size) (x : Nat) :
    (swapR d a b n)[x]! = if a ≤ x ∧ x < a + n then d[x + (b - a)]! else if b ≤ x ∧ x < b + n then d[x - (b - a)]! else d[x]! := by
  induction n generalizing x with
  | zero => rw [if_neg (by omega), if_neg (by omega)]; rfl
  | succ n ih =>
    have hz := swapR_size d a b n
    rw [swapR, swp_get _ (by omega) (by omega)]
    have hi := ih (by omega) (by omega)
    by_cases e1 : x = b + n
    · rw [if_pos e1, hi, if_neg (by omega), if_neg (by omega), if_neg (by omega), if_pos (by omega)]
      congr 1; omega
    · rw [if_neg e1]
      by_cases e2 : x = a + n
      · rw [if_pos e2, hi, if_neg (by omega), if_neg (by omega), if_pos (by omega)]
        congr 1; omega
      · rw [if_neg e2, hi]
        by_cases e3 : a ≤ x ∧ x < a + n
        · rw [if_pos e3, if_pos (by omega)]
        · rw [if_neg e3, if_neg (show ¬ (a ≤ x ∧ x < a + (n + 1)) by omega)]
          by_cases e4 : b ≤ x ∧ x < b + n
          · rw [if_pos e4, if_pos (by omega)]
          · rw [if_neg e4, if_neg (by omega)]
theorem swapR_perm (d : Array α) (a b n lo hi : Nat) (h1 : a + n ≤ b) (h2 : b + n ≤ hi) (h3 : hi ≤ d.size) (h4 : lo ≤ a) : PermIn lo hi d (swapR d a b n) := by
  induction n with
  | zero => exact permIn_refl _ _ _
  | succ n ih =>
    have := swp_permIn (swapR d a b n) lo hi (a + n) (b + n) (by omega) (by omega) (by omega) (by omega) (by rw [swapR_size]; exact h3)
    exact permIn_trans _ _ _ _ _ (ih (by omega) (by omega)) this

/-- What lies where, once the stretch from a to m stands behind that from m to b. -/
def rotF (f : Nat → α) (a m b x : Nat) : α := if a ≤ x ∧ x < a + (b - m) then f (x + (m - a)) else if a + (b - m) ≤ x ∧ x < b then f (x - (b - m)) else f x

omit [Inhabited α] in
theorem rotF_none1 (f : Nat → α) (m b x : Nat) (h : m ≤ b) : rotF f m m b x = f x := by
  unfold rotF
  split
  · congr 1; omega
  · rw [if_neg (by omega)]
omit [Inhabited α] in
theorem rotF_none2 (f : Nat → α) (a m x : Nat) (_h : a ≤ m) : rotF f a m m x = f x := by
  unfold rotF
  rw [if_neg (by omega)]
  split
  · congr 1; omega
  · rfl

/-- The rotation under way: what is left, i places and j about m, done, is what is asked. -/
structure RotI (d dk : Array α) (a m b i j : Nat) : Prop where
  perm : PermIn a b d dk
  i0 : 0 < i
  j0 : 0 < j
  hi : a + i ≤ m
  hj : m + j ≤ b
  eq : ∀ x, rotF (fun k => dk[k]!) (m - i) m (m + j) x = rotF (fun k => d[k]!) a m b x

theorem RotI.size {d dk : Array α} {a m b i j : Nat} (h : RotI d dk a m b i j) : dk.size = d.size := h.perm.1
theorem RotI.start (d : Array α) {a m b : Nat} (h1 : a < m) (h2 : m < b) : RotI d d a m b (m - a) (b - m) :=
  ⟨permIn_refl _ _ _, by omega, by omega, by omega, by omega, fun x => by
    rw [show m - (m - a) = a by omega, show m + (b - m) = b by omega]⟩
theorem RotI.more {d dk : Array α} {a m b i j : Nat} (h : RotI d dk a m b i j) (hb : b ≤ d.size) (hij : j < i) : RotI d (swapR dk (m - i) m j) a m b (i - j) j := by
  obtain ⟨hp, h1, h2, h3, h4, h5⟩ := h
  have hz := hp.1
  refine ⟨permIn_trans _ _ _ _ _ hp (swapR_perm _ _ _ _ _ _ (by omega) (by omega) (by omega) (by omega)), by omega, h2, by omega, h4, fun x => ?_⟩
  rw [← h5 x]
  have g := swapR_get dk (m - i) m j (by omega) (by omega)
  unfold rotF
  dsimp only
  rw [g, g, g]
  repeat' split
  all_goals first | rfl | (exfalso; omega) | (congr 1; omega)
theorem RotI.less {d dk : Array α} {a m b i j : Nat} (h : RotI d dk a m b i j) (hb : b ≤ d.size) (hij : i < j) : RotI d (swapR dk (m - i) (m + j - i) i) a m b i (j - i) := by
  obtain ⟨hp, h1, h2, h3, h4, h5⟩ := h
  have hz := hp.1
  refine ⟨permIn_trans _ _ _ _ _ hp (swapR_perm _ _ _ _ _ _ (by omega) (by omega) (by omega) (by omega)), h1, by omega, h3, by omega, fun x => ?_⟩
  rw [← h5 x]
  have g := swapR_get dk (m - i) (m + j - i) i (by omega) (by omega)
  unfold rotF
  dsimp only
  rw [g, g, g]
  repeat' split
  all_goals first | rfl | (exfalso; omega) | (congr 1; omega)
theorem RotI.last {d dk : Array α} {a m b i : Nat} (h : RotI d dk a m b i i) (hb : b ≤ d.size) :
    PermIn a b d (swapR dk (m - i) m i) ∧ ∀ x, (swapR dk (m - i) m i)[x]! = rotF (fun k => d[k]!) a m b x := by
  obtain ⟨hp, h1, h2, h3, h4, h5⟩ := h
  have hz := hp.1
  refine ⟨permIn_trans _ _ _ _ _ hp (swapR_perm _ _ _ _ _ _ (by omega) (by omega) (by omega) (by omega)), fun x => ?_⟩
  rw [← h5 x, swapR_get dk (m - i) m i (by omega) (by omega)]
  unfold rotF
  dsimp only
  repeat' split
  all_goals first | rfl | (exfalso; omega) | (congr 1; omega)

variable {lt : α → α → Bool}

theorem sorted_one (d : Array α) (a b : Nat) (h : b ≤ a + 1) : SortedIn lt a b d := fun i j _ _ _ => by omega
theorem sorted_le (hS : SWO lt) {d : Array α} {a b i j : Nat} (h : SortedIn lt a b d) (h1 : a ≤ i) (h2 : i ≤ j) (h3 : j < b) : lt d[j]! d[i]! = false := by
  rcases Nat.lt_or_ge i j with h4 | h4
  · exact h i j h1 h4 h3
  · rw [show j = i by omega]; exact hS.irrefl _

/-- The first value put into its place among the others. -/
def upF (d : Array α) (a i x : Nat) : α := if a ≤ x ∧ x < i then d[x + 1]! else if x = i then d[a]! else d[x]!
theorem upF_start (d : Array α) (a x : Nat) : upF d a a x = d[x]! := by
  unfold upF
  rw [if_neg (by omega)]
  split
  · rename_i h; rw [h]
  · rfl
theorem upF_step {d dk : Array α} {a k : Nat} (h : ∀ x, dk[x]! = upF d a k x) (hz : dk.size = d.size) (hk : k + 1 < d.size) (hak : a ≤ k) : ∀ x, (swp dk k (k + 1))[x]! = upF d a (k + 1) x := by
  intro x
  rw [swp_get _ (by omega) (by omega), h, h, h]
  unfold upF
  repeat' split
  all_goals first | rfl | (exfalso; omega) | (congr 1; omega)
theorem up_sorted (hS : SWO lt) {d d' : Array α} {a b i : Nat} (hs : SortedIn lt (a + 1) b d) (h : ∀ x, d'[x]! = upF d a (i - 1) x) (h1 : a + 1 ≤ i) (h2 : i ≤ b)
    (hl : i = a + 1 ∨ lt d[i - 1]! d[a]! = true) (hr : i = b ∨ lt d[i]! d[a]! = false) : SortedIn lt a b d' := by
  intro p q hp hpq hq
  rw [h, h]
  unfold upF
  by_cases q1 : a ≤ q ∧ q < i - 1
  · rw [if_pos q1, if_pos (by omega)]
    exact hs _ _ (by omega) (by omega) (by omega)
  · rw [if_neg q1]
    by_cases q2 : q = i - 1
    · rw [if_pos q2, if_pos (by omega)]
      rcases hl with hl | hl
      · omega
      · have h3 := sorted_le hS hs (i := p + 1) (j := i - 1) (by omega) (by omega) (by omega)
        exact hS.ntrans _ _ _ (hS.asymmA hl) h3
    · rw [if_neg q2]
      have hr' : lt d[i]! d[a]! = false := by rcases hr with hr | hr; omega; exact hr
      by_cases p1 : a ≤ p ∧ p < i - 1
      · rw [if_pos p1]; exact hs _ _ (by omega) (by omega) (by omega)
      · rw [if_neg p1]
        by_cases p2 : p = i - 1
        · rw [if_pos p2]
          have h3 := sorted_le hS hs (i := i) (j := q) (by omega) (by omega) (by omega)
          exact hS.ntrans _ _ _ h3 hr'
        · rw [if_neg p2]; exact hs _ _ (by omega) (by omega) (by omega)

/-- The last value put into its place among the others. -/
def dnF (d : Array α) (m i x : Nat) : α := if x = i then d[m]! else if i < x ∧ x ≤ m then d[x - 1]! else d[x]!
theorem dnF_start (d : Array α) (m x : Nat) : dnF d m m x = d[x]! := by
  unfold dnF
  split
  · rename_i h; rw [h]
  · rw [if_neg (by omega)]
theorem dnF_step {d dk : Array α} {m k : Nat} (h : ∀ x, dk[x]! = dnF d m (k + 1) x) (hz : dk.size = d.size) (hk : k + 1 ≤ m) (hm : m < d.size) : ∀ x, (swp dk (k + 1) k)[x]! = dnF d m k x := by
  intro x
  rw [swp_get _ (by omega) (by omega), h, h, h]
  unfold dnF
  repeat' split
  all_goals first | rfl | (exfalso; omega) | (congr 1; omega)
theorem dn_sorted (hS : SWO lt) {d d' : Array α} {a m i : Nat} (hs : SortedIn lt a m d) (h : ∀ x, d'[x]! = dnF d m i x) (h1 : a ≤ i) (h2 : i ≤ m)
    (hl : i = a ∨ lt d[m]! d[i - 1]! = false) (hr : i = m ∨ lt d[m]! d[i]! = true) : SortedIn lt a (m + 1) d' := by
  intro p q hp hpq hq
  rw [h, h]
  unfold dnF
  by_cases q2 : q = i
  · rw [if_pos q2, if_neg (by omega), if_neg (by omega)]
    rcases hl with hl | hl
    · omega
    · have h3 := sorted_le hS hs (i := p) (j := i - 1) (by omega) (by omega) (by omega)
      exact hS.ntrans _ _ _ hl h3
  · rw [if_neg q2]
    by_cases q1 : i < q ∧ q ≤ m
    · rw [if_pos q1]
      have hr' : lt d[m]! d[i]! = true := by rcases hr with hr | hr; omega; exact hr
      by_cases p2 : p = i
      · rw [if_pos p2]
        have h3 := sorted_le hS hs (i := i) (j := q - 1) (by omega) (by omega) (by omega)
        exact hS.ntrans _ _ _ h3 (hS.asymmA hr')
      · rw [if_neg p2]
        by_cases p1 : i < p ∧ p ≤ m
        · rw [if_pos p1]; exact hs _ _ (by omega) (by omega) (by omega)
        · rw [if_neg p1]; exact hs _ _ (by omega) (by omega) (by omega)
    · rw [if_neg q1, if_neg (by omega), if_neg (by omega)]
      exact hs _ _ (by omega) (by omega) (by omega)

/-- What the search about the middle finds. -/
structure Found (lt : α → α → Bool) (d : Array α) (a m b start : Nat) : Prop where
  lo : (if (a + b) / 2 < m then (a + b) / 2 + m - b else a) ≤ start
  hi : start ≤ (if (a + b) / 2 < m then (a + b) / 2 else m)
  left : start = (if (a + b) / 2 < m then (a + b) / 2 + m - b else a) ∨ lt d[(a + b) / 2 + m - start]! d[start - 1]! = false
  right : start = (if (a + b) / 2 < m then (a + b) / 2 else m) ∨ lt d[(a + b) / 2 + m - start - 1]! d[start]! = true

theorem Found.bounds {d : Array α} {a m b start : Nat} (h : Found lt d a m b start) (_h1 : a < m) (h2 : m < b) :
    a ≤ start ∧ start ≤ m ∧ start ≤ (a + b) / 2 ∧ m ≤ (a + b) / 2 + m - start ∧ (a + b) / 2 + m - start ≤ b ∧ (a + b) / 2 ≤ (a + b) / 2 + m - start := by
  obtain ⟨hl, hh, _, _⟩ := h
  split at hl <;> split at hh <;> omega

/-- The four stretches about the middle. -/
structure Parts (lt : α → α → Bool) (d1 : Array α) (a start mid e b : Nat) : Prop where
  s1 : SortedIn lt a start d1
  s2 : SortedIn lt start mid d1
  s3 : SortedIn lt mid e d1
  s4 : SortedIn lt e b d1
  cross : ∀ x y, a ≤ x → x < mid → mid ≤ y → y < b → lt d1[y]! d1[x]! = false

theorem Found.parts (hS : SWO lt) {d d1 : Array α} {a m b start : Nat} (h : Found lt d a m b start) (h1 : a < m) (h2 : m < b) (hl : SortedIn lt a m d) (hr : SortedIn lt m b d)
    (hd : ∀ x, d1[x]! = rotF (fun k => d[k]!) start m ((a + b) / 2 + m - start) x) : Parts lt d1 a start ((a + b) / 2) ((a + b) / 2 + m - start) b := by
  have hb := h.bounds h1 h2
  obtain ⟨_, _, hL, hR⟩ := h
  have hL' : start = a ∨ (a + b) / 2 + m - start = b ∨ lt d[(a + b) / 2 + m - start]! d[start - 1]! = false := by
    rcases hL with e | e
    · split at e
      · right; left; omega
      · left; exact e
    · exact .inr (.inr e)
  have hR' : start = m ∨ (a + b) / 2 + m - start = m ∨ lt d[(a + b) / 2 + m - start - 1]! d[start]! = true := by
    rcases hR with e | e
    · split at e
      · right; left; omega
      · left; exact e
    · exact .inr (.inr e)
  clear hL hR
  generalize hm : (a + b) / 2 = mid at *
  generalize he : mid + m - start = e at *
  have v1 : ∀ x, x < start → d1[x]! = d[x]! := fun x hx => by rw [hd]; unfold rotF; rw [if_neg (by omega), if_neg (by omega)]
  have v2 : ∀ x, start ≤ x → x < mid → d1[x]! = d[x + (m - start)]! := fun x _ _ => by rw [hd]; unfold rotF; rw [if_pos (by omega)]
  have v3 : ∀ x, mid ≤ x → x < e → d1[x]! = d[x - (e - m)]! := fun x _ _ => by rw [hd]; unfold rotF; rw [if_neg (by omega), if_pos (by omega)]
  have v4 : ∀ x, e ≤ x → d1[x]! = d[x]! := fun x _ => by rw [hd]; unfold rotF; rw [if_neg (by omega), if_neg (by omega)]
  refine ⟨?_, ?_, ?_, ?_, ?_⟩
  · intro p q _ _ _; rw [v1 p (by omega), v1 q (by omega)]; exact hl _ _ (by omega) (by omega) (by omega)
  · intro p q _ _ _; rw [v2 p (by omega) (by omega), v2 q (by omega) (by omega)]; exact hr _ _ (by omega) (by omega) (by omega)
  · intro p q _ _ _; rw [v3 p (by omega) (by omega), v3 q (by omega) (by omega)]; exact hl _ _ (by omega) (by omega) (by omega)
  · intro p q _ _ _; rw [v4 p (by omega), v4 q (by omega)]; exact hr _ _ (by omega) (by omega) (by omega)
  · intro x y hx1 hx2 hy1 hy2
    by_cases hx : x < start
    · rw [v1 x hx]
      by_cases hy : y < e
      · rw [v3 y hy1 hy]; exact sorted_le hS hl (by omega) (by omega) (by omega)
      · rw [v4 y (by omega)]
        rcases hL' with h3 | h3 | h3
        · omega
        · omega
        · have k1 := sorted_le hS hl (i := x) (j := start - 1) (by omega) (by omega) (by omega)
          have k2 := sorted_le hS hr (i := e) (j := y) (by omega) (by omega) (by omega)
          exact hS.ntrans _ _ _ (hS.ntrans _ _ _ k2 h3) k1
    · rw [v2 x (by omega) hx2]
      by_cases hy : y < e
      · rw [v3 y hy1 hy]
        rcases hR' with h3 | h3 | h3
        · omega
        · omega
        · have k1 := sorted_le hS hr (i := x + (m - start)) (j := e - 1) (by omega) (by omega) (by omega)
          have k2 := sorted_le hS hl (i := start) (j := y - (e - m)) (by omega) (by omega) (by omega)
          exact hS.ntrans _ _ _ (hS.ntrans _ _ _ k2 (hS.asymmA h3)) k1
      · rw [v4 y (by omega)]; exact sorted_le hS hr (by omega) (by omega) (by omega)

/-- Both sides of the middle in order: the whole is. -/
theorem Parts.whole {d1 d2 d3 : Array α} {a start mid e b : Nat} (h : Parts lt d1 a start mid e b) (h1 : a ≤ mid) (h2 : mid ≤ b) (hz : b ≤ d1.size)
    (p2 : PermIn a mid d1 d2) (s2 : SortedIn lt a mid d2) (p3 : PermIn mid b d2 d3) (s3 : SortedIn lt mid b d3) : PermIn a b d1 d3 ∧ SortedIn lt a b d3 := by
  have hz2 := p2.1
  have hz3 := p3.1
  refine ⟨permIn_trans _ _ _ _ _ (permIn_mono _ _ _ _ _ _ (Nat.le_refl _) h2 hz p2) (permIn_mono _ _ _ _ _ _ h1 (Nat.le_refl _) (by omega) p3), ?_⟩
  intro p q hp hpq hq
  by_cases q1 : q < mid
  · rw [p3.2.1 p (by omega), p3.2.1 q (by omega)]; exact s2 _ _ hp hpq q1
  · by_cases pp : mid ≤ p
    · exact s3 _ _ pp hpq hq
    · rw [p3.2.1 p (by omega)]
      have c1 : ∀ y, mid ≤ y → y < b → lt d1[y]! d2[p]! = false := fun y hy1 hy2 =>
        permIn_all d1 d2 a mid (fun v => lt d1[y]! v = false) (by omega) p2 (fun i hi1 hi2 => h.cross i y hi1 hi2 hy1 hy2) p hp (by omega)
      have c2 : ∀ y, mid ≤ y → y < b → lt d2[y]! d2[p]! = false := fun y hy1 hy2 => by rw [p2.2.1 y (by omega)]; exact c1 y hy1 hy2
      exact permIn_all d2 d3 mid b (fun v => lt v d2[p]! = false) (by omega) p3 c2 q (by omega) hq
end Go.Proofs.YtcocbjipikeebaaDoor.Srt
/-
  The library's stable sort walked (slices.SortStableFunc and what it calls, at elements of one cell), for a comparison that reads: swapRange, rotate.
-/
namespace Go.Proofs.YtcocbjipikeebaaDoor.Srt
open Go Go.Shelf Go.RowKit Go.Lib Go.Sort Go.Proofs
variable {α : Type} [Inhabited α]

set_option maxHeartbeats 4000000 in
set_option maxRecDepth 100000 in
theorem swapRange_at (enc : α → Value) (g : Nat) (cb : Array Value) (blk off cap a b n : Nat) (d0 d : Array α) (w0 w : World) (R : Row1 enc w0 blk off d0) (hs : d0.size = d.size)
    (S : SW enc w0 blk off d w) (h1 : a + n ≤ b) (h2 : b + n ≤ d.size) (hsz : d.size < 4611686018427387904) :
    Calls Tryd.prog 77 #[.slice (some ⟨blk, off, none⟩) d.size cap, .int .i64 a, .int .i64 b, .int .i64 n, .func (.func g) #[] cb] w fun e w' => e = .returned (.tuple #[]) ∧ SW enc w0 blk off (swapR d a b n) w' := by
  have hcl0 := R.hO.cells
  simp only [Value.cells] at hcl0
  have hst := R.hO.store Tryd.prog
  have S0 : Aside (SW enc w0 blk off d w) := S
  clear S
  go_enter Tryd.func77, Tryd.ntmps77
  go_wp2
  go_loopg [10] n (fun g1 vi wr => ∃ (i : Nat), vi = .int .i64 i ∧ i ≤ n ∧ n - i ≤ g1 ∧ Aside (SW enc w0 blk off (swapR d a b i) wr))
  case atStart => exact ⟨0, rfl, Nat.zero_le _, Nat.le_refl _, S0⟩
  case round =>
    clear S0
    obtain ⟨i, rfl, hin, hg1, S1⟩ := hrel
    by_cases hlt : i < n
    · have hltz : (i : Int) < (n : Int) := by omega
      have hz := swapR_size d a b i
      have hnx : swapR d a b (i + 1) = swp (swapR d a b i) (a + i) (b + i) := rfl
      obtain ⟨dn, hdn⟩ : ∃ q, q = swapR d a b (i + 1) := ⟨_, rfl⟩
      rw [← hdn] at hnx
      generalize swapR d a b i = dj at *
      obtain ⟨iN, hiN⟩ : ∃ q, q = a + i := ⟨_, rfl⟩
      obtain ⟨jN, hjN⟩ : ∃ q, q = b + i := ⟨_, rfl⟩
      have ea : ((a : Int) + (i : Int)).toNat = iN := by omega
      have pa : (0 : Int) ≤ (a : Int) + (i : Int) := by omega
      have ba : (a : Int) + (i : Int) < (d.size : Int) := by omega
      have ra : IntKind.i64.wrap ((a : Int) + (i : Int)) = (a : Int) + (i : Int) := by rw [IntKind.wrap_i64]; omega
      have ec : ((b : Int) + (i : Int)).toNat = jN := by omega
      have pc : (0 : Int) ≤ (b : Int) + (i : Int) := by omega
      have bc : (b : Int) + (i : Int) < (d.size : Int) := by omega
      have rc : IntKind.i64.wrap ((b : Int) + (i : Int)) = (b : Int) + (i : Int) := by rw [IntKind.wrap_i64]; omega
      obtain ⟨x, hx⟩ : ∃ x, x = dj[a + i]! := ⟨_, rfl⟩
      obtain ⟨y, hy⟩ : ∃ x, x = dj[b + i]! := ⟨_, rfl⟩
      have S3 : Aside (SW enc w0 blk off dn ((wr.setCell ⟨blk, off + iN, none⟩ (enc y)).setCell ⟨blk, off + jN, none⟩ (enc x)).drew) := by rw [hiN, hjN, hx, hy, hnx]; exact S1.out.swapped R (a + i) (b + i) (by omega) (by omega)
      have ca := S1.out.c1 R (by omega) (a + i) (by omega)
      have cb' := S1.out.c1 R (by omega) (b + i) (by omega)
      have fa := S1.out.f1 R (by omega) (a + i) (by omega)
      have fb := S1.out.f1 R (by omega) (b + i) (by omega)
      obtain ⟨u, cc⟩ := S1.out.c2 R (by omega) (a + i) (b + i) (by omega) (by omega) (enc y)
      rw [← hjN, ← hiN] at cc
      rw [← hx, ← hiN] at ca
      rw [← hy, ← hjN] at cb'
      rw [← hiN] at fa
      rw [← hjN] at fb
      clear S1 hx hy hiN hjN
      go_wp2_with fail
      go_big_region
      clear ca cb' cc fa fb
      generalize ((wr.setCell ⟨blk, off + iN, none⟩ (enc y)).setCell ⟨blk, off + jN, none⟩ (enc x)).drew = w3 at S3 ⊢
      clear ea ec
      go_wp2
      go_roundg (n - (i + 1))
      case measure => omega
      case rel => exact ⟨i + 1, by go_num, by omega, Nat.le_refl _, hdn ▸ S3⟩
    · have hltz : ¬ (i : Int) < (n : Int) := by omega
      obtain rfl : i = n := by omega
      go_wp2
      go_end0
      exact ⟨rfl, S1.out⟩
theorem swapRange_any (enc : α → Value) (g : Nat) (cb : Array Value) (blk off cap a b n sz : Nat) (za zb zn : Int) (d0 d : Array α) (w0 w : World) (R : Row1 enc w0 blk off d0) (hs : d0.size = d.size)
    (S : SW enc w0 blk off d w) (hza : za = a) (hzb : zb = b) (hzn : zn = n) (hd : sz = d.size) (h1 : a + n ≤ b) (h2 : b + n ≤ d.size) (hsz : d.size < 4611686018427387904) :
    Calls Tryd.prog 77 #[.slice (some ⟨blk, off, none⟩) sz cap, .int .i64 za, .int .i64 zb, .int .i64 zn, .func (.func g) #[] cb] w fun e w' => e = .returned (.tuple #[]) ∧ SW enc w0 blk off (swapR d a b n) w' := by
  subst hza hzb hzn hd
  exact swapRange_at enc g cb blk off cap a b n d0 d w0 w R hs S h1 h2 hsz

set_option maxHeartbeats 4000000 in
set_option maxRecDepth 100000 in
theorem rotate_at (enc : α → Value) (g : Nat) (cb : Array Value) (blk off cap a m b : Nat) (d0 d : Array α) (w0 w : World) (R : Row1 enc w0 blk off d0) (hs : d0.size = d.size)
    (S : SW enc w0 blk off d w) (h1 : a < m) (h2 : m < b) (h3 : b ≤ d.size) (hsz : d.size < 4611686018427387904) :
    Calls Tryd.prog 74 #[.slice (some ⟨blk, off, none⟩) d.size cap, .int .i64 a, .int .i64 m, .int .i64 b, .func (.func g) #[] cb] w fun e w' => e = .returned (.tuple #[]) ∧ ∃ d', SW enc w0 blk off d' w' ∧ PermIn a b d d' ∧ ∀ x, d'[x]! = rotF (fun k => d[k]!) a m b x := by
  have S0 : Aside (SW enc w0 blk off d w) := S
  have I0 : Aside (RotI d d a m b (m - a) (b - m)) := RotI.start d h1 h2
  have hsw : Aside (∀ (a b n : Nat) (za zb zn : Int) (dk : Array α) (w : World), SW enc w0 blk off dk w → d0.size = dk.size → za = a → zb = b → zn = n → d.size = dk.size → a + n ≤ b → b + n ≤ dk.size →
    Calls Tryd.prog 77 #[.slice (some ⟨blk, off, none⟩) d.size cap, .int .i64 za, .int .i64 zb, .int .i64 zn, .func (.func g) #[] cb] w fun e w' => e = .returned (.tuple #[]) ∧ SW enc w0 blk off (swapR dk a b n) w') :=
    fun a b n za zb zn dk w hS hz e1 e2 e3 e4 e5 e6 => swapRange_any enc g cb blk off cap a b n d.size za zb zn d0 dk w0 w R hz hS e1 e2 e3 e4 e5 e6 (by omega)
  clear S
  go_enter Tryd.func74, Tryd.ntmps74
  go_wp2
  go_loopg [10, 11] (b - a) (fun g1 vi vj wr => ∃ (i j : Nat) (dk : Array α), vi = .int .i64 i ∧ vj = .int .i64 j ∧ i + j ≤ g1 ∧ Aside (RotI d dk a m b i j) ∧ Aside (SW enc w0 blk off dk wr))
  case atStart => exact ⟨m - a, b - m, d, by go_num, by go_num, by omega, I0, S0⟩
  case round =>
    clear S0 I0
    obtain ⟨i, j, dk, rfl, rfl, hg1, I1, S1⟩ := hrel
    have hb := And.intro I1.out.hi I1.out.hj
    have hi0 := I1.out.i0
    have hj0 := I1.out.j0
    have hz := I1.out.size
    by_cases hij : i = j
    · subst hij
      have cS := hsw.out (m - i) m i ((m : Int) - (i : Int)) m i dk wr S1.out (by omega) (by omega) rfl rfl (by omega) (by omega) (by omega)
      have hL := I1.out.last h3
      go_wp2_with fail
      refine cS.mono ?_
      rintro e w' ⟨rfl, S2⟩
      go_wp2
      go_end0
      exact ⟨rfl, _, S2, hL.1, hL.2⟩
    · have hne : ((i : Int) == (j : Int)) = false := by rw [beq_eq_false_iff_ne]; omega
      by_cases hlt : j < i
      · have hltz : (j : Int) < (i : Int) := by omega
        have cS := hsw.out (m - i) m j ((m : Int) - (i : Int)) m j dk wr S1.out (by omega) (by omega) rfl rfl (by omega) (by omega) (by omega)
        have I2 : Aside _ := I1.out.more h3 hlt
        clear I1 S1
        go_wp2_with fail
        refine cS.mono ?_
        rintro e w' ⟨rfl, S2⟩
        have S3 : Aside _ := S2
        clear S2 cS
        go_wp2
        go_roundg (i + j - j)
        case measure => omega
        case rel => exact ⟨i - j, j, _, by go_num, rfl, by omega, I2, S3⟩
      · have hltz : ¬ (j : Int) < (i : Int) := by omega
        have cS := hsw.out (m - i) (m + j - i) i ((m : Int) - (i : Int)) ((m : Int) + (j : Int) - (i : Int)) i dk wr S1.out (by omega) (by omega) (by omega) rfl (by omega) (by omega) (by omega)
        have I2 : Aside _ := I1.out.less h3 (by omega)
        clear I1 S1
        go_wp2_with fail
        refine cS.mono ?_
        rintro e w' ⟨rfl, S2⟩
        have S3 : Aside _ := S2
        clear S2 cS
        go_wp2
        go_roundg (i + j - i)
        case measure => omega
        case rel => exact ⟨i, j - i, _, rfl, by go_num, by omega, I2, S3⟩
theorem rotate_any (enc : α → Value) (g : Nat) (cb : Array Value) (blk off cap a m b sz : Nat) (za zm zb : Int) (d0 d : Array α) (w0 w : World) (R : Row1 enc w0 blk off d0) (hs : d0.size = d.size)
    (S : SW enc w0 blk off d w) (hza : za = a) (hzm : zm = m) (hzb : zb = b) (hd : sz = d.size) (h1 : a < m) (h2 : m < b) (h3 : b ≤ d.size) (hsz : d.size < 4611686018427387904) :
    Calls Tryd.prog 74 #[.slice (some ⟨blk, off, none⟩) sz cap, .int .i64 za, .int .i64 zm, .int .i64 zb, .func (.func g) #[] cb] w fun e w' => e = .returned (.tuple #[]) ∧ ∃ d', SW enc w0 blk off d' w' ∧ PermIn a b d d' ∧ ∀ x, d'[x]! = rotF (fun k => d[k]!) a m b x := by
  subst hza hzm hzb hd
  exact rotate_at enc g cb blk off cap a m b d0 d w0 w R hs S h1 h2 h3 hsz
end Go.Proofs.YtcocbjipikeebaaDoor.Srt
/-
  The library's merging of two ordered stretches (slices.symMergeCmpFunc) walked where one of them is a single value: that value put into its place.
-/
namespace Go.Proofs.YtcocbjipikeebaaDoor.Srt
open Go Go.Shelf Go.RowKit Go.Lib Go.Sort Go.Proofs
variable {α : Type} [Inhabited α]

set_option maxHeartbeats 8000000 in
set_option maxRecDepth 100000 in
theorem symMerge_one (enc : α → Value) (cf : α → α → Int) (hO : SWO (ltOf cf)) (g : Nat) (cb : Array Value) (blk off cap sz : Nat) (d0 : Array α) (w0 : World) (R : Row1 enc w0 blk off d0) (hd0 : d0.size = sz) (hsz : sz < 4611686018427387904)
    (eg : ∀ args w, (callFunc g args).run Tryd.prog w = .ok (.enter g args) w) (hcmp : CmpLays1 Tryd.prog g cb enc cf blk off d0.size w0) (a m b : Nat) (d : Array α) (w : World) (hds : d.size = sz)
    (S : SW enc w0 blk off d w) (ham : a < m) (hmb : m < b) (hbs : b ≤ sz) (hl : SortedIn (ltOf cf) m b d) (hm1 : m = a + 1) :
    Calls Tryd.prog 65 #[.slice (some ⟨blk, off, none⟩) sz cap, .int .i64 a, .int .i64 m, .int .i64 b, .func (.func g) #[] cb] w fun e w' => e = .returned (.tuple #[]) ∧ ∃ d', SW enc w0 blk off d' w' ∧ PermIn a b d d' ∧ SortedIn (ltOf cf) a b d' := by
  have hcl0 := R.hO.cells
  simp only [Value.cells] at hcl0
  have hst := R.hO.store Tryd.prog
  have HC : Aside _ := hcmp
  have S0 : Aside (SW enc w0 blk off d w) := S
  have HL : Aside (SortedIn (ltOf cf) m b d) := hl
  clear S hl hcmp
  have mixed : Tryd.prog.follows .mixedOrders = true := by kernel_rfl
  have a3 := Tryd.isAgg3
  have z3 := Tryd.sizeOf3
  go_enter Tryd.func65, Tryd.ntmps65
  have hb1 : ((m : Int) - (a : Int) == 1) = true := by rw [beq_iff_eq]; omega
  have HM : Aside (m = a + 1) := hm1
  clear hm1
  go_wp2
  go_loopg [10, 11] (b - m) (fun g1 vi vj wr => ∃ (i j : Nat), vi = .int .i64 i ∧ vj = .int .i64 j ∧ m ≤ i ∧ i ≤ j ∧ j ≤ b ∧ j - i ≤ g1 ∧ Aside (SW enc w0 blk off d wr) ∧ Aside ((i = m ∨ ltOf cf d[i - 1]! d[a]! = true) ∧ (j = b ∨ ltOf cf d[j]! d[a]! = false)))
  case atStart => exact ⟨m, b, rfl, rfl, by omega, by omega, by omega, by omega, S0, ⟨.inl rfl, .inl rfl⟩⟩
  case round =>
    clear S0
    obtain ⟨i, j, rfl, rfl, hmi, hij, hjb, hg1, S1, HF⟩ := hrel
    by_cases hlt : i < j
    · have hltz : (i : Int) < (j : Int) := by omega
      have l1 := S1.out.cl R (by omega) ((i + j) / 2) (by omega)
      have l2 := S1.out.cl R (by omega) a (by omega)
      have HX : Aside (ltOf cf d[(i + j) / 2]! d[a]! = decide (cf d[(i + j) / 2]! d[a]! < 0)) := rfl
      obtain ⟨x, hx⟩ : ∃ x, x = d[(i + j) / 2]! := ⟨_, rfl⟩
      obtain ⟨y, hy⟩ : ∃ x, x = d[a]! := ⟨_, rfl⟩
      have HE : Aside (x = d[(i + j) / 2]! ∧ y = d[a]!) := ⟨hx, hy⟩
      rw [← hx] at l1
      rw [← hy] at l2
      clear hx hy
      have hc := S1.out.cmp HC.out (by omega) x y
      obtain ⟨hN, hhN⟩ : ∃ q, q = (i + j) / 2 := ⟨_, rfl⟩
      have e1 : (((i : Int) + (j : Int)) / 2).toNat = hN := by omega
      rw [← hhN] at l1
      clear hhN
      have p1 : (0 : Int) ≤ ((i : Int) + (j : Int)) / 2 := by omega
      have b1 : ((i : Int) + (j : Int)) / 2 < (sz : Int) := by omega
      have b2 : (a : Int) < (sz : Int) := by omega
      by_cases hv : cf x y < 0
      · have hd : decide (cf x y < 0) = true := decide_eq_true hv
        go_wp2_with fail
        go_quiet_grown (first | (go_at_fn g; refine Calls.grown_of (hc _ _)))
        have S2 : Aside (SW enc w0 blk off d (grow (wr.drewN nq) osq)) := S1.out.grown nq osq
        clear l1 l2 hc S1 p1 b1 b2 e1
        generalize grow (wr.drewN nq) osq = w2 at S2 ⊢
        clear nq osq
        go_wp2
        go_roundg (j - ((i + j) / 2 + 1))
        case measure => omega
        case rel => exact ⟨(i + j) / 2 + 1, j, by go_num, rfl, by omega, by omega, by omega, Nat.le_refl _, S2, ⟨.inr (by rw [Nat.add_sub_cancel, HX.out, ← HE.out.1, ← HE.out.2]; exact hd), HF.out.2⟩⟩
      · have hd : decide (cf x y < 0) = false := decide_eq_false hv
        go_wp2_with fail
        go_quiet_grown (first | (go_at_fn g; refine Calls.grown_of (hc _ _)))
        have S2 : Aside (SW enc w0 blk off d (grow (wr.drewN nq) osq)) := S1.out.grown nq osq
        clear l1 l2 hc S1 p1 b1 b2 e1
        generalize grow (wr.drewN nq) osq = w2 at S2 ⊢
        clear nq osq
        go_wp2
        go_roundg ((i + j) / 2 - i)
        case measure => omega
        case rel => exact ⟨i, (i + j) / 2, rfl, by go_num, by omega, by omega, by omega, Nat.le_refl _, S2, ⟨HF.out.1, .inr (by rw [HX.out, ← HE.out.1, ← HE.out.2]; exact hd)⟩⟩
    · have hltz : ¬ (i : Int) < (j : Int) := by omega
      obtain rfl : i = j := by omega
      clear hltz hlt hij hg1
      have hi1 : m ≤ i ∧ i ≤ b := ⟨hmi, hjb⟩
      go_wp2
      go_loopg [13] (i - 1 - a) (fun g1 vk wr => ∃ (k : Nat) (dk : Array α), vk = .int .i64 k ∧ a ≤ k ∧ k + 1 ≤ i ∧ i - 1 - k ≤ g1 ∧ dk.size = sz ∧ Aside (SW enc w0 blk off dk wr) ∧ Aside (PermIn a b d dk ∧ ∀ x, dk[x]! = upF d a k x))
      case atStart => exact ⟨a, d, rfl, Nat.le_refl _, by omega, Nat.le_refl _, hds, S1, ⟨permIn_refl _ _ _, fun x => (upF_start d a x).symm⟩⟩
      case round =>
        clear S1
        obtain ⟨k, dj, rfl, hak, hki, hg1, hsj, S1, HU⟩ := hrel
        rename World => wr
        by_cases hlt : k < i - 1
        · have hltz : (k : Int) < (i : Int) - 1 := by omega
          have hP : PermIn a b d (swp dj k (k + 1)) := permIn_trans _ _ _ _ _ HU.out.1 (swp_permIn dj a b k (k + 1) (by omega) (by omega) (by omega) (by omega) (by omega))
          have hU := upF_step HU.out.2 (by omega) (by omega) hak
          have HU2 : Aside (PermIn a b d (swp dj k (k + 1)) ∧ ∀ x, (swp dj k (k + 1))[x]! = upF d a (k + 1) x) := ⟨hP, hU⟩
          clear hP hU HU
          obtain ⟨iN, hiN⟩ : ∃ q, q = k := ⟨_, rfl⟩
          obtain ⟨jN, hjN⟩ : ∃ q, q = k + 1 := ⟨_, rfl⟩
          have ea : ((k : Int)).toNat = iN := by omega
          have pa : (0 : Int) ≤ (k : Int) := by omega
          have ba : (k : Int) < (sz : Int) := by omega
          have ec : ((k : Int) + 1).toNat = jN := by omega
          have pc : (0 : Int) ≤ (k : Int) + 1 := by omega
          have bc : (k : Int) + 1 < (sz : Int) := by omega
          have rc : IntKind.i64.wrap ((k : Int) + 1) = (k : Int) + 1 := by rw [IntKind.wrap_i64]; omega
          obtain ⟨x, hx⟩ : ∃ x, x = dj[k]! := ⟨_, rfl⟩
          obtain ⟨y, hy⟩ : ∃ x, x = dj[k + 1]! := ⟨_, rfl⟩
          have S3 : Aside (SW enc w0 blk off (swp dj k (k + 1)) ((wr.setCell ⟨blk, off + iN, none⟩ (enc y)).setCell ⟨blk, off + jN, none⟩ (enc x)).drew) := by rw [hiN, hjN, hx, hy]; exact S1.out.swapped R k (k + 1) (by omega) (by omega)
          have ca := S1.out.c1 R (by omega) k (by omega)
          have cb' := S1.out.c1 R (by omega) (k + 1) (by omega)
          have fa := S1.out.f1 R (by omega) k (by omega)
          have fb := S1.out.f1 R (by omega) (k + 1) (by omega)
          obtain ⟨u, cc⟩ := S1.out.c2 R (by omega) k (k + 1) (by omega) (by omega) (enc y)
          rw [← hjN, ← hiN] at cc
          rw [← hx, ← hiN] at ca
          rw [← hy, ← hjN] at cb'
          rw [← hiN] at fa
          rw [← hjN] at fb
          clear S1 hx hy hiN hjN
          go_wp2_with fail
          go_big_region
          clear ca cb' cc fa fb
          generalize ((wr.setCell ⟨blk, off + iN, none⟩ (enc y)).setCell ⟨blk, off + jN, none⟩ (enc x)).drew = w3 at S3 ⊢
          clear ea ec
          go_wp2
          go_roundg (i - 1 - (k + 1))
          case measure => omega
          case rel => exact ⟨k + 1, swp dj k (k + 1), by go_num, by omega, by omega, Nat.le_refl _, by rw [swp_size]; exact hsj, S3, HU2⟩
        · have hltz : ¬ (k : Int) < (i : Int) - 1 := by omega
          have hki2 : k = i - 1 := by omega
          have HE : Aside (PermIn a b d dj ∧ SortedIn (ltOf cf) a b dj) := by
            refine ⟨HU.out.1, up_sorted hO (i := i) (by rw [← HM.out]; exact HL.out) (by rw [← hki2]; exact HU.out.2) (by omega) (by omega) ?_ HF.out.2⟩
            rcases HF.out.1 with h | h
            · left; have := HM.out; omega
            · exact .inr h
          clear HU hki2 hlt
          go_wp2
          (try simp only [Exit.inBlock, Exit.then])
          refine bodyPost_ret (results_none rfl _ _ _) rfl ?_
          exact ⟨rfl, dj, S1.out, HE.out.1, HE.out.2⟩

set_option maxHeartbeats 8000000 in
set_option maxRecDepth 100000 in
theorem symMerge_last (enc : α → Value) (cf : α → α → Int) (hO : SWO (ltOf cf)) (g : Nat) (cb : Array Value) (blk off cap sz : Nat) (d0 : Array α) (w0 : World) (R : Row1 enc w0 blk off d0) (hd0 : d0.size = sz) (hsz : sz < 4611686018427387904)
    (eg : ∀ args w, (callFunc g args).run Tryd.prog w = .ok (.enter g args) w) (hcmp : CmpLays1 Tryd.prog g cb enc cf blk off d0.size w0) (a m b : Nat) (d : Array α) (w : World) (hds : d.size = sz)
    (S : SW enc w0 blk off d w) (ham : a < m) (hmb : m < b) (hbs : b ≤ sz) (hl : SortedIn (ltOf cf) a m d) (hm1 : ¬ m = a + 1) (hm2 : b = m + 1) :
    Calls Tryd.prog 65 #[.slice (some ⟨blk, off, none⟩) sz cap, .int .i64 a, .int .i64 m, .int .i64 b, .func (.func g) #[] cb] w fun e w' => e = .returned (.tuple #[]) ∧ ∃ d', SW enc w0 blk off d' w' ∧ PermIn a b d d' ∧ SortedIn (ltOf cf) a b d' := by
  have hcl0 := R.hO.cells
  simp only [Value.cells] at hcl0
  have hst := R.hO.store Tryd.prog
  have HC : Aside _ := hcmp
  have S0 : Aside (SW enc w0 blk off d w) := S
  have HL : Aside (SortedIn (ltOf cf) a m d) := hl
  clear S hl hcmp
  have mixed : Tryd.prog.follows .mixedOrders = true := by kernel_rfl
  have a3 := Tryd.isAgg3
  have z3 := Tryd.sizeOf3
  go_enter Tryd.func65, Tryd.ntmps65
  have hb1 : ((m : Int) - (a : Int) == 1) = false := by rw [beq_eq_false_iff_ne]; omega
  have hb2 : ((b : Int) - (m : Int) == 1) = true := by rw [beq_iff_eq]; omega
  have HM : Aside (b = m + 1) := hm2
  clear hm2 hm1
  go_wp2
  go_loopg [14, 15] (m - a) (fun g1 vi vj wr => ∃ (i j : Nat), vi = .int .i64 i ∧ vj = .int .i64 j ∧ a ≤ i ∧ i ≤ j ∧ j ≤ m ∧ j - i ≤ g1 ∧ Aside (SW enc w0 blk off d wr) ∧ Aside ((i = a ∨ ltOf cf d[m]! d[i - 1]! = false) ∧ (j = m ∨ ltOf cf d[m]! d[j]! = true)))
  case atStart => exact ⟨a, m, rfl, rfl, by omega, by omega, by omega, by omega, S0, ⟨.inl rfl, .inl rfl⟩⟩
  case round =>
    clear S0
    obtain ⟨i, j, rfl, rfl, hmi, hij, hjb, hg1, S1, HF⟩ := hrel
    by_cases hlt : i < j
    · have hltz : (i : Int) < (j : Int) := by omega
      have l1 := S1.out.cl R (by omega) ((i + j) / 2) (by omega)
      have l2 := S1.out.cl R (by omega) m (by omega)
      have HX : Aside (ltOf cf d[m]! d[(i + j) / 2]! = decide (cf d[m]! d[(i + j) / 2]! < 0)) := rfl
      obtain ⟨x, hx⟩ : ∃ x, x = d[(i + j) / 2]! := ⟨_, rfl⟩
      obtain ⟨y, hy⟩ : ∃ x, x = d[m]! := ⟨_, rfl⟩
      have HE : Aside (x = d[(i + j) / 2]! ∧ y = d[m]!) := ⟨hx, hy⟩
      rw [← hx] at l1
      rw [← hy] at l2
      clear hx hy
      have hc := S1.out.cmp HC.out (by omega) y x
      obtain ⟨hN, hhN⟩ : ∃ q, q = (i + j) / 2 := ⟨_, rfl⟩
      have e1 : (((i : Int) + (j : Int)) / 2).toNat = hN := by omega
      rw [← hhN] at l1
      clear hhN
      have p1 : (0 : Int) ≤ ((i : Int) + (j : Int)) / 2 := by omega
      have b1 : ((i : Int) + (j : Int)) / 2 < (sz : Int) := by omega
      have b2 : (m : Int) < (sz : Int) := by omega
      by_cases hv : cf y x < 0
      · have hd : decide (cf y x < 0) = true := decide_eq_true hv
        go_wp2_with fail
        go_quiet_grown (first | (go_at_fn g; refine Calls.grown_of (hc _ _)))
        have S2 : Aside (SW enc w0 blk off d (grow (wr.drewN nq) osq)) := S1.out.grown nq osq
        clear l1 l2 hc S1 p1 b1 b2 e1
        generalize grow (wr.drewN nq) osq = w2 at S2 ⊢
        clear nq osq
        go_wp2
        go_roundg ((i + j) / 2 - i)
        case measure => omega
        case rel => exact ⟨i, (i + j) / 2, rfl, by go_num, by omega, by omega, by omega, Nat.le_refl _, S2, ⟨HF.out.1, .inr (by rw [HX.out, ← HE.out.1, ← HE.out.2]; exact hd)⟩⟩
      · have hd : decide (cf y x < 0) = false := decide_eq_false hv
        go_wp2_with fail
        go_quiet_grown (first | (go_at_fn g; refine Calls.grown_of (hc _ _)))
        have S2 : Aside (SW enc w0 blk off d (grow (wr.drewN nq) osq)) := S1.out.grown nq osq
        clear l1 l2 hc S1 p1 b1 b2 e1
        generalize grow (wr.drewN nq) osq = w2 at S2 ⊢
        clear nq osq
        go_wp2
        go_roundg (j - ((i + j) / 2 + 1))
        case measure => omega
        case rel => exact ⟨(i + j) / 2 + 1, j, by go_num, rfl, by omega, by omega, by omega, Nat.le_refl _, S2, ⟨.inr (by rw [Nat.add_sub_cancel, HX.out, ← HE.out.1, ← HE.out.2]; exact hd), HF.out.2⟩⟩
    · have hltz : ¬ (i : Int) < (j : Int) := by omega
      obtain rfl : i = j := by omega
      clear hltz hlt hij hg1
      have hi1 : a ≤ i ∧ i ≤ m := ⟨hmi, hjb⟩
      go_wp2
      go_loopg [17] (m - i) (fun g1 vk wr => ∃ (k : Nat) (dk : Array α), vk = .int .i64 k ∧ i ≤ k ∧ k ≤ m ∧ k - i ≤ g1 ∧ dk.size = sz ∧ Aside (SW enc w0 blk off dk wr) ∧ Aside (PermIn a b d dk ∧ ∀ x, dk[x]! = dnF d m k x))
      case atStart => exact ⟨m, d, rfl, by omega, Nat.le_refl _, Nat.le_refl _, hds, S1, ⟨permIn_refl _ _ _, fun x => (dnF_start d m x).symm⟩⟩
      case round =>
        clear S1
        obtain ⟨k, dj, rfl, hak, hki, hg1, hsj, S1, HU⟩ := hrel
        rename World => wr
        by_cases hlt : i < k
        · obtain ⟨k, rfl⟩ : ∃ q, k = q + 1 := ⟨k - 1, by omega⟩
          have hltz : (i : Int) < (k : Int) + 1 := by omega
          have hP : PermIn a b d (swp dj (k + 1) k) := permIn_trans _ _ _ _ _ HU.out.1 (swp_permIn dj a b (k + 1) k (by omega) (by omega) (by omega) (by omega) (by omega))
          have hU := dnF_step HU.out.2 (by omega) (by omega) (by omega)
          have HU2 : Aside (PermIn a b d (swp dj (k + 1) k) ∧ ∀ x, (swp dj (k + 1) k)[x]! = dnF d m k x) := ⟨hP, hU⟩
          clear hP hU HU
          obtain ⟨iN, hiN⟩ : ∃ q, q = k + 1 := ⟨_, rfl⟩
          obtain ⟨jN, hjN⟩ : ∃ q, q = k := ⟨_, rfl⟩
          have ea : ((k : Int) + 1).toNat = iN := by omega
          have pa : (0 : Int) ≤ (k : Int) + 1 := by omega
          have ba : (k : Int) + 1 < (sz : Int) := by omega
          have ra : IntKind.i64.wrap ((k : Int) + 1) = (k : Int) + 1 := by rw [IntKind.wrap_i64]; omega
          have ec : ((k : Int)).toNat = jN := by omega
          have pc : (0 : Int) ≤ (k : Int) := by omega
          have bc : (k : Int) < (sz : Int) := by omega
          have rc : IntKind.i64.wrap ((k : Int)) = (k : Int) := by rw [IntKind.wrap_i64]; omega
          obtain ⟨x, hx⟩ : ∃ x, x = dj[k + 1]! := ⟨_, rfl⟩
          obtain ⟨y, hy⟩ : ∃ x, x = dj[k]! := ⟨_, rfl⟩
          have S3 : Aside (SW enc w0 blk off (swp dj (k + 1) k) ((wr.setCell ⟨blk, off + iN, none⟩ (enc y)).setCell ⟨blk, off + jN, none⟩ (enc x)).drew) := by rw [hiN, hjN, hx, hy]; exact S1.out.swapped R (k + 1) k (by omega) (by omega)
          have ca := S1.out.c1 R (by omega) (k + 1) (by omega)
          have cb' := S1.out.c1 R (by omega) k (by omega)
          have fa := S1.out.f1 R (by omega) (k + 1) (by omega)
          have fb := S1.out.f1 R (by omega) k (by omega)
          obtain ⟨u, cc⟩ := S1.out.c2 R (by omega) (k + 1) k (by omega) (by omega) (enc y)
          rw [← hiN, ← hjN] at cc
          rw [← hx, ← hiN] at ca
          rw [← hy, ← hjN] at cb'
          rw [← hiN] at fa
          rw [← hjN] at fb
          clear S1 hx hy hiN hjN
          go_wp2_with fail
          go_big_region
          clear ca cb' cc fa fb
          generalize ((wr.setCell ⟨blk, off + iN, none⟩ (enc y)).setCell ⟨blk, off + jN, none⟩ (enc x)).drew = w3 at S3 ⊢
          clear ea ec
          go_wp2
          go_roundg (k - i)
          case measure => omega
          case rel => exact ⟨k, swp dj (k + 1) k, by first | rfl | go_num | (congr 1; omega), by omega, by omega, Nat.le_refl _, by rw [swp_size]; exact hsj, S3, HU2⟩
        · have hltz : ¬ (i : Int) < (k : Int) := by omega
          have hki2 : k = i := by omega
          have HE : Aside (PermIn a b d dj ∧ SortedIn (ltOf cf) a b dj) := by
            refine ⟨HU.out.1, ?_⟩
            rw [HM.out]
            exact dn_sorted hO (i := i) HL.out (by rw [← hki2]; exact HU.out.2) (by omega) (by omega) HF.out.1 HF.out.2
          clear HU hki2 hlt
          go_wp2
          (try simp only [Exit.inBlock, Exit.then])
          refine bodyPost_ret (results_none rfl _ _ _) rfl ?_
          exact ⟨rfl, dj, S1.out, HE.out.1, HE.out.2⟩
end Go.Proofs.YtcocbjipikeebaaDoor.Srt
/-
  The library's merging of two ordered stretches (slices.symMergeCmpFunc) walked: by a search about the middle, a rotation, and the two halves by themselves.
-/
namespace Go.Proofs.YtcocbjipikeebaaDoor.Srt
open Go Go.Shelf Go.RowKit Go.Lib Go.Sort Go.Proofs
variable {α : Type} [Inhabited α]

set_option maxHeartbeats 8000000 in
set_option maxRecDepth 100000 in
theorem symMerge_mid (enc : α → Value) (cf : α → α → Int) (hO : SWO (ltOf cf)) (g : Nat) (cb : Array Value) (blk off cap sz : Nat) (d0 : Array α) (w0 : World) (R : Row1 enc w0 blk off d0) (hd0 : d0.size = sz) (hsz : sz < 4611686018427387904)
    (eg : ∀ args w, (callFunc g args).run Tryd.prog w = .ok (.enter g args) w) (hcmp : CmpLays1 Tryd.prog g cb enc cf blk off d0.size w0) (a m b : Nat) (d : Array α) (w : World) (hds : d.size = sz)
    (S : SW enc w0 blk off d w) (ham : a < m) (hmb : m < b) (hbs : b ≤ sz) (hl : SortedIn (ltOf cf) a m d) (hr : SortedIn (ltOf cf) m b d) (hm1 : ¬ m = a + 1) (hm2 : ¬ b = m + 1)
    (ih : ∀ (a' m' b' : Nat) (za zm zb : Int) (d : Array α) (w : World), b' - a' < b - a → za = a' → zm = m' → zb = b' → d.size = sz → SW enc w0 blk off d w → a' < m' → m' < b' → b' ≤ sz → SortedIn (ltOf cf) a' m' d → SortedIn (ltOf cf) m' b' d →
      Calls Tryd.prog 65 #[.slice (some ⟨blk, off, none⟩) sz cap, .int .i64 za, .int .i64 zm, .int .i64 zb, .func (.func g) #[] cb] w fun e w' => e = .returned (.tuple #[]) ∧ ∃ d', SW enc w0 blk off d' w' ∧ PermIn a' b' d d' ∧ SortedIn (ltOf cf) a' b' d') :
    Calls Tryd.prog 65 #[.slice (some ⟨blk, off, none⟩) sz cap, .int .i64 a, .int .i64 m, .int .i64 b, .func (.func g) #[] cb] w fun e w' => e = .returned (.tuple #[]) ∧ ∃ d', SW enc w0 blk off d' w' ∧ PermIn a b d d' ∧ SortedIn (ltOf cf) a b d' := by
  have HC : Aside _ := hcmp
  have S0 : Aside (SW enc w0 blk off d w) := S
  have HLR : Aside (SortedIn (ltOf cf) a m d ∧ SortedIn (ltOf cf) m b d) := ⟨hl, hr⟩
  have IH : Aside _ := ih
  clear S hl hr hcmp ih
  have mixed : Tryd.prog.follows .mixedOrders = true := by kernel_rfl
  have a3 := Tryd.isAgg3
  have z3 := Tryd.sizeOf3
  go_enter Tryd.func65, Tryd.ntmps65
  have hb1 : ((m : Int) - (a : Int) == 1) = false := by rw [beq_eq_false_iff_ne]; omega
  have hb2 : ((b : Int) - (m : Int) == 1) = false := by rw [beq_eq_false_iff_ne]; omega
  obtain ⟨mid, hmid⟩ : ∃ q, q = (a + b) / 2 := ⟨_, rfl⟩
  have HMD : Aside (mid = (a + b) / 2) := hmid
  have hmz : ((a : Int) + (b : Int)) / 2 = (mid : Int) := by omega
  have hmb1 : a + b ≤ 2 * mid + 1 ∧ 2 * mid ≤ a + b := by omega
  clear hmid
  obtain ⟨s0, r0, hs0, hr0⟩ : ∃ s0 r0, s0 = (if mid < m then mid + m - b else a) ∧ r0 = (if mid < m then mid else m) := ⟨_, _, rfl, rfl⟩
  have HS0 : Aside (s0 = (if mid < m then mid + m - b else a) ∧ r0 = (if mid < m then mid else m)) := ⟨hs0, hr0⟩
  have hbd : a ≤ s0 ∧ s0 ≤ r0 ∧ r0 ≤ m ∧ r0 ≤ mid ∧ mid + m ≤ b + s0 := by
    by_cases h : mid < m
    · rw [if_pos h] at hs0 hr0; omega
    · rw [if_neg h] at hs0 hr0; omega
  clear hs0 hr0
  go_upto_if 140 with fail
  go_cut [20, 21] from 138 to 148 (fun s20 s21 wd => s20 = .int .i64 s0 ∧ s21 = .int .i64 r0 ∧ wd = w)
  case first =>
    have hs0 := HS0.out.1
    have hr0 := HS0.out.2
    by_cases hmm : mid < m
    · have hmmz : (mid : Int) < (m : Int) := by omega
      rw [if_pos hmm] at hs0 hr0
      have hs0z : (mid : Int) + (m : Int) - (b : Int) = (s0 : Int) := by omega
      have hr0z : (mid : Int) = (r0 : Int) := by omega
      have HZ : Aside ((mid : Int) + (m : Int) - (b : Int) = (s0 : Int) ∧ (mid : Int) = (r0 : Int)) := ⟨hs0z, hr0z⟩
      clear hs0 hr0 hs0z hr0z
      go_wp2
      go_meet
      exact ⟨by rw [← HZ.out.1], by rw [← HZ.out.2], rfl⟩
    · have hmmz : ¬ (mid : Int) < (m : Int) := by omega
      rw [if_neg hmm] at hs0 hr0
      have HZ : Aside (s0 = a ∧ r0 = m) := ⟨hs0, hr0⟩
      clear hs0 hr0
      go_wp2
      go_meet
      exact ⟨by rw [HZ.out.1], by rw [HZ.out.2], rfl⟩
  case rest =>
    obtain ⟨rfl, rfl, rfl⟩ := hcut
    go_wp2
    go_loopg [20, 21] (r0 - s0) (fun g1 vi vj wr => ∃ (i j : Nat), vi = .int .i64 i ∧ vj = .int .i64 j ∧ s0 ≤ i ∧ i ≤ j ∧ j ≤ r0 ∧ j - i ≤ g1 ∧ Aside (SW enc w0 blk off d wr) ∧ Aside ((i = s0 ∨ ltOf cf d[mid + m - i]! d[i - 1]! = false) ∧ (j = r0 ∨ ltOf cf d[mid + m - j - 1]! d[j]! = true)))
    case atStart => exact ⟨s0, r0, rfl, rfl, by omega, by omega, by omega, by omega, S0, ⟨.inl rfl, .inl rfl⟩⟩
    case round =>
      clear S0
      obtain ⟨i, j, rfl, rfl, hmi, hij, hjb, hg1, S1, HF⟩ := hrel
      rename World => wr
      by_cases hlt : i < j
      · have hltz : (i : Int) < (j : Int) := by omega
        have l1 := S1.out.cl R (by omega) ((i + j) / 2) (by omega)
        have l2 := S1.out.cl R (by omega) (mid + m - 1 - (i + j) / 2) (by omega)
        have HX : Aside (ltOf cf d[mid + m - 1 - (i + j) / 2]! d[(i + j) / 2]! = decide (cf d[mid + m - 1 - (i + j) / 2]! d[(i + j) / 2]! < 0)) := rfl
        obtain ⟨x, hx⟩ : ∃ x, x = d[(i + j) / 2]! := ⟨_, rfl⟩
        obtain ⟨y, hy⟩ : ∃ x, x = d[mid + m - 1 - (i + j) / 2]! := ⟨_, rfl⟩
        have HE : Aside (x = d[(i + j) / 2]! ∧ y = d[mid + m - 1 - (i + j) / 2]!) := ⟨hx, hy⟩
        rw [← hx] at l1
        rw [← hy] at l2
        clear hx hy
        have hc := S1.out.cmp HC.out (by omega) y x
        obtain ⟨hN, hhN⟩ : ∃ q, q = (i + j) / 2 := ⟨_, rfl⟩
        obtain ⟨qN, hqN⟩ : ∃ q, q = mid + m - 1 - (i + j) / 2 := ⟨_, rfl⟩
        have e1 : (((i : Int) + (j : Int)) / 2).toNat = hN := by omega
        rw [← hhN] at l1
        rw [← hqN] at l2
        have p1 : (0 : Int) ≤ ((i : Int) + (j : Int)) / 2 := by omega
        have b1 : ((i : Int) + (j : Int)) / 2 < (sz : Int) := by omega
        have e2 : (mid : Int) + (m : Int) - 1 - ((i : Int) + (j : Int)) / 2 = (qN : Int) := by omega
        have p2 : (0 : Int) ≤ (qN : Int) := by omega
        have b2 : (qN : Int) < (sz : Int) := by omega
        have r2 : IntKind.i64.wrap (qN : Int) = (qN : Int) := by rw [IntKind.wrap_i64]; omega
        have HI1 : Aside (mid + m - ((i + j) / 2 + 1) = mid + m - 1 - (i + j) / 2) := by show _ = _; omega
        have HI2 : Aside (mid + m - (i + j) / 2 - 1 = mid + m - 1 - (i + j) / 2) := by show _ = _; omega
        clear hhN hqN
        by_cases hv : cf y x < 0
        · have hd : decide (cf y x < 0) = true := decide_eq_true hv
          go_wp2_with fail
          go_quiet_grown (first | (go_at_fn g; refine Calls.grown_of (hc _ _)))
          have S2 : Aside (SW enc w0 blk off d (grow (wr.drewN nq) osq)) := S1.out.grown nq osq
          clear l1 l2 hc S1 p1 b1 b2 e1 e2 p2 r2
          generalize grow (wr.drewN nq) osq = w2 at S2 ⊢
          clear nq osq
          go_wp2
          go_roundg ((i + j) / 2 - i)
          case measure => omega
          case rel => exact ⟨i, (i + j) / 2, rfl, by go_num, by omega, by omega, by omega, Nat.le_refl _, S2, ⟨HF.out.1, .inr (by rw [HI2.out, HX.out, ← HE.out.1, ← HE.out.2]; exact hd)⟩⟩
        · have hd : decide (cf y x < 0) = false := decide_eq_false hv
          go_wp2_with fail
          go_quiet_grown (first | (go_at_fn g; refine Calls.grown_of (hc _ _)))
          have S2 : Aside (SW enc w0 blk off d (grow (wr.drewN nq) osq)) := S1.out.grown nq osq
          clear l1 l2 hc S1 p1 b1 b2 e1 e2 p2 r2
          generalize grow (wr.drewN nq) osq = w2 at S2 ⊢
          clear nq osq
          go_wp2
          go_roundg (j - ((i + j) / 2 + 1))
          case measure => omega
          case rel => exact ⟨(i + j) / 2 + 1, j, by go_num, rfl, by omega, by omega, by omega, Nat.le_refl _, S2, ⟨.inr (by rw [HI1.out, Nat.add_sub_cancel, HX.out, ← HE.out.1, ← HE.out.2]; exact hd), HF.out.2⟩⟩
      · have hltz : ¬ (i : Int) < (j : Int) := by omega
        obtain rfl : i = j := by omega
        clear hltz hlt hij hg1
        obtain ⟨e, he⟩ : ∃ e, e = mid + m - i := ⟨_, rfl⟩
        have F : Found (ltOf cf) d a m b i := by
          have h1 := HS0.out.1
          have h2 := HS0.out.2
          rw [HMD.out] at h1 h2
          refine ⟨by rw [← h1]; exact hmi, by rw [← h2]; exact hjb, ?_, ?_⟩
          · rw [← h1, ← HMD.out]; exact HF.out.1
          · rw [← h2, ← HMD.out]; exact HF.out.2
        have hFb := F.bounds ham hmb
        have hp : ∀ d1 : Array α, (∀ x, d1[x]! = rotF (fun k => d[k]!) i m e x) → Parts (ltOf cf) d1 a i mid e b := fun d1 h => by
          have := F.parts hO ham hmb HLR.out.1 HLR.out.2 (d1 := d1) (by rw [← HMD.out, ← he]; exact h)
          rw [← HMD.out, ← he] at this
          exact this
        have HP : Aside _ := hp
        rw [← HMD.out, ← he] at hFb
        have hez : (mid : Int) + (m : Int) - (i : Int) = (e : Int) := by omega
        clear F hp he HF HLR
        go_upto_region 39 with fail
        go_cut [185] from 178 to 219 (fun v wd => v = .bool (decide (i < m ∧ m < e)) ∧ wd = wr)
        case first =>
          by_cases h1 : i < m
          · have h1z : (i : Int) < (m : Int) := by omega
            by_cases h2 : m < e
            · have h2z : (m : Int) < (e : Int) := by omega
              go_wp2_with fail
              go_meet
              exact ⟨by rw [decide_eq_true (p := i < m ∧ m < e) ⟨h1, h2⟩], rfl⟩
            · have h2z : ¬ (m : Int) < (e : Int) := by omega
              go_wp2_with fail
              go_meet
              exact ⟨by rw [decide_eq_false (p := i < m ∧ m < e) (fun h => h2 h.2)], rfl⟩
          · have h1z : ¬ (i : Int) < (m : Int) := by omega
            go_wp2_with fail
            go_meet
            exact ⟨by rw [decide_eq_false (p := i < m ∧ m < e) (fun h => h1 h.1)], rfl⟩
        case rest =>
        obtain ⟨rfl, rfl⟩ := hcut
        go_upto_if 185 with fail
        go_cut [191] from 178 to 219 (fun _ wd => ∃ d1, d1.size = sz ∧ Aside (SW enc w0 blk off d1 wd) ∧ Aside (PermIn a b d d1) ∧ Aside (Parts (ltOf cf) d1 a i mid e b))
        case first =>
          by_cases hc1 : i < m ∧ m < e
          · have hd : decide (i < m ∧ m < e) = true := decide_eq_true hc1
            have cR := rotate_any enc g cb blk off cap i m e sz (i : Int) (m : Int) (e : Int) d0 d w0 _ R (by omega) S1.out rfl rfl rfl (by omega) hc1.1 hc1.2 (by omega) (by omega)
            rw [hd]
            go_wp2_with fail
            refine cR.mono ?_
            rintro e' w1 ⟨rfl, d1, S2, P2, D2⟩
            have hP := permIn_mono _ _ _ _ _ _ (show a ≤ i by omega) (show e ≤ b by omega) (by omega) P2
            have HD1 : Aside (d1.size = sz ∧ SW enc w0 blk off d1 w1 ∧ PermIn a b d d1 ∧ Parts (ltOf cf) d1 a i mid e b) := ⟨P2.1.trans hds, S2, hP, HP.out d1 D2⟩
            clear cR S2 P2 D2 hP
            go_wp2_with fail
            go_meet
            exact ⟨d1, HD1.out.1, HD1.out.2.1, HD1.out.2.2.1, HD1.out.2.2.2⟩
          · have hd : decide (i < m ∧ m < e) = false := decide_eq_false hc1
            have hD : Parts (ltOf cf) d a i mid e b := HP.out d (fun x => by
              by_cases h1 : i = m
              · subst h1; exact (rotF_none1 _ _ _ _ (by omega)).symm
              · have : e = m := by omega
                subst this; exact (rotF_none2 _ _ _ _ (by omega)).symm)
            have HD1 : Aside (Parts (ltOf cf) d a i mid e b) := hD
            clear hD
            rw [hd]
            go_wp2_with fail
            go_meet
            exact ⟨d, hds, S1, permIn_refl _ _ _, HD1⟩
        case rest =>
        clear S1 HP
        obtain ⟨d1, hz1, S1, P1, Q1⟩ := hcut
        rename World => wr
        go_upto_region 41 with fail
        go_cut [199] from 178 to 219 (fun v wd => v = .bool (decide (a < i ∧ i < mid)) ∧ wd = wr)
        case first =>
          by_cases h1 : a < i
          · have h1z : (a : Int) < (i : Int) := by omega
            by_cases h2 : i < mid
            · have h2z : (i : Int) < (mid : Int) := by omega
              go_wp2_with fail
              go_meet
              exact ⟨by rw [decide_eq_true (p := a < i ∧ i < mid) ⟨h1, h2⟩], rfl⟩
            · have h2z : ¬ (i : Int) < (mid : Int) := by omega
              go_wp2_with fail
              go_meet
              exact ⟨by rw [decide_eq_false (p := a < i ∧ i < mid) (fun h => h2 h.2)], rfl⟩
          · have h1z : ¬ (a : Int) < (i : Int) := by omega
            go_wp2_with fail
            go_meet
            exact ⟨by rw [decide_eq_false (p := a < i ∧ i < mid) (fun h => h1 h.1)], rfl⟩
        case rest =>
        obtain ⟨rfl, rfl⟩ := hcut
        go_upto_if 199 with fail
        go_cut [205] from 178 to 219 (fun _ wd => ∃ d2, d2.size = sz ∧ Aside (SW enc w0 blk off d2 wd) ∧ Aside (PermIn a mid d1 d2 ∧ SortedIn (ltOf cf) a mid d2))
        case first =>
          by_cases hc1 : a < i ∧ i < mid
          · have hd : decide (a < i ∧ i < mid) = true := decide_eq_true hc1
            have cR := IH.out a i mid (a : Int) (i : Int) (mid : Int) d1 _ (by omega) rfl rfl rfl hz1 S1.out hc1.1 hc1.2 (by omega) Q1.out.s1 Q1.out.s2
            rw [hd]
            go_wp2_with fail
            refine cR.mono ?_
            rintro e' w1 ⟨rfl, d2, S2, P2, D2⟩
            have HD1 : Aside (d2.size = sz ∧ SW enc w0 blk off d2 w1 ∧ PermIn a mid d1 d2 ∧ SortedIn (ltOf cf) a mid d2) := ⟨P2.1.trans hz1, S2, P2, D2⟩
            clear cR S2 P2 D2
            go_wp2_with fail
            go_meet
            exact ⟨d2, HD1.out.1, HD1.out.2.1, HD1.out.2.2⟩
          · have hd : decide (a < i ∧ i < mid) = false := decide_eq_false hc1
            have hD : SortedIn (ltOf cf) a mid d1 := by
              by_cases h1 : a < i
              · have : i = mid := by omega
                subst this; exact Q1.out.s1
              · have : i = a := by omega
                subst this; exact Q1.out.s2
            have HD1 : Aside (SortedIn (ltOf cf) a mid d1) := hD
            clear hD
            rw [hd]
            go_wp2_with fail
            go_meet
            exact ⟨d1, hz1, S1, permIn_refl _ _ _, HD1.out⟩
        case rest =>
        clear S1
        obtain ⟨d2, hz2, S1, P2⟩ := hcut
        rename World => wr
        have hs3 : SortedIn (ltOf cf) mid e d2 := fun p q h1 h2 h3 => by
          rw [P2.out.1.2.1 p (by omega), P2.out.1.2.1 q (by omega)]; exact Q1.out.s3 p q h1 h2 h3
        have hs4 : SortedIn (ltOf cf) e b d2 := fun p q h1 h2 h3 => by
          rw [P2.out.1.2.1 p (by omega), P2.out.1.2.1 q (by omega)]; exact Q1.out.s4 p q h1 h2 h3
        have H34 : Aside (SortedIn (ltOf cf) mid e d2 ∧ SortedIn (ltOf cf) e b d2) := ⟨hs3, hs4⟩
        have hfin : ∀ d3, PermIn mid b d2 d3 → SortedIn (ltOf cf) mid b d3 → PermIn a b d d3 ∧ SortedIn (ltOf cf) a b d3 := fun d3 h1 h2 => by
          have := Q1.out.whole (by omega) (by omega) (by omega) P2.out.1 P2.out.2 h1 h2
          exact ⟨permIn_trans _ _ _ _ _ P1.out this.1, this.2⟩
        have HFN : Aside _ := hfin
        clear hs3 hs4 hfin P1 P2 Q1
        by_cases h1 : mid < e
        · have h1z : (mid : Int) < (e : Int) := by omega
          by_cases h2 : e < b
          · have h2z : (e : Int) < (b : Int) := by omega
            have cR := IH.out mid e b (mid : Int) (e : Int) (b : Int) d2 wr (by omega) rfl rfl rfl hz2 S1.out h1 h2 (by omega) H34.out.1 H34.out.2
            clear S1
            go_wp2_with fail
            refine cR.mono ?_
            rintro e' w1 ⟨rfl, d3, S2, P3, D3⟩
            have HD1 : Aside (SW enc w0 blk off d3 w1 ∧ PermIn a b d d3 ∧ SortedIn (ltOf cf) a b d3) := ⟨S2, HFN.out d3 P3 D3⟩
            clear cR S2 P3 D3
            go_wp2
            go_end0
            exact ⟨rfl, d3, HD1.out.1, HD1.out.2⟩
          · have h2z : ¬ (e : Int) < (b : Int) := by omega
            have heb : e = b := by omega
            have HD1 : Aside (PermIn a b d d2 ∧ SortedIn (ltOf cf) a b d2) := HFN.out d2 (permIn_refl _ _ _) (heb ▸ H34.out.1)
            clear heb
            go_wp2
            go_end0
            exact ⟨rfl, d2, S1.out, HD1.out⟩
        · have h1z : ¬ (mid : Int) < (e : Int) := by omega
          have heb : e = mid := by omega
          have HD1 : Aside (PermIn a b d d2 ∧ SortedIn (ltOf cf) a b d2) := HFN.out d2 (permIn_refl _ _ _) (heb ▸ H34.out.2)
          clear heb
          go_wp2
          go_end0
          exact ⟨rfl, d2, S1.out, HD1.out⟩
end Go.Proofs.YtcocbjipikeebaaDoor.Srt
/-
  The library's contract of slices.insertionSortCmpFunc, laid at this program's numbers.
-/
namespace Go.Proofs
open Go.Shelf
def Tryd.laysSlF20_f64_ren : Go.Shelf.Ren := ⟨fun | 20 => 64 | n => n, fun | 24 => 3 | 22 => 42 | 3 => 3 | 25 => 63 | 4 => 4 | 0 => 0 | n => n, fun | n => n⟩
theorem Tryd.laysSlF20_f64 : Go.Proofs.SlLaysF.n20 Tryd.prog Tryd.laysSlF20_f64_ren := {
  mixed := by kernel_rfl
  f20 := ⟨Tryd.f64.name, by decide, Tryd.func64.trans (congrArg some (by kernel_rfl))⟩
  t0 := Tryd.underlying0
  a0 := Tryd.isAgg0
  z0 := Tryd.sizeOf0
  v0 := Tryd.zeroValue0
  t3 := Tryd.underlying3
  a3 := Tryd.isAgg3
  z3 := Tryd.sizeOf3
  v3 := Tryd.zeroValue3
  t4 := Tryd.underlying4
  a4 := Tryd.isAgg4
  z4 := Tryd.sizeOf4
  v4 := Tryd.zeroValue4
  t22 := Tryd.underlying42
  a22 := Tryd.isAgg42
  z22 := Tryd.sizeOf42
  v22 := Tryd.zeroValue42
  a24 := Tryd.isAgg3
  z24 := Tryd.sizeOf3
  t25 := Tryd.underlying63
  a25 := Tryd.isAgg63
  z25 := Tryd.sizeOf63
  v25 := Tryd.zeroValue63 }
open Go.RowKit Go.Lib Go.Sort in
theorem Tryd.insertionSortCmpFunc_one {α : Type} [Inhabited α] (enc : α → Value) (hO : OneCell enc) (cf : α → α → Int) (g : Nat) (cb : Array Value) (blk off cap a b : Nat) (d : Array α) (w : World) (eg : ∀ args w, (callFunc g args).run Tryd.prog w = .ok (.enter g args) w) (hcmp : CmpReads Tryd.prog g cb enc cf blk off d.size w) (hH : Holds enc w blk off d) (hab : a ≤ b) (hb : b ≤ d.size) (hsz : d.size < 4611686018427387904) :
    Calls Tryd.prog 64 #[.slice (some ⟨blk, off, none⟩) d.size cap, .int .i64 a, .int .i64 b, .func (.func g) #[] cb] w fun e w' =>
      e = .returned (.tuple #[]) ∧ ∃ n, w' = (putRow enc w blk off (Sort.insertionSort (ltOf cf) d a b)).drewN n := Any.insertionSortCmpFunc_one Tryd.laysSlF20_f64 enc hO cf g cb blk off cap a b d w eg hcmp hH hab hb hsz
open Go.RowKit Go.Lib Go.Sort in
theorem Tryd.insertionSortCmpFunc_s {α : Type} [Inhabited α] (enc : α → Value) (cf : α → α → Int) (g : Nat) (cb : Array Value) (blk off cap a b : Nat) (d0 d : Array α) (w0 w : World) (eg : ∀ args w, (callFunc g args).run Tryd.prog w = .ok (.enter g args) w) (hcmp : CmpLays1 Tryd.prog g cb enc cf blk off d0.size w0) (R : Row1 enc w0 blk off d0) (hs : d0.size = d.size) (S : SW enc w0 blk off d w) (hab : a ≤ b) (hb : b ≤ d.size) (hsz : d.size < 4611686018427387904) :
    Calls Tryd.prog 64 #[.slice (some ⟨blk, off, none⟩) d.size cap, .int .i64 a, .int .i64 b, .func (.func g) #[] cb] w fun e w' => e = .returned (.tuple #[]) ∧ SW enc w0 blk off (Sort.insertionSort (ltOf cf) d a b) w' := Any.insertionSortCmpFunc_s Tryd.laysSlF20_f64 enc cf g cb blk off cap a b d0 d w0 w eg hcmp R hs S hab hb hsz
end Go.Proofs
/-
  The library's stable sort (slices.SortStableFunc) of up to forty values of one cell walked: the values, in order.
-/
namespace Go.Proofs.YtcocbjipikeebaaDoor.Srt
open Go Go.Shelf Go.RowKit Go.Lib Go.Sort Go.Proofs
variable {α : Type} [Inhabited α]

theorem symMerge_fuel (enc : α → Value) (cf : α → α → Int) (hO : SWO (ltOf cf)) (g : Nat) (cb : Array Value) (blk off cap sz : Nat) (d0 : Array α) (w0 : World) (R : Row1 enc w0 blk off d0) (hd0 : d0.size = sz) (hsz : sz < 4611686018427387904)
    (eg : ∀ args w, (callFunc g args).run Tryd.prog w = .ok (.enter g args) w) (hcmp : CmpLays1 Tryd.prog g cb enc cf blk off d0.size w0) : ∀ (N a m b : Nat) (za zm zb : Int) (d : Array α) (w : World), b - a ≤ N → za = a → zm = m → zb = b → d.size = sz →
    SW enc w0 blk off d w → a < m → m < b → b ≤ sz → SortedIn (ltOf cf) a m d → SortedIn (ltOf cf) m b d →
    Calls Tryd.prog 65 #[.slice (some ⟨blk, off, none⟩) sz cap, .int .i64 za, .int .i64 zm, .int .i64 zb, .func (.func g) #[] cb] w fun e w' => e = .returned (.tuple #[]) ∧ ∃ d', SW enc w0 blk off d' w' ∧ PermIn a b d d' ∧ SortedIn (ltOf cf) a b d' := by
  intro N
  induction N with
  | zero => intro a m b za zm zb d w h1; omega
  | succ N ih =>
    intro a m b za zm zb d w hN hza hzm hzb hds S ham hmb hbs hl hr
    subst hza hzm hzb
    by_cases hm1 : m = a + 1
    · exact symMerge_one enc cf hO g cb blk off cap sz d0 w0 R hd0 hsz eg hcmp a m b d w hds S ham hmb hbs hr hm1
    · by_cases hm2 : b = m + 1
      · exact symMerge_last enc cf hO g cb blk off cap sz d0 w0 R hd0 hsz eg hcmp a m b d w hds S ham hmb hbs hl hm1 hm2
      · exact symMerge_mid enc cf hO g cb blk off cap sz d0 w0 R hd0 hsz eg hcmp a m b d w hds S ham hmb hbs hl hr hm1 hm2
          (fun a' m' b' za zm zb d w h => ih a' m' b' za zm zb d w (by omega))

theorem insertion_any (enc : α → Value) (cf : α → α → Int) (hO : SWO (ltOf cf)) (g : Nat) (cb : Array Value) (blk off cap sz a b : Nat) (za zb : Int) (d0 d : Array α) (w0 w : World) (R : Row1 enc w0 blk off d0) (hd0 : d0.size = sz) (hds : d.size = sz) (hsz : sz < 4611686018427387904)
    (eg : ∀ args w, (callFunc g args).run Tryd.prog w = .ok (.enter g args) w) (hcmp : CmpLays1 Tryd.prog g cb enc cf blk off d0.size w0) (S : SW enc w0 blk off d w) (hza : za = a) (hzb : zb = b) (hab : a ≤ b) (hb : b ≤ sz) :
    Calls Tryd.prog 64 #[.slice (some ⟨blk, off, none⟩) sz cap, .int .i64 za, .int .i64 zb, .func (.func g) #[] cb] w fun e w' => e = .returned (.tuple #[]) ∧ ∃ d', SW enc w0 blk off d' w' ∧ PermIn a b d d' ∧ SortedIn (ltOf cf) a b d' := by
  subst hza hzb
  have h := insertionSort_holds (lt := ltOf cf) hO d a b hab (by omega)
  have := Tryd.insertionSortCmpFunc_s enc cf g cb blk off cap a b d0 d w0 w eg hcmp R (by omega) S hab (by omega) (by omega)
  rw [hds] at this
  exact this.mono fun e w' ⟨he, hS⟩ => ⟨he, _, hS, h.1, h.2⟩

set_option maxHeartbeats 4000000 in
set_option maxRecDepth 100000 in
theorem stable_any (enc : α → Value) (cf : α → α → Int) (hO : SWO (ltOf cf)) (g : Nat) (cb : Array Value) (blk off cap sz : Nat) (d0 : Array α) (w0 : World) (R : Row1 enc w0 blk off d0) (hd0 : d0.size = sz) (h40 : sz ≤ 40)
    (eg : ∀ args w, (callFunc g args).run Tryd.prog w = .ok (.enter g args) w) (hcmp : CmpLays1 Tryd.prog g cb enc cf blk off d0.size w0) :
    Calls Tryd.prog 47 #[.slice (some ⟨blk, off, none⟩) sz cap, .int .i64 sz, .func (.func g) #[] cb] w0 fun e w' => e = .returned (.tuple #[]) ∧ ∃ d', SW enc w0 blk off d' w' ∧ PermIn 0 sz d0 d' ∧ SortedIn (ltOf cf) 0 sz d' := by
  have hI : Aside (∀ (a b : Nat) (za zb : Int) (d : Array α) (w : World), d.size = sz → SW enc w0 blk off d w → za = a → zb = b → a ≤ b → b ≤ sz → _) := fun a b za zb d w h1 h2 h3 h4 h5 h6 => insertion_any enc cf hO g cb blk off cap sz a b za zb d0 d w0 w R hd0 h1 (by omega) eg hcmp h2 h3 h4 h5 h6
  have hM : Aside _ := symMerge_fuel enc cf hO g cb blk off cap sz d0 w0 R hd0 (by omega) eg hcmp sz
  have S0 : SW enc w0 blk off d0 w0 := SW.start R.hH
  clear hcmp
  go_enter Tryd.func47, Tryd.ntmps47
  go_wp2
  go_loopg [7, 8] 3 (fun g1 va vb wr => ∃ (k : Nat) (dk : Array α), va = .int .i64 (20 * (k : Int)) ∧ vb = .int .i64 (20 * (k : Int) + 20) ∧ 20 * k ≤ sz ∧ 3 - k ≤ g1 ∧ dk.size = sz ∧ Aside (SW enc w0 blk off dk wr) ∧ Aside (PermIn 0 sz d0 dk ∧ (1 ≤ k → SortedIn (ltOf cf) 0 20 dk) ∧ (2 ≤ k → SortedIn (ltOf cf) 20 40 dk)))
  case atStart => exact ⟨0, d0, rfl, rfl, by omega, by omega, hd0, S0, ⟨permIn_refl _ _ _, fun h => by omega, fun h => by omega⟩⟩
  case round =>
    clear S0
    obtain ⟨k, dk, rfl, rfl, hk, hg1, hzk, S1, HD⟩ := hrel
    by_cases hlt : 20 * k + 20 ≤ sz
    · have hltz : 20 * (k : Int) + 20 ≤ (sz : Int) := by omega
      have cI := hI.out (20 * k) (20 * k + 20) (20 * (k : Int)) (20 * (k : Int) + 20) dk wr hzk S1.out (by omega) (by omega) (by omega) hlt
      clear S1
      go_wp2_with fail
      refine cI.mono ?_
      rintro e w1 ⟨rfl, d1, S2, P2, D2⟩
      have hP : PermIn 0 sz d0 d1 := permIn_trans _ _ _ _ _ HD.out.1 (permIn_mono _ _ _ _ _ _ (Nat.zero_le _) (by omega) (by omega) P2)
      have h1 : 1 ≤ k + 1 → SortedIn (ltOf cf) 0 20 d1 := fun _ => by
        by_cases h0 : k = 0
        · subst h0; exact D2
        · exact fun p q a1 a2 a3 => by rw [P2.2.1 p (by omega), P2.2.1 q (by omega)]; exact HD.out.2.1 (by omega) p q a1 a2 a3
      have h2 : 2 ≤ k + 1 → SortedIn (ltOf cf) 20 40 d1 := fun h => by
        obtain rfl : k = 1 := by omega
        exact D2
      have HD1 : Aside (d1.size = sz ∧ SW enc w0 blk off d1 w1 ∧ PermIn 0 sz d0 d1 ∧ (1 ≤ k + 1 → SortedIn (ltOf cf) 0 20 d1) ∧ (2 ≤ k + 1 → SortedIn (ltOf cf) 20 40 d1)) := ⟨P2.1.trans hzk, S2, hP, h1, h2⟩
      clear S2 P2 D2 hP h1 h2 HD cI
      go_wp2
      go_roundg (3 - (k + 1))
      case measure => omega
      case rel => exact ⟨k + 1, d1, by first | go_num | (congr 1; omega), by first | go_num | (congr 1; omega), by omega, Nat.le_refl _, HD1.out.1, HD1.out.2.1, HD1.out.2.2⟩
    · have hltz : ¬ 20 * (k : Int) + 20 ≤ (sz : Int) := by omega
      have cI := hI.out (20 * k) sz (20 * (k : Int)) sz dk wr hzk S1.out (by omega) rfl hk (Nat.le_refl _)
      clear S1
      go_wp2_with fail
      refine cI.mono ?_
      rintro e w1 ⟨rfl, d1, S2, P2, D2⟩
      have hP : PermIn 0 sz d0 d1 := permIn_trans _ _ _ _ _ HD.out.1 (permIn_mono _ _ _ _ _ _ (Nat.zero_le _) (Nat.le_refl _) (by omega) P2)
      have h1 : SortedIn (ltOf cf) 0 (min 20 sz) d1 := by
        by_cases h0 : k = 0
        · subst h0; exact fun p q a1 a2 a3 => D2 p q a1 a2 (by omega)
        · exact fun p q a1 a2 a3 => by rw [P2.2.1 p (by omega), P2.2.1 q (by omega)]; exact HD.out.2.1 (by omega) p q a1 a2 (by omega)
      have h2 : SortedIn (ltOf cf) 20 sz d1 := by
        by_cases h0 : k = 2
        · have : sz = 40 := by omega
          exact fun p q a1 a2 a3 => by rw [P2.2.1 p (by omega), P2.2.1 q (by omega)]; exact HD.out.2.2 (by omega) p q a1 a2 (by omega)
        · by_cases h1' : k = 1
          · subst h1'; exact D2
          · exact fun p q a1 a2 a3 => by omega
      have HD1 : Aside (PermIn 0 sz d0 d1 ∧ SortedIn (ltOf cf) 0 (min 20 sz) d1 ∧ SortedIn (ltOf cf) 20 sz d1) := ⟨hP, h1, h2⟩
      have hz1 : d1.size = sz := P2.1.trans hzk
      have S3 : Aside (SW enc w0 blk off d1 w1) := S2
      clear S2 P2 D2 hP h1 h2 HD cI
      go_wp2
      go_loopg [6, 7, 8] 60 (fun g1 vs va vb wr => ∃ (bs : Nat) (dk : Array α), vs = .int .i64 (bs : Int) ∧ 60 - bs ≤ g1 ∧ dk.size = sz ∧ Aside (SW enc w0 blk off dk wr) ∧ Aside ((bs = 20 ∧ PermIn 0 sz d0 dk ∧ SortedIn (ltOf cf) 0 (min 20 sz) dk ∧ SortedIn (ltOf cf) 20 sz dk) ∨ (bs = 40 ∧ PermIn 0 sz d0 dk ∧ SortedIn (ltOf cf) 0 sz dk)))
      case atStart => exact ⟨20, d1, rfl, by omega, hz1, S3, .inl ⟨rfl, HD1.out⟩⟩
      case round =>
        clear S3 HD1 hz1
        obtain ⟨bs, dk, rfl, hg1, hzk, S1, HD⟩ := hrel
        rename World => wr
        rcases HD.out with ⟨hbs, hD⟩ | ⟨hbs, hD⟩
        · subst hbs
          have HE : Aside (PermIn 0 sz d0 dk ∧ SortedIn (ltOf cf) 0 (min 20 sz) dk ∧ SortedIn (ltOf cf) 20 sz dk) := hD
          clear HD hD
          by_cases h20 : 20 < sz
          · have h20z : (20 : Int) < (sz : Int) := by omega
            go_wp2
            go_loopg [7, 8] 2 (fun g1 va vb wq => ∃ (k : Nat) (dq : Array α), va = .int .i64 (40 * (k : Int)) ∧ vb = .int .i64 (40 * (k : Int) + 40) ∧ k ≤ 1 ∧ 2 - k ≤ g1 ∧ dq.size = sz ∧ Aside (SW enc w0 blk off dq wq) ∧ Aside (PermIn 0 sz d0 dq ∧ (k = 0 → SortedIn (ltOf cf) 0 20 dq ∧ SortedIn (ltOf cf) 20 sz dq) ∧ (k = 1 → sz = 40 ∧ SortedIn (ltOf cf) 0 sz dq)))
            case atStart => exact ⟨0, dk, rfl, rfl, by omega, by omega, hzk, S1, ⟨HE.out.1, fun _ => ⟨fun p q a1 a2 a3 => HE.out.2.1 p q a1 a2 (by omega), HE.out.2.2⟩, fun h => by omega⟩⟩
            case round =>
              clear S1 HE hzk
              obtain ⟨k, dk, rfl, rfl, hk1, hg2, hzk, S1, HD⟩ := hrel
              rename World => wr
              by_cases hlt : 40 * k + 40 ≤ sz
              · have hltz : 40 * (k : Int) + 40 ≤ (sz : Int) := by omega
                have hk0 : k = 0 := by omega
                have hs40 : sz = 40 := by omega
                have cM := hM.out (40 * k) (40 * k + 20) (40 * k + 40) (40 * (k : Int)) (40 * (k : Int) + 20) (40 * (k : Int) + 40) dk wr (by omega) (by omega) (by omega) (by omega) hzk S1.out (by omega) (by omega) hlt
                  (by rw [hk0]; exact (HD.out.2.1 hk0).1) (by rw [hk0]; exact fun p q a1 a2 a3 => (HD.out.2.1 hk0).2 p q a1 a2 (by omega))
                have HK : Aside (k = 0 ∧ sz = 40) := ⟨hk0, hs40⟩
                clear S1 hk0 hs40
                go_wp2_with fail
                refine cM.mono ?_
                rintro e w1 ⟨rfl, d1, S2, P2, D2⟩
                have HD1 : Aside (d1.size = sz ∧ SW enc w0 blk off d1 w1 ∧ PermIn 0 sz d0 d1 ∧ (k + 1 = 0 → SortedIn (ltOf cf) 0 20 d1 ∧ SortedIn (ltOf cf) 20 sz d1) ∧ (k + 1 = 1 → sz = 40 ∧ SortedIn (ltOf cf) 0 sz d1)) := by
                  refine ⟨P2.1.trans hzk, S2, permIn_trans _ _ _ _ _ HD.out.1 (permIn_mono _ _ _ _ _ _ (Nat.zero_le _) (by omega) (by omega) P2), fun h => by omega, fun _ => ⟨HK.out.2, fun p q a1 a2 a3 => D2 p q (by have := HK.out.1; omega) a2 (by have := HK.out.2; omega)⟩⟩
                clear S2 P2 D2 HD cM
                go_wp2
                go_roundg (2 - (k + 1))
                case measure => omega
                case rel => exact ⟨k + 1, d1, by first | go_num | (congr 1; omega), by first | go_num | (congr 1; omega), by have := HK.out.1; omega, Nat.le_refl _, HD1.out.1, HD1.out.2.1, HD1.out.2.2⟩
              · have hltz : ¬ 40 * (k : Int) + 40 ≤ (sz : Int) := by omega
                by_cases hk0 : k = 0
                · have hm : 40 * (k : Int) + 20 < (sz : Int) := by omega
                  have cM := hM.out (40 * k) (40 * k + 20) sz (40 * (k : Int)) (40 * (k : Int) + 20) sz dk wr (by omega) (by omega) (by omega) rfl hzk S1.out (by omega) (by omega) (Nat.le_refl _)
                    (by rw [hk0]; exact (HD.out.2.1 hk0).1) (by rw [hk0]; exact (HD.out.2.1 hk0).2)
                  have HK : Aside (k = 0) := hk0
                  clear S1 hk0
                  go_wp2_with fail
                  refine cM.mono ?_
                  rintro e w1 ⟨rfl, d1, S2, P2, D2⟩
                  have HD1 : Aside (d1.size = sz ∧ SW enc w0 blk off d1 w1 ∧ PermIn 0 sz d0 d1 ∧ SortedIn (ltOf cf) 0 sz d1) := by
                    refine ⟨P2.1.trans hzk, S2, permIn_trans _ _ _ _ _ HD.out.1 (permIn_mono _ _ _ _ _ _ (Nat.zero_le _) (by omega) (by omega) P2), fun p q a1 a2 a3 => D2 p q (by have := HK.out; omega) a2 (by omega)⟩
                  clear S2 P2 D2 HD cM
                  go_wp2
                  go_roundg 20
                  case measure => omega
                  case rel => exact ⟨40, d1, rfl, by omega, HD1.out.1, HD1.out.2.1, .inr ⟨rfl, HD1.out.2.2⟩⟩
                · have hm : ¬ 40 * (k : Int) + 20 < (sz : Int) := by omega
                  have HD1 : Aside (PermIn 0 sz d0 dk ∧ SortedIn (ltOf cf) 0 sz dk) := ⟨HD.out.1, (HD.out.2.2 (by omega)).2⟩
                  clear hk0 HD
                  go_wp2
                  go_roundg 20
                  case measure => omega
                  case rel => exact ⟨40, dk, rfl, by omega, hzk, S1, .inr ⟨rfl, HD1.out⟩⟩
          · have h20z : ¬ (20 : Int) < (sz : Int) := by omega
            have HF : Aside (PermIn 0 sz d0 dk ∧ SortedIn (ltOf cf) 0 sz dk) := ⟨HE.out.1, fun p q a1 a2 a3 => HE.out.2.1 p q a1 a2 (by omega)⟩
            go_wp2
            go_end0
            exact ⟨rfl, dk, S1.out, HF.out.1, HF.out.2⟩
        · subst hbs
          have HF : Aside (PermIn 0 sz d0 dk ∧ SortedIn (ltOf cf) 0 sz dk) := hD
          have h40z : ¬ (40 : Int) < (sz : Int) := by omega
          clear HD hD
          go_wp2
          go_end0
          exact ⟨rfl, dk, S1.out, HF.out.1, HF.out.2⟩
set_option maxHeartbeats 1000000 in
theorem sortStable_any (enc : α → Value) (cf : α → α → Int) (hO : SWO (ltOf cf)) (g : Nat) (cb : Array Value) (blk off cap sz : Nat) (d0 : Array α) (w0 : World) (R : Row1 enc w0 blk off d0) (hd0 : d0.size = sz) (h40 : sz ≤ 40)
    (eg : ∀ args w, (callFunc g args).run Tryd.prog w = .ok (.enter g args) w) (hcmp : CmpLays1 Tryd.prog g cb enc cf blk off d0.size w0) :
    Calls Tryd.prog 24 #[.slice (some ⟨blk, off, none⟩) sz cap, .func (.func g) #[] cb] w0 fun e w' => e = .returned (.tuple #[]) ∧ ∃ d', SW enc w0 blk off d' w' ∧ PermIn 0 sz d0 d' ∧ SortedIn (ltOf cf) 0 sz d' := by
  have cS := stable_any enc cf hO g cb blk off cap sz d0 w0 R hd0 h40 eg hcmp
  clear hcmp
  go_enter Tryd.func24, Tryd.ntmps24
  go_wp2_with fail
  refine cS.mono ?_
  rintro e w' ⟨rfl, h⟩
  clear cS
  go_wp2
  go_end0
  exact ⟨rfl, h⟩
end Go.Proofs.YtcocbjipikeebaaDoor.Srt
