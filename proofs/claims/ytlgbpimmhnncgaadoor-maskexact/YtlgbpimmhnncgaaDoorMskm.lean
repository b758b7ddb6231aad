/-
  Of no program: a word's numbers, rising; taking the lowest one off; the word of a list; a word's subsets in their order, and the step from one to the next.
-/
import Derived.Lib.TrailingZeros
namespace Go.Proofs.YtlgbpimmhnncgaaDoor.Msk
open Go Go.Lib

/-- The numbers of a word, rising. -/
def bitsL (m : Nat) : List Nat := (List.range 64).filter fun i => m.testBit i

theorem bitsL_le (m : Nat) : (bitsL m).length ≤ 64 := by
  have := List.length_filter_le (fun i => m.testBit i) (List.range 64)
  rw [List.length_range] at this
  exact this
theorem mem_bitsL {m i : Nat} : i ∈ bitsL m ↔ i < 64 ∧ m.testBit i = true := by
  unfold bitsL
  rw [List.mem_filter, List.mem_range]
theorem bitsL_sorted (m : Nat) : (bitsL m).Pairwise (· < ·) := List.Pairwise.filter _ List.pairwise_lt_range
theorem bitsL_zero : bitsL 0 = [] := by
  unfold bitsL
  rw [List.filter_eq_nil_iff]
  intro i _
  simp

theorem filter_low {p q : Nat → Bool} {k : Nat} (hk : p k = true) (hl : ∀ j, j < k → p j = false) (hq : ∀ j, q j = (p j && !decide (j = k))) :
    ∀ n, (n ≤ k → (List.range n).filter p = [] ∧ (List.range n).filter q = []) ∧ (k < n → (List.range n).filter p = k :: (List.range n).filter q)
  | 0 => ⟨fun _ => ⟨rfl, rfl⟩, fun h => by omega⟩
  | n + 1 => by
    obtain ⟨h1, h2⟩ := filter_low hk hl hq n
    refine ⟨fun h => ?_, fun h => ?_⟩
    · obtain ⟨e1, e2⟩ := h1 (by omega)
      rw [List.range_succ, List.filter_append, List.filter_append, e1, e2]
      have hp := hl n (by omega)
      have hq' := hq n
      rw [hp] at hq'
      simp [hp, hq']
    · rw [List.range_succ, List.filter_append, List.filter_append]
      by_cases hn : n = k
      · subst hn
        obtain ⟨e1, e2⟩ := h1 (Nat.le_refl _)
        have hq' := hq n
        rw [hk] at hq'
        rw [e1, e2]
        simp [hk, hq']
      · rw [h2 (by omega)]
        have hq' := hq n
        have : decide (n = k) = false := by simp [hn]
        rw [this] at hq'
        simp only [Bool.not_false, Bool.and_true] at hq'
        rw [List.cons_append]
        congr 2
        simp [List.filter, hq']

theorem low_facts (x : Nat) (h0 : x ≠ 0) (hx : x < 2 ^ 64) :
    ctz 64 x < 64 ∧ x.testBit (ctz 64 x) = true ∧ (∀ j, j < ctz 64 x → x.testBit j = false) ∧ ∀ j, (x &&& (x - 1)).testBit j = (x.testBit j && !decide (j = ctz 64 x)) := by
  have hc : ctz 64 x = ctzFrom 64 x := by unfold ctz; rw [if_neg h0]
  obtain ⟨m, hm, hk⟩ := ctzFrom_spec 64 x (by omega) hx
  rw [hc]
  generalize ctzFrom 64 x = k at *
  have hp : 0 < 2 ^ k := Nat.two_pow_pos k
  have e1 : x = 2 ^ k * (2 * m + 1) + 0 := by omega
  have e2 : x - 1 = 2 ^ k * (2 * m) + (2 ^ k - 1) := by rw [hm, Nat.mul_add, Nat.mul_one]; omega
  have t1 : ∀ j, x.testBit j = if j < k then false else (2 * m + 1).testBit (j - k) := fun j => by
    rw [e1, Nat.testBit_two_pow_mul_add _ hp]
    simp
  have t2 : ∀ j, (x - 1).testBit j = if j < k then true else (2 * m).testBit (j - k) := fun j => by
    rw [e2, Nat.testBit_two_pow_mul_add _ (by omega)]
    by_cases h : j < k
    · simp [h, Nat.testBit_two_pow_sub_one]
    · simp [h]
  refine ⟨hk, ?_, fun j hj => ?_, fun j => ?_⟩
  · rw [t1, if_neg (by omega), Nat.sub_self, Nat.testBit_zero]
    simp
  · rw [t1, if_pos hj]
  · rw [Nat.testBit_and, t2, t1]
    by_cases h : j < k
    · rw [if_pos h, if_pos h]; simp
    · rw [if_neg h, if_neg h]
      by_cases he : j = k
      · subst he
        rw [Nat.sub_self, Nat.testBit_zero, Nat.testBit_zero]
        have : 2 * m % 2 = 0 := by omega
        simp
      · obtain ⟨d, hd⟩ : ∃ d, j - k = d + 1 := ⟨j - k - 1, by omega⟩
        rw [hd, Nat.testBit_succ, Nat.testBit_succ, show (2 * m + 1) / 2 = m by omega, show 2 * m / 2 = m by omega]
        simp [he]

theorem bitsL_step (x : Nat) (h0 : x ≠ 0) (hx : x < 2 ^ 64) : bitsL x = ctz 64 x :: bitsL (x &&& (x - 1)) := by
  obtain ⟨hk, h1, h2, h3⟩ := low_facts x h0 hx
  exact (filter_low h1 h2 h3 64).2 hk
theorem rest_lt {x : Nat} (hx : x < 2 ^ 64) : x &&& (x - 1) < 2 ^ 64 := Nat.and_lt_two_pow _ (by omega)

/-- The word of a list. -/
def ofStep (m : Nat) (i : Int) : Nat := if 0 ≤ i ∧ i < 64 then m ||| 2 ^ i.toNat else m
def ofL (zs : List Int) : Nat := zs.foldl ofStep 0
theorem ofL_snoc (zs : List Int) (i : Int) : ofL (zs ++ [i]) = ofStep (ofL zs) i := by simp [ofL]
theorem ofStep_lt {m : Nat} (h : m < 2 ^ 64) (i : Int) : ofStep m i < 2 ^ 64 := by
  unfold ofStep
  split
  · refine Nat.or_lt_two_pow h ?_
    exact Nat.pow_lt_pow_right (by decide) (by omega)
  · exact h
theorem ofF_lt : ∀ (zs : List Int) (m : Nat), m < 2 ^ 64 → zs.foldl ofStep m < 2 ^ 64
  | [], _, h => h
  | i :: r, m, h => ofF_lt r (ofStep m i) (ofStep_lt h i)
theorem ofL_lt (zs : List Int) : ofL zs < 2 ^ 64 := ofF_lt zs 0 (by decide)
theorem ofStep_bit (m : Nat) (i : Int) (j : Nat) (hj : j < 64) : (ofStep m i).testBit j = (m.testBit j || decide (i = (j : Int))) := by
  unfold ofStep
  by_cases h : 0 ≤ i ∧ i < 64
  · rw [if_pos h, Nat.testBit_or, Nat.testBit_two_pow]
    congr 1
    exact decide_eq_decide.2 ⟨fun e => by omega, fun e => by omega⟩
  · rw [if_neg h]
    have : decide (i = (j : Int)) = false := by rw [decide_eq_false_iff_not]; omega
    rw [this, Bool.or_false]
theorem ofF_bit (j : Nat) (hj : j < 64) : ∀ (zs : List Int) (m : Nat), (zs.foldl ofStep m).testBit j = (m.testBit j || decide ((j : Int) ∈ zs))
  | [], m => by simp
  | i :: r, m => by
    rw [List.foldl_cons, ofF_bit j hj r, ofStep_bit m i j hj, Bool.or_assoc]
    congr 1
    by_cases h : i = (j : Int)
    · simp [h]
    · have h' : ¬ (j : Int) = i := fun e => h e.symm
      simp [h, h']
theorem ofL_bit (zs : List Int) (j : Nat) (hj : j < 64) : (ofL zs).testBit j = decide ((j : Int) ∈ zs) := by
  unfold ofL
  rw [ofF_bit j hj]
  simp
/-- A list of numbers as the words of the program have them. -/
def ints (l : List Nat) : List Int := l.map fun i : Nat => (i : Int)
theorem ofL_back (m : Nat) (h : m < 2 ^ 64) : ofL (ints (bitsL m)) = m := by
  apply Nat.eq_of_testBit_eq
  intro j
  by_cases hj : j < 64
  · rw [ofL_bit _ j hj]
    cases hb : m.testBit j with
    | true => 
      rw [decide_eq_true_eq]
      exact List.mem_map.2 ⟨j, mem_bitsL.2 ⟨hj, hb⟩, rfl⟩
    | false =>
      rw [decide_eq_false_iff_not]
      intro hm
      obtain ⟨i, hi, e⟩ := List.mem_map.1 hm
      obtain rfl : i = j := by omega
      rw [(mem_bitsL.1 hi).2] at hb
      cases hb
  · have hp : 2 ^ 64 ≤ 2 ^ j := Nat.pow_le_pow_right (by decide) (by omega)
    rw [Nat.testBit_lt_two_pow (Nat.lt_of_lt_of_le (ofL_lt _) hp), Nat.testBit_lt_two_pow (Nat.lt_of_lt_of_le h hp)]

/-- To add a number that is not there is to put it there. -/
theorem add_bit (m i : Nat) (hm : m < 2 ^ 64) (hi : i < 64) (h : m.testBit i = false) : m + 2 ^ i = m ||| 2 ^ i := by
  have hp : 2 ^ i < 2 ^ 64 := Nat.pow_lt_pow_right (by decide) hi
  have ha : m &&& 2 ^ i = 0 := by
    apply Nat.eq_of_testBit_eq
    intro j
    rw [Nat.testBit_and, Nat.testBit_two_pow, Nat.zero_testBit]
    by_cases e : i = j
    · subst e; rw [h]; rfl
    · simp [e]
  have hq : m + 2 ^ i < 2 ^ 65 := by omega
  have hb := BitVec.add_eq_or_of_and_eq_zero (BitVec.ofNat 65 m) (BitVec.ofNat 65 (2 ^ i)) (by
    apply BitVec.eq_of_toNat_eq
    rw [BitVec.toNat_and, BitVec.toNat_ofNat, BitVec.toNat_ofNat, Nat.mod_eq_of_lt (by omega), Nat.mod_eq_of_lt (by omega), ha]
    rfl)
  have := congrArg BitVec.toNat hb
  rw [BitVec.toNat_add, BitVec.toNat_or, BitVec.toNat_ofNat, BitVec.toNat_ofNat, Nat.mod_eq_of_lt (a := m) (by omega), Nat.mod_eq_of_lt (a := 2 ^ i) (by omega), Nat.mod_eq_of_lt hq] at this
  exact this
theorem bit_div (m i : Nat) : m.testBit i = decide (m / 2 ^ i % 2 = 1) := Nat.testBit_eq_decide_div_mod_eq

/-- The subset of a word whose number among its subsets is k. -/
def dep : Nat → Nat → Nat → Nat
  | 0, _, _ => 0
  | f + 1, m, k => if m % 2 = 1 then k % 2 + 2 * dep f (m / 2) (k / 2) else 2 * dep f (m / 2) k
def cnt : Nat → Nat → Nat
  | 0, _ => 0
  | f + 1, m => m % 2 + cnt f (m / 2)
def bitsF (f m : Nat) : List Nat := (List.range f).filter fun i => m.testBit i
theorem bitsF_succ (f m : Nat) : bitsF (f + 1) m = (if m % 2 = 1 then [0] else []) ++ (bitsF f (m / 2)).map (· + 1) := by
  unfold bitsF
  rw [List.range_succ_eq_map, List.filter_cons, List.filter_map]
  have e : ((fun i => m.testBit i) ∘ Nat.succ) = fun i => (m / 2).testBit i := by
    funext i
    exact Nat.testBit_succ m i
  rw [e, Nat.testBit_zero]
  by_cases h : m % 2 = 1
  · simp [h]
  · simp [h]
theorem cnt_len : ∀ (f m : Nat), (bitsF f m).length = cnt f m
  | 0, _ => rfl
  | f + 1, m => by
    rw [bitsF_succ, List.length_append, List.length_map, cnt_len f, cnt]
    by_cases h : m % 2 = 1
    · simp [h]
    · have : m % 2 = 0 := by omega
      simp [this]
theorem cnt_bits (m : Nat) : (bitsL m).length = cnt 64 m := cnt_len 64 m
theorem dep_zero : ∀ (f m : Nat), dep f m 0 = 0
  | 0, _ => rfl
  | f + 1, m => by
    rw [dep, dep_zero f]
    simp
theorem dep_sub : ∀ (f m k j : Nat), (dep f m k).testBit j = true → m.testBit j = true
  | 0, m, k, j, h => by simp [dep] at h
  | f + 1, m, k, 0, h => by
    rw [dep] at h
    rw [Nat.testBit_zero] at h ⊢
    by_cases hm : m % 2 = 1
    · simp [hm]
    · rw [if_neg hm] at h
      simp at h
  | f + 1, m, k, j + 1, h => by
    rw [dep] at h
    rw [Nat.testBit_succ] at h ⊢
    by_cases hm : m % 2 = 1
    · rw [if_pos hm, show (k % 2 + 2 * dep f (m / 2) (k / 2)) / 2 = dep f (m / 2) (k / 2) by omega] at h
      exact dep_sub f _ _ j h
    · rw [if_neg hm, show 2 * dep f (m / 2) k / 2 = dep f (m / 2) k by omega] at h
      exact dep_sub f _ _ j h
theorem dep_lt : ∀ (f m k : Nat), dep f m k < 2 ^ f
  | 0, _, _ => by simp [dep]
  | f + 1, m, k => by
    rw [dep, Nat.pow_succ]
    have h1 := dep_lt f (m / 2) (k / 2)
    have h2 := dep_lt f (m / 2) k
    split <;> omega
theorem dep_last : ∀ (f m : Nat), m < 2 ^ f → dep f m (2 ^ cnt f m - 1) = m
  | 0, m, h => by simp at h; subst h; rfl
  | f + 1, m, h => by
    rw [Nat.pow_succ] at h
    have ih := dep_last f (m / 2) (by omega)
    have hp := Nat.two_pow_pos (cnt f (m / 2))
    rw [dep, cnt]
    by_cases hm : m % 2 = 1
    · rw [if_pos hm, hm, Nat.add_comm 1, Nat.pow_succ, show (2 ^ cnt f (m / 2) * 2 - 1) / 2 = 2 ^ cnt f (m / 2) - 1 by omega, ih]
      omega
    · have h0 : m % 2 = 0 := by omega
      rw [if_neg hm, h0, Nat.zero_add, ih]
      omega
theorem dep_mono : ∀ (f m k k' : Nat), k < k' → k' < 2 ^ cnt f m → dep f m k < dep f m k'
  | 0, m, k, k', h, h' => by simp [cnt] at h'; omega
  | f + 1, m, k, k', h, h' => by
    rw [cnt] at h'
    rw [dep, dep]
    by_cases hm : m % 2 = 1
    · rw [if_pos hm, if_pos hm]
      rw [hm, Nat.add_comm 1, Nat.pow_succ] at h'
      by_cases e : k / 2 = k' / 2
      · rw [e]; omega
      · have := dep_mono f (m / 2) (k / 2) (k' / 2) (by omega) (by omega)
        omega
    · have h0 : m % 2 = 0 := by omega
      rw [h0, Nat.zero_add] at h'
      rw [if_neg hm, if_neg hm]
      have := dep_mono f (m / 2) k k' h h'
      omega

/-- The step from a subset to the next, in words of f bits. -/
def aft (f s m : Nat) : Nat := ((s ||| (2 ^ f - 1 - m)) + 1) % 2 ^ f &&& m
theorem or_back (f s m : Nat) (hm : m < 2 ^ f) (hs : s < 2 ^ f) (hsub : ∀ j, s.testBit j = true → m.testBit j = true) : (s ||| (2 ^ f - 1 - m)) % 2 ^ f &&& m = s := by
  have hlt : s ||| (2 ^ f - 1 - m) < 2 ^ f := Nat.or_lt_two_pow hs (by omega)
  rw [Nat.mod_eq_of_lt hlt]
  apply Nat.eq_of_testBit_eq
  intro j
  rw [Nat.testBit_and, Nat.testBit_or, show 2 ^ f - 1 - m = 2 ^ f - (m + 1) by omega, Nat.testBit_two_pow_sub_succ hm]
  cases hb : s.testBit j with
  | true => rw [hsub j hb]; rfl
  | false => cases m.testBit j <;> simp
theorem two_eq {a b : Nat} (h1 : a / 2 = b / 2) (h2 : a % 2 = 1 ↔ b % 2 = 1) : a = b := by
  by_cases h : a % 2 = 1
  · have := h2.1 h; omega
  · have : ¬ b % 2 = 1 := fun e => h (h2.2 e)
    omega
theorem dep_next : ∀ (f m k : Nat), m < 2 ^ f → k + 1 < 2 ^ cnt f m → aft f (dep f m k) m = dep f m (k + 1)
  | 0, m, k, _, h => by simp [cnt] at h
  | f + 1, m, k, hm, h => by
    have hm0 := hm
    rw [Nat.pow_succ] at hm
    rw [cnt] at h
    have hp : 0 < 2 ^ f := Nat.two_pow_pos f
    have hC : (2 ^ (f + 1) - 1 - m) / 2 = 2 ^ f - 1 - m / 2 := by rw [Nat.pow_succ]; omega
    have hC2 : (2 ^ (f + 1) - 1 - m) % 2 = 1 ↔ ¬ m % 2 = 1 := by rw [Nat.pow_succ]; omega
    have half : ∀ T : Nat, (T % 2 ^ (f + 1)) / 2 = T / 2 % 2 ^ f := fun T => by rw [Nat.pow_succ, Nat.mul_comm, Nat.mod_mul_right_div_self]
    have odd : ∀ T : Nat, T % 2 ^ (f + 1) % 2 = T % 2 := fun T => Nat.mod_mod_of_dvd _ (by rw [Nat.pow_succ]; exact Nat.dvd_mul_left 2 _)
    unfold aft
    by_cases ho : m % 2 = 1
    · rw [ho, Nat.add_comm 1 (cnt f (m / 2)), Nat.pow_succ] at h
      by_cases hc : k % 2 = 1
      · have ih := dep_next f (m / 2) (k / 2) (by omega) (by omega)
        unfold aft at ih
        have eo : dep (f + 1) m k = 1 + 2 * dep f (m / 2) (k / 2) := by rw [dep, if_pos ho, hc]
        have en : dep (f + 1) m (k + 1) = 2 * dep f (m / 2) (k / 2 + 1) := by rw [dep, if_pos ho, show (k + 1) % 2 = 0 by omega, show (k + 1) / 2 = k / 2 + 1 by omega]; omega
        rw [eo, en]
        have o1 : ((1 + 2 * dep f (m / 2) (k / 2)) ||| (2 ^ (f + 1) - 1 - m)) % 2 = 1 := Nat.or_mod_two_eq_one.2 (.inl (by omega))
        have o2 : ((1 + 2 * dep f (m / 2) (k / 2)) ||| (2 ^ (f + 1) - 1 - m)) / 2 = dep f (m / 2) (k / 2) ||| (2 ^ f - 1 - m / 2) := by rw [Nat.or_div_two, hC, show (1 + 2 * dep f (m / 2) (k / 2)) / 2 = dep f (m / 2) (k / 2) by omega]
        generalize (1 + 2 * dep f (m / 2) (k / 2)) ||| (2 ^ (f + 1) - 1 - m) = T at *
        refine two_eq ?_ ?_
        · rw [Nat.and_div_two, half, show (T + 1) / 2 = T / 2 + 1 by omega, o2, ih]; omega
        · rw [Nat.and_mod_two_eq_one, odd]; omega
      · have eo : dep (f + 1) m k = 2 * dep f (m / 2) (k / 2) := by rw [dep, if_pos ho, show k % 2 = 0 by omega]; omega
        have en : dep (f + 1) m (k + 1) = 1 + 2 * dep f (m / 2) (k / 2) := by rw [dep, if_pos ho, show (k + 1) % 2 = 1 by omega, show (k + 1) / 2 = k / 2 by omega]
        have ob := or_back f (dep f (m / 2) (k / 2)) (m / 2) (by omega) (dep_lt _ _ _) (dep_sub f _ _)
        rw [eo, en]
        have o1 : ¬ (2 * dep f (m / 2) (k / 2) ||| (2 ^ (f + 1) - 1 - m)) % 2 = 1 := fun e => by
          rcases Nat.or_mod_two_eq_one.1 e with e | e
          · omega
          · exact hC2.1 e ho
        have o2 : (2 * dep f (m / 2) (k / 2) ||| (2 ^ (f + 1) - 1 - m)) / 2 = dep f (m / 2) (k / 2) ||| (2 ^ f - 1 - m / 2) := by rw [Nat.or_div_two, hC, show 2 * dep f (m / 2) (k / 2) / 2 = dep f (m / 2) (k / 2) by omega]
        generalize 2 * dep f (m / 2) (k / 2) ||| (2 ^ (f + 1) - 1 - m) = T at *
        refine two_eq ?_ ?_
        · rw [Nat.and_div_two, half, show (T + 1) / 2 = T / 2 by omega, o2, ob]; omega
        · rw [Nat.and_mod_two_eq_one, odd]; omega
    · rw [show m % 2 = 0 by omega, Nat.zero_add] at h
      have ih := dep_next f (m / 2) k (by omega) h
      unfold aft at ih
      have eo : dep (f + 1) m k = 2 * dep f (m / 2) k := by rw [dep, if_neg ho]
      have en : dep (f + 1) m (k + 1) = 2 * dep f (m / 2) (k + 1) := by rw [dep, if_neg ho]
      rw [eo, en]
      have o1 : (2 * dep f (m / 2) k ||| (2 ^ (f + 1) - 1 - m)) % 2 = 1 := Nat.or_mod_two_eq_one.2 (.inr (hC2.2 ho))
      have o2 : (2 * dep f (m / 2) k ||| (2 ^ (f + 1) - 1 - m)) / 2 = dep f (m / 2) k ||| (2 ^ f - 1 - m / 2) := by rw [Nat.or_div_two, hC, show 2 * dep f (m / 2) k / 2 = dep f (m / 2) k by omega]
      generalize 2 * dep f (m / 2) k ||| (2 ^ (f + 1) - 1 - m) = T at *
      refine two_eq ?_ ?_
      · rw [Nat.and_div_two, half, show (T + 1) / 2 = T / 2 + 1 by omega, o2, ih]; omega
      · rw [Nat.and_mod_two_eq_one, odd]; omega

/-- The document's sum over a list of numbers. -/
def sumL : List Nat → Nat → Nat
  | [], _ => 0
  | a :: l, k => k % 2 * 2 ^ a + sumL l (k / 2)
theorem sumL_snoc : ∀ (l : List Nat) (a k : Nat), sumL (l ++ [a]) k = sumL l k + k / 2 ^ l.length % 2 * 2 ^ a
  | [], a, k => by simp [sumL]
  | b :: l, a, k => by
    rw [List.cons_append, sumL, sumL, sumL_snoc l a (k / 2), List.length_cons, Nat.pow_succ, Nat.div_div_eq_div_mul, Nat.mul_comm 2]
    omega
theorem sumL_le : ∀ (l l' : List Nat) (k : Nat), sumL l k ≤ sumL (l ++ l') k
  | [], _, _ => Nat.zero_le _
  | b :: l, l', k => by
    rw [List.cons_append, sumL, sumL]
    have := sumL_le l l' (k / 2)
    omega
theorem sumL_up : ∀ (l : List Nat) (k : Nat), sumL (l.map (· + 1)) k = 2 * sumL l k
  | [], _ => rfl
  | b :: l, k => by
    rw [List.map_cons, sumL, sumL, sumL_up l, Nat.pow_succ, Nat.mul_add, ← Nat.mul_assoc, Nat.mul_comm _ 2]
theorem sum_dep : ∀ (f m k : Nat), sumL (bitsF f m) k = dep f m k
  | 0, _, _ => rfl
  | f + 1, m, k => by
    rw [bitsF_succ, dep]
    by_cases h : m % 2 = 1
    · rw [if_pos h, if_pos h, List.cons_append, List.nil_append, sumL, sumL_up, sum_dep f]
      omega
    · rw [if_neg h, if_neg h, List.nil_append, sumL_up, sum_dep f]
/-- The k-th subset of a word of 64 bits. -/
def subK (m k : Nat) : Nat := dep 64 m k
theorem sum_subK (m k : Nat) : sumL (bitsL m) k = subK m k := sum_dep 64 m k
theorem subK_eq_last {m k : Nat} (hm : m < 2 ^ 64) (hk : k < 2 ^ (bitsL m).length) : subK m k = m ↔ k + 1 = 2 ^ (bitsL m).length := by
  rw [cnt_bits] at hk ⊢
  have hl := dep_last 64 m hm
  have hp := Nat.two_pow_pos (cnt 64 m)
  constructor
  · intro e
    by_cases hlt : k + 1 = 2 ^ cnt 64 m
    · exact hlt
    · have := dep_mono 64 m k (2 ^ cnt 64 m - 1) (by omega) (by omega)
      unfold subK at e
      omega
  · intro e
    unfold subK
    rw [show k = 2 ^ cnt 64 m - 1 by omega]
    exact hl
end Go.Proofs.YtlgbpimmhnncgaaDoor.Msk
