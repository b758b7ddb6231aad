/-
  Of no program: a word's numbers, rising; taking the lowest one off; the word of a list; a word's subsets in their order, and the step from one to the next.
-/
import Derived.Lib.TrailingZeros
import Derived.Test.YtcocbjipikeebaaDoorProg
import Derived.WalkKit
import Derived.Lib.Walk
import Derived.LoopTactic
import Derived.BigQuiet
import Derived.Deep.QuietTactic
import Derived.WalkSmall
import Derived.Laws.Bits64b
import Derived.Laws.BitsAllLaws
import Derived.Laws.ShiftsVar
import Derived.Lib.OthersKept
import Derived.Maps.AppendAt
import Derived.RangeFuncBox
namespace Go.Proofs.YtcocbjipikeebaaDoor.Msk
open Go Go.Lib

/-- The numbers of a word, rising. -/
def bitsL (m : Nat) : List Nat := (List.range 64).filter fun i => m.testBit i

theorem bitsL_le (m : Nat) : (bitsL m).length ≤ 64 := by
  have := List.length_filter_le (fun i => m.testBit i) (List.range 64)
  rw [List.length_range] at this
  exact this
theorem mem_bitsL {m i : Nat} : i ∈ bitsL m ↔ i < 64 ∧ m.testBit i = true := by
  unfold bitsL
  rw [List.mem_filter, List.mem_range]
theorem bitsL_sorted (m : Nat) : (bitsL m).Pairwise (· < ·) := List.Pairwise.filter _ List.pairwise_lt_range
theorem bitsL_zero : bitsL 0 = [] := by
  unfold bitsL
  rw [List.filter_eq_nil_iff]
  intro i _
  simp

theorem filter_low {p q : Nat → Bool} {k : Nat} (hk : p k = true) (hl : ∀ j, j < k → p j = false) (hq : ∀ j, q j = (p j && !decide (j = k))) :
    ∀ n, (n ≤ k → (List.range n).filter p = [] ∧ (List.range n).filter q = []) ∧ (k < n → (List.range n).filter p = k :: (List.range n).filter q)
  | 0 => ⟨fun _ => ⟨rfl, rfl⟩, fun h => by omega⟩
  | n + 1 => by
    obtain ⟨h1, h2⟩ := filter_low hk hl hq n
    refine ⟨fun h => ?_, fun h => ?_⟩
    · obtain ⟨e1, e2⟩ := h1 (by omega)
      rw [List.range_succ, List.filter_append, List.filter_append, e1, e2]
      have hp := hl n (by omega)
      have hq' := hq n
      rw [hp] at hq'
      simp [hp, hq']
    · rw [List.range_succ, List.filter_append, List.filter_append]
      by_cases hn : n = k
      · subst hn
        obtain ⟨e1, e2⟩ := h1 (Nat.le_refl _)
        have hq' := hq n
        rw [hk] at hq'
        rw [e1, e2]
        simp [hk, hq']
      · rw [h2 (by omega)]
        have hq' := hq n
        have : decide (n = k) = false := by simp [hn]
        rw [this] at hq'
        simp only [Bool.not_false, Bool.and_true] at hq'
        rw [List.cons_append]
        congr 2
        simp [List.filter, hq']

theorem low_facts (x : Nat) (h0 : x ≠ 0) (hx : x < 2 ^ 64) :
    ctz 64 x < 64 ∧ x.testBit (ctz 64 x) = true ∧ (∀ j, j < ctz 64 x → x.testBit j = false) ∧ ∀ j, (x &&& (x - 1)).testBit j = (x.testBit j && !decide (j = ctz 64 x)) := by
  have hc : ctz 64 x = ctzFrom 64 x := by unfold ctz; rw [if_neg h0]
  obtain ⟨m, hm, hk⟩ := ctzFrom_spec 64 x (by omega) hx
  rw [hc]
  generalize ctzFrom 64 x = k at *
  have hp : 0 < 2 ^ k := Nat.two_pow_pos k
  have e1 : x = 2 ^ k * (2 * m + 1) + 0 := by omega
  have e2 : x - 1 = 2 ^ k * (2 * m) + (2 ^ k - 1) := by rw [hm, Nat.mul_add, Nat.mul_one]; omega
  have t1 : ∀ j, x.testBit j = if j < k then false else (2 * m + 1).testBit (j - k) := fun j => by
    rw [e1, Nat.testBit_two_pow_mul_add _ hp]
    simp
  have t2 : ∀ j, (x - 1).testBit j = if j < k then true else (2 * m).testBit (j - k) := fun j => by
    rw [e2, Nat.testBit_two_pow_mul_add _ (by omega)]
    by_cases h : j < k
    · simp [h, Nat.testBit_two_pow_sub_one]
    · simp [h]
  refine ⟨hk, ?_, fun j hj => ?_, fun j => ?_⟩
  · rw [t1, if_neg (by omega), Nat.sub_self, Nat.testBit_zero]
    simp
  · rw [t1, if_pos hj]
  · rw [Nat.testBit_and, t2, t1]
    by_cases h : j < k
    · rw [if_pos h, if_pos h]; simp
    · rw [if_neg h, if_neg h]
      by_cases he : j = k
      · subst he
        rw [Nat.sub_self, Nat.testBit_zero, Nat.testBit_zero]
        have : 2 * m % 2 = 0 := by omega
        simp
      · obtain ⟨d, hd⟩ : ∃ d, j - k = d + 1 := ⟨j - k - 1, by omega⟩
        rw [hd, Nat.testBit_succ, Nat.testBit_succ, show (2 * m + 1) / 2 = m by omega, show 2 * m / 2 = m by omega]
        simp [he]

theorem bitsL_step (x : Nat) (h0 : x ≠ 0) (hx : x < 2 ^ 64) : bitsL x = ctz 64 x :: bitsL (x &&& (x - 1)) := by
  obtain ⟨hk, h1, h2, h3⟩ := low_facts x h0 hx
  exact (filter_low h1 h2 h3 64).2 hk
theorem rest_lt {x : Nat} (hx : x < 2 ^ 64) : x &&& (x - 1) < 2 ^ 64 := Nat.and_lt_two_pow _ (by omega)

/-- The word of a list. -/
def ofStep (m : Nat) (i : Int) : Nat := if 0 ≤ i ∧ i < 64 then m ||| 2 ^ i.toNat else m
def ofL (zs : List Int) : Nat := zs.foldl ofStep 0
theorem ofL_snoc (zs : List Int) (i : Int) : ofL (zs ++ [i]) = ofStep (ofL zs) i := by simp [ofL]
theorem ofStep_lt {m : Nat} (h : m < 2 ^ 64) (i : Int) : ofStep m i < 2 ^ 64 := by
  unfold ofStep
  split
  · refine Nat.or_lt_two_pow h ?_
    exact Nat.pow_lt_pow_right (by decide) (by omega)
  · exact h
theorem ofF_lt : ∀ (zs : List Int) (m : Nat), m < 2 ^ 64 → zs.foldl ofStep m < 2 ^ 64
  | [], _, h => h
  | i :: r, m, h => ofF_lt r (ofStep m i) (ofStep_lt h i)
theorem ofL_lt (zs : List Int) : ofL zs < 2 ^ 64 := ofF_lt zs 0 (by decide)
theorem ofStep_bit (m : Nat) (i : Int) (j : Nat) (hj : j < 64) : (ofStep m i).testBit j = (m.testBit j || decide (i = (j : Int))) := by
  unfold ofStep
  by_cases h : 0 ≤ i ∧ i < 64
  · rw [if_pos h, Nat.testBit_or, Nat.testBit_two_pow]
    congr 1
    exact decide_eq_decide.2 ⟨fun e => by omega, fun e => by omega⟩
  · rw [if_neg h]
    have : decide (i = (j : Int)) = false := by rw [decide_eq_false_iff_not]; omega
    rw [this, Bool.or_false]
theorem ofF_bit (j : Nat) (hj : j < 64) : ∀ (zs : List Int) (m : Nat), (zs.foldl ofStep m).testBit j = (m.testBit j || decide ((j : Int) ∈ zs))
  | [], m => by simp
  | i :: r, m => by
    rw [List.foldl_cons, ofF_bit j hj r, ofStep_bit m i j hj, Bool.or_assoc]
    congr 1
    by_cases h : i = (j : Int)
    · simp [h]
    · have h' : ¬ (j : Int) = i := fun e => h e.symm
      simp [h, h']
theorem ofL_bit (zs : List Int) (j : Nat) (hj : j < 64) : (ofL zs).testBit j = decide ((j : Int) ∈ zs) := by
  unfold ofL
  rw [ofF_bit j hj]
  simp
/-- A list of numbers as the words of the program have them. -/
def ints (l : List Nat) : List Int := l.map fun i : Nat => (i : Int)
theorem ofL_back (m : Nat) (h : m < 2 ^ 64) : ofL (ints (bitsL m)) = m := by
  apply Nat.eq_of_testBit_eq
  intro j
  by_cases hj : j < 64
  · rw [ofL_bit _ j hj]
    cases hb : m.testBit j with
    | true => 
      rw [decide_eq_true_eq]
      exact List.mem_map.2 ⟨j, mem_bitsL.2 ⟨hj, hb⟩, rfl⟩
    | false =>
      rw [decide_eq_false_iff_not]
      intro hm
      obtain ⟨i, hi, e⟩ := List.mem_map.1 hm
      obtain rfl : i = j := by omega
      rw [(mem_bitsL.1 hi).2] at hb
      cases hb
  · have hp : 2 ^ 64 ≤ 2 ^ j := Nat.pow_le_pow_right (by decide) (by omega)
    rw [Nat.testBit_lt_two_pow (Nat.lt_of_lt_of_le (ofL_lt _) hp), Nat.testBit_lt_two_pow (Nat.lt_of_lt_of_le h hp)]

/-- To add a number that is not there is to put it there. -/
theorem add_bit (m i : Nat) (hm : m < 2 ^ 64) (hi : i < 64) (h : m.testBit i = false) : m + 2 ^ i = m ||| 2 ^ i := by
  have hp : 2 ^ i < 2 ^ 64 := Nat.pow_lt_pow_right (by decide) hi
  have ha : m &&& 2 ^ i = 0 := by
    apply Nat.eq_of_testBit_eq
    intro j
    rw [Nat.testBit_and, Nat.testBit_two_pow, Nat.zero_testBit]
    by_cases e : i = j
    · subst e; rw [h]; rfl
    · simp [e]
  have hq : m + 2 ^ i < 2 ^ 65 := by omega
  have hb := BitVec.add_eq_or_of_and_eq_zero (BitVec.ofNat 65 m) (BitVec.ofNat 65 (2 ^ i)) (by
    apply BitVec.eq_of_toNat_eq
    rw [BitVec.toNat_and, BitVec.toNat_ofNat, BitVec.toNat_ofNat, Nat.mod_eq_of_lt (by omega), Nat.mod_eq_of_lt (by omega), ha]
    rfl)
  have := congrArg BitVec.toNat hb
  rw [BitVec.toNat_add, BitVec.toNat_or, BitVec.toNat_ofNat, BitVec.toNat_ofNat, Nat.mod_eq_of_lt (a := m) (by omega), Nat.mod_eq_of_lt (a := 2 ^ i) (by omega), Nat.mod_eq_of_lt hq] at this
  exact this
theorem bit_div (m i : Nat) : m.testBit i = decide (m / 2 ^ i % 2 = 1) := Nat.testBit_eq_decide_div_mod_eq

/-- The subset of a word whose number among its subsets is k. -/
def dep : Nat → Nat → Nat → Nat
  | 0, _, _ => 0
  | f + 1, m, k => if m % 2 = 1 then k % 2 + 2 * dep f (m / 2) (k / 2) else 2 * dep f (m / 2) k
def cnt : Nat → Nat → Nat
  | 0, _ => 0
  | f + 1, m => m % 2 + cnt f (m / 2)
def bitsF (f m : Nat) : List Nat := (List.range f).filter fun i => m.testBit i
theorem bitsF_succ (f m : Nat) : bitsF (f + 1) m = (if m % 2 = 1 then [0] else []) ++ (bitsF f (m / 2)).map (· + 1) := by
  unfold bitsF
  rw [List.range_succ_eq_map, List.filter_cons, List.filter_map]
  have e : ((fun i => m.testBit i) ∘ Nat.succ) = fun i => (m / 2).testBit i := by
    funext i
    exact Nat.testBit_succ m i
  rw [e, Nat.testBit_zero]
  by_cases h : m % 2 = 1
  · simp [h]
  · simp [h]
theorem cnt_len : ∀ (f m : Nat), (bitsF f m).length = cnt f m
  | 0, _ => rfl
  | f + 1, m => by
    rw [bitsF_succ, List.length_append, List.length_map, cnt_len f, cnt]
    by_cases h : m % 2 = 1
    · simp [h]
    · have : m % 2 = 0 := by omega
      simp [this]
theorem cnt_bits (m : Nat) : (bitsL m).length = cnt 64 m := cnt_len 64 m
theorem dep_zero : ∀ (f m : Nat), dep f m 0 = 0
  | 0, _ => rfl
  | f + 1, m => by
    rw [dep, dep_zero f]
    simp
theorem dep_sub : ∀ (f m k j : Nat), (dep f m k).testBit j = true → m.testBit j = true
  | 0, m, k, j, h => by simp [dep] at h
  | f + 1, m, k, 0, h => by
    rw [dep] at h
    rw [Nat.testBit_zero] at h ⊢
    by_cases hm : m % 2 = 1
    · simp [hm]
    · rw [if_neg hm] at h
      simp at h
  | f + 1, m, k, j + 1, h => by
    rw [dep] at h
    rw [Nat.testBit_succ] at h ⊢
    by_cases hm : m % 2 = 1
    · rw [if_pos hm, show (k % 2 + 2 * dep f (m / 2) (k / 2)) / 2 = dep f (m / 2) (k / 2) by omega] at h
      exact dep_sub f _ _ j h
    · rw [if_neg hm, show 2 * dep f (m / 2) k / 2 = dep f (m / 2) k by omega] at h
      exact dep_sub f _ _ j h
theorem dep_lt : ∀ (f m k : Nat), dep f m k < 2 ^ f
  | 0, _, _ => by simp [dep]
  | f + 1, m, k => by
    rw [dep, Nat.pow_succ]
    have h1 := dep_lt f (m / 2) (k / 2)
    have h2 := dep_lt f (m / 2) k
    split <;> omega
theorem dep_last : ∀ (f m : Nat), m < 2 ^ f → dep f m (2 ^ cnt f m - 1) = m
  | 0, m, h => by simp at h; subst h; rfl
  | f + 1, m, h => by
    rw [Nat.pow_succ] at h
    have ih := dep_last f (m / 2) (by omega)
    have hp := Nat.two_pow_pos (cnt f (m / 2))
    rw [dep, cnt]
    by_cases hm : m % 2 = 1
    · rw [if_pos hm, hm, Nat.add_comm 1, Nat.pow_succ, show (2 ^ cnt f (m / 2) * 2 - 1) / 2 = 2 ^ cnt f (m / 2) - 1 by omega, ih]
      omega
    · have h0 : m % 2 = 0 := by omega
      rw [if_neg hm, h0, Nat.zero_add, ih]
      omega
theorem dep_mono : ∀ (f m k k' : Nat), k < k' → k' < 2 ^ cnt f m → dep f m k < dep f m k'
  | 0, m, k, k', h, h' => by simp [cnt] at h'; omega
  | f + 1, m, k, k', h, h' => by
    rw [cnt] at h'
    rw [dep, dep]
    by_cases hm : m % 2 = 1
    · rw [if_pos hm, if_pos hm]
      rw [hm, Nat.add_comm 1, Nat.pow_succ] at h'
      by_cases e : k / 2 = k' / 2
      · rw [e]; omega
      · have := dep_mono f (m / 2) (k / 2) (k' / 2) (by omega) (by omega)
        omega
    · have h0 : m % 2 = 0 := by omega
      rw [h0, Nat.zero_add] at h'
      rw [if_neg hm, if_neg hm]
      have := dep_mono f (m / 2) k k' h h'
      omega

/-- The step from a subset to the next, in words of f bits. -/
def aft (f s m : Nat) : Nat := ((s ||| (2 ^ f - 1 - m)) + 1) % 2 ^ f &&& m
theorem or_back (f s m : Nat) (hm : m < 2 ^ f) (hs : s < 2 ^ f) (hsub : ∀ j, s.testBit j = true → m.testBit j = true) : (s ||| (2 ^ f - 1 - m)) % 2 ^ f &&& m = s := by
  have hlt : s ||| (2 ^ f - 1 - m) < 2 ^ f := Nat.or_lt_two_pow hs (by omega)
  rw [Nat.mod_eq_of_lt hlt]
  apply Nat.eq_of_testBit_eq
  intro j
  rw [Nat.testBit_and, Nat.testBit_or, show 2 ^ f - 1 - m = 2 ^ f - (m + 1) by omega, Nat.testBit_two_pow_sub_succ hm]
  cases hb : s.testBit j with
  | true => rw [hsub j hb]; rfl
  | false => cases m.testBit j <;> simp
theorem two_eq {a b : Nat} (h1 : a / 2 = b / 2) (h2 : a % 2 = 1 ↔ b % 2 = 1) : a = b := by
  by_cases h : a % 2 = 1
  · have := h2.1 h; omega
  · have : ¬ b % 2 = 1 := fun e => h (h2.2 e)
    omega
theorem dep_next : ∀ (f m k : Nat), m < 2 ^ f → k + 1 < 2 ^ cnt f m → aft f (dep f m k) m = dep f m (k + 1)
  | 0, m, k, _, h => by simp [cnt] at h
  | f + 1, m, k, hm, h => by
    have hm0 := hm
    rw [Nat.pow_succ] at hm
    rw [cnt] at h
    have hp : 0 < 2 ^ f := Nat.two_pow_pos f
    have hC : (2 ^ (f + 1) - 1 - m) / 2 = 2 ^ f - 1 - m / 2 := by rw [Nat.pow_succ]; omega
    have hC2 : (2 ^ (f + 1) - 1 - m) % 2 = 1 ↔ ¬ m % 2 = 1 := by rw [Nat.pow_succ]; omega
    have half : ∀ T : Nat, (T % 2 ^ (f + 1)) / 2 = T / 2 % 2 ^ f := fun T => by rw [Nat.pow_succ, Nat.mul_comm, Nat.mod_mul_right_div_self]
    have odd : ∀ T : Nat, T % 2 ^ (f + 1) % 2 = T % 2 := fun T => Nat.mod_mod_of_dvd _ (by rw [Nat.pow_succ]; exact Nat.dvd_mul_left 2 _)
    unfold aft
    by_cases ho : m % 2 = 1
    · rw [ho, Nat.add_comm 1 (cnt f (m / 2)), Nat.pow_succ] at h
      by_cases hc : k % 2 = 1
      · have ih := dep_next f (m / 2) (k / 2) (by omega) (by omega)
        unfold aft at ih
        have eo : dep (f + 1) m k = 1 + 2 * dep f (m / 2) (k / 2) := by rw [dep, if_pos ho, hc]
        have en : dep (f + 1) m (k + 1) = 2 * dep f (m / 2) (k / 2 + 1) := by rw [dep, if_pos ho, show (k + 1) % 2 = 0 by omega, show (k + 1) / 2 = k / 2 + 1 by omega]; omega
        rw [eo, en]
        have o1 : ((1 + 2 * dep f (m / 2) (k / 2)) ||| (2 ^ (f + 1) - 1 - m)) % 2 = 1 := Nat.or_mod_two_eq_one.2 (.inl (by omega))
        have o2 : ((1 + 2 * dep f (m / 2) (k / 2)) ||| (2 ^ (f + 1) - 1 - m)) / 2 = dep f (m / 2) (k / 2) ||| (2 ^ f - 1 - m / 2) := by rw [Nat.or_div_two, hC, show (1 + 2 * dep f (m / 2) (k / 2)) / 2 = dep f (m / 2) (k / 2) by omega]
        generalize (1 + 2 * dep f (m / 2) (k / 2)) ||| (2 ^ (f + 1) - 1 - m) = T at *
        refine two_eq ?_ ?_
        · rw [Nat.and_div_two, half, show (T + 1) / 2 = T / 2 + 1 by omega, o2, ih]; omega
        · rw [Nat.and_mod_two_eq_one, odd]; omega
      · have eo : dep (f + 1) m k = 2 * dep f (m / 2) (k / 2) := by rw [dep, if_pos ho, show k % 2 = 0 by omega]; omega
        have en : dep (f + 1) m (k + 1) = 1 + 2 * dep f (m / 2) (k / 2) := by rw [dep, if_pos ho, show (k + 1) % 2 = 1 by omega, show (k + 1) / 2 = k / 2 by omega]
        have ob := or_back f (dep f (m / 2) (k / 2)) (m / 2) (by omega) (dep_lt _ _ _) (dep_sub f _ _)
        rw [eo, en]
        have o1 : ¬ (2 * dep f (m / 2) (k / 2) ||| (2 ^ (f + 1) - 1 - m)) % 2 = 1 := fun e => by
          rcases Nat.or_mod_two_eq_one.1 e with e | e
          · omega
          · exact hC2.1 e ho
        have o2 : (2 * dep f (m / 2) (k / 2) ||| (2 ^ (f + 1) - 1 - m)) / 2 = dep f (m / 2) (k / 2) ||| (2 ^ f - 1 - m / 2) := by rw [Nat.or_div_two, hC, show 2 * dep f (m / 2) (k / 2) / 2 = dep f (m / 2) (k / 2) by omega]
        generalize 2 * dep f (m / 2) (k / 2) ||| (2 ^ (f + 1) - 1 - m) = T at *
        refine two_eq ?_ ?_
        · rw [Nat.and_div_two, half, show (T + 1) / 2 = T / 2 by omega, o2, ob]; omega
        · rw [Nat.and_mod_two_eq_one, odd]; omega
    · rw [show m % 2 = 0 by omega, Nat.zero_add] at h
      have ih := dep_next f (m / 2) k (by omega) h
      unfold aft at ih
      have eo : dep (f + 1) m k = 2 * dep f (m / 2) k := by rw [dep, if_neg ho]
      have en : dep (f + 1) m (k + 1) = 2 * dep f (m / 2) (k + 1) := by rw [dep, if_neg ho]
      rw [eo, en]
      have o1 : (2 * dep f (m / 2) k ||| (2 ^ (f + 1) - 1 - m)) % 2 = 1 := Nat.or_mod_two_eq_one.2 (.inr (hC2.2 ho))
      have o2 : (2 * dep f (m / 2) k ||| (2 ^ (f + 1) - 1 - m)) / 2 = dep f (m / 2) k ||| (2 ^ f - 1 - m / 2) := by rw [Nat.or_div_two, hC, show 2 * dep f (m / 2) k / 2 = dep f (m / 2) k by omega]
      generalize 2 * dep f (m / 2) k ||| (2 ^ (f + 1) - 1 - m) = T at *
      refine two_eq ?_ ?_
      · rw [Nat.and_div_two, half, show (T + 1) / 2 = T / 2 + 1 by omega, o2, ih]; omega
      · rw [Nat.and_mod_two_eq_one, odd]; omega

/-- The document's sum over a list of numbers. -/
def sumL : List Nat → Nat → Nat
  | [], _ => 0
  | a :: l, k => k % 2 * 2 ^ a + sumL l (k / 2)
theorem sumL_snoc : ∀ (l : List Nat) (a k : Nat), sumL (l ++ [a]) k = sumL l k + k / 2 ^ l.length % 2 * 2 ^ a
  | [], a, k => by simp [sumL]
  | b :: l, a, k => by
    rw [List.cons_append, sumL, sumL, sumL_snoc l a (k / 2), List.length_cons, Nat.pow_succ, Nat.div_div_eq_div_mul, Nat.mul_comm 2]
    omega
theorem sumL_le : ∀ (l l' : List Nat) (k : Nat), sumL l k ≤ sumL (l ++ l') k
  | [], _, _ => Nat.zero_le _
  | b :: l, l', k => by
    rw [List.cons_append, sumL, sumL]
    have := sumL_le l l' (k / 2)
    omega
theorem sumL_up : ∀ (l : List Nat) (k : Nat), sumL (l.map (· + 1)) k = 2 * sumL l k
  | [], _ => rfl
  | b :: l, k => by
    rw [List.map_cons, sumL, sumL, sumL_up l, Nat.pow_succ, Nat.mul_add, ← Nat.mul_assoc, Nat.mul_comm _ 2]
theorem sum_dep : ∀ (f m k : Nat), sumL (bitsF f m) k = dep f m k
  | 0, _, _ => rfl
  | f + 1, m, k => by
    rw [bitsF_succ, dep]
    by_cases h : m % 2 = 1
    · rw [if_pos h, if_pos h, List.cons_append, List.nil_append, sumL, sumL_up, sum_dep f]
      omega
    · rw [if_neg h, if_neg h, List.nil_append, sumL_up, sum_dep f]
/-- The k-th subset of a word of 64 bits. -/
def subK (m k : Nat) : Nat := dep 64 m k
theorem sum_subK (m k : Nat) : sumL (bitsL m) k = subK m k := sum_dep 64 m k
theorem subK_eq_last {m k : Nat} (hm : m < 2 ^ 64) (hk : k < 2 ^ (bitsL m).length) : subK m k = m ↔ k + 1 = 2 ^ (bitsL m).length := by
  rw [cnt_bits] at hk ⊢
  have hl := dep_last 64 m hm
  have hp := Nat.two_pow_pos (cnt 64 m)
  constructor
  · intro e
    by_cases hlt : k + 1 = 2 ^ cnt 64 m
    · exact hlt
    · have := dep_mono 64 m k (2 ^ cnt 64 m - 1) (by omega) (by omega)
      unfold subK at e
      omega
  · intro e
    unfold subK
    rw [show k = 2 ^ cnt 64 m - 1 by omega]
    exact hl
end Go.Proofs.YtcocbjipikeebaaDoor.Msk
/-
  The program's calls on masks that go through no sequence: TrailingZeros64, holdable, Of, Full, Has, after; for every word, number and list.
-/
namespace Go.Proofs.YtcocbjipikeebaaDoor.Msk
open Go Go.Lib Go.RowKit

/-- The library's table, in its variable. -/
def Tab (w : World) : Prop := ∀ j, j < 64 → w.cell? ⟨0, j, none⟩ = some (.int .u8 ((deBruijn64tab.getD j 0 : Nat) : Int))
theorem Tab.of {w w' : World} (h : Tab w) (e : w'.heap[0]? = w.heap[0]?) : Tab w' := fun j hj => by
  have := h j hj
  simp only [World.cell?] at this ⊢
  rw [e]
  exact this
theorem Tab.size {w : World} (h : Tab w) : 0 < w.heap.size := by
  by_cases hs : 0 < w.heap.size
  · exact hs
  · have := h 0 (by decide)
    have e : w.heap[0]? = none := Array.getElem?_eq_none (by omega)
    simp [World.cell?, e] at this
theorem Tab.below {B : Nat} {w w' : World} (h : Tab w) (hB : 0 < B) (hb : Below B w w') : Tab w' := h.of (hb.block 0 hB)

theorem tz_key (x a : Nat) (hx : x < 18446744073709551616) (hx0 : x ≠ 0) (hlow : x &&& (18446744073709551616 - x) = a) :
    IntKind.u64.wrap (bits BinOp.and IntKind.u64 (x : Int) (IntKind.u64.wrap (-(x : Int))) * 285870213051353865) / 288230376151711744 = ((a * 285870213051353865 % 18446744073709551616 / 288230376151711744 : Nat) : Int) := by
  have e1 : IntKind.u64.wrap (-(x : Int)) = ((18446744073709551616 - x : Nat) : Int) := by rw [IntKind.wrap_u64]; omega
  rw [e1, bits_and_u64_nat x _ hx (by omega), hlow, IntKind.wrap_u64]
  omega

set_option maxHeartbeats 1000000 in
theorem tz_core (x k idx : Nat) (w : World) (hx0 : ((x : Int) == 0) = false)
    (key : IntKind.u64.wrap (bits BinOp.and IntKind.u64 (x : Int) (IntKind.u64.wrap (-(x : Int))) * 285870213051353865) / 288230376151711744 = (idx : Int))
    (hi : idx < 64) (hk : k < 64) (hcell : w.cell? ⟨0, idx, none⟩ = some (.int .u8 k)) :
    Calls Tryd.prog 72 #[.int .u64 x] w fun e w' => e = .returned (.int .i64 k) ∧ w' = w := by
  go_enter Tryd.func72, Tryd.ntmps72
  go_wp2_with (simp only [key])
  go_ret
  exact ⟨rfl, rfl⟩

theorem tz_any (x : Nat) (hx : x < 18446744073709551616) (h0 : x ≠ 0) (w : World) (hT : Tab w) :
    Calls Tryd.prog 72 #[.int .u64 x] w fun e w' => e = .returned (.int .i64 (ctz 64 x : Nat)) ∧ w' = w := by
  obtain ⟨hlow, hk⟩ := lowest_bit 64 x h0 hx
  obtain ⟨hi, htab⟩ := deBruijn64_at _ hk
  have hcell := hT _ hi
  rw [htab] at hcell
  exact tz_core x _ _ w (by simp; omega) (tz_key x _ hx h0 hlow) hi hk hcell

theorem holdable_any (i : Int) (w : World) :
    Calls Tryd.prog 55 #[.int .i64 i] w fun e w' => e = .returned (.bool (decide (0 ≤ i ∧ i < 64))) ∧ w' = w := by
  go_enter Tryd.func55, Tryd.ntmps55
  by_cases h : 0 ≤ i
  · have e : decide (0 ≤ i ∧ i < 64) = decide (i < 64) := decide_eq_decide.2 ⟨fun x => x.2, fun x => ⟨h, x⟩⟩
    rw [e]
    go_wp2
    go_ret
    exact ⟨rfl, rfl⟩
  · have e : decide (0 ≤ i ∧ i < 64) = false := decide_eq_false fun x => h x.1
    rw [e]
    go_wp2
    go_ret
    exact ⟨rfl, rfl⟩

theorem shr_bit (m n : Nat) (hm : m < 18446744073709551616) : (bits BinOp.and IntKind.u64 ((m : Int) / 2 ^ n) 1 == 1) = m.testBit n := by
  have e : (m : Int) / 2 ^ n = ((m / 2 ^ n : Nat) : Int) := by rw [Int.natCast_ediv, Int.natCast_pow]; rfl
  have hl : m / 2 ^ n < 18446744073709551616 := Nat.lt_of_le_of_lt (Nat.div_le_self _ _) hm
  rw [e, show (1 : Int) = ((1 : Nat) : Int) from rfl, bits_and_u64_nat _ 1 hl (by decide), Nat.and_one_is_mod, bit_div]
  rw [Bool.eq_iff_iff, beq_iff_eq, decide_eq_true_eq]
  omega

theorem has_any (m : Nat) (i : Int) (w : World) (hm : m < 18446744073709551616) :
    Calls Tryd.prog 32 #[.int .u64 m, .int .i64 i] w fun e w' => e = .returned (.bool (decide (0 ≤ i ∧ i < 64) && m.testBit i.toNat)) ∧ w' = w := by
  by_cases h : 0 ≤ i ∧ i < 64
  · have cH := holdable_any i w
    rw [decide_eq_true h] at cH ⊢
    have hb := shr_bit m i.toNat hm
    go_enter Tryd.func32, Tryd.ntmps32
    go_wp2_with (go_at_call 55; refine cH.mono ?_; rintro e w' ⟨rfl, rfl⟩)
    go_ret
    exact ⟨rfl, rfl⟩
  · have cH := holdable_any i w
    rw [decide_eq_false h] at cH ⊢
    go_enter Tryd.func32, Tryd.ntmps32
    go_wp2_with (go_at_call 55; refine cH.mono ?_; rintro e w' ⟨rfl, rfl⟩)
    go_ret
    exact ⟨rfl, rfl⟩

/-- The word of the first n numbers. -/
def fullN (n : Int) : Nat := 2 ^ (min n 64).toNat - 1
theorem pow_cast (n : Nat) : ((2 ^ n : Nat) : Int) = (2 : Int) ^ n := by rw [Int.natCast_pow]; rfl
theorem pow_lt64 {n : Nat} (h : n < 64) : 2 ^ n < 18446744073709551616 := by
  have : 2 ^ n < 2 ^ 64 := Nat.pow_lt_pow_right (by decide) h
  omega
theorem wrap_pow {n : Nat} (h : n < 64) : IntKind.u64.wrap ((2 : Int) ^ n) = ((2 ^ n : Nat) : Int) := by
  have := pow_lt64 h
  rw [← pow_cast, IntKind.wrap_u64]
  generalize 2 ^ n = p at *
  omega
theorem full_any (n : Int) (w : World) :
    Calls Tryd.prog 15 #[.int .i64 n] w fun e w' => e = .returned (.int .u64 (fullN n : Nat)) ∧ w' = w := by
  by_cases h : n < 1
  · have e : fullN n = 0 := by unfold fullN; rw [show (min n 64).toNat = 0 by omega]
    rw [e]
    go_enter Tryd.func15, Tryd.ntmps15
    go_wp2
    go_ret
    exact ⟨rfl, rfl⟩
  · by_cases h2 : 64 ≤ n
    · have e : fullN n = 18446744073709551615 := by unfold fullN; rw [show (min n 64).toNat = 64 by omega]
      rw [e]
      go_enter Tryd.func15, Tryd.ntmps15
      go_wp2
      go_ret
      exact ⟨rfl, rfl⟩
    · have e : IntKind.u64.wrap (IntKind.u64.wrap ((2 : Int) ^ n.toNat) - 1) = ((fullN n : Nat) : Int) := by
        have hp := Nat.two_pow_pos n.toNat
        have hl := pow_lt64 (n := n.toNat) (by omega)
        unfold fullN
        rw [wrap_pow (by omega), show (min n 64).toNat = n.toNat by omega, IntKind.wrap_u64]
        omega
      go_enter Tryd.func15, Tryd.ntmps15
      go_wp2
      go_ret
      exact ⟨rfl, rfl⟩

theorem not_nat (m : Nat) (hm : m < 18446744073709551616) : bits BinOp.xor IntKind.u64 IntKind.u64.max (m : Int) = ((18446744073709551615 - m : Nat) : Int) := by
  have h1 : (BitVec.ofInt 64 IntKind.u64.max).toNat = 18446744073709551615 := by decide
  have h2 : (BitVec.ofInt 64 (m : Int)).toNat = m := by
    rw [BitVec.ofInt_natCast, BitVec.toNat_ofNat]; exact Nat.mod_eq_of_lt (by omega)
  show IntKind.u64.wrap ((BitVec.ofInt 64 IntKind.u64.max ^^^ BitVec.ofInt 64 (m : Int)).toNat : Int) = _
  have hx : 18446744073709551615 ^^^ m = 18446744073709551615 - m := by
    apply Nat.eq_of_testBit_eq
    intro j
    have e1 := Nat.testBit_two_pow_sub_one 64 j
    have e2 := Nat.testBit_two_pow_sub_succ (x := m) (n := 64) hm j
    rw [show 2 ^ 64 - 1 = 18446744073709551615 from rfl] at e1
    rw [show 2 ^ 64 - (m + 1) = 18446744073709551615 - m by omega] at e2
    rw [Nat.testBit_xor, e1, e2]
    by_cases hj : j < 64
    · simp [hj]
    · have hp : 2 ^ 64 ≤ 2 ^ j := Nat.pow_le_pow_right (by decide) (by omega)
      have : m.testBit j = false := Nat.testBit_lt_two_pow (Nat.lt_of_lt_of_le hm hp)
      simp [hj, this]
  rw [BitVec.toNat_xor, h1, h2, hx, IntKind.wrap_u64]
  omega
theorem aft_int (s m : Nat) (hs : s < 18446744073709551616) (hm : m < 18446744073709551616) :
    bits BinOp.and IntKind.u64 (IntKind.u64.wrap (bits BinOp.or IntKind.u64 (s : Int) (bits BinOp.xor IntKind.u64 IntKind.u64.max (m : Int)) + 1)) (m : Int) = ((aft 64 s m : Nat) : Int) := by
  rw [not_nat m hm, bits_or_u64_nat s _ hs (by omega)]
  have e : IntKind.u64.wrap (((s ||| (18446744073709551615 - m) : Nat) : Int) + 1) = ((((s ||| (18446744073709551615 - m)) + 1) % 18446744073709551616 : Nat) : Int) := by
    rw [IntKind.wrap_u64]
    omega
  rw [e, bits_and_u64_nat _ m (Nat.mod_lt _ (by decide)) hm]
  rfl
/-- Of a list, wherever it lies. -/
def ReadsI (W : World) (ao : Option Addr) (zs : List Int) : Prop := ∀ i (_ : i < zs.length), ∃ b off, ao = some ⟨b, off, none⟩ ∧ b < W.heap.size ∧ W.cell? ⟨b, off + i, none⟩ = some (.int .i64 (zs[i]?.getD 0))
theorem ReadsI.below {W W' : World} {ao : Option Addr} {zs : List Int} (h : ReadsI W ao zs) (hb : Below W.heap.size W W') : ReadsI W' ao zs := fun j hj => by
  obtain ⟨g, o, h1, h2, h3⟩ := h j hj
  exact ⟨g, o, h1, Nat.lt_of_lt_of_le h2 hb.size, (hb.cell (p := ⟨g, o + j, none⟩) h2).trans h3⟩

theorem or_step (m : Nat) (i : Int) (hm : m < 18446744073709551616) (h0 : 0 ≤ i) (h1 : i < 64) : bits BinOp.or IntKind.u64 (m : Int) (IntKind.u64.wrap ((2 : Int) ^ i.toNat)) = ((ofStep m i : Nat) : Int) := by
  rw [wrap_pow (by omega), bits_or_u64_nat m _ hm (pow_lt64 (by omega))]
  unfold ofStep
  rw [if_pos ⟨h0, h1⟩]

set_option maxHeartbeats 1000000 in
theorem of_any (zs : List Int) (ao : Option Addr) (cap : Nat) (w : World) (hl : zs.length ≤ 4611686018427387904) (hR : ReadsI w ao zs) :
    Calls Tryd.prog 54 #[.slice ao zs.length cap] w fun e w' => e = .returned (.int .u64 (ofL zs : Nat)) ∧ w' = w := by
  go_enter Tryd.func54, Tryd.ntmps54
  go_wp2
  go_loopw [3, 8] (fun mv iv wr => ∃ k : Nat, iv = .int .i64 (k : Int) ∧ mv = .int .u64 (ofL (zs.take k) : Nat) ∧ k ≤ zs.length ∧ wr = w) (fun _ iv _ => zs.length - (RowKit.intOf iv).toNat)
  case atStart => exact ⟨0, rfl, rfl, Nat.zero_le _, rfl⟩
  case round =>
    obtain ⟨k, rfl, rfl, hk, rfl⟩ := hrel
    by_cases hlt : k < zs.length
    · obtain ⟨b, off, rfl, hb, hc⟩ := hR k hlt
      have ht : zs.take (k + 1) = zs.take k ++ [zs[k]] := List.take_succ_eq_append_getElem hlt
      have hst : ofL (zs.take (k + 1)) = ofStep (ofL (zs.take k)) zs[k] := by rw [ht, ofL_snoc]
      have hml := ofL_lt (zs.take k)
      rw [List.getElem?_eq_getElem hlt, Option.getD_some] at hc
      clear ht hR
      have HST : Hid (ofL (zs.take (k + 1)) = ofStep (ofL (zs.take k)) zs[k]) := hst
      clear hst
      generalize ofL (zs.take k) = m at *
      generalize zs[k] = z at *
      have cH := holdable_any z wr
      by_cases hz : 0 ≤ z ∧ z < 64
      · rw [decide_eq_true hz] at cH
        have e := or_step m z hml hz.1 hz.2
        rw [← HST.out] at e
        go_wp2_with (go_at_call 55; refine cH.mono ?_; rintro e w' ⟨rfl, hw⟩; obtain rfl := hw.symm)
        go_roundw
        case rel => exact ⟨k + 1, by go_num, rfl, by omega, trivial⟩
        case measure => simp [RowKit.intOf]; omega
      · rw [decide_eq_false hz] at cH
        have e : ofStep m z = m := if_neg hz
        rw [← HST.out] at e
        go_wp2_with (go_at_call 55; refine cH.mono ?_; rintro e w' ⟨rfl, hw⟩; obtain rfl := hw.symm)
        go_roundw
        case rel => exact ⟨k + 1, by go_num, by rw [e], by omega, trivial⟩
        case measure => simp [RowKit.intOf]; omega
    · obtain rfl : k = zs.length := by omega
      rw [List.take_length]
      go_wp2
      go_ret
      exact ⟨rfl, rfl⟩
end Go.Proofs.YtcocbjipikeebaaDoor.Msk
/-
  The document's answers on masks walked: Bit, Has, Of, Full, List, Sub, for every word, number and list.
-/
namespace Go.Proofs.YtcocbjipikeebaaDoor.Msk
open Go Go.Lib Go.RowKit

theorem refBit_any (n : Nat) (hn : n < 64) (w : World) :
    Calls Tryd.prog 48 #[.int .i64 (n : Int)] w fun e w' => e = .returned (.int .u64 ((2 ^ n : Nat) : Int)) ∧ w' = w := by
  go_enter Tryd.func48, Tryd.ntmps48
  go_wp2
  go_loopw [3, 4] (fun bv kv wr => ∃ k : Nat, kv = .int .i64 (k : Int) ∧ bv = .int .u64 ((2 ^ k : Nat) : Int) ∧ k ≤ n ∧ wr = w) (fun _ kv _ => n - (RowKit.intOf kv).toNat)
  case atStart => exact ⟨0, rfl, rfl, Nat.zero_le _, rfl⟩
  case round =>
    obtain ⟨k, rfl, rfl, hk, rfl⟩ := hrel
    by_cases hlt : k < n
    · have hp := pow_lt64 (n := k + 1) (by omega)
      have HP : Hid (2 ^ (k + 1) = 2 ^ k * 2) := Nat.pow_succ _ _
      obtain ⟨q, hq⟩ : ∃ q, q = 2 ^ (k + 1) := ⟨_, rfl⟩
      have HQ : Hid (q = 2 ^ (k + 1)) := hq
      rw [← hq] at hp HP
      clear hq
      generalize 2 ^ k = p at *
      have e : IntKind.u64.wrap ((p : Int) * 2) = (q : Int) := by have := HP.out; rw [IntKind.wrap_u64]; omega
      go_wp2
      go_roundw
      case rel => exact ⟨k + 1, by go_num, by rw [HQ.out], by omega, trivial⟩
      case measure => simp [RowKit.intOf]; omega
    · obtain rfl : k = n := by omega
      go_wp2
      go_ret
      exact ⟨rfl, rfl⟩

theorem quo_bit (m p : Nat) (hm : m < 18446744073709551616) : ((IntKind.u64.wrap ((m : Int) / (p : Int))).tmod 2 == 1) = decide (m / p % 2 = 1) := by
  have hl : m / p < 18446744073709551616 := Nat.lt_of_le_of_lt (Nat.div_le_self _ _) hm
  have e : IntKind.u64.wrap ((m : Int) / (p : Int)) = ((m / p : Nat) : Int) := by
    rw [← Int.natCast_ediv, IntKind.wrap_u64]
    generalize m / p = q at *
    omega
  rw [e]
  generalize m / p = q at *
  rw [Int.tmod_eq_emod_of_nonneg (by omega), Bool.eq_iff_iff, beq_iff_eq, decide_eq_true_eq]
  omega

theorem refHas_any (m : Nat) (i : Int) (hm : m < 18446744073709551616) (w : World) :
    Calls Tryd.prog 49 #[.int .u64 m, .int .i64 i] w fun e w' => e = .returned (.bool (decide (0 ≤ i ∧ i < 64) && m.testBit i.toNat)) ∧ w' = w := by
  by_cases h : 0 ≤ i ∧ i < 64
  · rw [decide_eq_true h]
    obtain ⟨n, rfl⟩ := Int.eq_ofNat_of_zero_le h.1
    have cB := refBit_any n (by omega) w
    rw [show ((n : Int)).toNat = n from rfl, Bool.true_and, bit_div]
    have hp := Nat.two_pow_pos n
    have e := quo_bit m (2 ^ n) hm
    generalize 2 ^ n = p at *
    go_enter Tryd.func49, Tryd.ntmps49
    go_wp2_with (go_at_call 48; refine cB.mono ?_; rintro e w' ⟨rfl, hw⟩; obtain rfl := hw.symm)
    go_ret
    exact ⟨rfl, rfl⟩
  · rw [decide_eq_false h, Bool.false_and]
    go_enter Tryd.func49, Tryd.ntmps49
    go_wp2
    all_goals go_ret
    all_goals exact ⟨rfl, rfl⟩

set_option maxHeartbeats 1000000 in
theorem refFull_any (n : Int) (w : World) :
    Calls Tryd.prog 26 #[.int .i64 n] w fun e w' => e = .returned (.int .u64 (fullN n : Nat)) ∧ w' = w := by
  go_enter Tryd.func26, Tryd.ntmps26
  go_wp2
  go_loopw [3, 4] (fun mv iv wr => ∃ k : Nat, iv = .int .i64 (k : Int) ∧ mv = .int .u64 ((2 ^ k - 1 : Nat) : Int) ∧ k ≤ (min n 64).toNat ∧ wr = w) (fun _ iv _ => 64 - (RowKit.intOf iv).toNat)
  case atStart => exact ⟨0, rfl, rfl, Nat.zero_le _, rfl⟩
  case round =>
    obtain ⟨k, rfl, rfl, hk, rfl⟩ := hrel
    by_cases hlt : k < (min n 64).toNat
    · have h1 : (k : Int) < 64 := by omega
      have h2 : (k : Int) < n := by omega
      have cB := refBit_any k (by omega) wr
      have hp : 2 ^ k ≤ 2 ^ 63 := Nat.pow_le_pow_right (by decide) (by omega)
      have hp0 := Nat.two_pow_pos k
      have HP : Hid (2 ^ (k + 1) = 2 ^ k * 2) := Nat.pow_succ _ _
      obtain ⟨q, hq⟩ : ∃ q, q = 2 ^ (k + 1) - 1 := ⟨_, rfl⟩
      have HQ : Hid (q = 2 ^ (k + 1) - 1) := hq
      rw [HP.out] at hq
      generalize 2 ^ k = p at *
      obtain ⟨r, hr⟩ : ∃ r, r = p - 1 := ⟨_, rfl⟩
      rw [← hr]
      have e : IntKind.u64.wrap ((r : Int) + (p : Int)) = (q : Int) := by rw [IntKind.wrap_u64]; omega
      clear hq hr
      go_wp2_with (go_at_call 48; refine cB.mono ?_; rintro e w' ⟨rfl, hw⟩; obtain rfl := hw.symm)
      go_roundw
      case rel => exact ⟨k + 1, by go_num, by rw [HQ.out], by omega, trivial⟩
      case measure => simp [RowKit.intOf]; omega
    · have HE : Hid (fullN n = 2 ^ k - 1) := by show _ = _; unfold fullN; rw [show (min n 64).toNat = k by omega]
      obtain ⟨r, hr⟩ : ∃ r, r = 2 ^ k - 1 := ⟨_, rfl⟩
      rw [← hr] at HE ⊢
      clear hr
      go_wp2
      all_goals first | (exfalso; omega) | skip
      all_goals go_ret
      all_goals exact ⟨by rw [HE.out]; rfl, rfl⟩

theorem infoInt : (Tryd.prog.info? 3).map (fun i => (i.zero, i.size, i.bytes)) = some (some (.int .i64 0), 1, 8) := by kernel_rfl
theorem infoU64 : (Tryd.prog.info? 39).map (fun i => (i.zero, i.size, i.bytes)) = some (some (.int .u64 0), 1, 8) := by kernel_rfl
/-- Numbers, as cells; words, as cells. -/
def nums (l : List Nat) : List Value := l.map fun i : Nat => Value.int .i64 (i : Int)
def wrds (l : List Nat) : List Value := l.map fun i : Nat => Value.int .u64 (i : Int)
theorem nums_length (l : List Nat) : (nums l).length = l.length := by simp [nums]
theorem wrds_length (l : List Nat) : (wrds l).length = l.length := by simp [wrds]
theorem nums_snoc (l : List Nat) (i : Nat) : nums (l ++ [i]) = nums l ++ [.int .i64 (i : Int)] := by simp [nums]
theorem wrds_snoc (l : List Nat) (i : Nat) : wrds (l ++ [i]) = wrds l ++ [.int .u64 (i : Int)] := by simp [wrds]
theorem bitsF_le (f m : Nat) : (bitsF f m).length ≤ f := by
  have := List.length_filter_le (fun i => m.testBit i) (List.range f)
  rw [List.length_range] at this
  exact this
theorem bitsF_in {f m : Nat} (h : m.testBit f = true) : bitsF (f + 1) m = bitsF f m ++ [f] := by
  unfold bitsF
  rw [List.range_succ, List.filter_append]
  simp [h]
theorem bitsF_out {f m : Nat} (h : m.testBit f = false) : bitsF (f + 1) m = bitsF f m := by
  unfold bitsF
  rw [List.range_succ, List.filter_append]
  simp [h]

set_option maxHeartbeats 1000000 in
theorem refList_any (m : Nat) (hm : m < 18446744073709551616) (w : World) :
    Calls Tryd.prog 50 #[.int .u64 m] w fun e w' => ∃ v, e = .returned v ∧ w'.ownsRow w.heap.size 3 1 v (bitsL m).length (nums (bitsL m)) ∧ Below w.heap.size w w' := by
  obtain ⟨i0, hi, hz0, hz1, hz2⟩ := info_parts infoInt
  go_enter Tryd.func50, Tryd.ntmps50
  go_wp2
  go_loopw [3, 4] (fun lv iv wr => ∃ k : Nat, iv = .int .i64 (k : Int) ∧ k ≤ 64 ∧ wr.ownsRow w.heap.size 3 1 lv (bitsF k m).length (nums (bitsF k m)) ∧ Below w.heap.size w wr) (fun _ iv _ => 64 - (RowKit.intOf iv).toNat)
  case atStart => exact ⟨0, rfl, by omega, World.ownsRow_nil _ _ _ _, Below.refl _ _⟩
  case round =>
    obtain ⟨k, rfl, hk, hown, hB⟩ := hrel
    have hfl := bitsF_le k m
    by_cases hlt : k < 64
    · have cH := refHas_any m k hm wr
      have hkz : (k : Int) < 64 := by omega
      rw [decide_eq_true (⟨by omega, hkz⟩ : 0 ≤ (k : Int) ∧ (k : Int) < 64), Bool.true_and, show ((k : Int)).toNat = k from rfl] at cH
      cases hb : m.testBit k with
      | false =>
        have HE : Hid (bitsF (k + 1) m = bitsF k m) := bitsF_out hb
        rw [hb] at cH
        clear hb
        go_wp2_with (go_at_call 49; refine cH.mono ?_; rintro e w' ⟨rfl, hw⟩; obtain rfl := hw.symm)
        go_roundw
        case rel => exact ⟨k + 1, by go_num, by omega, by rw [HE.out]; exact hown, hB⟩
        case measure => simp [RowKit.intOf]; omega
      | true =>
        have HE : Hid (bitsF (k + 1) m = bitsF k m ++ [k]) := bitsF_in hb
        rw [hb] at cH
        clear hb
        generalize bitsF k m = L at *
        go_wp2_with (first
          | (go_at_call 49; refine cH.mono ?_; rintro e w' ⟨rfl, hw⟩; obtain rfl := hw.symm)
          | (at_builtin; refine wpList_append_own _ rfl _ _ 42 rfl w.heap.size 3 i0 (.int .i64 0) 1 8 Tryd.underlying42 hi hz0 hz1 hz2 rfl (by decide) _ _ _ rfl (hown.alloc _) ⟨wr.heap.size, 0, none⟩ 1 1 [.int .i64 (k : Int)] rfl rfl (cell_one_new _ _ _) (by simp [Value.oneCell']) (by unfold maxLen; omega) (by omega) (by have := hB.size; simp; omega) ?_))
        intro v' w1 hown' hgrow _
        have hB3 : Below w.heap.size w w1 := Below.grown (hB.alloc hB.size _) hgrow (by have := hB.size; simp; omega) (fun j hj => (hown.lt _ hj).1)
        obtain ⟨g', cap', rfl⟩ := ownsRow_succ hown'
        have hown3 : w1.ownsRow w.heap.size 3 1 (.slice (some ⟨g', 0, none⟩) (L.length + 1) cap') (L ++ [k]).length (nums (L ++ [k])) := by
          rw [nums_snoc, List.length_append]; exact hown'
        clear hown' hgrow hown hB
        go_wp2
        go_roundw
        case rel => exact ⟨k + 1, by go_num, by omega, by rw [HE.out]; exact hown3, hB3⟩
        case measure => simp [RowKit.intOf]; omega
    · obtain rfl : k = 64 := by omega
      go_wp2
      go_ret
      exact ⟨_, rfl, hown, hB⟩
end Go.Proofs.YtcocbjipikeebaaDoor.Msk
