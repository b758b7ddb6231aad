/-
  Of no program: a word's numbers, rising; taking the lowest one off; the word of a list; a word's subsets in their order, and the step from one to the next.
-/
import Derived.Lib.TrailingZeros
import Derived.Test.YthjgldjjplcncaaProg
import Derived.WalkKit
import Derived.Lib.Walk
import Derived.LoopTactic
import Derived.BigQuiet
import Derived.Deep.QuietTactic
import Derived.WalkSmall
import Derived.Laws.Bits64b
import Derived.Laws.BitsAllLaws
import Derived.Laws.ShiftsVar
import Derived.Test.YthjgldjjplcncaaGxd
import Derived.Test.YthjgldjjplcncaaGxt
import Derived.Deep.RegionWith
import Derived.Test.YthjgldjjplcncaaScl
import Derived.OrdersHeld
namespace Go.Proofs.Ythjgldjjplcncaa.Msk
open Go Go.Lib

/-- The numbers of a word, rising. -/
def bitsL (m : Nat) : List Nat := (List.range 64).filter fun i => m.testBit i

theorem bitsL_le (m : Nat) : (bitsL m).length ≤ 64 := by
  have := List.length_filter_le (fun i => m.testBit i) (List.range 64)
  rw [List.length_range] at this
  exact this
theorem mem_bitsL {m i : Nat} : i ∈ bitsL m ↔ i < 64 ∧ m.testBit i = true := by
  unfold bitsL
  rw [List.mem_filter, List.mem_range]
theorem bitsL_sorted (m : Nat) : (bitsL m).Pairwise (· < ·) := List.Pairwise.filter _ List.pairwise_lt_range
theorem bitsL_zero : bitsL 0 = [] := by
  unfold bitsL
  rw [List.filter_eq_nil_iff]
  intro i _
  simp

theorem filter_low {p q : Nat → Bool} {k : Nat} (hk : p k = true) (hl : ∀ j, j < k → p j = false) (hq : ∀ j, q j = (p j && !decide (j = k))) :
    ∀ n, (n ≤ k → (List.range n).filter p = [] ∧ (List.range n).filter q = []) ∧ (k < n → (List.range n).filter p = k :: (List.range n).filter q)
  | 0 => ⟨fun _ => ⟨rfl, rfl⟩, fun h => by omega⟩
  | n + 1 => by
    obtain ⟨h1, h2⟩ := filter_low hk hl hq n
    refine ⟨fun h => ?_, fun h => ?_⟩
    · obtain ⟨e1, e2⟩ := h1 (by omega)
      rw [List.range_succ, List.filter_append, List.filter_append, e1, e2]
      have hp := hl n (by omega)
      have hq' := hq n
      rw [hp] at hq'
      simp [hp, hq']
    · rw [List.range_succ, List.filter_append, List.filter_append]
      by_cases hn : n = k
      · subst hn
        obtain ⟨e1, e2⟩ := h1 (Nat.le_refl _)
        have hq' := hq n
        rw [hk] at hq'
        rw [e1, e2]
        simp [hk, hq']
      · rw [h2 (by omega)]
        have hq' := hq n
        have : decide (n = k) = false := by simp [hn]
        rw [this] at hq'
        simp only [Bool.not_false, Bool.and_true] at hq'
        rw [List.cons_append]
        congr 2
        simp [List.filter, hq']

theorem low_facts (x : Nat) (h0 : x ≠ 0) (hx : x < 2 ^ 64) :
    ctz 64 x < 64 ∧ x.testBit (ctz 64 x) = true ∧ (∀ j, j < ctz 64 x → x.testBit j = false) ∧ ∀ j, (x &&& (x - 1)).testBit j = (x.testBit j && !decide (j = ctz 64 x)) := by
  have hc : ctz 64 x = ctzFrom 64 x := by unfold ctz; rw [if_neg h0]
  obtain ⟨m, hm, hk⟩ := ctzFrom_spec 64 x (by omega) hx
  rw [hc]
  generalize ctzFrom 64 x = k at *
  have hp : 0 < 2 ^ k := Nat.two_pow_pos k
  have e1 : x = 2 ^ k * (2 * m + 1) + 0 := by omega
  have e2 : x - 1 = 2 ^ k * (2 * m) + (2 ^ k - 1) := by rw [hm, Nat.mul_add, Nat.mul_one]; omega
  have t1 : ∀ j, x.testBit j = if j < k then false else (2 * m + 1).testBit (j - k) := fun j => by
    rw [e1, Nat.testBit_two_pow_mul_add _ hp]
    simp
  have t2 : ∀ j, (x - 1).testBit j = if j < k then true else (2 * m).testBit (j - k) := fun j => by
    rw [e2, Nat.testBit_two_pow_mul_add _ (by omega)]
    by_cases h : j < k
    · simp [h, Nat.testBit_two_pow_sub_one]
    · simp [h]
  refine ⟨hk, ?_, fun j hj => ?_, fun j => ?_⟩
  · rw [t1, if_neg (by omega), Nat.sub_self, Nat.testBit_zero]
    simp
  · rw [t1, if_pos hj]
  · rw [Nat.testBit_and, t2, t1]
    by_cases h : j < k
    · rw [if_pos h, if_pos h]; simp
    · rw [if_neg h, if_neg h]
      by_cases he : j = k
      · subst he
        rw [Nat.sub_self, Nat.testBit_zero, Nat.testBit_zero]
        have : 2 * m % 2 = 0 := by omega
        simp
      · obtain ⟨d, hd⟩ : ∃ d, j - k = d + 1 := ⟨j - k - 1, by omega⟩
        rw [hd, Nat.testBit_succ, Nat.testBit_succ, show (2 * m + 1) / 2 = m by omega, show 2 * m / 2 = m by omega]
        simp [he]

theorem bitsL_step (x : Nat) (h0 : x ≠ 0) (hx : x < 2 ^ 64) : bitsL x = ctz 64 x :: bitsL (x &&& (x - 1)) := by
  obtain ⟨hk, h1, h2, h3⟩ := low_facts x h0 hx
  exact (filter_low h1 h2 h3 64).2 hk
theorem rest_lt {x : Nat} (hx : x < 2 ^ 64) : x &&& (x - 1) < 2 ^ 64 := Nat.and_lt_two_pow _ (by omega)

/-- The word of a list. -/
def ofStep (m : Nat) (i : Int) : Nat := if 0 ≤ i ∧ i < 64 then m ||| 2 ^ i.toNat else m
def ofL (zs : List Int) : Nat := zs.foldl ofStep 0
theorem ofL_snoc (zs : List Int) (i : Int) : ofL (zs ++ [i]) = ofStep (ofL zs) i := by simp [ofL]
theorem ofStep_lt {m : Nat} (h : m < 2 ^ 64) (i : Int) : ofStep m i < 2 ^ 64 := by
  unfold ofStep
  split
  · refine Nat.or_lt_two_pow h ?_
    exact Nat.pow_lt_pow_right (by decide) (by omega)
  · exact h
theorem ofF_lt : ∀ (zs : List Int) (m : Nat), m < 2 ^ 64 → zs.foldl ofStep m < 2 ^ 64
  | [], _, h => h
  | i :: r, m, h => ofF_lt r (ofStep m i) (ofStep_lt h i)
theorem ofL_lt (zs : List Int) : ofL zs < 2 ^ 64 := ofF_lt zs 0 (by decide)
theorem ofStep_bit (m : Nat) (i : Int) (j : Nat) (hj : j < 64) : (ofStep m i).testBit j = (m.testBit j || decide (i = (j : Int))) := by
  unfold ofStep
  by_cases h : 0 ≤ i ∧ i < 64
  · rw [if_pos h, Nat.testBit_or, Nat.testBit_two_pow]
    congr 1
    exact decide_eq_decide.2 ⟨fun e => by omega, fun e => by omega⟩
  · rw [if_neg h]
    have : decide (i = (j : Int)) = false := by rw [decide_eq_false_iff_not]; omega
    rw [this, Bool.or_false]
theorem ofF_bit (j : Nat) (hj : j < 64) : ∀ (zs : List Int) (m : Nat), (zs.foldl ofStep m).testBit j = (m.testBit j || decide ((j : Int) ∈ zs))
  | [], m => by simp
  | i :: r, m => by
    rw [List.foldl_cons, ofF_bit j hj r, ofStep_bit m i j hj, Bool.or_assoc]
    congr 1
    by_cases h : i = (j : Int)
    · simp [h]
    · have h' : ¬ (j : Int) = i := fun e => h e.symm
      simp [h, h']
theorem ofL_bit (zs : List Int) (j : Nat) (hj : j < 64) : (ofL zs).testBit j = decide ((j : Int) ∈ zs) := by
  unfold ofL
  rw [ofF_bit j hj]
  simp
/-- A list of numbers as the words of the program have them. -/
def ints (l : List Nat) : List Int := l.map fun i : Nat => (i : Int)
theorem ofL_back (m : Nat) (h : m < 2 ^ 64) : ofL (ints (bitsL m)) = m := by
  apply Nat.eq_of_testBit_eq
  intro j
  by_cases hj : j < 64
  · rw [ofL_bit _ j hj]
    cases hb : m.testBit j with
    | true => 
      rw [decide_eq_true_eq]
      exact List.mem_map.2 ⟨j, mem_bitsL.2 ⟨hj, hb⟩, rfl⟩
    | false =>
      rw [decide_eq_false_iff_not]
      intro hm
      obtain ⟨i, hi, e⟩ := List.mem_map.1 hm
      obtain rfl : i = j := by omega
      rw [(mem_bitsL.1 hi).2] at hb
      cases hb
  · have hp : 2 ^ 64 ≤ 2 ^ j := Nat.pow_le_pow_right (by decide) (by omega)
    rw [Nat.testBit_lt_two_pow (Nat.lt_of_lt_of_le (ofL_lt _) hp), Nat.testBit_lt_two_pow (Nat.lt_of_lt_of_le h hp)]

/-- To add a number that is not there is to put it there. -/
theorem add_bit (m i : Nat) (hm : m < 2 ^ 64) (hi : i < 64) (h : m.testBit i = false) : m + 2 ^ i = m ||| 2 ^ i := by
  have hp : 2 ^ i < 2 ^ 64 := Nat.pow_lt_pow_right (by decide) hi
  have ha : m &&& 2 ^ i = 0 := by
    apply Nat.eq_of_testBit_eq
    intro j
    rw [Nat.testBit_and, Nat.testBit_two_pow, Nat.zero_testBit]
    by_cases e : i = j
    · subst e; rw [h]; rfl
    · simp [e]
  have hq : m + 2 ^ i < 2 ^ 65 := by omega
  have hb := BitVec.add_eq_or_of_and_eq_zero (BitVec.ofNat 65 m) (BitVec.ofNat 65 (2 ^ i)) (by
    apply BitVec.eq_of_toNat_eq
    rw [BitVec.toNat_and, BitVec.toNat_ofNat, BitVec.toNat_ofNat, Nat.mod_eq_of_lt (by omega), Nat.mod_eq_of_lt (by omega), ha]
    rfl)
  have := congrArg BitVec.toNat hb
  rw [BitVec.toNat_add, BitVec.toNat_or, BitVec.toNat_ofNat, BitVec.toNat_ofNat, Nat.mod_eq_of_lt (a := m) (by omega), Nat.mod_eq_of_lt (a := 2 ^ i) (by omega), Nat.mod_eq_of_lt hq] at this
  exact this
theorem bit_div (m i : Nat) : m.testBit i = decide (m / 2 ^ i % 2 = 1) := Nat.testBit_eq_decide_div_mod_eq

/-- The subset of a word whose number among its subsets is k. -/
def dep : Nat → Nat → Nat → Nat
  | 0, _, _ => 0
  | f + 1, m, k => if m % 2 = 1 then k % 2 + 2 * dep f (m / 2) (k / 2) else 2 * dep f (m / 2) k
def cnt : Nat → Nat → Nat
  | 0, _ => 0
  | f + 1, m => m % 2 + cnt f (m / 2)
def bitsF (f m : Nat) : List Nat := (List.range f).filter fun i => m.testBit i
theorem bitsF_succ (f m : Nat) : bitsF (f + 1) m = (if m % 2 = 1 then [0] else []) ++ (bitsF f (m / 2)).map (· + 1) := by
  unfold bitsF
  rw [List.range_succ_eq_map, List.filter_cons, List.filter_map]
  have e : ((fun i => m.testBit i) ∘ Nat.succ) = fun i => (m / 2).testBit i := by
    funext i
    exact Nat.testBit_succ m i
  rw [e, Nat.testBit_zero]
  by_cases h : m % 2 = 1
  · simp [h]
  · simp [h]
theorem cnt_len : ∀ (f m : Nat), (bitsF f m).length = cnt f m
  | 0, _ => rfl
  | f + 1, m => by
    rw [bitsF_succ, List.length_append, List.length_map, cnt_len f, cnt]
    by_cases h : m % 2 = 1
    · simp [h]
    · have : m % 2 = 0 := by omega
      simp [this]
theorem cnt_bits (m : Nat) : (bitsL m).length = cnt 64 m := cnt_len 64 m
theorem dep_zero : ∀ (f m : Nat), dep f m 0 = 0
  | 0, _ => rfl
  | f + 1, m => by
    rw [dep, dep_zero f]
    simp
theorem dep_sub : ∀ (f m k j : Nat), (dep f m k).testBit j = true → m.testBit j = true
  | 0, m, k, j, h => by simp [dep] at h
  | f + 1, m, k, 0, h => by
    rw [dep] at h
    rw [Nat.testBit_zero] at h ⊢
    by_cases hm : m % 2 = 1
    · simp [hm]
    · rw [if_neg hm] at h
      simp at h
  | f + 1, m, k, j + 1, h => by
    rw [dep] at h
    rw [Nat.testBit_succ] at h ⊢
    by_cases hm : m % 2 = 1
    · rw [if_pos hm, show (k % 2 + 2 * dep f (m / 2) (k / 2)) / 2 = dep f (m / 2) (k / 2) by omega] at h
      exact dep_sub f _ _ j h
    · rw [if_neg hm, show 2 * dep f (m / 2) k / 2 = dep f (m / 2) k by omega] at h
      exact dep_sub f _ _ j h
theorem dep_lt : ∀ (f m k : Nat), dep f m k < 2 ^ f
  | 0, _, _ => by simp [dep]
  | f + 1, m, k => by
    rw [dep, Nat.pow_succ]
    have h1 := dep_lt f (m / 2) (k / 2)
    have h2 := dep_lt f (m / 2) k
    split <;> omega
theorem dep_last : ∀ (f m : Nat), m < 2 ^ f → dep f m (2 ^ cnt f m - 1) = m
  | 0, m, h => by simp at h; subst h; rfl
  | f + 1, m, h => by
    rw [Nat.pow_succ] at h
    have ih := dep_last f (m / 2) (by omega)
    have hp := Nat.two_pow_pos (cnt f (m / 2))
    rw [dep, cnt]
    by_cases hm : m % 2 = 1
    · rw [if_pos hm, hm, Nat.add_comm 1, Nat.pow_succ, show (2 ^ cnt f (m / 2) * 2 - 1) / 2 = 2 ^ cnt f (m / 2) - 1 by omega, ih]
      omega
    · have h0 : m % 2 = 0 := by omega
      rw [if_neg hm, h0, Nat.zero_add, ih]
      omega
theorem dep_mono : ∀ (f m k k' : Nat), k < k' → k' < 2 ^ cnt f m → dep f m k < dep f m k'
  | 0, m, k, k', h, h' => by simp [cnt] at h'; omega
  | f + 1, m, k, k', h, h' => by
    rw [cnt] at h'
    rw [dep, dep]
    by_cases hm : m % 2 = 1
    · rw [if_pos hm, if_pos hm]
      rw [hm, Nat.add_comm 1, Nat.pow_succ] at h'
      by_cases e : k / 2 = k' / 2
      · rw [e]; omega
      · have := dep_mono f (m / 2) (k / 2) (k' / 2) (by omega) (by omega)
        omega
    · have h0 : m % 2 = 0 := by omega
      rw [h0, Nat.zero_add] at h'
      rw [if_neg hm, if_neg hm]
      have := dep_mono f (m / 2) k k' h h'
      omega

/-- The step from a subset to the next, in words of f bits. -/
def aft (f s m : Nat) : Nat := ((s ||| (2 ^ f - 1 - m)) + 1) % 2 ^ f &&& m
theorem or_back (f s m : Nat) (hm : m < 2 ^ f) (hs : s < 2 ^ f) (hsub : ∀ j, s.testBit j = true → m.testBit j = true) : (s ||| (2 ^ f - 1 - m)) % 2 ^ f &&& m = s := by
  have hlt : s ||| (2 ^ f - 1 - m) < 2 ^ f := Nat.or_lt_two_pow hs (by omega)
  rw [Nat.mod_eq_of_lt hlt]
  apply Nat.eq_of_testBit_eq
  intro j
  rw [Nat.testBit_and, Nat.testBit_or, show 2 ^ f - 1 - m = 2 ^ f - (m + 1) by omega, Nat.testBit_two_pow_sub_succ hm]
  cases hb : s.testBit j with
  | true => rw [hsub j hb]; rfl
  | false => cases m.testBit j <;> simp
theorem two_eq {a b : Nat} (h1 : a / 2 = b / 2) (h2 : a % 2 = 1 ↔ b % 2 = 1) : a = b := by
  by_cases h : a % 2 = 1
  · have := h2.1 h; omega
  · have : ¬ b % 2 = 1 := fun e => h (h2.2 e)
    omega
theorem dep_next : ∀ (f m k : Nat), m < 2 ^ f → k + 1 < 2 ^ cnt f m → aft f (dep f m k) m = dep f m (k + 1)
  | 0, m, k, _, h => by simp [cnt] at h
  | f + 1, m, k, hm, h => by
    have hm0 := hm
    rw [Nat.pow_succ] at hm
    rw [cnt] at h
    have hp : 0 < 2 ^ f := Nat.two_pow_pos f
    have hC : (2 ^ (f + 1) - 1 - m) / 2 = 2 ^ f - 1 - m / 2 := by rw [Nat.pow_succ]; omega
    have hC2 : (2 ^ (f + 1) - 1 - m) % 2 = 1 ↔ ¬ m % 2 = 1 := by rw [Nat.pow_succ]; omega
    have half : ∀ T : Nat, (T % 2 ^ (f + 1)) / 2 = T / 2 % 2 ^ f := fun T => by rw [Nat.pow_succ, Nat.mul_comm, Nat.mod_mul_right_div_self]
    have odd : ∀ T : Nat, T % 2 ^ (f + 1) % 2 = T % 2 := fun T => Nat.mod_mod_of_dvd _ (by rw [Nat.pow_succ]; exact Nat.dvd_mul_left 2 _)
    unfold aft
    by_cases ho : m % 2 = 1
    · rw [ho, Nat.add_comm 1 (cnt f (m / 2)), Nat.pow_succ] at h
      by_cases hc : k % 2 = 1
      · have ih := dep_next f (m / 2) (k / 2) (by omega) (by omega)
        unfold aft at ih
        have eo : dep (f + 1) m k = 1 + 2 * dep f (m / 2) (k / 2) := by rw [dep, if_pos ho, hc]
        have en : dep (f + 1) m (k + 1) = 2 * dep f (m / 2) (k / 2 + 1) := by rw [dep, if_pos ho, show (k + 1) % 2 = 0 by omega, show (k + 1) / 2 = k / 2 + 1 by omega]; omega
        rw [eo, en]
        have o1 : ((1 + 2 * dep f (m / 2) (k / 2)) ||| (2 ^ (f + 1) - 1 - m)) % 2 = 1 := Nat.or_mod_two_eq_one.2 (.inl (by omega))
        have o2 : ((1 + 2 * dep f (m / 2) (k / 2)) ||| (2 ^ (f + 1) - 1 - m)) / 2 = dep f (m / 2) (k / 2) ||| (2 ^ f - 1 - m / 2) := by rw [Nat.or_div_two, hC, show (1 + 2 * dep f (m / 2) (k / 2)) / 2 = dep f (m / 2) (k / 2) by omega]
        generalize (1 + 2 * dep f (m / 2) (k / 2)) ||| (2 ^ (f + 1) - 1 - m) = T at *
        refine two_eq ?_ ?_
        · rw [Nat.and_div_two, half, show (T + 1) / 2 = T / 2 + 1 by omega, o2, ih]; omega
        · rw [Nat.and_mod_two_eq_one, odd]; omega
      · have eo : dep (f + 1) m k = 2 * dep f (m / 2) (k / 2) := by rw [dep, if_pos ho, show k % 2 = 0 by omega]; omega
        have en : dep (f + 1) m (k + 1) = 1 + 2 * dep f (m / 2) (k / 2) := by rw [dep, if_pos ho, show (k + 1) % 2 = 1 by omega, show (k + 1) / 2 = k / 2 by omega]
        have ob := or_back f (dep f (m / 2) (k / 2)) (m / 2) (by omega) (dep_lt _ _ _) (dep_sub f _ _)
        rw [eo, en]
        have o1 : ¬ (2 * dep f (m / 2) (k / 2) ||| (2 ^ (f + 1) - 1 - m)) % 2 = 1 := fun e => by
          rcases Nat.or_mod_two_eq_one.1 e with e | e
          · omega
          · exact hC2.1 e ho
        have o2 : (2 * dep f (m / 2) (k / 2) ||| (2 ^ (f + 1) - 1 - m)) / 2 = dep f (m / 2) (k / 2) ||| (2 ^ f - 1 - m / 2) := by rw [Nat.or_div_two, hC, show 2 * dep f (m / 2) (k / 2) / 2 = dep f (m / 2) (k / 2) by omega]
        generalize 2 * dep f (m / 2) (k / 2) ||| (2 ^ (f + 1) - 1 - m) = T at *
        refine two_eq ?_ ?_
        · rw [Nat.and_div_two, half, show (T + 1) / 2 = T / 2 by omega, o2, ob]; omega
        · rw [Nat.and_mod_two_eq_one, odd]; omega
    · rw [show m % 2 = 0 by omega, Nat.zero_add] at h
      have ih := dep_next f (m / 2) k (by omega) h
      unfold aft at ih
      have eo : dep (f + 1) m k = 2 * dep f (m / 2) k := by rw [dep, if_neg ho]
      have en : dep (f + 1) m (k + 1) = 2 * dep f (m / 2) (k + 1) := by rw [dep, if_neg ho]
      rw [eo, en]
      have o1 : (2 * dep f (m / 2) k ||| (2 ^ (f + 1) - 1 - m)) % 2 = 1 := Nat.or_mod_two_eq_one.2 (.inr (hC2.2 ho))
      have o2 : (2 * dep f (m / 2) k ||| (2 ^ (f + 1) - 1 - m)) / 2 = dep f (m / 2) k ||| (2 ^ f - 1 - m / 2) := by rw [Nat.or_div_two, hC, show 2 * dep f (m / 2) k / 2 = dep f (m / 2) k by omega]
      generalize 2 * dep f (m / 2) k ||| (2 ^ (f + 1) - 1 - m) = T at *
      refine two_eq ?_ ?_
      · rw [Nat.and_div_two, half, show (T + 1) / 2 = T / 2 + 1 by omega, o2, ih]; omega
      · rw [Nat.and_mod_two_eq_one, odd]; omega

/-- The document's sum over a list of numbers. -/
def sumL : List Nat → Nat → Nat
  | [], _ => 0
  | a :: l, k => k % 2 * 2 ^ a + sumL l (k / 2)
theorem sumL_snoc : ∀ (l : List Nat) (a k : Nat), sumL (l ++ [a]) k = sumL l k + k / 2 ^ l.length % 2 * 2 ^ a
  | [], a, k => by simp [sumL]
  | b :: l, a, k => by
    rw [List.cons_append, sumL, sumL, sumL_snoc l a (k / 2), List.length_cons, Nat.pow_succ, Nat.div_div_eq_div_mul, Nat.mul_comm 2]
    omega
theorem sumL_le : ∀ (l l' : List Nat) (k : Nat), sumL l k ≤ sumL (l ++ l') k
  | [], _, _ => Nat.zero_le _
  | b :: l, l', k => by
    rw [List.cons_append, sumL, sumL]
    have := sumL_le l l' (k / 2)
    omega
theorem sumL_up : ∀ (l : List Nat) (k : Nat), sumL (l.map (· + 1)) k = 2 * sumL l k
  | [], _ => rfl
  | b :: l, k => by
    rw [List.map_cons, sumL, sumL, sumL_up l, Nat.pow_succ, Nat.mul_add, ← Nat.mul_assoc, Nat.mul_comm _ 2]
theorem sum_dep : ∀ (f m k : Nat), sumL (bitsF f m) k = dep f m k
  | 0, _, _ => rfl
  | f + 1, m, k => by
    rw [bitsF_succ, dep]
    by_cases h : m % 2 = 1
    · rw [if_pos h, if_pos h, List.cons_append, List.nil_append, sumL, sumL_up, sum_dep f]
      omega
    · rw [if_neg h, if_neg h, List.nil_append, sumL_up, sum_dep f]
/-- The k-th subset of a word of 64 bits. -/
def subK (m k : Nat) : Nat := dep 64 m k
theorem sum_subK (m k : Nat) : sumL (bitsL m) k = subK m k := sum_dep 64 m k
theorem subK_eq_last {m k : Nat} (hm : m < 2 ^ 64) (hk : k < 2 ^ (bitsL m).length) : subK m k = m ↔ k + 1 = 2 ^ (bitsL m).length := by
  rw [cnt_bits] at hk ⊢
  have hl := dep_last 64 m hm
  have hp := Nat.two_pow_pos (cnt 64 m)
  constructor
  · intro e
    by_cases hlt : k + 1 = 2 ^ cnt 64 m
    · exact hlt
    · have := dep_mono 64 m k (2 ^ cnt 64 m - 1) (by omega) (by omega)
      unfold subK at e
      omega
  · intro e
    unfold subK
    rw [show k = 2 ^ cnt 64 m - 1 by omega]
    exact hl
end Go.Proofs.Ythjgldjjplcncaa.Msk
/-
  The program's calls on masks that go through no sequence: TrailingZeros64, holdable, Of, Full, Has, after; for every word, number and list.
-/
namespace Go.Proofs.Ythjgldjjplcncaa.Msk
open Go Go.Lib Go.RowKit

/-- The library's table, in its variable. -/
def Tab (w : World) : Prop := ∀ j, j < 64 → w.cell? ⟨0, j, none⟩ = some (.int .u8 ((deBruijn64tab.getD j 0 : Nat) : Int))
theorem Tab.of {w w' : World} (h : Tab w) (e : w'.heap[0]? = w.heap[0]?) : Tab w' := fun j hj => by
  have := h j hj
  simp only [World.cell?] at this ⊢
  rw [e]
  exact this
theorem Tab.size {w : World} (h : Tab w) : 0 < w.heap.size := by
  by_cases hs : 0 < w.heap.size
  · exact hs
  · have := h 0 (by decide)
    have e : w.heap[0]? = none := Array.getElem?_eq_none (by omega)
    simp [World.cell?, e] at this
theorem Tab.below {B : Nat} {w w' : World} (h : Tab w) (hB : 0 < B) (hb : Below B w w') : Tab w' := h.of (hb.block 0 hB)

theorem tz_key (x a : Nat) (hx : x < 18446744073709551616) (hx0 : x ≠ 0) (hlow : x &&& (18446744073709551616 - x) = a) :
    IntKind.u64.wrap (bits BinOp.and IntKind.u64 (x : Int) (IntKind.u64.wrap (-(x : Int))) * 285870213051353865) / 288230376151711744 = ((a * 285870213051353865 % 18446744073709551616 / 288230376151711744 : Nat) : Int) := by
  have e1 : IntKind.u64.wrap (-(x : Int)) = ((18446744073709551616 - x : Nat) : Int) := by rw [IntKind.wrap_u64]; omega
  rw [e1, bits_and_u64_nat x _ hx (by omega), hlow, IntKind.wrap_u64]
  omega

theorem holdable_any (i : Int) (w : World) :
    Calls Try.prog 27 #[.int .i64 i] w fun e w' => e = .returned (.bool (decide (0 ≤ i ∧ i < 64))) ∧ w' = w := by
  go_enter Try.func27, Try.ntmps27
  by_cases h : 0 ≤ i
  · have e : decide (0 ≤ i ∧ i < 64) = decide (i < 64) := decide_eq_decide.2 ⟨fun x => x.2, fun x => ⟨h, x⟩⟩
    rw [e]
    go_wp2
    go_ret
    exact ⟨rfl, rfl⟩
  · have e : decide (0 ≤ i ∧ i < 64) = false := decide_eq_false fun x => h x.1
    rw [e]
    go_wp2
    go_ret
    exact ⟨rfl, rfl⟩

theorem shr_bit (m n : Nat) (hm : m < 18446744073709551616) : (bits BinOp.and IntKind.u64 ((m : Int) / 2 ^ n) 1 == 1) = m.testBit n := by
  have e : (m : Int) / 2 ^ n = ((m / 2 ^ n : Nat) : Int) := by rw [Int.natCast_ediv, Int.natCast_pow]; rfl
  have hl : m / 2 ^ n < 18446744073709551616 := Nat.lt_of_le_of_lt (Nat.div_le_self _ _) hm
  rw [e, show (1 : Int) = ((1 : Nat) : Int) from rfl, bits_and_u64_nat _ 1 hl (by decide), Nat.and_one_is_mod, bit_div]
  rw [Bool.eq_iff_iff, beq_iff_eq, decide_eq_true_eq]
  omega

theorem has_any (m : Nat) (i : Int) (w : World) (hm : m < 18446744073709551616) :
    Calls Try.prog 11 #[.int .u64 m, .int .i64 i] w fun e w' => e = .returned (.bool (decide (0 ≤ i ∧ i < 64) && m.testBit i.toNat)) ∧ w' = w := by
  by_cases h : 0 ≤ i ∧ i < 64
  · have cH := holdable_any i w
    rw [decide_eq_true h] at cH ⊢
    have hb := shr_bit m i.toNat hm
    go_enter Try.func11, Try.ntmps11
    go_wp2_with (go_at_call 27; refine cH.mono ?_; rintro e w' ⟨rfl, rfl⟩)
    go_ret
    exact ⟨rfl, rfl⟩
  · have cH := holdable_any i w
    rw [decide_eq_false h] at cH ⊢
    go_enter Try.func11, Try.ntmps11
    go_wp2_with (go_at_call 27; refine cH.mono ?_; rintro e w' ⟨rfl, rfl⟩)
    go_ret
    exact ⟨rfl, rfl⟩

/-- The word of the first n numbers. -/
def fullN (n : Int) : Nat := 2 ^ (min n 64).toNat - 1
theorem pow_cast (n : Nat) : ((2 ^ n : Nat) : Int) = (2 : Int) ^ n := by rw [Int.natCast_pow]; rfl
theorem pow_lt64 {n : Nat} (h : n < 64) : 2 ^ n < 18446744073709551616 := by
  have : 2 ^ n < 2 ^ 64 := Nat.pow_lt_pow_right (by decide) h
  omega
theorem wrap_pow {n : Nat} (h : n < 64) : IntKind.u64.wrap ((2 : Int) ^ n) = ((2 ^ n : Nat) : Int) := by
  have := pow_lt64 h
  rw [← pow_cast, IntKind.wrap_u64]
  generalize 2 ^ n = p at *
  omega
theorem not_nat (m : Nat) (hm : m < 18446744073709551616) : bits BinOp.xor IntKind.u64 IntKind.u64.max (m : Int) = ((18446744073709551615 - m : Nat) : Int) := by
  have h1 : (BitVec.ofInt 64 IntKind.u64.max).toNat = 18446744073709551615 := by decide
  have h2 : (BitVec.ofInt 64 (m : Int)).toNat = m := by
    rw [BitVec.ofInt_natCast, BitVec.toNat_ofNat]; exact Nat.mod_eq_of_lt (by omega)
  show IntKind.u64.wrap ((BitVec.ofInt 64 IntKind.u64.max ^^^ BitVec.ofInt 64 (m : Int)).toNat : Int) = _
  have hx : 18446744073709551615 ^^^ m = 18446744073709551615 - m := by
    apply Nat.eq_of_testBit_eq
    intro j
    have e1 := Nat.testBit_two_pow_sub_one 64 j
    have e2 := Nat.testBit_two_pow_sub_succ (x := m) (n := 64) hm j
    rw [show 2 ^ 64 - 1 = 18446744073709551615 from rfl] at e1
    rw [show 2 ^ 64 - (m + 1) = 18446744073709551615 - m by omega] at e2
    rw [Nat.testBit_xor, e1, e2]
    by_cases hj : j < 64
    · simp [hj]
    · have hp : 2 ^ 64 ≤ 2 ^ j := Nat.pow_le_pow_right (by decide) (by omega)
      have : m.testBit j = false := Nat.testBit_lt_two_pow (Nat.lt_of_lt_of_le hm hp)
      simp [hj, this]
  rw [BitVec.toNat_xor, h1, h2, hx, IntKind.wrap_u64]
  omega
theorem aft_int (s m : Nat) (hs : s < 18446744073709551616) (hm : m < 18446744073709551616) :
    bits BinOp.and IntKind.u64 (IntKind.u64.wrap (bits BinOp.or IntKind.u64 (s : Int) (bits BinOp.xor IntKind.u64 IntKind.u64.max (m : Int)) + 1)) (m : Int) = ((aft 64 s m : Nat) : Int) := by
  rw [not_nat m hm, bits_or_u64_nat s _ hs (by omega)]
  have e : IntKind.u64.wrap (((s ||| (18446744073709551615 - m) : Nat) : Int) + 1) = ((((s ||| (18446744073709551615 - m)) + 1) % 18446744073709551616 : Nat) : Int) := by
    rw [IntKind.wrap_u64]
    omega
  rw [e, bits_and_u64_nat _ m (Nat.mod_lt _ (by decide)) hm]
  rfl
/-- Of a list, wherever it lies. -/
def ReadsI (W : World) (ao : Option Addr) (zs : List Int) : Prop := ∀ i (_ : i < zs.length), ∃ b off, ao = some ⟨b, off, none⟩ ∧ b < W.heap.size ∧ W.cell? ⟨b, off + i, none⟩ = some (.int .i64 (zs[i]?.getD 0))
theorem ReadsI.below {W W' : World} {ao : Option Addr} {zs : List Int} (h : ReadsI W ao zs) (hb : Below W.heap.size W W') : ReadsI W' ao zs := fun j hj => by
  obtain ⟨g, o, h1, h2, h3⟩ := h j hj
  exact ⟨g, o, h1, Nat.lt_of_lt_of_le h2 hb.size, (hb.cell (p := ⟨g, o + j, none⟩) h2).trans h3⟩

theorem or_step (m : Nat) (i : Int) (hm : m < 18446744073709551616) (h0 : 0 ≤ i) (h1 : i < 64) : bits BinOp.or IntKind.u64 (m : Int) (IntKind.u64.wrap ((2 : Int) ^ i.toNat)) = ((ofStep m i : Nat) : Int) := by
  rw [wrap_pow (by omega), bits_or_u64_nat m _ hm (pow_lt64 (by omega))]
  unfold ofStep
  rw [if_pos ⟨h0, h1⟩]

set_option maxHeartbeats 1000000 in
theorem of_any (zs : List Int) (ao : Option Addr) (cap : Nat) (w : World) (hl : zs.length ≤ 4611686018427387904) (hR : ReadsI w ao zs) :
    Calls Try.prog 28 #[.slice ao zs.length cap] w fun e w' => e = .returned (.int .u64 (ofL zs : Nat)) ∧ w' = w := by
  go_enter Try.func28, Try.ntmps28
  go_wp2
  go_loopw [3, 8] (fun mv iv wr => ∃ k : Nat, iv = .int .i64 (k : Int) ∧ mv = .int .u64 (ofL (zs.take k) : Nat) ∧ k ≤ zs.length ∧ wr = w) (fun _ iv _ => zs.length - (RowKit.intOf iv).toNat)
  case atStart => exact ⟨0, rfl, rfl, Nat.zero_le _, rfl⟩
  case round =>
    obtain ⟨k, rfl, rfl, hk, rfl⟩ := hrel
    by_cases hlt : k < zs.length
    · obtain ⟨b, off, rfl, hb, hc⟩ := hR k hlt
      have ht : zs.take (k + 1) = zs.take k ++ [zs[k]] := List.take_succ_eq_append_getElem hlt
      have hst : ofL (zs.take (k + 1)) = ofStep (ofL (zs.take k)) zs[k] := by rw [ht, ofL_snoc]
      have hml := ofL_lt (zs.take k)
      rw [List.getElem?_eq_getElem hlt, Option.getD_some] at hc
      clear ht hR
      have HST : Hid (ofL (zs.take (k + 1)) = ofStep (ofL (zs.take k)) zs[k]) := hst
      clear hst
      generalize ofL (zs.take k) = m at *
      generalize zs[k] = z at *
      have cH := holdable_any z wr
      by_cases hz : 0 ≤ z ∧ z < 64
      · rw [decide_eq_true hz] at cH
        have e := or_step m z hml hz.1 hz.2
        rw [← HST.out] at e
        go_wp2_with (go_at_call 27; refine cH.mono ?_; rintro e w' ⟨rfl, hw⟩; obtain rfl := hw.symm)
        go_roundw
        case rel => exact ⟨k + 1, by go_num, rfl, by omega, trivial⟩
        case measure => simp [RowKit.intOf]; omega
      · rw [decide_eq_false hz] at cH
        have e : ofStep m z = m := if_neg hz
        rw [← HST.out] at e
        go_wp2_with (go_at_call 27; refine cH.mono ?_; rintro e w' ⟨rfl, hw⟩; obtain rfl := hw.symm)
        go_roundw
        case rel => exact ⟨k + 1, by go_num, by rw [e], by omega, trivial⟩
        case measure => simp [RowKit.intOf]; omega
    · obtain rfl : k = zs.length := by omega
      rw [List.take_length]
      go_wp2
      go_ret
      exact ⟨rfl, rfl⟩
end Go.Proofs.Ythjgldjjplcncaa.Msk
/-
  The program's Span and Letters.
-/
namespace Go.Proofs.Ythjgldjjplcncaa.Utf
open Go Go.Lib Go.RowKit

/-- So many words are shorter than n. -/
def IsCnt (l : List (List Int × Int)) (n : Int) (r : Nat) : Prop := r ≤ l.length ∧ ∀ i (hi : i < l.length), (n ≤ (l[i].1.length : Int) ↔ r ≤ i)
theorem IsCnt.unique {l : List (List Int × Int)} {n : Int} {r q : Nat} (h : IsCnt l n r) (k : IsCnt l n q) : r = q := by
  rcases Nat.lt_trichotomy r q with e | e | e
  · have h1 := (h.2 r (by have := k.1; omega)).2 (Nat.le_refl _)
    have h2 := (k.2 r (by have := k.1; omega)).1 h1
    omega
  · exact e
  · have h1 := (k.2 q (by have := h.1; omega)).2 (Nat.le_refl _)
    have h2 := (h.2 q (by have := h.1; omega)).1 h1
    omega
theorem sort_len {l : List (List Int × Int)} (hs : SortL l) {i j : Nat} (hi : i < l.length) (hj : j < l.length) (hij : i ≤ j) : l[i].1.length ≤ l[j].1.length := by
  rcases Nat.lt_or_ge i j with h | h
  · have := (List.pairwise_iff_getElem.1 hs) i j hi hj h
    unfold ordI at this
    by_cases e : cmpI (l[i].1.length : Int) (l[j].1.length : Int) = 0
    · have := cmpI_zero.1 e; omega
    · rw [if_neg e] at this
      have := cmpI_lt.1 this
      omega
  · have : i = j := by omega
    subst this
    exact Nat.le_refl _
theorem ge_any (N : Nat) (ao : Option Addr) (cp b : Nat) (n : Int) (w : World) (hc : w.cell? ⟨b, 0, none⟩ = some (.int .i64 n)) :
    Calls Try.prog 24 #[.slice ao N cp, .pointer (some ⟨b, 0, none⟩)] w fun e w' => e = .returned (.bool (decide (n ≤ (N : Int)))) ∧ w' = w := by
  go_enter Try.func24, Try.ntmps24
  go_wp2
  go_ret
  exact ⟨rfl, rfl⟩
theorem gt_any (N : Nat) (ao : Option Addr) (cp b : Nat) (n : Int) (w : World) (hc : w.cell? ⟨b, 0, none⟩ = some (.int .i64 n)) :
    Calls Try.prog 25 #[.slice ao N cp, .pointer (some ⟨b, 0, none⟩)] w fun e w' => e = .returned (.bool (decide (n < (N : Int)))) ∧ w' = w := by
  go_enter Try.func25, Try.ntmps25
  go_wp2
  go_ret
  exact ⟨rfl, rfl⟩
def spn (r1 r2 : Nat) : Nat × Nat := if r1 = r2 then (0, 0) else (r1, r2)

set_option maxRecDepth 10000 in
set_option maxHeartbeats 2000000 in
theorem span_any {W : World} {base xb : Nat} {L : List ByteArray} {l : List (List Int × Int)} (h : IsLex W base xb L l) (hl : l.length ≤ 1000) (hs : SortL l) (n : Int) :
    Calls Try.prog 8 #[.pointer (some ⟨xb, 0, none⟩), .int .i64 n] W fun e w' => (∃ r1 r2 : Nat, IsCnt l n r1 ∧ IsCnt l (n + 1) r2 ∧ e = .returned (.tuple #[.int .i64 ((spn r1 r2).1 : Nat), .int .i64 ((spn r1 r2).2 : Nat)])) ∧ Below W.heap.size W w' := by
  have hb0 := below_box' W (.cells #[.int .i64 n] 3)
  have hc0 : (W.alloc (.cells #[.int .i64 n] 3)).cell? ⟨W.heap.size, 0, none⟩ = some (.int .i64 n) := box_at W _ 3 0 rfl
  have hX0 := h.below hb0
  have HX : Aside (IsLex W base xb L l) := h
  have c1 := first_any hX0 hl (fun c => decide (n ≤ (c.length : Int))) 24 #[.pointer (some ⟨W.heap.size, 0, none⟩)] (enters_of Try.func24 (by kernel_rfl) rfl)
    (fun x ao cp w _ hb _ => (ge_any x.1.length ao cp W.heap.size n w ((hb.cell (p := ⟨W.heap.size, 0, none⟩) (by simp)).trans hc0)).mono (fun e w' ⟨he, hw⟩ => ⟨he, by rw [hw]; exact Below.refl _ _⟩))
    (fun i j hi hj hij hp => decide_eq_true (by have := of_decide_eq_true hp; have := sort_len hs hi hj hij; omega))
  have HC2 : Aside (∀ w, Below (W.alloc (.cells #[.int .i64 n] 3)).heap.size (W.alloc (.cells #[.int .i64 n] 3)) w → _) := fun w hb => first_any (hX0.below hb) hl (fun c => decide (n < (c.length : Int))) 25 #[.pointer (some ⟨W.heap.size, 0, none⟩)] (enters_of Try.func25 (by kernel_rfl) rfl)
    (fun x ao cp w' _ hb' _ => (gt_any x.1.length ao cp W.heap.size n w' ((hb'.cell (p := ⟨W.heap.size, 0, none⟩) (Nat.lt_of_lt_of_le (by simp) hb.size)).trans ((hb.cell (p := ⟨W.heap.size, 0, none⟩) (by simp)).trans hc0))).mono (fun e w' ⟨he, hw⟩ => ⟨he, by rw [hw]; exact Below.refl _ _⟩))
    (fun i j hi hj hij hp => decide_eq_true (by have := of_decide_eq_true hp; have := sort_len hs hi hj hij; omega))
  clear h hX0
  go_enter Try.func8, Try.ntmps8
  go_wp2_with fail
  refine c1.mono ?_
  rintro e w1 ⟨⟨r1, rfl, h1, h2⟩, hb1⟩
  have c2 := HC2.out w1 hb1
  clear c1 HC2
  go_wp2_with fail
  refine c2.mono ?_
  rintro e w2 ⟨⟨r2, rfl, h3, h4⟩, hb2⟩
  have i1 : IsCnt l n r1 := ⟨h1, fun i hi => by rw [← h2 i hi]; exact decide_eq_true_iff.symm⟩
  have i2 : IsCnt l (n + 1) r2 := ⟨h3, fun i hi => by rw [← h4 i hi, decide_eq_true_iff]; omega⟩
  have hfin : Below W.heap.size W w2 := hb0.trans ((hb1.trans (hb2.mono hb1.size)).mono hb0.size)
  clear h2 h4 c2 hb0 hb1 hb2 hc0
  by_cases e : r1 = r2
  · have hz : ((r1 : Int) == (r2 : Int)) = true := by rw [e]; exact beq_self_eq_true _
    go_wp2
    go_ret2
    exact ⟨⟨r1, r2, i1, i2, by rw [spn, if_pos e]; rfl⟩, hfin⟩
  · have hz : ((r1 : Int) == (r2 : Int)) = false := by rw [beq_eq_false_iff_ne]; omega
    go_wp2
    go_ret2
    exact ⟨⟨r1, r2, i1, i2, by rw [spn, if_neg e]; rfl⟩, hfin⟩
theorem spn_in {l : List (List Int × Int)} {n : Int} {r1 r2 : Nat} (h1 : IsCnt l n r1) (h2 : IsCnt l (n + 1) r2) : (spn r1 r2).1 ≤ (spn r1 r2).2 ∧ (spn r1 r2).2 ≤ l.length ∧ ∀ i, (spn r1 r2).1 ≤ i → i < (spn r1 r2).2 → ∃ hi : i < l.length, (l[i].1.length : Int) = n := by
  unfold spn
  by_cases e : r1 = r2
  · rw [if_pos e]; exact ⟨Nat.le_refl _, Nat.zero_le _, fun i _ h => by cases h⟩
  · rw [if_neg e]
    have hle : r1 ≤ r2 := by
      rcases Nat.le_total r1 r2 with h | h
      · exact h
      · exfalso
        have h3 : r2 < l.length := by have := h1.1; omega
        have h4 := (h2.2 r2 h3).2 (Nat.le_refl _)
        have h5 := (h1.2 r2 h3).1 (by omega)
        omega
    refine ⟨hle, h2.1, fun i hi hj => ?_⟩
    have hl : i < l.length := Nat.lt_of_lt_of_le hj h2.1
    have h4 := (h1.2 i hl).2 hi
    have h5 : ¬ (n + 1 ≤ (l[i].1.length : Int)) := fun h => by have := (h2.2 i hl).1 h; omega
    exact ⟨hl, by omega⟩
/-- The letters at a place of the words from f on. -/
def lzs (l : List (List Int × Int)) (at' : Nat) (f k : Nat) : List Int := ((l.drop f).take k).map fun x => x.1.getD at' 0
theorem lzs_next {l : List (List Int × Int)} {at' f k : Nat} (h : f + k < l.length) : lzs l at' f (k + 1) = lzs l at' f k ++ [l[f + k].1.getD at' 0] := by
  unfold lzs
  rw [List.take_succ_eq_append_getElem (by rw [List.length_drop]; omega), List.map_append, List.getElem_drop]
  rfl
theorem or_ofL (z : List Int) (c : Int) : bits .or .u64 (Msk.ofL z : Nat) (Msk.ofL [c] : Nat) = ((Msk.ofL (z ++ [c]) : Nat) : Int) := by
  rw [bits_or_u64_nat _ _ (Msk.ofL_lt z) (Msk.ofL_lt [c]), Msk.ofL_snoc]
  have : Msk.ofL [c] = Msk.ofStep 0 c := rfl
  rw [this]
  unfold Msk.ofStep
  by_cases h : 0 ≤ c ∧ c < 64
  · rw [if_pos h, if_pos h, Nat.zero_or]
  · rw [if_neg h, if_neg h, Nat.or_zero]
theorem reads_one (w : World) (c : Int) (t : TypeId) : Msk.ReadsI (w.alloc (.cells #[.int .i64 c] t)) (some ⟨w.heap.size, 0, none⟩) [c] := fun i hi => by
  have : i = 0 := by simpa using hi
  subst this
  exact ⟨w.heap.size, 0, rfl, by simp, box_at w _ t 0 rfl⟩

set_option maxRecDepth 10000 in
set_option maxHeartbeats 2000000 in
theorem letters_any {W : World} {base xb : Nat} {L : List ByteArray} {l : List (List Int × Int)} (h : IsLex W base xb L l) (hl : l.length ≤ 1000) (hs : SortL l) (n : Nat) (at' : Nat) (hat : at' < n) :
    Calls Try.prog 12 #[.pointer (some ⟨xb, 0, none⟩), .int .i64 (n : Nat), .int .i64 (at' : Nat)] W fun e w' => (∃ r1 r2 : Nat, IsCnt l n r1 ∧ IsCnt l ((n : Int) + 1) r2 ∧ e = .returned (.int .u64 (Msk.ofL (lzs l at' (spn r1 r2).1 ((spn r1 r2).2 - (spn r1 r2).1)) : Nat))) ∧ Below W.heap.size W w' := by
  have cO : ∀ w, Calls Try.prog 28 #[.slice none 0 0] w fun e w' => e = .returned (.int .u64 0) ∧ w' = w := fun w => Msk.of_any [] none 0 w (by simp) (fun i hi => by cases hi)
  have c1 : ∀ (c : Int) (cap : Nat) (w : World), Calls Try.prog 28 #[.slice (some ⟨w.heap.size, 0, none⟩) 1 cap] (w.alloc (.cells #[.int .i64 c] 3)) fun e w' => e = .returned (.int .u64 (Msk.ofL [c] : Nat)) ∧ w' = w.alloc (.cells #[.int .i64 c] 3) := fun c cap w => Msk.of_any [c] _ cap _ (by simp) (reads_one w c 3)
  have HX : Aside (∀ w, Below W.heap.size W w → IsLex w base xb L l) := fun w hb => h.below hb
  have cS := span_any h hl hs (n : Int)
  have hz1 : ¬ ((at' : Int) < 0) := by omega
  have hz2 : ¬ ((n : Int) ≤ (at' : Int)) := by omega
  clear h
  have HC : Aside (∀ (c : Int) (cap : Nat) (w : World), Calls Try.prog 28 #[.slice (some ⟨w.heap.size, 0, none⟩) 1 cap] (w.alloc (.cells #[.int .i64 c] 3)) fun e w' => e = .returned (.int .u64 (Msk.ofL [c] : Nat)) ∧ w' = w.alloc (.cells #[.int .i64 c] 3)) := c1
  clear c1
  go_enter Try.func12, Try.ntmps12
  go_wp2_with fail
  refine (cO _).mono ?_
  rintro e w1 ⟨rfl, hw⟩
  obtain rfl := hw.symm
  clear hw cO
  go_wp2_with fail
  refine cS.mono ?_
  rintro e w2 ⟨⟨r1, r2, i1, i2, rfl⟩, hb2⟩
  obtain ⟨hle, hlen, hin⟩ := spn_in i1 i2
  have HI : Aside (IsCnt l n r1 ∧ IsCnt l ((n : Int) + 1) r2) := ⟨i1, i2⟩
  obtain ⟨f, hf⟩ : ∃ f, f = (spn r1 r2).1 := ⟨_, rfl⟩
  obtain ⟨t, ht⟩ : ∃ t, t = (spn r1 r2).2 := ⟨_, rfl⟩
  have HFT : Aside (f = (spn r1 r2).1 ∧ t = (spn r1 r2).2) := ⟨hf, ht⟩
  rw [← hf, ← ht] at hle
  rw [← hf, ← ht] at hin
  rw [← ht] at hlen
  rw [← hf, ← ht]
  clear hf ht cS i1 i2
  go_wp2
  go_loopg [8, 7] (t - f) (fun g1 vi vm wr => ∃ k : Nat, vi = .int .i64 ((f + k : Nat) : Int) ∧ vm = .int .u64 (Msk.ofL (lzs l at' f k) : Nat) ∧ f + k ≤ t ∧ t - f - k ≤ g1 ∧ Aside (Below W.heap.size W wr))
  case atStart => exact ⟨0, rfl, by simp [lzs, Msk.ofL], by omega, by omega, hb2⟩
  case round =>
    obtain ⟨k, rfl, rfl, hk, hg1, HB⟩ := hrel
    by_cases hlt : f + k < t
    · have hltz : ((f + k : Nat) : Int) < (t : Int) := by omega
      obtain ⟨hi, hn⟩ := hin (f + k) (by omega) hlt
      obtain ⟨⟨wo, cap, h1, h2⟩, _⟩ := HX.out wr HB.out
      obtain ⟨gb, ao, cp, rfl, e2, e3, e4, _, _⟩ := h2 (f + k) hi
      have cx : wr.cell? ⟨xb, 0, none⟩ = some (.slice (some ⟨gb, 0, none⟩) l.length cap) := (show Boxed wr xb 60 _ from h1).cell
      obtain ⟨ga, oa, rfl, _, ea⟩ := e4.1 at' (by simp [ints]; omega)
      have HN : Aside (lzs l at' f (k + 1) = lzs l at' f k ++ [l[f + k].1.getD at' 0]) := lzs_next hi
      have ea' : wr.cell? ⟨ga, oa + at', none⟩ = some (.int .i64 (l[f + k].1.getD at' 0)) := by
        rw [ea, List.getD_eq_getElem?_getD, List.getElem?_eq_getElem (by omega : at' < l[f + k].1.length)]
        simp [ints]
      rw [Nat.add_zero] at e3
      have hatn : (at' : Int) < (l[f + k].1.length : Int) := by omega
      have hll : ((f + k : Nat) : Int) < (l.length : Int) := by omega
      have hor := or_ofL (lzs l at' f k) (l[f + k].1.getD at' 0)
      rw [← HN.out] at hor
      clear h1 h2 e2 e4 ea
      generalize l[f + k].1.getD at' 0 = c at *
      generalize l[f + k].1.length = N at *
      generalize hj : f + k = j at *
      have cC := HC.out c 1 wr
      generalize Msk.ofL [c] = mc at *
      generalize Msk.ofL (lzs l at' f k) = mz at *
      generalize hmn : Msk.ofL (lzs l at' f (k + 1)) = mn at *
      go_wp2_with fail
      refine cC.mono ?_
      rintro e w3 ⟨rfl, rfl⟩
      have HB3 : Aside (Below W.heap.size W (wr.alloc (.cells #[.int .i64 c] 3))) := HB.out.alloc HB.out.size _
      clear cC
      go_wp2
      go_roundg (t - f - (k + 1))
      case measure => omega
      case rel => exact ⟨k + 1, by rw [show f + (k + 1) = j + 1 by omega]; go_num, by first | rfl | (rw [hmn]), by omega, by omega, HB3⟩
    · have hltz : ¬ ((f + k : Nat) : Int) < (t : Int) := by omega
      have hkk : k = t - f := by omega
      subst hkk
      generalize hj : f + (t - f) = j at *
      go_wp2
      go_ret
      refine ⟨⟨r1, HI.out.1, r2, HI.out.2, ?_⟩, HB.out⟩
      show Ending.returned (.int .u64 (Msk.ofL (lzs l at' f (t - f)) : Nat)) = _
      rw [HFT.out.1, HFT.out.2]
end Go.Proofs.Ythjgldjjplcncaa.Utf
/-
  The document's Order: the order of words.
-/
namespace Go.Proofs.Ythjgldjjplcncaa.Utf
open Go Go.Lib Go.RowKit

set_option maxRecDepth 10000 in
set_option maxHeartbeats 2000000 in
theorem refOrder_any (p q : List Int) (hl : p.length ≤ 4611686018427387904) (ap aq : Option Addr) (cp cq : Nat) (w : World) (hp : ReadsO w ap (ints p)) (hq : ReadsO w aq (ints q)) :
    Calls Try.prog 10 #[.slice ap p.length cp, .slice aq q.length cq] w fun e w' => e = .returned (.int .i64 (ordI p q)) ∧ Below w.heap.size w w' := by
  by_cases hpq : p.length = q.length
  · have HO : Aside (ordI p q = cmpL p q) := by show _ = _; unfold ordI; rw [if_pos (cmpI_zero.2 (by rw [hpq]))]
    have HP : Aside (∀ W, Below w.heap.size w W → ReadsO W ap (ints p)) := fun W hb => hp.below hb
    have HQ : Aside (∀ W, Below w.heap.size w W → ReadsO W aq (ints q)) := fun W hb => hq.below hb
    clear hp hq
    have hne : ((p.length : Int) != (q.length : Int)) = false := by rw [hpq]; simp
    go_enter Try.func10, Try.ntmps10
    go_wp2
    go_loopg [5] p.length (fun g1 iv wr => ∃ k : Nat, iv = .int .i64 (k : Int) ∧ k ≤ p.length ∧ p.length - k ≤ g1 ∧ Aside (cmpL p q = cmpL (p.drop k) (q.drop k)) ∧ Aside (Below w.heap.size w wr))
    case atStart => exact ⟨0, rfl, Nat.zero_le _, Nat.le_refl _, rfl, Below.refl _ _⟩
    case round =>
      obtain ⟨k, rfl, hk, hg1, HE, HB⟩ := hrel
      by_cases hlt : k < p.length
      · have hltz : (k : Int) < (p.length : Int) := by omega
        have hlq : k < q.length := by omega
        have hlqz : (k : Int) < (q.length : Int) := by omega
        obtain ⟨ga, oa, rfl, _, ea⟩ := HP.out wr HB.out k (by simpa [ints] using hlt)
        rw [ints_at _ hlt] at ea
        obtain ⟨gb, ob, rfl, _, eb⟩ := HQ.out wr HB.out k (by simpa [ints] using hlq)
        rw [ints_at _ hlq] at eb
        have HN : Aside (cmpL p q = if cmpI p[k] q[k] = 0 then cmpL (p.drop (k + 1)) (q.drop (k + 1)) else cmpI p[k] q[k]) := by
          show _ = _
          rw [HE.out, drop_at hlt, drop_at hlq, cmpL_cons]
        clear HE
        generalize p[k] = x at *
        generalize q[k] = y at *
        by_cases he : x = y
        · subst he
          rw [if_pos (cmpI_zero.2 rfl)] at HN
          have hb1 : Aside (Below w.heap.size w wr.drew) := Below.drew HB.out
          go_wp2
          go_big_region
          go_wp2
          go_roundg (p.length - (k + 1))
          case measure => omega
          case rel => exact ⟨k + 1, by go_num, by omega, Nat.le_refl _, HN, hb1⟩
        · have hxy : (x != y) = true := by rw [bne_iff_ne]; exact he
          rw [if_neg (fun h => he (cmpI_zero.1 h))] at HN
          have hb2 : Aside (Below w.heap.size w wr.drew.drew) := Below.drew (Below.drew HB.out)
          have ea2 : wr.drew.cell? ⟨ga, oa + k, none⟩ = some (.int .i64 x) := ea
          have eb2 : wr.drew.cell? ⟨gb, ob + k, none⟩ = some (.int .i64 y) := eb
          by_cases hxl : x < y
          · have HV : Aside (ordI p q = -1) := by show _ = _; rw [HO.out, HN.out]; unfold cmpI; rw [if_pos hxl]
            clear HN HO
            go_wp2
            go_big_region
            go_wp2
            go_big_region
            go_wp2
            go_ret
            rw [HV.out]
            exact ⟨rfl, hb2.out⟩
          · have HV : Aside (ordI p q = 1) := by show _ = _; rw [HO.out, HN.out]; unfold cmpI; rw [if_neg hxl, if_pos (by omega)]
            clear HN HO
            go_wp2
            go_big_region
            go_wp2
            go_big_region
            go_wp2
            go_ret
            rw [HV.out]
            exact ⟨rfl, hb2.out⟩
      · have hltz : ¬ (k : Int) < (p.length : Int) := by omega
        have HV : Aside (ordI p q = 0) := by
          show _ = _
          rw [HO.out, HE.out, List.drop_eq_nil_of_le (by omega), List.drop_eq_nil_of_le (by omega)]
          rfl
        clear HE HO
        go_wp2
        go_ret
        rw [HV.out]
        exact ⟨rfl, HB.out⟩
  · have hne : ((p.length : Int) != (q.length : Int)) = true := by rw [bne_iff_ne]; omega
    by_cases hlt : p.length < q.length
    · have HV : Aside (ordI p q = -1) := by
        show _ = _
        unfold ordI
        have : cmpI (p.length : Int) q.length = -1 := by unfold cmpI; rw [if_pos (by omega)]
        rw [this, if_neg (by decide)]
      have hltz : (p.length : Int) < (q.length : Int) := by omega
      clear hp hq
      go_enter Try.func10, Try.ntmps10
      go_wp2
      go_ret
      rw [HV.out]
      exact ⟨rfl, Below.refl _ _⟩
    · have HV : Aside (ordI p q = 1) := by
        show _ = _
        unfold ordI
        have : cmpI (p.length : Int) q.length = 1 := by unfold cmpI; rw [if_neg (by omega), if_pos (by omega)]
        rw [this, if_neg (by decide)]
      have hltz : ¬ (p.length : Int) < (q.length : Int) := by omega
      clear hp hq
      go_enter Try.func10, Try.ntmps10
      go_wp2
      go_ret
      rw [HV.out]
      exact ⟨rfl, Below.refl _ _⟩
end Go.Proofs.Ythjgldjjplcncaa.Utf
/-
  The program's Word and Text.
-/
namespace Go.Proofs.Ythjgldjjplcncaa.Utf
open Go Go.Lib Go.RowKit

theorem text_any {W : World} {base xb : Nat} {L : List ByteArray} {l : List (List Int × Int)} (h : IsLex W base xb L l) (i : Nat) (hi : i < l.length) :
    Calls Try.prog 13 #[.pointer (some ⟨xb, 0, none⟩), .int .i64 (i : Nat)] W fun e w' => e = .returned (.string (joinT L l[i].1)) ∧ w' = W := by
  have cL := len_any h
  obtain ⟨⟨wo, cap, h1, h2⟩, _⟩ := h
  obtain ⟨gb, ao, cp, rfl, _, _, _, e5, _⟩ := h2 i hi
  have cx : W.cell? ⟨xb, 0, none⟩ = some (.slice (some ⟨gb, 0, none⟩) l.length cap) := (show Boxed W xb 60 _ from h1).cell
  have hz1 : ¬ ((i : Int) < 0) := by omega
  have hz2 : ¬ ((l.length : Int) ≤ (i : Int)) := by omega
  have hz3 : (i : Int) < (l.length : Int) := by omega
  clear h1 h2
  generalize joinT L l[i].1 = t at *
  go_enter Try.func13, Try.ntmps13
  go_wp2_with fail
  refine cL.mono ?_
  rintro e w1 ⟨rfl, hw⟩
  obtain rfl := hw.symm
  clear cL hw
  go_wp2
  go_ret
  exact ⟨rfl, rfl⟩

theorem wpOp_call {P : Program} {ops : Array Oper} {Q : Exit → Act → World → Prop} {i d : Nat} {o : Oper} {K : Act → World → Prop} {a : Act} {w : World} {f : FuncId} {args : Array Value} {R : Ending → World → Prop} (q : ops[i]? = some o) (hw : Region.wanted o (yielded ops a.tmps) = true) (hd : o.dst = some d) (h : (execOp a.eval o).run P w = .ok (.enter f args) w) (hc : Calls P f args w R) (hK : ∀ e w', R e w' → ∃ v, e = .returned v ∧ K (a.put (some d) v) w') : wpOp P ops Q i K a w := by
  unfold wpOp
  simp only [q]
  rw [if_pos hw]
  refine .inl ?_
  unfold Oper.wp
  rw [h, Oper.upon_enter]
  refine hc.mono ?_
  intro e w' hR
  obtain ⟨v, rfl, hk⟩ := hK e w' hR
  rw [hd]
  exact hk
/-- A block of two cells. -/
structure Bx2 (W : World) (b : Nat) (t : TypeId) (x0 x1 : Value) : Prop where
  blk : W.heap[b]? = some (.cells #[x0, x1] t)
theorem Bx2.c0 {W : World} {b : Nat} {t : TypeId} {x0 x1 : Value} (h : Bx2 W b t x0 x1) : W.cell? ⟨b, 0, none⟩ = some x0 := by simp [World.cell?, h.blk]
theorem Bx2.c1 {W : World} {b : Nat} {t : TypeId} {x0 x1 : Value} (h : Bx2 W b t x0 x1) : W.cell? ⟨b, 1, none⟩ = some x1 := by simp [World.cell?, h.blk]
theorem Bx2.fr {W : World} {b : Nat} {t : TypeId} {x0 x1 : Value} (h : Bx2 W b t x0 x1) (j : Nat) : W.frozen? ⟨b, j, none⟩ = false := by simp [World.frozen?, h.blk]
theorem Bx2.lt {W : World} {b : Nat} {t : TypeId} {x0 x1 : Value} (h : Bx2 W b t x0 x1) : b < W.heap.size := (Array.getElem?_eq_some_iff.1 h.blk).1
theorem Bx2.keep {W W' : World} {b : Nat} {t : TypeId} {x0 x1 : Value} (h : Bx2 W b t x0 x1) (hb : Below W.heap.size W W') : Bx2 W' b t x0 x1 := ⟨(hb.block b h.lt).trans h.blk⟩
theorem Bx2.set0 {W : World} {b : Nat} {t : TypeId} {x0 x1 : Value} (h : Bx2 W b t x0 x1) (u : Value) : Bx2 (W.setCell ⟨b, 0, none⟩ u) b t u x1 := by
  obtain ⟨hlt, hk⟩ := Array.getElem?_eq_some_iff.1 h.blk
  constructor
  show (W.heap.modify b _)[b]? = _
  rw [Array.getElem?_eq_getElem (by rw [Array.size_modify]; exact hlt), Array.getElem_modify_self, hk]
  rfl
theorem Bx2.set1 {W : World} {b : Nat} {t : TypeId} {x0 x1 : Value} (h : Bx2 W b t x0 x1) (u : Value) : Bx2 (W.setCell ⟨b, 1, none⟩ u) b t x0 u := by
  obtain ⟨hlt, hk⟩ := Array.getElem?_eq_some_iff.1 h.blk
  constructor
  show (W.heap.modify b _)[b]? = _
  rw [Array.getElem?_eq_getElem (by rw [Array.size_modify]; exact hlt), Array.getElem_modify_self, hk]
  rfl
theorem gset (w : World) (b j : Nat) (u : Value) : w.grownBy (w.setCell ⟨b, j, none⟩ u) (some b) := ⟨rfl, rfl, rfl, by simp [World.setCell], fun k _ hk => Below.heap_setCell _ _ _ k (fun e => hk (by rw [e]))⟩
theorem results_w {fn : Func} {p : Tmp} (h : fn.results = #[.cell p 37]) (tmps : Array Value) (w : World) (b : Nat) (x0 x1 : Value)
    (hp : tmps.getD p undef = .pointer (some ⟨b, 0, none⟩)) (c0 : w.cell? ⟨b, 0, none⟩ = some x0) (c1 : w.cell? ⟨b, 1, none⟩ = some x1) :
    (results fn tmps).run Try.prog w = .ok (.agg #[x0, x1]) w := by
  have hp' : tmps[p]?.getD undef = .pointer (some ⟨b, 0, none⟩) := by simpa using hp
  simp only [results, h]
  simp [hp', asAddr]
  go_simp

set_option maxRecDepth 100000 in
set_option maxHeartbeats 2000000 in
theorem word_any {W : World} {base xb : Nat} {L : List ByteArray} {l : List (List Int × Int)} (h : IsLex W base xb L l) (i : Nat) (hi : i < l.length) (hn : 1 ≤ l[i].1.length) (h32 : l[i].1.length ≤ 32) :
    Calls Try.prog 9 #[.pointer (some ⟨xb, 0, none⟩), .int .i64 (i : Nat)] W fun e w' => (∃ v, e = .returned (.agg #[v, .int .i64 l[i].2]) ∧ w'.ownsRow W.heap.size 3 1 v l[i].1.length (ints l[i].1)) ∧ Below W.heap.size W w' := by
  have hX1 := h.below (below_box' W (.cells #[.slice none 0 0, .int .i64 0] 37))
  have hB1 := below_box' W (.cells #[.slice none 0 0, .int .i64 0] 37)
  have hbx : Bx2 (W.alloc (.cells #[.slice none 0 0, .int .i64 0] 37)) W.heap.size 37 (.slice none 0 0) (.int .i64 0) := ⟨heap_box W _⟩
  have cL := len_any hX1
  have hz1 : ¬ ((i : Int) < 0) := by omega
  have hz2 : ¬ ((l.length : Int) ≤ (i : Int)) := by omega
  have hz3 : (i : Int) < (l.length : Int) := by omega
  have hlow : xb < W.heap.size ∧ ∀ g, (∃ ao cp, W.cell? ⟨g, i * 3 + 0, none⟩ = some (.slice ao l[i].1.length cp)) → g < W.heap.size := ⟨(Array.getElem?_eq_some_iff.1 h.obj.choose_spec.choose_spec.1).1, fun g ⟨ao, cp, hg⟩ => by
    unfold World.cell? at hg
    rcases Nat.lt_or_ge g W.heap.size with h1 | h1
    · exact h1
    · rw [Array.getElem?_eq_none h1] at hg; cases hg⟩
  have hgo : ∃ g ao cp wo cap, W.heap[xb]? = some (.cells #[.slice wo l.length cap] 60) ∧ wo = some ⟨g, 0, none⟩ ∧ W.cell? ⟨g, i * 3 + 0, none⟩ = some (.slice ao l[i].1.length cp) := by
    obtain ⟨⟨wo, cap, h1, h2⟩, _⟩ := h
    obtain ⟨g, ao, cp, e1, _, e3, _⟩ := h2 i hi
    exact ⟨g, ao, cp, wo, cap, h1, e1, e3⟩
  clear h
  go_enter Try.func9, Try.ntmps9
  go_wp2_with fail
  refine cL.mono ?_
  rintro e w1 ⟨rfl, hw⟩
  obtain rfl := hw.symm
  clear cL hw
  obtain ⟨⟨wo, cap, h1, h2⟩, _⟩ := hX1
  obtain ⟨gb, ao, cp, rfl, ⟨q1, e2⟩, e3, e4, q2, e6⟩ := h2 i hi
  clear q1 q2
  obtain ⟨ga, oa, rfl, q1, q2⟩ := e4.1 0 (by simp [ints]; omega)
  clear q1 q2
  have hra := e4.1
  rw [Nat.add_zero] at e3
  have cx : (W.alloc (.cells #[.slice none 0 0, .int .i64 0] 37)).cell? ⟨xb, 0, none⟩ = some (.slice (some ⟨gb, 0, none⟩) l.length cap) := (show Boxed (W.alloc (.cells #[.slice none 0 0, .int .i64 0] 37)) xb 60 _ from h1).cell
  have hxl : xb < (W.alloc (.cells #[.slice none 0 0, .int .i64 0] 37)).heap.size := (Array.getElem?_eq_some_iff.1 h1).1
  have hgb : gb < W.heap.size := by
    obtain ⟨g, ao, cp2, wo, cap2, k1, k2, k3⟩ := hgo
    have k4 := (hB1.block xb hlow.1).trans k1
    rw [h1] at k4
    injection k4 with k4
    injection k4 with k4
    simp at k4
    rw [k2] at k4
    have k5 : gb = g := by
      have := k4.1
      simpa using this
    rw [k5]
    exact hlow.2 g ⟨_, _, k3⟩
  have hxw : xb ≠ W.heap.size := by have := hlow.1; omega
  have hgw : gb ≠ W.heap.size := by omega
  clear h1 h2 e4 hgo hlow
  go_wp2
  generalize hwz : W.alloc (.cells #[.slice none 0 0, .int .i64 0] 37) = wz at *
  have HW : Aside (wz.heap.size = W.heap.size + 1) := by show _ = _; rw [← hwz]; simp
  clear hwz
  have cC : ∀ Z, Below wz.heap.size wz Z → Calls Try.prog 26 #[.slice (some ⟨ga, oa, none⟩) l[i].1.length cp] Z fun e w' => ∃ v', e = .returned v' ∧ w'.ownsRow Z.heap.size 3 1 v' l[i].1.length (ints l[i].1) ∧ Below Z.heap.size Z w' := fun Z hZ =>
    (Try.slices_Clone_int ga oa l[i].1.length cp l[i].1 Z (Nat.le_refl _) (by omega) (fun j hj => by
      obtain ⟨g', o', e1, _, e5⟩ := hra.below hZ j (by simp [ints]; exact hj)
      injection e1 with e1
      injection e1 with ea eb
      subst ea eb
      rw [e5, List.getD_eq_getElem?_getD, List.getElem?_eq_getElem hj]
      simp [ints])).mono (fun e w' ⟨v', k1, k2, _, k4⟩ => ⟨v', k1, by rw [List.take_length] at k2; exact k2, k4⟩)
  have HSC : Aside (l[i].2 = l[i].2 ∧ l[i].1 = l[i].1) := ⟨rfl, rfl⟩
  generalize hsc : l[i].2 = sc at e6
  generalize hcc : l[i].1 = c at *
  have hN : c.length ≤ 32 := h32
  generalize hNN : c.length = N at *
  have hSS : ∀ Z, Below wz.heap.size wz Z → Z.cell? ⟨xb, 0, none⟩ = some (.slice (some ⟨gb, 0, none⟩) l.length cap) ∧ Z.cell? ⟨gb, i * 3, none⟩ = some (.slice (some ⟨ga, oa, none⟩) N cp) ∧ Z.cell? ⟨gb, i * 3 + 2, none⟩ = some (.int .i64 sc) := fun Z hZ => ⟨(hZ.cell (p := ⟨xb, 0, none⟩) hxl).trans cx, (hZ.cell (p := ⟨gb, i * 3, none⟩) e2).trans e3, (hZ.cell (p := ⟨gb, i * 3 + 2, none⟩) e2).trans e6⟩
  have hS0 := hSS wz.drew (Below.drew (Below.refl _ _))
  have hb0 : Below wz.heap.size wz wz.drew := Below.drew (Below.refl _ _)
  refine wp_region_held (S := fun Z => Z.cell? ⟨xb, 0, none⟩ = some (.slice (some ⟨gb, 0, none⟩) l.length cap) ∧ Z.cell? ⟨gb, i * 3, none⟩ = some (.slice (some ⟨ga, oa, none⟩) N cp) ∧ Z.cell? ⟨gb, i * 3 + 2, none⟩ = some (.int .i64 sc)) (by kernel_rfl) ?_
  refine (show wpAnyH _ .any _ _ _ 19 (Array.replicate 19 false) _ wz.drew from ?_)
  refine takeD (i := 0) (d := 14) (v := .pointer (some ⟨xb, 0, none⟩)) rfl (by kernel_rfl) (by kernel_rfl) (by kernel_rfl) (fun _ _ _ h => h) (fun oi ho => yields_now ho rfl fun Z hSw => ?_) hS0 ?_
  · obtain ⟨s1, s2, s3⟩ := hSw
    go_simp
  simp only [Act.put, List.setIfInBounds_toArray, List.set_cons_zero, List.set_cons_succ]
  refine takeD (i := 1) (d := 15) (v := .pointer (some ⟨xb, 0, none⟩)) rfl (by kernel_rfl) (by kernel_rfl) (by kernel_rfl) (fun _ _ _ h => h) (fun oi ho => yields_now ho rfl fun Z hSw => ?_) hS0 ?_
  · obtain ⟨s1, s2, s3⟩ := hSw
    go_simp
  simp only [Act.put, List.setIfInBounds_toArray, List.set_cons_zero, List.set_cons_succ]
  refine takeD (i := 2) (d := 16) (v := .pointer (some ⟨xb, 0, none⟩)) rfl (by kernel_rfl) (by kernel_rfl) (by kernel_rfl) (fun _ _ _ h => h) (fun oi ho => yields_now ho rfl fun Z hSw => ?_) hS0 ?_
  · obtain ⟨s1, s2, s3⟩ := hSw
    go_simp
  simp only [Act.put, List.setIfInBounds_toArray, List.set_cons_zero, List.set_cons_succ]
  refine takeD (i := 3) (d := 17) (v := .slice (some ⟨gb, 0, none⟩) l.length cap) rfl (by kernel_rfl) (by kernel_rfl) (by kernel_rfl) (fun _ _ _ h => h) (fun oi ho => yields_now ho rfl fun Z hSw => ?_) hS0 ?_
  · obtain ⟨s1, s2, s3⟩ := hSw
    go_simp
  simp only [Act.put, List.setIfInBounds_toArray, List.set_cons_zero, List.set_cons_succ]
  refine takeD (i := 4) (d := 18) (v := .int .i64 (i : Int)) rfl (by kernel_rfl) (by kernel_rfl) (by kernel_rfl) (fun _ _ _ h => h) (fun oi ho => yields_now ho rfl fun Z hSw => ?_) hS0 ?_
  · obtain ⟨s1, s2, s3⟩ := hSw
    go_simp
  simp only [Act.put, List.setIfInBounds_toArray, List.set_cons_zero, List.set_cons_succ]
  refine takeD (i := 5) (d := 19) (v := .pointer (some ⟨gb, i * 3, none⟩)) rfl (by kernel_rfl) (by kernel_rfl) (by kernel_rfl) (fun _ _ _ h => h) (fun oi ho => yields_now ho rfl fun Z hSw => ?_) hS0 ?_
  · obtain ⟨s1, s2, s3⟩ := hSw
    go_simp
  simp only [Act.put, List.setIfInBounds_toArray, List.set_cons_zero, List.set_cons_succ]
  refine takeD (i := 6) (d := 20) (v := .pointer (some ⟨gb, i * 3, none⟩)) rfl (by kernel_rfl) (by kernel_rfl) (by kernel_rfl) (fun _ _ _ h => h) (fun oi ho => yields_now ho rfl fun Z hSw => ?_) hS0 ?_
  · obtain ⟨s1, s2, s3⟩ := hSw
    go_simp
  simp only [Act.put, List.setIfInBounds_toArray, List.set_cons_zero, List.set_cons_succ]
  refine takeD (i := 7) (d := 21) (v := .slice (some ⟨ga, oa, none⟩) N cp) rfl (by kernel_rfl) (by kernel_rfl) (by kernel_rfl) (fun _ _ _ h => h) (fun oi ho => yields_now ho rfl fun Z hSw => ?_) hS0 ?_
  · obtain ⟨s1, s2, s3⟩ := hSw
    go_simp
  simp only [Act.put, List.setIfInBounds_toArray, List.set_cons_zero, List.set_cons_succ]
  refine takeD (i := 9) (d := 23) (v := .pointer (some ⟨xb, 0, none⟩)) rfl (by kernel_rfl) (by kernel_rfl) (by kernel_rfl) (fun _ _ _ h => h) (fun oi ho => yields_now ho rfl fun Z hSw => ?_) hS0 ?_
  · obtain ⟨s1, s2, s3⟩ := hSw
    go_simp
  simp only [Act.put, List.setIfInBounds_toArray, List.set_cons_zero, List.set_cons_succ]
  refine takeD (i := 10) (d := 24) (v := .pointer (some ⟨xb, 0, none⟩)) rfl (by kernel_rfl) (by kernel_rfl) (by kernel_rfl) (fun _ _ _ h => h) (fun oi ho => yields_now ho rfl fun Z hSw => ?_) hS0 ?_
  · obtain ⟨s1, s2, s3⟩ := hSw
    go_simp
  simp only [Act.put, List.setIfInBounds_toArray, List.set_cons_zero, List.set_cons_succ]
  refine takeD (i := 11) (d := 25) (v := .pointer (some ⟨xb, 0, none⟩)) rfl (by kernel_rfl) (by kernel_rfl) (by kernel_rfl) (fun _ _ _ h => h) (fun oi ho => yields_now ho rfl fun Z hSw => ?_) hS0 ?_
  · obtain ⟨s1, s2, s3⟩ := hSw
    go_simp
  simp only [Act.put, List.setIfInBounds_toArray, List.set_cons_zero, List.set_cons_succ]
  refine takeD (i := 12) (d := 26) (v := .slice (some ⟨gb, 0, none⟩) l.length cap) rfl (by kernel_rfl) (by kernel_rfl) (by kernel_rfl) (fun _ _ _ h => h) (fun oi ho => yields_now ho rfl fun Z hSw => ?_) hS0 ?_
  · obtain ⟨s1, s2, s3⟩ := hSw
    go_simp
  simp only [Act.put, List.setIfInBounds_toArray, List.set_cons_zero, List.set_cons_succ]
  refine takeD (i := 13) (d := 27) (v := .int .i64 (i : Int)) rfl (by kernel_rfl) (by kernel_rfl) (by kernel_rfl) (fun _ _ _ h => h) (fun oi ho => yields_now ho rfl fun Z hSw => ?_) hS0 ?_
  · obtain ⟨s1, s2, s3⟩ := hSw
    go_simp
  simp only [Act.put, List.setIfInBounds_toArray, List.set_cons_zero, List.set_cons_succ]
  refine takeD (i := 14) (d := 28) (v := .pointer (some ⟨gb, i * 3, none⟩)) rfl (by kernel_rfl) (by kernel_rfl) (by kernel_rfl) (fun _ _ _ h => h) (fun oi ho => yields_now ho rfl fun Z hSw => ?_) hS0 ?_
  · obtain ⟨s1, s2, s3⟩ := hSw
    go_simp
  simp only [Act.put, List.setIfInBounds_toArray, List.set_cons_zero, List.set_cons_succ]
  refine takeD (i := 15) (d := 29) (v := .pointer (some ⟨gb, i * 3 + 2, none⟩)) rfl (by kernel_rfl) (by kernel_rfl) (by kernel_rfl) (fun _ _ _ h => h) (fun oi ho => yields_now ho rfl fun Z hSw => ?_) hS0 ?_
  · obtain ⟨s1, s2, s3⟩ := hSw
    go_simp
  simp only [Act.put, List.setIfInBounds_toArray, List.set_cons_zero, List.set_cons_succ]
  refine takeD (i := 16) (d := 30) (v := .int .i64 sc) rfl (by kernel_rfl) (by kernel_rfl) (by kernel_rfl) (fun _ _ _ h => h) (fun oi ho => yields_now ho rfl fun Z hSw => ?_) hS0 ?_
  · obtain ⟨s1, s2, s3⟩ := hSw
    go_simp
  simp only [Act.put, List.setIfInBounds_toArray, List.set_cons_zero, List.set_cons_succ]
  refine wpAnyH_all (rs := [8]) (by kernel_rfl) (by simp) (fun i hi => ?_)
  obtain rfl := List.mem_singleton.1 hi
  refine wpOp_call rfl rfl rfl (by go_simp) (cC wz.drew hb0) ?_
  rintro e w3 ⟨v', rfl, hown, hb3⟩
  have hb4 : Below wz.heap.size wz w3 := hb0.trans (hb3.mono hb0.size)
  refine ⟨_, rfl, hSS _ hb4, ?_⟩
  have hS3 := hSS _ hb4
  simp only [Act.put, List.setIfInBounds_toArray, List.set_cons_zero, List.set_cons_succ]
  obtain ⟨av, cv, rfl⟩ := row_slice hown
  refine takeD (i := 17) (d := 31) (v := .agg #[.slice av N cv, .int .i64 sc]) rfl (by kernel_rfl) (by kernel_rfl) (by kernel_rfl) (fun _ _ _ h => h) (fun oi ho => yields_now ho rfl fun Z hSw => ?_) hS3 ?_
  · go_simp
  simp only [Act.put, List.setIfInBounds_toArray, List.set_cons_zero, List.set_cons_succ]
  refine wpAnyH_all (rs := [18]) (by kernel_rfl) (by simp) (fun i hi => ?_)
  obtain rfl := List.mem_singleton.1 hi
  have b3 := hbx.keep hb4
  have b4 := b3.set0 (.slice av N cv)
  have b5 := b4.set1 (.int .i64 sc)
  have k0 := b3.c0
  have k1 := b3.fr 0
  have k2 := b4.c1
  have k3 := b4.fr 1
  have hce : ∀ k q, k ≠ W.heap.size → ((w3.setCell ⟨W.heap.size, 0, none⟩ (.slice av N cv)).setCell ⟨W.heap.size, 1, none⟩ (.int .i64 sc)).cell? ⟨k, q, none⟩ = w3.cell? ⟨k, q, none⟩ := fun k q hk =>
    (World.cell?_of_block (a := ⟨k, q, none⟩) (Below.heap_setCell _ ⟨W.heap.size, 1, none⟩ _ k hk)).trans (World.cell?_of_block (a := ⟨k, q, none⟩) (Below.heap_setCell _ ⟨W.heap.size, 0, none⟩ _ k hk))
  refine wpOp_skip (w' := (w3.setCell ⟨W.heap.size, 0, none⟩ (.slice av N cv)).setCell ⟨W.heap.size, 1, none⟩ (.int .i64 sc)) rfl rfl rfl ?_ ⟨⟨(hce _ _ hxw).trans hS3.1, (hce _ _ hgw).trans hS3.2.1, (hce _ _ hgw).trans hS3.2.2⟩, wpAnyH_done (by kernel_rfl) ?_ _⟩
  · go_simp
  have hg5 := (gset w3 W.heap.size 0 (.slice av N cv)).trans (gset (w3.setCell ⟨W.heap.size, 0, none⟩ (.slice av N cv)) W.heap.size 1 (.int .i64 sc))
  have hws := HW.out
  have hro := row_low (row_turn hown hg5 (fun b hb _ e => by injection e with e; have : wz.drew.heap.size = wz.heap.size := rfl; omega)) (B' := W.heap.size) (by show W.heap.size ≤ wz.heap.size; omega)
  have hfin : Below W.heap.size W ((w3.setCell ⟨W.heap.size, 0, none⟩ (.slice av N cv)).setCell ⟨W.heap.size, 1, none⟩ (.int .i64 sc)) := (hB1.trans (hb4.mono (by omega))).grown hg5 (by have := hb4.size; omega) (fun k e => by injection e with e; omega)
  have c50 := b5.c0
  have c51 := b5.c1
  clear hown hg5 b3 b4 b5 k0 k1 k2 k3 hce hS3 hSS cC hb3 hb4 hra
  generalize ((w3.setCell ⟨W.heap.size, 0, none⟩ (.slice av N cv)).setCell ⟨W.heap.size, 1, none⟩ (.int .i64 sc)) = w5 at *
  go_wp2
  refine bodyPost_ret (results_w rfl _ _ W.heap.size _ _ rfl c50 c51) rfl ⟨⟨.slice av N cv, rfl, hro⟩, hfin⟩
end Go.Proofs.Ythjgldjjplcncaa.Utf
/-
  Layer 9's own look that the program is there at all: a word is read.
-/
namespace Go.Proofs.Ythjgldjjplcncaa.Utf
open Go Go.Lib Go.RowKit

def abL : List ByteArray := [⟨#[65]⟩, ⟨#[66]⟩]
theorem capb {x : Nat} (h : 65 ≤ x ∧ x ≤ 90) : capR x := ⟨by unfold isL; omega, up_basic h⟩
theorem new_ab : newR abL = (0, 0) := by
  have n1 : nameP ⟨#[65]⟩ := by
    unfold nameP
    rw [show pairs ⟨#[65]⟩ = [(0, 65)] by kernel_rfl]
    exact ⟨by decide, by decide, fun x hx => by rw [List.mem_singleton.1 hx]; exact capb (by decide)⟩
  have n2 : nameP ⟨#[66]⟩ := by
    unfold nameP
    rw [show pairs ⟨#[66]⟩ = [(0, 66)] by kernel_rfl]
    exact ⟨by decide, by decide, fun x hx => by rw [List.mem_singleton.1 hx]; exact capb (by decide)⟩
  rw [newR_few (by decide) (by decide)]
  show newAt abL 2 0 = _
  rw [newAt_next (L := abL) (f := 1) (i := 0) (by decide) n1 (by simp [abL]), newAt_next (L := abL) (f := 0) (i := 1) (by decide) n2 (by simp [abL])]
  rfl
theorem ab_nodup : abL.Nodup := by simp [abL]
theorem ab_names : ∀ x ∈ abL, 1 ≤ x.size ∧ x.size ≤ 12 := by
  intro x hx
  simp only [abL, List.mem_cons, List.not_mem_nil, or_false] at hx
  rcases hx with rfl | rfl <;> decide
theorem ab_1 : best abL ((⟨#[65, 66]⟩ : ByteArray).extract 0 2) = some 0 := by
  refine best_some ab_nodup ⟨by decide, by kernel_rfl, fun j hj hb => ?_⟩
  match j, hj with
  | 0, _ => exact (show (1 : Nat) ≤ 1 by decide)
  | 1, _ => exact (show (1 : Nat) ≤ 1 by decide)
theorem ab_2 : best abL ((⟨#[65, 66]⟩ : ByteArray).extract 1 2) = some 1 := by
  refine best_some ab_nodup ⟨by decide, by kernel_rfl, fun j hj hb => ?_⟩
  match j, hj with
  | 0, _ => exact (show (1 : Nat) ≤ 1 by decide)
  | 1, _ => exact (show (1 : Nat) ≤ 1 by decide)
theorem ab_split : splitS abL ⟨#[65, 66]⟩ = ([0, 1], 0, 0) := by
  unfold splitS
  rw [splitR_next (i := 0) (by decide) (by decide) ab_1]
  show splitR abL ⟨#[65, 66]⟩ 32 1 [0] = _
  rw [splitR_next (i := 1) (by decide) (by decide) ab_2]
  exact splitR_end rfl
theorem x_split : splitS abL ⟨#[88]⟩ = ([], 0, 33) := by
  unfold splitS
  refine splitR_none (by decide) (by decide) ?_
  cases h : best abL ((⟨#[88]⟩ : ByteArray).extract 0 1) with
  | none => exact h
  | some i =>
    have hb := best_is h
    have hi := hb.lt
    match i, hi with
    | 0, _ => have := hb.pre; rw [show begins _ _ = false by kernel_rfl] at this; cases this
    | 1, _ => have := hb.pre; rw [show begins _ _ = false by kernel_rfl] at this; cases this
def abT : ByteArray := ⟨#[97, 98, 59, 55, 10, 120]⟩
theorem ab_lines : txts (lines abT.data.toList) = [⟨#[97, 98, 59, 55]⟩, ⟨#[120]⟩] := by
  have : lines abT.data.toList = [[97, 98, 59, 55], [120]] := by decide
  rw [this]
  rfl
theorem ab_r1 : readL abL ⟨#[97, 98, 59, 55]⟩ [] = (0, [([0, 1], 7)]) := by
  have hc : cutS ⟨#[97, 98, 59, 55]⟩ = (⟨#[97, 98]⟩, ⟨#[55]⟩) := by kernel_rfl
  have hf : foldS false ⟨#[97, 98]⟩ = ⟨#[65, 66]⟩ := by kernel_rfl
  have hs : scoreP ⟨#[55]⟩ = (7, true) := by kernel_rfl
  have hw : wordOf abL ⟨#[65, 66]⟩ = [0, 1] := by unfold wordOf; rw [ab_split]; rfl
  unfold readL
  rw [hc]
  show (if foldS false ⟨#[97, 98]⟩ = ⟨#[]⟩ then _ else _) = _
  rw [hf, hs, hw, ab_split, if_neg (by decide), if_neg (by decide), if_neg (by decide), if_neg (fun h => by have := h.2; cases this)]
  rfl
theorem ab_r2 (l : List (List Int × Int)) : readL abL ⟨#[120]⟩ l = (33, l) := by
  have hc : cutS ⟨#[120]⟩ = (⟨#[120]⟩, ⟨#[53, 48]⟩) := by kernel_rfl
  have hf : foldS false ⟨#[120]⟩ = ⟨#[88]⟩ := by kernel_rfl
  have hs : scoreP ⟨#[53, 48]⟩ = (50, true) := by kernel_rfl
  unfold readL
  rw [hc]
  show (if foldS false ⟨#[120]⟩ = ⟨#[]⟩ then _ else _) = _
  rw [hf, hs, x_split, if_neg (by decide), if_neg (by decide), if_pos (by decide)]
theorem ab_read : readT abL abT = ([([0, 1], 7)], [(1, 33)]) := by
  unfold readT
  rw [ab_lines, rdL, if_neg (by rw [show sayN (pairs ⟨#[97, 98, 59, 55]⟩) = false by kernel_rfl]; decide), ab_r1, if_pos rfl, rdL, if_neg (by rw [show sayN (pairs ⟨#[120]⟩) = false by kernel_rfl]; decide), ab_r2, if_neg (by decide)]
  rfl

set_option maxRecDepth 10000 in
set_option maxHeartbeats 2000000 in
theorem awake9_any (w : World) : Calls Try.prog 4 #[] w fun e w' => e = .returned (.bool true) ∧ Below w.heap.size w w' := by
  have cN := fun W ao cap h => new_any abL ao cap W (by decide) h
  rw [new_ab] at cN
  go_enter Try.func4, Try.ntmps4
  go_wp2_with fail
  have hR0 : ReadsO (w.alloc (.cells #[.string ⟨#[65]⟩, .string ⟨#[66]⟩] 9)) (some ⟨w.heap.size, 0, none⟩) (abL.map Value.string) := fun j hj => by
    refine ⟨w.heap.size, 0, rfl, by simp, ?_⟩
    rw [Nat.zero_add]
    match j, hj with
    | 0, _ => exact box_at w _ 9 0 rfl
    | 1, _ => exact box_at w _ 9 1 rfl
  refine (cN _ _ 2 hR0).mono ?_
  rintro e w1 ⟨⟨v, rfl, _, hv⟩, hb1⟩
  obtain ⟨b, rk, rfl, hA, hRk⟩ := hv trivial
  have HB1 : Aside (Below w.heap.size w w1) := (below_box' w _).trans (hb1.mono (by simp))
  have cR := lread_any hA.is hRk ab_nodup ab_names abT (by decide)
  rw [ab_read] at cR
  clear cN hR0 hv hb1
  go_wp2_with fail
  refine cR.mono ?_
  rintro e w2 ⟨⟨xb, bv, rfl, hX, hrow⟩, hb2⟩
  obtain ⟨av, cv, rfl⟩ := row_slice hrow
  have HB2 : Aside (Below w.heap.size w w2) := HB1.out.trans (hb2.mono HB1.out.size)
  have ht : joinT abL ([0, 1] : List Int) = ⟨#[65, 66]⟩ := by kernel_rfl
  have cL : Calls Try.prog 7 #[.pointer (some ⟨xb, 0, none⟩)] w2 fun e w' => e = .returned (.int .i64 1) ∧ w' = w2 := len_any hX
  have cT : Calls Try.prog 13 #[.pointer (some ⟨xb, 0, none⟩), .int .i64 0] w2 fun e w' => e = .returned (.string ⟨#[65, 66]⟩) ∧ w' = w2 := by
    rw [← ht]
    exact text_any hX 0 (by decide)
  have cW : Calls Try.prog 9 #[.pointer (some ⟨xb, 0, none⟩), .int .i64 0] w2 fun e w' => (∃ a' c', e = .returned (.agg #[.slice a' 2 c', .int .i64 7])) ∧ Below w2.heap.size w2 w' :=
    (word_any hX 0 (by decide) (by decide) (by decide)).mono (fun e w' ⟨⟨v, h1, hr⟩, h2⟩ => by
      obtain ⟨a', c', rfl⟩ := row_slice hr
      exact ⟨⟨a', c', h1⟩, h2⟩)
  have hbe : ((⟨#[65, 66]⟩ : ByteArray).toList == (⟨#[65, 66]⟩ : ByteArray).toList) = true := beq_self_eq_true _
  clear hrow hX cR ht hb2 hA
  simp only [List.length_cons, List.length_nil]
  go_wp2_with fail
  refine cL.mono ?_
  rintro e w3 ⟨rfl, hw⟩
  obtain rfl := hw.symm
  go_wp2_with fail
  refine cT.mono ?_
  rintro e w3 ⟨rfl, hw⟩
  obtain rfl := hw.symm
  go_wp2_with fail
  refine cW.mono ?_
  rintro e w4 ⟨⟨a', c', rfl⟩, hb4⟩
  have HB4 : Aside (Below w.heap.size w w4) := HB2.out.trans (hb4.mono HB2.out.size)
  have hfl : ∀ W, (Instr.field 37 (.agg #[.slice a' 2 c', .int .i64 7]) 1).run Try.prog W = .ok (.int .i64 7) W := fun W => by kernel_rfl
  clear cL cT cW hb4
  go_wp2
  go_ret
  exact ⟨rfl, HB4.out⟩
end Go.Proofs.Ythjgldjjplcncaa.Utf
