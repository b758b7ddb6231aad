/-
  Of no program: grids as lists of Bools; what is right; steps; the cells that steps reach; parts and their numbers.
-/
import Derived.Test.YthjgldjjplcncabDoorProg
namespace Go.Proofs.YthjgldjjplcncabDoor.Grd

/-- A list's element; false behind its end. -/
def bt (l : List Bool) (i : Nat) : Bool := l[i]?.getD false
theorem bt_in {l : List Bool} {i : Nat} (h : i < l.length) : bt l i = l[i] := by unfold bt; rw [List.getElem?_eq_getElem h]; rfl

/-- A grid's three lists, and its sides as they were handed in. -/
structure Gr where
  h : Int
  w : Int
  B : List Bool
  R : List Bool
  D : List Bool
def Gr.H (g : Gr) : Nat := g.h.toNat
def Gr.W (g : Gr) : Nat := g.w.toNat
def Gr.n (g : Gr) : Nat := g.H * g.W
def sideOk (n : Int) : Prop := 1 ≤ n ∧ n ≤ 16
instance (n : Int) : Decidable (sideOk n) := by unfold sideOk; infer_instance
def Gr.sides (g : Gr) : Prop := sideOk g.h ∧ sideOk g.w
def Gr.sizes (g : Gr) : Prop := g.B.length = g.n ∧ g.R.length = g.n ∧ g.D.length = g.n
/-- A bar that may not stand at i. -/
def Gr.badR (g : Gr) (i : Nat) : Prop := bt g.R i = true ∧ (bt g.B i = true ∨ i % g.W = g.W - 1 ∨ bt g.B (i + 1) = true)
def Gr.badD (g : Gr) (i : Nat) : Prop := bt g.D i = true ∧ (bt g.B i = true ∨ i / g.W = g.H - 1 ∨ bt g.B (i + g.W) = true)
def Gr.barred (g : Gr) : Prop := ∃ i, i < g.n ∧ (g.badR i ∨ g.badD i)
instance (g : Gr) : Decidable g.sides := by unfold Gr.sides; infer_instance
instance (g : Gr) : Decidable g.sizes := by unfold Gr.sizes; infer_instance
instance (g : Gr) (i : Nat) : Decidable (g.badR i) := by unfold Gr.badR; infer_instance
instance (g : Gr) (i : Nat) : Decidable (g.badD i) := by unfold Gr.badD; infer_instance
def Gr.barredB (g : Gr) : Bool := (List.range g.n).any fun i => decide (g.badR i) || decide (g.badD i)
theorem Gr.barredB_iff (g : Gr) : g.barredB = true ↔ g.barred := by
  unfold Gr.barredB Gr.barred
  rw [List.any_eq_true]
  constructor
  · rintro ⟨i, hi, h⟩
    refine ⟨i, List.mem_range.1 hi, ?_⟩
    rcases Bool.or_eq_true_iff.1 h with h | h
    · exact .inl (of_decide_eq_true h)
    · exact .inr (of_decide_eq_true h)
  · rintro ⟨i, hi, h⟩
    refine ⟨i, List.mem_range.2 hi, ?_⟩
    rcases h with h | h
    · simp [h]
    · simp [h]
/-- What Check answers. -/
def Gr.chk (g : Gr) : Nat := if ¬ g.sides then 50 else if ¬ g.sizes then 51 else if g.barredB then 52 else 0
/-- A right grid. -/
def Gr.ok (g : Gr) : Prop := g.chk = 0
instance (g : Gr) : Decidable g.ok := by unfold Gr.ok; infer_instance
structure Gr.Right (g : Gr) : Prop where
  sh : 1 ≤ g.H ∧ g.H ≤ 16 ∧ (g.H : Int) = g.h
  sw : 1 ≤ g.W ∧ g.W ≤ 16 ∧ (g.W : Int) = g.w
  bl : g.B.length = g.n
  rl : g.R.length = g.n
  dl : g.D.length = g.n
  nr : ∀ i, i < g.n → ¬ g.badR i
  nd : ∀ i, i < g.n → ¬ g.badD i
theorem Gr.sides_nat {g : Gr} (h : g.sides) : (1 ≤ g.H ∧ g.H ≤ 16 ∧ (g.H : Int) = g.h) ∧ (1 ≤ g.W ∧ g.W ≤ 16 ∧ (g.W : Int) = g.w) := by
  obtain ⟨⟨h1, h2⟩, h3, h4⟩ := h
  unfold Gr.H Gr.W
  omega
theorem Gr.right_of {g : Gr} (h : g.ok) : g.Right := by
  unfold Gr.ok Gr.chk at h
  by_cases hs : g.sides
  · rw [if_neg (by simpa using hs)] at h
    by_cases hz : g.sizes
    · rw [if_neg (by simpa using hz)] at h
      by_cases hb : g.barredB = true
      · rw [if_pos hb] at h; omega
      · obtain ⟨a, b⟩ := Gr.sides_nat hs
        have hn : ¬ g.barred := fun h => hb ((Gr.barredB_iff g).2 h)
        exact ⟨a, b, hz.1, hz.2.1, hz.2.2, fun i hi hh => hn ⟨i, hi, .inl hh⟩, fun i hi hh => hn ⟨i, hi, .inr hh⟩⟩
    · rw [if_pos hz] at h; omega
  · rw [if_pos hs] at h; omega
theorem Gr.Right.n_le {g : Gr} (h : g.Right) : 1 ≤ g.n ∧ g.n ≤ 256 := by
  obtain ⟨h1, h2, _⟩ := h.sh
  obtain ⟨h3, h4, _⟩ := h.sw
  unfold Gr.n
  have a : g.H * g.W ≤ 16 * 16 := Nat.mul_le_mul h2 h4
  have b : 1 * 1 ≤ g.H * g.W := Nat.mul_le_mul h1 h3
  omega

/-- Is there an open cell of this number (of a right grid)? -/
def Gr.opn (g : Gr) (i : Nat) : Bool := decide (i < g.n) && !bt g.B i
theorem Gr.opn_iff {g : Gr} {i : Nat} : g.opn i = true ↔ i < g.n ∧ bt g.B i = false := by simp [Gr.opn]
/-- What a step reaches. -/
def Gr.st (g : Gr) (i way : Nat) : Option Nat :=
  if g.opn i then
    match way with
    | 0 => if i % g.W < g.W - 1 ∧ bt g.R i = false ∧ bt g.B (i + 1) = false then some (i + 1) else none
    | 1 => if i / g.W < g.H - 1 ∧ bt g.D i = false ∧ bt g.B (i + g.W) = false then some (i + g.W) else none
    | 2 => if 0 < i % g.W ∧ bt g.R (i - 1) = false ∧ bt g.B (i - 1) = false then some (i - 1) else none
    | 3 => if 0 < i / g.W ∧ bt g.D (i - g.W) = false ∧ bt g.B (i - g.W) = false then some (i - g.W) else none
    | _ => none
  else none
theorem row_lt {i W H : Nat} (hi : i < H * W) : i / W < H := Nat.div_lt_of_lt_mul (by rw [Nat.mul_comm]; exact hi)
theorem right_lt {i W H : Nat} (hi : i < H * W) (h : i % W < W - 1) : i + 1 < H * W := by
  have h1 := Nat.div_add_mod i W
  have h2 := row_lt hi
  have h3 : W * (i / W + 1) ≤ W * H := Nat.mul_le_mul_left W h2
  rw [Nat.mul_add, Nat.mul_one] at h3
  rw [Nat.mul_comm H W]
  omega
theorem down_lt {i W H : Nat} (h : i / W < H - 1) (hW : 0 < W) : i + W < H * W := by
  have h1 := Nat.div_add_mod i W
  have h4 := Nat.mod_lt i hW
  rw [Nat.mul_comm H W]
  generalize i / W = q at *
  have h3 : W * (q + 1 + 1) ≤ W * H := Nat.mul_le_mul_left W (by omega)
  rw [Nat.mul_add, Nat.mul_add, Nat.mul_one] at h3
  omega
theorem succ_mod {i W : Nat} (h : i % W < W - 1) : (i + 1) % W = i % W + 1 ∧ (i + 1) / W = i / W := by
  have hW : 0 < W := by omega
  have h1 := Nat.div_add_mod i W
  have e : i + 1 = (i % W + 1) + W * (i / W) := by omega
  constructor
  · rw [e, Nat.add_mul_mod_self_left, Nat.mod_eq_of_lt (by omega)]
  · rw [e, Nat.add_mul_div_left _ _ hW, Nat.div_eq_of_lt (by omega), Nat.zero_add]
theorem pred_mod {i W : Nat} (h : 0 < i % W) (hW : 0 < W) : (i - 1) % W = i % W - 1 ∧ (i - 1) / W = i / W ∧ 0 < i := by
  have h1 := Nat.div_add_mod i W
  have h2 := Nat.mod_lt i hW
  have h3 : 0 < i := by
    rcases Nat.eq_zero_or_pos i with h0 | h0
    · subst h0; simp at h
    · exact h0
  have e : i - 1 = (i % W - 1) + W * (i / W) := by omega
  refine ⟨?_, ?_, h3⟩
  · rw [e, Nat.add_mul_mod_self_left, Nat.mod_eq_of_lt (by omega)]
  · rw [e, Nat.add_mul_div_left _ _ hW, Nat.div_eq_of_lt (by omega), Nat.zero_add]
theorem up_div {i W : Nat} (h : 0 < i / W) (hW : 0 < W) : W ≤ i ∧ (i - W) / W = i / W - 1 ∧ (i - W) % W = i % W := by
  have h1 : W ≤ i := by
    have := Nat.div_add_mod i W
    have h3 : W * 1 ≤ W * (i / W) := Nat.mul_le_mul_left W h
    omega
  refine ⟨h1, ?_, ?_⟩
  · have := Nat.add_div_right (i - W) hW
    rw [Nat.sub_add_cancel h1] at this
    omega
  · have := Nat.add_mod_right (i - W) W
    rw [Nat.sub_add_cancel h1] at this
    omega
theorem Gr.st_opn {g : Gr} {i way j : Nat} (h : g.st i way = some j) : g.opn i = true := by
  unfold Gr.st at h
  by_cases ho : g.opn i = true
  · exact ho
  · rw [if_neg ho] at h; cases h
theorem Gr.st_way {g : Gr} {i way j : Nat} (h : g.st i way = some j) : way < 4 := by
  have ho := Gr.st_opn h
  unfold Gr.st at h
  rw [if_pos ho] at h
  match way, h with
  | 0, _ => omega
  | 1, _ => omega
  | 2, _ => omega
  | 3, _ => omega
  | way + 4, h => cases h
theorem Gr.st0 {g : Gr} {i : Nat} (ho : g.opn i = true) : g.st i 0 = if i % g.W < g.W - 1 ∧ bt g.R i = false ∧ bt g.B (i + 1) = false then some (i + 1) else none := by unfold Gr.st; rw [if_pos ho]; rfl
theorem Gr.st1 {g : Gr} {i : Nat} (ho : g.opn i = true) : g.st i 1 = if i / g.W < g.H - 1 ∧ bt g.D i = false ∧ bt g.B (i + g.W) = false then some (i + g.W) else none := by unfold Gr.st; rw [if_pos ho]; rfl
theorem Gr.st2 {g : Gr} {i : Nat} (ho : g.opn i = true) : g.st i 2 = if 0 < i % g.W ∧ bt g.R (i - 1) = false ∧ bt g.B (i - 1) = false then some (i - 1) else none := by unfold Gr.st; rw [if_pos ho]; rfl
theorem Gr.st3 {g : Gr} {i : Nat} (ho : g.opn i = true) : g.st i 3 = if 0 < i / g.W ∧ bt g.D (i - g.W) = false ∧ bt g.B (i - g.W) = false then some (i - g.W) else none := by unfold Gr.st; rw [if_pos ho]; rfl
theorem if_some {c : Prop} [Decidable c] {a j : Nat} (h : (if c then some a else none) = some j) : c ∧ j = a := by
  by_cases hc : c
  · rw [if_pos hc] at h; exact ⟨hc, (Option.some.inj h).symm⟩
  · rw [if_neg hc] at h; cases h
theorem way_cases {way : Nat} (h : way < 4) : way = 0 ∨ way = 1 ∨ way = 2 ∨ way = 3 := by omega
theorem Gr.st_to {g : Gr} (hW : 0 < g.W) {i way j : Nat} (h : g.st i way = some j) : g.opn j = true := by
  have ho := Gr.st_opn h
  obtain ⟨hi, hb⟩ := Gr.opn_iff.1 ho
  rcases way_cases (Gr.st_way h) with rfl | rfl | rfl | rfl
  · rw [Gr.st0 ho] at h
    obtain ⟨hc, rfl⟩ := if_some h
    exact Gr.opn_iff.2 ⟨right_lt hi hc.1, hc.2.2⟩
  · rw [Gr.st1 ho] at h
    obtain ⟨hc, rfl⟩ := if_some h
    exact Gr.opn_iff.2 ⟨down_lt hc.1 hW, hc.2.2⟩
  · rw [Gr.st2 ho] at h
    obtain ⟨hc, rfl⟩ := if_some h
    exact Gr.opn_iff.2 ⟨by omega, hc.2.2⟩
  · rw [Gr.st3 ho] at h
    obtain ⟨hc, rfl⟩ := if_some h
    exact Gr.opn_iff.2 ⟨by omega, hc.2.2⟩
/-- A step there is a step back. -/
theorem Gr.st_back {g : Gr} (hW : 0 < g.W) {i way j : Nat} (h : g.st i way = some j) : g.st j ((way + 2) % 4) = some i := by
  have hj := Gr.st_to hW h
  have ho := Gr.st_opn h
  obtain ⟨hi, hb⟩ := Gr.opn_iff.1 ho
  rcases way_cases (Gr.st_way h) with rfl | rfl | rfl | rfl
  · rw [Gr.st0 ho] at h
    obtain ⟨hc, rfl⟩ := if_some h
    show g.st (i + 1) 2 = some i
    rw [Gr.st2 hj, Nat.add_sub_cancel, if_pos ⟨by rw [(succ_mod hc.1).1]; omega, hc.2.1, hb⟩]
  · rw [Gr.st1 ho] at h
    obtain ⟨hc, rfl⟩ := if_some h
    show g.st (i + g.W) 3 = some i
    rw [Gr.st3 hj, Nat.add_sub_cancel, if_pos ⟨by rw [Nat.add_div_right _ hW]; exact Nat.succ_pos _, hc.2.1, hb⟩]
  · rw [Gr.st2 ho] at h
    obtain ⟨hc, rfl⟩ := if_some h
    obtain ⟨e1, e2, e3⟩ := pred_mod hc.1 hW
    have h4 := Nat.mod_lt i hW
    show g.st (i - 1) 0 = some i
    rw [Gr.st0 hj, Nat.sub_add_cancel e3, if_pos ⟨by rw [e1]; omega, hc.2.1, hb⟩]
  · rw [Gr.st3 ho] at h
    obtain ⟨hc, rfl⟩ := if_some h
    obtain ⟨e1, e2, e3⟩ := up_div hc.1 hW
    have h4 := row_lt hi
    show g.st (i - g.W) 1 = some i
    rw [Gr.st1 hj, Nat.sub_add_cancel e1, if_pos ⟨by rw [e2]; have := hc.1; generalize i / g.W = q at *; omega, hc.2.1, hb⟩]

/-- The cells that a step reaches. -/
def Gr.near (g : Gr) (i : Nat) : List Nat := [0, 1, 2, 3].filterMap (g.st i)
theorem Gr.mem_near {g : Gr} {i j : Nat} : j ∈ g.near i ↔ ∃ way, g.st i way = some j := by
  unfold Gr.near
  rw [List.mem_filterMap]
  constructor
  · rintro ⟨way, _, h⟩; exact ⟨way, h⟩
  · rintro ⟨way, h⟩
    refine ⟨way, ?_, h⟩
    have := Gr.st_way h
    match way, this with
    | 0, _ => simp
    | 1, _ => simp
    | 2, _ => simp
    | 3, _ => simp
theorem Gr.near_len (g : Gr) (i : Nat) : (g.near i).length ≤ 4 := List.length_filterMap_le _ _
theorem Gr.near_back {g : Gr} (hW : 0 < g.W) {i j : Nat} (h : j ∈ g.near i) : i ∈ g.near j := by
  obtain ⟨way, h⟩ := Gr.mem_near.1 h
  exact Gr.mem_near.2 ⟨_, Gr.st_back hW h⟩
theorem Gr.near_opn {g : Gr} (hW : 0 < g.W) {i j : Nat} (h : j ∈ g.near i) : g.opn i = true ∧ g.opn j = true := by
  obtain ⟨way, h⟩ := Gr.mem_near.1 h
  exact ⟨Gr.st_opn h, Gr.st_to hW h⟩

/-- Steps lead from the one to the other. -/
inductive Gr.Reach (g : Gr) : Nat → Nat → Prop
  | refl (i : Nat) : Gr.Reach g i i
  | snoc {i j k : Nat} : Gr.Reach g i j → k ∈ g.near j → Gr.Reach g i k
theorem Gr.Reach.trans {g : Gr} {i j k : Nat} (h : g.Reach i j) (h2 : g.Reach j k) : g.Reach i k := by
  induction h2 with
  | refl => exact h
  | snoc _ hn ih => exact .snoc ih hn
theorem Gr.Reach.one {g : Gr} {i j : Nat} (h : j ∈ g.near i) : g.Reach i j := .snoc (.refl i) h
theorem Gr.Reach.symm {g : Gr} (hW : 0 < g.W) {i j : Nat} (h : g.Reach i j) : g.Reach j i := by
  induction h with
  | refl => exact .refl _
  | snoc _ hn ih => exact (Gr.Reach.one (Gr.near_back hW hn)).trans ih
theorem Gr.Reach.opn {g : Gr} (hW : 0 < g.W) {i j : Nat} (h : g.Reach i j) (hi : g.opn i = true) : g.opn j = true := by
  induction h with
  | refl => exact hi
  | snoc _ hn _ => exact (Gr.near_opn hW hn).2
/-- What is closed under steps and has i has all that i reaches. -/
theorem Gr.Reach.closed {g : Gr} {S : Nat → Prop} {i j : Nat} (h : g.Reach i j) (hi : S i) (hc : ∀ a b, S a → b ∈ g.near a → S b) : S j := by
  induction h with
  | refl => exact hi
  | snoc _ hn ih => exact hc _ _ ih hn

open Classical in
/-- The first cell of a part: no cell ahead of it reaches it. -/
noncomputable def Gr.first (g : Gr) (i : Nat) : Bool := g.opn i && decide (∀ j, j < i → ¬ g.Reach j i)
open Classical in
theorem Gr.first_iff {g : Gr} {i : Nat} : g.first i = true ↔ g.opn i = true ∧ ∀ j, j < i → ¬ g.Reach j i := by
  unfold Gr.first
  rw [Bool.and_eq_true, decide_eq_true_eq]
/-- How many first cells there are ahead of i. -/
noncomputable def Gr.ahead (g : Gr) (i : Nat) : Nat := ((List.range i).filter g.first).length
theorem Gr.ahead_zero (g : Gr) : g.ahead 0 = 0 := rfl
theorem Gr.ahead_succ (g : Gr) (i : Nat) : g.ahead (i + 1) = g.ahead i + (if g.first i then 1 else 0) := by
  unfold Gr.ahead
  rw [List.range_succ, List.filter_append, List.length_append]
  by_cases h : g.first i = true
  · simp [h]
  · simp [h]
theorem Gr.ahead_mono (g : Gr) {i j : Nat} (h : i ≤ j) : g.ahead i ≤ g.ahead j := by
  induction h with
  | refl => exact Nat.le_refl _
  | step _ ih => rw [Gr.ahead_succ]; omega
theorem Gr.ahead_lt (g : Gr) {i j : Nat} (h : i < j) (hf : g.first i = true) : g.ahead i < g.ahead j := by
  have := g.ahead_mono (show i + 1 ≤ j from h)
  rw [Gr.ahead_succ, if_pos hf] at this
  omega
/-- Each open cell has a first cell that reaches it. -/
theorem Gr.has_first {g : Gr} (hW : 0 < g.W) (i : Nat) (hi : g.opn i = true) : ∃ r, r ≤ i ∧ g.first r = true ∧ g.Reach r i := by
  induction i using Nat.strongRecOn with
  | _ i ih =>
    by_cases h : ∃ j, j < i ∧ g.Reach j i
    · obtain ⟨j, hj, hr⟩ := h
      obtain ⟨r, h1, h2, h3⟩ := ih j hj ((hr.symm hW).opn hW hi)
      exact ⟨r, by omega, h2, h3.trans hr⟩
    · exact ⟨i, Nat.le_refl _, Gr.first_iff.2 ⟨hi, fun j hj hr => h ⟨j, hj, hr⟩⟩, .refl i⟩
theorem Gr.first_unique {g : Gr} (hW : 0 < g.W) {r r' : Nat} (h : g.first r = true) (h' : g.first r' = true) (hr : g.Reach r r') : r = r' := by
  rcases Nat.lt_trichotomy r r' with hl | hl | hl
  · exact absurd hr ((Gr.first_iff.1 h').2 r hl)
  · exact hl
  · exact absurd (hr.symm hW) ((Gr.first_iff.1 h).2 r' hl)
/-- IS THE LIST OF THE PARTS' NUMBERS: a block has -1, an open cell the number of its part's first cell. -/
def Gr.Labels (g : Gr) (p : List Int) : Prop :=
  p.length = g.n ∧ ∀ i, i < g.n → (g.opn i = false → p[i]? = some (-1)) ∧ (∀ r, g.first r = true → g.Reach r i → p[i]? = some (g.ahead r : Int))
theorem Gr.labels_unique {g : Gr} (hW : 0 < g.W) {p q : List Int} (hp : g.Labels p) (hq : g.Labels q) : p = q := by
  apply List.ext_getElem?
  intro i
  by_cases hi : i < g.n
  · by_cases ho : g.opn i = true
    · obtain ⟨r, _, h2, h3⟩ := Gr.has_first hW i ho
      rw [(hp.2 i hi).2 r h2 h3, (hq.2 i hi).2 r h2 h3]
    · have ho' : g.opn i = false := by simpa using ho
      rw [(hp.2 i hi).1 ho', (hq.2 i hi).1 ho']
  · rw [List.getElem?_eq_none (by rw [hp.1]; omega), List.getElem?_eq_none (by rw [hq.1]; omega)]
/-- How many parts there are. -/
noncomputable def Gr.count (g : Gr) : Nat := g.ahead g.n

theorem Gr.lab_open {g : Gr} (hW : 0 < g.W) {p : List Int} (hp : g.Labels p) {i : Nat} (ho : g.opn i = true) : ∃ r, r ≤ i ∧ g.first r = true ∧ g.Reach r i ∧ p[i]? = some (g.ahead r : Int) := by
  obtain ⟨r, h1, h2, h3⟩ := Gr.has_first hW i ho
  exact ⟨r, h1, h2, h3, (hp.2 i (Gr.opn_iff.1 ho).1).2 r h2 h3⟩
theorem Gr.ahead_inj {g : Gr} {r r' : Nat} (h : g.first r = true) (h' : g.first r' = true) (e : g.ahead r = g.ahead r') : r = r' := by
  rcases Nat.lt_trichotomy r r' with hl | hl | hl
  · have := g.ahead_lt hl h; omega
  · exact hl
  · have := g.ahead_lt hl h'; omega
/-- Two open cells have one number just if steps join them. -/
theorem Gr.lab_reach {g : Gr} (hW : 0 < g.W) {p : List Int} (hp : g.Labels p) {i j : Nat} (hi : g.opn i = true) (hj : g.opn j = true) : p[i]? = p[j]? ↔ g.Reach i j := by
  obtain ⟨r, _, h2, h3, h4⟩ := Gr.lab_open hW hp hi
  obtain ⟨r', _, h2', h3', h4'⟩ := Gr.lab_open hW hp hj
  rw [h4, h4']
  constructor
  · intro e
    have e1 : g.ahead r = g.ahead r' := by have := Option.some.inj e; omega
    obtain rfl := Gr.ahead_inj h2 h2' e1
    exact (h3.symm hW).trans h3'
  · intro hr
    obtain rfl := Gr.first_unique hW h2 h2' ((h3.trans hr).trans (h3'.symm hW))
    rfl
theorem Gr.lab_block {g : Gr} {p : List Int} (hp : g.Labels p) {i : Nat} (hi : i < g.n) (ho : g.opn i = false) : p[i]? = some (-1) := (hp.2 i hi).1 ho
/-- A cell's number is at most the number of first cells ahead of it, and is that number just if it is one. -/
theorem Gr.lab_next {g : Gr} (hW : 0 < g.W) {p : List Int} (hp : g.Labels p) {i : Nat} (ho : g.opn i = true) : ∃ q : Nat, p[i]? = some (q : Int) ∧ q ≤ g.ahead i ∧ (q = g.ahead i ↔ g.first i = true) ∧ q < g.count := by
  obtain ⟨r, h1, h2, h3, h4⟩ := Gr.lab_open hW hp ho
  have hin := (Gr.opn_iff.1 ho).1
  refine ⟨g.ahead r, h4, g.ahead_mono h1, ⟨fun e => ?_, fun hf => ?_⟩, g.ahead_lt (by omega) h2⟩
  · rcases Nat.lt_or_ge r i with hl | hl
    · have := g.ahead_lt hl h2; omega
    · obtain rfl : r = i := by omega
      exact h2
  · obtain rfl := Gr.first_unique hW h2 hf h3
    rfl

/-- THE PARTS WHILE THEY ARE MADE: those whose first cell lies ahead of k are numbered. -/
def Gr.Upto (g : Gr) (k : Nat) (p : List Int) : Prop :=
  p.length = g.n ∧ ∀ i, i < g.n → (g.opn i = false → p[i]? = some (-1)) ∧ ∀ r, g.first r = true → g.Reach r i → p[i]? = some (if r < k then (g.ahead r : Int) else -1)
theorem Gr.upto_zero (g : Gr) : g.Upto 0 (List.replicate g.n (-1)) := by
  refine ⟨by simp, fun i hi => ⟨fun _ => by simp [hi], fun r _ _ => by simp [hi]⟩⟩
theorem Gr.upto_end {g : Gr} {p : List Int} (h : g.Upto g.n p) : g.Labels p :=
  ⟨h.1, fun i hi => ⟨(h.2 i hi).1, fun r hf hr => by
    have := (h.2 i hi).2 r hf hr
    rw [if_pos (Gr.opn_iff.1 (Gr.first_iff.1 hf).1).1] at this
    exact this⟩⟩
/-- A cell that is a block, or has a number already, is no first cell: nothing is to be done. -/
theorem Gr.upto_skip {g : Gr} {k : Nat} {p : List Int} (h : g.Upto k p) (hn : g.first k = false) : g.Upto (k + 1) p := by
  refine ⟨h.1, fun i hi => ⟨(h.2 i hi).1, fun r hf hr => ?_⟩⟩
  rw [(h.2 i hi).2 r hf hr]
  have : r ≠ k := fun e => by rw [e, hn] at hf; cases hf
  by_cases hl : r < k
  · rw [if_pos hl, if_pos (by omega)]
  · rw [if_neg hl, if_neg (by omega)]
theorem Gr.upto_block {g : Gr} {k : Nat} (hb : g.opn k = false) : g.first k = false := by
  rw [Bool.eq_false_iff]
  intro hf
  rw [(Gr.first_iff.1 hf).1] at hb
  cases hb
theorem Gr.upto_old {g : Gr} {k : Nat} {p : List Int} (h : g.Upto k p) (hk : g.opn k = true) {q : Int} (hq : p[k]? = some q) (h0 : 0 ≤ q) : g.first k = false := by
  rw [Bool.eq_false_iff]
  intro hf
  have := (h.2 k (Gr.opn_iff.1 hk).1).2 k hf (.refl k)
  rw [if_neg (Nat.lt_irrefl k), hq] at this
  have := Option.some.inj this
  omega
theorem Gr.upto_new {g : Gr} (hW : 0 < g.W) {k : Nat} {p : List Int} (h : g.Upto k p) (hk : g.opn k = true) {q : Int} (hq : p[k]? = some q) (h0 : q < 0) : g.first k = true := by
  obtain ⟨r, h1, h2, h3⟩ := Gr.has_first hW k hk
  rcases Nat.lt_or_ge r k with hl | hl
  · have := (h.2 k (Gr.opn_iff.1 hk).1).2 r h2 h3
    rw [if_pos hl, hq] at this
    have := Option.some.inj this
    omega
  · obtain rfl : r = k := by omega
    exact h2
theorem Gr.upto_range {g : Gr} (hW : 0 < g.W) {k : Nat} {p : List Int} (h : g.Upto k p) {i : Nat} (hi : i < g.n) : ∃ q, p[i]? = some q ∧ -1 ≤ q ∧ q < (g.ahead k : Int) := by
  by_cases ho : g.opn i = true
  · obtain ⟨r, _, h2, h3⟩ := Gr.has_first hW i ho
    have := (h.2 i hi).2 r h2 h3
    by_cases hl : r < k
    · rw [if_pos hl] at this
      have := g.ahead_lt hl h2
      exact ⟨_, ‹_›, by omega, by omega⟩
    · rw [if_neg hl] at this
      exact ⟨_, this, by omega, by omega⟩
  · have ho' : g.opn i = false := by simpa using ho
    exact ⟨_, (h.2 i hi).1 ho', by omega, by omega⟩

/-- WHILE ONE PART IS NUMBERED: some cells that k reaches have its number, the others what they had. -/
structure Gr.Mid (g : Gr) (k : Nat) (p p' : List Int) (S : Nat → Prop) : Prop where
  len : p'.length = g.n
  me : S k
  sub : ∀ j, S j → g.Reach k j
  yes : ∀ j, S j → p'[j]? = some (g.ahead k : Int)
  no : ∀ j, ¬ S j → p'[j]? = p[j]?
theorem Gr.mid_start {g : Gr} {k : Nat} {p : List Int} (h : p.length = g.n) (hk : k < g.n) : g.Mid k p (p.set k (g.ahead k : Int)) (fun j => j = k) := by
  refine ⟨by simpa using h, rfl, fun j hj => by subst hj; exact .refl j, fun j hj => by subst hj; simp [h, hk], fun j hj => ?_⟩
  rw [List.getElem?_set_ne (fun e => hj e.symm)]
theorem Gr.mid_mark {g : Gr} (hW : 0 < g.W) {k : Nat} (hk : g.opn k = true) {p p' : List Int} {S : Nat → Prop} (h : g.Mid k p p' S) {a b : Nat} (ha : S a) (hb : b ∈ g.near a) : g.Mid k p (p'.set b (g.ahead k : Int)) (fun j => S j ∨ j = b) := by
  have hr : g.Reach k b := .snoc (h.sub a ha) hb
  have hbn : b < p'.length := by rw [h.len]; exact (Gr.opn_iff.1 (hr.opn hW hk)).1
  refine ⟨by simpa using h.len, .inl h.me, fun j hj => ?_, fun j hj => ?_, fun j hj => ?_⟩
  · rcases hj with hj | rfl
    · exact h.sub j hj
    · exact hr
  · by_cases e : j = b
    · subst e; simp [hbn]
    · rw [List.getElem?_set_ne (fun h => e h.symm)]
      rcases hj with hj | hj
      · exact h.yes j hj
      · exact absurd hj e
  · rw [List.getElem?_set_ne (fun e => hj (.inr e.symm))]
    exact h.no j (fun hs => hj (.inl hs))
/-- A cell that k reaches has k's number, or none yet. -/
theorem Gr.mid_val {g : Gr} {k : Nat} (hf : g.first k = true) {p p' : List Int} {S : Nat → Prop} (hp : g.Upto k p) (h : g.Mid k p p' S) {b : Nat} (hb : b < g.n) (hr : g.Reach k b) : (S b ∧ p'[b]? = some (g.ahead k : Int)) ∨ (¬ S b ∧ p'[b]? = some (-1)) := by
  by_cases hs : S b
  · exact .inl ⟨hs, h.yes b hs⟩
  · refine .inr ⟨hs, ?_⟩
    rw [h.no b hs, (hp.2 b hb).2 k hf hr, if_neg (Nat.lt_irrefl k)]
/-- Which cells have the number n: just those of the part. -/
theorem Gr.mid_own {g : Gr} (hW : 0 < g.W) {k : Nat} {p p' : List Int} {S : Nat → Prop} (hp : g.Upto k p) (h : g.Mid k p p' S) {j : Nat} (hj : j < g.n) (e : p'[j]? = some (g.ahead k : Int)) : S j := by
  by_cases hs : S j
  · exact hs
  · rw [h.no j hs] at e
    obtain ⟨q, h1, _, h3⟩ := Gr.upto_range hW hp hj
    rw [h1] at e
    have := Option.some.inj e
    omega
/-- Where all that is near has its number, the part is done. -/
theorem Gr.mid_end {g : Gr} (hW : 0 < g.W) {k : Nat} (hf : g.first k = true) {p p' : List Int} {S : Nat → Prop} (hp : g.Upto k p) (h : g.Mid k p p' S) (hc : ∀ a b, S a → b ∈ g.near a → S b) : g.Upto (k + 1) p' := by
  have hS : ∀ j, g.Reach k j → S j := fun j hr => hr.closed h.me hc
  refine ⟨h.len, fun i hi => ⟨fun ho => ?_, fun r hr1 hr2 => ?_⟩⟩
  · have hs : ¬ S i := fun hs => by
      have := (h.sub i hs).opn hW (Gr.first_iff.1 hf).1
      rw [ho] at this; cases this
    rw [h.no i hs]
    exact (hp.2 i hi).1 ho
  · by_cases e : r = k
    · subst e
      rw [if_pos (by omega)]
      exact h.yes i (hS i hr2)
    · have hs : ¬ S i := fun hs => e (Gr.first_unique hW hr1 hf (hr2.trans ((h.sub i hs).symm hW)))
      rw [h.no i hs, (hp.2 i hi).2 r hr1 hr2]
      by_cases hl : r < k
      · rw [if_pos hl, if_pos (by omega)]
      · rw [if_neg hl, if_neg (by omega)]

/-- How many have no number yet; how many were not seen. -/
def negs (p : List Int) : Nat := (p.filter fun q => decide (q < 0)).length
def uns (l : List Bool) : Nat := (l.filter fun b => !b).length
theorem negs_le (p : List Int) : negs p ≤ p.length := List.length_filter_le _ _
theorem uns_le (l : List Bool) : uns l ≤ l.length := List.length_filter_le _ _
theorem negs_set : ∀ {p : List Int} {b : Nat} {q v : Int}, p[b]? = some q → q < 0 → 0 ≤ v → negs (p.set b v) + 1 = negs p
  | [], b, q, v, h, _, _ => by simp at h
  | x :: p, 0, q, v, h, hq, hv => by
    simp only [List.getElem?_cons_zero, Option.some.injEq] at h
    subst h
    have h1 : ¬ v < 0 := by omega
    simp [negs, hq, h1]
  | x :: p, b + 1, q, v, h, hq, hv => by
    have ih := negs_set (p := p) (b := b) (q := q) (v := v) (by simpa using h) hq hv
    unfold negs at *
    rw [List.set_cons_succ, List.filter_cons, List.filter_cons]
    by_cases hx : x < 0
    · simp only [hx, decide_true, if_true, List.length_cons]; omega
    · simp only [hx, decide_false]; exact ih
theorem uns_set : ∀ {l : List Bool} {b : Nat}, l[b]? = some false → uns (l.set b true) + 1 = uns l
  | [], b, h => by simp at h
  | x :: l, 0, h => by
    simp only [List.getElem?_cons_zero, Option.some.injEq] at h
    subst h
    simp [uns]
  | x :: l, b + 1, h => by
    have ih := uns_set (l := l) (b := b) (by simpa using h)
    unfold uns at *
    rw [List.set_cons_succ, List.filter_cons, List.filter_cons]
    cases x
    · simp only [Bool.not_false, if_true, List.length_cons]; omega
    · simp only [Bool.not_true]; exact ih

/-- CELLS THAT WERE SEEN, AND THOSE THAT WAIT TO BE LOOKED AT (of the first, what is near is looked at: 'done' of it is). -/
structure Gr.Bfs (g : Gr) (k : Nat) (seen : List Bool) (todo : List Nat) (fr : Nat → Prop) : Prop where
  len : seen.length = g.n
  me : seen[k]? = some true
  sub : ∀ j, seen[j]? = some true → g.Reach k j
  wait : ∀ j, j ∈ todo → seen[j]? = some true
  clo : ∀ a, seen[a]? = some true → a ∈ todo ∨ fr a ∨ ∀ b, b ∈ g.near a → seen[b]? = some true
theorem Gr.bfs_start {g : Gr} {k : Nat} (hk : k < g.n) : g.Bfs k ((List.replicate g.n false).set k true) [k] (fun _ => False) := by
  have e : ∀ j, ((List.replicate g.n false).set k true)[j]? = some true → j = k := fun j h => by
    by_cases hj : j = k
    · exact hj
    · rw [List.getElem?_set_ne (fun e => hj e.symm)] at h
      by_cases hl : j < g.n
      · rw [List.getElem?_replicate, if_pos hl] at h
        cases h
      · rw [List.getElem?_eq_none (by simp; omega)] at h
        cases h
  refine ⟨by simp, by simp [hk], fun j h => ?_, fun j h => ?_, fun a h => ?_⟩
  · rw [e j h]; exact .refl k
  · rw [List.mem_singleton] at h
    subst h
    simp [hk]
  · rw [e a h]; exact .inl (List.mem_singleton.2 rfl)
/-- The first of those that wait is taken. -/
theorem Gr.bfs_pop {g : Gr} {k a : Nat} {seen : List Bool} {todo : List Nat} (h : g.Bfs k seen (a :: todo) (fun _ => False)) : g.Bfs k seen todo (fun j => j = a) :=
  ⟨h.len, h.me, h.sub, fun j hj => h.wait j (List.mem_cons_of_mem _ hj), fun b hb => by
    rcases h.clo b hb with h1 | h1 | h1
    · rcases List.mem_cons.1 h1 with rfl | h1
      · exact .inr (.inl rfl)
      · exact .inl h1
    · exact h1.elim
    · exact .inr (.inr h1)⟩
/-- A cell near the one that was taken, not seen so far: it is seen, and waits. -/
theorem Gr.bfs_push {g : Gr} (hW : 0 < g.W) {k a b : Nat} {seen : List Bool} {todo : List Nat} (h : g.Bfs k seen todo (fun j => j = a)) (ha : seen[a]? = some true) (hb : b ∈ g.near a) : g.Bfs k (seen.set b true) (todo ++ [b]) (fun j => j = a) := by
  have hr : g.Reach k b := .snoc (h.sub a ha) hb
  have hbl : b < seen.length := by rw [h.len]; exact (Gr.opn_iff.1 (Gr.near_opn hW hb).2).1
  have keep : ∀ j, seen[j]? = some true → (seen.set b true)[j]? = some true := fun j hj => by
    by_cases e : j = b
    · rw [e, List.getElem?_set_self hbl]
    · rw [List.getElem?_set_ne (fun h => e h.symm)]; exact hj
  have back : ∀ j, (seen.set b true)[j]? = some true → j = b ∨ seen[j]? = some true := fun j hj => by
    by_cases e : j = b
    · exact .inl e
    · rw [List.getElem?_set_ne (fun h => e h.symm)] at hj; exact .inr hj
  refine ⟨by simpa using h.len, keep k h.me, fun j hj => ?_, fun j hj => ?_, fun j hj => ?_⟩
  · rcases back j hj with rfl | hj
    · exact hr
    · exact h.sub j hj
  · rcases List.mem_append.1 hj with hj | hj
    · exact keep j (h.wait j hj)
    · rw [List.mem_singleton] at hj
      subst hj
      simp [hbl]
  · rcases back j hj with rfl | hj
    · exact .inl (List.mem_append.2 (.inr (List.mem_singleton.2 rfl)))
    · rcases h.clo j hj with h1 | h1 | h1
      · exact .inl (List.mem_append.2 (.inl h1))
      · exact .inr (.inl h1)
      · exact .inr (.inr fun c hc => keep c (h1 c hc))
/-- All that is near the one that was taken was seen. -/
theorem Gr.bfs_shut {g : Gr} {k a : Nat} {seen : List Bool} {todo : List Nat} (h : g.Bfs k seen todo (fun j => j = a)) (hn : ∀ b, b ∈ g.near a → seen[b]? = some true) : g.Bfs k seen todo (fun _ => False) :=
  ⟨h.len, h.me, h.sub, h.wait, fun j hj => by
    rcases h.clo j hj with h1 | rfl | h1
    · exact .inl h1
    · exact .inr (.inr hn)
    · exact .inr (.inr h1)⟩
theorem Gr.bfs_end {g : Gr} {k : Nat} {seen : List Bool} (h : g.Bfs k seen [] (fun _ => False)) (j : Nat) : seen[j]? = some true ↔ g.Reach k j :=
  ⟨h.sub j, fun hr => hr.closed (S := fun j => seen[j]? = some true) h.me fun a b ha hb => by
    rcases h.clo a ha with h1 | h1 | h1
    · cases h1
    · exact h1.elim
    · exact h1 b hb⟩
end Go.Proofs.YthjgldjjplcncabDoor.Grd
