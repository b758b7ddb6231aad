/-
  Turns of grids (layer 6), as mathematics: a grid as functions of row and column, the quarter, the mirror, their group.
-/
import Derived.Test.YthjgldjjplcncabDoorGrdm
namespace Go.Proofs.YthjgldjjplcncabDoor.Grd

/-- A grid as functions of row and column. -/
structure Fg where
  H : Nat
  W : Nat
  B : Nat → Nat → Bool
  R : Nat → Nat → Bool
  D : Nat → Nat → Bool
theorem Fg.ext {F G : Fg} (h1 : F.H = G.H) (h2 : F.W = G.W) (h3 : F.B = G.B) (h4 : F.R = G.R) (h5 : F.D = G.D) : F = G := by
  cases F
  cases G
  simp only at h1 h2 h3 h4 h5
  subst h1 h2 h3 h4 h5
  rfl
/-- Nothing stands outside, and no bar at the edge. -/
structure Fg.Norm (G : Fg) : Prop where
  b : ∀ r c, G.B r c = true → r < G.H ∧ c < G.W
  r : ∀ r c, G.R r c = true → r < G.H ∧ c + 1 < G.W
  d : ∀ r c, G.D r c = true → r + 1 < G.H ∧ c < G.W
/-- A quarter. -/
def Fg.q (G : Fg) : Fg where
  H := G.W
  W := G.H
  B := fun r c => decide (r < G.W ∧ c < G.H) && G.B (G.H - 1 - c) r
  R := fun r c => decide (r < G.W ∧ c + 1 < G.H) && G.D (G.H - 2 - c) r
  D := fun r c => decide (r + 1 < G.W ∧ c < G.H) && G.R (G.H - 1 - c) r
/-- Mirrored. -/
def Fg.m (G : Fg) : Fg where
  H := G.H
  W := G.W
  B := fun r c => decide (r < G.H ∧ c < G.W) && G.B r (G.W - 1 - c)
  R := fun r c => decide (r < G.H ∧ c + 1 < G.W) && G.R r (G.W - 2 - c)
  D := fun r c => decide (r + 1 < G.H ∧ c < G.W) && G.D r (G.W - 1 - c)
/-- Two quarters. -/
def Fg.qq (G : Fg) : Fg where
  H := G.H
  W := G.W
  B := fun r c => decide (r < G.H ∧ c < G.W) && G.B (G.H - 1 - r) (G.W - 1 - c)
  R := fun r c => decide (r < G.H ∧ c + 1 < G.W) && G.R (G.H - 1 - r) (G.W - 2 - c)
  D := fun r c => decide (r + 1 < G.H ∧ c < G.W) && G.D (G.H - 2 - r) (G.W - 1 - c)

theorem band {p q : Prop} [Decidable p] [Decidable q] {x y : Bool} (h1 : p ↔ q) (h2 : p → x = y) : (decide p && x) = (decide q && y) := by
  by_cases h : p
  · have h' := h1.1 h
    simp [h, h', h2 h]
  · have h' : ¬ q := fun e => h (h1.2 e)
    simp [h, h']
theorem band_t {p : Prop} [Decidable p] {x y : Bool} (h1 : p) (h2 : x = y) : (decide p && x) = y := by simp [h1, h2]
theorem band_n {p : Prop} [Decidable p] {x y : Bool} (h1 : y = true → p) (h2 : p → x = y) : (decide p && x) = y := by
  by_cases h : p
  · simp [h, h2 h]
  · cases hy : y with
    | true => exact absurd (h1 hy) h
    | false => simp [h]
theorem two {f : Nat → Nat → Bool} {a b c d : Nat} (h1 : a = c) (h2 : b = d) : f a b = f c d := by rw [h1, h2]

theorem Fg.q_q (G : Fg) : G.q.q = G.qq := by
  refine Fg.ext rfl rfl ?_ ?_ ?_
  · funext r c
    exact band Iff.rfl fun h => band_t (show _ ∧ _ by simp only [Fg.q] at *; omega) (two (by first | rfl | (simp only [Fg.q] at *; omega)) (by first | rfl | (simp only [Fg.q] at *; omega)))
  · funext r c
    exact band Iff.rfl fun h => band_t (show _ ∧ _ by simp only [Fg.q] at *; omega) (two (by first | rfl | (simp only [Fg.q] at *; omega)) (by first | rfl | (simp only [Fg.q] at *; omega)))
  · funext r c
    exact band Iff.rfl fun h => band_t (show _ ∧ _ by simp only [Fg.q] at *; omega) (two (by first | rfl | (simp only [Fg.q] at *; omega)) (by first | rfl | (simp only [Fg.q] at *; omega)))
theorem Fg.norm_q {G : Fg} : G.q.Norm := by
  constructor <;> intro r c h <;> simp [Fg.q] at h ⊢ <;> omega
theorem Fg.norm_m {G : Fg} : G.m.Norm := by
  constructor <;> intro r c h <;> simp [Fg.m] at h ⊢ <;> omega
theorem Fg.qq_qq {G : Fg} (hG : G.Norm) : G.qq.qq = G := by
  refine Fg.ext rfl rfl ?_ ?_ ?_
  · funext r c
    exact band_n (fun h => hG.b r c h) fun h => band_t (by simp only [Fg.qq] at *; omega) (two (by simp only [Fg.qq] at *; omega) (by simp only [Fg.qq] at *; omega))
  · funext r c
    exact band_n (fun h => hG.r r c h) fun h => band_t (by simp only [Fg.qq] at *; omega) (two (by simp only [Fg.qq] at *; omega) (by simp only [Fg.qq] at *; omega))
  · funext r c
    exact band_n (fun h => hG.d r c h) fun h => band_t (by simp only [Fg.qq] at *; omega) (two (by simp only [Fg.qq] at *; omega) (by simp only [Fg.qq] at *; omega))
theorem Fg.m_m {G : Fg} (hG : G.Norm) : G.m.m = G := by
  refine Fg.ext rfl rfl ?_ ?_ ?_
  · funext r c
    exact band_n (fun h => hG.b r c h) fun h => band_t (by simp only [Fg.m] at *; omega) (two rfl (by simp only [Fg.m] at *; omega))
  · funext r c
    exact band_n (fun h => hG.r r c h) fun h => band_t (by simp only [Fg.m] at *; omega) (two rfl (by simp only [Fg.m] at *; omega))
  · funext r c
    exact band_n (fun h => hG.d r c h) fun h => band_t (by simp only [Fg.m] at *; omega) (two rfl (by simp only [Fg.m] at *; omega))
/-- A quarter behind a mirror behind a quarter is the mirror. -/
theorem Fg.q_m_q (G : Fg) : G.q.m.q = G.m := by
  refine Fg.ext rfl rfl ?_ ?_ ?_
  · funext r c
    exact band Iff.rfl fun h => band_t (by simp only [Fg.m, Fg.q] at *; omega) (band_t (by simp only [Fg.m, Fg.q] at *; omega) (two (by simp only [Fg.m, Fg.q] at *; omega) (by simp only [Fg.m, Fg.q] at *)))
  · funext r c
    exact band Iff.rfl fun h => band_t (by simp only [Fg.m, Fg.q] at *; omega) (band_t (by simp only [Fg.m, Fg.q] at *; omega) (two (by simp only [Fg.m, Fg.q] at *; omega) (by simp only [Fg.m, Fg.q] at *)))
  · funext r c
    exact band Iff.rfl fun h => band_t (by simp only [Fg.m, Fg.q] at *; omega) (band_t (by simp only [Fg.m, Fg.q] at *; omega) (two (by simp only [Fg.m, Fg.q] at *; omega) (by simp only [Fg.m, Fg.q] at *)))
theorem Fg.q4 {G : Fg} (hG : G.Norm) : G.q.q.q.q = G := by
  rw [Fg.q_q G, Fg.q_q, Fg.qq_qq hG]

/-- Quarters, some times. -/
def Fg.qs (G : Fg) : Nat → Fg
  | 0 => G
  | n + 1 => (G.qs n).q
/-- A turn by number: mirrored from 4 on, then quarters. -/
def Fg.turn (G : Fg) (k : Nat) : Fg := (if 3 < k then G.m else G).qs (k % 4)
/-- The turn that does both. -/
def thn (a b : Nat) : Nat := if b < 4 then (a % 4 + b) % 4 + a / 4 * 4 else (b % 4 + 4 - a % 4) % 4 + (a / 4 + 1) % 2 * 4
/-- The turn back. -/
def bck (a : Nat) : Nat := if a < 4 then (4 - a) % 4 else a
theorem thn_lt : ∀ a, a < 8 → ∀ b, b < 8 → thn a b < 8 := by decide
theorem bck_lt : ∀ a, a < 8 → bck a < 8 := by decide
theorem thn_assoc : ∀ a, a < 8 → ∀ b, b < 8 → ∀ c, c < 8 → thn (thn a b) c = thn a (thn b c) := by decide
theorem thn_zero : ∀ a, a < 8 → thn a 0 = a ∧ thn 0 a = a ∧ thn a (bck a) = 0 ∧ thn (bck a) a = 0 := by decide
theorem thn_back : ∀ a, a < 8 → ∀ b, b < 8 → (thn a b = 0 ↔ b = bck a) := by decide
theorem Fg.norm_qs {G : Fg} (hG : G.Norm) : ∀ n, (G.qs n).Norm
  | 0 => hG
  | _ + 1 => Fg.norm_q
theorem Fg.norm_turn {G : Fg} (hG : G.Norm) (k : Nat) : (G.turn k).Norm := by
  unfold Fg.turn
  by_cases h : 3 < k
  · rw [if_pos h]; exact Fg.norm_qs Fg.norm_m _
  · rw [if_neg h]; exact Fg.norm_qs hG _
theorem Fg.qs_qs (G : Fg) (a : Nat) : ∀ b, (G.qs a).qs b = G.qs (a + b)
  | 0 => rfl
  | b + 1 => by
    show ((G.qs a).qs b).q = (G.qs (a + b)).q
    rw [Fg.qs_qs G a b]
theorem Fg.qs4 {G : Fg} (hG : G.Norm) (n : Nat) : G.qs (n + 4) = G.qs n := by
  show (G.qs n).q.q.q.q = _
  exact Fg.q4 (Fg.norm_qs hG n)
theorem Fg.qs_mod {G : Fg} (hG : G.Norm) : ∀ n, G.qs n = G.qs (n % 4)
  | 0 => rfl
  | 1 => rfl
  | 2 => rfl
  | 3 => rfl
  | n + 4 => by rw [Fg.qs4 hG, Fg.qs_mod hG n, Nat.add_mod_right]
/-- A mirror behind quarters: as many quarters back behind the mirror. -/
theorem Fg.qs_m {G : Fg} (hG : G.Norm) : ∀ n, n ≤ 4 → (G.qs n).m = G.m.qs (4 - n)
  | 0, _ => by rw [show 4 - 0 = 0 + 4 from rfl, Fg.qs4 Fg.norm_m]; rfl
  | n + 1, h => by
    have ih := Fg.qs_m hG n (by omega)
    have e : (G.qs (n + 1)).m.q = (G.m.qs (4 - (n + 1))).q := by
      show ((G.qs n).q).m.q = G.m.qs (4 - (n + 1) + 1)
      rw [Fg.q_m_q, ih]
      congr 1
      omega
    have h3 := congrArg (fun X : Fg => X.q.q.q) e
    rw [Fg.q4 Fg.norm_m, Fg.q4 (Fg.norm_qs Fg.norm_m _)] at h3
    exact h3
/-- TURNS ONE BEHIND THE OTHER ARE ONE. -/
theorem Fg.turn_turn {G : Fg} (hG : G.Norm) {a b : Nat} (ha : a < 8) (hb : b < 8) : (G.turn a).turn b = G.turn (thn a b) := by
  have hm : (if 3 < a then G.m else G).Norm := by
    by_cases h : 3 < a
    · rw [if_pos h]; exact Fg.norm_m
    · rw [if_neg h]; exact hG
  have hl := thn_lt a ha b hb
  by_cases h : 3 < b
  · have et : thn a b = (b % 4 + 4 - a % 4) % 4 + (a / 4 + 1) % 2 * 4 := by unfold thn; rw [if_neg (by omega)]
    have e1 : (G.turn a).turn b = (if 3 < a then G.m else G).m.qs (4 - a % 4 + b % 4) := by
      unfold Fg.turn
      rw [if_pos h, Fg.qs_m hm _ (by omega), Fg.qs_qs]
    have e2 : (if 3 < a then G.m else G).m = (if 3 < thn a b then G.m else G) := by
      by_cases h4 : 3 < a
      · have hn : ¬ 3 < thn a b := by omega
        rw [if_pos h4, if_neg hn, Fg.m_m hG]
      · have hn : 3 < thn a b := by omega
        rw [if_neg h4, if_pos hn]
    have e3 : (4 - a % 4 + b % 4) % 4 = thn a b % 4 := by omega
    rw [e1, Fg.qs_mod Fg.norm_m, e3, e2]
    rfl
  · have et : thn a b = (a % 4 + b) % 4 + a / 4 * 4 := by unfold thn; rw [if_pos (by omega)]
    have e1 : (G.turn a).turn b = (if 3 < a then G.m else G).qs (a % 4 + b % 4) := by
      unfold Fg.turn
      rw [if_neg h, Fg.qs_qs]
    have e2 : (if 3 < a then G.m else G) = (if 3 < thn a b then G.m else G) := by
      by_cases h4 : 3 < a
      · have hn : 3 < thn a b := by omega
        rw [if_pos h4, if_pos hn]
      · have hn : ¬ 3 < thn a b := by omega
        rw [if_neg h4, if_neg hn]
    have e3 : (a % 4 + b % 4) % 4 = thn a b % 4 := by omega
    rw [e1, Fg.qs_mod hm, e3, e2]
    rfl
theorem Fg.turn_zero (G : Fg) : G.turn 0 = G := rfl
theorem Fg.turn_back {G : Fg} (hG : G.Norm) {a : Nat} (ha : a < 8) : (G.turn a).turn (bck a) = G := by
  rw [Fg.turn_turn hG ha (bck_lt a ha), (thn_zero a ha).2.2.1]; rfl
end Go.Proofs.YthjgldjjplcncabDoor.Grd
/-
  Cells under turns (layer 6), as mathematics: a cell's place, where a turn takes it, the group, and that cells and bars go with it.
-/
namespace Go.Proofs.YthjgldjjplcncabDoor.Grd

/-- A cell of a grid of h rows and w columns. -/
structure Pl where
  h : Nat
  w : Nat
  r : Nat
  c : Nat
theorem Pl.ext {P Q : Pl} (h1 : P.h = Q.h) (h2 : P.w = Q.w) (h3 : P.r = Q.r) (h4 : P.c = Q.c) : P = Q := by
  cases P
  cases Q
  simp only at h1 h2 h3 h4
  subst h1 h2 h3 h4
  rfl
def Pl.In (P : Pl) : Prop := P.r < P.h ∧ P.c < P.w
def Pl.q (P : Pl) : Pl := ⟨P.w, P.h, P.c, P.h - 1 - P.r⟩
def Pl.m (P : Pl) : Pl := ⟨P.h, P.w, P.r, P.w - 1 - P.c⟩
theorem Pl.in_q {P : Pl} (hP : P.In) : P.q.In := by unfold Pl.In Pl.q at *; dsimp only; omega
theorem Pl.in_m {P : Pl} (hP : P.In) : P.m.In := by unfold Pl.In Pl.m at *; dsimp only; omega
theorem Pl.q4 {P : Pl} (hP : P.In) : P.q.q.q.q = P := by
  unfold Pl.In at hP
  unfold Pl.q
  exact Pl.ext rfl rfl (by dsimp only; omega) (by dsimp only; omega)
theorem Pl.m_m {P : Pl} (hP : P.In) : P.m.m = P := by
  unfold Pl.In at hP
  unfold Pl.m
  exact Pl.ext rfl rfl rfl (by dsimp only; omega)
theorem Pl.q_m_q {P : Pl} (hP : P.In) : P.q.m.q = P.m := by
  unfold Pl.In at hP
  unfold Pl.q Pl.m
  exact Pl.ext rfl rfl (by dsimp only; omega) rfl
def Pl.qs (P : Pl) : Nat → Pl
  | 0 => P
  | n + 1 => (P.qs n).q
def Pl.turn (P : Pl) (k : Nat) : Pl := (if 3 < k then P.m else P).qs (k % 4)
theorem Pl.in_qs {P : Pl} (hP : P.In) : ∀ n, (P.qs n).In
  | 0 => hP
  | n + 1 => Pl.in_q (Pl.in_qs hP n)
theorem Pl.in_mm {P : Pl} (hP : P.In) (k : Nat) : (if 3 < k then P.m else P).In := by
  by_cases h : 3 < k
  · rw [if_pos h]; exact Pl.in_m hP
  · rw [if_neg h]; exact hP
theorem Pl.in_turn {P : Pl} (hP : P.In) (k : Nat) : (P.turn k).In := Pl.in_qs (Pl.in_mm hP k) _
theorem Pl.qs_qs (P : Pl) (a : Nat) : ∀ b, (P.qs a).qs b = P.qs (a + b)
  | 0 => rfl
  | b + 1 => by
    show ((P.qs a).qs b).q = (P.qs (a + b)).q
    rw [Pl.qs_qs P a b]
theorem Pl.qs4 {P : Pl} (hP : P.In) (n : Nat) : P.qs (n + 4) = P.qs n := by
  show (P.qs n).q.q.q.q = _
  exact Pl.q4 (Pl.in_qs hP n)
theorem Pl.qs_mod {P : Pl} (hP : P.In) : ∀ n, P.qs n = P.qs (n % 4)
  | 0 => rfl
  | 1 => rfl
  | 2 => rfl
  | 3 => rfl
  | n + 4 => by rw [Pl.qs4 hP, Pl.qs_mod hP n, Nat.add_mod_right]
theorem Pl.qs_m {P : Pl} (hP : P.In) : ∀ n, n ≤ 4 → (P.qs n).m = P.m.qs (4 - n)
  | 0, _ => by rw [show 4 - 0 = 0 + 4 from rfl, Pl.qs4 (Pl.in_m hP)]; rfl
  | n + 1, h => by
    have ih := Pl.qs_m hP n (by omega)
    have e : (P.qs (n + 1)).m.q = (P.m.qs (4 - (n + 1))).q := by
      show ((P.qs n).q).m.q = P.m.qs (4 - (n + 1) + 1)
      rw [Pl.q_m_q (Pl.in_qs hP n), ih]
      congr 1
      omega
    have h3 := congrArg (fun X : Pl => X.q.q.q) e
    rw [Pl.q4 (Pl.in_m (Pl.in_qs hP _)), Pl.q4 (Pl.in_qs (Pl.in_m hP) _)] at h3
    exact h3
theorem Pl.turn_turn {P : Pl} (hP : P.In) {a b : Nat} (ha : a < 8) (hb : b < 8) : (P.turn a).turn b = P.turn (thn a b) := by
  have hm := Pl.in_mm hP a
  have hl := thn_lt a ha b hb
  by_cases h : 3 < b
  · have et : thn a b = (b % 4 + 4 - a % 4) % 4 + (a / 4 + 1) % 2 * 4 := by unfold thn; rw [if_neg (by omega)]
    have e1 : (P.turn a).turn b = (if 3 < a then P.m else P).m.qs (4 - a % 4 + b % 4) := by
      unfold Pl.turn
      rw [if_pos h, Pl.qs_m hm _ (by omega), Pl.qs_qs]
    have e2 : (if 3 < a then P.m else P).m = (if 3 < thn a b then P.m else P) := by
      by_cases h4 : 3 < a
      · have hn : ¬ 3 < thn a b := by omega
        rw [if_pos h4, if_neg hn, Pl.m_m hP]
      · have hn : 3 < thn a b := by omega
        rw [if_neg h4, if_pos hn]
    have e3 : (4 - a % 4 + b % 4) % 4 = thn a b % 4 := by omega
    rw [e1, Pl.qs_mod (Pl.in_m hm), e3, e2]
    rfl
  · have et : thn a b = (a % 4 + b) % 4 + a / 4 * 4 := by unfold thn; rw [if_pos (by omega)]
    have e1 : (P.turn a).turn b = (if 3 < a then P.m else P).qs (a % 4 + b % 4) := by
      unfold Pl.turn
      rw [if_neg h, Pl.qs_qs]
    have e2 : (if 3 < a then P.m else P) = (if 3 < thn a b then P.m else P) := by
      by_cases h4 : 3 < a
      · have hn : 3 < thn a b := by omega
        rw [if_pos h4, if_pos hn]
      · have hn : ¬ 3 < thn a b := by omega
        rw [if_neg h4, if_neg hn]
    have e3 : (a % 4 + b % 4) % 4 = thn a b % 4 := by omega
    rw [e1, Pl.qs_mod hm, e3, e2]
    rfl
theorem Pl.turn_back {P : Pl} (hP : P.In) {a : Nat} (ha : a < 8) : (P.turn a).turn (bck a) = P := by
  rw [Pl.turn_turn hP ha (bck_lt a ha), (thn_zero a ha).2.2.1]; rfl
/-- No two cells go to one. -/
theorem Pl.turn_inj {P Q : Pl} (hP : P.In) (hQ : Q.In) {a : Nat} (ha : a < 8) (h : P.turn a = Q.turn a) : P = Q := by
  rw [← Pl.turn_back hP ha, h, Pl.turn_back hQ ha]

/-- The sides go with them. -/
theorem Pl.qs_hw (P : Pl) : ∀ n, (P.qs n).h = (if n % 2 = 1 then P.w else P.h) ∧ (P.qs n).w = (if n % 2 = 1 then P.h else P.w)
  | 0 => ⟨rfl, rfl⟩
  | n + 1 => by
    obtain ⟨h1, h2⟩ := Pl.qs_hw P n
    show (P.qs n).w = _ ∧ (P.qs n).h = _
    rw [h1, h2]
    by_cases e : n % 2 = 1
    · have e' : ¬ (n + 1) % 2 = 1 := by omega
      simp only [e, e', if_true, if_false, and_self]
    · have e' : (n + 1) % 2 = 1 := by omega
      simp only [e, e', if_true, if_false, and_self]
theorem Pl.turn_hw (P : Pl) (k : Nat) : (P.turn k).h = (if k % 2 = 1 then P.w else P.h) ∧ (P.turn k).w = (if k % 2 = 1 then P.h else P.w) := by
  have e : k % 4 % 2 = k % 2 := by omega
  have h := Pl.qs_hw (if 3 < k then P.m else P) (k % 4)
  rw [e] at h
  unfold Pl.turn
  by_cases hk : 3 < k
  · simp only [if_pos hk] at h ⊢; exact h
  · simp only [if_neg hk] at h ⊢; exact h

/-- A cell of this grid. -/
def Fg.Of (G : Fg) (P : Pl) : Prop := P.h = G.H ∧ P.w = G.W ∧ P.r < G.H ∧ P.c < G.W
theorem Fg.Of.inn {G : Fg} {P : Pl} (h : G.Of P) : P.In := by obtain ⟨h1, h2, h3, h4⟩ := h; unfold Pl.In; omega
theorem Fg.of_q {G : Fg} {P : Pl} (h : G.Of P) : G.q.Of P.q := by
  obtain ⟨h1, h2, h3, h4⟩ := h
  refine ⟨h2, h1, ?_, ?_⟩
  · exact h4
  · show P.h - 1 - P.r < G.H
    omega
theorem Fg.of_m {G : Fg} {P : Pl} (h : G.Of P) : G.m.Of P.m := by
  obtain ⟨h1, h2, h3, h4⟩ := h
  refine ⟨h1, h2, h3, ?_⟩
  show P.w - 1 - P.c < G.W
  omega
/-- The block goes with the cell. -/
theorem Fg.b_q {G : Fg} {P : Pl} (h : G.Of P) : G.q.B P.q.r P.q.c = G.B P.r P.c := by
  obtain ⟨h1, h2, h3, h4⟩ := h
  exact band_t (show P.c < G.W ∧ P.h - 1 - P.r < G.H by omega) (two (show G.H - 1 - (P.h - 1 - P.r) = P.r by omega) rfl)
theorem Fg.b_m {G : Fg} {P : Pl} (h : G.Of P) : G.m.B P.m.r P.m.c = G.B P.r P.c := by
  obtain ⟨h1, h2, h3, h4⟩ := h
  exact band_t (show P.r < G.H ∧ P.w - 1 - P.c < G.W by omega) (two rfl (show G.W - 1 - (P.w - 1 - P.c) = P.c by omega))
/-- The bar between two cells side by side. -/
def Fg.bar (G : Fg) (P Q : Pl) : Bool := if P.r = Q.r then G.R P.r (min P.c Q.c) else G.D (min P.r Q.r) P.c
/-- Two cells stand side by side. -/
def Pl.By (P Q : Pl) : Prop := (P.r = Q.r ∧ (P.c + 1 = Q.c ∨ Q.c + 1 = P.c)) ∨ (P.c = Q.c ∧ (P.r + 1 = Q.r ∨ Q.r + 1 = P.r))
theorem Fg.by_q {G : Fg} {P Q : Pl} (h : G.Of P) (h' : G.Of Q) (hb : P.By Q) : P.q.By Q.q := by
  obtain ⟨h1, h2, h3, h4⟩ := h
  obtain ⟨k1, k2, k3, k4⟩ := h'
  show (P.c = Q.c ∧ (P.h - 1 - P.r + 1 = Q.h - 1 - Q.r ∨ Q.h - 1 - Q.r + 1 = P.h - 1 - P.r)) ∨ (P.h - 1 - P.r = Q.h - 1 - Q.r ∧ (P.c + 1 = Q.c ∨ Q.c + 1 = P.c))
  unfold Pl.By at hb
  omega
theorem Fg.by_m {G : Fg} {P Q : Pl} (h : G.Of P) (h' : G.Of Q) (hb : P.By Q) : P.m.By Q.m := by
  obtain ⟨h1, h2, h3, h4⟩ := h
  obtain ⟨k1, k2, k3, k4⟩ := h'
  show (P.r = Q.r ∧ (P.w - 1 - P.c + 1 = Q.w - 1 - Q.c ∨ Q.w - 1 - Q.c + 1 = P.w - 1 - P.c)) ∨ (P.w - 1 - P.c = Q.w - 1 - Q.c ∧ (P.r + 1 = Q.r ∨ Q.r + 1 = P.r))
  unfold Pl.By at hb
  omega
theorem Fg.bar_q {G : Fg} {P Q : Pl} (h : G.Of P) (h' : G.Of Q) (hb : P.By Q) : G.q.bar P.q Q.q = G.bar P Q := by
  obtain ⟨h1, h2, h3, h4⟩ := h
  obtain ⟨k1, k2, k3, k4⟩ := h'
  unfold Fg.bar
  rcases hb with ⟨e, hb⟩ | ⟨e, hb⟩
  · have n1 : ¬ P.q.r = Q.q.r := by show ¬ P.c = Q.c; omega
    rw [if_neg n1, if_pos e]
    exact band_t (show min P.c Q.c + 1 < G.W ∧ P.h - 1 - P.r < G.H by omega) (two (show G.H - 1 - (P.h - 1 - P.r) = P.r by omega) rfl)
  · have n1 : P.q.r = Q.q.r := e
    have n2 : ¬ P.r = Q.r := by omega
    rw [if_pos n1, if_neg n2]
    exact band_t (show P.c < G.W ∧ min (P.h - 1 - P.r) (Q.h - 1 - Q.r) + 1 < G.H by omega) (two (show G.H - 2 - min (P.h - 1 - P.r) (Q.h - 1 - Q.r) = min P.r Q.r by omega) rfl)
theorem Fg.bar_m {G : Fg} {P Q : Pl} (h : G.Of P) (h' : G.Of Q) (hb : P.By Q) : G.m.bar P.m Q.m = G.bar P Q := by
  obtain ⟨h1, h2, h3, h4⟩ := h
  obtain ⟨k1, k2, k3, k4⟩ := h'
  unfold Fg.bar
  rcases hb with ⟨e, hb⟩ | ⟨e, hb⟩
  · have n1 : P.m.r = Q.m.r := e
    rw [if_pos n1, if_pos e]
    exact band_t (show P.r < G.H ∧ min (P.w - 1 - P.c) (Q.w - 1 - Q.c) + 1 < G.W by omega) (two rfl (show G.W - 2 - min (P.w - 1 - P.c) (Q.w - 1 - Q.c) = min P.c Q.c by omega))
  · have n2 : ¬ P.r = Q.r := by omega
    have n1 : ¬ P.m.r = Q.m.r := n2
    rw [if_neg n1, if_neg n2]
    exact band_t (show min P.r Q.r + 1 < G.H ∧ P.w - 1 - P.c < G.W by omega) (two rfl (show G.W - 1 - (P.w - 1 - P.c) = P.c by omega))
/-- CELLS AND BARS GO WITH A TURN. -/
theorem Fg.go_qs {G : Fg} {P Q : Pl} (h : G.Of P) (h' : G.Of Q) : ∀ n, (G.qs n).Of (P.qs n) ∧ (G.qs n).Of (Q.qs n) ∧ (G.qs n).B (P.qs n).r (P.qs n).c = G.B P.r P.c ∧ (P.By Q → (P.qs n).By (Q.qs n) ∧ (G.qs n).bar (P.qs n) (Q.qs n) = G.bar P Q)
  | 0 => ⟨h, h', rfl, fun hb => ⟨hb, rfl⟩⟩
  | n + 1 => by
    obtain ⟨i1, i2, i3, i4⟩ := Fg.go_qs h h' n
    refine ⟨Fg.of_q i1, Fg.of_q i2, (Fg.b_q i1).trans i3, fun hb => ?_⟩
    obtain ⟨j1, j2⟩ := i4 hb
    exact ⟨Fg.by_q i1 i2 j1, (Fg.bar_q i1 i2 j1).trans j2⟩
theorem Fg.go_turn {G : Fg} {P Q : Pl} (h : G.Of P) (h' : G.Of Q) (k : Nat) : (G.turn k).Of (P.turn k) ∧ (G.turn k).Of (Q.turn k) ∧ (G.turn k).B (P.turn k).r (P.turn k).c = G.B P.r P.c ∧ (P.By Q → (P.turn k).By (Q.turn k) ∧ (G.turn k).bar (P.turn k) (Q.turn k) = G.bar P Q) := by
  unfold Fg.turn Pl.turn
  by_cases hk : 3 < k
  · simp only [if_pos hk]
    obtain ⟨i1, i2, i3, i4⟩ := Fg.go_qs (Fg.of_m h) (Fg.of_m h') (k % 4)
    refine ⟨i1, i2, i3.trans (Fg.b_m h), fun hb => ?_⟩
    obtain ⟨j1, j2⟩ := i4 (Fg.by_m h h' hb)
    exact ⟨j1, j2.trans (Fg.bar_m h h' hb)⟩
  · simp only [if_neg hk]
    exact Fg.go_qs h h' (k % 4)
end Go.Proofs.YthjgldjjplcncabDoor.Grd
/-
  Grids as lists and as functions (layer 6), as mathematics: there and back; a turned grid is right.
-/
namespace Go.Proofs.YthjgldjjplcncabDoor.Grd

theorem at_lt {h w r c : Nat} (hr : r < h) (hc : c < w) : r * w + c < h * w :=
  Nat.lt_of_lt_of_le (Nat.add_lt_add_left hc _) (by rw [← Nat.succ_mul]; exact Nat.mul_le_mul_right _ hr)
theorem at_div {w r c : Nat} (hc : c < w) : (r * w + c) / w = r := by
  rw [Nat.mul_comm, Nat.mul_add_div (by omega), Nat.div_eq_of_lt hc, Nat.add_zero]
theorem at_mod {w r c : Nat} (hc : c < w) : (r * w + c) % w = c := by
  rw [Nat.mul_comm, Nat.mul_add_mod, Nat.mod_eq_of_lt hc]
theorem at_back (w i : Nat) : i / w * w + i % w = i := by rw [Nat.mul_comm]; exact Nat.div_add_mod i w
theorem div_in {h w i : Nat} (hi : i < h * w) : i / w < h ∧ i % w < w := by
  have hw : 0 < w := by
    rcases Nat.eq_zero_or_pos w with e | e
    · subst e; omega
    · exact e
  exact ⟨(Nat.div_lt_iff_lt_mul hw).2 hi, Nat.mod_lt _ hw⟩

/-- A grid's functions. -/
def Gr.fg (g : Gr) : Fg where
  H := g.H
  W := g.W
  B := fun r c => decide (r < g.H ∧ c < g.W) && bt g.B (r * g.W + c)
  R := fun r c => decide (r < g.H ∧ c + 1 < g.W) && bt g.R (r * g.W + c)
  D := fun r c => decide (r + 1 < g.H ∧ c < g.W) && bt g.D (r * g.W + c)
/-- A grid of functions. -/
def Fg.gr (G : Fg) : Gr where
  h := G.H
  w := G.W
  B := (List.range (G.H * G.W)).map fun i => G.B (i / G.W) (i % G.W)
  R := (List.range (G.H * G.W)).map fun i => G.R (i / G.W) (i % G.W)
  D := (List.range (G.H * G.W)).map fun i => G.D (i / G.W) (i % G.W)
theorem Gr.fg_norm (g : Gr) : g.fg.Norm := by
  constructor <;> intro r c h <;> simp [Gr.fg] at h ⊢ <;> omega
theorem Fg.gr_H (G : Fg) : G.gr.H = G.H := Int.toNat_natCast _
theorem Fg.gr_W (G : Fg) : G.gr.W = G.W := Int.toNat_natCast _
theorem Fg.gr_n (G : Fg) : G.gr.n = G.H * G.W := by unfold Gr.n; rw [G.gr_H, G.gr_W]
theorem bt_map {n : Nat} {f : Nat → Bool} {i : Nat} (h : i < n) : bt ((List.range n).map f) i = f i := by
  unfold bt
  rw [List.getElem?_map, List.getElem?_range h]
  rfl
theorem Fg.gr_fg {G : Fg} (hG : G.Norm) : G.gr.fg = G := by
  refine Fg.ext G.gr_H G.gr_W ?_ ?_ ?_
  · funext r c
    refine band_n (fun h => by rw [G.gr_H, G.gr_W]; exact hG.b r c h) fun h => ?_
    rw [G.gr_H, G.gr_W] at h
    rw [G.gr_W]
    show bt ((List.range (G.H * G.W)).map _) _ = _
    rw [bt_map (at_lt h.1 h.2), at_div h.2, at_mod h.2]
  · funext r c
    refine band_n (fun h => by rw [G.gr_H, G.gr_W]; exact hG.r r c h) fun h => ?_
    rw [G.gr_H, G.gr_W] at h
    have h2 : c < G.W := by omega
    rw [G.gr_W]
    show bt ((List.range (G.H * G.W)).map _) _ = _
    rw [bt_map (at_lt h.1 h2), at_div h2, at_mod h2]
  · funext r c
    refine band_n (fun h => by rw [G.gr_H, G.gr_W]; exact hG.d r c h) fun h => ?_
    rw [G.gr_H, G.gr_W] at h
    have h1 : r < G.H := by omega
    rw [G.gr_W]
    show bt ((List.range (G.H * G.W)).map _) _ = _
    rw [bt_map (at_lt h1 h.2), at_div h.2, at_mod h.2]
theorem list_map {l : List Bool} {n : Nat} {f : Nat → Bool} (hl : l.length = n) (h : ∀ i, i < n → f i = bt l i) : (List.range n).map f = l := by
  apply List.ext_getElem
  · simpa using hl.symm
  · intro i h1 h2
    have hi : i < n := by omega
    rw [List.getElem_map, List.getElem_range, h i hi, bt_in h2]
theorem Gr.ext' {g g' : Gr} (h1 : g.h = g'.h) (h2 : g.w = g'.w) (h3 : g.B = g'.B) (h4 : g.R = g'.R) (h5 : g.D = g'.D) : g = g' := by
  cases g; cases g'
  simp only at h1 h2 h3 h4 h5
  subst h1; subst h2; subst h3; subst h4; subst h5
  rfl
/-- There and back. -/
theorem Gr.fg_gr {g : Gr} (hr : g.Right) : g.fg.gr = g := by
  refine Gr.ext' hr.sh.2.2 hr.sw.2.2 ?_ ?_ ?_
  · refine list_map hr.bl fun i hi => ?_
    obtain ⟨h1, h2⟩ := div_in (h := g.H) (w := g.W) hi
    exact band_t ⟨h1, h2⟩ (by show bt g.B (i / g.W * g.W + i % g.W) = _; rw [at_back])
  · refine list_map hr.rl fun i hi => ?_
    obtain ⟨h1, h2⟩ := div_in (h := g.H) (w := g.W) hi
    refine band_n (fun h => ⟨h1, ?_⟩) fun _ => by show bt g.R (i / g.W * g.W + i % g.W) = _; rw [at_back]
    have hn := hr.nr i hi
    unfold Gr.badR at hn
    have : ¬ i % g.W = g.W - 1 := fun e => hn ⟨h, .inr (.inl e)⟩
    show i % g.W + 1 < g.W
    omega
  · refine list_map hr.dl fun i hi => ?_
    obtain ⟨h1, h2⟩ := div_in (h := g.H) (w := g.W) hi
    refine band_n (fun h => ⟨?_, h2⟩) fun _ => by show bt g.D (i / g.W * g.W + i % g.W) = _; rw [at_back]
    have hn := hr.nd i hi
    unfold Gr.badD at hn
    have : ¬ i / g.W = g.H - 1 := fun e => hn ⟨h, .inr (.inl e)⟩
    show i / g.W + 1 < g.H
    clear h hn hi
    generalize i / g.W = x at *
    omega

/-- No bar stands at a block. -/
structure Fg.Bars (G : Fg) : Prop where
  r : ∀ r c, G.R r c = true → G.B r c = false ∧ G.B r (c + 1) = false
  d : ∀ r c, G.D r c = true → G.B r c = false ∧ G.B (r + 1) c = false
theorem band_true {p : Prop} [Decidable p] {x : Bool} (h : (decide p && x) = true) : p ∧ x = true := by
  rw [Bool.and_eq_true] at h
  exact ⟨of_decide_eq_true h.1, h.2⟩
theorem band_false {p : Prop} [Decidable p] {x : Bool} (h : x = false) : (decide p && x) = false := by rw [h, Bool.and_false]
theorem Fg.bars_q {G : Fg} (hG : G.Bars) : G.q.Bars := by
  constructor
  · intro r c h
    obtain ⟨hp, hx⟩ := band_true h
    obtain ⟨h1, h2⟩ := hG.d _ _ hx
    refine ⟨band_false ?_, band_false ?_⟩
    · rw [show G.H - 1 - c = G.H - 2 - c + 1 by omega]; exact h2
    · rw [show G.H - 1 - (c + 1) = G.H - 2 - c by omega]; exact h1
  · intro r c h
    obtain ⟨hp, hx⟩ := band_true h
    obtain ⟨h1, h2⟩ := hG.r _ _ hx
    exact ⟨band_false h1, band_false h2⟩
theorem Fg.bars_m {G : Fg} (hG : G.Bars) : G.m.Bars := by
  constructor
  · intro r c h
    obtain ⟨hp, hx⟩ := band_true h
    obtain ⟨h1, h2⟩ := hG.r _ _ hx
    refine ⟨band_false ?_, band_false ?_⟩
    · rw [show G.W - 1 - c = G.W - 2 - c + 1 by omega]; exact h2
    · rw [show G.W - 1 - (c + 1) = G.W - 2 - c by omega]; exact h1
  · intro r c h
    obtain ⟨hp, hx⟩ := band_true h
    obtain ⟨h1, h2⟩ := hG.d _ _ hx
    exact ⟨band_false h1, band_false h2⟩
theorem Fg.bars_qs {G : Fg} (hG : G.Bars) : ∀ n, (G.qs n).Bars
  | 0 => hG
  | n + 1 => Fg.bars_q (Fg.bars_qs hG n)
theorem Fg.bars_turn {G : Fg} (hG : G.Bars) (k : Nat) : (G.turn k).Bars := by
  unfold Fg.turn
  by_cases h : 3 < k
  · rw [if_pos h]; exact Fg.bars_qs (Fg.bars_m hG) _
  · rw [if_neg h]; exact Fg.bars_qs hG _
theorem Fg.qs_hw (G : Fg) : ∀ n, (G.qs n).H = (if n % 2 = 1 then G.W else G.H) ∧ (G.qs n).W = (if n % 2 = 1 then G.H else G.W)
  | 0 => ⟨rfl, rfl⟩
  | n + 1 => by
    obtain ⟨h1, h2⟩ := Fg.qs_hw G n
    show (G.qs n).W = _ ∧ (G.qs n).H = _
    rw [h1, h2]
    by_cases e : n % 2 = 1
    · have e' : ¬ (n + 1) % 2 = 1 := by omega
      simp only [e, e', if_true, if_false, and_self]
    · have e' : (n + 1) % 2 = 1 := by omega
      simp only [e, e', if_true, if_false, and_self]
theorem Fg.turn_hw (G : Fg) (k : Nat) : (G.turn k).H = (if k % 2 = 1 then G.W else G.H) ∧ (G.turn k).W = (if k % 2 = 1 then G.H else G.W) := by
  have e : k % 4 % 2 = k % 2 := by omega
  have h := Fg.qs_hw (if 3 < k then G.m else G) (k % 4)
  rw [e] at h
  unfold Fg.turn
  by_cases hk : 3 < k
  · simp only [if_pos hk] at h ⊢; exact h
  · simp only [if_neg hk] at h ⊢; exact h
theorem Gr.fg_bars {g : Gr} (hr : g.Right) : g.fg.Bars := by
  constructor
  · intro r c h
    obtain ⟨hp, hx⟩ := band_true h
    have hn := hr.nr _ (show r * g.W + c < g.n from at_lt hp.1 (by omega))
    unfold Gr.badR at hn
    refine ⟨band_false ?_, band_false ?_⟩
    · exact Bool.eq_false_iff.2 fun e => hn ⟨hx, .inl e⟩
    · exact Bool.eq_false_iff.2 fun e => hn ⟨hx, .inr (.inr e)⟩
  · intro r c h
    obtain ⟨hp, hx⟩ := band_true h
    have hn := hr.nd _ (show r * g.W + c < g.n from at_lt (by omega) hp.2)
    unfold Gr.badD at hn
    refine ⟨band_false ?_, band_false ?_⟩
    · exact Bool.eq_false_iff.2 fun e => hn ⟨hx, .inl e⟩
    · refine Bool.eq_false_iff.2 fun e => hn ⟨hx, .inr (.inr ?_)⟩
      rw [show r * g.W + c + g.W = (r + 1) * g.W + c by rw [Nat.succ_mul]; omega]; exact e
/-- Functions that are right make a right grid. -/
theorem Fg.gr_right {G : Fg} (hG : G.Norm) (hB : G.Bars) (hH : 1 ≤ G.H ∧ G.H ≤ 16) (hW : 1 ≤ G.W ∧ G.W ≤ 16) : G.gr.Right where
  sh := by rw [G.gr_H]; exact ⟨hH.1, hH.2, rfl⟩
  sw := by rw [G.gr_W]; exact ⟨hW.1, hW.2, rfl⟩
  bl := by rw [G.gr_n]; show (List.map _ _).length = _; simp
  rl := by rw [G.gr_n]; show (List.map _ _).length = _; simp
  dl := by rw [G.gr_n]; show (List.map _ _).length = _; simp
  nr := fun i hi hb => by
    rw [G.gr_n] at hi
    unfold Gr.badR at hb
    rw [G.gr_W] at hb
    obtain ⟨h1, h2⟩ := hb
    have h1' : G.R (i / G.W) (i % G.W) = true := (bt_map hi).symm.trans h1
    have hin := hG.r _ _ h1'
    obtain ⟨b1, b2⟩ := hB.r _ _ h1'
    have hi' : i + 1 < G.H * G.W := by
      have := at_lt (h := G.H) (w := G.W) hin.1 hin.2
      have e := at_back G.W i
      omega
    rcases h2 with h2 | h2 | h2
    · rw [(bt_map hi).symm.trans h2] at b1; cases b1
    · omega
    · have e1 : (i + 1) / G.W = i / G.W := by
        have e := at_div (w := G.W) (r := i / G.W) (c := i % G.W + 1) hin.2
        rwa [← Nat.add_assoc, at_back] at e
      have e2 : (i + 1) % G.W = i % G.W + 1 := by
        have e := at_mod (w := G.W) (r := i / G.W) (c := i % G.W + 1) hin.2
        rwa [← Nat.add_assoc, at_back] at e
      have h3 : G.B ((i + 1) / G.W) ((i + 1) % G.W) = true := (bt_map hi').symm.trans h2
      rw [e1, e2, b2] at h3; cases h3
  nd := fun i hi hb => by
    rw [G.gr_n] at hi
    unfold Gr.badD at hb
    rw [G.gr_W, G.gr_H] at hb
    obtain ⟨h1, h2⟩ := hb
    have h1' : G.D (i / G.W) (i % G.W) = true := (bt_map hi).symm.trans h1
    have hin := hG.d _ _ h1'
    obtain ⟨b1, b2⟩ := hB.d _ _ h1'
    have e0 : (i / G.W + 1) * G.W + i % G.W = i + G.W := by
      have e := at_back G.W i
      rw [Nat.succ_mul]; omega
    have hi' : i + G.W < G.H * G.W := by
      have := at_lt (h := G.H) (w := G.W) hin.1 hin.2
      omega
    rcases h2 with h2 | h2 | h2
    · rw [(bt_map hi).symm.trans h2] at b1; cases b1
    · omega
    · have e1 : (i + G.W) / G.W = i / G.W + 1 := by rw [← e0]; exact at_div hin.2
      have e2 : (i + G.W) % G.W = i % G.W := by rw [← e0]; exact at_mod hin.2
      have h3 : G.B ((i + G.W) / G.W) ((i + G.W) % G.W) = true := (bt_map hi').symm.trans h2
      rw [e1, e2, b2] at h3; cases h3
/-- A GRID TURNED. -/
def Gr.turn (g : Gr) (k : Nat) : Gr := (g.fg.turn k).gr
theorem Gr.turn_right {g : Gr} (hr : g.Right) (k : Nat) : (g.turn k).Right := by
  obtain ⟨h1, h2⟩ := Fg.turn_hw g.fg k
  have a := hr.sh
  have b := hr.sw
  refine Fg.gr_right (Fg.norm_turn g.fg_norm k) (Fg.bars_turn (Gr.fg_bars hr) k) ?_ ?_
  · rw [h1]
    by_cases e : k % 2 = 1
    · rw [if_pos e]; exact ⟨b.1, b.2.1⟩
    · rw [if_neg e]; exact ⟨a.1, a.2.1⟩
  · rw [h2]
    by_cases e : k % 2 = 1
    · rw [if_pos e]; exact ⟨a.1, a.2.1⟩
    · rw [if_neg e]; exact ⟨b.1, b.2.1⟩
theorem Gr.turn_turn {g : Gr} {a b : Nat} (ha : a < 8) (hb : b < 8) : (g.turn a).turn b = g.turn (thn a b) := by
  unfold Gr.turn
  rw [Fg.gr_fg (Fg.norm_turn g.fg_norm a), Fg.turn_turn g.fg_norm ha hb]
theorem Gr.turn_zero {g : Gr} (hr : g.Right) : g.turn 0 = g := Gr.fg_gr hr
theorem Gr.turn_back {g : Gr} (hr : g.Right) {a : Nat} (ha : a < 8) : (g.turn a).turn (bck a) = g := by
  rw [Gr.turn_turn ha (bck_lt a ha), (thn_zero a ha).2.2.1, Gr.turn_zero hr]
end Go.Proofs.YthjgldjjplcncabDoor.Grd
