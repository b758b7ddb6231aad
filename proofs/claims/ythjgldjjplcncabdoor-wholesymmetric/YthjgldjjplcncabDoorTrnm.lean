/-
  Turns of grids (layer 6), as mathematics: a grid as functions of row and column, the quarter, the mirror, their group.
-/
import Derived.Test.YthjgldjjplcncabDoorGrdm
namespace Go.Proofs.YthjgldjjplcncabDoor.Grd

/-- A grid as functions of row and column. -/
structure Fg where
  H : Nat
  W : Nat
  B : Nat → Nat → Bool
  R : Nat → Nat → Bool
  D : Nat → Nat → Bool
theorem Fg.ext {F G : Fg} (h1 : F.H = G.H) (h2 : F.W = G.W) (h3 : F.B = G.B) (h4 : F.R = G.R) (h5 : F.D = G.D) : F = G := by
  cases F
  cases G
  simp only at h1 h2 h3 h4 h5
  subst h1 h2 h3 h4 h5
  rfl
/-- Nothing stands outside, and no bar at the edge. -/
structure Fg.Norm (G : Fg) : Prop where
  b : ∀ r c, G.B r c = true → r < G.H ∧ c < G.W
  r : ∀ r c, G.R r c = true → r < G.H ∧ c + 1 < G.W
  d : ∀ r c, G.D r c = true → r + 1 < G.H ∧ c < G.W
/-- A quarter. -/
def Fg.q (G : Fg) : Fg where
  H := G.W
  W := G.H
  B := fun r c => decide (r < G.W ∧ c < G.H) && G.B (G.H - 1 - c) r
  R := fun r c => decide (r < G.W ∧ c + 1 < G.H) && G.D (G.H - 2 - c) r
  D := fun r c => decide (r + 1 < G.W ∧ c < G.H) && G.R (G.H - 1 - c) r
/-- Mirrored. -/
def Fg.m (G : Fg) : Fg where
  H := G.H
  W := G.W
  B := fun r c => decide (r < G.H ∧ c < G.W) && G.B r (G.W - 1 - c)
  R := fun r c => decide (r < G.H ∧ c + 1 < G.W) && G.R r (G.W - 2 - c)
  D := fun r c => decide (r + 1 < G.H ∧ c < G.W) && G.D r (G.W - 1 - c)
/-- Two quarters. -/
def Fg.qq (G : Fg) : Fg where
  H := G.H
  W := G.W
  B := fun r c => decide (r < G.H ∧ c < G.W) && G.B (G.H - 1 - r) (G.W - 1 - c)
  R := fun r c => decide (r < G.H ∧ c + 1 < G.W) && G.R (G.H - 1 - r) (G.W - 2 - c)
  D := fun r c => decide (r + 1 < G.H ∧ c < G.W) && G.D (G.H - 2 - r) (G.W - 1 - c)

theorem band {p q : Prop} [Decidable p] [Decidable q] {x y : Bool} (h1 : p ↔ q) (h2 : p → x = y) : (decide p && x) = (decide q && y) := by
  by_cases h : p
  · have h' := h1.1 h
    simp [h, h', h2 h]
  · have h' : ¬ q := fun e => h (h1.2 e)
    simp [h, h']
theorem band_t {p : Prop} [Decidable p] {x y : Bool} (h1 : p) (h2 : x = y) : (decide p && x) = y := by simp [h1, h2]
theorem band_n {p : Prop} [Decidable p] {x y : Bool} (h1 : y = true → p) (h2 : p → x = y) : (decide p && x) = y := by
  by_cases h : p
  · simp [h, h2 h]
  · cases hy : y with
    | true => exact absurd (h1 hy) h
    | false => simp [h]
theorem two {f : Nat → Nat → Bool} {a b c d : Nat} (h1 : a = c) (h2 : b = d) : f a b = f c d := by rw [h1, h2]

theorem Fg.q_q (G : Fg) : G.q.q = G.qq := by
  refine Fg.ext rfl rfl ?_ ?_ ?_
  · funext r c
    exact band Iff.rfl fun h => band_t (show _ ∧ _ by simp only [Fg.q] at *; omega) (two (by first | rfl | (simp only [Fg.q] at *; omega)) (by first | rfl | (simp only [Fg.q] at *; omega)))
  · funext r c
    exact band Iff.rfl fun h => band_t (show _ ∧ _ by simp only [Fg.q] at *; omega) (two (by first | rfl | (simp only [Fg.q] at *; omega)) (by first | rfl | (simp only [Fg.q] at *; omega)))
  · funext r c
    exact band Iff.rfl fun h => band_t (show _ ∧ _ by simp only [Fg.q] at *; omega) (two (by first | rfl | (simp only [Fg.q] at *; omega)) (by first | rfl | (simp only [Fg.q] at *; omega)))
theorem Fg.norm_q {G : Fg} : G.q.Norm := by
  constructor <;> intro r c h <;> simp [Fg.q] at h ⊢ <;> omega
theorem Fg.norm_m {G : Fg} : G.m.Norm := by
  constructor <;> intro r c h <;> simp [Fg.m] at h ⊢ <;> omega
theorem Fg.qq_qq {G : Fg} (hG : G.Norm) : G.qq.qq = G := by
  refine Fg.ext rfl rfl ?_ ?_ ?_
  · funext r c
    exact band_n (fun h => hG.b r c h) fun h => band_t (by simp only [Fg.qq] at *; omega) (two (by simp only [Fg.qq] at *; omega) (by simp only [Fg.qq] at *; omega))
  · funext r c
    exact band_n (fun h => hG.r r c h) fun h => band_t (by simp only [Fg.qq] at *; omega) (two (by simp only [Fg.qq] at *; omega) (by simp only [Fg.qq] at *; omega))
  · funext r c
    exact band_n (fun h => hG.d r c h) fun h => band_t (by simp only [Fg.qq] at *; omega) (two (by simp only [Fg.qq] at *; omega) (by simp only [Fg.qq] at *; omega))
theorem Fg.m_m {G : Fg} (hG : G.Norm) : G.m.m = G := by
  refine Fg.ext rfl rfl ?_ ?_ ?_
  · funext r c
    exact band_n (fun h => hG.b r c h) fun h => band_t (by simp only [Fg.m] at *; omega) (two rfl (by simp only [Fg.m] at *; omega))
  · funext r c
    exact band_n (fun h => hG.r r c h) fun h => band_t (by simp only [Fg.m] at *; omega) (two rfl (by simp only [Fg.m] at *; omega))
  · funext r c
    exact band_n (fun h => hG.d r c h) fun h => band_t (by simp only [Fg.m] at *; omega) (two rfl (by simp only [Fg.m] at *; omega))
/-- A quarter behind a mirror behind a quarter is the mirror. -/
theorem Fg.q_m_q (G : Fg) : G.q.m.q = G.m := by
  refine Fg.ext rfl rfl ?_ ?_ ?_
  · funext r c
    exact band Iff.rfl fun h => band_t (by simp only [Fg.m, Fg.q] at *; omega) (band_t (by simp only [Fg.m, Fg.q] at *; omega) (two (by simp only [Fg.m, Fg.q] at *; omega) (by simp only [Fg.m, Fg.q] at *)))
  · funext r c
    exact band Iff.rfl fun h => band_t (by simp only [Fg.m, Fg.q] at *; omega) (band_t (by simp only [Fg.m, Fg.q] at *; omega) (two (by simp only [Fg.m, Fg.q] at *; omega) (by simp only [Fg.m, Fg.q] at *)))
  · funext r c
    exact band Iff.rfl fun h => band_t (by simp only [Fg.m, Fg.q] at *; omega) (band_t (by simp only [Fg.m, Fg.q] at *; omega) (two (by simp only [Fg.m, Fg.q] at *; omega) (by simp only [Fg.m, Fg.q] at *)))
theorem Fg.q4 {G : Fg} (hG : G.Norm) : G.q.q.q.q = G := by
  rw [Fg.q_q G, Fg.q_q, Fg.qq_qq hG]

/-- Quarters, some times. -/
def Fg.qs (G : Fg) : Nat → Fg
  | 0 => G
  | n + 1 => (G.qs n).q
/-- A turn by number: mirrored from 4 on, then quarters. -/
def Fg.turn (G : Fg) (k : Nat) : Fg := (if 3 < k then G.m else G).qs (k % 4)
/-- The turn that does both. -/
def thn (a b : Nat) : Nat := if b < 4 then (a % 4 + b) % 4 + a / 4 * 4 else (b % 4 + 4 - a % 4) % 4 + (a / 4 + 1) % 2 * 4
/-- The turn back. -/
def bck (a : Nat) : Nat := if a < 4 then (4 - a) % 4 else a
theorem thn_lt : ∀ a, a < 8 → ∀ b, b < 8 → thn a b < 8 := by decide
theorem bck_lt : ∀ a, a < 8 → bck a < 8 := by decide
theorem thn_assoc : ∀ a, a < 8 → ∀ b, b < 8 → ∀ c, c < 8 → thn (thn a b) c = thn a (thn b c) := by decide
theorem thn_zero : ∀ a, a < 8 → thn a 0 = a ∧ thn 0 a = a ∧ thn a (bck a) = 0 ∧ thn (bck a) a = 0 := by decide
theorem thn_back : ∀ a, a < 8 → ∀ b, b < 8 → (thn a b = 0 ↔ b = bck a) := by decide
theorem Fg.norm_qs {G : Fg} (hG : G.Norm) : ∀ n, (G.qs n).Norm
  | 0 => hG
  | _ + 1 => Fg.norm_q
theorem Fg.norm_turn {G : Fg} (hG : G.Norm) (k : Nat) : (G.turn k).Norm := by
  unfold Fg.turn
  by_cases h : 3 < k
  · rw [if_pos h]; exact Fg.norm_qs Fg.norm_m _
  · rw [if_neg h]; exact Fg.norm_qs hG _
theorem Fg.qs_qs (G : Fg) (a : Nat) : ∀ b, (G.qs a).qs b = G.qs (a + b)
  | 0 => rfl
  | b + 1 => by
    show ((G.qs a).qs b).q = (G.qs (a + b)).q
    rw [Fg.qs_qs G a b]
theorem Fg.qs4 {G : Fg} (hG : G.Norm) (n : Nat) : G.qs (n + 4) = G.qs n := by
  show (G.qs n).q.q.q.q = _
  exact Fg.q4 (Fg.norm_qs hG n)
theorem Fg.qs_mod {G : Fg} (hG : G.Norm) : ∀ n, G.qs n = G.qs (n % 4)
  | 0 => rfl
  | 1 => rfl
  | 2 => rfl
  | 3 => rfl
  | n + 4 => by rw [Fg.qs4 hG, Fg.qs_mod hG n, Nat.add_mod_right]
/-- A mirror behind quarters: as many quarters back behind the mirror. -/
theorem Fg.qs_m {G : Fg} (hG : G.Norm) : ∀ n, n ≤ 4 → (G.qs n).m = G.m.qs (4 - n)
  | 0, _ => by rw [show 4 - 0 = 0 + 4 from rfl, Fg.qs4 Fg.norm_m]; rfl
  | n + 1, h => by
    have ih := Fg.qs_m hG n (by omega)
    have e : (G.qs (n + 1)).m.q = (G.m.qs (4 - (n + 1))).q := by
      show ((G.qs n).q).m.q = G.m.qs (4 - (n + 1) + 1)
      rw [Fg.q_m_q, ih]
      congr 1
      omega
    have h3 := congrArg (fun X : Fg => X.q.q.q) e
    rw [Fg.q4 Fg.norm_m, Fg.q4 (Fg.norm_qs Fg.norm_m _)] at h3
    exact h3
/-- TURNS ONE BEHIND THE OTHER ARE ONE. -/
theorem Fg.turn_turn {G : Fg} (hG : G.Norm) {a b : Nat} (ha : a < 8) (hb : b < 8) : (G.turn a).turn b = G.turn (thn a b) := by
  have hm : (if 3 < a then G.m else G).Norm := by
    by_cases h : 3 < a
    · rw [if_pos h]; exact Fg.norm_m
    · rw [if_neg h]; exact hG
  have hl := thn_lt a ha b hb
  by_cases h : 3 < b
  · have et : thn a b = (b % 4 + 4 - a % 4) % 4 + (a / 4 + 1) % 2 * 4 := by unfold thn; rw [if_neg (by omega)]
    have e1 : (G.turn a).turn b = (if 3 < a then G.m else G).m.qs (4 - a % 4 + b % 4) := by
      unfold Fg.turn
      rw [if_pos h, Fg.qs_m hm _ (by omega), Fg.qs_qs]
    have e2 : (if 3 < a then G.m else G).m = (if 3 < thn a b then G.m else G) := by
      by_cases h4 : 3 < a
      · have hn : ¬ 3 < thn a b := by omega
        rw [if_pos h4, if_neg hn, Fg.m_m hG]
      · have hn : 3 < thn a b := by omega
        rw [if_neg h4, if_pos hn]
    have e3 : (4 - a % 4 + b % 4) % 4 = thn a b % 4 := by omega
    rw [e1, Fg.qs_mod Fg.norm_m, e3, e2]
    rfl
  · have et : thn a b = (a % 4 + b) % 4 + a / 4 * 4 := by unfold thn; rw [if_pos (by omega)]
    have e1 : (G.turn a).turn b = (if 3 < a then G.m else G).qs (a % 4 + b % 4) := by
      unfold Fg.turn
      rw [if_neg h, Fg.qs_qs]
    have e2 : (if 3 < a then G.m else G) = (if 3 < thn a b then G.m else G) := by
      by_cases h4 : 3 < a
      · have hn : 3 < thn a b := by omega
        rw [if_pos h4, if_pos hn]
      · have hn : ¬ 3 < thn a b := by omega
        rw [if_neg h4, if_neg hn]
    have e3 : (a % 4 + b % 4) % 4 = thn a b % 4 := by omega
    rw [e1, Fg.qs_mod hm, e3, e2]
    rfl
theorem Fg.turn_zero (G : Fg) : G.turn 0 = G := rfl
theorem Fg.turn_back {G : Fg} (hG : G.Norm) {a : Nat} (ha : a < 8) : (G.turn a).turn (bck a) = G := by
  rw [Fg.turn_turn hG ha (bck_lt a ha), (thn_zero a ha).2.2.1]; rfl
end Go.Proofs.YthjgldjjplcncabDoor.Grd
