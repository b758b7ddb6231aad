/-
  Cells under turns (layer 6), as mathematics: a cell's place, where a turn takes it, the group, and that cells and bars go with it.
-/
import Derived.Test.YthjgldjjplcncabDoorTrnm
namespace Go.Proofs.YthjgldjjplcncabDoor.Grd

/-- A cell of a grid of h rows and w columns. -/
structure Pl where
  h : Nat
  w : Nat
  r : Nat
  c : Nat
theorem Pl.ext {P Q : Pl} (h1 : P.h = Q.h) (h2 : P.w = Q.w) (h3 : P.r = Q.r) (h4 : P.c = Q.c) : P = Q := by
  cases P
  cases Q
  simp only at h1 h2 h3 h4
  subst h1 h2 h3 h4
  rfl
def Pl.In (P : Pl) : Prop := P.r < P.h ∧ P.c < P.w
def Pl.q (P : Pl) : Pl := ⟨P.w, P.h, P.c, P.h - 1 - P.r⟩
def Pl.m (P : Pl) : Pl := ⟨P.h, P.w, P.r, P.w - 1 - P.c⟩
theorem Pl.in_q {P : Pl} (hP : P.In) : P.q.In := by unfold Pl.In Pl.q at *; dsimp only; omega
theorem Pl.in_m {P : Pl} (hP : P.In) : P.m.In := by unfold Pl.In Pl.m at *; dsimp only; omega
theorem Pl.q4 {P : Pl} (hP : P.In) : P.q.q.q.q = P := by
  unfold Pl.In at hP
  unfold Pl.q
  exact Pl.ext rfl rfl (by dsimp only; omega) (by dsimp only; omega)
theorem Pl.m_m {P : Pl} (hP : P.In) : P.m.m = P := by
  unfold Pl.In at hP
  unfold Pl.m
  exact Pl.ext rfl rfl rfl (by dsimp only; omega)
theorem Pl.q_m_q {P : Pl} (hP : P.In) : P.q.m.q = P.m := by
  unfold Pl.In at hP
  unfold Pl.q Pl.m
  exact Pl.ext rfl rfl (by dsimp only; omega) rfl
def Pl.qs (P : Pl) : Nat → Pl
  | 0 => P
  | n + 1 => (P.qs n).q
def Pl.turn (P : Pl) (k : Nat) : Pl := (if 3 < k then P.m else P).qs (k % 4)
theorem Pl.in_qs {P : Pl} (hP : P.In) : ∀ n, (P.qs n).In
  | 0 => hP
  | n + 1 => Pl.in_q (Pl.in_qs hP n)
theorem Pl.in_mm {P : Pl} (hP : P.In) (k : Nat) : (if 3 < k then P.m else P).In := by
  by_cases h : 3 < k
  · rw [if_pos h]; exact Pl.in_m hP
  · rw [if_neg h]; exact hP
theorem Pl.in_turn {P : Pl} (hP : P.In) (k : Nat) : (P.turn k).In := Pl.in_qs (Pl.in_mm hP k) _
theorem Pl.qs_qs (P : Pl) (a : Nat) : ∀ b, (P.qs a).qs b = P.qs (a + b)
  | 0 => rfl
  | b + 1 => by
    show ((P.qs a).qs b).q = (P.qs (a + b)).q
    rw [Pl.qs_qs P a b]
theorem Pl.qs4 {P : Pl} (hP : P.In) (n : Nat) : P.qs (n + 4) = P.qs n := by
  show (P.qs n).q.q.q.q = _
  exact Pl.q4 (Pl.in_qs hP n)
theorem Pl.qs_mod {P : Pl} (hP : P.In) : ∀ n, P.qs n = P.qs (n % 4)
  | 0 => rfl
  | 1 => rfl
  | 2 => rfl
  | 3 => rfl
  | n + 4 => by rw [Pl.qs4 hP, Pl.qs_mod hP n, Nat.add_mod_right]
theorem Pl.qs_m {P : Pl} (hP : P.In) : ∀ n, n ≤ 4 → (P.qs n).m = P.m.qs (4 - n)
  | 0, _ => by rw [show 4 - 0 = 0 + 4 from rfl, Pl.qs4 (Pl.in_m hP)]; rfl
  | n + 1, h => by
    have ih := Pl.qs_m hP n (by omega)
    have e : (P.qs (n + 1)).m.q = (P.m.qs (4 - (n + 1))).q := by
      show ((P.qs n).q).m.q = P.m.qs (4 - (n + 1) + 1)
      rw [Pl.q_m_q (Pl.in_qs hP n), ih]
      congr 1
      omega
    have h3 := congrArg (fun X : Pl => X.q.q.q) e
    rw [Pl.q4 (Pl.in_m (Pl.in_qs hP _)), Pl.q4 (Pl.in_qs (Pl.in_m hP) _)] at h3
    exact h3
theorem Pl.turn_turn {P : Pl} (hP : P.In) {a b : Nat} (ha : a < 8) (hb : b < 8) : (P.turn a).turn b = P.turn (thn a b) := by
  have hm := Pl.in_mm hP a
  have hl := thn_lt a ha b hb
  by_cases h : 3 < b
  · have et : thn a b = (b % 4 + 4 - a % 4) % 4 + (a / 4 + 1) % 2 * 4 := by unfold thn; rw [if_neg (by omega)]
    have e1 : (P.turn a).turn b = (if 3 < a then P.m else P).m.qs (4 - a % 4 + b % 4) := by
      unfold Pl.turn
      rw [if_pos h, Pl.qs_m hm _ (by omega), Pl.qs_qs]
    have e2 : (if 3 < a then P.m else P).m = (if 3 < thn a b then P.m else P) := by
      by_cases h4 : 3 < a
      · have hn : ¬ 3 < thn a b := by omega
        rw [if_pos h4, if_neg hn, Pl.m_m hP]
      · have hn : 3 < thn a b := by omega
        rw [if_neg h4, if_pos hn]
    have e3 : (4 - a % 4 + b % 4) % 4 = thn a b % 4 := by omega
    rw [e1, Pl.qs_mod (Pl.in_m hm), e3, e2]
    rfl
  · have et : thn a b = (a % 4 + b) % 4 + a / 4 * 4 := by unfold thn; rw [if_pos (by omega)]
    have e1 : (P.turn a).turn b = (if 3 < a then P.m else P).qs (a % 4 + b % 4) := by
      unfold Pl.turn
      rw [if_neg h, Pl.qs_qs]
    have e2 : (if 3 < a then P.m else P) = (if 3 < thn a b then P.m else P) := by
      by_cases h4 : 3 < a
      · have hn : 3 < thn a b := by omega
        rw [if_pos h4, if_pos hn]
      · have hn : ¬ 3 < thn a b := by omega
        rw [if_neg h4, if_neg hn]
    have e3 : (a % 4 + b % 4) % 4 = thn a b % 4 := by omega
    rw [e1, Pl.qs_mod hm, e3, e2]
    rfl
theorem Pl.turn_back {P : Pl} (hP : P.In) {a : Nat} (ha : a < 8) : (P.turn a).turn (bck a) = P := by
  rw [Pl.turn_turn hP ha (bck_lt a ha), (thn_zero a ha).2.2.1]; rfl
/-- No two cells go to one. -/
theorem Pl.turn_inj {P Q : Pl} (hP : P.In) (hQ : Q.In) {a : Nat} (ha : a < 8) (h : P.turn a = Q.turn a) : P = Q := by
  rw [← Pl.turn_back hP ha, h, Pl.turn_back hQ ha]

/-- The sides go with them. -/
theorem Pl.qs_hw (P : Pl) : ∀ n, (P.qs n).h = (if n % 2 = 1 then P.w else P.h) ∧ (P.qs n).w = (if n % 2 = 1 then P.h else P.w)
  | 0 => ⟨rfl, rfl⟩
  | n + 1 => by
    obtain ⟨h1, h2⟩ := Pl.qs_hw P n
    show (P.qs n).w = _ ∧ (P.qs n).h = _
    rw [h1, h2]
    by_cases e : n % 2 = 1
    · have e' : ¬ (n + 1) % 2 = 1 := by omega
      simp only [e, e', if_true, if_false, and_self]
    · have e' : (n + 1) % 2 = 1 := by omega
      simp only [e, e', if_true, if_false, and_self]
theorem Pl.turn_hw (P : Pl) (k : Nat) : (P.turn k).h = (if k % 2 = 1 then P.w else P.h) ∧ (P.turn k).w = (if k % 2 = 1 then P.h else P.w) := by
  have e : k % 4 % 2 = k % 2 := by omega
  have h := Pl.qs_hw (if 3 < k then P.m else P) (k % 4)
  rw [e] at h
  unfold Pl.turn
  by_cases hk : 3 < k
  · simp only [if_pos hk] at h ⊢; exact h
  · simp only [if_neg hk] at h ⊢; exact h

/-- A cell of this grid. -/
def Fg.Of (G : Fg) (P : Pl) : Prop := P.h = G.H ∧ P.w = G.W ∧ P.r < G.H ∧ P.c < G.W
theorem Fg.Of.inn {G : Fg} {P : Pl} (h : G.Of P) : P.In := by obtain ⟨h1, h2, h3, h4⟩ := h; unfold Pl.In; omega
theorem Fg.of_q {G : Fg} {P : Pl} (h : G.Of P) : G.q.Of P.q := by
  obtain ⟨h1, h2, h3, h4⟩ := h
  refine ⟨h2, h1, ?_, ?_⟩
  · exact h4
  · show P.h - 1 - P.r < G.H
    omega
theorem Fg.of_m {G : Fg} {P : Pl} (h : G.Of P) : G.m.Of P.m := by
  obtain ⟨h1, h2, h3, h4⟩ := h
  refine ⟨h1, h2, h3, ?_⟩
  show P.w - 1 - P.c < G.W
  omega
/-- The block goes with the cell. -/
theorem Fg.b_q {G : Fg} {P : Pl} (h : G.Of P) : G.q.B P.q.r P.q.c = G.B P.r P.c := by
  obtain ⟨h1, h2, h3, h4⟩ := h
  exact band_t (show P.c < G.W ∧ P.h - 1 - P.r < G.H by omega) (two (show G.H - 1 - (P.h - 1 - P.r) = P.r by omega) rfl)
theorem Fg.b_m {G : Fg} {P : Pl} (h : G.Of P) : G.m.B P.m.r P.m.c = G.B P.r P.c := by
  obtain ⟨h1, h2, h3, h4⟩ := h
  exact band_t (show P.r < G.H ∧ P.w - 1 - P.c < G.W by omega) (two rfl (show G.W - 1 - (P.w - 1 - P.c) = P.c by omega))
/-- The bar between two cells side by side. -/
def Fg.bar (G : Fg) (P Q : Pl) : Bool := if P.r = Q.r then G.R P.r (min P.c Q.c) else G.D (min P.r Q.r) P.c
/-- Two cells stand side by side. -/
def Pl.By (P Q : Pl) : Prop := (P.r = Q.r ∧ (P.c + 1 = Q.c ∨ Q.c + 1 = P.c)) ∨ (P.c = Q.c ∧ (P.r + 1 = Q.r ∨ Q.r + 1 = P.r))
theorem Fg.by_q {G : Fg} {P Q : Pl} (h : G.Of P) (h' : G.Of Q) (hb : P.By Q) : P.q.By Q.q := by
  obtain ⟨h1, h2, h3, h4⟩ := h
  obtain ⟨k1, k2, k3, k4⟩ := h'
  show (P.c = Q.c ∧ (P.h - 1 - P.r + 1 = Q.h - 1 - Q.r ∨ Q.h - 1 - Q.r + 1 = P.h - 1 - P.r)) ∨ (P.h - 1 - P.r = Q.h - 1 - Q.r ∧ (P.c + 1 = Q.c ∨ Q.c + 1 = P.c))
  unfold Pl.By at hb
  omega
theorem Fg.by_m {G : Fg} {P Q : Pl} (h : G.Of P) (h' : G.Of Q) (hb : P.By Q) : P.m.By Q.m := by
  obtain ⟨h1, h2, h3, h4⟩ := h
  obtain ⟨k1, k2, k3, k4⟩ := h'
  show (P.r = Q.r ∧ (P.w - 1 - P.c + 1 = Q.w - 1 - Q.c ∨ Q.w - 1 - Q.c + 1 = P.w - 1 - P.c)) ∨ (P.w - 1 - P.c = Q.w - 1 - Q.c ∧ (P.r + 1 = Q.r ∨ Q.r + 1 = P.r))
  unfold Pl.By at hb
  omega
theorem Fg.bar_q {G : Fg} {P Q : Pl} (h : G.Of P) (h' : G.Of Q) (hb : P.By Q) : G.q.bar P.q Q.q = G.bar P Q := by
  obtain ⟨h1, h2, h3, h4⟩ := h
  obtain ⟨k1, k2, k3, k4⟩ := h'
  unfold Fg.bar
  rcases hb with ⟨e, hb⟩ | ⟨e, hb⟩
  · have n1 : ¬ P.q.r = Q.q.r := by show ¬ P.c = Q.c; omega
    rw [if_neg n1, if_pos e]
    exact band_t (show min P.c Q.c + 1 < G.W ∧ P.h - 1 - P.r < G.H by omega) (two (show G.H - 1 - (P.h - 1 - P.r) = P.r by omega) rfl)
  · have n1 : P.q.r = Q.q.r := e
    have n2 : ¬ P.r = Q.r := by omega
    rw [if_pos n1, if_neg n2]
    exact band_t (show P.c < G.W ∧ min (P.h - 1 - P.r) (Q.h - 1 - Q.r) + 1 < G.H by omega) (two (show G.H - 2 - min (P.h - 1 - P.r) (Q.h - 1 - Q.r) = min P.r Q.r by omega) rfl)
theorem Fg.bar_m {G : Fg} {P Q : Pl} (h : G.Of P) (h' : G.Of Q) (hb : P.By Q) : G.m.bar P.m Q.m = G.bar P Q := by
  obtain ⟨h1, h2, h3, h4⟩ := h
  obtain ⟨k1, k2, k3, k4⟩ := h'
  unfold Fg.bar
  rcases hb with ⟨e, hb⟩ | ⟨e, hb⟩
  · have n1 : P.m.r = Q.m.r := e
    rw [if_pos n1, if_pos e]
    exact band_t (show P.r < G.H ∧ min (P.w - 1 - P.c) (Q.w - 1 - Q.c) + 1 < G.W by omega) (two rfl (show G.W - 2 - min (P.w - 1 - P.c) (Q.w - 1 - Q.c) = min P.c Q.c by omega))
  · have n2 : ¬ P.r = Q.r := by omega
    have n1 : ¬ P.m.r = Q.m.r := n2
    rw [if_neg n1, if_neg n2]
    exact band_t (show min P.r Q.r + 1 < G.H ∧ P.w - 1 - P.c < G.W by omega) (two rfl (show G.W - 1 - (P.w - 1 - P.c) = P.c by omega))
/-- CELLS AND BARS GO WITH A TURN. -/
theorem Fg.go_qs {G : Fg} {P Q : Pl} (h : G.Of P) (h' : G.Of Q) : ∀ n, (G.qs n).Of (P.qs n) ∧ (G.qs n).Of (Q.qs n) ∧ (G.qs n).B (P.qs n).r (P.qs n).c = G.B P.r P.c ∧ (P.By Q → (P.qs n).By (Q.qs n) ∧ (G.qs n).bar (P.qs n) (Q.qs n) = G.bar P Q)
  | 0 => ⟨h, h', rfl, fun hb => ⟨hb, rfl⟩⟩
  | n + 1 => by
    obtain ⟨i1, i2, i3, i4⟩ := Fg.go_qs h h' n
    refine ⟨Fg.of_q i1, Fg.of_q i2, (Fg.b_q i1).trans i3, fun hb => ?_⟩
    obtain ⟨j1, j2⟩ := i4 hb
    exact ⟨Fg.by_q i1 i2 j1, (Fg.bar_q i1 i2 j1).trans j2⟩
theorem Fg.go_turn {G : Fg} {P Q : Pl} (h : G.Of P) (h' : G.Of Q) (k : Nat) : (G.turn k).Of (P.turn k) ∧ (G.turn k).Of (Q.turn k) ∧ (G.turn k).B (P.turn k).r (P.turn k).c = G.B P.r P.c ∧ (P.By Q → (P.turn k).By (Q.turn k) ∧ (G.turn k).bar (P.turn k) (Q.turn k) = G.bar P Q) := by
  unfold Fg.turn Pl.turn
  by_cases hk : 3 < k
  · simp only [if_pos hk]
    obtain ⟨i1, i2, i3, i4⟩ := Fg.go_qs (Fg.of_m h) (Fg.of_m h') (k % 4)
    refine ⟨i1, i2, i3.trans (Fg.b_m h), fun hb => ?_⟩
    obtain ⟨j1, j2⟩ := i4 (Fg.by_m h h' hb)
    exact ⟨j1, j2.trans (Fg.bar_m h h' hb)⟩
  · simp only [if_neg hk]
    exact Fg.go_qs h h' (k % 4)
end Go.Proofs.YthjgldjjplcncabDoor.Grd
