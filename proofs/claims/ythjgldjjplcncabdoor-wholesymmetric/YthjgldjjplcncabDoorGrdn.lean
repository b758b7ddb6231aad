/-
  Of no program: the cell that lies one way of another, and whether both are open; bars; steps told by them.
-/
import Derived.Test.YthjgldjjplcncabDoorGrdm
namespace Go.Proofs.YthjgldjjplcncabDoor.Grd

/-- The cell that lies that way. -/
def Gr.nb (g : Gr) (i way : Nat) : Option Nat :=
  match way with
  | 0 => if i % g.W < g.W - 1 then some (i + 1) else none
  | 1 => if i / g.W < g.H - 1 then some (i + g.W) else none
  | 2 => if 0 < i % g.W then some (i - 1) else none
  | 3 => if 0 < i / g.W then some (i - g.W) else none
  | _ => none
/-- .. and both are open. -/
def Gr.bes (g : Gr) (i way : Nat) : Option Nat :=
  match g.nb i way with
  | some j => if bt g.B i || bt g.B j then none else some j
  | none => none
/-- A bar between two neighbours. -/
def Gr.bar (g : Gr) (i j way : Nat) : Bool := if way % 2 = 0 then bt g.R (min i j) else bt g.D (min i j)
def Gr.stp (g : Gr) (i way : Nat) : Option Nat :=
  match g.bes i way with
  | some j => if g.bar i j way then none else some j
  | none => none

theorem Gr.nb_lt {g : Gr} (hW : 0 < g.W) {i way j : Nat} (hi : i < g.n) (h : g.nb i way = some j) : j < g.n := by
  unfold Gr.nb at h
  match way, h with
  | 0, h => obtain ⟨hc, rfl⟩ := if_some h; exact right_lt hi hc
  | 1, h => obtain ⟨hc, rfl⟩ := if_some h; exact down_lt hc hW
  | 2, h => obtain ⟨hc, rfl⟩ := if_some h; unfold Gr.n at *; omega
  | 3, h => obtain ⟨hc, rfl⟩ := if_some h; unfold Gr.n at *; omega
  | way + 4, h => cases h
theorem Gr.bes_nb {g : Gr} {i way j : Nat} (h : g.bes i way = some j) : g.nb i way = some j ∧ bt g.B i = false ∧ bt g.B j = false := by
  unfold Gr.bes at h
  cases hn : g.nb i way with
  | none => rw [hn] at h; cases h
  | some k =>
    rw [hn] at h
    simp only at h
    by_cases hb : (bt g.B i || bt g.B k) = true
    · rw [if_pos hb] at h; cases h
    · rw [if_neg hb] at h
      obtain rfl := Option.some.inj h
      simpa using hb
theorem Gr.stp_bes {g : Gr} {i way j : Nat} (h : g.stp i way = some j) : g.bes i way = some j ∧ g.bar i j way = false := by
  unfold Gr.stp at h
  cases hn : g.bes i way with
  | none => rw [hn] at h; cases h
  | some k =>
    rw [hn] at h
    simp only at h
    by_cases hb : g.bar i k way = true
    · rw [if_pos hb] at h; cases h
    · rw [if_neg hb] at h
      obtain rfl := Option.some.inj h
      exact ⟨rfl, by simpa using hb⟩
theorem or_none {a b c : Bool} {j : Nat} (h : a = false) : (match (if (a || b) = true then none else some j) with | some k => if c = true then none else some k | none => none) = if c = false ∧ b = false then some j else none := by
  subst h
  cases b <;> cases c <;> simp
/-- A step from an open cell. -/
theorem Gr.st_stp {g : Gr} {i way : Nat} (ho : g.opn i = true) : g.st i way = g.stp i way := by
  obtain ⟨hi, hb⟩ := Gr.opn_iff.1 ho
  match way with
  | 0 =>
    rw [Gr.st0 ho]
    unfold Gr.stp Gr.bes Gr.nb
    by_cases hc : i % g.W < g.W - 1
    · simp only [hc, if_true, true_and]
      have e : g.bar i (i + 1) 0 = bt g.R i := by unfold Gr.bar; rw [if_pos rfl, Nat.min_eq_left (by omega)]
      cases hx : bt g.B (i + 1) <;> cases hy : bt g.R i <;> simp [hb, e, hy]
    · simp [hc]
  | 1 =>
    rw [Gr.st1 ho]
    unfold Gr.stp Gr.bes Gr.nb
    by_cases hc : i / g.W < g.H - 1
    · simp only [hc, if_true, true_and]
      have e : g.bar i (i + g.W) 1 = bt g.D i := by unfold Gr.bar; rw [if_neg (by decide), Nat.min_eq_left (by omega)]
      cases hx : bt g.B (i + g.W) <;> cases hy : bt g.D i <;> simp [hb, e, hy]
    · simp [hc]
  | 2 =>
    rw [Gr.st2 ho]
    unfold Gr.stp Gr.bes Gr.nb
    by_cases hc : 0 < i % g.W
    · simp only [hc, if_true, true_and]
      have e : g.bar i (i - 1) 2 = bt g.R (i - 1) := by unfold Gr.bar; rw [if_pos (by decide), Nat.min_eq_right (by omega)]
      cases hx : bt g.B (i - 1) <;> cases hy : bt g.R (i - 1) <;> simp [hb, e, hy]
    · simp [hc]
  | 3 =>
    rw [Gr.st3 ho]
    unfold Gr.stp Gr.bes Gr.nb
    by_cases hc : 0 < i / g.W
    · simp only [hc, if_true, true_and]
      have e : g.bar i (i - g.W) 3 = bt g.D (i - g.W) := by unfold Gr.bar; rw [if_neg (by decide), Nat.min_eq_right (by omega)]
      cases hx : bt g.B (i - g.W) <;> cases hy : bt g.D (i - g.W) <;> simp [hb, e, hy]
    · simp [hc]
  | way + 4 =>
    unfold Gr.st Gr.stp Gr.bes Gr.nb
    rw [if_pos ho]
    rfl
/-- A bar is wrong at i just where there is none beside it. -/
theorem Gr.badR_iff {g : Gr} (hW : 0 < g.W) {i : Nat} : g.badR i ↔ bt g.R i = true ∧ g.bes i 0 = none := by
  have hm := Nat.mod_lt i hW
  unfold Gr.badR Gr.bes Gr.nb
  by_cases hc : i % g.W < g.W - 1
  · have h2 : ¬ i % g.W = g.W - 1 := by omega
    cases hx : bt g.B (i + 1) <;> cases hy : bt g.B i <;> simp [hc, h2, hx]
  · have h2 : i % g.W = g.W - 1 := by omega
    simp [h2]
theorem Gr.badD_iff {g : Gr} {i : Nat} (hi : i < g.n) : g.badD i ↔ bt g.D i = true ∧ g.bes i 1 = none := by
  have hm := row_lt hi
  unfold Gr.badD Gr.bes Gr.nb
  by_cases hc : i / g.W < g.H - 1
  · have h2 : ¬ i / g.W = g.H - 1 := by omega
    cases hx : bt g.B (i + g.W) <;> cases hy : bt g.B i <;> simp [hc, h2, hx]
  · have h2 : i / g.W = g.H - 1 := by omega
    simp [h2]
end Go.Proofs.YthjgldjjplcncabDoor.Grd
