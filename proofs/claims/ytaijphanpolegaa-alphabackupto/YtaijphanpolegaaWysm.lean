/-
  In how many ways a text is letters, counted from its end: what the list of counts is.
-/
import Derived.Test.YtaijphanpolegaaSplm
namespace Go.Proofs.Ytaijphanpolegaa.Utf
open Go Go.Lib Go.RowKit

/-- The ways behind the letters of the first ranks that stand at a place. -/
def sumW (L : List ByteArray) (rk : List Nat) (t : ByteArray) (ws : List Nat) (p : Nat) : Nat → Nat
  | 0 => 0
  | r + 1 => sumW L rk t ws p r + if begins t (nmR L rk r) = true then ws.getD (p + (nmR L rk r).size) 0 else 0
theorem sumW_hit {L : List ByteArray} {rk : List Nat} {t : ByteArray} {ws : List Nat} {p r : Nat} (h : begins t (nmR L rk r) = true) : sumW L rk t ws p (r + 1) = sumW L rk t ws p r + ws.getD (p + (nmR L rk r).size) 0 := by
  rw [sumW, if_pos h]
theorem sumW_skip {L : List ByteArray} {rk : List Nat} {t : ByteArray} {ws : List Nat} {p : Nat} (a : Nat) : ∀ b, a ≤ b → (∀ j, a ≤ j → j < b → begins t (nmR L rk j) = false) → sumW L rk t ws p b = sumW L rk t ws p a := by
  intro b
  induction b with
  | zero => intro h _; rw [show a = 0 by omega]
  | succ b ih =>
    intro h hn
    by_cases e : a = b + 1
    · rw [e]
    · rw [sumW, hn b (by omega) (by omega), if_neg (by decide), Nat.add_zero]
      exact ih (by omega) fun j h1 h2 => hn j h1 (by omega)
theorem sumW_set {L : List ByteArray} {rk : List Nat} (hs : ∀ r, r < L.length → 1 ≤ (nmR L rk r).size) {t : ByteArray} {ws : List Nat} {p q v : Nat} (hq : q ≤ p) : ∀ r, r ≤ L.length → sumW L rk t (ws.set q v) p r = sumW L rk t ws p r := by
  intro r
  induction r with
  | zero => intro _; rfl
  | succ r ih =>
    intro h
    have := hs r (by omega)
    rw [sumW, sumW, ih (by omega)]
    congr 2
    rw [List.getD_eq_getElem?_getD, List.getD_eq_getElem?_getD, List.getElem?_set_ne (by omega)]
theorem sumW_le {L : List ByteArray} {rk : List Nat} {t : ByteArray} {ws : List Nat} {p : Nat} (h : ∀ x ∈ ws, x ≤ 100000) : ∀ r, sumW L rk t ws p r ≤ 100000 * r := by
  intro r
  induction r with
  | zero => exact Nat.le_refl _
  | succ r ih =>
    rw [sumW]
    have : (if begins t (nmR L rk r) = true then ws.getD (p + (nmR L rk r).size) 0 else 0) ≤ 100000 := by
      split
      · rw [List.getD_eq_getElem?_getD]
        cases hg : ws[p + (nmR L rk r).size]? with
        | none => exact Nat.zero_le _
        | some x => exact h x (List.mem_of_getElem? hg)
      · exact Nat.zero_le _
    omega

/-- A list of counts that is right from a place on. -/
structure WaysTo (L : List ByteArray) (rk : List Nat) (s : ByteArray) (m : Nat) (ws : List Nat) : Prop where
  len : ws.length = s.size + 1
  last : ws[s.size]? = some 1
  small : ∀ x ∈ ws, x ≤ 100000
  at' : ∀ p, m ≤ p → p < s.size → ws[p]? = some (min (sumW L rk (s.extract p s.size) ws p L.length) 100000)
theorem WaysTo.step {L : List ByteArray} {rk : List Nat} {s : ByteArray} {a : Nat} {ws : List Nat} (h : WaysTo L rk s (a + 1) ws) (hs : ∀ r, r < L.length → 1 ≤ (nmR L rk r).size) (ha : a < s.size) :
    WaysTo L rk s a (ws.set a (min (sumW L rk (s.extract a s.size) ws a L.length) 100000)) := by
  obtain ⟨h1, h2, h3, h4⟩ := h
  refine ⟨by rw [List.length_set]; exact h1, by rw [List.getElem?_set_ne (by omega)]; exact h2, fun x hx => ?_, fun p hp hps => ?_⟩
  · rcases List.mem_or_eq_of_mem_set hx with h | h
    · exact h3 x h
    · omega
  · rw [sumW_set hs hp L.length (Nat.le_refl _)]
    by_cases e : p = a
    · subst e
      rw [List.getElem?_set_self (by omega)]
    · rw [List.getElem?_set_ne (by omega)]
      exact h4 p (by omega) hps
theorem WaysTo.start (L : List ByteArray) (rk : List Nat) (s : ByteArray) : WaysTo L rk s s.size ((List.replicate (s.size + 1) 0).set s.size 1) := by
  refine ⟨by simp, by rw [List.getElem?_set_self (by simp)], fun x hx => ?_, fun p hp hps => by omega⟩
  rcases List.mem_or_eq_of_mem_set hx with h | h
  · have := List.eq_of_mem_replicate h
    omega
  · omega
/-- Counts as cells. -/
def w32 (ws : List Nat) : List Value := ws.map fun r : Nat => Value.int .i32 (r : Int)
theorem w32_set (ws : List Nat) (i v : Nat) : w32 (ws.set i v) = (w32 ws).set i (.int .i32 (v : Int)) := by unfold w32; rw [List.map_set]
theorem w32_len (ws : List Nat) : (w32 ws).length = ws.length := by simp [w32]
end Go.Proofs.Ytaijphanpolegaa.Utf
