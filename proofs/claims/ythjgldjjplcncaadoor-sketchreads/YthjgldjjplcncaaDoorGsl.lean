/-
  The program's onward and isReached, of a right grid.
-/
import Derived.Test.YthjgldjjplcncaaDoorGrdf
import Derived.Test.YthjgldjjplcncaaDoorSlm
import Derived.Test.YthjgldjjplcncaaDoorGrdg
namespace Go.Proofs.YthjgldjjplcncaaDoor.Grd
open Go Go.Lib Go.RowKit

theorem Gr.st_shut {g : Gr} {i d : Nat} (h : bt g.B i = true) : g.st i d = none := by
  unfold Gr.st
  rw [if_neg (fun h2 => by rw [(Gr.opn_iff.1 h2).2] at h; cases h)]
end Go.Proofs.YthjgldjjplcncaaDoor.Grd
/-
  The program's isReached, and the closure that gathers a run.
-/
namespace Go.Proofs.YthjgldjjplcncaaDoor.Grd
open Go Go.Lib Go.RowKit

/-- A step leads to a cell just if one leads back from it. -/
theorem Gr.back_iff {g : Gr} (hW : 0 < g.W) {d b i : Nat} (hd : d < 2) (hb : b + (if d = 0 then 1 else g.W) = i) : (g.st b d).isSome = (g.st i (d + 2)).isSome := by
  have : d = 0 ∨ d = 1 := by omega
  rw [Bool.eq_iff_iff, Option.isSome_iff_exists, Option.isSome_iff_exists]
  constructor
  · rintro ⟨j, hj⟩
    refine ⟨b, ?_⟩
    have e : j = i := by
      have ho := Gr.st_opn hj
      rcases this with rfl | rfl
      · rw [Gr.st0 ho] at hj
        obtain ⟨_, rfl⟩ := if_some hj
        simpa using hb
      · rw [Gr.st1 ho] at hj
        obtain ⟨_, rfl⟩ := if_some hj
        simpa using hb
    subst e
    have := Gr.st_back hW hj
    rwa [Nat.mod_eq_of_lt (by omega)] at this
  · rintro ⟨j, hj⟩
    have e : j = b := by
      have ho := Gr.st_opn hj
      rcases this with rfl | rfl
      · rw [Gr.st2 ho] at hj
        obtain ⟨_, rfl⟩ := if_some hj
        simp at hb
        omega
      · rw [Gr.st3 ho] at hj
        obtain ⟨_, rfl⟩ := if_some hj
        simp at hb
        omega
    subst e
    have h2 := Gr.st_back hW hj
    rw [show (d + 2 + 2) % 4 = d by omega] at h2
    exact ⟨i, h2⟩
theorem Gr.back_none {g : Gr} {d i : Nat} (hd : d < 2) (hb : i < (if d = 0 then 1 else g.W)) : g.st i (d + 2) = none := by
  have : d = 0 ∨ d = 1 := by omega
  by_cases ho : g.opn i = true
  · rcases this with rfl | rfl
    · simp at hb
      subst hb
      rw [Gr.st2 ho, if_neg (fun h => by have := h.1; simp at this)]
    · simp at hb
      rw [Gr.st3 ho, if_neg (fun h => by have := h.1; rw [Nat.div_eq_of_lt hb] at this; omega)]
  · unfold Gr.st; rw [if_neg ho]

end Go.Proofs.YthjgldjjplcncaaDoor.Grd
/-
  The closure that gathers a run.
-/
namespace Go.Proofs.YthjgldjjplcncaaDoor.Grd
open Go Go.Lib Go.RowKit

/-- What is left of a run behind a cell from which this step leads. -/
def Gr.rest (g : Gr) (d : Nat) (o : Option Nat) : List Nat := match o with | some j => g.run d j | none => []
def Gr.left (g : Gr) (o : Option Nat) : Nat := match o with | some j => g.n - j | none => 0
theorem Gr.run_rest {g : Gr} (hW : 0 < g.W) {d i : Nat} (hd : d < 2) : g.run d i = i :: g.rest d (g.st i d) := by
  cases h : g.st i d with
  | none => exact Gr.run_none h
  | some j => exact Gr.run_some hW hd h
theorem Gr.run_len256 {g : Gr} (hz : Sz g) (d i : Nat) : (g.run d i).length ≤ 257 := Nat.le_trans (g.run_len d i) (by have := hz.n_le.2; omega)

end Go.Proofs.YthjgldjjplcncaaDoor.Grd
/-
  A list of slots in memory of the call's own.
-/
namespace Go.Proofs.YthjgldjjplcncaaDoor.Grd
open Go Go.Lib Go.RowKit

/-- The cells of a list of slots: the slots' lists lie elsewhere. -/
def slCells : List Sl → List Value → List Value
  | s :: r, u :: us => .int .i64 (s.num : Int) :: .bool s.dn :: u :: slCells r us
  | _, _ => []
theorem slCells_length : ∀ (L : List Sl) (us : List Value), us.length = L.length → (slCells L us).length = L.length * 3
  | [], [], _ => rfl
  | s :: r, u :: us, h => by
    simp only [slCells, List.length_cons] at h ⊢
    rw [slCells_length r us (by omega)]
    omega
theorem slCells_snoc (s : Sl) (u : Value) : ∀ (L : List Sl) (us : List Value), us.length = L.length → slCells (L ++ [s]) (us ++ [u]) = slCells L us ++ [.int .i64 (s.num : Int), .bool s.dn, u]
  | [], [], _ => rfl
  | _ :: r, _ :: us, h => by
    simp only [slCells, List.cons_append]
    rw [slCells_snoc s u r us (by simpa using h)]
theorem slCells_at : ∀ (L : List Sl) (us : List Value) (k : Nat) (s : Sl) (u : Value), L[k]? = some s → us[k]? = some u → (slCells L us)[3 * k]? = some (.int .i64 (s.num : Int)) ∧ (slCells L us)[3 * k + 1]? = some (.bool s.dn) ∧ (slCells L us)[3 * k + 2]? = some u
  | [], _, k, s, u, h, _ => by simp at h
  | _ :: _, [], k, s, u, _, h => by simp at h
  | x :: r, y :: us, 0, s, u, h, h2 => by
    simp only [List.getElem?_cons_zero, Option.some.injEq] at h h2
    subst h h2
    simp [slCells]
  | x :: r, y :: us, k + 1, s, u, h, h2 => by
    have := slCells_at r us k s u (by simpa using h) (by simpa using h2)
    simp only [slCells]
    refine ⟨?_, ?_, ?_⟩
    · rw [show 3 * (k + 1) = 3 * k + 1 + 1 + 1 by omega]; simpa using this.1
    · rw [show 3 * (k + 1) + 1 = 3 * k + 1 + 1 + 1 + 1 by omega]; simpa using this.2.1
    · rw [show 3 * (k + 1) + 2 = 3 * k + 2 + 1 + 1 + 1 by omega]; simpa using this.2.2
theorem row_keeps3 {W W' : World} {B n z : Nat} {e : TypeId} {v : Value} {xs : List Value} (h : W.ownsRow B e z v n xs) (hb : Below W.heap.size W W') : W'.ownsRow B e z v n xs := by
  rcases h with ⟨h1, h2 | ⟨g, cap, cur, e1, e2, e3, e4⟩⟩
  · exact ⟨h1, .inl h2⟩
  · exact ⟨h1, .inr ⟨g, cap, cur, e1, e2, (hb.block g (Array.getElem?_eq_some_iff.1 e3).1).trans e3, e4⟩⟩
theorem row_base3 {W : World} {B B' n z : Nat} {e : TypeId} {v : Value} {xs : List Value} (h : W.ownsRow B e z v n xs) (hb : B' ≤ B) : W.ownsRow B' e z v n xs := by
  rcases h with ⟨h1, h2 | ⟨g, cap, cur, e1, e2, e3, e4⟩⟩
  · exact ⟨h1, .inl h2⟩
  · exact ⟨h1, .inr ⟨g, cap, cur, e1, Nat.le_trans hb e2, e3, e4⟩⟩
theorem row_grown {W W' : World} {B n z : Nat} {e : TypeId} {v : Value} {xs : List Value} {b : Option Nat} (h : W.ownsRow B e z v n xs) (hg : W.grownBy W' b) (hne : ∀ j, v.ownBlock = some j → b ≠ some j) : W'.ownsRow B e z v n xs := by
  rcases h with ⟨h1, h2 | ⟨g, cap, cur, e1, e2, e3, e4⟩⟩
  · exact ⟨h1, .inl h2⟩
  · refine ⟨h1, .inr ⟨g, cap, cur, e1, e2, (hg.block g (Array.getElem?_eq_some_iff.1 e3).1 fun h => ?_).trans e3, e4⟩⟩
    subst e1
    exact hne g rfl h.symm
end Go.Proofs.YthjgldjjplcncaaDoor.Grd
