/-
  Symmetries (layer 6), as mathematics: how many there are, and how a list of turns is marked.
-/
import Derived.Test.YthjgldjjplcncabDoorTrntq
import Derived.Test.YthjgldjjplcncabDoorTrncq
namespace Go.Proofs.YthjgldjjplcncabDoor.Grd
open Go Go.Lib Go.RowKit

/-- The turns that leave the grid as it is, as Bools. -/
def Gr.syB (g : Gr) (k : Nat) : Bool := (g.turn k).same g
theorem Gr.syB_zero {g : Gr} (hr : g.Right) : g.syB 0 = true := by unfold Gr.syB; rw [Gr.turn_zero hr]; exact Gr.same_refl g
theorem Gr.syB_thn {g : Gr} {a b : Nat} (ha : a < 8) (hb : b < 8) (h1 : g.syB a = true) (h2 : g.syB b = true) : g.syB (thn a b) = true := by
  unfold Gr.syB at *
  rw [Gr.sym_thn ha hb (Gr.same_iff.1 h1) (Gr.same_iff.1 h2)]
  exact Gr.same_refl g
theorem Gr.sy_count {g : Gr} (hr : g.Right) : (g.syK 8).length = 1 ∨ (g.syK 8).length = 2 ∨ (g.syK 8).length = 4 ∨ (g.syK 8).length = 8 := by
  have hl : g.syK 8 = (List.range 8).filter g.syB := rfl
  have e1 : ((List.range 8).filter g.syB).length = (((List.range 8).map g.syB).filter id).length := by
    rw [List.filter_map, List.length_map]; rfl
  have hb : ∀ a, a < 8 → bt ((List.range 8).map g.syB) a = g.syB a := fun a ha => bt_map ha
  have e2 : (List.range 8).map g.syB = [true, g.syB 1, g.syB 2, g.syB 3, g.syB 4, g.syB 5, g.syB 6, g.syB 7] := by
    rw [← Gr.syB_zero hr]; rfl
  have hc : closedL ((List.range 8).map g.syB) = true := by
    unfold closedL
    rw [List.all_eq_true]
    intro a ha
    rw [List.all_eq_true]
    intro b hb'
    have ha8 := List.mem_range.1 ha
    have hb8 := List.mem_range.1 hb'
    rw [hb a ha8, hb b hb8, hb _ (thn_lt a ha8 b hb8)]
    cases h1 : g.syB a with
    | false => rfl
    | true =>
      cases h2 : g.syB b with
      | false => rfl
      | true => rw [Gr.syB_thn ha8 hb8 h1 h2]; rfl
  rw [e2] at hc
  have := closed_count _ _ _ _ _ _ _ hc
  rw [hl, e1, e2]
  exact this
/-- The Bools of the first m of a list. -/
def marks (L : List Nat) (m : Nat) : List Bool := (List.range 8).map fun j => decide (j ∈ L.take m)
theorem marks_len (L : List Nat) (m : Nat) : (marks L m).length = 8 := by simp [marks]
theorem marks_at (L : List Nat) (m : Nat) {j : Nat} (hj : j < 8) : bt (marks L m) j = decide (j ∈ L.take m) := bt_map hj
theorem marks_set {L : List Nat} {m k : Nat} (hm : L[m]? = some k) : (marks L m).set k true = marks L (m + 1) := by
  apply List.ext_getElem
  · simp [marks]
  · intro i h1 h2
    have h8 : i < 8 := by simpa [marks] using h1
    rw [List.getElem_set]
    have e : L.take (m + 1) = L.take m ++ [k] := by
      rw [List.take_add_one, hm]; rfl
    by_cases hk : k = i
    · subst hk
      rw [if_pos rfl]
      simp [marks, e]
    · rw [if_neg hk]
      have hk' : ¬ i = k := fun h => hk h.symm
      simp [marks, e, hk']
theorem Gr.syK_nodup (g : Gr) : (g.syK 8).Nodup := List.Nodup.sublist List.filter_sublist List.nodup_range
theorem Gr.syK_new {g : Gr} {m k : Nat} (h : (g.syK 8)[m]? = some k) : k < 8 ∧ bt (marks (g.syK 8) m) k = false := by
  have hk : k ∈ g.syK 8 := List.mem_of_getElem? h
  have hk8 : k < 8 := List.mem_range.1 (List.mem_filter.1 hk).1
  refine ⟨hk8, ?_⟩
  rw [marks_at _ _ hk8]
  apply decide_eq_false
  intro hm
  obtain ⟨j, hj, e⟩ := List.mem_take_iff_getElem.1 hm
  have hm' := (List.getElem?_eq_some_iff.1 h)
  obtain ⟨hl, e2⟩ := hm'
  have hlt : j < m := by omega
  have hp := List.pairwise_iff_getElem.1 g.syK_nodup j m (by omega) hl hlt
  exact hp (by rw [e, e2])
theorem Gr.syK_marks {g : Gr} {j : Nat} (hj : j < 8) : bt (marks (g.syK 8) (g.syK 8).length) j = g.syB j := by
  rw [marks_at _ _ hj, List.take_length]
  apply Bool.eq_iff_iff.2
  rw [decide_eq_true_iff]
  constructor
  · intro h; exact (List.mem_filter.1 h).2
  · intro h; exact List.mem_filter.2 ⟨List.mem_range.2 hj, h⟩
end Go.Proofs.YthjgldjjplcncabDoor.Grd
