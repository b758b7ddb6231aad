/-
  The program's Check, Open, Count and Step of any grid.
-/
import Derived.Test.YthjgldjjplcncaaDoorGrde
namespace Go.Proofs.YthjgldjjplcncaaDoor.Grd
open Go Go.Lib Go.RowKit

theorem check_any (g : Gr) (p : Ad) (w : World) (hw : Wy w) (hR : RG w g p) :
    Calls Tryd.prog 10 #[gv g p] w fun e w' => e = .returned (.int .i64 (g.chk : Nat)) ∧ Below w.heap.size w w' := by
  by_cases h : g.sides
  · by_cases h' : g.sizes
    · exact check_loop g p w hw hR h h'
    · rw [Gr.chk_size h h']; exact check_size g p w h h'
  · rw [Gr.chk_side h]; exact check_side g p w h

/-- Is there an open cell of this number? -/
def Gr.opI (g : Gr) (i : Int) : Bool := decide g.ok && (decide (0 ≤ i ∧ i < (g.B.length : Int)) && !bt g.B i.toNat)
theorem Gr.chk_le (g : Gr) : g.chk ≤ 52 := by
  unfold Gr.chk
  by_cases h : g.sides
  · by_cases h2 : g.sizes
    · by_cases h3 : g.barredB = true <;> simp [h, h2, h3]
    · simp [h, h2]
  · simp [h]
theorem Gr.opI_iff {g : Gr} {i : Int} : g.opI i = true ↔ g.ok ∧ ∃ k : Nat, i = k ∧ g.opn k = true := by
  unfold Gr.opI
  constructor
  · intro h
    simp only [Bool.and_eq_true, decide_eq_true_eq] at h
    obtain ⟨h1, ⟨h2, h3⟩, h4⟩ := h
    obtain ⟨k, rfl⟩ := Int.eq_ofNat_of_zero_le h2
    refine ⟨h1, k, rfl, Gr.opn_iff.2 ⟨?_, by simpa using h4⟩⟩
    have := (Gr.right_of h1).bl
    omega
  · rintro ⟨h1, k, rfl, h⟩
    obtain ⟨h2, h3⟩ := Gr.opn_iff.1 h
    have := (Gr.right_of h1).bl
    simp [h1, h3]
    omega

/-- How many cells are open. -/
def Gr.cnt (g : Gr) : Nat := if g.ok then uns g.B else 0
theorem uns_take {l : List Bool} {k : Nat} (hk : k < l.length) : uns (l.take (k + 1)) = uns (l.take k) + (if bt l k then 0 else 1) := by
  rw [List.take_succ_eq_append_getElem hk, bt_in hk]
  unfold uns
  rw [List.filter_append, List.length_append]
  cases l[k] <;> rfl

/-- What Step answers, at any numbers. -/
def Gr.stI (g : Gr) (i way : Int) : Option Nat := if g.opI i = true ∧ 0 ≤ way ∧ way < 4 then g.st i.toNat way.toNat else none

end Go.Proofs.YthjgldjjplcncaaDoor.Grd
