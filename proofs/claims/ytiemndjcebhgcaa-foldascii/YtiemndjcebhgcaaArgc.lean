/-
  A slice of bytes that came in, in the first form: its numbers, its cells, its length by the bytes that a slice may take.
-/
import Derived.Test.YtiemndjcebhgcaaRows
import Derived.ProofKit
import Derived.OpenShut
import Derived.Carry
import Derived.Lib.Walk
import Derived.SizedLaws
namespace Go.Proofs.Ytiemndjcebhgcaa.Utf
open Go Go.Lib Go.RowKit Go.ChangeShapes Go.WideShapes Go.ChangeAt

theorem laidOut : laidOutB Try.prog = true := by kernel_rfl
theorem cells5 : Try.prog.cellsOf 5 = 1 := by kernel_rfl
theorem bytes5 : Try.prog.bytesOf 5 = 1 := by kernel_rfl
theorem cell_lt {W : World} {b off : Nat} {v : Value} (h : W.cell? ⟨b, off, none⟩ = some v) : b < W.heap.size := by
  by_cases hb : b < W.heap.size
  · exact hb
  · have e : W.heap[b]? = none := Array.getElem?_eq_none (by omega)
    simp [World.cell?, e] at h
theorem open_bytesArg1 {H : Type} {enc : TypeId × Value → H} {W : World} {base : Nat} {v : Value} {d : DataW H} {ps : List MemPlace} (hval : Value.okWide Try.prog W .any base 22 v) (h : DataW.Trod enc Try.prog W 0 (fun _ => true) true 22 v d ps) :
    ∃ (zs : List Int) (ao : Option Addr) (cap : Nat), v = .slice ao zs.length cap ∧ (zs = [] ∨ ∃ elems spare, d = .slice elems spare ∧ zs.length = elems.length) ∧ (∀ n ∈ zs, 0 ≤ n ∧ n ≤ 255) ∧
      ∀ i, i < zs.length → ∃ b off, ao = some ⟨b, off, none⟩ ∧ b < W.heap.size ∧ W.cell? ⟨b, off + i, none⟩ = some (.int .u8 (zs[i]?.getD 0)) := by
  obtain ⟨a1, len, cap, rfl⟩ := okWide_slice Try.underlying22 hval
  obtain ⟨fuel, hf⟩ := h
  rcases open_ints Try.underlying22 Try.underlying5 cells5 hf with ⟨hcs, hx⟩ | ⟨a, len', cap', zs, hcs, _, hl, hm, hz, hx, hcell, hwz⟩
  · simp [Value.cells] at hcs
    obtain ⟨rfl, rfl, rfl⟩ := hcs
    exact ⟨[], none, 0, rfl, .inl rfl, fun _ h => (by cases h), fun i h => by simp at h⟩
  · simp [Value.cells] at hcs
    obtain ⟨rfl, rfl, rfl⟩ := hcs
    simp only [Prod.mk.injEq] at hx
    obtain ⟨rfl, rfl⟩ := hx
    simp only [if_true] at hz
    have hlen : (zs.take len).length = len := by rw [List.length_take]; omega
    refine ⟨zs.take len, some a, cap, by rw [hlen], .inr ⟨_, _, rfl, by simp [lits]⟩, fun n hn => bounds_u8 (hwz n (List.mem_of_mem_take hn)), fun i hi => ?_⟩
    · rw [hlen] at hi
      have hci := hcell i (by omega)
      obtain ⟨ab, ao, spot⟩ := a
      have hspot : spot = none := by simpa [Addr.add] using World.cell?_spot (hcell 0 (by omega))
      subst hspot
      rw [Addr.add_lit] at hci
      refine ⟨ab, ao, rfl, cell_lt hci, ?_⟩
      rw [hci, List.getElem?_take, if_pos hi, List.getD_eq_getElem?_getD]
end Go.Proofs.Ytiemndjcebhgcaa.Utf
