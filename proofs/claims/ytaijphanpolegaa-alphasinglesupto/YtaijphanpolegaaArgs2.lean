/-
  A slice of strings that came in: its texts, its cells, and that a reading's bulk is at least its length and its texts' lengths. The same of a slice of numbers.
-/
import Derived.Test.YtaijphanpolegaaArgb0
import Derived.Test.YtaijphanpolegaaNew
import Derived.Test.YtaijphanpolegaaArgs0
import Derived.SliceStrings
namespace Go.Proofs.Ytaijphanpolegaa.Utf
open Go Go.Lib Go.RowKit Go.ChangeShapes Go.WideShapes Go.ChangeAt

theorem cells9 : Try.prog.cellsOf 9 = 1 := by kernel_rfl
theorem cells3 : Try.prog.cellsOf 3 = 1 := by kernel_rfl
theorem bulk_str {H : Type} (l : List ByteArray) : ∀ s ∈ l, s.size ≤ Rows.uptoBulkAll (strs (H := H) l) := by
  induction l with
  | nil => intro s hs; cases hs
  | cons x r ih =>
    intro s hs
    simp only [strs, List.map_cons, Rows.uptoBulkAll, Rows.uptoBulk] at *
    rcases List.mem_cons.1 hs with rfl | h
    · have : s.data.toList.length = s.size := Array.length_toList
      omega
    · have := ih s h
      omega
theorem open_strArg {H : Type} {enc : TypeId × Value → H} {W : World} {base : Nat} {v : Value} {d : DataW H} {ps : List MemPlace} (hval : Value.okWide Try.prog W .any base 22 v) (h : DataW.Trod enc Try.prog W 0 (fun _ => true) true 22 v d ps) :
    ∃ (L : List ByteArray) (ao : Option Addr) (cap : Nat), v = .slice ao L.length cap ∧ L.length ≤ Rows.uptoBulk d ∧ (∀ s ∈ L, s.size ≤ Rows.uptoBulk d) ∧ L.length ≤ cap ∧ (ao = none → cap = 0) ∧ ReadsO W ao (L.map Value.string) := by
  obtain ⟨a1, len, cap, rfl⟩ := okWide_slice Try.underlying22 hval
  obtain ⟨fuel, hf⟩ := h
  rcases open_strings Try.underlying22 Try.underlying9 cells9 hf with ⟨hcs, hx⟩ | ⟨a, len', cap', ss, hcs, _, hl, hm, hz, hx, hcell, hws⟩
  · simp [Value.cells] at hcs
    obtain ⟨rfl, rfl, rfl⟩ := hcs
    exact ⟨[], none, 0, rfl, Nat.zero_le _, fun _ h => (by cases h), Nat.le_refl _, fun _ => rfl, fun j hj => by simp at hj⟩
  · simp [Value.cells] at hcs
    obtain ⟨rfl, rfl, rfl⟩ := hcs
    simp only [Prod.mk.injEq] at hx
    obtain ⟨rfl, rfl⟩ := hx
    simp only [if_true] at hz
    have hlen : (ss.take len).length = len := by rw [List.length_take]; omega
    refine ⟨ss.take len, some a, cap, by rw [hlen], ?_, fun s hs => ?_, by omega, fun h => (by cases h), fun j hj => ?_⟩
    · have := bulk_len (H := H) (strs (ss.take len))
      simp only [strs, List.length_map] at this
      simp only [Rows.uptoBulk, strs]
      omega
    · have := bulk_str (H := H) (ss.take len) s hs
      simp only [Rows.uptoBulk]
      omega
    · rw [List.length_map, hlen] at hj
      have hci := hcell j (by omega)
      obtain ⟨ab, ao, spot⟩ := a
      have hspot : spot = none := by simpa [Addr.add] using World.cell?_spot (hcell 0 (by omega))
      subst hspot
      rw [Addr.add_lit] at hci
      refine ⟨ab, ao, rfl, cell_lt hci, ?_⟩
      rw [hci, List.getElem_map, List.getElem_take, List.getD_eq_getElem?_getD, List.getElem?_eq_getElem (by omega)]
      rfl
theorem open_intArg {H : Type} {enc : TypeId × Value → H} {W : World} {base : Nat} {v : Value} {d : DataW H} {ps : List MemPlace} (hval : Value.okWide Try.prog W .any base 37 v) (h : DataW.Trod enc Try.prog W 0 (fun _ => true) true 37 v d ps) :
    ∃ (zs : List Int) (ao : Option Addr) (cap : Nat), v = .slice ao zs.length cap ∧ zs.length ≤ Rows.uptoBulk d ∧ (∀ n ∈ zs, -9223372036854775808 ≤ n ∧ n ≤ 9223372036854775807) ∧ ReadsO W ao (ints zs) := by
  obtain ⟨a1, len, cap, rfl⟩ := okWide_slice Try.underlying37 hval
  obtain ⟨fuel, hf⟩ := h
  rcases open_ints Try.underlying37 Try.underlying3 cells3 hf with ⟨hcs, hx⟩ | ⟨a, len', cap', zs, hcs, _, hl, hm, hz, hx, hcell, hwz⟩
  · simp [Value.cells] at hcs
    obtain ⟨rfl, rfl, rfl⟩ := hcs
    exact ⟨[], none, 0, rfl, Nat.zero_le _, fun _ h => (by cases h), fun j hj => by simp [ints] at hj⟩
  · simp [Value.cells] at hcs
    obtain ⟨rfl, rfl, rfl⟩ := hcs
    simp only [Prod.mk.injEq] at hx
    obtain ⟨rfl, rfl⟩ := hx
    simp only [if_true] at hz
    have hlen : (zs.take len).length = len := by rw [List.length_take]; omega
    refine ⟨zs.take len, some a, cap, by rw [hlen], ?_, fun n hn => bounds_i64 (hwz n (List.mem_of_mem_take hn)), fun j hj => ?_⟩
    · have := bulk_len (H := H) (lits .i64 (zs.take len))
      simp only [lits, List.length_map] at this
      simp only [Rows.uptoBulk, lits]
      omega
    · rw [ints, List.length_map, hlen] at hj
      have hci := hcell j (by omega)
      obtain ⟨ab, ao, spot⟩ := a
      have hspot : spot = none := by simpa [Addr.add] using World.cell?_spot (hcell 0 (by omega))
      subst hspot
      rw [Addr.add_lit] at hci
      refine ⟨ab, ao, rfl, cell_lt hci, ?_⟩
      rw [hci, show (ints (zs.take len))[j]'(by rw [ints, List.length_map]; omega) = Value.int .i64 ((zs.take len)[j]'(by omega)) by simp [ints], List.getElem_take, List.getD_eq_getElem?_getD, List.getElem?_eq_getElem (by omega)]
      rfl
end Go.Proofs.Ytaijphanpolegaa.Utf
