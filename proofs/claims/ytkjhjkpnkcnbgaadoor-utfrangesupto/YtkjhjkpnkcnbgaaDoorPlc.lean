/-
  The program's Places: the places of the text, rising, in a new list, for every text of up to 16777216 bytes.
-/
import Derived.Test.YtkjhjkpnkcnbgaaDoorProg
import Derived.Test.YtkjhjkpnkcnbgaaDoorCutm
import Derived.WalkKit
import Derived.Lib.Walk
import Derived.Lib.OthersKept
import Derived.WalkSmall
import Derived.Maps.AppendAt
import Derived.RangeFuncBox
import Derived.LoopTactic
namespace Go.Proofs.YtkjhjkpnkcnbgaaDoor.Utf
open Go Go.Lib Go.RowKit

theorem infoInt : (Tryd.prog.info? 3).map (fun i => (i.zero, i.size, i.bytes)) = some (some (.int .i64 0), 1, 8) := by kernel_rfl
/-- A list of places, as cells. -/
def plc (l : List (Nat × Nat)) : List Value := l.map fun x => Value.int .i64 (x.1 : Int)
theorem plc_snoc (l : List (Nat × Nat)) (x : Nat × Nat) : plc (l ++ [x]) = plc l ++ [Value.int .i64 (x.1 : Int)] := by simp [plc]
theorem plc_length (l : List (Nat × Nat)) : (plc l).length = l.length := by simp [plc]

set_option maxHeartbeats 1000000 in
theorem places_any (s : ByteArray) (w : World) (hs : s.size ≤ 16777216) :
    Calls Tryd.prog 13 #[.string s] w fun e w' => ∃ v, e = .returned v ∧ w'.ownsRow (w.heap.size + 1) 3 1 v (pairs s).length (plc (pairs s)) ∧ Below w.heap.size w w' := by
  obtain ⟨i0, hi, hz0, hz1, hz2⟩ := info_parts infoInt
  go_enter Tryd.func13, Tryd.ntmps13
  go_wp2
  go_loopw [3] (fun v wr => ∃ (pre : List (Nat × Nat)) (pos b : Nat), wr.heap[w.heap.size]? = some (.stringIter s pos) ∧ wr.ownsRow (w.heap.size + 1) 3 1 v pre.length (plc pre) ∧ Below w.heap.size w wr ∧ Hid (pre ++ pairsFrom s b pos = pairs s) ∧ s.size ≤ pos + b ∧ pos ≤ s.size ∧ pre.length ≤ pos)
    (fun _ wr => s.size - wr.iterPos w.heap.size)
  case atStart => exact ⟨[], 0, s.size, World.iter_heap w s 0, World.ownsRow_nil _ _ _ _, (Below.refl _ _).alloc (Nat.le_refl _) _, rfl, by omega, Nat.zero_le _, Nat.le_refl _⟩
  case round =>
    obtain ⟨pre, pos, b, hk, hown, hB, HP, hb, hps, hpl⟩ := hrel
    have hpos0 := iterPos_of hk
    by_cases hp : pos < s.size
    · have hnx : ∀ ty, (Instr.next (.pointer (some ⟨w.heap.size, 0, none⟩)) true ty).run Tryd.prog wr = _ := fun ty => run_next_any_at wr _ s pos ty hk hp
      have hwd := decode_fits s pos hp
      obtain ⟨b, rfl⟩ : ∃ f', b = f' + 1 := ⟨b - 1, by omega⟩
      have hit2 := Lib.iterAt_heap wr w.heap.size s pos (pos + (Utf8.decode s pos).2) hk
      have hB2 := Lib.below_iterAt hB (k := w.heap.size) (Nat.le_refl _) s (pos + (Utf8.decode s pos).2)
      have hown2 := ownsRow_iterAt hown (k := w.heap.size) (by omega) s (pos + (Utf8.decode s pos).2)
      obtain ⟨W1, hW1⟩ : ∃ W1, W1 = wr.iterAt w.heap.size s (pos + (Utf8.decode s pos).2) := ⟨_, rfl⟩
      rw [← hW1] at hnx hit2 hB2 hown2
      have HP2 : Hid ((pre ++ [(pos, (Utf8.decode s pos).1)]) ++ pairsFrom s b (pos + (Utf8.decode s pos).2) = pairs s) := by
        have := HP.out
        rw [pairsFrom_step hp] at this
        show _ = _
        rw [← this]; simp
      have hlt : w.heap.size < W1.heap.size := (Array.getElem?_eq_some_iff.1 hit2).1
      clear hW1 hk hown hB HP
      go_wp2_with (at_builtin; refine wpList_append_own _ rfl _ _ 26 rfl (w.heap.size + 1) 3 i0 (.int .i64 0) 1 8 Tryd.underlying26 hi hz0 hz1 hz2 rfl (by decide) _ _ _ rfl (hown2.alloc _) ⟨W1.heap.size, 0, none⟩ 1 1 [.int .i64 (pos : Int)] rfl rfl (cell_one_new _ _ _) (by simp [Value.oneCell']) (by unfold maxLen; omega) (by omega) (by simp; omega) ?_)
      intro v' w1 hown' hgrow _
      have hit3 : w1.heap[w.heap.size]? = some (.stringIter s (pos + (Utf8.decode s pos).2)) := by
        rw [hgrow.block w.heap.size (by simp; omega) (fun h => by have := (hown2.lt _ h.symm).1; omega), Below.heap_alloc _ _ _ hlt]; exact hit2
      have hB3 : Below w.heap.size w w1 := Below.grown (hB2.alloc (by omega) _) hgrow (by simp; omega) (fun j hj => by have := (hown2.lt _ hj).1; omega)
      have hown3 : w1.ownsRow (w.heap.size + 1) 3 1 v' (pre ++ [(pos, (Utf8.decode s pos).1)]).length (plc (pre ++ [(pos, (Utf8.decode s pos).1)])) := by
        rw [plc_snoc, List.length_append]; exact hown'
      obtain ⟨g', cap', rfl⟩ := ownsRow_succ hown'
      clear hown' hgrow hown2 hB2 hit2
      go_wp2
      go_roundw
      case rel => exact ⟨_, _, b, hit3, hown3, hB3, HP2, by omega, by omega, by simp; omega⟩
      case measure => rw [iterPos_of hit3, hpos0]; omega
    · have hnx : ∀ ty, (Instr.next (.pointer (some ⟨w.heap.size, 0, none⟩)) true ty).run Tryd.prog wr = _ := fun ty => run_next_end_at wr _ s pos ty hk hp
      have HE : Hid (pre = pairs s) := by
        have := HP.out
        rw [pairsFrom_end s b pos hp, List.append_nil] at this
        exact this
      clear HP
      go_wp2
      go_ret
      exact ⟨_, rfl, HE.out ▸ hown, hB⟩
end Go.Proofs.YtkjhjkpnkcnbgaaDoor.Utf
