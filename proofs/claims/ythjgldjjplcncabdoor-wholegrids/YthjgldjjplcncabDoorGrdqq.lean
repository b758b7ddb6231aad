/-
  The document's Blank, of any sides.
-/
import Derived.Test.YthjgldjjplcncabDoorGrdkq
namespace Go.Proofs.YthjgldjjplcncabDoor.Grd
open Go Go.Lib Go.RowKit

set_option maxHeartbeats 1000000 in
theorem refBlank_bad (h v : Int) (w : World) (hb : ¬ (sideOk h ∧ sideOk v)) :
    Calls Tryd.prog 19 #[.int .i64 h, .int .i64 v] w fun e w' => e = .returned (.tuple #[zeroG, .int .i64 50]) ∧ Below w.heap.size w w' := by
  have cS := fun W => side_any h W
  have cT := fun W => side_any v W
  unfold zeroG
  by_cases hh : sideOk h
  · have hv : ¬ sideOk v := fun hv => hb ⟨hh, hv⟩
    simp only [decide_eq_true hh] at cS
    simp only [decide_eq_false hv] at cT
    go_enter Tryd.func19, Tryd.ntmps19
    go_wp2_with fail
    refine (cS _).mono ?_
    rintro e w1 ⟨rfl, hw⟩
    obtain rfl := hw.symm
    clear hw
    go_wp2_with fail
    refine (cT _).mono ?_
    rintro e w1 ⟨rfl, hw⟩
    obtain rfl := hw.symm
    clear hw cS cT
    go_wp2
    refine bodyPost_ret (results_gt rfl _ _ w.heap.size _ _ _ _ _ rfl (hp_new w _)) rfl ⟨rfl, below_box w _⟩
  · simp only [decide_eq_false hh] at cS
    go_enter Tryd.func19, Tryd.ntmps19
    go_wp2_with fail
    refine (cS _).mono ?_
    rintro e w1 ⟨rfl, hw⟩
    obtain rfl := hw.symm
    clear hw cS cT
    go_wp2
    refine bodyPost_ret (results_gt rfl _ _ w.heap.size _ _ _ _ _ rfl (hp_new w _)) rfl ⟨rfl, below_box w _⟩

set_option maxHeartbeats 1000000 in
theorem refBlank_ok (h v : Nat) (w : World) (h1 : 1 ≤ h ∧ h ≤ 16) (h2 : 1 ≤ v ∧ v ≤ 16) :
    Calls Tryd.prog 19 #[.int .i64 h, .int .i64 v] w fun e w' => ∃ g1 g2 g3, e = .returned (.tuple #[.agg #[.int .i64 h, .int .i64 v, .slice (some ⟨g1, 0, none⟩) (h * v) (h * v), .slice (some ⟨g2, 0, none⟩) (h * v) (h * v), .slice (some ⟨g3, 0, none⟩) (h * v) (h * v)], .int .i64 0]) ∧ MadeG w.heap.size w' (h * v) g1 g2 g3 (List.replicate (h * v) false) (List.replicate (h * v) false) (List.replicate (h * v) false) ∧ Below w.heap.size w w' := by
  obtain ⟨i0, hi0, hz0, hz1, hz2⟩ := info_parts infoBool
  have cS := fun W => side_any (h : Int) W
  have cT := fun W => side_any (v : Int) W
  simp only [decide_eq_true (show sideOk (h : Int) from ⟨by omega, by omega⟩)] at cS
  simp only [decide_eq_true (show sideOk (v : Int) from ⟨by omega, by omega⟩)] at cT
  have hnl : h * v ≤ 256 := Nat.mul_le_mul h1.2 h2.2
  have hmul : (h : Int) * (v : Int) = ((h * v : Nat) : Int) := (Int.natCast_mul _ _).symm
  generalize h * v = n at *
  obtain ⟨M, hM⟩ : ∃ M, M = madeCells (Value.bool false).cells (n * i0.size) := ⟨_, rfl⟩
  have hMs : M.size = n * 1 := by rw [hM, size_madeCells, hz1]
  have hMl : M.toList = cellsB (List.replicate n false) := by
    rw [hM, hz1, Nat.mul_one]
    show (madeCells #[Value.bool false] n).toList = _
    rw [toList_madeCells_one]
    simp [cellsB]
  have hmk : ∀ W : World, (Instr.makeSlice 25 (.int .i64 (n : Int)) (.int .i64 (n : Int))).run Tryd.prog W = .ok (.slice (some ⟨W.heap.size, 0, none⟩) n n) (W.alloc (.cells M 4)) := fun W => by
    have h := run_make (P := Tryd.prog) W 25 4 i0 (.bool false) Tryd.underlying25 hi0 hz0 .i64 .i64 n n (by omega) (by omega) (by rw [hz2]; omega) (by omega)
    rw [Int.toNat_natCast, ← hM] at h
    exact h
  clear hM
  go_enter Tryd.func19, Tryd.ntmps19
  go_wp2_with fail
  refine (cS _).mono ?_
  rintro e w1 ⟨rfl, hw⟩
  obtain rfl := hw.symm
  clear hw
  go_wp2_with fail
  refine (cT _).mono ?_
  rintro e w1 ⟨rfl, hw⟩
  obtain rfl := hw.symm
  clear hw cS cT
  go_wp2
  have HBB : Aside (∀ o1 o2 o3 o4, Below w.heap.size w ((((w.alloc o1).alloc o2).alloc o3).alloc o4).drew) := fun o1 o2 o3 o4 =>
    Below.drew ((((below_box w o1).alloc (by simp) o2).alloc (by simp; omega) o3).alloc (by simp; omega) o4)
  have HP5 : Aside (∀ o1 o2 o3 o4, ((((w.alloc o1).alloc o2).alloc o3).alloc o4).drew.heap[w.heap.size]? = some o1) := fun o1 o2 o3 o4 => by
    rw [hp_drew]; repeat (first | refine (hp_past (by simp only [World.size_alloc]; omega)).trans ?_ | exact hp_at rfl)
  go_region
  all_goals go_wp2
  all_goals (refine bodyPost_ret (results_gt rfl _ _ w.heap.size _ _ _ _ _ rfl (HP5.out _ _ _ _)) rfl ?_; refine ⟨_, _, _, rfl, ⟨by omega, by omega, by omega, row_block (by omega) (by rw [hp_drew]; repeat (first | refine (hp_past (by simp only [World.size_alloc]; omega)).trans ?_ | exact hp_at (by simp only [World.size_alloc]))) hMs (by omega) hMl, row_block (by omega) (by rw [hp_drew]; repeat (first | refine (hp_past (by simp only [World.size_alloc]; omega)).trans ?_ | exact hp_at (by simp only [World.size_alloc]))) hMs (by omega) hMl, row_block (by omega) (by rw [hp_drew]; repeat (first | refine (hp_past (by simp only [World.size_alloc]; omega)).trans ?_ | exact hp_at (by simp only [World.size_alloc]))) hMs (by omega) hMl⟩, HBB.out _ _ _ _⟩)
end Go.Proofs.YthjgldjjplcncabDoor.Grd
