/-
  The program's isSeat and noSeats; a list of seats in memory of the call's own.
-/
import Derived.Test.YthjgldjjplcncabDoorSlf
import Derived.Test.YthjgldjjplcncabDoorSlg
namespace Go.Proofs.YthjgldjjplcncabDoor.Grd
open Go Go.Lib Go.RowKit

/-- A list of seats, as cells. -/
def cellsS (f : Nat → Int × Int) (m : Nat) : List Value := (List.range (m * 2)).map fun j => .int .i64 (if j % 2 = 0 then (f (j / 2)).1 else (f (j / 2)).2)
theorem cellsS_length (f : Nat → Int × Int) (m : Nat) : (cellsS f m).length = m * 2 := by simp [cellsS]
theorem cellsS_at {f : Nat → Int × Int} {m i : Nat} (h : i < m) : (cellsS f m)[i * 2]? = some (.int .i64 (f i).1) ∧ (cellsS f m)[i * 2 + 1]? = some (.int .i64 (f i).2) := by
  have e1 : i * 2 % 2 = 0 := by omega
  have e2 : i * 2 / 2 = i := by omega
  have e3 : (i * 2 + 1) % 2 = 1 := by omega
  have e4 : (i * 2 + 1) / 2 = i := by omega
  unfold cellsS
  constructor
  · rw [List.getElem?_map, List.getElem?_range (by omega)]
    simp only [Option.map_some, e1, e2, if_true]
  · rw [List.getElem?_map, List.getElem?_range (by omega)]
    simp only [Option.map_some, e3, e4, Nat.succ_ne_self, if_false]
theorem cellsS_congr {f f' : Nat → Int × Int} {m : Nat} (h : ∀ i, i < m → f i = f' i) : cellsS f m = cellsS f' m := by
  unfold cellsS
  apply List.map_congr_left
  intro j hj
  have := List.mem_range.1 hj
  rw [h (j / 2) (by omega)]
theorem cellsS_set {f : Nat → Int × Int} {m i : Nat} {x y : Int} (h : i < m) : ((cellsS f m).set (i * 2) (.int .i64 x)).set (i * 2 + 1) (.int .i64 y) = cellsS (fun j => if j = i then (x, y) else f j) m := by
  apply List.ext_getElem?
  intro j
  rw [List.getElem?_set, List.length_set, cellsS_length, List.getElem?_set, cellsS_length]
  unfold cellsS
  rw [List.getElem?_map, List.getElem?_map]
  by_cases hj : j < m * 2
  · rw [List.getElem?_range hj]
    simp only [Option.map_some]
    by_cases h1 : i * 2 + 1 = j
    · have e1 : j % 2 = 1 := by omega
      have e2 : j / 2 = i := by omega
      rw [if_pos h1, if_pos (by omega)]
      simp [e1, e2]
    · by_cases h2 : i * 2 = j
      · have e1 : j % 2 = 0 := by omega
        have e2 : j / 2 = i := by omega
        rw [if_neg h1, if_pos h2, if_pos (by omega)]
        simp [e1, e2]
      · have e2 : ¬ j / 2 = i := by omega
        rw [if_neg h1, if_neg h2]
        simp [e2]
  · rw [List.getElem?_eq_none (l := List.range (m * 2)) (by rw [List.length_range]; omega), if_neg (by omega), if_neg (by omega)]
    rfl

/-- A seat is stored. -/
theorem seat_stored {w W : World} {B b n i cap : Nat} {f f' : Nat → Int × Int} (h : W.ownsRow B 77 2 (.slice (some ⟨b, 0, none⟩) n cap) n (cellsS f n)) (hi : i < n) (x y : Int) (hb : Below w.heap.size w W) (hB : w.heap.size ≤ B)
    (hf : ∀ j, j < n → (if j = i then (x, y) else f j) = f' j) :
    ((W.setCell ⟨b, i * 2, none⟩ (.int .i64 x)).setCell ⟨b, i * 2 + 1, none⟩ (.int .i64 y)).ownsRow B 77 2 (.slice (some ⟨b, 0, none⟩) n cap) n (cellsS f' n) ∧ Below w.heap.size w ((W.setCell ⟨b, i * 2, none⟩ (.int .i64 x)).setCell ⟨b, i * 2 + 1, none⟩ (.int .i64 y)) := by
  have h1 := h.stored (i * 2) (.int .i64 x)
  have h2 := h1.1.stored (i * 2 + 1) (.int .i64 y)
  have hbB : w.heap.size ≤ b := Nat.le_trans hB (h.lt b rfl).1
  refine ⟨?_, ?_⟩
  · rw [← cellsS_congr hf, ← cellsS_set hi]
    exact h2.1
  · exact Below.grown (Below.grown hb h1.2 hb.size (fun j hj => by cases hj; exact hbB)) h2.2 (Nat.le_trans hb.size h1.2.size) (fun j hj => by cases hj; exact hbB)

theorem isSeat_any (x y : Int) (w : World) :
    Calls Tryd.prog 29 #[.agg #[.int .i64 x, .int .i64 y]] w fun e w' => e = .returned (.bool (decide (0 ≤ x))) ∧ Below w.heap.size w w' := by
  go_enter Tryd.func29, Tryd.ntmps29
  go_wp2
  go_ret
  exact ⟨rfl, below_box w _⟩

set_option maxHeartbeats 1000000 in
theorem noSeats_any (n : Nat) (w : World) (hn : n ≤ 256) :
    Calls Tryd.prog 45 #[.int .i64 n] w fun e w' => ∃ b, e = .returned (.slice (some ⟨b, 0, none⟩) n n) ∧ w'.ownsRow w.heap.size 77 2 (.slice (some ⟨b, 0, none⟩) n n) n (cellsS (fun _ => (-1, 0)) n) ∧ Below w.heap.size w w' := by
  obtain ⟨i0, hi0, hz0, hz1, hz2⟩ := info_parts infoSeat
  obtain ⟨M, hM⟩ : ∃ M, M = madeCells (Value.agg #[.int .i64 0, .int .i64 0]).cells (n * i0.size) := ⟨_, rfl⟩
  have hMs : M.size = n * 2 := by rw [hM, size_madeCells, hz1]
  have hmk : ∀ W : World, (Instr.makeSlice 72 (.int .i64 (n : Int)) (.int .i64 (n : Int))).run Tryd.prog W = .ok (.slice (some ⟨W.heap.size, 0, none⟩) n n) (W.alloc (.cells M 77)) := fun W => by
    have h := run_make (P := Tryd.prog) W 72 77 i0 (.agg #[.int .i64 0, .int .i64 0]) Tryd.underlying72 hi0 hz0 .i64 .i64 n n (by omega) (by omega) (by rw [hz2]; omega) (by omega)
    rw [Int.toNat_natCast, ← hM] at h
    exact h
  have hMl : M.toList = cellsS (fun _ => (0, 0)) n := by
    apply List.ext_getElem?
    intro j
    rw [hM, hz1]
    by_cases hj : j < n * 2
    · have h2 : j % 2 < 2 := Nat.mod_lt _ (by omega)
      rcases (show j % 2 = 0 ∨ j % 2 = 1 by omega) with e | e
      · simp [madeCells, cellsS, hj, e, Value.cells]
      · simp [madeCells, cellsS, hj, e, Value.cells]
    · simp [madeCells, cellsS, hj]
  have o0 : (w.alloc (.cells M 77)).ownsRow w.heap.size 77 2 (.slice (some ⟨w.heap.size, 0, none⟩) n n) n (cellsS (fun _ => (0, 0)) n) := by
    rw [← hMl]
    exact World.ownsRow_lit _ _ _ (Nat.le_refl _) (by unfold maxLen; omega) hMs
  have HB0 : Aside (Below w.heap.size w (w.alloc (.cells M 77))) := below_box w _
  clear hM hMl
  go_enter Tryd.func45, Tryd.ntmps45
  go_wp2
  generalize w.alloc (.cells M 77) = w1 at *
  go_loopg [9] n (fun g1 iv wr => ∃ k : Nat, iv = .int .i64 (k : Int) ∧ k ≤ n ∧ n - k ≤ g1 ∧ Aside (wr.ownsRow w.heap.size 77 2 (.slice (some ⟨w.heap.size, 0, none⟩) n n) n (cellsS (fun j => if j < k then (-1, 0) else (0, 0)) n)) ∧ Aside (Below w.heap.size w wr))
  case atStart => exact ⟨0, rfl, Nat.zero_le _, Nat.le_refl _, o0, HB0⟩
  case round =>
    obtain ⟨k, rfl, hk, hg, HO, HB⟩ := hrel
    by_cases hlt : k < n
    · have hltz : (k : Int) < (n : Int) := by omega
      have c0 := HO.out.cellAt (k * 2) (by omega)
      have c1 := HO.out.cellAt (k * 2 + 1) (by omega)
      rw [(cellsS_at hlt).1] at c0
      rw [(cellsS_at hlt).2] at c1
      have f0 := HO.out.frozenAt (k * 2)
      have f1 := HO.out.frozenAt (k * 2 + 1)
      have HS : Aside (((wr.setCell ⟨w.heap.size, k * 2, none⟩ (.int .i64 (-1))).setCell ⟨w.heap.size, k * 2 + 1, none⟩ (.int .i64 0)).ownsRow w.heap.size 77 2 (.slice (some ⟨w.heap.size, 0, none⟩) n n) n (cellsS (fun j => if j < k + 1 then (-1, 0) else (0, 0)) n) ∧ Below w.heap.size w ((wr.setCell ⟨w.heap.size, k * 2, none⟩ (.int .i64 (-1))).setCell ⟨w.heap.size, k * 2 + 1, none⟩ (.int .i64 0))) :=
        seat_stored HO.out hlt (-1) 0 HB.out (Nat.le_refl _) (fun j hj => by
          by_cases h : j = k
          · rw [if_pos h, if_pos (by omega)]
          · rw [if_neg h]
            by_cases h2 : j < k
            · rw [if_pos h2, if_pos (by omega)]
            · rw [if_neg h2, if_neg (by omega)])
      go_wp2
      go_roundg (n - (k + 1))
      case measure => omega
      case rel => exact ⟨k + 1, by go_num, by omega, Nat.le_refl _, HS.out.1, HS.out.2⟩
    · have hltz : ¬ (k : Int) < (n : Int) := by omega
      obtain rfl : k = n := by omega
      go_wp2
      go_ret
      refine ⟨_, rfl, ?_, HB.out⟩
      rw [cellsS_congr (f' := fun j => if j < k then (-1, 0) else (0, 0)) (fun i hi => by rw [if_pos hi])]
      exact HO.out
end Go.Proofs.YthjgldjjplcncabDoor.Grd
