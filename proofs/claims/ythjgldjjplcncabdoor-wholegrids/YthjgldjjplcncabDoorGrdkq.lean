/-
  Blank, the program's and the document's, of any sides.
-/
import Derived.Test.YthjgldjjplcncabDoorGrdgq
import Derived.BigRegion
import Derived.RegionTactic
namespace Go.Proofs.YthjgldjjplcncabDoor.Grd
open Go Go.Lib Go.RowKit

theorem infoBool : (Tryd.prog.info? 4).map (fun i => (i.zero, i.size, i.bytes)) = some (some (.bool false), 1, 1) := by kernel_rfl
/-- Bools, as cells. -/
def cellsB (zs : List Bool) : List Value := zs.map Value.bool
theorem cellsB_length (zs : List Bool) : (cellsB zs).length = zs.length := by simp [cellsB]
theorem side_any (i : Int) (w : World) :
    Calls Tryd.prog 37 #[.int .i64 i] w fun e w' => e = .returned (.bool (decide (sideOk i))) ∧ w' = w := by
  go_enter Tryd.func37, Tryd.ntmps37
  by_cases h : 1 ≤ i
  · have e : decide (sideOk i) = decide (i ≤ 16) := decide_eq_decide.2 ⟨fun x => x.2, fun x => ⟨h, x⟩⟩
    rw [e]
    go_wp2
    go_ret
    exact ⟨rfl, rfl⟩
  · have e : decide (sideOk i) = false := decide_eq_false fun x => h x.1
    rw [e]
    go_wp2
    go_ret
    exact ⟨rfl, rfl⟩

def zeroG : Value := .agg #[.int .i64 0, .int .i64 0, .slice none 0 0, .slice none 0 0, .slice none 0 0]
/-- A made grid: three lists of its own. -/
structure MadeG (B : Nat) (W : World) (n g1 g2 g3 : Nat) (xs ys zs : List Bool) : Prop where
  n12 : g1 ≠ g2
  n13 : g1 ≠ g3
  n23 : g2 ≠ g3
  r1 : W.ownsRow B 4 1 (.slice (some ⟨g1, 0, none⟩) n n) n (cellsB xs)
  r2 : W.ownsRow B 4 1 (.slice (some ⟨g2, 0, none⟩) n n) n (cellsB ys)
  r3 : W.ownsRow B 4 1 (.slice (some ⟨g3, 0, none⟩) n n) n (cellsB zs)

theorem hp_alloc (w : World) (o : Obj) (k : Nat) : (w.alloc o).heap[k]? = if k = w.heap.size then some o else w.heap[k]? := by
  by_cases h : k = w.heap.size
  · rw [if_pos h, h]; unfold World.alloc; simp
  · rw [if_neg h]
    unfold World.alloc
    simp only [Array.getElem?_push]
    rw [if_neg h]
theorem hp_new (w : World) (o : Obj) : (w.alloc o).heap[w.heap.size]? = some o := by rw [hp_alloc, if_pos rfl]
theorem hp_at {w : World} {o : Obj} {k : Nat} (h : k = w.heap.size) : (w.alloc o).heap[k]? = some o := by rw [hp_alloc, if_pos h]
theorem hp_past {w : World} {o : Obj} {k : Nat} (h : ¬ k = w.heap.size) : (w.alloc o).heap[k]? = w.heap[k]? := by rw [hp_alloc, if_neg h]
theorem hp_drew (w : World) : w.drew.heap = w.heap := rfl
theorem row_block {W : World} {B g n : Nat} {M : Array Value} {xs : List Bool} (hB : B ≤ g) (h : W.heap[g]? = some (.cells M 4)) (hM : M.size = n * 1) (hn : n ≤ 256) (hl : M.toList = cellsB xs) : W.ownsRow B 4 1 (.slice (some ⟨g, 0, none⟩) n n) n (cellsB xs) := by
  refine ⟨by rw [← hl, Array.length_toList, hM], .inr ⟨g, n, M, rfl, hB, h, Nat.le_refl _, by unfold maxLen; omega, hM, ?_⟩⟩
  rw [← hl]
  exact List.take_of_length_le (by rw [Array.length_toList, hM]; exact Nat.le_refl _)
theorem results_gt {fn : Func} {p q : Tmp} (h : fn.results = #[.cell p 27, .tmp q]) (tmps : Array Value) (w : World) (b : Nat) (x0 x1 x2 x3 x4 : Value)
    (hp : tmps.getD p undef = .pointer (some ⟨b, 0, none⟩)) (hb : w.heap[b]? = some (.cells #[x0, x1, x2, x3, x4] 27)) :
    (results fn tmps).run Tryd.prog w = .ok (.tuple #[.agg #[x0, x1, x2, x3, x4], tmps.getD q undef]) w := by
  have hp' : tmps[p]?.getD undef = .pointer (some ⟨b, 0, none⟩) := by simpa using hp
  have c0 : w.cell? ⟨b, 0, none⟩ = some x0 := by simp [World.cell?, hb]
  have c1 : w.cell? ⟨b, 1, none⟩ = some x1 := by simp [World.cell?, hb]
  have c2 : w.cell? ⟨b, 2, none⟩ = some x2 := by simp [World.cell?, hb]
  have c3 : w.cell? ⟨b, 3, none⟩ = some x3 := by simp [World.cell?, hb]
  have c4 : w.cell? ⟨b, 4, none⟩ = some x4 := by simp [World.cell?, hb]
  simp only [results, h]
  simp [hp', asAddr]
  go_simp

set_option maxHeartbeats 1000000 in
theorem blank_bad (h v : Int) (w : World) (hb : ¬ (sideOk h ∧ sideOk v)) :
    Calls Tryd.prog 55 #[.int .i64 h, .int .i64 v] w fun e w' => e = .returned (.tuple #[zeroG, .int .i64 50]) ∧ Below w.heap.size w w' := by
  have cS := fun W => isSide_any h W
  have cT := fun W => isSide_any v W
  unfold zeroG
  by_cases hh : sideOk h
  · have hv : ¬ sideOk v := fun hv => hb ⟨hh, hv⟩
    simp only [decide_eq_true hh] at cS
    simp only [decide_eq_false hv] at cT
    go_enter Tryd.func55, Tryd.ntmps55
    go_wp2_with fail
    refine (cS _).mono ?_
    rintro e w1 ⟨rfl, hw⟩
    obtain rfl := hw.symm
    clear hw
    go_wp2_with fail
    refine (cT _).mono ?_
    rintro e w1 ⟨rfl, hw⟩
    obtain rfl := hw.symm
    clear hw cS cT
    go_wp2
    refine bodyPost_ret (results_gt rfl _ _ w.heap.size _ _ _ _ _ rfl (hp_new w _)) rfl ⟨rfl, below_box w _⟩
  · simp only [decide_eq_false hh] at cS
    go_enter Tryd.func55, Tryd.ntmps55
    go_wp2_with fail
    refine (cS _).mono ?_
    rintro e w1 ⟨rfl, hw⟩
    obtain rfl := hw.symm
    clear hw cS cT
    go_wp2
    refine bodyPost_ret (results_gt rfl _ _ w.heap.size _ _ _ _ _ rfl (hp_new w _)) rfl ⟨rfl, below_box w _⟩

set_option maxHeartbeats 1000000 in
theorem blank_ok (h v : Nat) (w : World) (h1 : 1 ≤ h ∧ h ≤ 16) (h2 : 1 ≤ v ∧ v ≤ 16) :
    Calls Tryd.prog 55 #[.int .i64 h, .int .i64 v] w fun e w' => ∃ g1 g2 g3, e = .returned (.tuple #[.agg #[.int .i64 h, .int .i64 v, .slice (some ⟨g1, 0, none⟩) (h * v) (h * v), .slice (some ⟨g2, 0, none⟩) (h * v) (h * v), .slice (some ⟨g3, 0, none⟩) (h * v) (h * v)], .int .i64 0]) ∧ MadeG w.heap.size w' (h * v) g1 g2 g3 (List.replicate (h * v) false) (List.replicate (h * v) false) (List.replicate (h * v) false) ∧ Below w.heap.size w w' := by
  obtain ⟨i0, hi0, hz0, hz1, hz2⟩ := info_parts infoBool
  have cS := fun W => isSide_any (h : Int) W
  have cT := fun W => isSide_any (v : Int) W
  simp only [decide_eq_true (show sideOk (h : Int) from ⟨by omega, by omega⟩)] at cS
  simp only [decide_eq_true (show sideOk (v : Int) from ⟨by omega, by omega⟩)] at cT
  have hnl : h * v ≤ 256 := Nat.mul_le_mul h1.2 h2.2
  have hmul : (h : Int) * (v : Int) = ((h * v : Nat) : Int) := (Int.natCast_mul _ _).symm
  generalize h * v = n at *
  obtain ⟨M, hM⟩ : ∃ M, M = madeCells (Value.bool false).cells (n * i0.size) := ⟨_, rfl⟩
  have hMs : M.size = n * 1 := by rw [hM, size_madeCells, hz1]
  have hMl : M.toList = cellsB (List.replicate n false) := by
    rw [hM, hz1, Nat.mul_one]
    show (madeCells #[Value.bool false] n).toList = _
    rw [toList_madeCells_one]
    simp [cellsB]
  have hmk : ∀ W : World, (Instr.makeSlice 25 (.int .i64 (n : Int)) (.int .i64 (n : Int))).run Tryd.prog W = .ok (.slice (some ⟨W.heap.size, 0, none⟩) n n) (W.alloc (.cells M 4)) := fun W => by
    have h := run_make (P := Tryd.prog) W 25 4 i0 (.bool false) Tryd.underlying25 hi0 hz0 .i64 .i64 n n (by omega) (by omega) (by rw [hz2]; omega) (by omega)
    rw [Int.toNat_natCast, ← hM] at h
    exact h
  clear hM
  go_enter Tryd.func55, Tryd.ntmps55
  go_wp2_with fail
  refine (cS _).mono ?_
  rintro e w1 ⟨rfl, hw⟩
  obtain rfl := hw.symm
  clear hw
  go_wp2_with fail
  refine (cT _).mono ?_
  rintro e w1 ⟨rfl, hw⟩
  obtain rfl := hw.symm
  clear hw cS cT
  go_wp2
  have HBB : Aside (∀ o1 o2 o3 o4 o5, Below w.heap.size w (((((w.alloc o1).alloc o2).alloc o3).alloc o4).alloc o5).drew) := fun o1 o2 o3 o4 o5 =>
    Below.drew (((((below_box w o1).alloc (by simp) o2).alloc (by simp; omega) o3).alloc (by simp; omega) o4).alloc (by simp; omega) o5)
  have HP5 : Aside (∀ o1 o2 o3 o4 o5, (((((w.alloc o1).alloc o2).alloc o3).alloc o4).alloc o5).drew.heap[w.heap.size]? = some o1) := fun o1 o2 o3 o4 o5 => by
    rw [hp_drew]; repeat (first | refine (hp_past (by simp only [World.size_alloc]; omega)).trans ?_ | exact hp_at rfl)
  go_region
  all_goals go_wp2
  all_goals (refine bodyPost_ret (results_gt rfl _ _ w.heap.size _ _ _ _ _ rfl (HP5.out _ _ _ _ _)) rfl ?_; refine ⟨_, _, _, rfl, ⟨by omega, by omega, by omega, row_block (by omega) (by rw [hp_drew]; repeat (first | refine (hp_past (by simp only [World.size_alloc]; omega)).trans ?_ | exact hp_at (by simp only [World.size_alloc]))) hMs (by omega) hMl, row_block (by omega) (by rw [hp_drew]; repeat (first | refine (hp_past (by simp only [World.size_alloc]; omega)).trans ?_ | exact hp_at (by simp only [World.size_alloc]))) hMs (by omega) hMl, row_block (by omega) (by rw [hp_drew]; repeat (first | refine (hp_past (by simp only [World.size_alloc]; omega)).trans ?_ | exact hp_at (by simp only [World.size_alloc]))) hMs (by omega) hMl⟩, HBB.out _ _ _ _ _⟩)
end Go.Proofs.YthjgldjjplcncabDoor.Grd
