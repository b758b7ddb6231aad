/-
  Blank, the program's and the document's, of any sides.
-/
import Derived.Test.YthjgldjjplcncaaDoorGrdg
import Derived.BigRegion
import Derived.RegionTactic
namespace Go.Proofs.YthjgldjjplcncaaDoor.Grd
open Go Go.Lib Go.RowKit

theorem infoBool : (Tryd.prog.info? 4).map (fun i => (i.zero, i.size, i.bytes)) = some (some (.bool false), 1, 1) := by kernel_rfl
/-- Bools, as cells. -/
def cellsB (zs : List Bool) : List Value := zs.map Value.bool
theorem cellsB_length (zs : List Bool) : (cellsB zs).length = zs.length := by simp [cellsB]
theorem side_any (i : Int) (w : World) :
    Calls Tryd.prog 25 #[.int .i64 i] w fun e w' => e = .returned (.bool (decide (sideOk i))) ∧ w' = w := by
  go_enter Tryd.func25, Tryd.ntmps25
  by_cases h : 1 ≤ i
  · have e : decide (sideOk i) = decide (i ≤ 16) := decide_eq_decide.2 ⟨fun x => x.2, fun x => ⟨h, x⟩⟩
    rw [e]
    go_wp2
    go_ret
    exact ⟨rfl, rfl⟩
  · have e : decide (sideOk i) = false := decide_eq_false fun x => h x.1
    rw [e]
    go_wp2
    go_ret
    exact ⟨rfl, rfl⟩

def zeroG : Value := .agg #[.int .i64 0, .int .i64 0, .slice none 0 0, .slice none 0 0, .slice none 0 0]
/-- A made grid: three lists of its own. -/
structure MadeG (B : Nat) (W : World) (n g1 g2 g3 : Nat) (xs ys zs : List Bool) : Prop where
  n12 : g1 ≠ g2
  n13 : g1 ≠ g3
  n23 : g2 ≠ g3
  r1 : W.ownsRow B 4 1 (.slice (some ⟨g1, 0, none⟩) n n) n (cellsB xs)
  r2 : W.ownsRow B 4 1 (.slice (some ⟨g2, 0, none⟩) n n) n (cellsB ys)
  r3 : W.ownsRow B 4 1 (.slice (some ⟨g3, 0, none⟩) n n) n (cellsB zs)

theorem hp_alloc (w : World) (o : Obj) (k : Nat) : (w.alloc o).heap[k]? = if k = w.heap.size then some o else w.heap[k]? := by
  by_cases h : k = w.heap.size
  · rw [if_pos h, h]; unfold World.alloc; simp
  · rw [if_neg h]
    unfold World.alloc
    simp only [Array.getElem?_push]
    rw [if_neg h]
theorem hp_new (w : World) (o : Obj) : (w.alloc o).heap[w.heap.size]? = some o := by rw [hp_alloc, if_pos rfl]
theorem hp_at {w : World} {o : Obj} {k : Nat} (h : k = w.heap.size) : (w.alloc o).heap[k]? = some o := by rw [hp_alloc, if_pos h]
theorem hp_past {w : World} {o : Obj} {k : Nat} (h : ¬ k = w.heap.size) : (w.alloc o).heap[k]? = w.heap[k]? := by rw [hp_alloc, if_neg h]
theorem hp_drew (w : World) : w.drew.heap = w.heap := rfl
theorem row_block {W : World} {B g n : Nat} {M : Array Value} {xs : List Bool} (hB : B ≤ g) (h : W.heap[g]? = some (.cells M 4)) (hM : M.size = n * 1) (hn : n ≤ 256) (hl : M.toList = cellsB xs) : W.ownsRow B 4 1 (.slice (some ⟨g, 0, none⟩) n n) n (cellsB xs) := by
  refine ⟨by rw [← hl, Array.length_toList, hM], .inr ⟨g, n, M, rfl, hB, h, Nat.le_refl _, by unfold maxLen; omega, hM, ?_⟩⟩
  rw [← hl]
  exact List.take_of_length_le (by rw [Array.length_toList, hM]; exact Nat.le_refl _)
theorem results_gt {fn : Func} {p q : Tmp} (h : fn.results = #[.cell p 25, .tmp q]) (tmps : Array Value) (w : World) (b : Nat) (x0 x1 x2 x3 x4 : Value)
    (hp : tmps.getD p undef = .pointer (some ⟨b, 0, none⟩)) (hb : w.heap[b]? = some (.cells #[x0, x1, x2, x3, x4] 25)) :
    (results fn tmps).run Tryd.prog w = .ok (.tuple #[.agg #[x0, x1, x2, x3, x4], tmps.getD q undef]) w := by
  have hp' : tmps[p]?.getD undef = .pointer (some ⟨b, 0, none⟩) := by simpa using hp
  have c0 : w.cell? ⟨b, 0, none⟩ = some x0 := by simp [World.cell?, hb]
  have c1 : w.cell? ⟨b, 1, none⟩ = some x1 := by simp [World.cell?, hb]
  have c2 : w.cell? ⟨b, 2, none⟩ = some x2 := by simp [World.cell?, hb]
  have c3 : w.cell? ⟨b, 3, none⟩ = some x3 := by simp [World.cell?, hb]
  have c4 : w.cell? ⟨b, 4, none⟩ = some x4 := by simp [World.cell?, hb]
  simp only [results, h]
  simp [hp', asAddr]
  go_simp

end Go.Proofs.YthjgldjjplcncaaDoor.Grd
