/-
  Numbers in lists of a call's own; the document's comparison of two lists; the program's Near of any grid.
-/
import Derived.Test.YthjgldjjplcncabDoorGge
import Derived.Lib.OthersKept
import Derived.Maps.AppendAt
import Derived.Maps.OwnIn
import Derived.RangeFuncBox
import Derived.Laws.MakeOwn
import Derived.Deep.DeepAppendRoom
import Derived.Laws.AppendOwnNone
import Derived.Laws.OwnMore
namespace Go.Proofs.YthjgldjjplcncabDoor.Grd
open Go Go.Lib Go.RowKit

theorem infoInt : (Tryd.prog.info? 3).map (fun i => (i.zero, i.size, i.bytes)) = some (some (.int .i64 0), 1, 8) := by kernel_rfl
/-- Numbers, as cells. -/
def cellsI (zs : List Int) : List Value := zs.map (Value.int .i64)
theorem cellsI_length (zs : List Int) : (cellsI zs).length = zs.length := by simp [cellsI]
theorem cellsI_snoc (zs : List Int) (x : Int) : cellsI (zs ++ [x]) = cellsI zs ++ [.int .i64 x] := by simp [cellsI]
def ints (l : List Nat) : List Int := l.map fun i : Nat => (i : Int)
theorem ints_length (l : List Nat) : (ints l).length = l.length := by simp [ints]
theorem ints_snoc (l : List Nat) (i : Nat) : ints (l ++ [i]) = ints l ++ [(i : Int)] := by simp [ints]

/-- A list of numbers, wherever it lies. -/
def ReadsI (W : World) (ao : Option Addr) (zs : List Int) : Prop := ∀ i (_ : i < zs.length), ∃ b off, ao = some ⟨b, off, none⟩ ∧ b < W.heap.size ∧ W.cell? ⟨b, off + i, none⟩ = some (.int .i64 (zs[i]?.getD 0))
theorem ReadsI.below {W W' : World} {ao : Option Addr} {zs : List Int} (h : ReadsI W ao zs) (hb : Below W.heap.size W W') : ReadsI W' ao zs := fun j hj => by
  obtain ⟨g, o, h1, h2, h3⟩ := h j hj
  exact ⟨g, o, h1, Nat.lt_of_lt_of_le h2 hb.size, (hb.cell (p := ⟨g, o + j, none⟩) h2).trans h3⟩
theorem row_reads {W : World} {B : Nat} {v : Value} {zs : List Int} {n : Nat} (h : W.ownsRow B 3 1 v n (cellsI zs)) : ∃ ao cap, v = .slice ao zs.length cap ∧ n = zs.length ∧ ReadsI W ao zs := by
  have hh := h
  have hn : n = zs.length := by have := h.1; rw [cellsI_length] at this; omega
  rcases h.2 with ⟨rfl, h0⟩ | ⟨g, cap, cur, rfl, hb, _⟩
  · exact ⟨none, 0, by rw [← hn, h0], hn, fun j hj => by omega⟩
  · refine ⟨_, cap, by rw [hn], hn, fun j hj => ⟨g, 0, rfl, (hh.lt g rfl).2, ?_⟩⟩
    have := hh.cells (g := g) rfl j (.int .i64 zs[j]) (by simp [cellsI, hj])
    rw [show (⟨g, 0, none⟩ : Addr).add j = ⟨g, j, none⟩ by unfold Addr.add; split <;> simp_all] at this
    rw [Nat.zero_add, this]
    simp [hj]
theorem row_base {W : World} {B B' : Nat} {e : TypeId} {v : Value} {n : Nat} {xs : List Value} (h : W.ownsRow B e 1 v n xs) (hb : B' ≤ B) : W.ownsRow B' e 1 v n xs := by
  rcases h with ⟨h1, h2 | ⟨g, cap, cur, e1, e2, e3, e4⟩⟩
  · exact ⟨h1, .inl h2⟩
  · exact ⟨h1, .inr ⟨g, cap, cur, e1, Nat.le_trans hb e2, e3, e4⟩⟩
theorem row_keeps {W W' : World} {B : Nat} {e : TypeId} {v : Value} {n : Nat} {xs : List Value} (h : W.ownsRow B e 1 v n xs) (hb : Below W.heap.size W W') : W'.ownsRow B e 1 v n xs := by
  rcases h with ⟨h1, h2 | ⟨g, cap, cur, e1, e2, e3, e4⟩⟩
  · exact ⟨h1, .inl h2⟩
  · exact ⟨h1, .inr ⟨g, cap, cur, e1, e2, (hb.block g (Array.getElem?_eq_some_iff.1 e3).1).trans e3, e4⟩⟩

/-- What Near answers, at any number. -/
def Gr.nearI (g : Gr) (i : Int) : List Nat := if g.opI i then g.near i.toNat else []
def Gr.nearK (g : Gr) (i k : Nat) : List Nat := (List.range k).filterMap (g.stp i)
theorem Gr.nearK_succ (g : Gr) (i k : Nat) : g.nearK i (k + 1) = g.nearK i k ++ (g.stp i k).toList := by
  unfold Gr.nearK
  rw [List.range_succ, List.filterMap_append]
  congr 1
theorem Gr.nearK_len (g : Gr) (i k : Nat) : (g.nearK i k).length ≤ k := by
  unfold Gr.nearK
  have := List.length_filterMap_le (g.stp i) (List.range k)
  rw [List.length_range] at this
  exact this
theorem Gr.nearK_four {g : Gr} {i : Nat} (ho : g.opn i = true) : g.nearK i 4 = g.near i := by
  unfold Gr.nearK Gr.near
  have : g.st i = g.stp i := funext fun way => Gr.st_stp ho
  rw [this, show List.range 4 = [0, 1, 2, 3] from rfl]

end Go.Proofs.YthjgldjjplcncabDoor.Grd
