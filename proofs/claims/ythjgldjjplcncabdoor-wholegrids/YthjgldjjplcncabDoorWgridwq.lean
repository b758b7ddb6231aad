/-
  WholeGrids walked.
-/
import Derived.Test.YthjgldjjplcncabDoorWtopq
import Derived.Test.YthjgldjjplcncabDoorWgmq
import Derived.Test.YthjgldjjplcncabDoorGsk
import Derived.Test.YthjgldjjplcncabDoorGsf
import Derived.Test.YthjgldjjplcncabDoorGrdiq
import Derived.Test.YthjgldjjplcncabDoorTrniq
namespace Go.Proofs.YthjgldjjplcncabDoor.Skt
open Go Go.Lib Go.RowKit Utf Grd

theorem blank12_ok : (blankG 1 2).chk = 0 := by decide +kernel
theorem blank12_draw : prT (blankG 1 2) = [46, 46, 10] := by decide +kernel
theorem blank12_eq : ((ByteArray.mk #[46, 46, 10]).toList == [46, 46, 10]) = true := by decide +kernel

/-- What lies where: the grid and the turned one, each in its box. -/
structure TwoG (w0 W : World) (bg bt : Nat) (G T : Gr) (p q : Ad) : Prop where
  bw : Below w0.heap.size w0 W
  xg : Bx W bg G p
  xt : Bx W bt T q
  rg : RG W G p
  rt : RG W T q
theorem TwoG.keep {w0 W W' : World} {bg bt : Nat} {G T : Gr} {p q : Ad} (h : TwoG w0 W bg bt G T p q) (hb : Below W.heap.size W W') : TwoG w0 W' bg bt G T p q :=
  ⟨h.bw.trans (hb.mono h.bw.size), h.xg.keep hb, h.xt.keep hb, h.rg.below hb, h.rt.below hb⟩
/-- The counts by length. -/
def lensI (A B : List Sl) : List Int := (List.range 17).map fun n => (cntL A n : Int) - (cntL B n : Int)
/-- A block of 17 numbers. -/
structure A17 (W : World) (b : Nat) (I : List Int) : Prop where
  blk : W.heap[b]? = some (.cells (cellsI I).toArray 34)
  len : I.length = 17
theorem A17.lt {W : World} {b : Nat} {I : List Int} (h : A17 W b I) : b < W.heap.size := (Array.getElem?_eq_some_iff.1 h.blk).1
theorem A17.at {W : World} {b : Nat} {I : List Int} (h : A17 W b I) {j : Nat} {x : Int} (hj : I[j]? = some x) : W.cell? ⟨b, j, none⟩ = some (.int .i64 x) := by
  simp only [World.cell?, h.blk]
  rw [List.getElem?_toArray]
  exact cellsI_at hj
theorem A17.fr {W : World} {b : Nat} {I : List Int} (h : A17 W b I) (j : Nat) : W.frozen? ⟨b, j, none⟩ = false := frozen_of_row W b j _ _ h.blk
theorem A17.keep {W W' : World} {b : Nat} {I : List Int} (h : A17 W b I) (hb : Below W.heap.size W W') : A17 W' b I := ⟨(hb.block b h.lt).trans h.blk, h.len⟩
theorem A17.set {W : World} {b : Nat} {I : List Int} (h : A17 W b I) (j : Nat) (v : Int) : A17 (W.setCell ⟨b, j, none⟩ (.int .i64 v)) b (I.set j v) := by
  refine ⟨?_, by rw [List.length_set]; exact h.len⟩
  rw [heap_setCell_same W b j _ _ _ h.blk]
  rw [cellsI_set]
  simp

theorem cntL_snoc (A : List Sl) (s : Sl) (n : Nat) : cntL (A ++ [s]) n = cntL A n + (if s.cs.length = n then 1 else 0) := by
  unfold cntL
  rw [List.filter_append, List.length_append]
  by_cases h : s.cs.length = n
  · simp [h]
  · simp [h]
theorem cntL_le (A : List Sl) (n : Nat) : cntL A n ≤ A.length := List.length_filter_le _ _
theorem lensI_len (A B : List Sl) : (lensI A B).length = 17 := by simp [lensI]
theorem lensI_at (A B : List Sl) {n : Nat} (h : n < 17) : (lensI A B)[n]? = some ((cntL A n : Int) - (cntL B n : Int)) := by simp [lensI, h]
theorem lensI_incr (A B : List Sl) (s : Sl) : (lensI A B).set s.cs.length ((cntL A s.cs.length : Int) - (cntL B s.cs.length : Int) + 1) = lensI (A ++ [s]) B := by
  apply List.ext_getElem
  · simp [lensI]
  · intro i h1 h2
    have hi : i < 17 := by simpa [lensI] using h2
    rw [List.getElem_set]
    by_cases e : s.cs.length = i
    · rw [if_pos e]
      subst e
      simp only [lensI, List.getElem_map, List.getElem_range, cntL_snoc, if_pos]
      omega
    · rw [if_neg e]
      simp only [lensI, List.getElem_map, List.getElem_range, cntL_snoc, if_neg e]
      omega
theorem lensI_decr (A B : List Sl) (s : Sl) : (lensI A B).set s.cs.length ((cntL A s.cs.length : Int) - (cntL B s.cs.length : Int) - 1) = lensI A (B ++ [s]) := by
  apply List.ext_getElem
  · simp [lensI]
  · intro i h1 h2
    have hi : i < 17 := by simpa [lensI] using h2
    rw [List.getElem_set]
    by_cases e : s.cs.length = i
    · rw [if_pos e]
      subst e
      simp only [lensI, List.getElem_map, List.getElem_range, cntL_snoc, if_pos]
      omega
    · rw [if_neg e]
      simp only [lensI, List.getElem_map, List.getElem_range, cntL_snoc, if_neg e]
      omega
theorem lensI_nil : lensI [] [] = List.replicate 17 0 := by decide +kernel
theorem lensI_same {A B : List Sl} (h : ∀ n, cntL B n = cntL A n) : lensI A B = List.replicate 17 0 := by
  apply List.ext_getElem
  · simp [lensI]
  · intro i h1 h2
    simp only [lensI, List.getElem_map, List.getElem_range, List.getElem_replicate, h]
    omega
theorem row_difb {W W' : World} {b n z : Nat} {e : TypeId} {v : Value} {l : List Value} (h : W.ownsRow (b + 1) e z v n l) (hd : Dif (fun k => k = b) W W') : W'.ownsRow (b + 1) e z v n l := by
  rcases h with ⟨h1, h2 | ⟨g, cap, cur, e1, e2, e3, e4⟩⟩
  · exact ⟨h1, .inl h2⟩
  · exact ⟨h1, .inr ⟨g, cap, cur, e1, e2, (hd.block g (Array.getElem?_eq_some_iff.1 e3).1 (by omega)).trans e3, e4⟩⟩
theorem ownL_difb {W W' : World} {b : Nat} {v : Value} {L : List Sl} {us : List Value} (h : OwnL W (b + 1) v L us) (hd : Dif (fun k => k = b) W W') : OwnL W' (b + 1) v L us :=
  ⟨row_difb h.row hd, h.len, fun k s u h1 h2 => row_difb (h.each k s u h1 h2) hd, h.two⟩

end Go.Proofs.YthjgldjjplcncabDoor.Skt
