/-
  A grid that came in, in the first form: its sides, its lists wherever they lie, their lengths by the bytes that a slice may take.
-/
import Derived.Test.YthjgldjjplcncabDoorGrdo
import Derived.Test.YthjgldjjplcncabDoorRows
import Derived.ProofKit
import Derived.OpenShut
import Derived.Carry
import Derived.SizedLaws
import Derived.ChangeSlices
import Derived.Deep.Grids
namespace Go.Proofs.YthjgldjjplcncabDoor.Grd
open Go Go.Lib Go.RowKit Go.ChangeShapes Go.WideShapes Go.ChangeAt Go.Deep

theorem laidOut : laidOutB Tryd.prog = true := by kernel_rfl
theorem cells4 : Tryd.prog.cellsOf 4 = 1 := by kernel_rfl
theorem cells3 : Tryd.prog.cellsOf 3 = 1 := by kernel_rfl
theorem cellsBs : Tryd.prog.cellsOf 25 = 1 := by kernel_rfl
theorem cellsGr : Tryd.prog.cellsOf 27 = 5 := by kernel_rfl
theorem bytes4 : Tryd.prog.bytesOf 4 = 1 := by kernel_rfl
theorem cell_lt {W : World} {b off : Nat} {v : Value} (h : W.cell? ⟨b, off, none⟩ = some v) : b < W.heap.size := by
  by_cases hb : b < W.heap.size
  · exact hb
  · have e : W.heap[b]? = none := Array.getElem?_eq_none (by omega)
    simp [World.cell?, e] at h
theorem open_boolsF {H : Type} {enc : TypeId × Value → H} {W : World} {fuel : Nat} {c : Value} {y : DataW H × List MemPlace} (h : DataW.trod enc Tryd.prog W 0 (fun _ => true) true fuel 25 [c] = some y) :
    ∃ (zs : List Bool) (ao : Option Addr) (cap : Nat), c = .slice ao zs.length cap ∧ (zs = [] ∨ ∃ elems spare, y.1 = .slice elems spare ∧ zs.length = elems.length) ∧ ReadsB W ao zs ∧ (ao = none → cap = 0) := by
  rcases open_bools Tryd.underlying25 Tryd.underlying4 cells4 h with ⟨hcs, rfl⟩ | ⟨a, len, cap, B, hcs, _, hl, hm, rfl, hcell⟩
  · simp only [List.cons.injEq, and_true] at hcs
    subst hcs
    exact ⟨[], none, 0, rfl, .inl rfl, fun j hj => absurd hj (by simp), fun _ => rfl⟩
  · simp only [List.cons.injEq, and_true] at hcs
    subst hcs
    refine ⟨(List.range len).map B, some a, cap, by simp, .inr ⟨_, _, rfl, by simp⟩, fun j hj => ?_, fun h => by cases h⟩
    rw [List.length_map, List.length_range] at hj
    have hci := hcell j (by omega)
    obtain ⟨ab, ao, spot⟩ := a
    have hspot : spot = none := by simpa [Addr.add] using World.cell?_spot (hcell 0 (by omega))
    subst hspot
    rw [Addr.add_lit] at hci
    refine ⟨ab, ao, rfl, cell_lt hci, ?_⟩
    rw [hci]
    simp [bt, hj]

set_option maxRecDepth 20000 in
theorem open_gridArg {H : Type} {enc : TypeId × Value → H} {W : World} {base : Nat} {v : Value} {d : DataW H} {ps : List MemPlace} (hval : Value.okWide Tryd.prog W .any base 27 v) (h : DataW.Trod enc Tryd.prog W 0 (fun _ => true) true 27 v d ps)
    (hsz : ∀ n ∈ d.weights Tryd.prog 27, n ≤ reachBytes) :
    ∃ (g : Gr) (p : Ad), v = gv g p ∧ RG W g p ∧ p.nz ∧ g.lenOk := by
  obtain ⟨cs, rfl, hcs⟩ := okWide_struct Tryd.underlying27 hval
  rw [cellsGr] at hcs
  obtain ⟨cs⟩ := cs
  match cs, hcs with
  | [x0, x1, x2, x3, x4], _ =>
    obtain ⟨fuel, hf⟩ := h
    obtain ⟨xs, n, _, hx, _, hlen, hfs⟩ := DataW.trod_struct Tryd.underlying27 hf
    match xs, hlen with
    | [y0, y1, y2, y3, y4], _ =>
      have t0 : DataW.trod enc Tryd.prog W 0 (fun _ => true) true n 3 (([x0, x1, x2, x3, x4].drop 0).take (Tryd.prog.cellsOf 3)) = some y0 := hfs 0 { name := "H", type := 3, offset := 0, embedded := false, tag := "", pkgPath := "", byteOffset := 0 } rfl
      rw [cells3] at t0
      replace t0 : DataW.trod enc Tryd.prog W 0 (fun _ => true) true n 3 [x0] = some y0 := t0
      have t1 : DataW.trod enc Tryd.prog W 0 (fun _ => true) true n 3 (([x0, x1, x2, x3, x4].drop 1).take (Tryd.prog.cellsOf 3)) = some y1 := hfs 1 { name := "W", type := 3, offset := 1, embedded := false, tag := "", pkgPath := "", byteOffset := 8 } rfl
      rw [cells3] at t1
      replace t1 : DataW.trod enc Tryd.prog W 0 (fun _ => true) true n 3 [x1] = some y1 := t1
      have t2 : DataW.trod enc Tryd.prog W 0 (fun _ => true) true n 25 (([x0, x1, x2, x3, x4].drop 2).take (Tryd.prog.cellsOf 25)) = some y2 := hfs 2 { name := "Block", type := 25, offset := 2, embedded := false, tag := "", pkgPath := "", byteOffset := 16 } rfl
      rw [cellsBs] at t2
      replace t2 : DataW.trod enc Tryd.prog W 0 (fun _ => true) true n 25 [x2] = some y2 := t2
      have t3 : DataW.trod enc Tryd.prog W 0 (fun _ => true) true n 25 (([x0, x1, x2, x3, x4].drop 3).take (Tryd.prog.cellsOf 25)) = some y3 := hfs 3 { name := "Right", type := 25, offset := 3, embedded := false, tag := "", pkgPath := "", byteOffset := 40 } rfl
      rw [cellsBs] at t3
      replace t3 : DataW.trod enc Tryd.prog W 0 (fun _ => true) true n 25 [x3] = some y3 := t3
      have t4 : DataW.trod enc Tryd.prog W 0 (fun _ => true) true n 25 (([x0, x1, x2, x3, x4].drop 4).take (Tryd.prog.cellsOf 25)) = some y4 := hfs 4 { name := "Below", type := 25, offset := 4, embedded := false, tag := "", pkgPath := "", byteOffset := 64 } rfl
      rw [cellsBs] at t4
      replace t4 : DataW.trod enc Tryd.prog W 0 (fun _ => true) true n 25 [x4] = some y4 := t4
      obtain ⟨h0, hc0, hy0, w0⟩ := DataW.trod_int Tryd.underlying3 t0
      obtain ⟨h1, hc1, hy1, w1⟩ := DataW.trod_int Tryd.underlying3 t1
      simp only [List.cons.injEq, and_true] at hc0 hc1
      subst hc0 hc1
      obtain ⟨z2, a2, c2, rfl, l2, r2, n2⟩ := open_boolsF t2
      obtain ⟨z3, a3, c3, rfl, l3, r3, n3⟩ := open_boolsF t3
      obtain ⟨z4, a4, c4, rfl, l4, r4, n4⟩ := open_boolsF t4
      have hd : d = .agg [y0.1, y1.1, y2.1, y3.1, y4.1] := by
        have := congrArg Prod.fst hx
        simpa using this
      have hw : d.weights Tryd.prog 27 = DataW.weightsEach Tryd.prog [3, 3, 25, 25, 25] [y0.1, y1.1, y2.1, y3.1, y4.1] := by
        rw [hd]
        simp only [DataW.weights, Tryd.underlying27]
        rfl
      rw [hw] at hsz
      have len : ∀ (j : Nat) (zs : List Bool) (y : DataW H), ([3, 3, 25, 25, 25] : List TypeId)[j]? = some 25 → [y0.1, y1.1, y2.1, y3.1, y4.1][j]? = some y → (zs = [] ∨ ∃ elems spare, y = .slice elems spare ∧ zs.length = elems.length) → zs.length ≤ 140737488355328 := fun j zs y hj hy hz => by
        rcases hz with rfl | ⟨el, sp, rfl, e⟩
        · exact Nat.zero_le _
        · have := hsz _ (DataW.weights_mem_each hj hy ((el.length + sp.length) * Tryd.prog.bytesOf 4) (by simp [DataW.weights, Tryd.underlying25]))
          rw [bytes4] at this
          simp only [reachBytes] at this
          omega
      exact ⟨⟨h0, h1, z2, z3, z4⟩, ⟨a2, c2, a3, c3, a4, c4⟩, rfl, ⟨r2, r3, r4⟩, ⟨n2, n3, n4⟩, ⟨len 2 z2 y2.1 rfl rfl l2, len 3 z3 y3.1 rfl rfl l3, len 4 z4 y4.1 rfl rfl l4⟩⟩
end Go.Proofs.YthjgldjjplcncabDoor.Grd
