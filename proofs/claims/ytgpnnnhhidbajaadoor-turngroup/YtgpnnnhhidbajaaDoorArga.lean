/-
  An array of three numbers that came in.
-/
import Derived.Test.YtgpnnnhhidbajaaDoorTrna
import Derived.Test.YtgpnnnhhidbajaaDoorRows
import Derived.ProofKit
import Derived.OpenShut
import Derived.Carry
import Derived.SizedLaws
namespace Go.Proofs.YtgpnnnhhidbajaaDoor.Grd
open Go Go.Lib Go.RowKit Go.ChangeShapes Go.WideShapes Go.ChangeAt

theorem laidOutA : laidOutB Tryd.prog = true := by kernel_rfl
theorem cells3A : Tryd.prog.cellsOf 3 = 1 := by kernel_rfl
theorem cellsArr : Tryd.prog.cellsOf 40 = 3 := by kernel_rfl
theorem underArr : Tryd.prog.underlying 40 = some (.array 3 3) := by kernel_rfl
theorem open_arr3 {H : Type} {enc : TypeId × Value → H} {W : World} {base : Nat} {v : Value} {d : DataW H} {ps : List MemPlace} (hval : Value.okWide Tryd.prog W .any base 40 v) (h : DataW.Trod enc Tryd.prog W 0 (fun _ => true) true 40 v d ps) :
    ∃ (x y z : Int), v = .agg #[.int .i64 x, .int .i64 y, .int .i64 z] := by
  obtain ⟨cs, rfl, hcs⟩ : ∃ cs, v = .agg cs ∧ cs.size = Tryd.prog.cellsOf 40 := by
    simp only [Value.okWide, underArr] at hval
    obtain ⟨cs, h1, h2, _⟩ := hval
    exact ⟨cs, h1, h2⟩
  rw [cellsArr] at hcs
  obtain ⟨cs⟩ := cs
  match cs, hcs with
  | [x0, x1, x2], _ =>
    obtain ⟨fuel, hf⟩ := h
    obtain ⟨xs, n, _, _, _, hlen, hfs⟩ := DataW.trod_array underArr hf
    rw [cells3A] at hfs
    match xs, hlen with
    | [y0, y1, y2], _ =>
      have t0 : DataW.trod enc Tryd.prog W 0 (fun _ => true) true n 3 [x0] = some y0 := hfs 0 (by omega)
      have t1 : DataW.trod enc Tryd.prog W 0 (fun _ => true) true n 3 [x1] = some y1 := hfs 1 (by omega)
      have t2 : DataW.trod enc Tryd.prog W 0 (fun _ => true) true n 3 [x2] = some y2 := hfs 2 (by omega)
      obtain ⟨h0, hc0, _, _⟩ := DataW.trod_int Tryd.underlying3 t0
      obtain ⟨h1, hc1, _, _⟩ := DataW.trod_int Tryd.underlying3 t1
      obtain ⟨h2, hc2, _, _⟩ := DataW.trod_int Tryd.underlying3 t2
      simp only [List.cons.injEq, and_true] at hc0 hc1 hc2
      subst hc0 hc1 hc2
      exact ⟨h0, h1, h2, rfl⟩
end Go.Proofs.YtgpnnnhhidbajaaDoor.Grd
