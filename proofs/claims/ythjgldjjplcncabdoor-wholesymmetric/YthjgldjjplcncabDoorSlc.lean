/-
  The closure that gathers a run.
-/
import Derived.Test.YthjgldjjplcncabDoorSlb
namespace Go.Proofs.YthjgldjjplcncabDoor.Grd
open Go Go.Lib Go.RowKit

/-- What is left of a run behind a cell from which this step leads. -/
def Gr.rest (g : Gr) (d : Nat) (o : Option Nat) : List Nat := match o with | some j => g.run d j | none => []
def Gr.left (g : Gr) (o : Option Nat) : Nat := match o with | some j => g.n - j | none => 0
theorem Gr.run_rest {g : Gr} (hW : 0 < g.W) {d i : Nat} (hd : d < 2) : g.run d i = i :: g.rest d (g.st i d) := by
  cases h : g.st i d with
  | none => exact Gr.run_none h
  | some j => exact Gr.run_some hW hd h
theorem Gr.run_len256 {g : Gr} (hz : Sz g) (d i : Nat) : (g.run d i).length ≤ 257 := Nat.le_trans (g.run_len d i) (by have := hz.n_le.2; omega)

set_option maxHeartbeats 1000000 in
theorem run_any (g : Gr) (p : Ad) (hz : Sz g) (i : Nat) (hi : i < g.n) (dn : Bool) (gb : Nat) (w : World) (hX : Bx w gb g p) (hR : RG w g p) :
    Calls Tryd.prog 24 #[.int .i64 i, .bool dn, .pointer (some ⟨gb, 0, none⟩)] w fun e w' => ∃ v, e = .returned v ∧ w'.ownsRow w.heap.size 3 1 v (g.run (way dn) i).length (cellsI (ints (g.run (way dn) i))) ∧ Below w.heap.size w w' := by
  obtain ⟨i0, hi0, hz0, hz1, hz2⟩ := info_parts infoInt
  have HO : Aside (∀ b, b < g.n → ∀ W, Below w.heap.size w W → Calls Tryd.prog 25 #[gv g p, .int .i64 (b : Nat), .bool dn] W fun e w' => e = .returned (opt (g.st b (way dn))) ∧ Below W.heap.size W w') := fun b hb W h => onward_any g p hz b hb dn W (hR.below h)
  have HX : Aside (Bx w gb g p) := hX
  have hgb := hX.lt
  have hn := hz.n_le.2
  have HI : Aside (i < g.n) := hi
  have hi2 : i < 256 := by omega
  have HU : Aside (∀ b j, g.st b (way dn) = some j → b < j ∧ j < g.n) := fun b j h => by have := Gr.st_up hz.sw.1 (way_lt dn) h; omega
  have HRR : Aside (∀ b, g.run (way dn) b = b :: g.rest (way dn) (g.st b (way dn))) := fun b => Gr.run_rest hz.sw.1 (way_lt dn)
  have HL : Aside ((g.run (way dn) i).length ≤ 257) := Gr.run_len256 hz _ _
  clear hX hR hz hi
  unfold gv opt at HO
  have cO := HO.out i HI.out (w.alloc (Obj.cells #[Value.int IntKind.i64 (i : Int)] 3)) (below_box w _)
  obtain ⟨_, k0, k1, k2, k3, k4⟩ := HX.out
  go_enter Tryd.func24, Tryd.ntmps24
  go_wp2_with fail
  refine cO.mono ?_
  rintro e w1 ⟨rfl, hb1⟩
  have HB1 : Aside (Below w.heap.size w w1) := (below_box w _).trans (hb1.mono (below_box w _).size)
  have HOW : Aside (w1.ownsRow w.heap.size 3 1 (.slice (some ⟨w.heap.size, 0, none⟩) 1 1) 1 (cellsI (ints [i]))) :=
    row_keeps (W := w.alloc (.cells #[.int .i64 (i : Int)] 3)) ⟨rfl, .inr ⟨w.heap.size, 1, _, rfl, Nat.le_refl _, heap_alloc_new w _, Nat.le_refl _, by unfold maxLen; omega, rfl, rfl⟩⟩ hb1
  have HRi : Aside (g.run (way dn) i = [i] ++ g.rest (way dn) (g.st i (way dn))) := HRR.out i
  have HUi : Aside (∀ j, g.st i (way dn) = some j → j < g.n) := fun j h => (HU.out i j h).2
  clear cO hb1 k0 k1 k2 k3 k4
  have hle : g.left (g.st i (way dn)) ≤ g.n := by unfold Gr.left; split <;> omega
  generalize g.st i (way dn) = o0 at *
  go_wp2
  go_loopg [6, 7, 8] g.n (fun g1 cv jv ov wr => ∃ (L : List Nat) (o : Option Nat), jv = .int .i64 ((o.getD 0 : Nat) : Int) ∧ ov = .bool o.isSome ∧ g.left o ≤ g1 ∧ Aside (wr.ownsRow w.heap.size 3 1 cv L.length (cellsI (ints L))) ∧ Aside (g.run (way dn) i = L ++ g.rest (way dn) o) ∧ Aside (∀ j, o = some j → j < g.n) ∧ Aside (Below w.heap.size w wr))
  case atStart => exact ⟨[i], o0, rfl, rfl, hle, HOW, HRi, HUi, HB1⟩
  case round =>
    obtain ⟨L, o, rfl, rfl, hg, HO6, HRL, HUj, HBk⟩ := hrel
    cases o with
    | none =>
      simp only [Option.getD_none, Option.isSome_none]
      clear HOW HRi HUi hle hg
      go_wp2
      go_ret
      refine ⟨_, rfl, ?_, HBk.out⟩
      rw [HRL.out]
      simp only [Gr.rest, List.append_nil]
      exact HO6.out
    | some j =>
      have hj : j < g.n := HUj.out j rfl
      have hj2 : j < 256 := by omega
      have hzr := HBk.out.size
      have hLL : L.length ≤ 257 := by have := HL.out; rw [HRL.out, List.length_append] at this; omega
      simp only [Option.getD_some, Option.isSome_some]
      obtain ⟨_, k0, k1, k2, k3, k4⟩ := HX.out.below HBk.out HX.out.lt HBk.out.size
      have HLg : Aside (g.left (some j) = g.n - j) := rfl
      clear HOW HRi HUi hle
      go_wp2_with (at_builtin; refine wpList_append_own _ rfl _ _ 37 rfl w.heap.size 3 i0 (.int .i64 0) 1 8 Tryd.underlying37 hi0 hz0 hz1 hz2 rfl (by decide) _ _ _ rfl (HO6.out.alloc _) ⟨wr.heap.size, 0, none⟩ 1 1 [.int .i64 (j : Int)] rfl rfl (cell_one_new _ _ _) (by simp [Value.oneCell']) (by unfold maxLen; omega) (by omega) (by simp; omega) ?_)
      intro v' wa hown' hgrow _
      have HBa : Aside (Below w.heap.size w wa) := Below.grown (HBk.out.alloc hzr _) hgrow (by simp; omega) (fun j hj => (HO6.out.lt _ hj).1)
      have HOWa : Aside (wa.ownsRow w.heap.size 3 1 v' (L ++ [j]).length (cellsI (ints (L ++ [j])))) := by
        show wa.ownsRow _ _ _ _ _ _
        simp only [List.length_append, List.length_cons, List.length_nil, ints_snoc, cellsI_snoc]
        exact hown'
      have HRa : Aside (g.run (way dn) i = (L ++ [j]) ++ g.rest (way dn) (g.st j (way dn))) := by
        show _ = _
        rw [HRL.out, List.append_assoc]
        show L ++ g.run (way dn) j = _
        rw [HRR.out j]
        rfl
      have cO2 := HO.out j hj wa HBa.out
      have HUa : Aside (∀ k, g.st j (way dn) = some k → j < k ∧ k < g.n) := fun k h => HU.out j k h
      clear hown' hgrow k0 k1 k2 k3 k4
      obtain ⟨_, k0, k1, k2, k3, k4⟩ := HX.out.below HBa.out HX.out.lt HBa.out.size
      generalize g.st j (way dn) = o2 at *
      go_wp2_with fail
      refine cO2.mono ?_
      rintro e w3 ⟨rfl, hb3⟩
      have HBc : Aside (Below w.heap.size w w3) := HBa.out.trans (hb3.mono HBa.out.size)
      have HOWc : Aside (w3.ownsRow w.heap.size 3 1 v' (L ++ [j]).length (cellsI (ints (L ++ [j])))) := row_keeps HOWa.out hb3
      have hlt2 : g.left o2 < g.n - j := by
        cases o2 with
        | none => show 0 < g.n - j; omega
        | some k => have := HUa.out k rfl; show g.n - k < g.n - j; omega
      clear cO2 hb3 k0 k1 k2 k3 k4
      go_wp2
      go_roundg (g.left o2)
      case measure => have := HLg.out; omega
      case rel => exact ⟨L ++ [j], o2, rfl, rfl, Nat.le_refl _, HOWc, HRa, fun k h => (HUa.out k h).2, HBc⟩
end Go.Proofs.YthjgldjjplcncabDoor.Grd
