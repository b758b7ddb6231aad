/-
  What the listed variables of a row of layer 7 give (the four ways), and a world in which it is laid, for the witness.
-/
import Derived.Test.YthjgldjjplcncabDoorGgd
import Derived.Test.YthjgldjjplcncabDoorCards
import Derived.Test.YthjgldjjplcncabDoorTie
import Derived.ProofKit
import Derived.OpenShut
import Derived.Deep.DeepHandedRow
import Derived.Deep.DeepWitnessRowRef
import Derived.Lib.LaidIn
import Derived.Lib.LaidTab
import Derived.Lay
import Derived.PinnedBridge
import Derived.Test.YthjgldjjplcncabDoorDec
import Derived.Lib.LaidU8T
namespace Go.Proofs.YthjgldjjplcncabDoor.Grd
open Go Go.Lib Go.RowKit Go.ChangeShapes Go.WideShapes Go.ChangeAt

theorem own : ownKnob Tryd.prog.godebug = none := by kernel_rfl
theorem cells_of_pair {H : Type} {enc : TypeId × Value → H} {w : World} {base : Nat} {sp : Nat → Bool} {held : Bool} {fuel : Nat} {cs : List Value} {x y : Int} {q : DataW H × List MemPlace}
    (h : DataW.trod enc Tryd.prog w base sp held fuel 79 cs = some q) (hq : q.1 = .agg [.lit (.int .i64 x), .lit (.int .i64 y)]) : cs = [.int .i64 x, .int .i64 y] := by
  obtain ⟨q1, q2⟩ := q
  subst hq
  exact cells_of_tab (zs := [x, y]) (by kernel_rfl : Tryd.prog.underlying 79 = some (.array 2 3)) Tryd.underlying3 (by kernel_rfl) (by kernel_rfl) h
/-- WHAT THE ROW's LIST GIVES: the four ways. -/
theorem laidVars_mem {W : World} {n : String} {d : DataW Unit} : ∀ {l : List (String × DataW Unit)} {ps : List MemPlace}, DataW.LaidVars Tryd.prog W l ps → (n, d) ∈ l →
    ∃ g t cs fuel p, Tryd.prog.globalNamed n = some g ∧ (Tryd.prog.globals[g]?).map (·.type) = some t ∧ W.var? Tryd.prog n = some cs ∧ DataW.trod (fun _ => ()) Tryd.prog W 0 (fun _ => true) false fuel t cs.toList = some (d, p)
  | [], _, _, hm => by cases hm
  | (n', d') :: r, ps, h, hm => by
    obtain ⟨g', t', cs, fuel, p, q, hg', ht', hvar, hd, hr, _⟩ := h
    rcases List.mem_cons.1 hm with e | e
    · cases e
      exact ⟨g', t', cs, fuel, p, hg', ht', hvar, hd⟩
    · exact laidVars_mem hr e
theorem wy_of_mem {W : World} {l : List (String × DataW Unit)} (hm : ("rebus/grid.ways", Rows.laid_rebus_grid_ways) ∈ l) (h : laidMet Tryd.prog l W) : Wy W := by
  obtain ⟨ps, hv, _⟩ := h
  obtain ⟨g', t', cs, fuel, p, hg', ht', hvar, hd⟩ := laidVars_mem hv hm
  have hg : Tryd.prog.globalNamed "rebus/grid.ways" = some 0 := by kernel_rfl
  have hty : (Tryd.prog.globals[0]?).map (·.type) = some 102 := by kernel_rfl
  obtain rfl := Option.some.inj (hg.symm.trans hg')
  obtain rfl := Option.some.inj (hty.symm.trans ht')
  obtain ⟨xs, m, _, hx, hl, hxl, hxs⟩ := DataW.trod_array (by kernel_rfl : Tryd.prog.underlying 102 = some (.array 4 79)) hd
  rw [show Tryd.prog.cellsOf 79 = 2 by kernel_rfl] at hxs
  match xs, hxl with
  | [y0, y1, y2, y3], _ =>
    have hy : [y0.1, y1.1, y2.1, y3.1] = [.agg [.lit (.int .i64 0), .lit (.int .i64 1)], .agg [.lit (.int .i64 1), .lit (.int .i64 0)], .agg [.lit (.int .i64 0), .lit (.int .i64 (-1))], .agg [.lit (.int .i64 (-1)), .lit (.int .i64 0)]] := by
      have := congrArg Prod.fst hx
      simp only [Rows.laid_rebus_grid_ways, DataW.agg.injEq] at this
      exact this.symm
    simp only [List.cons.injEq, and_true] at hy
    obtain ⟨e0, e1, e2, e3⟩ := hy
    have d0 := cells_of_pair (hxs 0 (by omega)) e0
    have d1 := cells_of_pair (hxs 1 (by omega)) e1
    have d2 := cells_of_pair (hxs 2 (by omega)) e2
    have d3 := cells_of_pair (hxs 3 (by omega)) e3
    have at0 : ∀ (i k : Nat) (x y : Value), (cs.toList.drop i).take 2 = [x, y] → cs[i]? = some x ∧ cs[i + 1]? = some y := fun i k x y h => by
      have h0 := congrArg (·[0]?) h
      have h1 := congrArg (·[1]?) h
      simp only [List.getElem?_take, List.getElem?_drop] at h0 h1
      exact ⟨by simpa using h0, by simpa using h1⟩
    have v := fun i => World.var?_cell hg hvar i
    refine ⟨?_, ?_, ?_, ?_, ?_, ?_, ?_, ?_⟩
    · rw [v 0]; exact (at0 0 0 _ _ d0).1
    · rw [v 1]; exact (at0 0 0 _ _ d0).2
    · rw [v 2]; exact (at0 2 0 _ _ d1).1
    · rw [v 3]; exact (at0 2 0 _ _ d1).2
    · rw [v 4]; exact (at0 4 0 _ _ d2).1
    · rw [v 5]; exact (at0 4 0 _ _ d2).2
    · rw [v 6]; exact (at0 6 0 _ _ d3).1
    · rw [v 7]; exact (at0 6 0 _ _ d3).2
end Go.Proofs.YthjgldjjplcncabDoor.Grd
/-
  What the three listed variables of a row of layer 8 give (the four ways, the two tables of unicode/utf8), and a world in which they are laid, for the witness.
-/
namespace Go.Proofs.YthjgldjjplcncabDoor.Skl
open Go Go.Lib Go.RowKit Go.ChangeShapes Go.WideShapes Go.ChangeAt Grd

theorem acceptData_eq : Rows.laid_unicode_utf8_acceptRanges = Lib.acceptData := by kernel_rfl
theorem firstData_eq : Rows.laid_unicode_utf8_first = Lib.firstData := Pinned.utf8First_eq
theorem tabs_of {W : World} (h : laidMetH Tryd.prog [("unicode/utf8.acceptRanges", Rows.laid_unicode_utf8_acceptRanges), ("rebus/grid.ways", Rows.laid_rebus_grid_ways), ("unicode/utf8.first", Rows.laid_unicode_utf8_first)] W) : Lib.Utf8Tabs 1 2 W := by
  rw [acceptData_eq, firstData_eq] at h
  rw [MakeChecks.laidMetH_plain _ _ _ (by kernel_rfl)] at h
  exact utf8Tabs_of_readsT (U8Types.of260 Tryd.lays260) ⟨by kernel_rfl, by kernel_rfl, by kernel_rfl, by kernel_rfl, by kernel_rfl, by kernel_rfl, by kernel_rfl⟩ (Lib.laidMet.reads h (.tail _ (.tail _ (.head _)))) (Lib.laidMet.reads h (.head _))
theorem wy_of {W : World} (h : laidMetH Tryd.prog [("unicode/utf8.acceptRanges", Rows.laid_unicode_utf8_acceptRanges), ("rebus/grid.ways", Rows.laid_rebus_grid_ways), ("unicode/utf8.first", Rows.laid_unicode_utf8_first)] W) : Wy W := by
  rw [MakeChecks.laidMetH_plain _ _ _ (by kernel_rfl)] at h
  exact wy_of_mem (List.mem_cons_of_mem _ (List.mem_cons_self ..)) h
theorem laid_met (os : Os) (args : Array Value) : laidMet Tryd.prog [("unicode/utf8.acceptRanges", Rows.laid_unicode_utf8_acceptRanges), ("rebus/grid.ways", Rows.laid_rebus_grid_ways), ("unicode/utf8.first", Rows.laid_unicode_utf8_first)] ((World.laidAll Tryd.prog os [("unicode/utf8.acceptRanges", Rows.laid_unicode_utf8_acceptRanges), ("rebus/grid.ways", Rows.laid_rebus_grid_ways), ("unicode/utf8.first", Rows.laid_unicode_utf8_first)]).forCall (fun _ _ => 0) ⟨#[], args, []⟩).memory :=
  laidMet_laidAll _ (by kernel_rfl) (by kernel_rfl)
end Go.Proofs.YthjgldjjplcncabDoor.Skl
