/-
  What the three listed variables of a card of layer 10 give (math/bits's table, the two tables of unicode/utf8), and a world in which they are laid, for the witness.
-/
import Derived.Test.YtcocbjipikeebaaDoorGms
import Derived.Test.YtcocbjipikeebaaDoorDec
import Derived.Lib.LaidU8T
import Derived.Test.YtcocbjipikeebaaDoorCards
import Derived.Test.YtcocbjipikeebaaDoorTie
import Derived.ProofKit
import Derived.OpenShut
import Derived.Deep.DeepHandedRow
import Derived.Deep.DeepWitnessRowRef
import Derived.Lib.LaidIn
import Derived.Lib.LaidTab
import Derived.Lay
import Derived.PinnedBridge
import Derived.Test.YtcocbjipikeebaaDoorRows
import Derived.Carry
import Derived.Lib.Walk
import Derived.Test.YtcocbjipikeebaaDoorNewq
import Derived.Test.YtcocbjipikeebaaDoorGxa
import Derived.SliceStrings
import Derived.Test.YtcocbjipikeebaaDoorGps
import Derived.ChangeArms
namespace Go.Proofs.YtcocbjipikeebaaDoor.Lx10
open Go Go.Lib Go.RowKit Go.ChangeShapes Go.WideShapes Go.ChangeAt

theorem own10 : ownKnob Tryd.prog.godebug = none := by kernel_rfl
theorem tabData_eq : Rows.laid_math_bits_deBruijn64tab = Lib.tabData (H := Unit) .u8 (deBruijn64tab.map fun n : Nat => (n : Int)) := by kernel_rfl
theorem acceptData_eq : Rows.laid_unicode_utf8_acceptRanges = Lib.acceptData := by kernel_rfl
theorem firstData_eq : Rows.laid_unicode_utf8_first = Lib.firstData := Pinned.utf8First_eq
/-- WHAT THE ROW's LIST GIVES: the table. -/
theorem tab_of10 {W : World} (h : laidMetH Tryd.prog [("math/bits.deBruijn64tab", Rows.laid_math_bits_deBruijn64tab), ("unicode/utf8.acceptRanges", Rows.laid_unicode_utf8_acceptRanges), ("unicode/utf8.first", Rows.laid_unicode_utf8_first)] W) : Msk.Tab W := by
  rw [tabData_eq] at h
  rw [MakeChecks.laidMetH_plain _ _ _ (by kernel_rfl)] at h
  have ht : TabIs Tryd.prog W "math/bits.deBruijn64tab" .u8 (deBruijn64tab.map fun n : Nat => (n : Int)) :=
    tabIs_of_head (g := 0) (t := 112) (e := 5) (n := 64) (by kernel_rfl) (by kernel_rfl) (by kernel_rfl) (by kernel_rfl) (by kernel_rfl) (by kernel_rfl) h
  intro j hj
  have := ht.cell (g := 0) (by kernel_rfl) j (by simp [deBruijn64tab]; omega)
  rw [this]
  congr 2
  have hl : j < deBruijn64tab.length := hj
  simp [List.getD_eq_getElem?_getD, List.getElem?_eq_getElem hl]
theorem tabs_of10 {W : World} (h : laidMetH Tryd.prog [("math/bits.deBruijn64tab", Rows.laid_math_bits_deBruijn64tab), ("unicode/utf8.acceptRanges", Rows.laid_unicode_utf8_acceptRanges), ("unicode/utf8.first", Rows.laid_unicode_utf8_first)] W) : Lib.Utf8Tabs 1 2 W := by
  rw [acceptData_eq, firstData_eq] at h
  rw [MakeChecks.laidMetH_plain _ _ _ (by kernel_rfl)] at h
  exact utf8Tabs_of_readsT (U8Types.of260 Tryd.lays260) ⟨by kernel_rfl, by kernel_rfl, by kernel_rfl, by kernel_rfl, by kernel_rfl, by kernel_rfl, by kernel_rfl⟩ (Lib.laidMet.reads h (.tail _ (.tail _ (.head _)))) (Lib.laidMet.reads h (.tail _ (.head _)))
theorem laid_met10 (os : Os) (args : Array Value) : laidMet Tryd.prog [("math/bits.deBruijn64tab", Rows.laid_math_bits_deBruijn64tab), ("unicode/utf8.acceptRanges", Rows.laid_unicode_utf8_acceptRanges), ("unicode/utf8.first", Rows.laid_unicode_utf8_first)] ((World.laidAll Tryd.prog os [("math/bits.deBruijn64tab", Rows.laid_math_bits_deBruijn64tab), ("unicode/utf8.acceptRanges", Rows.laid_unicode_utf8_acceptRanges), ("unicode/utf8.first", Rows.laid_unicode_utf8_first)]).forCall (fun _ _ => 0) ⟨#[], args, []⟩).memory :=
  laidMet_laidAll _ (by kernel_rfl) (by kernel_rfl)
end Go.Proofs.YtcocbjipikeebaaDoor.Lx10
/-
  What a reading's bulk is at least.
-/
namespace Go.Proofs.YtcocbjipikeebaaDoor.Utf
open Go Go.Lib Go.RowKit Go.ChangeShapes Go.WideShapes Go.ChangeAt

theorem laidOut : laidOutB Tryd.prog = true := by kernel_rfl
theorem bulk_pos {H : Type} (d : DataW H) : 1 ≤ Rows.uptoBulk d := by
  cases d
  case lit l => cases l <;> simp only [Rows.uptoBulk] <;> omega
  all_goals (simp only [Rows.uptoBulk]; omega)
theorem bulk_len {H : Type} (l : List (DataW H)) : l.length ≤ Rows.uptoBulkAll l := by
  induction l with
  | nil => exact Nat.zero_le _
  | cons d r ih =>
    have := bulk_pos d
    simp only [Rows.uptoBulkAll, List.length_cons]
    omega
theorem cell_lt {W : World} {b off : Nat} {v : Value} (h : W.cell? ⟨b, off, none⟩ = some v) : b < W.heap.size := by
  by_cases hb : b < W.heap.size
  · exact hb
  · have e : W.heap[b]? = none := Array.getElem?_eq_none (by omega)
    simp [World.cell?, e] at h
end Go.Proofs.YtcocbjipikeebaaDoor.Utf
/-
  A slice of strings that came in: its texts, its cells, and that a reading's bulk is at least its length and its texts' lengths. The same of a slice of numbers.
-/
namespace Go.Proofs.YtcocbjipikeebaaDoor.Utf
open Go Go.Lib Go.RowKit Go.ChangeShapes Go.WideShapes Go.ChangeAt
set_option maxRecDepth 100000

theorem cells9 : Tryd.prog.cellsOf 9 = 1 := by kernel_rfl
theorem cells3 : Tryd.prog.cellsOf 3 = 1 := by kernel_rfl
theorem bulk_str {H : Type} (l : List ByteArray) : ∀ s ∈ l, s.size ≤ Rows.uptoBulkAll (strs (H := H) l) := by
  induction l with
  | nil => intro s hs; cases hs
  | cons x r ih =>
    intro s hs
    simp only [strs, List.map_cons, Rows.uptoBulkAll, Rows.uptoBulk] at *
    rcases List.mem_cons.1 hs with rfl | h
    · have : s.data.toList.length = s.size := Array.length_toList
      omega
    · have := ih s h
      omega
theorem open_strArg {H : Type} {enc : TypeId × Value → H} {W : World} {base : Nat} {v : Value} {d : DataW H} {ps : List MemPlace} (hval : Value.okWide Tryd.prog W .any base 22 v) (h : DataW.Trod enc Tryd.prog W 0 (fun _ => true) true 22 v d ps) :
    ∃ (L : List ByteArray) (ao : Option Addr) (cap : Nat), v = .slice ao L.length cap ∧ L.length ≤ Rows.uptoBulk d ∧ (∀ s ∈ L, s.size ≤ Rows.uptoBulk d) ∧ L.length ≤ cap ∧ (ao = none → cap = 0) ∧ ReadsO W ao (L.map Value.string) := by
  obtain ⟨a1, len, cap, rfl⟩ := okWide_slice Tryd.underlying22 hval
  obtain ⟨fuel, hf⟩ := h
  rcases open_strings Tryd.underlying22 Tryd.underlying9 cells9 hf with ⟨hcs, hx⟩ | ⟨a, len', cap', ss, hcs, _, hl, hm, hz, hx, hcell, hws⟩
  · simp [Value.cells] at hcs
    obtain ⟨rfl, rfl, rfl⟩ := hcs
    exact ⟨[], none, 0, rfl, Nat.zero_le _, fun _ h => (by cases h), Nat.le_refl _, fun _ => rfl, fun j hj => by simp at hj⟩
  · simp [Value.cells] at hcs
    obtain ⟨rfl, rfl, rfl⟩ := hcs
    simp only [Prod.mk.injEq] at hx
    obtain ⟨rfl, rfl⟩ := hx
    simp only [if_true] at hz
    have hlen : (ss.take len).length = len := by rw [List.length_take]; omega
    refine ⟨ss.take len, some a, cap, by rw [hlen], ?_, fun s hs => ?_, by omega, fun h => (by cases h), fun j hj => ?_⟩
    · have := bulk_len (H := H) (strs (ss.take len))
      simp only [strs, List.length_map] at this
      simp only [Rows.uptoBulk, strs]
      omega
    · have := bulk_str (H := H) (ss.take len) s hs
      simp only [Rows.uptoBulk]
      omega
    · rw [List.length_map, hlen] at hj
      have hci := hcell j (by omega)
      obtain ⟨ab, ao, spot⟩ := a
      have hspot : spot = none := by simpa [Addr.add] using World.cell?_spot (hcell 0 (by omega))
      subst hspot
      rw [Addr.add_lit] at hci
      refine ⟨ab, ao, rfl, cell_lt hci, ?_⟩
      rw [hci, List.getElem_map, List.getElem_take, List.getD_eq_getElem?_getD, List.getElem?_eq_getElem (by omega)]
      rfl
theorem open_intArg {H : Type} {enc : TypeId × Value → H} {W : World} {base : Nat} {v : Value} {d : DataW H} {ps : List MemPlace} (hval : Value.okWide Tryd.prog W .any base 42 v) (h : DataW.Trod enc Tryd.prog W 0 (fun _ => true) true 42 v d ps) :
    ∃ (zs : List Int) (ao : Option Addr) (cap : Nat), v = .slice ao zs.length cap ∧ zs.length ≤ Rows.uptoBulk d ∧ (∀ n ∈ zs, -9223372036854775808 ≤ n ∧ n ≤ 9223372036854775807) ∧ ReadsO W ao (ints zs) := by
  obtain ⟨a1, len, cap, rfl⟩ := okWide_slice Tryd.underlying42 hval
  obtain ⟨fuel, hf⟩ := h
  rcases open_ints Tryd.underlying42 Tryd.underlying3 cells3 hf with ⟨hcs, hx⟩ | ⟨a, len', cap', zs, hcs, _, hl, hm, hz, hx, hcell, hwz⟩
  · simp [Value.cells] at hcs
    obtain ⟨rfl, rfl, rfl⟩ := hcs
    exact ⟨[], none, 0, rfl, Nat.zero_le _, fun _ h => (by cases h), fun j hj => by simp [ints] at hj⟩
  · simp [Value.cells] at hcs
    obtain ⟨rfl, rfl, rfl⟩ := hcs
    simp only [Prod.mk.injEq] at hx
    obtain ⟨rfl, rfl⟩ := hx
    simp only [if_true] at hz
    have hlen : (zs.take len).length = len := by rw [List.length_take]; omega
    refine ⟨zs.take len, some a, cap, by rw [hlen], ?_, fun n hn => bounds_i64 (hwz n (List.mem_of_mem_take hn)), fun j hj => ?_⟩
    · have := bulk_len (H := H) (lits .i64 (zs.take len))
      simp only [lits, List.length_map] at this
      simp only [Rows.uptoBulk, lits]
      omega
    · rw [ints, List.length_map, hlen] at hj
      have hci := hcell j (by omega)
      obtain ⟨ab, ao, spot⟩ := a
      have hspot : spot = none := by simpa [Addr.add] using World.cell?_spot (hcell 0 (by omega))
      subst hspot
      rw [Addr.add_lit] at hci
      refine ⟨ab, ao, rfl, cell_lt hci, ?_⟩
      rw [hci, show (ints (zs.take len))[j]'(by rw [ints, List.length_map]; omega) = Value.int .i64 ((zs.take len)[j]'(by omega)) by simp [ints], List.getElem_take, List.getD_eq_getElem?_getD, List.getElem?_eq_getElem (by omega)]
      rfl
end Go.Proofs.YtcocbjipikeebaaDoor.Utf
/-
  Two lists of masks that came in as an array.
-/
namespace Go.Proofs.YtcocbjipikeebaaDoor.Utf
open Go Go.Lib Go.RowKit Go.ChangeShapes Go.WideShapes Go.ChangeAt
set_option maxRecDepth 100000

theorem cellsU64 : Tryd.prog.cellsOf 39 = 1 := by kernel_rfl
theorem cellsMs : Tryd.prog.cellsOf 23 = 1 := by kernel_rfl
theorem underU64 : Tryd.prog.underlying 39 = some (.int .u64) := by kernel_rfl
theorem underMs : Tryd.prog.underlying 23 = some (.slice 39) := by kernel_rfl
theorem bounds_u64 {n : Int} (h : (Lit.int .u64 n).wf = true) : 0 ≤ n ∧ n < 18446744073709551616 := by
  simp only [Lit.wf, Bool.and_eq_true, decide_eq_true_eq] at h
  have h1 : IntKind.u64.min = 0 := by rfl
  have h2 : IntKind.u64.max = 18446744073709551615 := by rfl
  omega
/-- A list of masks within something that came in. -/
theorem open_msksF {H : Type} {enc : TypeId × Value → H} {W : World} {fuel : Nat} {c : Value} {y : DataW H × List MemPlace} (h : DataW.trod enc Tryd.prog W 0 (fun _ => true) true fuel 23 [c] = some y) :
    ∃ (p : List Nat) (ao : Option Addr) (cap : Nat), c = .slice ao p.length cap ∧ p.length ≤ Rows.uptoBulk y.1 ∧ ReadsO W ao (msks p) ∧ Low p := by
  rcases open_ints underMs underU64 cellsU64 h with ⟨hcs, rfl⟩ | ⟨a, len, cap, zs, hcs, _, hl, hm, hz, rfl, hcell, hwz⟩
  · simp only [List.cons.injEq, and_true] at hcs
    subst hcs
    exact ⟨[], none, 0, rfl, Nat.zero_le _, fun j hj => by simp [msks] at hj, fun _ h => by cases h⟩
  · simp only [List.cons.injEq, and_true] at hcs
    subst hcs
    simp only [if_true] at hz
    have hlen : ((zs.take len).map Int.toNat).length = len := by rw [List.length_map, List.length_take]; omega
    refine ⟨(zs.take len).map Int.toNat, some a, cap, by rw [hlen], ?_, fun j hj => ?_, fun m hm => ?_⟩
    · have := bulk_len (H := H) (lits .u64 (zs.take len))
      simp only [lits, List.length_map] at this
      rw [hlen]
      rw [List.length_take] at this
      simp only [Rows.uptoBulk, lits]
      omega
    · rw [msks_len, hlen] at hj
      have hci := hcell j (by omega)
      obtain ⟨ab, ao, spot⟩ := a
      have hspot : spot = none := by simpa [Addr.add] using World.cell?_spot (hcell 0 (by omega))
      subst hspot
      rw [Addr.add_lit] at hci
      have hb := (bounds_u64 (hwz zs[j] (List.getElem_mem (by omega)))).1
      refine ⟨ab, ao, rfl, cell_lt hci, ?_⟩
      rw [hci, List.getD_eq_getElem?_getD, List.getElem?_eq_getElem (by omega)]
      simp only [msks, List.getElem_map, List.getElem_take, Option.getD_some, Int.toNat_of_nonneg hb]
    · obtain ⟨z, hz2, rfl⟩ := List.mem_map.1 hm
      have := bounds_u64 (hwz z (List.mem_of_mem_take hz2))
      omega
theorem open_mskArg {H : Type} {enc : TypeId × Value → H} {W : World} {base : Nat} {v : Value} {d : DataW H} {ps : List MemPlace} (hval : Value.okWide Tryd.prog W .any base 23 v) (h : DataW.Trod enc Tryd.prog W 0 (fun _ => true) true 23 v d ps) :
    ∃ (p : List Nat) (ao : Option Addr) (cap : Nat), v = .slice ao p.length cap ∧ p.length ≤ Rows.uptoBulk d ∧ ReadsO W ao (msks p) ∧ Low p := by
  obtain ⟨a1, len, cap, rfl⟩ := okWide_slice underMs hval
  obtain ⟨fuel, hf⟩ := h
  exact open_msksF (y := (d, ps)) hf
end Go.Proofs.YtcocbjipikeebaaDoor.Utf
/-
  A list of masks that came in; a nil one has no room.
-/
namespace Go.Proofs.YtcocbjipikeebaaDoor.Utf
open Go Go.Lib Go.RowKit Go.ChangeShapes Go.WideShapes Go.ChangeAt
set_option maxRecDepth 100000

theorem open_mskArgN {H : Type} {enc : TypeId × Value → H} {W : World} {base : Nat} {v : Value} {d : DataW H} {ps : List MemPlace} (hval : Value.okWide Tryd.prog W .any base 23 v) (h : DataW.Trod enc Tryd.prog W 0 (fun _ => true) true 23 v d ps) :
    ∃ (p : List Nat) (ao : Option Addr) (cap : Nat), v = .slice ao p.length cap ∧ p.length ≤ Rows.uptoBulk d ∧ ReadsO W ao (msks p) ∧ Low p ∧ (ao = none → cap = 0) := by
  obtain ⟨p, ao, cap, rfl, h1, h2, h3⟩ := open_mskArg hval h
  refine ⟨p, ao, cap, rfl, h1, h2, h3, fun e => ?_⟩
  subst e
  obtain ⟨fuel, hf⟩ := h
  rcases DataW.trod_slice underMs hf with ⟨hcs, _⟩ | ⟨a, len', cap', elems, rest, n, _, hcs, _⟩
  · simp [Value.cells] at hcs
    exact hcs.2
  · simp [Value.cells] at hcs
end Go.Proofs.YtcocbjipikeebaaDoor.Utf
