/-
  What the three listed variables of a card of layer 10 give (math/bits's table, the two tables of unicode/utf8), and a world in which they are laid, for the witness.
-/
import Derived.Test.YtcocbjipikeebaaGreatDoorGms
import Derived.Test.YtcocbjipikeebaaGreatDoorDec
import Derived.Lib.LaidU8T
import Derived.Test.YtcocbjipikeebaaGreatDoorCards
import Derived.Test.YtcocbjipikeebaaGreatDoorTie
import Derived.ProofKit
import Derived.OpenShut
import Derived.Deep.DeepHandedRow
import Derived.Deep.DeepWitnessRowRef
import Derived.Lib.LaidIn
import Derived.Lib.LaidTab
import Derived.Lay
import Derived.PinnedBridge
import Derived.Test.YtcocbjipikeebaaGreatDoorRows
import Derived.Carry
import Derived.Lib.Walk
import Derived.Test.YtcocbjipikeebaaGreatDoorNewq
import Derived.Test.YtcocbjipikeebaaGreatDoorGxa
import Derived.SliceStrings
import Derived.Test.YtcocbjipikeebaaGreatDoorGnn
import Derived.ChangeArms
import Derived.Test.YtcocbjipikeebaaGreatDoorGps
namespace Go.Proofs.YtcocbjipikeebaaGreatDoor.Lx10
open Go Go.Lib Go.RowKit Go.ChangeShapes Go.WideShapes Go.ChangeAt

theorem own10 : ownKnob Tryz.prog.godebug = none := by kernel_rfl
theorem tabData_eq : Rows.laid_math_bits_deBruijn64tab = Lib.tabData (H := Unit) .u8 (deBruijn64tab.map fun n : Nat => (n : Int)) := by kernel_rfl
theorem acceptData_eq : Rows.laid_unicode_utf8_acceptRanges = Lib.acceptData := by kernel_rfl
theorem firstData_eq : Rows.laid_unicode_utf8_first = Lib.firstData := Pinned.utf8First_eq
/-- WHAT THE ROW's LIST GIVES: the table. -/
theorem tab_of10 {W : World} (h : laidMetH Tryz.prog [("math/bits.deBruijn64tab", Rows.laid_math_bits_deBruijn64tab), ("unicode/utf8.acceptRanges", Rows.laid_unicode_utf8_acceptRanges), ("unicode/utf8.first", Rows.laid_unicode_utf8_first)] W) : Msk.Tab W := by
  rw [tabData_eq] at h
  rw [MakeChecks.laidMetH_plain _ _ _ (by kernel_rfl)] at h
  have ht : TabIs Tryz.prog W "math/bits.deBruijn64tab" .u8 (deBruijn64tab.map fun n : Nat => (n : Int)) :=
    tabIs_of_head (g := 1) (t := 184) (e := 5) (n := 64) (by kernel_rfl) (by kernel_rfl) (by kernel_rfl) (by kernel_rfl) (by kernel_rfl) (by kernel_rfl) h
  intro j hj
  have := ht.cell (g := 1) (by kernel_rfl) j (by simp [deBruijn64tab]; omega)
  rw [this]
  congr 2
  have hl : j < deBruijn64tab.length := hj
  simp [List.getD_eq_getElem?_getD, List.getElem?_eq_getElem hl]
theorem tabs_of10 {W : World} (h : laidMetH Tryz.prog [("math/bits.deBruijn64tab", Rows.laid_math_bits_deBruijn64tab), ("unicode/utf8.acceptRanges", Rows.laid_unicode_utf8_acceptRanges), ("unicode/utf8.first", Rows.laid_unicode_utf8_first)] W) : Lib.Utf8Tabs 2 3 W := by
  rw [acceptData_eq, firstData_eq] at h
  rw [MakeChecks.laidMetH_plain _ _ _ (by kernel_rfl)] at h
  exact utf8Tabs_of_readsT (U8Types.of260 Tryz.lays260) ⟨by kernel_rfl, by kernel_rfl, by kernel_rfl, by kernel_rfl, by kernel_rfl, by kernel_rfl, by kernel_rfl⟩ (Lib.laidMet.reads h (.tail _ (.tail _ (.head _)))) (Lib.laidMet.reads h (.tail _ (.head _)))
theorem laid_met10 (os : Os) (args : Array Value) : laidMet Tryz.prog [("math/bits.deBruijn64tab", Rows.laid_math_bits_deBruijn64tab), ("unicode/utf8.acceptRanges", Rows.laid_unicode_utf8_acceptRanges), ("unicode/utf8.first", Rows.laid_unicode_utf8_first)] ((World.laidAll Tryz.prog os [("math/bits.deBruijn64tab", Rows.laid_math_bits_deBruijn64tab), ("unicode/utf8.acceptRanges", Rows.laid_unicode_utf8_acceptRanges), ("unicode/utf8.first", Rows.laid_unicode_utf8_first)]).forCall (fun _ _ => 0) ⟨#[], args, []⟩).memory :=
  laidMet_laidAll _ (by kernel_rfl) (by kernel_rfl)
end Go.Proofs.YtcocbjipikeebaaGreatDoor.Lx10
/-
  What a reading's bulk is at least.
-/
namespace Go.Proofs.YtcocbjipikeebaaGreatDoor.Utf
open Go Go.Lib Go.RowKit Go.ChangeShapes Go.WideShapes Go.ChangeAt

theorem laidOut : laidOutB Tryz.prog = true := by kernel_rfl
theorem bulk_pos {H : Type} (d : DataW H) : 1 ≤ Rows.uptoBulk d := by
  cases d
  case lit l => cases l <;> simp only [Rows.uptoBulk] <;> omega
  all_goals (simp only [Rows.uptoBulk]; omega)
theorem bulk_len {H : Type} (l : List (DataW H)) : l.length ≤ Rows.uptoBulkAll l := by
  induction l with
  | nil => exact Nat.zero_le _
  | cons d r ih =>
    have := bulk_pos d
    simp only [Rows.uptoBulkAll, List.length_cons]
    omega
theorem cell_lt {W : World} {b off : Nat} {v : Value} (h : W.cell? ⟨b, off, none⟩ = some v) : b < W.heap.size := by
  by_cases hb : b < W.heap.size
  · exact hb
  · have e : W.heap[b]? = none := Array.getElem?_eq_none (by omega)
    simp [World.cell?, e] at h
end Go.Proofs.YtcocbjipikeebaaGreatDoor.Utf
/-
  A slice of strings that came in: its texts, its cells, and that a reading's bulk is at least its length and its texts' lengths. The same of a slice of numbers.
-/
namespace Go.Proofs.YtcocbjipikeebaaGreatDoor.Utf
open Go Go.Lib Go.RowKit Go.ChangeShapes Go.WideShapes Go.ChangeAt
set_option maxRecDepth 100000

theorem cells9 : Tryz.prog.cellsOf 9 = 1 := by kernel_rfl
theorem cells3 : Tryz.prog.cellsOf 3 = 1 := by kernel_rfl
theorem bulk_str {H : Type} (l : List ByteArray) : ∀ s ∈ l, s.size ≤ Rows.uptoBulkAll (strs (H := H) l) := by
  induction l with
  | nil => intro s hs; cases hs
  | cons x r ih =>
    intro s hs
    simp only [strs, List.map_cons, Rows.uptoBulkAll, Rows.uptoBulk] at *
    rcases List.mem_cons.1 hs with rfl | h
    · have : s.data.toList.length = s.size := Array.length_toList
      omega
    · have := ih s h
      omega
theorem open_strArg {H : Type} {enc : TypeId × Value → H} {W : World} {base : Nat} {v : Value} {d : DataW H} {ps : List MemPlace} (hval : Value.okWide Tryz.prog W .any base 22 v) (h : DataW.Trod enc Tryz.prog W 0 (fun _ => true) true 22 v d ps) :
    ∃ (L : List ByteArray) (ao : Option Addr) (cap : Nat), v = .slice ao L.length cap ∧ L.length ≤ Rows.uptoBulk d ∧ (∀ s ∈ L, s.size ≤ Rows.uptoBulk d) ∧ L.length ≤ cap ∧ (ao = none → cap = 0) ∧ ReadsO W ao (L.map Value.string) := by
  obtain ⟨a1, len, cap, rfl⟩ := okWide_slice Tryz.underlying22 hval
  obtain ⟨fuel, hf⟩ := h
  rcases open_strings Tryz.underlying22 Tryz.underlying9 cells9 hf with ⟨hcs, hx⟩ | ⟨a, len', cap', ss, hcs, _, hl, hm, hz, hx, hcell, hws⟩
  · simp [Value.cells] at hcs
    obtain ⟨rfl, rfl, rfl⟩ := hcs
    exact ⟨[], none, 0, rfl, Nat.zero_le _, fun _ h => (by cases h), Nat.le_refl _, fun _ => rfl, fun j hj => by simp at hj⟩
  · simp [Value.cells] at hcs
    obtain ⟨rfl, rfl, rfl⟩ := hcs
    simp only [Prod.mk.injEq] at hx
    obtain ⟨rfl, rfl⟩ := hx
    simp only [if_true] at hz
    have hlen : (ss.take len).length = len := by rw [List.length_take]; omega
    refine ⟨ss.take len, some a, cap, by rw [hlen], ?_, fun s hs => ?_, by omega, fun h => (by cases h), fun j hj => ?_⟩
    · have := bulk_len (H := H) (strs (ss.take len))
      simp only [strs, List.length_map] at this
      simp only [Rows.uptoBulk, strs]
      omega
    · have := bulk_str (H := H) (ss.take len) s hs
      simp only [Rows.uptoBulk]
      omega
    · rw [List.length_map, hlen] at hj
      have hci := hcell j (by omega)
      obtain ⟨ab, ao, spot⟩ := a
      have hspot : spot = none := by simpa [Addr.add] using World.cell?_spot (hcell 0 (by omega))
      subst hspot
      rw [Addr.add_lit] at hci
      refine ⟨ab, ao, rfl, cell_lt hci, ?_⟩
      rw [hci, List.getElem_map, List.getElem_take, List.getD_eq_getElem?_getD, List.getElem?_eq_getElem (by omega)]
      rfl
theorem open_intArg {H : Type} {enc : TypeId × Value → H} {W : World} {base : Nat} {v : Value} {d : DataW H} {ps : List MemPlace} (hval : Value.okWide Tryz.prog W .any base 30 v) (h : DataW.Trod enc Tryz.prog W 0 (fun _ => true) true 30 v d ps) :
    ∃ (zs : List Int) (ao : Option Addr) (cap : Nat), v = .slice ao zs.length cap ∧ zs.length ≤ Rows.uptoBulk d ∧ (∀ n ∈ zs, -9223372036854775808 ≤ n ∧ n ≤ 9223372036854775807) ∧ ReadsO W ao (ints zs) := by
  obtain ⟨a1, len, cap, rfl⟩ := okWide_slice Tryz.underlying30 hval
  obtain ⟨fuel, hf⟩ := h
  rcases open_ints Tryz.underlying30 Tryz.underlying3 cells3 hf with ⟨hcs, hx⟩ | ⟨a, len', cap', zs, hcs, _, hl, hm, hz, hx, hcell, hwz⟩
  · simp [Value.cells] at hcs
    obtain ⟨rfl, rfl, rfl⟩ := hcs
    exact ⟨[], none, 0, rfl, Nat.zero_le _, fun _ h => (by cases h), fun j hj => by simp [ints] at hj⟩
  · simp [Value.cells] at hcs
    obtain ⟨rfl, rfl, rfl⟩ := hcs
    simp only [Prod.mk.injEq] at hx
    obtain ⟨rfl, rfl⟩ := hx
    simp only [if_true] at hz
    have hlen : (zs.take len).length = len := by rw [List.length_take]; omega
    refine ⟨zs.take len, some a, cap, by rw [hlen], ?_, fun n hn => bounds_i64 (hwz n (List.mem_of_mem_take hn)), fun j hj => ?_⟩
    · have := bulk_len (H := H) (lits .i64 (zs.take len))
      simp only [lits, List.length_map] at this
      simp only [Rows.uptoBulk, lits]
      omega
    · rw [ints, List.length_map, hlen] at hj
      have hci := hcell j (by omega)
      obtain ⟨ab, ao, spot⟩ := a
      have hspot : spot = none := by simpa [Addr.add] using World.cell?_spot (hcell 0 (by omega))
      subst hspot
      rw [Addr.add_lit] at hci
      refine ⟨ab, ao, rfl, cell_lt hci, ?_⟩
      rw [hci, show (ints (zs.take len))[j]'(by rw [ints, List.length_map]; omega) = Value.int .i64 ((zs.take len)[j]'(by omega)) by simp [ints], List.getElem_take, List.getD_eq_getElem?_getD, List.getElem?_eq_getElem (by omega)]
      rfl
end Go.Proofs.YtcocbjipikeebaaGreatDoor.Utf
/-
  A slice of words that came in: its words, wherever their cells lie; a reading's bulk is at least its length and its words' lengths.
-/
namespace Go.Proofs.YtcocbjipikeebaaGreatDoor.Utf
open Go Go.Lib Go.RowKit Go.ChangeShapes Go.WideShapes Go.ChangeAt
set_option maxRecDepth 100000

theorem cellsIs : Tryz.prog.cellsOf 30 = 1 := by kernel_rfl
theorem cellsWd : Tryz.prog.cellsOf 32 = 2 := by kernel_rfl
theorem bulk_mem {H : Type} : ∀ (l : List (DataW H)), ∀ d ∈ l, Rows.uptoBulk d ≤ Rows.uptoBulkAll l
  | [], d, h => by cases h
  | x :: l, d, h => by
    simp only [Rows.uptoBulkAll]
    rcases List.mem_cons.1 h with rfl | h
    · omega
    · have := bulk_mem l d h
      omega
/-- A list of numbers within something that came in. -/
theorem open_intsF {H : Type} {enc : TypeId × Value → H} {W : World} {fuel : Nat} {c : Value} {y : DataW H × List MemPlace} (h : DataW.trod enc Tryz.prog W 0 (fun _ => true) true fuel 30 [c] = some y) :
    ∃ (zs : List Int) (ao : Option Addr) (cap : Nat), c = .slice ao zs.length cap ∧ zs.length ≤ Rows.uptoBulk y.1 ∧ ReadsO W ao (ints zs) ∧ (ao = none → cap = 0) ∧ ∀ b o, ao = some ⟨b, o, none⟩ → cap = 0 ∨ b < W.heap.size := by
  rcases open_ints Tryz.underlying30 Tryz.underlying3 cells3 h with ⟨hcs, rfl⟩ | ⟨a, len, cap, zs, hcs, _, hl, hm, hz, rfl, hcell, hwz⟩
  · simp only [List.cons.injEq, and_true] at hcs
    subst hcs
    exact ⟨[], none, 0, rfl, Nat.zero_le _, fun j hj => by simp [ints] at hj, fun _ => rfl, fun b o e => by cases e⟩
  · simp only [List.cons.injEq, and_true] at hcs
    subst hcs
    simp only [if_true] at hz
    have hlen : (zs.take len).length = len := by rw [List.length_take]; omega
    refine ⟨zs.take len, some a, cap, by rw [hlen], ?_, fun j hj => ?_, fun h => (by cases h), fun b o e => ?_⟩
    · have := bulk_len (H := H) (lits .i64 (zs.take len))
      simp only [lits, List.length_map] at this
      simp only [Rows.uptoBulk, lits]
      omega
    · rw [ints, List.length_map, hlen] at hj
      have hci := hcell j (by omega)
      obtain ⟨ab, ao, spot⟩ := a
      have hspot : spot = none := by simpa [Addr.add] using World.cell?_spot (hcell 0 (by omega))
      subst hspot
      rw [Addr.add_lit] at hci
      refine ⟨ab, ao, rfl, cell_lt hci, ?_⟩
      rw [hci]
      simp only [ints, List.getElem_map, List.getElem_take]
      rw [List.getD_eq_getElem?_getD, List.getElem?_eq_getElem (by omega)]
      rfl
    · injection e with e
      subst e
      rcases Nat.eq_zero_or_pos cap with h0 | h0
      · exact .inl h0
      · right
        have hci := hcell 0 (by omega)
        rw [Addr.add_lit] at hci
        exact cell_lt hci
theorem add_zero' (a : Addr) : a.add 0 = a := by unfold Addr.add; rw [if_pos rfl]
theorem add_one' (a : Addr) (m : Nat) : (a.add m).add 1 = a.add (m + 1) := by
  unfold Addr.add
  by_cases h : m = 0
  · subst h; simp
  · simp [h, Nat.add_assoc]
/-- One word that came in. -/
theorem open_wordF {H : Type} {enc : TypeId × Value → H} {W : World} {fuel : Nat} {x0 x1 : Value} {y : DataW H × List MemPlace} (h : DataW.trod enc Tryz.prog W 0 (fun _ => true) true fuel 32 [x0, x1] = some y) :
    ∃ wd : WdV, x0 = .slice wd.ao wd.c.length wd.cap ∧ x1 = .int .i64 wd.s ∧ wd.c.length ≤ Rows.uptoBulk y.1 ∧ ReadsO W wd.ao (ints wd.c) ∧ (wd.ao = none → wd.cap = 0) := by
  obtain ⟨xs, n, _, hx, _, hlen, hfs⟩ := DataW.trod_struct Tryz.underlying32 h
  match xs, hlen with
  | [y0, y1], _ =>
    have t0 : DataW.trod enc Tryz.prog W 0 (fun _ => true) true n 30 (([x0, x1].drop 0).take (Tryz.prog.cellsOf 30)) = some y0 := hfs 0 { name := "Cells", type := 30, offset := 0, embedded := false, tag := "", pkgPath := "", byteOffset := 0 } rfl
    rw [cellsIs] at t0
    replace t0 : DataW.trod enc Tryz.prog W 0 (fun _ => true) true n 30 [x0] = some y0 := t0
    have t1 : DataW.trod enc Tryz.prog W 0 (fun _ => true) true n 3 (([x0, x1].drop 1).take (Tryz.prog.cellsOf 3)) = some y1 := hfs 1 { name := "Score", type := 3, offset := 1, embedded := false, tag := "", pkgPath := "", byteOffset := 24 } rfl
    rw [cells3] at t1
    replace t1 : DataW.trod enc Tryz.prog W 0 (fun _ => true) true n 3 [x1] = some y1 := t1
    obtain ⟨zs, ao, cap, rfl, hb, hr, hc, _⟩ := open_intsF t0
    obtain ⟨m, hm, _⟩ := DataW.trod_int Tryz.underlying3 t1
    injection hm with hm
    refine ⟨⟨ao, cap, zs, m⟩, rfl, hm, ?_, hr, hc⟩
    rw [hx]
    simp only [List.map_cons, List.map_nil, Rows.uptoBulk, Rows.uptoBulkAll]
    omega
/-- A list of words that came in. -/
theorem open_wordArg {H : Type} {enc : TypeId × Value → H} {W : World} {base : Nat} {v : Value} {d : DataW H} {ps : List MemPlace} (hval : Value.okWide Tryz.prog W .any base 23 v) (h : DataW.Trod enc Tryz.prog W 0 (fun _ => true) true 23 v d ps) :
    ∃ (ws : List WdV) (aw : Option Addr) (cw : Nat), v = .slice aw ws.length cw ∧ ws.length ≤ Rows.uptoBulk d ∧ (∀ x ∈ ws, x.c.length ≤ Rows.uptoBulk d) ∧ ReadsW W aw ws := by
  obtain ⟨a1, len, cap, rfl⟩ := okWide_slice Tryz.underlying23 hval
  obtain ⟨fuel, hf⟩ := h
  rcases DataW.trod_slice Tryz.underlying23 hf with ⟨hcs, hx⟩ | ⟨a, len', cap', elems, rest, n, _, hcs, hx, _, hl, hm, hlen, hel, _, _⟩
  · simp [Value.cells] at hcs
    obtain ⟨rfl, rfl, rfl⟩ := hcs
    exact ⟨[], none, 0, rfl, Nat.zero_le _, fun _ h => (by cases h), fun j hj => by simp at hj⟩
  · simp [Value.cells] at hcs
    obtain ⟨rfl, rfl, rfl⟩ := hcs
    simp only [Prod.mk.injEq] at hx
    obtain ⟨rfl, rfl⟩ := hx
    have key : ∀ i, i < len → ∃ wd : WdV, W.cell? (a.add (i * 2)) = some (.slice wd.ao wd.c.length wd.cap) ∧ W.cell? (a.add (i * 2 + 1)) = some (.int .i64 wd.s) ∧ wd.c.length ≤ Rows.uptoBulkAll (elems.map (·.1)) ∧ ReadsO W wd.ao (ints wd.c) ∧ (wd.ao = none → wd.cap = 0) := by
      intro i hi
      have hy := hel i hi
      rw [List.getElem?_eq_getElem (by omega), cellsWd, Option.bind_eq_some_iff] at hy
      obtain ⟨cs', hcs, hy'⟩ := hy
      obtain ⟨_, hl2, hc⟩ := World.cells?_some hcs
      match cs', hl2 with
      | [x0, x1], _ =>
        obtain ⟨wd, rfl, rfl, hb, hr, hn⟩ := open_wordF hy'
        have hc0 := hc 0 (by omega)
        have hc1 := hc 1 (by omega)
        refine ⟨wd, ?_, ?_, Nat.le_trans hb (bulk_mem _ _ (List.mem_map_of_mem (List.getElem_mem _))), hr, hn⟩
        · rw [add_zero'] at hc0
          exact hc0
        · rw [add_one'] at hc1
          exact hc1
    obtain ⟨f, hf⟩ := Classical.axiomOfChoice (r := fun (i : Fin len) (wd : WdV) => W.cell? (a.add (i * 2)) = some (.slice wd.ao wd.c.length wd.cap) ∧ W.cell? (a.add (i * 2 + 1)) = some (.int .i64 wd.s) ∧ wd.c.length ≤ Rows.uptoBulkAll (elems.map (·.1)) ∧ ReadsO W wd.ao (ints wd.c) ∧ (wd.ao = none → wd.cap = 0)) (fun i => key i i.isLt)
    have hfl : (List.ofFn f).length = len := List.length_ofFn
    refine ⟨List.ofFn f, some a, cap, by rw [hfl], ?_, fun x hx => ?_, fun i hi => ?_⟩
    · have h1 := bulk_len (H := H) (elems.map (·.1))
      rw [List.length_map] at h1
      simp only [Rows.uptoBulk]
      omega
    · obtain ⟨i, rfl⟩ := List.mem_ofFn.1 hx
      have := (hf i).2.2.1
      simp only [Rows.uptoBulk]
      omega
    · rw [hfl] at hi
      have h2 := hf ⟨i, hi⟩
      have hat : (List.ofFn f)[i]'(by rw [hfl]; exact hi) = f ⟨i, hi⟩ := List.getElem_ofFn ..
      rw [hat]
      have h3 := World.cell?_spot (hf ⟨0, by omega⟩).1
      generalize f ⟨i, hi⟩ = wd at *
      obtain ⟨k1, k2, _, k4, k5⟩ := h2
      obtain ⟨ab, ao, spot⟩ := a
      have hspot : spot = none := by simpa [Addr.add] using h3
      subst hspot
      rw [Addr.add_lit] at k1 k2
      exact ⟨ab, ao, rfl, cell_lt k1, k1, by rw [Nat.add_assoc]; exact k2, k4, k5⟩
end Go.Proofs.YtcocbjipikeebaaGreatDoor.Utf
/-
  Two lists of masks that came in as an array.
-/
namespace Go.Proofs.YtcocbjipikeebaaGreatDoor.Utf
open Go Go.Lib Go.RowKit Go.ChangeShapes Go.WideShapes Go.ChangeAt
set_option maxRecDepth 100000

theorem cellsU64 : Tryz.prog.cellsOf 57 = 1 := by kernel_rfl
theorem cellsMs : Tryz.prog.cellsOf 24 = 1 := by kernel_rfl
theorem cells2Ms : Tryz.prog.cellsOf 25 = 2 := by kernel_rfl
theorem under2Ms : Tryz.prog.underlying 25 = some (.array 2 24) := by kernel_rfl
theorem underU64 : Tryz.prog.underlying 57 = some (.int .u64) := by kernel_rfl
theorem underMs : Tryz.prog.underlying 24 = some (.slice 57) := by kernel_rfl
theorem bounds_u64 {n : Int} (h : (Lit.int .u64 n).wf = true) : 0 ≤ n ∧ n < 18446744073709551616 := by
  simp only [Lit.wf, Bool.and_eq_true, decide_eq_true_eq] at h
  have h1 : IntKind.u64.min = 0 := by rfl
  have h2 : IntKind.u64.max = 18446744073709551615 := by rfl
  omega
/-- A list of masks within something that came in. -/
theorem open_msksF {H : Type} {enc : TypeId × Value → H} {W : World} {fuel : Nat} {c : Value} {y : DataW H × List MemPlace} (h : DataW.trod enc Tryz.prog W 0 (fun _ => true) true fuel 24 [c] = some y) :
    ∃ (p : List Nat) (ao : Option Addr) (cap : Nat), c = .slice ao p.length cap ∧ p.length ≤ Rows.uptoBulk y.1 ∧ ReadsO W ao (msks p) ∧ Low p := by
  rcases open_ints underMs underU64 cellsU64 h with ⟨hcs, rfl⟩ | ⟨a, len, cap, zs, hcs, _, hl, hm, hz, rfl, hcell, hwz⟩
  · simp only [List.cons.injEq, and_true] at hcs
    subst hcs
    exact ⟨[], none, 0, rfl, Nat.zero_le _, fun j hj => by simp [msks] at hj, fun _ h => by cases h⟩
  · simp only [List.cons.injEq, and_true] at hcs
    subst hcs
    simp only [if_true] at hz
    have hlen : ((zs.take len).map Int.toNat).length = len := by rw [List.length_map, List.length_take]; omega
    refine ⟨(zs.take len).map Int.toNat, some a, cap, by rw [hlen], ?_, fun j hj => ?_, fun m hm => ?_⟩
    · have := bulk_len (H := H) (lits .u64 (zs.take len))
      simp only [lits, List.length_map] at this
      rw [hlen]
      rw [List.length_take] at this
      simp only [Rows.uptoBulk, lits]
      omega
    · rw [msks_len, hlen] at hj
      have hci := hcell j (by omega)
      obtain ⟨ab, ao, spot⟩ := a
      have hspot : spot = none := by simpa [Addr.add] using World.cell?_spot (hcell 0 (by omega))
      subst hspot
      rw [Addr.add_lit] at hci
      have hb := (bounds_u64 (hwz zs[j] (List.getElem_mem (by omega)))).1
      refine ⟨ab, ao, rfl, cell_lt hci, ?_⟩
      rw [hci, List.getD_eq_getElem?_getD, List.getElem?_eq_getElem (by omega)]
      simp only [msks, List.getElem_map, List.getElem_take, Option.getD_some, Int.toNat_of_nonneg hb]
    · obtain ⟨z, hz2, rfl⟩ := List.mem_map.1 hm
      have := bounds_u64 (hwz z (List.mem_of_mem_take hz2))
      omega
theorem open_mskArg {H : Type} {enc : TypeId × Value → H} {W : World} {base : Nat} {v : Value} {d : DataW H} {ps : List MemPlace} (hval : Value.okWide Tryz.prog W .any base 24 v) (h : DataW.Trod enc Tryz.prog W 0 (fun _ => true) true 24 v d ps) :
    ∃ (p : List Nat) (ao : Option Addr) (cap : Nat), v = .slice ao p.length cap ∧ p.length ≤ Rows.uptoBulk d ∧ ReadsO W ao (msks p) ∧ Low p := by
  obtain ⟨a1, len, cap, rfl⟩ := okWide_slice underMs hval
  obtain ⟨fuel, hf⟩ := h
  exact open_msksF (y := (d, ps)) hf
theorem open_two {H : Type} {enc : TypeId × Value → H} {W : World} {base : Nat} {v : Value} {d : DataW H} {ps : List MemPlace} (hval : Value.okWide Tryz.prog W .any base 25 v) (h : DataW.Trod enc Tryz.prog W 0 (fun _ => true) true 25 v d ps) :
    ∃ (p q : List Nat) (ap aq : Option Addr) (cp cq : Nat), v = .agg #[.slice ap p.length cp, .slice aq q.length cq] ∧ p.length ≤ Rows.uptoBulk d ∧ q.length ≤ Rows.uptoBulk d ∧ ReadsO W ap (msks p) ∧ ReadsO W aq (msks q) ∧ Low p ∧ Low q := by
  obtain ⟨cs, rfl, hcs⟩ : ∃ cs, v = .agg cs ∧ cs.size = Tryz.prog.cellsOf 25 := by
    simp only [Value.okWide, under2Ms] at hval
    obtain ⟨cs, h1, h2, _⟩ := hval
    exact ⟨cs, h1, h2⟩
  rw [cells2Ms] at hcs
  obtain ⟨cs⟩ := cs
  match cs, hcs with
  | [x0, x1], _ =>
    obtain ⟨fuel, hf⟩ := h
    obtain ⟨xs, n, _, hx, _, hlen, hfs⟩ := DataW.trod_array under2Ms hf
    rw [cellsMs] at hfs
    match xs, hlen with
    | [y0, y1], _ =>
      have t0 : DataW.trod enc Tryz.prog W 0 (fun _ => true) true n 24 [x0] = some y0 := hfs 0 (by omega)
      have t1 : DataW.trod enc Tryz.prog W 0 (fun _ => true) true n 24 [x1] = some y1 := hfs 1 (by omega)
      obtain ⟨p, ap, cp, rfl, b0, r0, l0⟩ := open_msksF t0
      obtain ⟨q, aq, cq, rfl, b1, r1, l1⟩ := open_msksF t1
      simp only [Prod.mk.injEq] at hx
      obtain ⟨rfl, _⟩ := hx
      refine ⟨p, q, ap, aq, cp, cq, rfl, ?_, ?_, r0, r1, l0, l1⟩
      · simp only [List.map_cons, List.map_nil, Rows.uptoBulk, Rows.uptoBulkAll]; omega
      · simp only [List.map_cons, List.map_nil, Rows.uptoBulk, Rows.uptoBulkAll]; omega
end Go.Proofs.YtcocbjipikeebaaGreatDoor.Utf
