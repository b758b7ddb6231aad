/-
  A slice of words that came in: its words, wherever their cells lie; a reading's bulk is at least its length and its words' lengths.
-/
import Derived.Test.YtjgmmfkeogkakaaGreatGag
import Derived.Test.YtjgmmfkeogkakaaGreatGnn
import Derived.ChangeArms
namespace Go.Proofs.YtjgmmfkeogkakaaGreat.Utf
open Go Go.Lib Go.RowKit Go.ChangeShapes Go.WideShapes Go.ChangeAt
set_option maxRecDepth 100000

theorem cellsIs : Tryz.prog.cellsOf 24 = 1 := by kernel_rfl
theorem cellsWd : Tryz.prog.cellsOf 52 = 2 := by kernel_rfl
theorem bulk_mem {H : Type} : ∀ (l : List (DataW H)), ∀ d ∈ l, Rows.uptoBulk d ≤ Rows.uptoBulkAll l
  | [], d, h => by cases h
  | x :: l, d, h => by
    simp only [Rows.uptoBulkAll]
    rcases List.mem_cons.1 h with rfl | h
    · omega
    · have := bulk_mem l d h
      omega
/-- A list of numbers within something that came in. -/
theorem open_intsF {H : Type} {enc : TypeId × Value → H} {W : World} {fuel : Nat} {c : Value} {y : DataW H × List MemPlace} (h : DataW.trod enc Tryz.prog W 0 (fun _ => true) true fuel 24 [c] = some y) :
    ∃ (zs : List Int) (ao : Option Addr) (cap : Nat), c = .slice ao zs.length cap ∧ zs.length ≤ Rows.uptoBulk y.1 ∧ ReadsO W ao (ints zs) ∧ (ao = none → cap = 0) ∧ ∀ b o, ao = some ⟨b, o, none⟩ → cap = 0 ∨ b < W.heap.size := by
  rcases open_ints Tryz.underlying24 Tryz.underlying3 cells3 h with ⟨hcs, rfl⟩ | ⟨a, len, cap, zs, hcs, _, hl, hm, hz, rfl, hcell, hwz⟩
  · simp only [List.cons.injEq, and_true] at hcs
    subst hcs
    exact ⟨[], none, 0, rfl, Nat.zero_le _, fun j hj => by simp [ints] at hj, fun _ => rfl, fun b o e => by cases e⟩
  · simp only [List.cons.injEq, and_true] at hcs
    subst hcs
    simp only [if_true] at hz
    have hlen : (zs.take len).length = len := by rw [List.length_take]; omega
    refine ⟨zs.take len, some a, cap, by rw [hlen], ?_, fun j hj => ?_, fun h => (by cases h), fun b o e => ?_⟩
    · have := bulk_len (H := H) (lits .i64 (zs.take len))
      simp only [lits, List.length_map] at this
      simp only [Rows.uptoBulk, lits]
      omega
    · rw [ints, List.length_map, hlen] at hj
      have hci := hcell j (by omega)
      obtain ⟨ab, ao, spot⟩ := a
      have hspot : spot = none := by simpa [Addr.add] using World.cell?_spot (hcell 0 (by omega))
      subst hspot
      rw [Addr.add_lit] at hci
      refine ⟨ab, ao, rfl, cell_lt hci, ?_⟩
      rw [hci]
      simp only [ints, List.getElem_map, List.getElem_take]
      rw [List.getD_eq_getElem?_getD, List.getElem?_eq_getElem (by omega)]
      rfl
    · injection e with e
      subst e
      rcases Nat.eq_zero_or_pos cap with h0 | h0
      · exact .inl h0
      · right
        have hci := hcell 0 (by omega)
        rw [Addr.add_lit] at hci
        exact cell_lt hci
theorem add_zero' (a : Addr) : a.add 0 = a := by unfold Addr.add; rw [if_pos rfl]
theorem add_one' (a : Addr) (m : Nat) : (a.add m).add 1 = a.add (m + 1) := by
  unfold Addr.add
  by_cases h : m = 0
  · subst h; simp
  · simp [h, Nat.add_assoc]
/-- One word that came in. -/
theorem open_wordF {H : Type} {enc : TypeId × Value → H} {W : World} {fuel : Nat} {x0 x1 : Value} {y : DataW H × List MemPlace} (h : DataW.trod enc Tryz.prog W 0 (fun _ => true) true fuel 52 [x0, x1] = some y) :
    ∃ wd : WdV, x0 = .slice wd.ao wd.c.length wd.cap ∧ x1 = .int .i64 wd.s ∧ wd.c.length ≤ Rows.uptoBulk y.1 ∧ ReadsO W wd.ao (ints wd.c) ∧ (wd.ao = none → wd.cap = 0) := by
  obtain ⟨xs, n, _, hx, _, hlen, hfs⟩ := DataW.trod_struct Tryz.underlying52 h
  match xs, hlen with
  | [y0, y1], _ =>
    have t0 : DataW.trod enc Tryz.prog W 0 (fun _ => true) true n 24 (([x0, x1].drop 0).take (Tryz.prog.cellsOf 24)) = some y0 := hfs 0 { name := "Cells", type := 24, offset := 0, embedded := false, tag := "", pkgPath := "", byteOffset := 0 } rfl
    rw [cellsIs] at t0
    replace t0 : DataW.trod enc Tryz.prog W 0 (fun _ => true) true n 24 [x0] = some y0 := t0
    have t1 : DataW.trod enc Tryz.prog W 0 (fun _ => true) true n 3 (([x0, x1].drop 1).take (Tryz.prog.cellsOf 3)) = some y1 := hfs 1 { name := "Score", type := 3, offset := 1, embedded := false, tag := "", pkgPath := "", byteOffset := 24 } rfl
    rw [cells3] at t1
    replace t1 : DataW.trod enc Tryz.prog W 0 (fun _ => true) true n 3 [x1] = some y1 := t1
    obtain ⟨zs, ao, cap, rfl, hb, hr, hc, _⟩ := open_intsF t0
    obtain ⟨m, hm, _⟩ := DataW.trod_int Tryz.underlying3 t1
    injection hm with hm
    refine ⟨⟨ao, cap, zs, m⟩, rfl, hm, ?_, hr, hc⟩
    rw [hx]
    simp only [List.map_cons, List.map_nil, Rows.uptoBulk, Rows.uptoBulkAll]
    omega
/-- A list of words that came in. -/
theorem open_wordArg {H : Type} {enc : TypeId × Value → H} {W : World} {base : Nat} {v : Value} {d : DataW H} {ps : List MemPlace} (hval : Value.okWide Tryz.prog W .any base 23 v) (h : DataW.Trod enc Tryz.prog W 0 (fun _ => true) true 23 v d ps) :
    ∃ (ws : List WdV) (aw : Option Addr) (cw : Nat), v = .slice aw ws.length cw ∧ ws.length ≤ Rows.uptoBulk d ∧ (∀ x ∈ ws, x.c.length ≤ Rows.uptoBulk d) ∧ ReadsW W aw ws := by
  obtain ⟨a1, len, cap, rfl⟩ := okWide_slice Tryz.underlying23 hval
  obtain ⟨fuel, hf⟩ := h
  rcases DataW.trod_slice Tryz.underlying23 hf with ⟨hcs, hx⟩ | ⟨a, len', cap', elems, rest, n, _, hcs, hx, _, hl, hm, hlen, hel, _, _⟩
  · simp [Value.cells] at hcs
    obtain ⟨rfl, rfl, rfl⟩ := hcs
    exact ⟨[], none, 0, rfl, Nat.zero_le _, fun _ h => (by cases h), fun j hj => by simp at hj⟩
  · simp [Value.cells] at hcs
    obtain ⟨rfl, rfl, rfl⟩ := hcs
    simp only [Prod.mk.injEq] at hx
    obtain ⟨rfl, rfl⟩ := hx
    have key : ∀ i, i < len → ∃ wd : WdV, W.cell? (a.add (i * 2)) = some (.slice wd.ao wd.c.length wd.cap) ∧ W.cell? (a.add (i * 2 + 1)) = some (.int .i64 wd.s) ∧ wd.c.length ≤ Rows.uptoBulkAll (elems.map (·.1)) ∧ ReadsO W wd.ao (ints wd.c) ∧ (wd.ao = none → wd.cap = 0) := by
      intro i hi
      have hy := hel i hi
      rw [List.getElem?_eq_getElem (by omega), cellsWd, Option.bind_eq_some_iff] at hy
      obtain ⟨cs', hcs, hy'⟩ := hy
      obtain ⟨_, hl2, hc⟩ := World.cells?_some hcs
      match cs', hl2 with
      | [x0, x1], _ =>
        obtain ⟨wd, rfl, rfl, hb, hr, hn⟩ := open_wordF hy'
        have hc0 := hc 0 (by omega)
        have hc1 := hc 1 (by omega)
        refine ⟨wd, ?_, ?_, Nat.le_trans hb (bulk_mem _ _ (List.mem_map_of_mem (List.getElem_mem _))), hr, hn⟩
        · rw [add_zero'] at hc0
          exact hc0
        · rw [add_one'] at hc1
          exact hc1
    obtain ⟨f, hf⟩ := Classical.axiomOfChoice (r := fun (i : Fin len) (wd : WdV) => W.cell? (a.add (i * 2)) = some (.slice wd.ao wd.c.length wd.cap) ∧ W.cell? (a.add (i * 2 + 1)) = some (.int .i64 wd.s) ∧ wd.c.length ≤ Rows.uptoBulkAll (elems.map (·.1)) ∧ ReadsO W wd.ao (ints wd.c) ∧ (wd.ao = none → wd.cap = 0)) (fun i => key i i.isLt)
    have hfl : (List.ofFn f).length = len := List.length_ofFn
    refine ⟨List.ofFn f, some a, cap, by rw [hfl], ?_, fun x hx => ?_, fun i hi => ?_⟩
    · have h1 := bulk_len (H := H) (elems.map (·.1))
      rw [List.length_map] at h1
      simp only [Rows.uptoBulk]
      omega
    · obtain ⟨i, rfl⟩ := List.mem_ofFn.1 hx
      have := (hf i).2.2.1
      simp only [Rows.uptoBulk]
      omega
    · rw [hfl] at hi
      have h2 := hf ⟨i, hi⟩
      have hat : (List.ofFn f)[i]'(by rw [hfl]; exact hi) = f ⟨i, hi⟩ := List.getElem_ofFn ..
      rw [hat]
      have h3 := World.cell?_spot (hf ⟨0, by omega⟩).1
      generalize f ⟨i, hi⟩ = wd at *
      obtain ⟨k1, k2, _, k4, k5⟩ := h2
      obtain ⟨ab, ao, spot⟩ := a
      have hspot : spot = none := by simpa [Addr.add] using h3
      subst hspot
      rw [Addr.add_lit] at k1 k2
      exact ⟨ab, ao, rfl, cell_lt k1, k1, by rw [Nat.add_assoc]; exact k2, k4, k5⟩
end Go.Proofs.YtjgmmfkeogkakaaGreat.Utf
