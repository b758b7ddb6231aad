/-
  The laws' own look that the program is there at all (layer 7).
-/
import Derived.Test.YtkkeoonglcfhnaaDoorSlf
import Derived.Test.YtkkeoonglcfhnaaDoorGrdy
import Derived.Test.YtkkeoonglcfhnaaDoorItos
import Derived.Deep.CutRange
import Derived.Deep.RegionWith
namespace Go.Proofs.YtkkeoonglcfhnaaDoor.Grd
open Go Go.Lib Go.RowKit

theorem sl_23 : (blankG 2 3).sl = [⟨1, false, [0, 1, 2]⟩, ⟨1, true, [0, 3]⟩, ⟨2, true, [1, 4]⟩, ⟨3, true, [2, 5]⟩, ⟨4, false, [3, 4, 5]⟩] := by kernel_rfl

/-- Names below 100. -/
theorem Name_small (k : Nat) (h1 : 1 ≤ k) (h2 : k < 100) (dn : Bool) (w : World) :
    Calls Tryd.prog 27 #[.int .i64 k, .bool dn] w fun e w' => e = .returned (.string ⟨(Lib.decDigits k ++ [if dn then 68 else 65]).toArray⟩) ∧ w' = w := by
  have cI := fun W => Tryd.strconv_Itoa_small k h2 W
  have hb : ((decide ((k : Int) < 1)) || decide ((999 : Int) < (k : Int))) = false := by rw [decide_eq_false (by omega), decide_eq_false (by omega)]; rfl
  have hln : (decDigits k).length ≤ 2 := by
    by_cases h : k < 10
    · rw [decDigits_one h]; exact Nat.le_succ 1
    · rw [decDigits_two h h2]; exact Nat.le_refl 2
  have h3 : ¬ (k : Int) < 1 := by omega
  have h4 : ¬ (999 : Int) < (k : Int) := by omega
  cases dn with
  | false =>
    go_enter Tryd.func27, Tryd.ntmps27
    go_wp2_with fail
    refine (cI _).mono ?_
    rintro e w1 ⟨rfl, rfl⟩
    go_wp2
    go_ret
    exact ⟨rfl, rfl⟩
  | true =>
    go_enter Tryd.func27, Tryd.ntmps27
    go_wp2_with fail
    refine (cI _).mono ?_
    rintro e w1 ⟨rfl, rfl⟩
    go_wp2
    go_ret
    exact ⟨rfl, rfl⟩

theorem bx_heap {W : World} {b g1 g2 g3 : Nat} {t : TypeId} (h : W.heap[b]? = some (.cells #[.int .i64 2, .int .i64 3, .slice (some ⟨g1, 0, none⟩) 6 6, .slice (some ⟨g2, 0, none⟩) 6 6, .slice (some ⟨g3, 0, none⟩) 6 6] t)) : Bx W b (blankG 2 3) ⟨some ⟨g1, 0, none⟩, 6, some ⟨g2, 0, none⟩, 6, some ⟨g3, 0, none⟩, 6⟩ :=
  ⟨(Array.getElem?_eq_some_iff.1 h).1, by simp only [World.cell?]; rw [h]; rfl, by simp only [World.cell?]; rw [h]; rfl, by simp only [World.cell?]; rw [h]; rfl, by simp only [World.cell?]; rw [h]; rfl, by simp only [World.cell?]; rw [h]; rfl⟩
set_option maxRecDepth 20000 in
set_option maxHeartbeats 2000000 in
theorem awake7_any (w : World) (hw : Wy w) : Calls Tryd.prog 9 #[] w fun e w' => e = .returned (.bool true) ∧ Below w.heap.size w w' := by
  obtain ⟨i0, hi0, hz0, hz1, hz2⟩ := info_parts infoBool
  have HL : Aside (∀ (W : World) (g1 g2 g3 : Nat), Below w.heap.size w W → MadeG w.heap.size W 6 g1 g2 g3 (List.replicate 6 false) (List.replicate 6 false) (List.replicate 6 false) → Calls Tryd.prog 10 #[.agg #[.int .i64 2, .int .i64 3, .slice (some ⟨g1, 0, none⟩) 6 6, .slice (some ⟨g2, 0, none⟩) 6 6, .slice (some ⟨g3, 0, none⟩) 6 6]] W fun e w' => ∃ v us, e = .returned v ∧ OwnL w' W.heap.size v (blankG 2 3).sl us ∧ Below W.heap.size W w') := fun W g1 g2 g3 h hm => List_any (blankG 2 3) ⟨some ⟨g1, 0, none⟩, 6, some ⟨g2, 0, none⟩, 6, some ⟨g3, 0, none⟩, 6⟩ W (hw.below hw.size h) (MadeG.rgy (g := blankG 2 3) hm)
  obtain ⟨M, hM⟩ : ∃ M, M = madeCells (Value.bool false).cells (6 * i0.size) := ⟨_, rfl⟩
  have hMs : M.size = 6 * 1 := by rw [hM, size_madeCells, hz1]
  have hMl : M.toList = cellsB (List.replicate 6 false) := by
    rw [hM, hz1, Nat.mul_one]
    show (madeCells #[Value.bool false] 6).toList = _
    rw [toList_madeCells_one]
    simp [cellsB]
  have hmk : ∀ W : World, (Instr.makeSlice 22 (.int .i64 6) (.int .i64 6)).run Tryd.prog W = .ok (.slice (some ⟨W.heap.size, 0, none⟩) 6 6) (W.alloc (.cells M 4)) := fun W => by
    have h := run_make (P := Tryd.prog) W 22 4 i0 (.bool false) Tryd.underlying22 hi0 hz0 .i64 .i64 6 6 (by omega) (by omega) (by rw [hz2]; omega) (by omega)
    rw [show (6 : Int).toNat = 6 from rfl, ← hM] at h
    exact h
  clear hM hw
  go_enter Tryd.func9, Tryd.ntmps9
  go_wp2
  go_cut [1] from 3 to 6 (fun sa wd => ∃ b g1 g2 g3, sa = .pointer (some ⟨b, 0, none⟩) ∧ Aside (Bx wd b (blankG 2 3) ⟨some ⟨g1, 0, none⟩, 6, some ⟨g2, 0, none⟩, 6, some ⟨g3, 0, none⟩, 6⟩ ∧ MadeG w.heap.size wd 6 g1 g2 g3 (List.replicate 6 false) (List.replicate 6 false) (List.replicate 6 false) ∧ Below w.heap.size w wd))
  case first =>
    have HBB : Aside (∀ o1 o2 o3 o4, Below w.heap.size w ((((w.alloc o1).alloc o2).alloc o3).alloc o4).drew) := fun o1 o2 o3 o4 =>
      Below.drew ((((below_box w o1).alloc (by simp) o2).alloc (by simp; omega) o3).alloc (by simp; omega) o4)
    go_region
    all_goals go_wp2
    all_goals go_meet
    all_goals exact ⟨_, _, _, _, rfl, bx_heap (by rw [hp_drew]; repeat (first | refine (hp_past (by simp only [World.size_alloc]; omega)).trans ?_ | exact hp_at (by first | rfl | simp only [World.size_alloc]))), ⟨by omega, by omega, by omega, row_block (by omega) (by rw [hp_drew]; repeat (first | refine (hp_past (by simp only [World.size_alloc]; omega)).trans ?_ | exact hp_at (by first | rfl | simp only [World.size_alloc]))) hMs (by omega) hMl, row_block (by omega) (by rw [hp_drew]; repeat (first | refine (hp_past (by simp only [World.size_alloc]; omega)).trans ?_ | exact hp_at (by first | rfl | simp only [World.size_alloc]))) hMs (by omega) hMl, row_block (by omega) (by rw [hp_drew]; repeat (first | refine (hp_past (by simp only [World.size_alloc]; omega)).trans ?_ | exact hp_at (by first | rfl | simp only [World.size_alloc]))) hMs (by omega) hMl⟩, HBB.out _ _ _ _⟩
  case rest =>
  rename World => w8
  obtain ⟨b, g1, g2, g3, rfl, HE⟩ := hcut
  have cL := HL.out w8 g1 g2 g3 HE.out.2.2 HE.out.2.1
  obtain ⟨_, k0, k1, k2, k3, k4⟩ := HE.out.1
  simp only [blankG, List.length_replicate, Nat.reduceMul] at k0 k1 k2 k3 k4
  have HBw : Aside (Below w.heap.size w w8) := HE.out.2.2
  rw [sl_23] at cL
  go_wp2_with fail
  refine cL.mono ?_
  rintro e w9 ⟨v, us, rfl, hO, hb9⟩
  have HB9 : Aside (Below w.heap.size w w9) := HBw.out.trans (hb9.mono HBw.out.size)
  obtain ⟨ao, cap, rfl, hRL⟩ := hO.read
  obtain ⟨b4, a4, c4, rfl, hb4, e0, e1, e2, hI⟩ := hRL 4 _ rfl
  obtain ⟨b5, o5, rfl, hb5, e5⟩ := hI 0 (by decide)
  replace e5 : w9.cell? ⟨b5, o5, none⟩ = some (.int .i64 3) := e5
  have cN : ∀ W : World, Calls Tryd.prog 27 #[.int .i64 12, .bool true] W fun e w' => e = .returned (.string ⟨#[49, 50, 68]⟩) ∧ w' = W := fun W => by
    have h := Name_small 12 (by omega) (by omega) true W
    rw [decDigits_two (by omega) (by omega)] at h
    exact h
  clear hRL hI hO cL k0 k1 k2 k3 k4 hmk hb9
  simp only [List.length_cons, List.length_nil] at e2
  go_wp2_with fail
  refine (cN _).mono ?_
  rintro e w10 ⟨rfl, hw10⟩
  obtain rfl := hw10.symm
  clear hw10
  go_wp2
  go_ret
  exact ⟨rfl, HB9.out⟩
end Go.Proofs.YtkkeoonglcfhnaaDoor.Grd
