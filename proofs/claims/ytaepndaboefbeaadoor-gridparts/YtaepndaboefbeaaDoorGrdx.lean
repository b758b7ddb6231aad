/-
  The laws' own look that the program is there at all: a blank grid has a step.
-/
import Derived.Test.YtaepndaboefbeaaDoorGrdk
namespace Go.Proofs.YtaepndaboefbeaaDoor.Grd
open Go Go.Lib Go.RowKit

/-- A blank grid. -/
def blankG (h v : Nat) : Gr := ⟨h, v, List.replicate (h * v) false, List.replicate (h * v) false, List.replicate (h * v) false⟩
theorem bt_rep (n i : Nat) : bt (List.replicate n false) i = false := by
  unfold bt
  rw [List.getElem?_replicate]
  by_cases h : i < n <;> simp [h]
theorem blankG_H (h v : Nat) : (blankG h v).H = h := by simp [blankG, Gr.H]
theorem blankG_W (h v : Nat) : (blankG h v).W = v := by simp [blankG, Gr.W]
theorem blankG_n (h v : Nat) : (blankG h v).n = h * v := by unfold Gr.n; rw [blankG_H, blankG_W]
theorem blankG_ok {h v : Nat} (h1 : 1 ≤ h ∧ h ≤ 16) (h2 : 1 ≤ v ∧ v ≤ 16) : (blankG h v).ok := by
  refine Gr.chk_ok ⟨⟨?_, ?_⟩, ?_, ?_⟩ ⟨?_, ?_, ?_⟩ ?_
  · show (1 : Int) ≤ (h : Int); omega
  · show (h : Int) ≤ 16; omega
  · show (1 : Int) ≤ (v : Int); omega
  · show (v : Int) ≤ 16; omega
  · rw [blankG_n]; simp [blankG]
  · rw [blankG_n]; simp [blankG]
  · rw [blankG_n]; simp [blankG]
  · rintro ⟨i, _, hb | hb⟩
    · have := hb.1; rw [show (blankG h v).R = List.replicate (h * v) false from rfl, bt_rep] at this; cases this
    · have := hb.1; rw [show (blankG h v).D = List.replicate (h * v) false from rfl, bt_rep] at this; cases this
theorem row_readsB {W : World} {B b n : Nat} {zs : List Bool} (h : W.ownsRow B 4 1 (.slice (some ⟨b, 0, none⟩) n n) n (cellsB zs)) : ReadsB W (some ⟨b, 0, none⟩) zs := fun j hj => by
  have hn : zs.length = n := by have := h.1; rw [cellsB_length] at this; omega
  refine ⟨b, 0, rfl, (h.lt b rfl).2, ?_⟩
  rw [Nat.zero_add, h.cellAt j (by omega)]
  simp [cellsB, bt, List.getElem?_eq_getElem hj]
theorem MadeG.rg {B : Nat} {W : World} {n g1 g2 g3 c1 c2 c3 : Nat} {g : Gr} (h : MadeG B W n g1 g2 g3 g.B g.R g.D) : RG W g ⟨some ⟨g1, 0, none⟩, c1, some ⟨g2, 0, none⟩, c2, some ⟨g3, 0, none⟩, c3⟩ := ⟨row_readsB h.r1, row_readsB h.r2, row_readsB h.r3⟩
theorem MadeG.below {B : Nat} {W W' : World} {n g1 g2 g3 : Nat} {xs ys zs : List Bool} (h : MadeG B W n g1 g2 g3 xs ys zs) (hb : Below W.heap.size W W') : MadeG B W' n g1 g2 g3 xs ys zs := ⟨h.n12, h.n13, h.n23, row_keeps h.r1 hb, row_keeps h.r2 hb, row_keeps h.r3 hb⟩

theorem st_23 : (blankG 2 3).stI 1 1 = some 4 := by
  have hok := blankG_ok (h := 2) (v := 3) (by omega) (by omega)
  have ho : (blankG 2 3).opn 1 = true := by decide
  unfold Gr.stI
  rw [if_pos ⟨Gr.opI_iff.2 ⟨hok, 1, rfl, ho⟩, by omega, by omega⟩]
  decide

set_option maxHeartbeats 1000000 in
theorem awake_any (w : World) (hw : Wy w) : Calls Tryd.prog 9 #[] w fun e w' => e = .returned (.bool true) ∧ Below w.heap.size w w' := by
  have cB := blank_ok 2 3 w (by omega) (by omega)
  have hok := blankG_ok (h := 2) (v := 3) (by omega) (by omega)
  have HS : Aside (∀ (W : World) (g1 g2 g3 : Nat), Below w.heap.size w W → MadeG w.heap.size W 6 g1 g2 g3 (List.replicate 6 false) (List.replicate 6 false) (List.replicate 6 false) → Calls Tryd.prog 20 #[.agg #[.int .i64 2, .int .i64 3, .slice (some ⟨g1, 0, none⟩) 6 6, .slice (some ⟨g2, 0, none⟩) 6 6, .slice (some ⟨g3, 0, none⟩) 6 6], .int .i64 1, .int .i64 1] W fun e w' => e = .returned (.tuple #[.int .i64 4, .bool true]) ∧ Below W.heap.size W w') := fun W g1 g2 g3 h hm => by
    have := Step_any (blankG 2 3) ⟨some ⟨g1, 0, none⟩, 6, some ⟨g2, 0, none⟩, 6, some ⟨g3, 0, none⟩, 6⟩ 1 1 W (hw.below hw.size h) (MadeG.rg (g := blankG 2 3) hm)
    rw [st_23] at this
    exact this
  have HC : Aside (∀ (W : World) (g1 g2 g3 : Nat), Below w.heap.size w W → MadeG w.heap.size W 6 g1 g2 g3 (List.replicate 6 false) (List.replicate 6 false) (List.replicate 6 false) → Calls Tryd.prog 11 #[.agg #[.int .i64 2, .int .i64 3, .slice (some ⟨g1, 0, none⟩) 6 6, .slice (some ⟨g2, 0, none⟩) 6 6, .slice (some ⟨g3, 0, none⟩) 6 6]] W fun e w' => e = .returned (.int .i64 0) ∧ Below W.heap.size W w') := fun W g1 g2 g3 h hm => by
    have := check_any (blankG 2 3) ⟨some ⟨g1, 0, none⟩, 6, some ⟨g2, 0, none⟩, 6, some ⟨g3, 0, none⟩, 6⟩ W (hw.below hw.size h) (MadeG.rg (g := blankG 2 3) hm)
    rw [show (blankG 2 3).chk = 0 from hok] at this
    exact this
  clear hw hok
  go_enter Tryd.func9, Tryd.ntmps9
  go_wp2_with fail
  refine cB.mono ?_
  rintro e w1 ⟨g1, g2, g3, rfl, hm, hb1⟩
  clear cB
  go_wp2_with fail
  obtain ⟨W0, hW0⟩ : ∃ W0, W0 = w1.alloc (.cells #[.int .i64 2, .int .i64 3, .slice (some ⟨g1, 0, none⟩) 6 6, .slice (some ⟨g2, 0, none⟩) 6 6, .slice (some ⟨g3, 0, none⟩) 6 6] 24) := ⟨_, rfl⟩
  have hB0 : Below w.heap.size w W0 := by rw [hW0]; exact hb1.alloc hb1.size _
  have hm0 := hm.below (below_box w1 (.cells #[.int .i64 2, .int .i64 3, .slice (some ⟨g1, 0, none⟩) 6 6, .slice (some ⟨g2, 0, none⟩) 6 6, .slice (some ⟨g3, 0, none⟩) 6 6] 24))
  have hF0 : Bx W0 w1.heap.size ⟨2, 3, List.replicate 6 false, List.replicate 6 false, List.replicate 6 false⟩ ⟨some ⟨g1, 0, none⟩, 6, some ⟨g2, 0, none⟩, 6, some ⟨g3, 0, none⟩, 6⟩ := by rw [hW0]; exact Bx.new w1 ⟨2, 3, List.replicate 6 false, List.replicate 6 false, List.replicate 6 false⟩ ⟨some ⟨g1, 0, none⟩, 6, some ⟨g2, 0, none⟩, 6, some ⟨g3, 0, none⟩, 6⟩ _
  rw [← hW0] at hm0 ⊢
  refine (HS.out W0 g1 g2 g3 hB0 hm0).mono ?_
  rintro e w2 ⟨rfl, hb2⟩
  have hm2 := hm0.below hb2
  have hB2 : Below w.heap.size w w2 := hB0.trans (hb2.mono hB0.size)
  obtain ⟨_, k0, k1, k2, k3, k4⟩ := hF0.keep hb2
  simp only [List.length_replicate] at k2 k3 k4
  have cC := HC.out w2 g1 g2 g3 hB2 hm2
  have HB2 : Aside (Below w.heap.size w w2) := hB2
  clear hW0 hB0 hm0 hF0 hb2 hm2 hB2 hm hb1 HS HC
  go_wp2_with fail
  refine cC.mono ?_
  rintro e w3 ⟨rfl, hb3⟩
  clear cC
  go_wp2
  go_ret
  exact ⟨rfl, HB2.out.trans (hb3.mono HB2.out.size)⟩
end Go.Proofs.YtaepndaboefbeaaDoor.Grd
