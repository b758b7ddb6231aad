/-
  The laws' own: lent (a grid in longer memory), kept (is it as it was, its spare room too?).
-/
import Derived.Test.YtaepndaboefbeaaDoorGrdl
import Derived.Deep.RegionWith
namespace Go.Proofs.YtaepndaboefbeaaDoor.Grd
open Go Go.Lib Go.RowKit

theorem results_g {fn : Func} {p : Tmp} (h : fn.results = #[.cell p 24]) (tmps : Array Value) (w : World) (b : Nat) (x0 x1 x2 x3 x4 : Value)
    (hp : tmps.getD p undef = .pointer (some ⟨b, 0, none⟩)) (c0 : w.cell? ⟨b, 0, none⟩ = some x0) (c1 : w.cell? ⟨b, 1, none⟩ = some x1) (c2 : w.cell? ⟨b, 2, none⟩ = some x2) (c3 : w.cell? ⟨b, 3, none⟩ = some x3) (c4 : w.cell? ⟨b, 4, none⟩ = some x4) :
    (results fn tmps).run Tryd.prog w = .ok (.agg #[x0, x1, x2, x3, x4]) w := by
  have hp' : tmps[p]?.getD undef = .pointer (some ⟨b, 0, none⟩) := by simpa using hp
  simp only [results, h]
  simp [hp', asAddr]
  go_simp

/-- A grid in longer memory. -/
def lad (g : Gr) (b1 b2 b3 : Nat) : Ad := ⟨some ⟨b1, 0, none⟩, g.B.length + 2, some ⟨b2, 0, none⟩, g.R.length + 2, some ⟨b3, 0, none⟩, g.D.length + 2⟩
structure Lent (W : World) (B : Nat) (g : Gr) (b1 b2 b3 : Nat) : Prop where
  s1 : Spare W B b1 g.B
  s2 : Spare W B b2 g.R
  s3 : Spare W B b3 g.D
theorem Lent.below {W W' : World} {B : Nat} {g : Gr} {b1 b2 b3 : Nat} (h : Lent W B g b1 b2 b3) (hb : Below W.heap.size W W') : Lent W' B g b1 b2 b3 := ⟨h.s1.below hb, h.s2.below hb, h.s3.below hb⟩
theorem Lent.rg {W : World} {B : Nat} {g : Gr} {b1 b2 b3 : Nat} (h : Lent W B g b1 b2 b3) : RG W g (lad g b1 b2 b3) := ⟨h.s1.reads, h.s2.reads, h.s3.reads⟩
/-- A nil list has no room. -/
def Ad.nz (p : Ad) : Prop := (p.a1 = none → p.c1 = 0) ∧ (p.a2 = none → p.c2 = 0) ∧ (p.a3 = none → p.c3 = 0)

theorem set_grown (w : World) (b j : Nat) (u : Value) : w.grownBy (w.setCell ⟨b, j, none⟩ u) (some b) := ⟨rfl, rfl, rfl, by simp, fun k _ hk => heap_setCell_other w ⟨b, j, none⟩ k u (fun e => hk (by simp [e]))⟩
theorem Spare.set {W : World} {B b : Nat} {zs : List Bool} (h : Spare W B b zs) {c j : Nat} {u : Value} (hc : c < B) : Spare (W.setCell ⟨c, j, none⟩ u) B b zs :=
  World.ownsRow.kept h (set_grown W c j u) (.inr fun e => by have := h.lt.1; have e2 : b = c := Option.some.inj e; omega)
/-- A block of five cells. -/
structure Five (W : World) (b : Nat) (x0 x1 x2 x3 x4 : Value) : Prop where
  blk : W.heap[b]? = some (.cells #[x0, x1, x2, x3, x4] 24)
theorem Five.c0 {W : World} {b : Nat} {x0 x1 x2 x3 x4 : Value} (h : Five W b x0 x1 x2 x3 x4) : W.cell? ⟨b, 0, none⟩ = some x0 := by simp [World.cell?, h.blk]
theorem Five.c1 {W : World} {b : Nat} {x0 x1 x2 x3 x4 : Value} (h : Five W b x0 x1 x2 x3 x4) : W.cell? ⟨b, 1, none⟩ = some x1 := by simp [World.cell?, h.blk]
theorem Five.c2 {W : World} {b : Nat} {x0 x1 x2 x3 x4 : Value} (h : Five W b x0 x1 x2 x3 x4) : W.cell? ⟨b, 2, none⟩ = some x2 := by simp [World.cell?, h.blk]
theorem Five.c3 {W : World} {b : Nat} {x0 x1 x2 x3 x4 : Value} (h : Five W b x0 x1 x2 x3 x4) : W.cell? ⟨b, 3, none⟩ = some x3 := by simp [World.cell?, h.blk]
theorem Five.c4 {W : World} {b : Nat} {x0 x1 x2 x3 x4 : Value} (h : Five W b x0 x1 x2 x3 x4) : W.cell? ⟨b, 4, none⟩ = some x4 := by simp [World.cell?, h.blk]
theorem Five.fr {W : World} {b : Nat} {x0 x1 x2 x3 x4 : Value} (h : Five W b x0 x1 x2 x3 x4) (j : Nat) : W.frozen? ⟨b, j, none⟩ = false := frozen_of_row W b j _ _ h.blk
theorem Five.lt {W : World} {b : Nat} {x0 x1 x2 x3 x4 : Value} (h : Five W b x0 x1 x2 x3 x4) : b < W.heap.size := (Array.getElem?_eq_some_iff.1 h.blk).1
theorem Five.keep {W W' : World} {b : Nat} {x0 x1 x2 x3 x4 : Value} (h : Five W b x0 x1 x2 x3 x4) (hb : Below W.heap.size W W') : Five W' b x0 x1 x2 x3 x4 := ⟨(hb.block b h.lt).trans h.blk⟩
theorem Five.other {W : World} {b c j : Nat} {x0 x1 x2 x3 x4 u : Value} (h : Five W b x0 x1 x2 x3 x4) (hc : b ≠ c) : Five (W.setCell ⟨c, j, none⟩ u) b x0 x1 x2 x3 x4 := ⟨((set_grown W c j u).block b h.lt (fun e => hc (Option.some.inj e))).trans h.blk⟩
theorem Five.set0 {W : World} {b : Nat} {x0 x1 x2 x3 x4 : Value} (h : Five W b x0 x1 x2 x3 x4) (u : Value) : Five (W.setCell ⟨b, 0, none⟩ u) b u x1 x2 x3 x4 := ⟨heap_setCell_same W b 0 _ _ u h.blk⟩
theorem Five.set1 {W : World} {b : Nat} {x0 x1 x2 x3 x4 : Value} (h : Five W b x0 x1 x2 x3 x4) (u : Value) : Five (W.setCell ⟨b, 1, none⟩ u) b x0 u x2 x3 x4 := ⟨heap_setCell_same W b 1 _ _ u h.blk⟩
theorem Five.set2 {W : World} {b : Nat} {x0 x1 x2 x3 x4 : Value} (h : Five W b x0 x1 x2 x3 x4) (u : Value) : Five (W.setCell ⟨b, 2, none⟩ u) b x0 x1 u x3 x4 := ⟨heap_setCell_same W b 2 _ _ u h.blk⟩
theorem Five.set3 {W : World} {b : Nat} {x0 x1 x2 x3 x4 : Value} (h : Five W b x0 x1 x2 x3 x4) (u : Value) : Five (W.setCell ⟨b, 3, none⟩ u) b x0 x1 x2 u x4 := ⟨heap_setCell_same W b 3 _ _ u h.blk⟩
theorem Five.set4 {W : World} {b : Nat} {x0 x1 x2 x3 x4 : Value} (h : Five W b x0 x1 x2 x3 x4) (u : Value) : Five (W.setCell ⟨b, 4, none⟩ u) b x0 x1 x2 x3 u := ⟨heap_setCell_same W b 4 _ _ u h.blk⟩
theorem Below.setIn {B b j : Nat} {w W : World} {u : Value} (h : Below B w W) (hb : B ≤ b) (hs : B ≤ W.heap.size) : Below B w (W.setCell ⟨b, j, none⟩ u) := h.grown (set_grown W b j u) hs (fun k hk => by injection hk with hk; omega)

set_option maxHeartbeats 2000000 in
theorem lent_any (g : Gr) (p : Ad) (w : World) (hl : g.lenOk) (hR : RG w g p) (hp : p.nz) :
    Calls Tryd.prog 10 #[gv g p] w fun e w' => ∃ b1 b2 b3, e = .returned (gv g (lad g b1 b2 b3)) ∧ Lent w' w.heap.size g b1 b2 b3 ∧ Below w.heap.size w w' := by
  have H1 : Aside (∀ W, Below w.heap.size w W → Calls Tryd.prog 29 #[.slice p.a1 g.B.length p.c1] W fun e w' => ∃ b, e = .returned (.slice (some ⟨b, 0, none⟩) g.B.length (g.B.length + 2)) ∧ Spare w' W.heap.size b g.B ∧ Below W.heap.size W w') := fun W h => spare_any g.B p.a1 p.c1 W hl.1 (hR.b.below h) hp.1
  have H2 : Aside (∀ W, Below w.heap.size w W → Calls Tryd.prog 29 #[.slice p.a2 g.R.length p.c2] W fun e w' => ∃ b, e = .returned (.slice (some ⟨b, 0, none⟩) g.R.length (g.R.length + 2)) ∧ Spare w' W.heap.size b g.R ∧ Below W.heap.size W w') := fun W h => spare_any g.R p.a2 p.c2 W hl.2.1 (hR.r.below h) hp.2.1
  have H3 : Aside (∀ W, Below w.heap.size w W → Calls Tryd.prog 29 #[.slice p.a3 g.D.length p.c3] W fun e w' => ∃ b, e = .returned (.slice (some ⟨b, 0, none⟩) g.D.length (g.D.length + 2)) ∧ Spare w' W.heap.size b g.D ∧ Below W.heap.size W w') := fun W h => spare_any g.D p.a3 p.c3 W hl.2.2 (hR.d.below h) hp.2.2
  unfold gv lad
  dsimp only
  clear hR hp hl
  go_enter Tryd.func10, Tryd.ntmps10
  go_wp2_with fail
  obtain ⟨W0, hW0⟩ : ∃ W0, W0 = ((w.alloc (.cells #[.int .i64 g.h, .int .i64 g.w, .slice p.a1 g.B.length p.c1, .slice p.a2 g.R.length p.c2, .slice p.a3 g.D.length p.c3] 24)).alloc (.cells #[.int .i64 0, .int .i64 0, .slice none 0 0, .slice none 0 0, .slice none 0 0] 24)) := ⟨_, rfl⟩
  have hF0 : Five W0 w.heap.size (.int .i64 g.h) (.int .i64 g.w) (.slice p.a1 g.B.length p.c1) (.slice p.a2 g.R.length p.c2) (.slice p.a3 g.D.length p.c3) := ⟨by rw [hW0]; exact heap_alloc2_old w _ _⟩
  have hZ0 : Five W0 (w.heap.size + 1) (.int .i64 0) (.int .i64 0) (.slice none 0 0) (.slice none 0 0) (.slice none 0 0) := ⟨by rw [hW0]; exact heap_alloc2_new w _ _⟩
  have hB0 : Below w.heap.size w W0 := by rw [hW0]; exact (below_box w _).alloc (below_box w _).size _
  have hs0 : W0.heap.size = w.heap.size + 1 + 1 := by rw [hW0, World.size_alloc, World.size_alloc]
  have c1 := H1.out W0 hB0
  refine ((by rw [← hW0]; exact c1 : Calls Tryd.prog 29 _ _ _)).mono ?_
  rintro e w1 ⟨b1, rfl, hS1, hb1⟩
  clear hW0 c1 H1
  have hF1 := hF0.keep hb1
  have hZ1 := hZ0.keep hb1
  have hB1 : Below w.heap.size w w1 := hB0.trans (hb1.mono hB0.size)
  rw [hs0] at hS1
  have k0 := hF1.c0
  have k1 := hF1.c1
  have k2 := hF1.c2
  have k3 := hF1.c3
  have k4 := hF1.c4
  have f2 := hF1.fr 2
  have HF2 : Aside (Five (w1.setCell ⟨w.heap.size, 2, none⟩ (.slice (some ⟨b1, 0, none⟩) g.B.length (g.B.length + 2))) w.heap.size (.int .i64 g.h) (.int .i64 g.w) (.slice (some ⟨b1, 0, none⟩) g.B.length (g.B.length + 2)) (.slice p.a2 g.R.length p.c2) (.slice p.a3 g.D.length p.c3)) := hF1.set2 _
  have HZ2 : Aside (Five (w1.setCell ⟨w.heap.size, 2, none⟩ (.slice (some ⟨b1, 0, none⟩) g.B.length (g.B.length + 2))) (w.heap.size + 1) (.int .i64 0) (.int .i64 0) (.slice none 0 0) (.slice none 0 0) (.slice none 0 0)) := hZ1.other (by omega)
  have HS2 : Aside (Spare (w1.setCell ⟨w.heap.size, 2, none⟩ (.slice (some ⟨b1, 0, none⟩) g.B.length (g.B.length + 2))) (w.heap.size + 1 + 1) b1 g.B) := hS1.set (by omega)
  have HB2 : Aside (Below w.heap.size w (w1.setCell ⟨w.heap.size, 2, none⟩ (.slice (some ⟨b1, 0, none⟩) g.B.length (g.B.length + 2)))) := Below.setIn hB1 (Nat.le_refl _) hB1.size
  clear hF0 hZ0 hB0 hs0 hb1 hF1 hZ1 hB1 hS1
  have c2 := H2.out _ HB2.out
  go_wp2_with fail
  refine c2.mono ?_
  rintro e w2 ⟨b2, rfl, hS2, hb2⟩
  clear c2 H2 k0 k1 k2 k3 k4 f2
  have hF2 := HF2.out.keep hb2
  have hZ2 := HZ2.out.keep hb2
  have hS1 := HS2.out.below hb2
  have hB2 : Below w.heap.size w w2 := HB2.out.trans (hb2.mono HB2.out.size)
  have hS2' := hS2.base (B' := w.heap.size + 1 + 1) (by have := HZ2.out.lt; omega)
  have k0 := hF2.c0
  have k1 := hF2.c1
  have k2 := hF2.c2
  have k3 := hF2.c3
  have k4 := hF2.c4
  have f3 := hF2.fr 3
  have HF3 : Aside (Five (w2.setCell ⟨w.heap.size, 3, none⟩ (.slice (some ⟨b2, 0, none⟩) g.R.length (g.R.length + 2))) w.heap.size (.int .i64 g.h) (.int .i64 g.w) (.slice (some ⟨b1, 0, none⟩) g.B.length (g.B.length + 2)) (.slice (some ⟨b2, 0, none⟩) g.R.length (g.R.length + 2)) (.slice p.a3 g.D.length p.c3)) := hF2.set3 _
  have HZ3 : Aside (Five (w2.setCell ⟨w.heap.size, 3, none⟩ (.slice (some ⟨b2, 0, none⟩) g.R.length (g.R.length + 2))) (w.heap.size + 1) (.int .i64 0) (.int .i64 0) (.slice none 0 0) (.slice none 0 0) (.slice none 0 0)) := hZ2.other (by omega)
  have HS3 : Aside (Spare (w2.setCell ⟨w.heap.size, 3, none⟩ (.slice (some ⟨b2, 0, none⟩) g.R.length (g.R.length + 2))) (w.heap.size + 1 + 1) b1 g.B) := hS1.set (by omega)
  have HT3 : Aside (Spare (w2.setCell ⟨w.heap.size, 3, none⟩ (.slice (some ⟨b2, 0, none⟩) g.R.length (g.R.length + 2))) (w.heap.size + 1 + 1) b2 g.R) := hS2'.set (by omega)
  have HB3 : Aside (Below w.heap.size w (w2.setCell ⟨w.heap.size, 3, none⟩ (.slice (some ⟨b2, 0, none⟩) g.R.length (g.R.length + 2)))) := Below.setIn hB2 (Nat.le_refl _) hB2.size
  clear HF2 HZ2 HS2 HB2 hF2 hZ2 hS1 hB2 hS2 hS2' hb2
  have c3 := H3.out _ HB3.out
  go_wp2_with fail
  refine c3.mono ?_
  rintro e w3 ⟨b3, rfl, hS3, hb3⟩
  clear c3 H3 k0 k1 k2 k3 k4 f3
  have hF3 := HF3.out.keep hb3
  have hZ3 := HZ3.out.keep hb3
  have hS1 := HS3.out.below hb3
  have hS2 := HT3.out.below hb3
  have hB3 : Below w.heap.size w w3 := HB3.out.trans (hb3.mono HB3.out.size)
  have hS3' := hS3.base (B' := w.heap.size + 1 + 1) (by have := HZ3.out.lt; omega)
  have k0 := hF3.c0
  have k1 := hF3.c1
  have k2 := hF3.c2
  have k3 := hF3.c3
  have k4 := hF3.c4
  have f4 := hF3.fr 4
  have z0 := hZ3.c0
  have z1 := hZ3.c1
  have z2 := hZ3.c2
  have z3 := hZ3.c3
  have z4 := hZ3.c4
  have y0 := hZ3.fr 0
  have y1 := hZ3.fr 1
  have y2 := hZ3.fr 2
  have y3 := hZ3.fr 3
  have y4 := hZ3.fr 4
  have HF : Aside (Five w3 w.heap.size (.int .i64 g.h) (.int .i64 g.w) (.slice (some ⟨b1, 0, none⟩) g.B.length (g.B.length + 2)) (.slice (some ⟨b2, 0, none⟩) g.R.length (g.R.length + 2)) (.slice p.a3 g.D.length p.c3)) := hF3
  have HZ : Aside (Five w3 (w.heap.size + 1) (.int .i64 0) (.int .i64 0) (.slice none 0 0) (.slice none 0 0) (.slice none 0 0)) := hZ3
  have HL : Aside (Lent w3 (w.heap.size + 1 + 1) g b1 b2 b3) := ⟨hS1, hS2, hS3'⟩
  have HB : Aside (Below w.heap.size w w3) := hB3
  clear HF3 HZ3 HS3 HT3 HB3 hF3 hZ3 hS1 hS2 hS3 hS3' hB3 hb3
  go_wp2
  have hF5 := (((((HZ.out.other (c := w.heap.size) (j := 4) (u := .slice (some ⟨b3, 0, none⟩) g.D.length (g.D.length + 2)) (by omega)).set0 (.int .i64 g.h)).set1 (.int .i64 g.w)).set2 (.slice (some ⟨b1, 0, none⟩) g.B.length (g.B.length + 2))).set3 (.slice (some ⟨b2, 0, none⟩) g.R.length (g.R.length + 2))).set4 (.slice (some ⟨b3, 0, none⟩) g.D.length (g.D.length + 2))
  have hB5 := Below.setIn (j := 4) (u := .slice (some ⟨b3, 0, none⟩) g.D.length (g.D.length + 2)) HB.out (Nat.le_refl _) HB.out.size
  have hB6 := Below.setIn (b := w.heap.size + 1) (j := 0) (u := .int .i64 g.h) hB5 (by omega) hB5.size
  have hB7 := Below.setIn (b := w.heap.size + 1) (j := 1) (u := .int .i64 g.w) hB6 (by omega) hB6.size
  have hB8 := Below.setIn (b := w.heap.size + 1) (j := 2) (u := .slice (some ⟨b1, 0, none⟩) g.B.length (g.B.length + 2)) hB7 (by omega) hB7.size
  have hB9 := Below.setIn (b := w.heap.size + 1) (j := 3) (u := .slice (some ⟨b2, 0, none⟩) g.R.length (g.R.length + 2)) hB8 (by omega) hB8.size
  have hB10 := Below.setIn (b := w.heap.size + 1) (j := 4) (u := .slice (some ⟨b3, 0, none⟩) g.D.length (g.D.length + 2)) hB9 (by omega) hB9.size
  refine bodyPost_ret (results_g rfl _ _ (w.heap.size + 1) _ _ _ _ _ rfl hF5.c0 hF5.c1 hF5.c2 hF5.c3 hF5.c4) rfl ⟨b1, b2, b3, rfl, ⟨?_, ?_, ?_⟩, hB10⟩
  · exact ((((((HL.out.s1.set (by omega)).set (by omega)).set (by omega)).set (by omega)).set (by omega)).set (by omega)).base (by omega)
  · exact ((((((HL.out.s2.set (by omega)).set (by omega)).set (by omega)).set (by omega)).set (by omega)).set (by omega)).base (by omega)
  · exact ((((((HL.out.s3.set (by omega)).set (by omega)).set (by omega)).set (by omega)).set (by omega)).set (by omega)).base (by omega)
end Go.Proofs.YtaepndaboefbeaaDoor.Grd
