/-
  Layer 6: Turn, of any grid and number.
-/
import Derived.Test.YthjgldjjplcncabDoorTrnqq
import Derived.Test.YthjgldjjplcncabDoorGge
namespace Go.Proofs.YthjgldjjplcncabDoor.Grd
open Go Go.Lib Go.RowKit

theorem results_gtc {fn : Func} {p q : Tmp} (h : fn.results = #[.cell p 27, .tmp q]) (tmps : Array Value) (w : World) (b : Nat) (x0 x1 x2 x3 x4 : Value)
    (hp : tmps.getD p undef = .pointer (some ⟨b, 0, none⟩)) (hb : Five w b x0 x1 x2 x3 x4) :
    (results fn tmps).run Tryd.prog w = .ok (.tuple #[.agg #[x0, x1, x2, x3, x4], tmps.getD q undef]) w := results_gt h tmps w b x0 x1 x2 x3 x4 hp hb.blk
/-- Five stores. -/
def st5 (W : World) (b : Nat) (y0 y1 y2 y3 y4 : Value) : World := ((((W.setCell ⟨b, 0, none⟩ y0).setCell ⟨b, 1, none⟩ y1).setCell ⟨b, 2, none⟩ y2).setCell ⟨b, 3, none⟩ y3).setCell ⟨b, 4, none⟩ y4
theorem Five.all {W : World} {b : Nat} {x0 x1 x2 x3 x4 : Value} (h : Five W b x0 x1 x2 x3 x4) (y0 y1 y2 y3 y4 : Value) : Five (st5 W b y0 y1 y2 y3 y4) b y0 y1 y2 y3 y4 := ((((h.set0 y0).set1 y1).set2 y2).set3 y3).set4 y4
theorem Dif.st5 {O : Nat → Prop} {a W : World} (h : Dif O a W) {b : Nat} (hb : O b) (y0 y1 y2 y3 y4 : Value) : Dif O a (st5 W b y0 y1 y2 y3 y4) := ((((h.set b 0 y0 hb).set b 1 y1 hb).set b 2 y2 hb).set b 3 y3 hb).set b 4 y4 hb
theorem Below.all {B b : Nat} {w W : World} (h : Below B w W) (hb : B ≤ b) (hs : B ≤ W.heap.size) (y0 y1 y2 y3 y4 : Value) : Below B w (st5 W b y0 y1 y2 y3 y4) :=
  h.trans ((Dif.st5 (Dif.refl (fun k => k = b) W) rfl y0 y1 y2 y3 y4).below (B := B) (fun k hk _ => by omega) hs)
theorem MadeG.st5 {B b : Nat} {W : World} {n g1 g2 g3 : Nat} {xs ys zs : List Bool} (h : MadeG B W n g1 g2 g3 xs ys zs) (hb : b ≠ g1 ∧ b ≠ g2 ∧ b ≠ g3) (y0 y1 y2 y3 y4 : Value) : MadeG B (st5 W b y0 y1 y2 y3 y4) n g1 g2 g3 xs ys zs := by
  have hd := Dif.st5 (Dif.refl (fun k => k = b) W) rfl y0 y1 y2 y3 y4
  exact ⟨h.n12, h.n13, h.n23, hd.row h.r1 (fun e => hb.1 e.symm), hd.row h.r2 (fun e => hb.2.1 e.symm), hd.row h.r3 (fun e => hb.2.2 e.symm)⟩

set_option maxHeartbeats 1000000 in
theorem Turn_bad (g : Gr) (p : Ad) (k : Int) (w : World) (hk : ¬ (0 ≤ k ∧ k < 8)) :
    Calls Tryd.prog 8 #[gv g p, .int .i64 k] w fun e w' => e = .returned (.tuple #[zeroG, .int .i64 60]) ∧ Below w.heap.size w w' := by
  have cT := fun W => isTurn_any k W
  simp only [decide_eq_false hk] at cT
  unfold gv zeroG
  go_enter Tryd.func8, Tryd.ntmps8
  go_wp2_with fail
  refine (cT _).mono ?_
  rintro e w1 ⟨rfl, hw⟩
  have F0 : Five w1 w.heap.size (.int .i64 g.h) (.int .i64 g.w) (.slice p.a1 g.B.length p.c1) (.slice p.a2 g.R.length p.c2) (.slice p.a3 g.D.length p.c3) := ⟨by rw [hw]; exact heap_alloc2_old w _ _⟩
  have F1 : Five w1 (w.heap.size + 1) (.int .i64 0) (.int .i64 0) (.slice none 0 0) (.slice none 0 0) (.slice none 0 0) := ⟨by rw [hw]; exact heap_alloc2_new w _ _⟩
  have hB : Below w.heap.size w w1 := by rw [hw]; exact (below_box w _).alloc (below_box w _).size _
  clear cT hw
  have HF : Aside (Five w1 (w.heap.size + 1) (.int .i64 0) (.int .i64 0) (.slice none 0 0) (.slice none 0 0) (.slice none 0 0) ∧ Below w.heap.size w w1) := ⟨F1, hB⟩
  have z0 := F1.c0
  have z1 := F1.c1
  have z2 := F1.c2
  have z3 := F1.c3
  have z4 := F1.c4
  have y0 := F1.fr 0
  have y1 := F1.fr 1
  have y2 := F1.fr 2
  have y3 := F1.fr 3
  have y4 := F1.fr 4
  clear F0 F1 hB
  go_wp2
  exact bodyPost_ret (results_gtc rfl _ _ (w.heap.size + 1) _ _ _ _ _ rfl (HF.out.1.all _ _ _ _ _)) rfl ⟨rfl, Below.all HF.out.2 (by omega) HF.out.2.size _ _ _ _ _⟩

set_option maxHeartbeats 1000000 in
theorem Turn_shut (g : Gr) (p : Ad) (k : Int) (w : World) (hk : 0 ≤ k ∧ k < 8) (hw' : Wy w) (hR : RG w g p) (hc : ¬ g.ok) :
    Calls Tryd.prog 8 #[gv g p, .int .i64 k] w fun e w' => e = .returned (.tuple #[zeroG, .int .i64 (g.chk : Nat)]) ∧ Below w.heap.size w w' := by
  have cT := fun W => isTurn_any k W
  simp only [decide_eq_true hk] at cT
  have CC : Aside (∀ W, Below w.heap.size w W → Calls Tryd.prog 16 #[gv g p] W fun e w' => e = .returned (.int .i64 (g.chk : Nat)) ∧ Below W.heap.size W w') := fun W h => check_any g p W (hw'.below hw'.size h) (hR.below h)
  have hc2 : ¬ g.chk = 0 := hc
  unfold gv at CC
  unfold gv zeroG
  clear hR hw' hc
  go_enter Tryd.func8, Tryd.ntmps8
  go_wp2_with fail
  refine (cT _).mono ?_
  rintro e w1 ⟨rfl, hw⟩
  have F0 : Five w1 w.heap.size (.int .i64 g.h) (.int .i64 g.w) (.slice p.a1 g.B.length p.c1) (.slice p.a2 g.R.length p.c2) (.slice p.a3 g.D.length p.c3) := ⟨by rw [hw]; exact heap_alloc2_old w _ _⟩
  have F1 : Five w1 (w.heap.size + 1) (.int .i64 0) (.int .i64 0) (.slice none 0 0) (.slice none 0 0) (.slice none 0 0) := ⟨by rw [hw]; exact heap_alloc2_new w _ _⟩
  have hB : Below w.heap.size w w1 := by rw [hw]; exact (below_box w _).alloc (below_box w _).size _
  clear cT hw
  have k0 := F0.c0
  have k1 := F0.c1
  have k2 := F0.c2
  have k3 := F0.c3
  have k4 := F0.c4
  have cC := CC.out w1 hB
  go_wp2_with fail
  refine cC.mono ?_
  rintro e w2 ⟨rfl, hb2⟩
  have F2 := F1.keep hb2
  have HF : Aside (Five w2 (w.heap.size + 1) (.int .i64 0) (.int .i64 0) (.slice none 0 0) (.slice none 0 0) (.slice none 0 0) ∧ Below w.heap.size w w2) := ⟨F2, hB.trans (hb2.mono hB.size)⟩
  have z0 := F2.c0
  have z1 := F2.c1
  have z2 := F2.c2
  have z3 := F2.c3
  have z4 := F2.c4
  have y0 := F2.fr 0
  have y1 := F2.fr 1
  have y2 := F2.fr 2
  have y3 := F2.fr 3
  have y4 := F2.fr 4
  clear F0 F1 F2 hB hb2 cC k0 k1 k2 k3 k4
  go_wp2
  exact bodyPost_ret (results_gtc rfl _ _ (w.heap.size + 1) _ _ _ _ _ rfl (HF.out.1.all _ _ _ _ _)) rfl ⟨rfl, Below.all HF.out.2 (by omega) HF.out.2.size _ _ _ _ _⟩

set_option maxHeartbeats 1000000 in
theorem Turn_open (g : Gr) (p : Ad) (k : Nat) (w : World) (hk : k < 8) (hw' : Wy w) (hR : RG w g p) (hc : g.ok) :
    Calls Tryd.prog 8 #[gv g p, .int .i64 k] w fun e w' => ∃ g1 g2 g3, e = .returned (.tuple #[gv3 (g.th k) (g.tw k) g.n g1 g2 g3, .int .i64 0]) ∧ MadeG w.heap.size w' g.n g1 g2 g3 (g.turn k).B (g.turn k).R (g.turn k).D ∧ Below w.heap.size w w' := by
  have cT := fun W => isTurn_any (k : Int) W
  simp only [decide_eq_true (show (0 : Int) ≤ (k : Int) ∧ (k : Int) < 8 by omega)] at cT
  have hc2 : g.chk = 0 := hc
  have CC : Aside (∀ W, Below w.heap.size w W → Calls Tryd.prog 16 #[gv g p] W fun e w' => e = .returned (.int .i64 0) ∧ Below W.heap.size W w') := fun W h => by
    have := check_any g p W (hw'.below hw'.size h) (hR.below h)
    rw [hc2] at this
    exact this
  have CT : Aside (∀ W, Below w.heap.size w W → Calls Tryd.prog 22 #[gv g p, .int .i64 k] W fun e w' => ∃ g1 g2 g3, e = .returned (gv3 (g.th k) (g.tw k) g.n g1 g2 g3) ∧ MadeG W.heap.size w' g.n g1 g2 g3 (g.turn k).B (g.turn k).R (g.turn k).D ∧ Below W.heap.size W w') := fun W h => turned_any g p (Gr.right_of hc) k hk W (hR.below h)
  unfold gv at CC CT
  unfold gv3 at CT
  unfold gv gv3
  clear hR hw' hc hc2
  go_enter Tryd.func8, Tryd.ntmps8
  go_wp2_with fail
  refine (cT _).mono ?_
  rintro e w1 ⟨rfl, hw⟩
  have F0 : Five w1 w.heap.size (.int .i64 g.h) (.int .i64 g.w) (.slice p.a1 g.B.length p.c1) (.slice p.a2 g.R.length p.c2) (.slice p.a3 g.D.length p.c3) := ⟨by rw [hw]; exact heap_alloc2_old w _ _⟩
  have F1 : Five w1 (w.heap.size + 1) (.int .i64 0) (.int .i64 0) (.slice none 0 0) (.slice none 0 0) (.slice none 0 0) := ⟨by rw [hw]; exact heap_alloc2_new w _ _⟩
  have hB : Below w.heap.size w w1 := by rw [hw]; exact (below_box w _).alloc (below_box w _).size _
  clear cT hw
  have k0 := F0.c0
  have k1 := F0.c1
  have k2 := F0.c2
  have k3 := F0.c3
  have k4 := F0.c4
  have cC := CC.out w1 hB
  go_wp2_with fail
  refine cC.mono ?_
  rintro e w2 ⟨rfl, hb2⟩
  clear k0 k1 k2 k3 k4
  have G0 := F0.keep hb2
  have G1 := F1.keep hb2
  have hB2 : Below w.heap.size w w2 := hB.trans (hb2.mono hB.size)
  have k0 := G0.c0
  have k1 := G0.c1
  have k2 := G0.c2
  have k3 := G0.c3
  have k4 := G0.c4
  have cT := CT.out w2 hB2
  clear F0 F1 hB hb2 cC CC CT
  have HG : Aside (Five w2 (w.heap.size + 1) (.int .i64 0) (.int .i64 0) (.slice none 0 0) (.slice none 0 0) (.slice none 0 0) ∧ Below w.heap.size w w2) := ⟨G1, hB2⟩
  clear G0 G1 hB2
  go_wp2_with fail
  refine cT.mono ?_
  rintro e w3 ⟨g1, g2, g3, rfl, hM, hb3⟩
  clear k0 k1 k2 k3 k4
  have F3 := HG.out.1.keep hb3
  have hB3 : Below w.heap.size w w3 := HG.out.2.trans (hb3.mono HG.out.2.size)
  have HM : Aside (MadeG w2.heap.size w3 g.n g1 g2 g3 (g.turn k).B (g.turn k).R (g.turn k).D ∧ Five w3 (w.heap.size + 1) (.int .i64 0) (.int .i64 0) (.slice none 0 0) (.slice none 0 0) (.slice none 0 0) ∧ Below w.heap.size w w3 ∧ w.heap.size + 1 < w2.heap.size) := ⟨hM, F3, hB3, HG.out.1.lt⟩
  have z0 := F3.c0
  have z1 := F3.c1
  have z2 := F3.c2
  have z3 := F3.c3
  have z4 := F3.c4
  have y0 := F3.fr 0
  have y1 := F3.fr 1
  have y2 := F3.fr 2
  have y3 := F3.fr 3
  have y4 := F3.fr 4
  clear F3 hM hb3 hB3 cT HG
  go_wp2
  obtain ⟨hM, F3, hB3, hlt⟩ := HM.out
  obtain ⟨l1, l2, l3⟩ := hM.lo
  exact bodyPost_ret (results_gtc rfl _ _ (w.heap.size + 1) _ _ _ _ _ rfl (F3.all _ _ _ _ _)) rfl ⟨g1, g2, g3, rfl, (hM.st5 (by omega) _ _ _ _ _).base (by omega), Below.all hB3 (by omega) hB3.size _ _ _ _ _⟩
end Go.Proofs.YthjgldjjplcncabDoor.Grd
