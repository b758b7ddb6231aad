/-
  SketchReads walked.
-/
import Derived.Test.YthjgldjjplcncaaDoorSkr3q
import Derived.Test.YthjgldjjplcncaaDoorGsk
namespace Go.Proofs.YthjgldjjplcncaaDoor.Skt
open Go Go.Lib Go.RowKit Utf Grd

theorem prs_len (s : ByteArray) : (prs s).1.lenOk := by
  by_cases h : (prs s).2.2 = 0
  · exact len_ok ((prs_facts s).1 h).1
  · rw [((prs_facts s).2 h).1]
    exact ⟨Nat.zero_le _, Nat.zero_le _, Nat.zero_le _⟩
set_option maxRecDepth 100000 in
set_option maxHeartbeats 1000000 in
theorem sketchReads_walk (s : ByteArray) (W : World) (hs : s.size ≤ 140737488355328) (hT : Lib.Utf8Tabs 1 2 W) (hw : Wy W) :
    Calls Tryd.prog 3 #[.string s] W fun e W' => e = .returned (.bool true) ∧ Below W.heap.size W W' := by
  have cA := awake8_any W hT hw
  have HWB : Aside (∀ Z, Below W.heap.size W Z → Wy Z ∧ Lib.Utf8Tabs 1 2 Z) := fun Z hZ => ⟨hw.below hw.size hZ, tabs_below hZ (tabs_size hT) hT⟩
  clear hw hT
  go_enter Tryd.func3, Tryd.ntmps3
  go_wp2_with fail
  refine cA.mono ?_
  rintro e w1 ⟨rfl, hb1⟩
  have HB1 : Aside (Below W.heap.size W w1) := hb1
  have cP := parse_any s w1 (HWB.out w1 hb1).2 (HWB.out w1 hb1).1 hs
  have HRF : Aside (∀ Z, Calls Tryd.prog 6 #[.string s] Z fun e W' => ∃ p : Ad, e = .returned (.tuple #[gv (prs s).1 p, .int .i64 ((prs s).2.1 : Nat), .int .i64 ((prs s).2.2 : Nat)]) ∧ RG W' (prs s).1 p ∧ Below Z.heap.size Z W') := fun Z => refParse_any s Z hs
  have HLN : Aside ((prs s).1.lenOk) := prs_len s
  clear cA hb1
  have HPS : Aside (∃ x, prs s = x) := ⟨_, rfl⟩
  generalize (prs s).1 = G at *
  generalize (prs s).2.1 = a at *
  generalize (prs s).2.2 = er at *
  clear HPS
  go_wp2_with fail
  refine cP.mono ?_
  rintro e w2 ⟨p, rfl, hR, hb2⟩
  have HB2 : Aside (Below W.heap.size W w2) := HB1.out.trans (hb2.mono HB1.out.size)
  have HR : Aside (RG w2 G p) := hR
  clear cP hb2 hR
  have hbx := below_box w2 (.cells #[.int .i64 G.h, .int .i64 G.w, .slice p.a1 G.B.length p.c1, .slice p.a2 G.R.length p.c2, .slice p.a3 G.D.length p.c3] 25)
  obtain ⟨wx, hwx⟩ : ∃ wx, wx = w2.alloc (.cells #[.int .i64 G.h, .int .i64 G.w, .slice p.a1 G.B.length p.c1, .slice p.a2 G.R.length p.c2, .slice p.a3 G.D.length p.c3] 25) := ⟨_, rfl⟩
  have HX : Aside (Bx wx w2.heap.size G p ∧ RG wx G p ∧ Below W.heap.size W wx) := by
    rw [hwx]
    exact ⟨Bx.new w2 G p _, HR.out.below hbx, HB2.out.trans (hbx.mono HB2.out.size)⟩
  have cR := HRF.out wx
  rw [hwx] at cR
  unfold gv
  clear hbx
  go_wp2_with fail
  rw [← hwx] at cR ⊢
  refine cR.mono ?_
  clear hwx
  rintro e w3 ⟨q, rfl, hR3, hb3⟩
  have HB3 : Aside (Below W.heap.size W w3) := HX.out.2.2.trans (hb3.mono HX.out.2.2.size)
  have HX3 : Aside (Bx w3 w2.heap.size G p ∧ RG w3 G p) := ⟨HX.out.1.keep hb3, HX.out.2.1.below hb3⟩
  have hby := below_box w3 (.cells #[.int .i64 G.h, .int .i64 G.w, .slice q.a1 G.B.length q.c1, .slice q.a2 G.R.length q.c2, .slice q.a3 G.D.length q.c3] 25)
  obtain ⟨wy, hwy⟩ : ∃ wy, wy = w3.alloc (.cells #[.int .i64 G.h, .int .i64 G.w, .slice q.a1 G.B.length q.c1, .slice q.a2 G.R.length q.c2, .slice q.a3 G.D.length q.c3] 25) := ⟨_, rfl⟩
  have HY : Aside (Bx wy w3.heap.size G q ∧ Bx wy w2.heap.size G p ∧ RG wy G p ∧ RG wy G q ∧ Below W.heap.size W wy) := by
    rw [hwy]
    exact ⟨Bx.new w3 G q _, HX3.out.1.keep hby, HX3.out.2.below hby, hR3.below hby, HB3.out.trans (hby.mono HB3.out.size)⟩
  obtain ⟨_, k0, k1, k2, k3, k4⟩ := HY.out.1
  obtain ⟨_, j0, j1, j2, j3, j4⟩ := HY.out.2.1
  have cS := refSame_any G G p q wy HLN.out HY.out.2.2.1 HY.out.2.2.2.1
  rw [Gr.same_refl] at cS
  rw [hwy] at cS k0 k1 k2 k3 k4 j0 j1 j2 j3 j4
  unfold gv at cS ⊢
  clear cR hb3 hR3 hby HX HX3 HR
  go_wp2_with fail
  rw [← hwy] at cS ⊢
  refine cS.mono ?_
  rintro e w4 ⟨rfl, hb4⟩
  have HB4 : Aside (Below W.heap.size W w4) := HY.out.2.2.2.2.trans (hb4.mono HY.out.2.2.2.2.size)
  clear cS hb4 k0 k1 k2 k3 k4 j0 j1 j2 j3 j4 hwy
  go_wp2
  go_ret
  exact ⟨rfl, HB4.out⟩
end Go.Proofs.YthjgldjjplcncaaDoor.Skt
