/-
  TurnCanon walked: turned grids have one canon, which is its own.
-/
import Derived.Test.YtgpnnnhhidbajaaDoorTrnw
import Derived.Test.YtgpnnnhhidbajaaDoorTgroupw
namespace Go.Proofs.YtgpnnnhhidbajaaDoor.Grd
open Go Go.Lib Go.RowKit

/-- CANON's ANSWER for a right grid. -/
theorem Canon_val (g : Gr) (p : Ad) (w : World) (hw' : Wy w) (hR : RG w g p) (hc : g.ok) :
    Calls Tryd.prog 14 #[gv g p] w fun e w' => ∃ a q, e = .returned (.tuple #[gv (g.turn a) q, .int .i64 (a : Nat), .int .i64 0]) ∧ g.Least 8 a ∧ RG w' (g.turn a) q ∧ Below w.heap.size w w' := by
  refine (Canon_open g p w hw' hR hc).mono ?_
  rintro e w' ⟨a, g1, g2, g3, rfl, hL, hM, hb⟩
  exact ⟨a, ad3 g.n g1 g2 g3, by rw [gv3_gv (Gr.right_of hc)], hL, hM.rg, hb⟩

set_option maxRecDepth 100000 in
set_option maxHeartbeats 2000000 in
theorem turnCanon_shut (g : Gr) (p : Ad) (k : Int) (w : World) (hR : RG w g p) (hw : Wy w) (hc : ¬ g.ok) :
    Calls Tryd.prog 6 #[gv g p, .int .i64 k] w fun e w' => e = .returned (.bool true) ∧ Below w.heap.size w w' := by
  have cA := fun W => awake6_any W
  have CC : Aside (∀ W, Below w.heap.size w W → Calls Tryd.prog 14 #[gv g p] W fun e w' => e = .returned (.tuple #[zeroG, .int .i64 0, .int .i64 (g.chk : Nat)]) ∧ Below W.heap.size W w') := fun W h => Canon_shut g p W (hw.below hw.size h) (hR.below h) hc
  have hc2 : ¬ g.chk = 0 := hc
  unfold gv zeroG at CC
  unfold gv
  have HG0 := Hs.new hR 24
  clear hR hw
  go_enter Tryd.func6, Tryd.ntmps6
  go_wp2_with fail
  refine (cA _).mono ?_
  rintro e w1 ⟨rfl, hb1⟩
  have HG1 : Aside (Hs w1 w.heap.size g p) := HG0.keep hb1
  have HB1 : Aside (Below w.heap.size w w1) := (below_box w _).trans (hb1.mono (below_box w _).size)
  clear cA hb1 HG0
  obtain ⟨⟨_, k0, k1, k2, k3, k4⟩, _⟩ := HG1.out
  have cC := CC.out w1 HB1.out
  go_wp2_with fail
  refine cC.mono ?_
  rintro e w2 ⟨rfl, hb2⟩
  have HB2 : Aside (Below w.heap.size w w2) := HB1.out.trans (hb2.mono HB1.out.size)
  clear cC hb2 k0 k1 k2 k3 k4
  go_wp2
  go_ret
  exact ⟨rfl, HB2.out.alloc HB2.out.size _⟩

set_option maxRecDepth 100000 in
set_option maxHeartbeats 8000000 in
theorem turnCanon_open (g : Gr) (p : Ad) (k : Int) (w : World) (hR : RG w g p) (hw : Wy w) (hc : g.ok) :
    Calls Tryd.prog 6 #[gv g p, .int .i64 k] w fun e w' => e = .returned (.bool true) ∧ Below w.heap.size w w' := by
  have cA := fun W => awake6_any W
  have CV : Aside (∀ (G : Gr) (q : Ad) (k : Nat) W, k < 8 → Below w.heap.size w W → RG W G q → G.ok → Calls Tryd.prog 8 #[gv G q, .int .i64 k] W fun e w' => ∃ r, e = .returned (.tuple #[gv (G.turn k) r, .int .i64 0]) ∧ RG w' (G.turn k) r ∧ r.fresh W.heap.size ∧ Below W.heap.size W w') := fun G q k W hk h hG hok => Turn_val G q k W hk (hw.below hw.size h) hG hok
  have CC : Aside (∀ (G : Gr) (q : Ad) W, Below w.heap.size w W → RG W G q → G.ok → Calls Tryd.prog 14 #[gv G q] W fun e w' => ∃ a r, e = .returned (.tuple #[gv (G.turn a) r, .int .i64 (a : Nat), .int .i64 0]) ∧ G.Least 8 a ∧ RG w' (G.turn a) r ∧ Below W.heap.size W w') := fun G q W h hG hok => Canon_val G q W (hw.below hw.size h) hG hok
  have HOK : Aside g.ok := hc
  obtain ⟨m, hkm, hml⟩ := low_bits k 7 (by omega)
  rw [show ((7 : Nat) : Int) = 7 from rfl] at hkm
  clear hc
  unfold gv
  have HG0 := Hs.new hR 24
  clear hR hw
  go_enter Tryd.func6, Tryd.ntmps6
  go_wp2_with fail
  refine (cA _).mono ?_
  rintro e w1 ⟨rfl, hb1⟩
  have HG1 : Aside (Hs w1 w.heap.size g p) := HG0.keep hb1
  have HB1 : Aside (Below w.heap.size w w1) := (below_box w _).trans (hb1.mono (below_box w _).size)
  clear cA hb1 HG0
  obtain ⟨⟨_, k0, k1, k2, k3, k4⟩, _⟩ := HG1.out
  have cC := CC.out g p w1 HB1.out HG1.out.rg HOK.out
  unfold gv at cC
  go_wp2_with fail
  refine cC.mono ?_
  rintro e w2 ⟨a, qC, rfl, hL, hRc, hb2⟩
  obtain ⟨C, hC⟩ : ∃ C, g.turn a = C := ⟨_, rfl⟩
  rw [hC] at hRc
  rw [hC]
  have hal := hL.1
  have HC : Aside (g.turn a = C ∧ g.Least 8 a ∧ C.Right) := ⟨hC, hL, by rw [← hC]; exact Gr.turn_right (Gr.right_of HOK.out) a⟩
  have HC3 : Aside (Hs (w2.alloc (.cells #[.int .i64 C.h, .int .i64 C.w, .slice qC.a1 C.B.length qC.c1, .slice qC.a2 C.R.length qC.c2, .slice qC.a3 C.D.length qC.c3] 24)) w2.heap.size C qC) := Hs.new hRc _
  have HG3 : Aside (Hs (w2.alloc (.cells #[.int .i64 C.h, .int .i64 C.w, .slice qC.a1 C.B.length qC.c1, .slice qC.a2 C.R.length qC.c2, .slice qC.a3 C.D.length qC.c3] 24)) w.heap.size g p) := (HG1.out.keep hb2).keep (below_box _ _)
  have HB3 : Aside (Below w.heap.size w (w2.alloc (.cells #[.int .i64 C.h, .int .i64 C.w, .slice qC.a1 C.B.length qC.c1, .slice qC.a2 C.R.length qC.c2, .slice qC.a3 C.D.length qC.c3] 24))) := (HB1.out.trans (hb2.mono HB1.out.size)).alloc (Nat.le_trans HB1.out.size hb2.size) _
  clear cC hb2 k0 k1 k2 k3 k4 hRc hC hL HG1 HB1
  obtain ⟨⟨_, k0, k1, k2, k3, k4⟩, _⟩ := HG3.out
  have cT := CV.out g p m _ (by omega) HB3.out HG3.out.rg HOK.out
  unfold gv at cT
  go_wp2_with fail
  refine cT.mono ?_
  rintro e w4 ⟨qT, rfl, hRt, _, hb4⟩
  obtain ⟨T, hT⟩ : ∃ T, g.turn m = T := ⟨_, rfl⟩
  rw [hT] at hRt
  rw [hT]
  have HTT : Aside (g.turn m = T ∧ T.Right) := ⟨hT, by rw [← hT]; exact Gr.turn_right (Gr.right_of HOK.out) m⟩
  have HT5 : Aside (Hs (w4.alloc (.cells #[.int .i64 T.h, .int .i64 T.w, .slice qT.a1 T.B.length qT.c1, .slice qT.a2 T.R.length qT.c2, .slice qT.a3 T.D.length qT.c3] 24)) w4.heap.size T qT) := Hs.new hRt _
  have HC5 : Aside (Hs (w4.alloc (.cells #[.int .i64 T.h, .int .i64 T.w, .slice qT.a1 T.B.length qT.c1, .slice qT.a2 T.R.length qT.c2, .slice qT.a3 T.D.length qT.c3] 24)) w2.heap.size C qC) := (HC3.out.keep hb4).keep (below_box _ _)
  have HG5 : Aside (Hs (w4.alloc (.cells #[.int .i64 T.h, .int .i64 T.w, .slice qT.a1 T.B.length qT.c1, .slice qT.a2 T.R.length qT.c2, .slice qT.a3 T.D.length qT.c3] 24)) w.heap.size g p) := (HG3.out.keep hb4).keep (below_box _ _)
  have HB5 : Aside (Below w.heap.size w (w4.alloc (.cells #[.int .i64 T.h, .int .i64 T.w, .slice qT.a1 T.B.length qT.c1, .slice qT.a2 T.R.length qT.c2, .slice qT.a3 T.D.length qT.c3] 24))) := (HB3.out.trans (hb4.mono HB3.out.size)).alloc (Nat.le_trans HB3.out.size hb4.size) _
  clear cT hb4 k0 k1 k2 k3 k4 hRt hT HG3 HB3 HC3
  generalize w2.heap.size = bC at *
  have cD := CC.out T qT _ HB5.out HT5.out.rg (Gr.ok_of HTT.out.2)
  unfold gv at cD
  go_wp2_with fail
  refine cD.mono ?_
  rintro e w6 ⟨b, qD, rfl, hLb, hRd, hb6⟩
  have eD : T.turn b = C := by
    rw [← HTT.out.1] at hLb ⊢
    rw [← HC.out.1]
    exact Gr.least_turn (Gr.right_of HOK.out) (by omega) HC.out.2.1 hLb
  rw [eD] at hRd
  rw [eD]
  have HD7 : Aside (Hs (w6.alloc (.cells #[.int .i64 C.h, .int .i64 C.w, .slice qD.a1 C.B.length qD.c1, .slice qD.a2 C.R.length qD.c2, .slice qD.a3 C.D.length qD.c3] 24)) w6.heap.size C qD) := Hs.new hRd _
  have HC7 : Aside (Hs (w6.alloc (.cells #[.int .i64 C.h, .int .i64 C.w, .slice qD.a1 C.B.length qD.c1, .slice qD.a2 C.R.length qD.c2, .slice qD.a3 C.D.length qD.c3] 24)) bC C qC) := (HC5.out.keep hb6).keep (below_box _ _)
  have HG7 : Aside (Hs (w6.alloc (.cells #[.int .i64 C.h, .int .i64 C.w, .slice qD.a1 C.B.length qD.c1, .slice qD.a2 C.R.length qD.c2, .slice qD.a3 C.D.length qD.c3] 24)) w.heap.size g p) := (HG5.out.keep hb6).keep (below_box _ _)
  have HB7 : Aside (Below w.heap.size w (w6.alloc (.cells #[.int .i64 C.h, .int .i64 C.w, .slice qD.a1 C.B.length qD.c1, .slice qD.a2 C.R.length qD.c2, .slice qD.a3 C.D.length qD.c3] 24))) := (HB5.out.trans (hb6.mono HB5.out.size)).alloc (Nat.le_trans HB5.out.size hb6.size) _
  clear cD hb6 hRd eD hLb HT5 HC5 HG5 HB5
  generalize w4.heap.size = bT at *
  obtain ⟨⟨_, k0, k1, k2, k3, k4⟩, _⟩ := HC7.out
  have cX := CC.out C qC _ HB7.out HC7.out.rg (Gr.ok_of HC.out.2.2)
  unfold gv at cX
  go_wp2_with fail
  refine cX.mono ?_
  rintro e w8 ⟨n, qX, rfl, hLn, hRx, hb8⟩
  have eN : n = 0 := by
    rw [← HC.out.1] at hLn
    exact Gr.least_self (Gr.right_of HOK.out) HC.out.2.1 hLn
  subst eN
  have eX : C.turn 0 = C := Gr.turn_zero HC.out.2.2
  rw [eX] at hRx
  rw [eX]
  have HX9 : Aside (Hs (w8.alloc (.cells #[.int .i64 C.h, .int .i64 C.w, .slice qX.a1 C.B.length qX.c1, .slice qX.a2 C.R.length qX.c2, .slice qX.a3 C.D.length qX.c3] 24)) w8.heap.size C qX) := Hs.new hRx _
  have HD9 : Aside (Hs (w8.alloc (.cells #[.int .i64 C.h, .int .i64 C.w, .slice qX.a1 C.B.length qX.c1, .slice qX.a2 C.R.length qX.c2, .slice qX.a3 C.D.length qX.c3] 24)) w6.heap.size C qD) := (HD7.out.keep hb8).keep (below_box _ _)
  have HC9 : Aside (Hs (w8.alloc (.cells #[.int .i64 C.h, .int .i64 C.w, .slice qX.a1 C.B.length qX.c1, .slice qX.a2 C.R.length qX.c2, .slice qX.a3 C.D.length qX.c3] 24)) bC C qC) := (HC7.out.keep hb8).keep (below_box _ _)
  have HG9 : Aside (Hs (w8.alloc (.cells #[.int .i64 C.h, .int .i64 C.w, .slice qX.a1 C.B.length qX.c1, .slice qX.a2 C.R.length qX.c2, .slice qX.a3 C.D.length qX.c3] 24)) w.heap.size g p) := (HG7.out.keep hb8).keep (below_box _ _)
  have HB9 : Aside (Below w.heap.size w (w8.alloc (.cells #[.int .i64 C.h, .int .i64 C.w, .slice qX.a1 C.B.length qX.c1, .slice qX.a2 C.R.length qX.c2, .slice qX.a3 C.D.length qX.c3] 24))) := (HB7.out.trans (hb8.mono HB7.out.size)).alloc (Nat.le_trans HB7.out.size hb8.size) _
  clear cX hb8 hRx eX hLn HD7 HC7 HG7 HB7 k0 k1 k2 k3 k4
  generalize w6.heap.size = bD at *
  obtain ⟨⟨_, k0, k1, k2, k3, k4⟩, _⟩ := HG9.out
  have cY := CV.out g p a _ hal HB9.out HG9.out.rg HOK.out
  rw [HC.out.1] at cY
  unfold gv at cY
  go_wp2_with fail
  refine cY.mono ?_
  rintro e w10 ⟨qY, rfl, hRy, _, hb10⟩
  have HY : Aside (Hs (w10.alloc (.cells #[.int .i64 C.h, .int .i64 C.w, .slice qY.a1 C.B.length qY.c1, .slice qY.a2 C.R.length qY.c2, .slice qY.a3 C.D.length qY.c3] 24)) w10.heap.size C qY) := Hs.new hRy _
  have HX : Aside (Hs (w10.alloc (.cells #[.int .i64 C.h, .int .i64 C.w, .slice qY.a1 C.B.length qY.c1, .slice qY.a2 C.R.length qY.c2, .slice qY.a3 C.D.length qY.c3] 24)) w8.heap.size C qX) := (HX9.out.keep hb10).keep (below_box _ _)
  have HD : Aside (Hs (w10.alloc (.cells #[.int .i64 C.h, .int .i64 C.w, .slice qY.a1 C.B.length qY.c1, .slice qY.a2 C.R.length qY.c2, .slice qY.a3 C.D.length qY.c3] 24)) bD C qD) := (HD9.out.keep hb10).keep (below_box _ _)
  have HCC : Aside (Hs (w10.alloc (.cells #[.int .i64 C.h, .int .i64 C.w, .slice qY.a1 C.B.length qY.c1, .slice qY.a2 C.R.length qY.c2, .slice qY.a3 C.D.length qY.c3] 24)) bC C qC) := (HC9.out.keep hb10).keep (below_box _ _)
  have HB11 : Aside (Below w.heap.size w (w10.alloc (.cells #[.int .i64 C.h, .int .i64 C.w, .slice qY.a1 C.B.length qY.c1, .slice qY.a2 C.R.length qY.c2, .slice qY.a3 C.D.length qY.c3] 24))) := (HB9.out.trans (hb10.mono HB9.out.size)).alloc (Nat.le_trans HB9.out.size hb10.size) _
  clear cY hb10 hRy HX9 HD9 HC9 HG9 HB9 k0 k1 k2 k3 k4 CV CC
  generalize w8.heap.size = bX at *
  have CSM : Aside (∀ (W : World) (q r : Ad), RG W C q → RG W C r → Calls Tryd.prog 10 #[gv C q, gv C r] W fun e w' => e = .returned (.bool true) ∧ Below W.heap.size W w') := fun W q r h1 h2 => by
    have := refSame_any C C q r W HC.out.2.2.len h1 h2
    rw [Gr.same_refl] at this
    exact this
  unfold gv at CSM
  have cS := CSM.out _ qC qD HCC.out.rg HD.out.rg
  obtain ⟨⟨_, k0, k1, k2, k3, k4⟩, _⟩ := HCC.out
  obtain ⟨⟨_, j0, j1, j2, j3, j4⟩, _⟩ := HD.out
  go_wp2_with fail
  refine cS.mono ?_
  rintro e w12 ⟨rfl, hb12⟩
  replace HCC := HCC.out.keep hb12
  replace HX := HX.out.keep hb12
  replace HY := HY.out.keep hb12
  have HB12 : Aside (Below w.heap.size w w12) := HB11.out.trans (hb12.mono HB11.out.size)
  clear cS hb12 k0 k1 k2 k3 k4 j0 j1 j2 j3 j4 HD HB11
  generalize w10.heap.size = bY at *
  have cS := CSM.out w12 qC qX HCC.rg HX.rg
  obtain ⟨_, k0, k1, k2, k3, k4⟩ := HCC.bx
  obtain ⟨_, j0, j1, j2, j3, j4⟩ := HX.bx
  have HCA : Aside (Hs w12 bC C qC) := HCC
  have HYA : Aside (Hs w12 bY C qY) := HY
  clear HCC HX HY
  go_wp2_with fail
  refine cS.mono ?_
  rintro e w13 ⟨rfl, hb13⟩
  have HC13 := HCA.out.keep hb13
  have HY13 := HYA.out.keep hb13
  have HB13 : Aside (Below w.heap.size w w13) := HB12.out.trans (hb13.mono HB12.out.size)
  clear cS hb13 k0 k1 k2 k3 k4 j0 j1 j2 j3 j4 HCA HYA HB12
  have cS := CSM.out w13 qY qC HY13.rg HC13.rg
  obtain ⟨_, k0, k1, k2, k3, k4⟩ := HC13.bx
  obtain ⟨_, j0, j1, j2, j3, j4⟩ := HY13.bx
  clear HC13 HY13
  go_wp2_with fail
  refine cS.mono ?_
  rintro e w14 ⟨rfl, hb14⟩
  have HB14 : Aside (Below w.heap.size w w14) := HB13.out.trans (hb14.mono HB13.out.size)
  clear cS hb14 k0 k1 k2 k3 k4 j0 j1 j2 j3 j4
  go_wp2
  go_ret
  exact ⟨rfl, HB14.out⟩

theorem turnCanon_walk (g : Gr) (p : Ad) (k : Int) (w : World) (_hl : g.lenOk) (hR : RG w g p) (_hp : p.nz) (hw : Wy w) :
    Calls Tryd.prog 6 #[gv g p, .int .i64 k] w fun e w' => e = .returned (.bool true) ∧ Below w.heap.size w w' := by
  by_cases hc : g.ok
  · exact turnCanon_open g p k w hR hw hc
  · exact turnCanon_shut g p k w hR hw hc
end Go.Proofs.YtgpnnnhhidbajaaDoor.Grd
