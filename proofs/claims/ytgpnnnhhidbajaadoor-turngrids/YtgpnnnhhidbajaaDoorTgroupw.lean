/-
  TurnGroup walked: turns one behind the other are one turn, joined as one likes, and can be taken back.
-/
import Derived.Test.YtgpnnnhhidbajaaDoorTrns
import Derived.Test.YtgpnnnhhidbajaaDoorTrne
import Derived.Test.YtgpnnnhhidbajaaDoorTrni
import Derived.Deep.RegionWith
import Derived.Deep.CutRange
namespace Go.Proofs.YtgpnnnhhidbajaaDoor.Grd
open Go Go.Lib Go.RowKit

theorem Then_nat (a b : Nat) (ha : a < 8) (hb : b < 8) (W : World) :
    Calls Tryd.prog 16 #[.int .i64 a, .int .i64 b] W fun e W' => e = .returned (.int .i64 (thn a b : Nat)) ∧ W' = W := by
  have := Then_any a b W
  have e : thnI a b = (thn a b : Nat) := by
    unfold thnI
    rw [if_pos (by omega)]
    simp only [Int.toNat_natCast]
  rw [e] at this
  exact this
theorem Back_nat (a : Nat) (ha : a < 8) (W : World) :
    Calls Tryd.prog 17 #[.int .i64 a] W fun e W' => e = .returned (.int .i64 (bck a : Nat)) ∧ W' = W := by
  have := Back_any a W
  have e : bckI a = (bck a : Nat) := by
    unfold bckI
    rw [if_pos (by omega)]
    simp only [Int.toNat_natCast]
  rw [e] at this
  exact this
/-- A block of three numbers. -/
structure Tri (W : World) (b : Nat) (x y z : Int) : Prop where
  lt : b < W.heap.size
  c0 : W.cell? ⟨b, 0, none⟩ = some (.int .i64 x)
  c1 : W.cell? ⟨b, 1, none⟩ = some (.int .i64 y)
  c2 : W.cell? ⟨b, 2, none⟩ = some (.int .i64 z)
theorem Tri.keep {W W' : World} {b : Nat} {x y z : Int} (h : Tri W b x y z) (hb : Below W.heap.size W W') : Tri W' b x y z :=
  ⟨Nat.lt_of_lt_of_le h.lt hb.size, (hb.cell (p := ⟨b, 0, none⟩) h.lt).trans h.c0, (hb.cell (p := ⟨b, 1, none⟩) h.lt).trans h.c1, (hb.cell (p := ⟨b, 2, none⟩) h.lt).trans h.c2⟩
theorem Tri.new (W : World) (x y z : Int) (t : TypeId) : Tri (W.alloc (.cells #[.int .i64 x, .int .i64 y, .int .i64 z] t)) W.heap.size x y z :=
  ⟨by rw [World.size_alloc]; omega, cells_box _ _ _ _, cells_box _ _ _ _, cells_box _ _ _ _⟩

set_option maxRecDepth 100000 in
set_option maxHeartbeats 4000000 in
theorem turnGroup_shut (g : Gr) (p : Ad) (x y z : Int) (w : World) (hR : RG w g p) (hw : Wy w) (hc : ¬ g.ok) :
    Calls Tryd.prog 4 #[gv g p, .agg #[.int .i64 x, .int .i64 y, .int .i64 z]] w fun e w' => e = .returned (.bool true) ∧ Below w.heap.size w w' := by
  have CT : Aside (∀ (k : Nat) W, k < 8 → Below w.heap.size w W → Calls Tryd.prog 8 #[gv g p, .int .i64 k] W fun e w' => e = .returned (.tuple #[zeroG, .int .i64 (g.chk : Nat)]) ∧ Below W.heap.size W w') := fun k W hk h => Turn_shut g p k W (by omega) (hw.below hw.size h) (hR.below h) hc
  have hc2 : ¬ g.chk = 0 := hc
  unfold gv zeroG at CT
  have HW : Aside (∀ W, Below w.heap.size w W → Wy W ∧ RG W g p) := fun W h => ⟨hw.below hw.size h, hR.below h⟩
  have cA := fun W => awake6_any W
  obtain ⟨a, hxa, hal⟩ := low_bits x 7 (by omega)
  obtain ⟨b, hyb, hbl⟩ := low_bits y 7 (by omega)
  obtain ⟨c, hzc, hcl⟩ := low_bits z 7 (by omega)
  rw [show ((7 : Nat) : Int) = 7 from rfl] at hxa hyb hzc
  have T1 := fun W => Then_nat a b (by omega) (by omega) W
  have l1 := thn_lt a (by omega) b (by omega)
  have T2 := fun W => Then_nat (thn a b) c l1 (by omega) W
  have T3 := fun W => Then_nat b c (by omega) (by omega) W
  have l3 := thn_lt b (by omega) c (by omega)
  have T4 := fun W => Then_nat a (thn b c) (by omega) l3 W
  rw [← thn_assoc a (by omega) b (by omega) c (by omega)] at T4
  obtain ⟨z1, z2, z3, z4⟩ := thn_zero a (by omega)
  have T5 := fun W => Then_nat a 0 (by omega) (by omega) W
  rw [z1] at T5
  have T6 := fun W => Then_nat 0 a (by omega) (by omega) W
  rw [z2] at T6
  have B7 := fun W => Back_nat a (by omega) W
  have lb := bck_lt a (by omega)
  have T7 := fun W => Then_nat a (bck a) (by omega) lb W
  rw [z3] at T7
  rw [show ((0 : Nat) : Int) = 0 from rfl] at T5 T6 T7
  have l2 := thn_lt (thn a b) l1 c (by omega)
  obtain ⟨t1, ht1⟩ : ∃ t, thn a b = t := ⟨_, rfl⟩
  obtain ⟨bk, hbk⟩ : ∃ t, bck a = t := ⟨_, rfl⟩
  rw [ht1] at T1 T2 T4 l1 l2
  rw [hbk] at B7 T7 lb
  generalize thn t1 c = t2 at *
  generalize thn b c = t3 at *
  have HT1 : Aside (thn a b = t1) := ht1
  have HBK : Aside (bck a = bk) := hbk
  clear ht1 hbk z1 z2 z3 z4
  have HX0 : Aside (Tri ((w.alloc (.cells #[.int .i64 g.h, .int .i64 g.w, .slice p.a1 g.B.length p.c1, .slice p.a2 g.R.length p.c2, .slice p.a3 g.D.length p.c3] 24)).alloc (.cells #[.int .i64 x, .int .i64 y, .int .i64 z] 40)) (w.heap.size + 1) x y z) := by
    have := Tri.new (w.alloc (.cells #[.int .i64 g.h, .int .i64 g.w, .slice p.a1 g.B.length p.c1, .slice p.a2 g.R.length p.c2, .slice p.a3 g.D.length p.c3] 24)) x y z 40
    rwa [World.size_alloc] at this
  have HG0 : Aside (Hs ((w.alloc (.cells #[.int .i64 g.h, .int .i64 g.w, .slice p.a1 g.B.length p.c1, .slice p.a2 g.R.length p.c2, .slice p.a3 g.D.length p.c3] 24)).alloc (.cells #[.int .i64 x, .int .i64 y, .int .i64 z] 40)) w.heap.size g p) := (Hs.new hR _).keep (below_box _ _)
  have HB0 : Aside (Below w.heap.size w ((w.alloc (.cells #[.int .i64 g.h, .int .i64 g.w, .slice p.a1 g.B.length p.c1, .slice p.a2 g.R.length p.c2, .slice p.a3 g.D.length p.c3] 24)).alloc (.cells #[.int .i64 x, .int .i64 y, .int .i64 z] 40))) := (below_box w _).alloc (below_box w _).size _
  unfold gv
  clear hR hw
  go_enter Tryd.func4, Tryd.ntmps4
  go_wp2_with fail
  refine (cA _).mono ?_
  rintro e w1 ⟨rfl, hb1⟩
  have HX1 : Aside (Tri w1 (w.heap.size + 1) x y z) := HX0.out.keep hb1
  have HG1 : Aside (Hs w1 w.heap.size g p) := HG0.out.keep hb1
  have HB1 : Aside (Below w.heap.size w w1) := HB0.out.trans (hb1.mono HB0.out.size)
  clear cA hb1 HX0 HG0 HB0
  obtain ⟨_, q0, q1, q2⟩ := HX1.out
  go_wp2
  go_big_region
  clear q0 q1 q2 HX1
  have HG2 : Aside (Hs w1.drew w.heap.size g p) := HG1.out.keep (Below.drew (Below.refl _ _))
  have HB2 : Aside (Below w.heap.size w w1.drew) := Below.drew HB1.out
  generalize w1.drew = w2 at *
  go_wp2_with fail
  refine (T1 _).mono ?_
  rintro e wT ⟨rfl, hwT⟩
  obtain rfl := hwT.symm
  clear hwT
  go_wp2_with fail
  refine (T2 _).mono ?_
  rintro e wT ⟨rfl, hwT⟩
  obtain rfl := hwT.symm
  clear hwT
  go_wp2_with fail
  refine (T3 _).mono ?_
  rintro e wT ⟨rfl, hwT⟩
  obtain rfl := hwT.symm
  clear hwT
  go_wp2_with fail
  refine (T4 _).mono ?_
  rintro e wT ⟨rfl, hwT⟩
  obtain rfl := hwT.symm
  clear hwT
  go_wp2_with fail
  refine (T5 _).mono ?_
  rintro e wT ⟨rfl, hwT⟩
  obtain rfl := hwT.symm
  clear hwT
  go_wp2_with fail
  refine (T6 _).mono ?_
  rintro e wT ⟨rfl, hwT⟩
  obtain rfl := hwT.symm
  clear hwT
  go_wp2_with fail
  refine (B7 _).mono ?_
  rintro e wT ⟨rfl, hwT⟩
  obtain rfl := hwT.symm
  clear hwT
  go_wp2_with fail
  refine (T7 _).mono ?_
  rintro e wT ⟨rfl, hwT⟩
  obtain rfl := hwT.symm
  clear hwT
  clear T2 T3 T4 T5 T6 T7
  obtain ⟨⟨_, k0, k1, k2, k3, k4⟩, _⟩ := HG2.out
  have cT := CT.out a w2 (by omega) HB2.out
  go_wp2_with fail
  refine cT.mono ?_
  rintro e w3 ⟨rfl, hb3⟩
  have HB3 : Aside (Below w.heap.size w w3) := HB2.out.trans (hb3.mono HB2.out.size)
  clear hb3 cT k0 k1 k2 k3 k4
  go_wp2
  go_ret
  exact ⟨rfl, HB3.out.alloc HB3.out.size _⟩

theorem below_drew_box (w : World) (o : Obj) : Below w.heap.size w (w.alloc o).drew := Below.drew (below_box w o)
theorem he_new {w6 w7 : World} {Y : Gr} {q7 : Ad} (hR7 : RG w7 Y q7) (hb7 : Below w6.drew.heap.size w6.drew w7) : Aside (Hs (w7.alloc (.cells #[.int .i64 Y.h, .int .i64 Y.w, .slice q7.a1 Y.B.length q7.c1, .slice q7.a2 Y.R.length q7.c2, .slice q7.a3 Y.D.length q7.c3] 24)) w7.heap.size Y q7 ∧ Below w6.heap.size w6 (w7.alloc (.cells #[.int .i64 Y.h, .int .i64 Y.w, .slice q7.a1 Y.B.length q7.c1, .slice q7.a2 Y.R.length q7.c2, .slice q7.a3 Y.D.length q7.c3] 24))) :=
  ⟨Hs.new hR7 _, ((Below.drew (Below.refl _ _)).trans hb7).alloc hb7.size _⟩
theorem he_old {w6 w7 : World} {Y : Gr} {q7 : Ad} (hR7 : RG w7 Y q7) (hf7 : q7.fresh (w6.alloc (.cells #[.int .i64 0, .int .i64 0, .slice none 0 0, .slice none 0 0, .slice none 0 0] 24)).drew.heap.size) (hb7 : Below (w6.alloc (.cells #[.int .i64 0, .int .i64 0, .slice none 0 0, .slice none 0 0, .slice none 0 0] 24)).drew.heap.size (w6.alloc (.cells #[.int .i64 0, .int .i64 0, .slice none 0 0, .slice none 0 0, .slice none 0 0] 24)).drew w7) : Aside (Hs (st5 w7 w6.heap.size (.int .i64 Y.h) (.int .i64 Y.w) (.slice q7.a1 Y.B.length q7.c1) (.slice q7.a2 Y.R.length q7.c2) (.slice q7.a3 Y.D.length q7.c3)) w6.heap.size Y q7 ∧ Below w6.heap.size w6 (st5 w7 w6.heap.size (.int .i64 Y.h) (.int .i64 Y.w) (.slice q7.a1 Y.B.length q7.c1) (.slice q7.a2 Y.R.length q7.c2) (.slice q7.a3 Y.D.length q7.c3))) ∧ Five w7 w6.heap.size (.int .i64 0) (.int .i64 0) (.slice none 0 0) (.slice none 0 0) (.slice none 0 0) := by
  have F0 : Five (w6.alloc (.cells #[.int .i64 0, .int .i64 0, .slice none 0 0, .slice none 0 0, .slice none 0 0] 24)).drew w6.heap.size (.int .i64 0) (.int .i64 0) (.slice none 0 0) (.slice none 0 0) (.slice none 0 0) := ⟨hp_at rfl⟩
  have F7 := F0.keep hb7
  have hB := below_drew_box w6 (.cells #[.int .i64 0, .int .i64 0, .slice none 0 0, .slice none 0 0, .slice none 0 0] 24)
  exact ⟨⟨Hs.stored hR7 hf7 F0.lt F7, Below.all (hB.trans (hb7.mono hB.size)) (Nat.le_refl _) (Nat.le_trans hB.size hb7.size) _ _ _ _ _⟩, F7⟩

set_option maxRecDepth 100000 in
set_option maxHeartbeats 8000000 in
theorem turnGroup_open (g : Gr) (p : Ad) (x y z : Int) (w : World) (hR : RG w g p) (hw : Wy w) (hc : g.ok) :
    Calls Tryd.prog 4 #[gv g p, .agg #[.int .i64 x, .int .i64 y, .int .i64 z]] w fun e w' => e = .returned (.bool true) ∧ Below w.heap.size w w' := by
  have CV : Aside (∀ (G : Gr) (q : Ad) (k : Nat) W, k < 8 → Below w.heap.size w W → RG W G q → G.ok → Calls Tryd.prog 8 #[gv G q, .int .i64 k] W fun e w' => ∃ r, e = .returned (.tuple #[gv (G.turn k) r, .int .i64 0]) ∧ RG w' (G.turn k) r ∧ r.fresh W.heap.size ∧ Below W.heap.size W w') := fun G q k W hk h hG hok => Turn_val G q k W hk (hw.below hw.size h) hG hok
  have HOK : Aside g.ok := hc
  have HW : Aside (∀ W, Below w.heap.size w W → Wy W ∧ RG W g p) := fun W h => ⟨hw.below hw.size h, hR.below h⟩
  have cA := fun W => awake6_any W
  obtain ⟨a, hxa, hal⟩ := low_bits x 7 (by omega)
  obtain ⟨b, hyb, hbl⟩ := low_bits y 7 (by omega)
  obtain ⟨c, hzc, hcl⟩ := low_bits z 7 (by omega)
  rw [show ((7 : Nat) : Int) = 7 from rfl] at hxa hyb hzc
  have T1 := fun W => Then_nat a b (by omega) (by omega) W
  have l1 := thn_lt a (by omega) b (by omega)
  have T2 := fun W => Then_nat (thn a b) c l1 (by omega) W
  have T3 := fun W => Then_nat b c (by omega) (by omega) W
  have l3 := thn_lt b (by omega) c (by omega)
  have T4 := fun W => Then_nat a (thn b c) (by omega) l3 W
  rw [← thn_assoc a (by omega) b (by omega) c (by omega)] at T4
  obtain ⟨z1, z2, z3, z4⟩ := thn_zero a (by omega)
  have T5 := fun W => Then_nat a 0 (by omega) (by omega) W
  rw [z1] at T5
  have T6 := fun W => Then_nat 0 a (by omega) (by omega) W
  rw [z2] at T6
  have B7 := fun W => Back_nat a (by omega) W
  have lb := bck_lt a (by omega)
  have T7 := fun W => Then_nat a (bck a) (by omega) lb W
  rw [z3] at T7
  rw [show ((0 : Nat) : Int) = 0 from rfl] at T5 T6 T7
  have l2 := thn_lt (thn a b) l1 c (by omega)
  obtain ⟨t1, ht1⟩ : ∃ t, thn a b = t := ⟨_, rfl⟩
  obtain ⟨bk, hbk⟩ : ∃ t, bck a = t := ⟨_, rfl⟩
  rw [ht1] at T1 T2 T4 l1 l2
  rw [hbk] at B7 T7 lb
  generalize thn t1 c = t2 at *
  generalize thn b c = t3 at *
  have HT1 : Aside (thn a b = t1) := ht1
  have HBK : Aside (bck a = bk) := hbk
  clear ht1 hbk z1 z2 z3 z4
  obtain ⟨X, hX⟩ : ∃ X, g.turn a = X := ⟨_, rfl⟩
  obtain ⟨Y, hY⟩ : ∃ Y, X.turn b = Y := ⟨_, rfl⟩
  have hXr : X.Right := by rw [← hX]; exact Gr.turn_right (Gr.right_of hc) a
  have hYr : Y.Right := by rw [← hY]; exact Gr.turn_right hXr b
  have hZ : g.turn t1 = Y := by rw [← HT1.out, ← hY, ← hX, Gr.turn_turn (by omega) (by omega)]
  have hK : X.turn bk = g := by rw [← HBK.out, ← hX, Gr.turn_back (Gr.right_of hc) (by omega)]
  have HXO : Aside X.ok := Gr.ok_of hXr
  have HYL : Aside (Y.lenOk ∧ g.lenOk) := ⟨hYr.len, (Gr.right_of hc).len⟩
  have HE1 : Aside (g.turn a = X ∧ X.turn b = Y ∧ g.turn t1 = Y ∧ X.turn bk = g) := ⟨hX, hY, hZ, hK⟩
  clear hX hY hZ hK hXr hYr hc
  have HX0 : Aside (Tri ((w.alloc (.cells #[.int .i64 g.h, .int .i64 g.w, .slice p.a1 g.B.length p.c1, .slice p.a2 g.R.length p.c2, .slice p.a3 g.D.length p.c3] 24)).alloc (.cells #[.int .i64 x, .int .i64 y, .int .i64 z] 40)) (w.heap.size + 1) x y z) := by
    have := Tri.new (w.alloc (.cells #[.int .i64 g.h, .int .i64 g.w, .slice p.a1 g.B.length p.c1, .slice p.a2 g.R.length p.c2, .slice p.a3 g.D.length p.c3] 24)) x y z 40
    rwa [World.size_alloc] at this
  have HG0 : Aside (Hs ((w.alloc (.cells #[.int .i64 g.h, .int .i64 g.w, .slice p.a1 g.B.length p.c1, .slice p.a2 g.R.length p.c2, .slice p.a3 g.D.length p.c3] 24)).alloc (.cells #[.int .i64 x, .int .i64 y, .int .i64 z] 40)) w.heap.size g p) := (Hs.new hR _).keep (below_box _ _)
  have HB0 : Aside (Below w.heap.size w ((w.alloc (.cells #[.int .i64 g.h, .int .i64 g.w, .slice p.a1 g.B.length p.c1, .slice p.a2 g.R.length p.c2, .slice p.a3 g.D.length p.c3] 24)).alloc (.cells #[.int .i64 x, .int .i64 y, .int .i64 z] 40))) := (below_box w _).alloc (below_box w _).size _
  unfold gv
  clear hR hw
  go_enter Tryd.func4, Tryd.ntmps4
  go_wp2_with fail
  refine (cA _).mono ?_
  rintro e w1 ⟨rfl, hb1⟩
  have HX1 : Aside (Tri w1 (w.heap.size + 1) x y z) := HX0.out.keep hb1
  have HG1 : Aside (Hs w1 w.heap.size g p) := HG0.out.keep hb1
  have HB1 : Aside (Below w.heap.size w w1) := HB0.out.trans (hb1.mono HB0.out.size)
  clear cA hb1 HX0 HG0 HB0
  obtain ⟨_, q0, q1, q2⟩ := HX1.out
  go_wp2
  go_big_region
  clear q0 q1 q2 HX1
  have HG2 : Aside (Hs w1.drew w.heap.size g p) := HG1.out.keep (Below.drew (Below.refl _ _))
  have HB2 : Aside (Below w.heap.size w w1.drew) := Below.drew HB1.out
  generalize w1.drew = w2 at *
  go_wp2_with fail
  refine (T1 _).mono ?_
  rintro e wT ⟨rfl, hwT⟩
  obtain rfl := hwT.symm
  clear hwT
  go_wp2_with fail
  refine (T2 _).mono ?_
  rintro e wT ⟨rfl, hwT⟩
  obtain rfl := hwT.symm
  clear hwT
  go_wp2_with fail
  refine (T3 _).mono ?_
  rintro e wT ⟨rfl, hwT⟩
  obtain rfl := hwT.symm
  clear hwT
  go_wp2_with fail
  refine (T4 _).mono ?_
  rintro e wT ⟨rfl, hwT⟩
  obtain rfl := hwT.symm
  clear hwT
  go_wp2_with fail
  refine (T5 _).mono ?_
  rintro e wT ⟨rfl, hwT⟩
  obtain rfl := hwT.symm
  clear hwT
  go_wp2_with fail
  refine (T6 _).mono ?_
  rintro e wT ⟨rfl, hwT⟩
  obtain rfl := hwT.symm
  clear hwT
  go_wp2_with fail
  refine (B7 _).mono ?_
  rintro e wT ⟨rfl, hwT⟩
  obtain rfl := hwT.symm
  clear hwT
  go_wp2_with fail
  refine (T7 _).mono ?_
  rintro e wT ⟨rfl, hwT⟩
  obtain rfl := hwT.symm
  clear hwT
  clear T2 T3 T4 T5 T6 T7
  obtain ⟨⟨_, k0, k1, k2, k3, k4⟩, _⟩ := HG2.out
  have cT := CV.out g p a w2 (by omega) HB2.out HG2.out.rg HOK.out
  rw [HE1.out.1] at cT
  unfold gv at cT
  go_wp2_with fail
  refine cT.mono ?_
  rintro e w3 ⟨qX, rfl, hRx, hfx, hb3⟩
  have HX4 : Aside (Hs (w3.alloc (.cells #[.int .i64 X.h, .int .i64 X.w, .slice qX.a1 X.B.length qX.c1, .slice qX.a2 X.R.length qX.c2, .slice qX.a3 X.D.length qX.c3] 24)) w3.heap.size X qX) := Hs.new hRx _
  have HG4 : Aside (Hs (w3.alloc (.cells #[.int .i64 X.h, .int .i64 X.w, .slice qX.a1 X.B.length qX.c1, .slice qX.a2 X.R.length qX.c2, .slice qX.a3 X.D.length qX.c3] 24)) w.heap.size g p) := (HG2.out.keep hb3).keep (below_box _ _)
  have HB4 : Aside (Below w.heap.size w (w3.alloc (.cells #[.int .i64 X.h, .int .i64 X.w, .slice qX.a1 X.B.length qX.c1, .slice qX.a2 X.R.length qX.c2, .slice qX.a3 X.D.length qX.c3] 24))) := (HB2.out.trans (hb3.mono HB2.out.size)).alloc (Nat.le_trans HB2.out.size hb3.size) _
  clear hb3 cT k0 k1 k2 k3 k4 hRx hfx HG2 HB2
  have cY := CV.out X qX b (w3.alloc (.cells #[.int .i64 X.h, .int .i64 X.w, .slice qX.a1 X.B.length qX.c1, .slice qX.a2 X.R.length qX.c2, .slice qX.a3 X.D.length qX.c3] 24)) (by omega) HB4.out HX4.out.rg HXO.out
  rw [HE1.out.2.1] at cY
  unfold gv at cY
  go_wp2_with fail
  refine cY.mono ?_
  rintro e w5 ⟨qY, rfl, hRy, hfy, hb5⟩
  have HY6 : Aside (Hs (w5.alloc (.cells #[.int .i64 Y.h, .int .i64 Y.w, .slice qY.a1 Y.B.length qY.c1, .slice qY.a2 Y.R.length qY.c2, .slice qY.a3 Y.D.length qY.c3] 24)) w5.heap.size Y qY) := Hs.new hRy _
  have HX6 : Aside (Hs (w5.alloc (.cells #[.int .i64 Y.h, .int .i64 Y.w, .slice qY.a1 Y.B.length qY.c1, .slice qY.a2 Y.R.length qY.c2, .slice qY.a3 Y.D.length qY.c3] 24)) w3.heap.size X qX) := (HX4.out.keep hb5).keep (below_box _ _)
  have HG6 : Aside (Hs (w5.alloc (.cells #[.int .i64 Y.h, .int .i64 Y.w, .slice qY.a1 Y.B.length qY.c1, .slice qY.a2 Y.R.length qY.c2, .slice qY.a3 Y.D.length qY.c3] 24)) w.heap.size g p) := (HG4.out.keep hb5).keep (below_box _ _)
  have HBw6 : Aside (Below w.heap.size w (w5.alloc (.cells #[.int .i64 Y.h, .int .i64 Y.w, .slice qY.a1 Y.B.length qY.c1, .slice qY.a2 Y.R.length qY.c2, .slice qY.a3 Y.D.length qY.c3] 24))) := (HB4.out.trans (hb5.mono HB4.out.size)).alloc (Nat.le_trans HB4.out.size hb5.size) _
  clear hb5 cY hRy hfy HX4 HG4 HB4
  go_upto_region 10 with fail
  generalize w3.heap.size = bX at *
  generalize hbY : w5.heap.size = bY at *
  generalize w5.alloc (.cells #[.int .i64 Y.h, .int .i64 Y.w, .slice qY.a1 Y.B.length qY.c1, .slice qY.a2 Y.R.length qY.c2, .slice qY.a3 Y.D.length qY.c3] 24) = w6 at *
  clear hbY
  have cZ1 := CV.out g p t1 w6.drew (by omega) (Below.drew HBw6.out) (HG6.out.rg.below (Below.drew (Below.refl _ _))) HOK.out
  have cZ2 := CV.out g p t1 (w6.alloc (.cells #[.int .i64 0, .int .i64 0, .slice none 0 0, .slice none 0 0, .slice none 0 0] 24)).drew (by omega) (Below.drew (HBw6.out.alloc HBw6.out.size _)) (HG6.out.rg.below (below_drew_box w6 _)) HOK.out
  rw [HE1.out.2.2.1] at cZ1 cZ2
  unfold gv at cZ1 cZ2
  obtain ⟨⟨_, k0, k1, k2, k3, k4⟩, _⟩ := HG6.out
  obtain ⟨⟨_, j0, j1, j2, j3, j4⟩, _⟩ := HG6.out.keep (below_drew_box w6 (.cells #[.int .i64 0, .int .i64 0, .slice none 0 0, .slice none 0 0, .slice none 0 0] 24))
  go_cut [11, 12] from 74 to 81 (fun sa sb wd => ∃ b q, sa = .pointer (some ⟨b, 0, none⟩) ∧ sb = .int .i64 0 ∧ Aside (Hs wd b Y q ∧ Below w6.heap.size w6 wd))
  case first =>
    go_region_with (first
      | (go_at_call 16; refine (T1 _).mono ?_; rintro e wT ⟨rfl, hwT⟩; obtain rfl := hwT.symm; clear hwT)
      | (go_at_call 8; with_reducible refine cZ1.mono ?_; rintro e w7 ⟨q7, rfl, hR7, hf7, hb7⟩; have HE := he_new hR7 hb7; clear hR7 hf7 hb7)
      | (go_at_call 8; with_reducible refine cZ2.mono ?_; rintro e w7 ⟨q7, rfl, hR7, hf7, hb7⟩; obtain ⟨HE, F7⟩ := he_old hR7 hf7 hb7; have z0 := F7.c0; have z1 := F7.c1; have z2 := F7.c2; have z3 := F7.c3; have z4 := F7.c4; have y0 := F7.fr 0; have y1 := F7.fr 1; have y2 := F7.fr 2; have y3 := F7.fr 3; have y4 := F7.fr 4; clear hR7 hf7 hb7 F7))
    all_goals (try go_simp)
    all_goals (go_wp2_with fail)
    all_goals go_meet
    all_goals exact ⟨_, q7, rfl, rfl, HE⟩
  case rest =>
  rename World => w8
  obtain ⟨bZ, qZ, rfl, rfl, HEZ⟩ := hcut
  have HBw8 : Aside (Below w.heap.size w w8) := HBw6.out.trans (HEZ.out.2.mono HBw6.out.size)
  clear cZ1 cZ2 k0 k1 k2 k3 k4 j0 j1 j2 j3 j4
  have HG8 : Aside (Hs w8 w.heap.size g p) := HG6.out.keep HEZ.out.2
  have HX8 : Aside (Hs w8 bX X qX) := HX6.out.keep HEZ.out.2
  have HY8 : Aside (Hs w8 bY Y qY) := HY6.out.keep HEZ.out.2
  have HZ8 : Aside (Hs w8 bZ Y qZ) := HEZ.out.1
  clear HG6 HX6 HY6 HEZ
  go_upto_region 11 with fail
  have cZ1 := CV.out X qX bk w8.drew (by omega) (Below.drew HBw8.out) (HX8.out.rg.below (Below.drew (Below.refl _ _))) HXO.out
  have cZ2 := CV.out X qX bk (w8.alloc (.cells #[.int .i64 0, .int .i64 0, .slice none 0 0, .slice none 0 0, .slice none 0 0] 24)).drew (by omega) (Below.drew (HBw8.out.alloc HBw8.out.size _)) (HX8.out.rg.below (below_drew_box w8 _)) HXO.out
  rw [HE1.out.2.2.2] at cZ1 cZ2
  unfold gv at cZ1 cZ2
  obtain ⟨⟨_, k0, k1, k2, k3, k4⟩, _⟩ := HX8.out
  obtain ⟨⟨_, j0, j1, j2, j3, j4⟩, _⟩ := HX8.out.keep (below_drew_box w8 (.cells #[.int .i64 0, .int .i64 0, .slice none 0 0, .slice none 0 0, .slice none 0 0] 24))
  go_cut [13, 14] from 82 to 88 (fun sa sb wd => ∃ b q, sa = .pointer (some ⟨b, 0, none⟩) ∧ sb = .int .i64 0 ∧ Aside (Hs wd b g q ∧ Below w8.heap.size w8 wd))
  case first =>
    go_region_with (first
      | (go_at_call 17; refine (B7 _).mono ?_; rintro e wT ⟨rfl, hwT⟩; obtain rfl := hwT.symm; clear hwT)
      | (go_at_call 8; with_reducible refine cZ1.mono ?_; rintro e w7 ⟨q7, rfl, hR7, hf7, hb7⟩; have HE := he_new hR7 hb7; clear hR7 hf7 hb7)
      | (go_at_call 8; with_reducible refine cZ2.mono ?_; rintro e w7 ⟨q7, rfl, hR7, hf7, hb7⟩; obtain ⟨HE, F7⟩ := he_old hR7 hf7 hb7; have z0 := F7.c0; have z1 := F7.c1; have z2 := F7.c2; have z3 := F7.c3; have z4 := F7.c4; have y0 := F7.fr 0; have y1 := F7.fr 1; have y2 := F7.fr 2; have y3 := F7.fr 3; have y4 := F7.fr 4; clear hR7 hf7 hb7 F7))
    all_goals (try go_simp)
    all_goals (go_wp2_with fail)
    all_goals go_meet
    all_goals exact ⟨_, q7, rfl, rfl, HE⟩
  case rest =>
  rename World => w10
  obtain ⟨bK, qK, rfl, rfl, HEK⟩ := hcut
  have HBw10 : Aside (Below w.heap.size w w10) := HBw8.out.trans (HEK.out.2.mono HBw8.out.size)
  clear cZ1 cZ2 k0 k1 k2 k3 k4 j0 j1 j2 j3 j4
  have HG : Aside (Hs w10 w.heap.size g p) := HG8.out.keep HEK.out.2
  have HY : Aside (Hs w10 bY Y qY) := HY8.out.keep HEK.out.2
  have HZ : Aside (Hs w10 bZ Y qZ) := HZ8.out.keep HEK.out.2
  have HK : Aside (Hs w10 bK g qK) := HEK.out.1
  have cS := refSame_any Y Y qY qZ w10 HYL.out.1 HY.out.rg HZ.out.rg
  rw [Gr.same_refl] at cS
  unfold gv at cS
  obtain ⟨⟨_, i0, i1, i2, i3, i4⟩, _⟩ := HY.out
  obtain ⟨⟨_, j0, j1, j2, j3, j4⟩, _⟩ := HZ.out
  clear HG8 HX8 HY8 HZ8 HEK CV
  go_wp2_with fail
  refine cS.mono ?_
  rintro e w11 ⟨rfl, hb11⟩
  clear i0 i1 i2 i3 i4 j0 j1 j2 j3 j4 cS
  have HG2 := HG.out.keep hb11
  have HK2 := HK.out.keep hb11
  have HB11 : Aside (Below w.heap.size w w11) := HBw10.out.trans (hb11.mono HBw10.out.size)
  have cS := refSame_any g g qK p w11 HYL.out.2 HK2.rg HG2.rg
  rw [Gr.same_refl] at cS
  unfold gv at cS
  obtain ⟨⟨_, i0, i1, i2, i3, i4⟩, _⟩ := HK2
  obtain ⟨⟨_, j0, j1, j2, j3, j4⟩, _⟩ := HG2
  clear HG HY HZ HK hb11 HBw10
  go_wp2_with fail
  refine cS.mono ?_
  rintro e w12 ⟨rfl, hb12⟩
  have HB12 : Aside (Below w.heap.size w w12) := HB11.out.trans (hb12.mono HB11.out.size)
  clear i0 i1 i2 i3 i4 j0 j1 j2 j3 j4 cS hb12
  go_wp2
  go_ret
  exact ⟨rfl, HB12.out⟩

theorem turnGroup_walk (g : Gr) (p : Ad) (x y z : Int) (w : World) (_hl : g.lenOk) (hR : RG w g p) (_hp : p.nz) (hw : Wy w) :
    Calls Tryd.prog 4 #[gv g p, .agg #[.int .i64 x, .int .i64 y, .int .i64 z]] w fun e w' => e = .returned (.bool true) ∧ Below w.heap.size w w' := by
  by_cases hc : g.ok
  · exact turnGroup_open g p x y z w hR hw hc
  · exact turnGroup_shut g p x y z w hR hw hc
end Go.Proofs.YtgpnnnhhidbajaaDoor.Grd
