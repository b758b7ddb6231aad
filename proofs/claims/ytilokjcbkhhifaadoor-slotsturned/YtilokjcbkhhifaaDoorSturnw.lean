/-
  SlotsTurned walked.
-/
import Derived.Test.YtilokjcbkhhifaaDoorSlv
import Derived.Test.YtilokjcbkhhifaaDoorStn
import Derived.Test.YtilokjcbkhhifaaDoorSlk
import Derived.Test.YtilokjcbkhhifaaDoorTrns
import Derived.Test.YtilokjcbkhhifaaDoorTrni
import Derived.Test.YtilokjcbkhhifaaDoorHld
namespace Go.Proofs.YtilokjcbkhhifaaDoor.Grd
open Go Go.Lib Go.RowKit

/-- Slots across less slots down, among the first k. -/
def sgK (L : List Sl) : Nat → Int
  | 0 => 0
  | k + 1 => sgK L k + (match L[k]? with | some s => if s.dn then -1 else 1 | none => 0)
theorem sgK_up (L : List Sl) (k : Nat) : sgK L k = (upL false (L.take k) : Int) - (upL true (L.take k) : Int) := by
  induction k with
  | zero => simp [sgK, upL]
  | succ k ih =>
    simp only [sgK]
    rw [ih, List.take_add_one]
    unfold upL
    rw [List.filter_append, List.filter_append, List.length_append, List.length_append]
    cases L[k]? with
    | none => simp
    | some s => cases hd : s.dn <;> simp [hd] <;> omega
theorem sgK_all (L : List Sl) : sgK L L.length = (upL false L : Int) - (upL true L : Int) := by rw [sgK_up, List.take_length]
theorem sgK_le (L : List Sl) (k : Nat) : -(k : Int) ≤ sgK L k ∧ sgK L k ≤ (k : Int) := by
  induction k with
  | zero => simp [sgK]
  | succ k ih =>
    simp only [sgK]
    cases L[k]? with
    | none => simp only; omega
    | some s => cases hd : s.dn <;> simp only [hd, if_true, Bool.false_eq_true, if_false] <;> omega
set_option maxRecDepth 20000 in
set_option maxHeartbeats 4000000 in
theorem slotsTurned_shut (g : Gr) (p : Ad) (k : Int) (w : World) (hR : RG w g p) (hw : Wy w) (hc : ¬ g.ok) :
    Calls Tryd.prog 8 #[gv g p, .int .i64 k] w fun e w' => e = .returned (.bool true) ∧ Below w.heap.size w w' := by
  have HW : Aside (∀ W, Below w.heap.size w W → Wy W ∧ RG W g p) := fun W hb => ⟨hw.below hw.size hb, hR.below hb⟩
  have cA := awake7_any (w.alloc (.cells #[.int .i64 g.h, .int .i64 g.w, .slice p.a1 g.B.length p.c1, .slice p.a2 g.R.length p.c2, .slice p.a3 g.D.length p.c3] 24)) (HW.out _ (below_box w _)).1
  have CT : Aside (∀ (j : Nat) W, j < 8 → Below w.heap.size w W → Calls Tryd.prog 30 #[gv g p, .int .i64 (j : Nat)] W fun e w' => e = .returned (.tuple #[zeroG, .int .i64 (g.chk : Nat)]) ∧ Below W.heap.size W w') := fun j W hj h => Turn_shut g p j W (by omega) (HW.out W h).1 (HW.out W h).2 hc
  have HL : Aside (∀ W, Below w.heap.size w W → Calls Tryd.prog 10 #[gv g p] W fun e w' => e = .returned (.slice none 0 0) ∧ Below W.heap.size W w') := fun W hb => List_shut g p hc W (HW.out W hb).1 (HW.out W hb).2
  obtain ⟨m, hkm, hml⟩ := low_bits k 7 (by omega)
  rw [show ((7 : Nat) : Int) = 7 from rfl] at hkm
  have hc2 : ¬ ((g.chk : Nat) : Int) = 0 := by have : ¬ g.chk = 0 := hc; omega
  unfold gv zeroG at CT
  unfold gv at HL
  unfold gv
  clear hw hR hc
  go_enter Tryd.func8, Tryd.ntmps8
  go_wp2_with fail
  refine cA.mono ?_
  rintro e w1 ⟨rfl, hb1⟩
  have HX1 : Aside (Bx w1 w.heap.size g p) := (Bx.new w g p _).keep hb1
  have HB1 : Aside (Below w.heap.size w w1) := (below_box w _).trans (hb1.mono (below_box w _).size)
  obtain ⟨_, k0, k1, k2, k3, k4⟩ := HX1.out
  clear hb1 cA
  have cT := CT.out m w1 (by omega) HB1.out
  go_wp2_with fail
  refine cT.mono ?_
  rintro e w2 ⟨rfl, hb2⟩
  have HX2 : Aside (Bx (w2.alloc (.cells #[.int .i64 0, .int .i64 0, .slice none 0 0, .slice none 0 0, .slice none 0 0] 24)) w.heap.size g p) := (HX1.out.keep hb2).keep (below_box _ _)
  have HB2 : Aside (Below w.heap.size w (w2.alloc (.cells #[.int .i64 0, .int .i64 0, .slice none 0 0, .slice none 0 0, .slice none 0 0] 24))) := (HB1.out.trans (hb2.mono HB1.out.size)).alloc (Nat.le_trans HB1.out.size hb2.size) _
  clear cT hb2 k0 k1 k2 k3 k4
  obtain ⟨_, k0, k1, k2, k3, k4⟩ := HX2.out
  have cT := CT.out 7 _ (by omega) HB2.out
  go_wp2_with fail
  refine cT.mono ?_
  rintro e w4 ⟨rfl, hb4⟩
  have HX4 : Aside (Bx (w4.alloc (.cells #[.int .i64 0, .int .i64 0, .slice none 0 0, .slice none 0 0, .slice none 0 0] 24)) w.heap.size g p) := (HX2.out.keep hb4).keep (below_box _ _)
  have HB4 : Aside (Below w.heap.size w (w4.alloc (.cells #[.int .i64 0, .int .i64 0, .slice none 0 0, .slice none 0 0, .slice none 0 0] 24))) := (HB2.out.trans (hb4.mono HB2.out.size)).alloc (Nat.le_trans HB2.out.size hb4.size) _
  clear cT hb4 k0 k1 k2 k3 k4
  obtain ⟨_, k0, k1, k2, k3, k4⟩ := HX4.out
  have cL := HL.out _ HB4.out
  go_wp2_with fail
  refine cL.mono ?_
  rintro e w6 ⟨rfl, hb6⟩
  have HB6 : Aside (Below w.heap.size w w6) := HB4.out.trans (hb6.mono HB4.out.size)
  clear cL hb6 k0 k1 k2 k3 k4
  go_wp2
  go_ret
  exact ⟨rfl, HB6.out⟩

set_option maxRecDepth 20000 in
set_option maxHeartbeats 8000000 in
theorem slotsTurned_open (g : Gr) (p : Ad) (k : Int) (w : World) (hR : RG w g p) (hw : Wy w) (hc : g.ok) :
    Calls Tryd.prog 8 #[gv g p, .int .i64 k] w fun e w' => e = .returned (.bool true) ∧ Below w.heap.size w w' := by
  have HWY : Aside (∀ W, Below w.heap.size w W → Wy W) := fun W hb => hw.below hw.size hb
  have HG0 := Hs.new hR 24
  have cA := awake7_any (w.alloc (.cells #[.int .i64 g.h, .int .i64 g.w, .slice p.a1 g.B.length p.c1, .slice p.a2 g.R.length p.c2, .slice p.a3 g.D.length p.c3] 24)) (HWY.out _ (below_box w _))
  have CV : Aside (∀ (k : Nat) W, k < 8 → Below w.heap.size w W → RG W g p → Calls Tryd.prog 30 #[gv g p, .int .i64 k] W fun e w' => ∃ r, e = .returned (.tuple #[gv (g.turn k) r, .int .i64 0]) ∧ RG w' (g.turn k) r ∧ r.fresh W.heap.size ∧ Below W.heap.size W w') := fun k W hk h hG => Turn_val g p k W hk (HWY.out W h) hG hc
  have HL : Aside (∀ (G : Gr) (q : Ad) W, Below w.heap.size w W → RG W G q → Calls Tryd.prog 10 #[gv G q] W fun e w' => ∃ v us, e = .returned v ∧ OwnL w' W.heap.size v G.sl us ∧ Below W.heap.size W w') := fun G q W hb hG => List_any G q W (HWY.out W hb) hG
  have HX : Aside (∀ (G : Gr) (q : Ad) W, Below w.heap.size w W → RG W G q → Calls Tryd.prog 19 #[gv G q] W fun e w' => e = .returned (.int .i64 (G.crK G.m : Nat)) ∧ Below W.heap.size W w') := fun G q W hb hG => Crossings_any G q W (HWY.out W hb) hG
  have HO : Aside (∀ (G : Gr) (q : Ad) W, Below w.heap.size w W → RG W G q → Calls Tryd.prog 22 #[gv G q] W fun e w' => ∃ v, e = .returned v ∧ w'.ownsRow W.heap.size 3 1 v (G.loK G.m).length (cellsI (ints (G.loK G.m))) ∧ Below W.heap.size W w') := fun G q W hb hG => Lone_any G q W (HWY.out W hb) hG
  obtain ⟨m, hkm, hml⟩ := low_bits k 7 (by omega)
  rw [show ((7 : Nat) : Int) = 7 from rfl] at hkm
  have HCN : Aside (∀ j, (g.turn j).sl.length = g.sl.length ∧ (g.turn j).crK (g.turn j).m = g.crK g.m ∧ ((g.turn j).loK (g.turn j).m).length = (g.loK g.m).length) := fun j => Gr.turn_counts hc j
  have HSV : Aside (upL false (g.turn 7).sl = upL true g.sl ∧ upL true (g.turn 7).sl = upL false g.sl) := Gr.turn_seven hc
  have HSL : Aside (∀ G : Gr, G.sl.length ≤ 512) := fun G => G.sl_len
  unfold gv
  clear hw hR hc
  go_enter Tryd.func8, Tryd.ntmps8
  go_wp2_with fail
  refine cA.mono ?_
  rintro e w1 ⟨rfl, hb1⟩
  have HG1 : Aside (Hs w1 w.heap.size g p) := HG0.keep hb1
  have HB1 : Aside (Below w.heap.size w w1) := (below_box w _).trans (hb1.mono (below_box w _).size)
  clear cA hb1 HG0
  obtain ⟨⟨_, k0, k1, k2, k3, k4⟩, _⟩ := HG1.out
  have cT := CV.out m w1 (by omega) HB1.out HG1.out.rg
  unfold gv at cT
  go_wp2_with fail
  refine cT.mono ?_
  rintro e w2 ⟨qT, rfl, hRt, _, hb2⟩
  obtain ⟨T, hT⟩ : ∃ T, g.turn m = T := ⟨_, rfl⟩
  have HCT : Aside (T.sl.length = g.sl.length ∧ T.crK T.m = g.crK g.m ∧ (T.loK T.m).length = (g.loK g.m).length) := by rw [← hT]; exact HCN.out m
  rw [hT] at hRt
  rw [hT]
  have HT3 : Aside (Hs (w2.alloc (.cells #[.int .i64 T.h, .int .i64 T.w, .slice qT.a1 T.B.length qT.c1, .slice qT.a2 T.R.length qT.c2, .slice qT.a3 T.D.length qT.c3] 24)) w2.heap.size T qT) := Hs.new hRt _
  have HG3 : Aside (Hs (w2.alloc (.cells #[.int .i64 T.h, .int .i64 T.w, .slice qT.a1 T.B.length qT.c1, .slice qT.a2 T.R.length qT.c2, .slice qT.a3 T.D.length qT.c3] 24)) w.heap.size g p) := (HG1.out.keep hb2).keep (below_box _ _)
  have HB3 : Aside (Below w.heap.size w (w2.alloc (.cells #[.int .i64 T.h, .int .i64 T.w, .slice qT.a1 T.B.length qT.c1, .slice qT.a2 T.R.length qT.c2, .slice qT.a3 T.D.length qT.c3] 24))) := (HB1.out.trans (hb2.mono HB1.out.size)).alloc (Nat.le_trans HB1.out.size hb2.size) _
  clear cT hb2 k0 k1 k2 k3 k4 hRt hT HG1 HB1
  obtain ⟨⟨_, k0, k1, k2, k3, k4⟩, _⟩ := HG3.out
  have cT := CV.out 7 _ (by omega) HB3.out HG3.out.rg
  unfold gv at cT
  go_wp2_with fail
  refine cT.mono ?_
  rintro e w4 ⟨qM, rfl, hRm, _, hb4⟩
  obtain ⟨M, hM⟩ : ∃ M, g.turn 7 = M := ⟨_, rfl⟩
  rw [hM] at hRm HSV
  rw [hM]
  have HM5 : Aside (Hs (w4.alloc (.cells #[.int .i64 M.h, .int .i64 M.w, .slice qM.a1 M.B.length qM.c1, .slice qM.a2 M.R.length qM.c2, .slice qM.a3 M.D.length qM.c3] 24)) w4.heap.size M qM) := Hs.new hRm _
  have HT5 : Aside (Hs (w4.alloc (.cells #[.int .i64 M.h, .int .i64 M.w, .slice qM.a1 M.B.length qM.c1, .slice qM.a2 M.R.length qM.c2, .slice qM.a3 M.D.length qM.c3] 24)) w2.heap.size T qT) := (HT3.out.keep hb4).keep (below_box _ _)
  have HG5 : Aside (Hs (w4.alloc (.cells #[.int .i64 M.h, .int .i64 M.w, .slice qM.a1 M.B.length qM.c1, .slice qM.a2 M.R.length qM.c2, .slice qM.a3 M.D.length qM.c3] 24)) w.heap.size g p) := (HG3.out.keep hb4).keep (below_box _ _)
  have HB5 : Aside (Below w.heap.size w (w4.alloc (.cells #[.int .i64 M.h, .int .i64 M.w, .slice qM.a1 M.B.length qM.c1, .slice qM.a2 M.R.length qM.c2, .slice qM.a3 M.D.length qM.c3] 24))) := (HB3.out.trans (hb4.mono HB3.out.size)).alloc (Nat.le_trans HB3.out.size hb4.size) _
  clear cT hb4 k0 k1 k2 k3 k4 hRm hM HG3 HB3 HT3
  go_wp2
  generalize w2.heap.size = bT at *
  generalize w4.alloc (.cells #[.int .i64 M.h, .int .i64 M.w, .slice qM.a1 M.B.length qM.c1, .slice qM.a2 M.R.length qM.c2, .slice qM.a3 M.D.length qM.c3] 24) = w5 at *
  generalize w4.heap.size = bM at *
  have hD : Below w5.heap.size w5 w5.drew := Below.drew (Below.refl _ _)
  have hSS : ∀ W, Below w5.heap.size w5 W → (Bx W bT T qT ∧ Bx W w.heap.size g p) := fun W h => ⟨(HT5.out.keep h).bx, (HG5.out.keep h).bx⟩
  have hSW := hSS _ hD
  go_cut [60] from 38 to 59 (fun s6 wd => s6 = .bool false ∧ Aside (Below w5.heap.size w5 wd))
  case first =>
    refine wp_region_held (S := fun W => (Bx W bT T qT ∧ Bx W w.heap.size g p)) (by kernel_rfl) ?_
    refine (show wpAnyH _ .any _ _ _ 23 (Array.replicate 23 false) _ w5.drew from ?_)
    refine takeD (i := 0) (d := 38) (v := .agg #[.int .i64 T.h, .int .i64 T.w, .slice qT.a1 T.B.length qT.c1, .slice qT.a2 T.R.length qT.c2, .slice qT.a3 T.D.length qT.c3]) rfl (by kernel_rfl) (by kernel_rfl) (by kernel_rfl) (fun _ _ _ h => h) (fun oi ho => yields_now ho rfl fun W hSw => ?_) hSW ?_
    · obtain ⟨⟨_, k0, k1, k2, k3, k4⟩, ⟨_, l0, l1, l2, l3, l4⟩⟩ := hSw
      go_simp
    simp only [Act.put, List.setIfInBounds_toArray, List.set_cons_zero, List.set_cons_succ]
    refine takeD (i := 3) (d := 41) (v := .agg #[.int .i64 g.h, .int .i64 g.w, .slice p.a1 g.B.length p.c1, .slice p.a2 g.R.length p.c2, .slice p.a3 g.D.length p.c3]) rfl (by kernel_rfl) (by kernel_rfl) (by kernel_rfl) (fun _ _ _ h => h) (fun oi ho => yields_now ho rfl fun W hSw => ?_) hSW ?_
    · obtain ⟨⟨_, k0, k1, k2, k3, k4⟩, ⟨_, l0, l1, l2, l3, l4⟩⟩ := hSw
      go_simp
    simp only [Act.put, List.setIfInBounds_toArray, List.set_cons_zero, List.set_cons_succ]
    refine wpAnyH_all (rs := [1]) (by kernel_rfl) (by simp) (fun i hi => ?_)
    obtain rfl := List.mem_singleton.1 hi
    have cc := HL.out T qT _ (HB5.out.trans (hD.mono HB5.out.size)) (HT5.out.keep hD).rg
    unfold gv at cc
    refine wpOp_call rfl rfl rfl (by go_simp) cc ?_
    rintro e w6 ⟨v1, us1, rfl, hO1, hbN⟩
    clear cc
    obtain ⟨ao1, cap1, rfl, _⟩ := hO1.read
    clear hO1
    rw [HCT.out.1]
    have hb6 := hD.trans (hbN.mono hD.size)
    clear hbN
    refine ⟨_, rfl, hSS _ hb6, ?_⟩
    have hSW := hSS _ hb6
    simp only [Act.put, List.setIfInBounds_toArray, List.set_cons_zero, List.set_cons_succ]
    refine takeD (i := 2) (d := 40) (v := .int .i64 (g.sl.length : Nat)) rfl (by kernel_rfl) (by kernel_rfl) (by kernel_rfl) (fun _ _ _ h => h) (fun oi ho => yields_now ho rfl fun W hSw => ?_) hSW ?_
    · obtain ⟨⟨_, k0, k1, k2, k3, k4⟩, ⟨_, l0, l1, l2, l3, l4⟩⟩ := hSw
      go_simp
    simp only [Act.put, List.setIfInBounds_toArray, List.set_cons_zero, List.set_cons_succ]
    refine wpAnyH_all (rs := [4]) (by kernel_rfl) (by simp) (fun i hi => ?_)
    obtain rfl := List.mem_singleton.1 hi
    have cc := HL.out g p _ (HB5.out.trans (hb6.mono HB5.out.size)) (HG5.out.keep hb6).rg
    unfold gv at cc
    refine wpOp_call rfl rfl rfl (by go_simp) cc ?_
    rintro e w7 ⟨v4, us4, rfl, hO4, hbN⟩
    clear cc
    obtain ⟨ao4, cap4, rfl, _⟩ := hO4.read
    clear hO4
    have hb7 := hb6.trans (hbN.mono hb6.size)
    clear hbN
    refine ⟨_, rfl, hSS _ hb7, ?_⟩
    have hSW := hSS _ hb7
    simp only [Act.put, List.setIfInBounds_toArray, List.set_cons_zero, List.set_cons_succ]
    refine takeD (i := 5) (d := 43) (v := .int .i64 (g.sl.length : Nat)) rfl (by kernel_rfl) (by kernel_rfl) (by kernel_rfl) (fun _ _ _ h => h) (fun oi ho => yields_now ho rfl fun W hSw => ?_) hSW ?_
    · obtain ⟨⟨_, k0, k1, k2, k3, k4⟩, ⟨_, l0, l1, l2, l3, l4⟩⟩ := hSw
      go_simp
    simp only [Act.put, List.setIfInBounds_toArray, List.set_cons_zero, List.set_cons_succ]
    refine takeD (i := 6) (d := 44) (v := .bool false) rfl (by kernel_rfl) (by kernel_rfl) (by kernel_rfl) (fun _ _ _ h => h) (fun oi ho => yields_now ho rfl fun W hSw => ?_) hSW ?_
    · obtain ⟨⟨_, k0, k1, k2, k3, k4⟩, ⟨_, l0, l1, l2, l3, l4⟩⟩ := hSw
      go_simp
    simp only [Act.put, List.setIfInBounds_toArray, List.set_cons_zero, List.set_cons_succ]
    refine takeD (i := 7) (d := 45) (v := .bool false) rfl (by kernel_rfl) (by kernel_rfl) (by kernel_rfl) (fun _ _ _ h => h) (fun oi ho => yields_now ho rfl fun W hSw => ?_) hSW ?_
    · obtain ⟨⟨_, k0, k1, k2, k3, k4⟩, ⟨_, l0, l1, l2, l3, l4⟩⟩ := hSw
      go_simp
    simp only [Act.put, List.setIfInBounds_toArray, List.set_cons_zero, List.set_cons_succ]
    refine takeD (i := 8) (d := 46) (v := .agg #[.int .i64 T.h, .int .i64 T.w, .slice qT.a1 T.B.length qT.c1, .slice qT.a2 T.R.length qT.c2, .slice qT.a3 T.D.length qT.c3]) rfl (by kernel_rfl) (by kernel_rfl) (by kernel_rfl) (fun _ _ _ h => h) (fun oi ho => yields_now ho rfl fun W hSw => ?_) hSW ?_
    · obtain ⟨⟨_, k0, k1, k2, k3, k4⟩, ⟨_, l0, l1, l2, l3, l4⟩⟩ := hSw
      go_simp
    simp only [Act.put, List.setIfInBounds_toArray, List.set_cons_zero, List.set_cons_succ]
    refine takeD (i := 10) (d := 48) (v := .agg #[.int .i64 g.h, .int .i64 g.w, .slice p.a1 g.B.length p.c1, .slice p.a2 g.R.length p.c2, .slice p.a3 g.D.length p.c3]) rfl (by kernel_rfl) (by kernel_rfl) (by kernel_rfl) (fun _ _ _ h => h) (fun oi ho => yields_now ho rfl fun W hSw => ?_) hSW ?_
    · obtain ⟨⟨_, k0, k1, k2, k3, k4⟩, ⟨_, l0, l1, l2, l3, l4⟩⟩ := hSw
      go_simp
    simp only [Act.put, List.setIfInBounds_toArray, List.set_cons_zero, List.set_cons_succ]
    refine wpAnyH_all (rs := [9]) (by kernel_rfl) (by simp) (fun i hi => ?_)
    obtain rfl := List.mem_singleton.1 hi
    have cc := HX.out T qT _ (HB5.out.trans (hb7.mono HB5.out.size)) (HT5.out.keep hb7).rg
    unfold gv at cc
    refine wpOp_call rfl rfl rfl (by go_simp) cc ?_
    rintro e w8 ⟨rfl, hbN⟩
    clear cc
    rw [HCT.out.2.1]
    have hb8 := hb7.trans (hbN.mono hb7.size)
    clear hbN
    refine ⟨_, rfl, hSS _ hb8, ?_⟩
    have hSW := hSS _ hb8
    simp only [Act.put, List.setIfInBounds_toArray, List.set_cons_zero, List.set_cons_succ]
    refine wpAnyH_all (rs := [11]) (by kernel_rfl) (by simp) (fun i hi => ?_)
    obtain rfl := List.mem_singleton.1 hi
    have cc := HX.out g p _ (HB5.out.trans (hb8.mono HB5.out.size)) (HG5.out.keep hb8).rg
    unfold gv at cc
    refine wpOp_call rfl rfl rfl (by go_simp) cc ?_
    rintro e w9 ⟨rfl, hbN⟩
    clear cc
    have hb9 := hb8.trans (hbN.mono hb8.size)
    clear hbN
    refine ⟨_, rfl, hSS _ hb9, ?_⟩
    have hSW := hSS _ hb9
    simp only [Act.put, List.setIfInBounds_toArray, List.set_cons_zero, List.set_cons_succ]
    refine takeD (i := 12) (d := 50) (v := .bool false) rfl (by kernel_rfl) (by kernel_rfl) (by kernel_rfl) (fun _ _ _ h => h) (fun oi ho => yields_now ho rfl fun W hSw => ?_) hSW ?_
    · obtain ⟨⟨_, k0, k1, k2, k3, k4⟩, ⟨_, l0, l1, l2, l3, l4⟩⟩ := hSw
      go_simp
    simp only [Act.put, List.setIfInBounds_toArray, List.set_cons_zero, List.set_cons_succ]
    refine takeD (i := 13) (d := 51) (v := .bool false) rfl (by kernel_rfl) (by kernel_rfl) (by kernel_rfl) (fun _ _ _ h => h) (fun oi ho => yields_now ho rfl fun W hSw => ?_) hSW ?_
    · obtain ⟨⟨_, k0, k1, k2, k3, k4⟩, ⟨_, l0, l1, l2, l3, l4⟩⟩ := hSw
      go_simp
    simp only [Act.put, List.setIfInBounds_toArray, List.set_cons_zero, List.set_cons_succ]
    refine takeD (i := 14) (d := 52) (v := .bool false) rfl (by kernel_rfl) (by kernel_rfl) (by kernel_rfl) (fun _ _ _ h => h) (fun oi ho => yields_now ho rfl fun W hSw => ?_) hSW ?_
    · obtain ⟨⟨_, k0, k1, k2, k3, k4⟩, ⟨_, l0, l1, l2, l3, l4⟩⟩ := hSw
      go_simp
    simp only [Act.put, List.setIfInBounds_toArray, List.set_cons_zero, List.set_cons_succ]
    refine takeD (i := 15) (d := 53) (v := .agg #[.int .i64 T.h, .int .i64 T.w, .slice qT.a1 T.B.length qT.c1, .slice qT.a2 T.R.length qT.c2, .slice qT.a3 T.D.length qT.c3]) rfl (by kernel_rfl) (by kernel_rfl) (by kernel_rfl) (fun _ _ _ h => h) (fun oi ho => yields_now ho rfl fun W hSw => ?_) hSW ?_
    · obtain ⟨⟨_, k0, k1, k2, k3, k4⟩, ⟨_, l0, l1, l2, l3, l4⟩⟩ := hSw
      go_simp
    simp only [Act.put, List.setIfInBounds_toArray, List.set_cons_zero, List.set_cons_succ]
    refine takeD (i := 18) (d := 56) (v := .agg #[.int .i64 g.h, .int .i64 g.w, .slice p.a1 g.B.length p.c1, .slice p.a2 g.R.length p.c2, .slice p.a3 g.D.length p.c3]) rfl (by kernel_rfl) (by kernel_rfl) (by kernel_rfl) (fun _ _ _ h => h) (fun oi ho => yields_now ho rfl fun W hSw => ?_) hSW ?_
    · obtain ⟨⟨_, k0, k1, k2, k3, k4⟩, ⟨_, l0, l1, l2, l3, l4⟩⟩ := hSw
      go_simp
    simp only [Act.put, List.setIfInBounds_toArray, List.set_cons_zero, List.set_cons_succ]
    refine wpAnyH_all (rs := [16]) (by kernel_rfl) (by simp) (fun i hi => ?_)
    obtain rfl := List.mem_singleton.1 hi
    have cc := HO.out T qT _ (HB5.out.trans (hb9.mono HB5.out.size)) (HT5.out.keep hb9).rg
    unfold gv at cc
    refine wpOp_call rfl rfl rfl (by go_simp) cc ?_
    rintro e w10 ⟨v16, rfl, hr16, hbN⟩
    clear cc
    obtain ⟨a16, c16, rfl, hl16, _⟩ := row_reads hr16
    rw [← hl16]
    clear hr16 hl16
    rw [HCT.out.2.2]
    have hb10 := hb9.trans (hbN.mono hb9.size)
    clear hbN
    refine ⟨_, rfl, hSS _ hb10, ?_⟩
    have hSW := hSS _ hb10
    simp only [Act.put, List.setIfInBounds_toArray, List.set_cons_zero, List.set_cons_succ]
    refine takeD (i := 17) (d := 55) (v := .int .i64 ((g.loK g.m).length : Nat)) rfl (by kernel_rfl) (by kernel_rfl) (by kernel_rfl) (fun _ _ _ h => h) (fun oi ho => yields_now ho rfl fun W hSw => ?_) hSW ?_
    · obtain ⟨⟨_, k0, k1, k2, k3, k4⟩, ⟨_, l0, l1, l2, l3, l4⟩⟩ := hSw
      go_simp
    simp only [Act.put, List.setIfInBounds_toArray, List.set_cons_zero, List.set_cons_succ]
    refine wpAnyH_all (rs := [19]) (by kernel_rfl) (by simp) (fun i hi => ?_)
    obtain rfl := List.mem_singleton.1 hi
    have cc := HO.out g p _ (HB5.out.trans (hb10.mono HB5.out.size)) (HG5.out.keep hb10).rg
    unfold gv at cc
    refine wpOp_call rfl rfl rfl (by go_simp) cc ?_
    rintro e w11 ⟨v19, rfl, hr19, hbN⟩
    clear cc
    obtain ⟨a19, c19, rfl, hl19, _⟩ := row_reads hr19
    rw [← hl19]
    clear hr19 hl19
    have hb11 := hb10.trans (hbN.mono hb10.size)
    clear hbN
    refine ⟨_, rfl, hSS _ hb11, ?_⟩
    have hSW := hSS _ hb11
    simp only [Act.put, List.setIfInBounds_toArray, List.set_cons_zero, List.set_cons_succ]
    refine takeD (i := 20) (d := 58) (v := .int .i64 ((g.loK g.m).length : Nat)) rfl (by kernel_rfl) (by kernel_rfl) (by kernel_rfl) (fun _ _ _ h => h) (fun oi ho => yields_now ho rfl fun W hSw => ?_) hSW ?_
    · obtain ⟨⟨_, k0, k1, k2, k3, k4⟩, ⟨_, l0, l1, l2, l3, l4⟩⟩ := hSw
      go_simp
    simp only [Act.put, List.setIfInBounds_toArray, List.set_cons_zero, List.set_cons_succ]
    refine takeD (i := 21) (d := 59) (v := .bool false) rfl (by kernel_rfl) (by kernel_rfl) (by kernel_rfl) (fun _ _ _ h => h) (fun oi ho => yields_now ho rfl fun W hSw => ?_) hSW ?_
    · obtain ⟨⟨_, k0, k1, k2, k3, k4⟩, ⟨_, l0, l1, l2, l3, l4⟩⟩ := hSw
      go_simp
    simp only [Act.put, List.setIfInBounds_toArray, List.set_cons_zero, List.set_cons_succ]
    refine takeD (i := 22) (d := 60) (v := .bool false) rfl (by kernel_rfl) (by kernel_rfl) (by kernel_rfl) (fun _ _ _ h => h) (fun oi ho => yields_now ho rfl fun W hSw => ?_) hSW ?_
    · obtain ⟨⟨_, k0, k1, k2, k3, k4⟩, ⟨_, l0, l1, l2, l3, l4⟩⟩ := hSw
      go_simp
    simp only [Act.put, List.setIfInBounds_toArray, List.set_cons_zero, List.set_cons_succ]
    refine wpAnyH_done (by kernel_rfl) ?_ _
    refine ‹∀ (a' : Act) (w' : World), Met _ a' w' → _› _ _ ?_
    have HE : Aside (Below w5.heap.size w5 w11) := hb11
    go_meet
    exact ⟨rfl, HE⟩
  case rest =>
  rename World => w6
  obtain ⟨rfl, HE⟩ := hcut
  clear hSS hSW hD
  have HG6 : Aside (Hs w6 w.heap.size g p) := HG5.out.keep HE.out
  have HM6 : Aside (Hs w6 bM M qM) := HM5.out.keep HE.out
  have HB6 : Aside (Below w.heap.size w w6) := HB5.out.trans (HE.out.mono HB5.out.size)
  clear HE HG5 HM5 HB5 HT5
  obtain ⟨⟨_, k0, k1, k2, k3, k4⟩, _⟩ := HG6.out
  have cL := HL.out g p w6 HB6.out HG6.out.rg
  unfold gv at cL
  go_wp2_with fail
  refine cL.mono ?_
  rintro e w7 ⟨v, us, rfl, hO, hb7⟩
  obtain ⟨ao, cap, rfl, hRL⟩ := hO.read
  have HRL : Aside (ReadsL w7 ao g.sl) := hRL
  have HM7 : Aside (Hs w7 bM M qM) := HM6.out.keep hb7
  have HB7 : Aside (Below w.heap.size w w7) := HB6.out.trans (hb7.mono HB6.out.size)
  have hln := HSL.out g
  clear cL hO hRL hb7 k0 k1 k2 k3 k4 HG6 HM6 HB6
  go_wp2
  go_loopg [9, 64] g.sl.length (fun g1 nv iv wr => ∃ k : Nat, nv = .int .i64 (sgK g.sl k) ∧ iv = .int .i64 (k : Int) ∧ k ≤ g.sl.length ∧ g.sl.length - k ≤ g1 ∧ Aside (Below w7.heap.size w7 wr))
  case atStart => exact ⟨0, rfl, rfl, Nat.zero_le _, Nat.le_refl _, Below.refl _ _⟩
  case round =>
    obtain ⟨j, rfl, rfl, hj, hg, HBk⟩ := hrel
    by_cases hlt : j < g.sl.length
    · have hltz : (j : Int) < (g.sl.length : Int) := by omega
      have hs : g.sl[j]? = some (g.sl[j]'hlt) := List.getElem?_eq_getElem hlt
      generalize g.sl[j]'hlt = s at hs
      obtain ⟨b, a', c', rfl, hb, e0, e1, e2, _⟩ := (HRL.out.below HBk.out) j s hs
      have hsg := sgK_le g.sl j
      have HSU : Aside (sgK g.sl (j + 1) = sgK g.sl j + (if s.dn then -1 else 1)) := by show _ = _; simp [sgK, hs]
      have HBn : Aside (Below w7.heap.size w7 (wr.alloc (.cells #[.int .i64 (s.num : Int), .bool s.dn, .slice a' s.cs.length c'] 36))) := HBk.out.alloc HBk.out.size _
      generalize sgK g.sl j = sg at *
      cases hdn : s.dn with
      | false =>
        rw [hdn] at e1 HSU HBn
        have HSU2 : Aside (sgK g.sl (j + 1) = sg + 1) := HSU.out
        clear hdn hs
        go_wp2
        go_roundg (g.sl.length - (j + 1))
        case measure => omega
        case rel => exact ⟨j + 1, by rw [HSU2.out], by go_num, by omega, Nat.le_refl _, HBn⟩
      | true =>
        rw [hdn] at e1 HSU HBn
        have HSU2 : Aside (sgK g.sl (j + 1) = sg - 1) := by have := HSU.out; simp only [if_true] at this; show _ = _; rw [this]; omega
        clear hdn hs
        go_wp2
        go_roundg (g.sl.length - (j + 1))
        case measure => omega
        case rel => exact ⟨j + 1, by rw [HSU2.out], by go_num, by omega, Nat.le_refl _, HBn⟩
    · have hltz : ¬ (j : Int) < (g.sl.length : Int) := by omega
      obtain rfl : j = g.sl.length := by omega
      generalize hw8 : wr = w8 at *
      clear hw8
      have HM8 : Aside (Hs w8 bM M qM) := HM7.out.keep HBk.out
      have HB8 : Aside (Below w.heap.size w w8) := HB7.out.trans (HBk.out.mono HB7.out.size)
      have hsA := sgK_le g.sl g.sl.length
      have HAA : Aside (sgK g.sl g.sl.length = (upL false g.sl : Int) - (upL true g.sl : Int)) := sgK_all g.sl
      generalize sgK g.sl g.sl.length = A at *
      clear HM7 HB7 HRL HBk
      obtain ⟨⟨_, k0, k1, k2, k3, k4⟩, _⟩ := HM8.out
      have cL := HL.out M qM w8 HB8.out HM8.out.rg
      unfold gv at cL
      go_wp2_with fail
      refine cL.mono ?_
      rintro e w9 ⟨v, us, rfl, hO, hb9⟩
      obtain ⟨ao, cap, rfl, hRL⟩ := hO.read
      have HRL : Aside (ReadsL w9 ao M.sl) := hRL
      have HB9 : Aside (Below w.heap.size w w9) := HB8.out.trans (hb9.mono HB8.out.size)
      have hlm := HSL.out M
      clear cL hO hRL hb9 k0 k1 k2 k3 k4 HM8 HB8
      go_wp2
      go_loopg [9, 79] M.sl.length (fun g1 nv iv wr => ∃ k : Nat, nv = .int .i64 (A + sgK M.sl k) ∧ iv = .int .i64 (k : Int) ∧ k ≤ M.sl.length ∧ M.sl.length - k ≤ g1 ∧ Aside (Below w9.heap.size w9 wr))
      case atStart => exact ⟨0, by simp [sgK], rfl, Nat.zero_le _, Nat.le_refl _, Below.refl _ _⟩
      case round =>
        obtain ⟨j, rfl, rfl, hj, hg, HBk⟩ := hrel
        by_cases hlt : j < M.sl.length
        · have hltz : (j : Int) < (M.sl.length : Int) := by omega
          have hs : M.sl[j]? = some (M.sl[j]'hlt) := List.getElem?_eq_getElem hlt
          generalize M.sl[j]'hlt = s at hs
          obtain ⟨b, a', c', rfl, hb, e0, e1, e2, _⟩ := (HRL.out.below HBk.out) j s hs
          have hsg := sgK_le M.sl j
          have HSU : Aside (sgK M.sl (j + 1) = sgK M.sl j + (if s.dn then -1 else 1)) := by show _ = _; simp [sgK, hs]
          have HBn : Aside (Below w9.heap.size w9 (wr.alloc (.cells #[.int .i64 (s.num : Int), .bool s.dn, .slice a' s.cs.length c'] 36))) := HBk.out.alloc HBk.out.size _
          generalize sgK M.sl j = sg at *
          cases hdn : s.dn with
          | false =>
            rw [hdn] at e1 HSU HBn
            have HSU2 : Aside (A + sgK M.sl (j + 1) = A + sg + 1) := by have := HSU.out; simp only [Bool.false_eq_true, if_false] at this; show _ = _; rw [this]; omega
            clear hdn hs
            go_wp2
            go_roundg (M.sl.length - (j + 1))
            case measure => omega
            case rel => exact ⟨j + 1, by rw [HSU2.out], by go_num, by omega, Nat.le_refl _, HBn⟩
          | true =>
            rw [hdn] at e1 HSU HBn
            have HSU2 : Aside (A + sgK M.sl (j + 1) = A + sg - 1) := by have := HSU.out; simp only [if_true] at this; show _ = _; rw [this]; omega
            clear hdn hs
            go_wp2
            go_roundg (M.sl.length - (j + 1))
            case measure => omega
            case rel => exact ⟨j + 1, by rw [HSU2.out], by go_num, by omega, Nat.le_refl _, HBn⟩
        · have hltz : ¬ (j : Int) < (M.sl.length : Int) := by omega
          obtain rfl : j = M.sl.length := by omega
          have h0 : A + sgK M.sl M.sl.length = 0 := by
            rw [HAA.out, sgK_all, HSV.out.1, HSV.out.2]
            omega
          rw [h0]
          clear h0
          go_wp2
          go_ret
          exact ⟨rfl, HB9.out.trans (HBk.out.mono HB9.out.size)⟩
theorem slotsTurned_walk (g : Gr) (p : Ad) (k : Int) (w : World) (hR : RG w g p) (hw : Wy w) :
    Calls Tryd.prog 8 #[gv g p, .int .i64 k] w fun e w' => e = .returned (.bool true) ∧ Below w.heap.size w w' := by
  by_cases hc : g.ok
  · exact slotsTurned_open g p k w hR hw hc
  · exact slotsTurned_shut g p k w hR hw hc
end Go.Proofs.YtilokjcbkhhifaaDoor.Grd
