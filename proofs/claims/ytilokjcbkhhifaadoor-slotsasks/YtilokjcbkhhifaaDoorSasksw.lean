/-
  SlotsAsks walked: Find, Crossings and Lone of any grid are the document's.
-/
import Derived.Test.YtilokjcbkhhifaaDoorSlw
import Derived.Test.YtilokjcbkhhifaaDoorRre
import Derived.Test.YtilokjcbkhhifaaDoorHld
namespace Go.Proofs.YtilokjcbkhhifaaDoor.Grd
open Go Go.Lib Go.RowKit

set_option maxRecDepth 20000 in
set_option maxHeartbeats 4000000 in
theorem slotsAsks_walk (g : Gr) (p : Ad) (num : Int) (dn : Bool) (w : World) (hR : RG w g p) (hw : Wy w) :
    Calls Tryd.prog 4 #[gv g p, .int .i64 num, .bool dn] w fun e w' => e = .returned (.bool true) ∧ Below w.heap.size w w' := by
  have HW : Aside (∀ W, Below w.heap.size w W → Wy W ∧ RG W g p) := fun W hb => ⟨hw.below hw.size hb, hR.below hb⟩
  have cA := awake7_any (w.alloc (.cells #[.int .i64 g.h, .int .i64 g.w, .slice p.a1 g.B.length p.c1, .slice p.a2 g.R.length p.c2, .slice p.a3 g.D.length p.c3] 24)) (HW.out _ (below_box w _)).1
  have F1 : Aside (∀ W, Below w.heap.size w W → Calls Tryd.prog 17 #[gv g p, .int .i64 num, .bool dn] W fun e w' => e = .returned (.int .i64 (findIx num dn g.sl 0)) ∧ Below W.heap.size W w') := fun W hb => Find_any g p num dn W (HW.out W hb).1 (HW.out W hb).2
  have F2 : Aside (∀ W, Below w.heap.size w W → Calls Tryd.prog 18 #[gv g p, .int .i64 num, .bool dn] W fun e w' => e = .returned (.int .i64 (findIx num dn g.sl 0)) ∧ Below W.heap.size W w') := fun W hb => refFind_any g p num dn W (HW.out W hb).2
  have C1 : Aside (∀ W, Below w.heap.size w W → Calls Tryd.prog 19 #[gv g p] W fun e w' => e = .returned (.int .i64 (g.crK g.m : Nat)) ∧ Below W.heap.size W w') := fun W hb => Crossings_any g p W (HW.out W hb).1 (HW.out W hb).2
  have C2 : Aside (∀ W, Below w.heap.size w W → Calls Tryd.prog 20 #[gv g p] W fun e w' => e = .returned (.int .i64 (g.crK g.m : Nat)) ∧ Below W.heap.size W w') := fun W hb => refCrossings_any g p W (HW.out W hb).2
  have L1 : Aside (∀ W, Below w.heap.size w W → Calls Tryd.prog 22 #[gv g p] W fun e w' => ∃ v, e = .returned v ∧ w'.ownsRow W.heap.size 3 1 v (g.loK g.m).length (cellsI (ints (g.loK g.m))) ∧ Below W.heap.size W w') := fun W hb => Lone_any g p W (HW.out W hb).1 (HW.out W hb).2
  have L2 : Aside (∀ W, Below w.heap.size w W → Calls Tryd.prog 23 #[gv g p] W fun e w' => ∃ v, e = .returned v ∧ w'.ownsRow W.heap.size 3 1 v (g.loK g.m).length (cellsI (ints (g.loK g.m))) ∧ Below W.heap.size W w') := fun W hb => refLone_any g p W (HW.out W hb).2
  have hlo : (g.loK g.m).length ≤ 256 := by have := g.loK_len g.m; have := g.m_le; omega
  unfold gv at F1 F2 C1 C2 L1 L2
  unfold gv
  clear hw hR
  generalize findIx num dn g.sl 0 = fx at *
  generalize g.crK g.m = cx at *
  generalize g.loK g.m = lx at *
  go_enter Tryd.func4, Tryd.ntmps4
  go_wp2_with fail
  refine cA.mono ?_
  rintro e w1 ⟨rfl, hb1⟩
  have HX1 : Aside (Bx w1 w.heap.size g p) := (Bx.new w g p _).keep hb1
  have HB1 : Aside (Below w.heap.size w w1) := (below_box w _).trans (hb1.mono (below_box w _).size)
  obtain ⟨_, k0, k1, k2, k3, k4⟩ := HX1.out
  clear hb1 cA
  go_wp2
  --HELD
  have hD : Below w1.heap.size w1 w1.drew := Below.drew (Below.refl _ _)
  have hSS : ∀ W, Below w1.heap.size w1 W → Bx W w.heap.size g p := fun W h => HX1.out.keep h
  have hSW := hSS _ hD
  clear k0 k1 k2 k3 k4
  go_cut [6] from 9 to 31 (fun s6 wd => s6 = .bool true ∧ Aside (Below w1.heap.size w1 wd))
  case first =>
    refine wp_region_held (S := fun W => Bx W w.heap.size g p) (by kernel_rfl) ?_
    refine (show wpAnyH _ .any _ _ _ 24 (Array.replicate 24 false) _ w1.drew from ?_)
    refine takeD (i := 0) (d := 9) (v := .agg #[.int .i64 g.h, .int .i64 g.w, .slice p.a1 g.B.length p.c1, .slice p.a2 g.R.length p.c2, .slice p.a3 g.D.length p.c3]) rfl (by kernel_rfl) (by kernel_rfl) (by kernel_rfl) (fun _ _ _ h => h) (fun oi ho => yields_now ho rfl fun W hSw => ?_) hSW ?_
    · obtain ⟨_, k0, k1, k2, k3, k4⟩ := hSw
      go_simp
    simp only [Act.put, List.setIfInBounds_toArray, List.set_cons_zero, List.set_cons_succ]
    refine takeD (i := 1) (d := 10) (v := .int .i64 num) rfl (by kernel_rfl) (by kernel_rfl) (by kernel_rfl) (fun _ _ _ h => h) (fun oi ho => yields_now ho rfl fun W hSw => ?_) hSW ?_
    · obtain ⟨_, k0, k1, k2, k3, k4⟩ := hSw
      go_simp
    simp only [Act.put, List.setIfInBounds_toArray, List.set_cons_zero, List.set_cons_succ]
    refine takeD (i := 2) (d := 11) (v := .bool dn) rfl (by kernel_rfl) (by kernel_rfl) (by kernel_rfl) (fun _ _ _ h => h) (fun oi ho => yields_now ho rfl fun W hSw => ?_) hSW ?_
    · obtain ⟨_, k0, k1, k2, k3, k4⟩ := hSw
      go_simp
    simp only [Act.put, List.setIfInBounds_toArray, List.set_cons_zero, List.set_cons_succ]
    refine takeD (i := 4) (d := 13) (v := .agg #[.int .i64 g.h, .int .i64 g.w, .slice p.a1 g.B.length p.c1, .slice p.a2 g.R.length p.c2, .slice p.a3 g.D.length p.c3]) rfl (by kernel_rfl) (by kernel_rfl) (by kernel_rfl) (fun _ _ _ h => h) (fun oi ho => yields_now ho rfl fun W hSw => ?_) hSW ?_
    · obtain ⟨_, k0, k1, k2, k3, k4⟩ := hSw
      go_simp
    simp only [Act.put, List.setIfInBounds_toArray, List.set_cons_zero, List.set_cons_succ]
    refine takeD (i := 5) (d := 14) (v := .int .i64 num) rfl (by kernel_rfl) (by kernel_rfl) (by kernel_rfl) (fun _ _ _ h => h) (fun oi ho => yields_now ho rfl fun W hSw => ?_) hSW ?_
    · obtain ⟨_, k0, k1, k2, k3, k4⟩ := hSw
      go_simp
    simp only [Act.put, List.setIfInBounds_toArray, List.set_cons_zero, List.set_cons_succ]
    refine takeD (i := 6) (d := 15) (v := .bool dn) rfl (by kernel_rfl) (by kernel_rfl) (by kernel_rfl) (fun _ _ _ h => h) (fun oi ho => yields_now ho rfl fun W hSw => ?_) hSW ?_
    · obtain ⟨_, k0, k1, k2, k3, k4⟩ := hSw
      go_simp
    simp only [Act.put, List.setIfInBounds_toArray, List.set_cons_zero, List.set_cons_succ]
    refine wpAnyH_all (rs := [3]) (by kernel_rfl) (by simp) (fun i hi => ?_)
    obtain rfl := List.mem_singleton.1 hi
    have cc := F1.out _ (HB1.out.trans (hD.mono HB1.out.size))
    refine wpOp_call rfl rfl rfl (by go_simp) cc ?_
    rintro e w2 ⟨rfl, hbN⟩
    clear cc
    have hb2 := hD.trans (hbN.mono hD.size)
    clear hbN
    refine ⟨_, rfl, hSS _ hb2, ?_⟩
    have hSW := hSS _ hb2
    simp only [Act.put, List.setIfInBounds_toArray, List.set_cons_zero, List.set_cons_succ]
    refine wpAnyH_all (rs := [7]) (by kernel_rfl) (by simp) (fun i hi => ?_)
    obtain rfl := List.mem_singleton.1 hi
    have cc := F2.out _ (HB1.out.trans (hb2.mono HB1.out.size))
    refine wpOp_call rfl rfl rfl (by go_simp) cc ?_
    rintro e w3 ⟨rfl, hbN⟩
    clear cc
    have hb3 := hb2.trans (hbN.mono hb2.size)
    clear hbN
    refine ⟨_, rfl, hSS _ hb3, ?_⟩
    have hSW := hSS _ hb3
    simp only [Act.put, List.setIfInBounds_toArray, List.set_cons_zero, List.set_cons_succ]
    refine takeD (i := 8) (d := 17) (v := .bool true) rfl (by kernel_rfl) (by kernel_rfl) (by kernel_rfl) (fun _ _ _ h => h) (fun oi ho => yields_now ho rfl fun W hSw => ?_) hSW ?_
    · obtain ⟨_, k0, k1, k2, k3, k4⟩ := hSw
      go_simp
    simp only [Act.put, List.setIfInBounds_toArray, List.set_cons_zero, List.set_cons_succ]
    refine takeD (i := 9) (d := 18) (v := .bool true) rfl (by kernel_rfl) (by kernel_rfl) (by kernel_rfl) (fun _ _ _ h => h) (fun oi ho => yields_now ho rfl fun W hSw => ?_) hSW ?_
    · obtain ⟨_, k0, k1, k2, k3, k4⟩ := hSw
      go_simp
    simp only [Act.put, List.setIfInBounds_toArray, List.set_cons_zero, List.set_cons_succ]
    refine takeD (i := 10) (d := 19) (v := .agg #[.int .i64 g.h, .int .i64 g.w, .slice p.a1 g.B.length p.c1, .slice p.a2 g.R.length p.c2, .slice p.a3 g.D.length p.c3]) rfl (by kernel_rfl) (by kernel_rfl) (by kernel_rfl) (fun _ _ _ h => h) (fun oi ho => yields_now ho rfl fun W hSw => ?_) hSW ?_
    · obtain ⟨_, k0, k1, k2, k3, k4⟩ := hSw
      go_simp
    simp only [Act.put, List.setIfInBounds_toArray, List.set_cons_zero, List.set_cons_succ]
    refine takeD (i := 12) (d := 21) (v := .agg #[.int .i64 g.h, .int .i64 g.w, .slice p.a1 g.B.length p.c1, .slice p.a2 g.R.length p.c2, .slice p.a3 g.D.length p.c3]) rfl (by kernel_rfl) (by kernel_rfl) (by kernel_rfl) (fun _ _ _ h => h) (fun oi ho => yields_now ho rfl fun W hSw => ?_) hSW ?_
    · obtain ⟨_, k0, k1, k2, k3, k4⟩ := hSw
      go_simp
    simp only [Act.put, List.setIfInBounds_toArray, List.set_cons_zero, List.set_cons_succ]
    refine wpAnyH_all (rs := [11]) (by kernel_rfl) (by simp) (fun i hi => ?_)
    obtain rfl := List.mem_singleton.1 hi
    have cc := C1.out _ (HB1.out.trans (hb3.mono HB1.out.size))
    refine wpOp_call rfl rfl rfl (by go_simp) cc ?_
    rintro e w4 ⟨rfl, hbN⟩
    clear cc
    have hb4 := hb3.trans (hbN.mono hb3.size)
    clear hbN
    refine ⟨_, rfl, hSS _ hb4, ?_⟩
    have hSW := hSS _ hb4
    simp only [Act.put, List.setIfInBounds_toArray, List.set_cons_zero, List.set_cons_succ]
    refine wpAnyH_all (rs := [13]) (by kernel_rfl) (by simp) (fun i hi => ?_)
    obtain rfl := List.mem_singleton.1 hi
    have cc := C2.out _ (HB1.out.trans (hb4.mono HB1.out.size))
    refine wpOp_call rfl rfl rfl (by go_simp) cc ?_
    rintro e w5 ⟨rfl, hbN⟩
    clear cc
    have hb5 := hb4.trans (hbN.mono hb4.size)
    clear hbN
    refine ⟨_, rfl, hSS _ hb5, ?_⟩
    have hSW := hSS _ hb5
    simp only [Act.put, List.setIfInBounds_toArray, List.set_cons_zero, List.set_cons_succ]
    refine takeD (i := 14) (d := 23) (v := .bool true) rfl (by kernel_rfl) (by kernel_rfl) (by kernel_rfl) (fun _ _ _ h => h) (fun oi ho => yields_now ho rfl fun W hSw => ?_) hSW ?_
    · obtain ⟨_, k0, k1, k2, k3, k4⟩ := hSw
      go_simp
    simp only [Act.put, List.setIfInBounds_toArray, List.set_cons_zero, List.set_cons_succ]
    refine takeD (i := 15) (d := 24) (v := .bool true) rfl (by kernel_rfl) (by kernel_rfl) (by kernel_rfl) (fun _ _ _ h => h) (fun oi ho => yields_now ho rfl fun W hSw => ?_) hSW ?_
    · obtain ⟨_, k0, k1, k2, k3, k4⟩ := hSw
      go_simp
    simp only [Act.put, List.setIfInBounds_toArray, List.set_cons_zero, List.set_cons_succ]
    refine takeD (i := 16) (d := 25) (v := .bool true) rfl (by kernel_rfl) (by kernel_rfl) (by kernel_rfl) (fun _ _ _ h => h) (fun oi ho => yields_now ho rfl fun W hSw => ?_) hSW ?_
    · obtain ⟨_, k0, k1, k2, k3, k4⟩ := hSw
      go_simp
    simp only [Act.put, List.setIfInBounds_toArray, List.set_cons_zero, List.set_cons_succ]
    refine takeD (i := 17) (d := 26) (v := .agg #[.int .i64 g.h, .int .i64 g.w, .slice p.a1 g.B.length p.c1, .slice p.a2 g.R.length p.c2, .slice p.a3 g.D.length p.c3]) rfl (by kernel_rfl) (by kernel_rfl) (by kernel_rfl) (fun _ _ _ h => h) (fun oi ho => yields_now ho rfl fun W hSw => ?_) hSW ?_
    · obtain ⟨_, k0, k1, k2, k3, k4⟩ := hSw
      go_simp
    simp only [Act.put, List.setIfInBounds_toArray, List.set_cons_zero, List.set_cons_succ]
    refine takeD (i := 19) (d := 28) (v := .agg #[.int .i64 g.h, .int .i64 g.w, .slice p.a1 g.B.length p.c1, .slice p.a2 g.R.length p.c2, .slice p.a3 g.D.length p.c3]) rfl (by kernel_rfl) (by kernel_rfl) (by kernel_rfl) (fun _ _ _ h => h) (fun oi ho => yields_now ho rfl fun W hSw => ?_) hSW ?_
    · obtain ⟨_, k0, k1, k2, k3, k4⟩ := hSw
      go_simp
    simp only [Act.put, List.setIfInBounds_toArray, List.set_cons_zero, List.set_cons_succ]
    refine wpAnyH_all (rs := [18]) (by kernel_rfl) (by simp) (fun i hi => ?_)
    obtain rfl := List.mem_singleton.1 hi
    have cc := L1.out _ (HB1.out.trans (hb5.mono HB1.out.size))
    refine wpOp_call rfl rfl rfl (by go_simp) cc ?_
    rintro e w6 ⟨v6, rfl, hr6, hbN⟩
    clear cc
    obtain ⟨a6, c6, rfl, hl6, hI6⟩ := row_reads hr6
    rw [← hl6] at hr6 ⊢
    clear hr6
    have hb6 := hb5.trans (hbN.mono hb5.size)
    clear hbN
    refine ⟨_, rfl, hSS _ hb6, ?_⟩
    have hSW := hSS _ hb6
    simp only [Act.put, List.setIfInBounds_toArray, List.set_cons_zero, List.set_cons_succ]
    refine wpAnyH_all (rs := [20]) (by kernel_rfl) (by simp) (fun i hi => ?_)
    obtain rfl := List.mem_singleton.1 hi
    have cc := L2.out _ (HB1.out.trans (hb6.mono HB1.out.size))
    refine wpOp_call rfl rfl rfl (by go_simp) cc ?_
    rintro e w7 ⟨v7, rfl, hr7, hbN⟩
    clear cc
    obtain ⟨a7, c7, rfl, hl7, hI7⟩ := row_reads hr7
    rw [← hl7] at hr7 ⊢
    clear hr7
    have hI6 := hI6.below hbN
    have hb7 := hb6.trans (hbN.mono hb6.size)
    clear hbN
    refine ⟨_, rfl, hSS _ hb7, ?_⟩
    have hSW := hSS _ hb7
    simp only [Act.put, List.setIfInBounds_toArray, List.set_cons_zero, List.set_cons_succ]
    refine wpAnyH_all (rs := [21]) (by kernel_rfl) (by simp) (fun i hi => ?_)
    obtain rfl := List.mem_singleton.1 hi
    have cc := sameInts_any (ints lx) a6 a7 c6 c7 w7 (by rw [ints_length]; omega) hI6 hI7
    rw [ints_length] at cc
    refine wpOp_call rfl rfl rfl (by go_simp) cc ?_
    rintro e w8 ⟨rfl, hbN⟩
    clear cc
    have hb8 := hb7.trans (hbN.mono hb7.size)
    clear hbN
    refine ⟨_, rfl, hSS _ hb8, ?_⟩
    have hSW := hSS _ hb8
    simp only [Act.put, List.setIfInBounds_toArray, List.set_cons_zero, List.set_cons_succ]
    refine takeD (i := 22) (d := 31) (v := .bool true) rfl (by kernel_rfl) (by kernel_rfl) (by kernel_rfl) (fun _ _ _ h => h) (fun oi ho => yields_now ho rfl fun W hSw => ?_) hSW ?_
    · obtain ⟨_, k0, k1, k2, k3, k4⟩ := hSw
      go_simp
    simp only [Act.put, List.setIfInBounds_toArray, List.set_cons_zero, List.set_cons_succ]
    refine takeD (i := 23) (d := 6) (v := .bool true) rfl (by kernel_rfl) (by kernel_rfl) (by kernel_rfl) (fun _ _ _ h => h) (fun oi ho => yields_now ho rfl fun W hSw => ?_) hSW ?_
    · obtain ⟨_, k0, k1, k2, k3, k4⟩ := hSw
      go_simp
    simp only [Act.put, List.setIfInBounds_toArray, List.set_cons_zero, List.set_cons_succ]
    refine wpAnyH_done (by kernel_rfl) ?_ _
    refine ‹∀ (a' : Act) (w' : World), Met _ a' w' → _› _ _ ?_
    have HE : Aside (Below w1.heap.size w1 w8) := hb8
    go_meet
    exact ⟨rfl, HE⟩
  case rest =>
  rename World => w9
  obtain ⟨rfl, HE⟩ := hcut
  clear hSS hSW hD
  go_wp2
  go_ret
  exact ⟨rfl, HB1.out.trans (HE.out.mono HB1.out.size)⟩
end Go.Proofs.YtilokjcbkhhifaaDoor.Grd
