/-
  SlotsLists walked.
-/
import Derived.Test.YtkkeoonglcfhnaaDoorSlv
import Derived.Test.YtkkeoonglcfhnaaDoorTrns
import Derived.Test.YtkkeoonglcfhnaaDoorGlt
import Derived.Test.YtkkeoonglcfhnaaDoorGrdj
import Derived.Test.YtkkeoonglcfhnaaDoorRrdq
namespace Go.Proofs.YtkkeoonglcfhnaaDoor.Grd
open Go Go.Lib Go.RowKit

theorem row_dif {O : Nat → Prop} {W W' : World} {B n z : Nat} {e : TypeId} {v : Value} {xs : List Value} (h : W.ownsRow B e z v n xs) (hd : Dif O W W') (hO : ∀ x, B ≤ x → x < W.heap.size → ¬ O x) : W'.ownsRow B e z v n xs := by
  rcases h with ⟨h1, h2 | ⟨g, cap, cur, e1, e2, e3, e4⟩⟩
  · exact ⟨h1, .inl h2⟩
  · exact ⟨h1, .inr ⟨g, cap, cur, e1, e2, (hd.block g (Array.getElem?_eq_some_iff.1 e3).1 (hO g e2 (Array.getElem?_eq_some_iff.1 e3).1)).trans e3, e4⟩⟩
theorem OwnL.dif {O : Nat → Prop} {W W' : World} {B : Nat} {v : Value} {L : List Sl} {us : List Value} (h : OwnL W B v L us) (hd : Dif O W W') (hO : ∀ x, B ≤ x → x < W.heap.size → ¬ O x) : OwnL W' B v L us :=
  ⟨row_dif h.row hd hO, h.len, fun k s u h1 h2 => row_dif (h.each k s u h1 h2) hd hO, h.two⟩

theorem Dif.of_grown {W W' : World} {g : Nat} (h : W.grownBy W' (some g)) : Dif (fun x => x = g) W W' :=
  ⟨h.os, h.tape, h.output, h.size, fun k hk ho => h.block k hk fun e => ho (by injection e)⟩

set_option maxRecDepth 100000 in
set_option maxHeartbeats 4000000 in
theorem slotsLists_walk (g : Gr) (p : Ad) (w : World) (hl : g.lenOk) (hR : RG w g p) (hp : p.nz) (hw : Wy w) :
    Calls Tryd.prog 3 #[gv g p] w fun e w' => e = .returned (.bool true) ∧ Below w.heap.size w w' := by
  have cA := fun W hW => awake7_any W hW
  obtain ⟨i0, hi0, hz0, hz1, hz2⟩ := info_parts infoBool
  unfold gv
  have HG0 := Hs.new hR 24
  have hwb := hw.below hw.size (below_box w (.cells #[.int .i64 g.h, .int .i64 g.w, .slice p.a1 g.B.length p.c1, .slice p.a2 g.R.length p.c2, .slice p.a3 g.D.length p.c3] 24))
  have HP : Aside (p.nz ∧ g.lenOk) := ⟨hp, hl⟩
  clear hR hp hl
  go_enter Tryd.func3, Tryd.ntmps3
  go_wp2_with fail
  refine (cA _ hwb).mono ?_
  rintro e w1 ⟨rfl, hb1⟩
  have HG1 : Aside (Hs w1 w.heap.size g p) := HG0.keep hb1
  have HB1 : Aside (Below w.heap.size w w1) := (below_box w _).trans (hb1.mono (below_box w _).size)
  have HW1 : Aside (Wy w1) := hwb.below hwb.size hb1
  clear cA hb1 HG0 hwb
  go_wp2
  go_cut [3] from 18 to 34 (fun s3 wd => ∃ b q, s3 = .pointer (some ⟨b, 0, none⟩) ∧ Aside (Hs wd b g q ∧ Below w1.heap.size w1 wd))
  case first =>
    have hSS : ∀ W, Below w1.drew.heap.size w1.drew W → (W.cell? ⟨w.heap.size, 0, none⟩ = some (.int .i64 g.h) ∧ W.cell? ⟨w.heap.size, 1, none⟩ = some (.int .i64 g.w) ∧ W.cell? ⟨w.heap.size, 2, none⟩ = some (.slice p.a1 g.B.length p.c1) ∧ W.cell? ⟨w.heap.size, 3, none⟩ = some (.slice p.a2 g.R.length p.c2) ∧ W.cell? ⟨w.heap.size, 4, none⟩ = some (.slice p.a3 g.D.length p.c3)) := fun W h => by
      obtain ⟨_, k0, k1, k2, k3, k4⟩ := (HG1.out.keep (below_drew h)).bx
      exact ⟨k0, k1, k2, k3, k4⟩
    have hS0 := hSS w1.drew (Below.refl _ _)
    refine wp_region_held (S := fun W => W.cell? ⟨w.heap.size, 0, none⟩ = some (.int .i64 g.h) ∧ W.cell? ⟨w.heap.size, 1, none⟩ = some (.int .i64 g.w) ∧ W.cell? ⟨w.heap.size, 2, none⟩ = some (.slice p.a1 g.B.length p.c1) ∧ W.cell? ⟨w.heap.size, 3, none⟩ = some (.slice p.a2 g.R.length p.c2) ∧ W.cell? ⟨w.heap.size, 4, none⟩ = some (.slice p.a3 g.D.length p.c3)) (by kernel_rfl) ?_
    refine (show wpAnyH _ .any _ _ _ 19 (Array.replicate 19 false) _ w1.drew from ?_)
    refine takeD (i := 0) (d := 18) (v := .pointer (some ⟨w.heap.size, 0, none⟩)) rfl (by kernel_rfl) (by kernel_rfl) (by kernel_rfl) (fun _ _ _ h => h) (fun oi ho => yields_now ho rfl fun W hSw => ?_) hS0 ?_
    · obtain ⟨k0, k1, k2, k3, k4⟩ := hSw
      go_simp
    simp only [Act.put, List.setIfInBounds_toArray, List.set_cons_zero, List.set_cons_succ]
    refine takeD (i := 1) (d := 19) (v := .int .i64 g.h) rfl (by kernel_rfl) (by kernel_rfl) (by kernel_rfl) (fun _ _ _ h => h) (fun oi ho => yields_now ho rfl fun W hSw => ?_) hS0 ?_
    · obtain ⟨k0, k1, k2, k3, k4⟩ := hSw
      go_simp
    simp only [Act.put, List.setIfInBounds_toArray, List.set_cons_zero, List.set_cons_succ]
    refine takeD (i := 2) (d := 20) (v := .pointer (some ⟨w.heap.size, 1, none⟩)) rfl (by kernel_rfl) (by kernel_rfl) (by kernel_rfl) (fun _ _ _ h => h) (fun oi ho => yields_now ho rfl fun W hSw => ?_) hS0 ?_
    · obtain ⟨k0, k1, k2, k3, k4⟩ := hSw
      go_simp
    simp only [Act.put, List.setIfInBounds_toArray, List.set_cons_zero, List.set_cons_succ]
    refine takeD (i := 3) (d := 21) (v := .int .i64 g.w) rfl (by kernel_rfl) (by kernel_rfl) (by kernel_rfl) (fun _ _ _ h => h) (fun oi ho => yields_now ho rfl fun W hSw => ?_) hS0 ?_
    · obtain ⟨k0, k1, k2, k3, k4⟩ := hSw
      go_simp
    simp only [Act.put, List.setIfInBounds_toArray, List.set_cons_zero, List.set_cons_succ]
    refine takeD (i := 5) (d := 23) (v := .pointer (some ⟨w.heap.size, 2, none⟩)) rfl (by kernel_rfl) (by kernel_rfl) (by kernel_rfl) (fun _ _ _ h => h) (fun oi ho => yields_now ho rfl fun W hSw => ?_) hS0 ?_
    · obtain ⟨k0, k1, k2, k3, k4⟩ := hSw
      go_simp
    simp only [Act.put, List.setIfInBounds_toArray, List.set_cons_zero, List.set_cons_succ]
    refine takeD (i := 6) (d := 24) (v := .slice p.a1 g.B.length p.c1) rfl (by kernel_rfl) (by kernel_rfl) (by kernel_rfl) (fun _ _ _ h => h) (fun oi ho => yields_now ho rfl fun W hSw => ?_) hS0 ?_
    · obtain ⟨k0, k1, k2, k3, k4⟩ := hSw
      go_simp
    simp only [Act.put, List.setIfInBounds_toArray, List.set_cons_zero, List.set_cons_succ]
    refine takeD (i := 9) (d := 27) (v := .pointer (some ⟨w.heap.size, 3, none⟩)) rfl (by kernel_rfl) (by kernel_rfl) (by kernel_rfl) (fun _ _ _ h => h) (fun oi ho => yields_now ho rfl fun W hSw => ?_) hS0 ?_
    · obtain ⟨k0, k1, k2, k3, k4⟩ := hSw
      go_simp
    simp only [Act.put, List.setIfInBounds_toArray, List.set_cons_zero, List.set_cons_succ]
    refine takeD (i := 10) (d := 28) (v := .slice p.a2 g.R.length p.c2) rfl (by kernel_rfl) (by kernel_rfl) (by kernel_rfl) (fun _ _ _ h => h) (fun oi ho => yields_now ho rfl fun W hSw => ?_) hS0 ?_
    · obtain ⟨k0, k1, k2, k3, k4⟩ := hSw
      go_simp
    simp only [Act.put, List.setIfInBounds_toArray, List.set_cons_zero, List.set_cons_succ]
    refine takeD (i := 13) (d := 31) (v := .pointer (some ⟨w.heap.size, 4, none⟩)) rfl (by kernel_rfl) (by kernel_rfl) (by kernel_rfl) (fun _ _ _ h => h) (fun oi ho => yields_now ho rfl fun W hSw => ?_) hS0 ?_
    · obtain ⟨k0, k1, k2, k3, k4⟩ := hSw
      go_simp
    simp only [Act.put, List.setIfInBounds_toArray, List.set_cons_zero, List.set_cons_succ]
    refine takeD (i := 14) (d := 32) (v := .slice p.a3 g.D.length p.c3) rfl (by kernel_rfl) (by kernel_rfl) (by kernel_rfl) (fun _ _ _ h => h) (fun oi ho => yields_now ho rfl fun W hSw => ?_) hS0 ?_
    · obtain ⟨k0, k1, k2, k3, k4⟩ := hSw
      go_simp
    simp only [Act.put, List.setIfInBounds_toArray, List.set_cons_zero, List.set_cons_succ]
    have HN := HP.out.1
    refine apps_any (w0 := w1.drew) i0 hi0 hz0 hz1 hz2 rfl rfl rfl rfl rfl rfl rfl ⟨rfl, rfl⟩ ⟨rfl, rfl⟩ ⟨rfl, rfl⟩ ⟨rfl, rfl⟩ ⟨rfl, rfl⟩ ⟨rfl, rfl⟩ ⟨rfl, rfl⟩ ?b4 ?b8 ?b12 ?b17 rfl rfl rfl (by simp) (by kernel_rfl) g.B g.R g.D p.a1 p.a2 p.a3 p.c1 p.c2 p.c3 rfl rfl rfl ?n1 ?n2 ?n3 ?l1 ?l2 ?l3 ?r1 ?r2 ?r3 hSS ?hfin 7 ⟨false, false, false, false, false, false, false⟩ ⟨undef, undef, undef, undef, undef, undef, undef⟩ w1.drew rfl ?kp
    case b4 => intro ev W; go_simp
    case b8 => intro ev W; go_simp
    case b12 => intro ev W; go_simp
    case b17 => intro ev W; go_simp
    case n1 => exact HN.1
    case n2 => exact HN.2.1
    case n3 => exact HN.2.2
    case l1 => exact HP.out.2.1
    case l2 => exact HP.out.2.2.1
    case l3 => exact HP.out.2.2.2
    case r1 => exact (HG1.out.rg.b.below (Below.drew (Below.refl _ _)))
    case r2 => exact (HG1.out.rg.r.below (Below.drew (Below.refl _ _)))
    case r3 => exact (HG1.out.rg.d.below (Below.drew (Below.refl _ _)))
    case kp => exact ⟨rfl, Below.refl _ _, (fun h => nomatch h), (fun h => nomatch h), (fun h => nomatch h), (fun h => nomatch h), (fun h => nomatch h), (fun h => nomatch h), (fun h => nomatch h)⟩
    case hfin =>
      intro V W c hk
      obtain ⟨V1, V2, V3, V4, V5, V6, V7⟩ := V
      obtain ⟨q1, d1, e1, t1⟩ := hk.v1 rfl
      obtain ⟨q2, d2, e2, t2⟩ := hk.v2 rfl
      obtain ⟨q3, d3, e3, t3⟩ := hk.v3 rfl
      have hbw := hk.bw
      dsimp only at e1 e2 e3
      subst e1 e2 e3
      have hSW := hSS W hbw
      cases c with
      | true =>
        obtain ⟨b, e4, hlb, hF⟩ := hk.c rfl
        dsimp only at e4
        subst e4
        clear hk
        refine (show wpAnyH _ .any _ _ _ 2 _ _ W from ?_)
        simp only [Fl.act, puti, if_true, Act.put, Fl.L, List.setIfInBounds_toArray, List.set_cons_zero, List.set_cons_succ]
        refine takeD (i := 16) (d := 34) (v := .agg #[.int .i64 g.h, .int .i64 g.w, .slice q1 g.B.length d1, .slice q2 g.R.length d2, .slice q3 g.D.length d3]) rfl (by kernel_rfl) (by kernel_rfl) (by kernel_rfl) (fun _ _ _ h => h) (fun oi ho => yields_now ho rfl fun W hSw => ?_) hSW ?_
        · go_simp
        simp only [Act.put, List.setIfInBounds_toArray, List.set_cons_zero, List.set_cons_succ]
        refine wpAnyH_all (rs := [18]) (by kernel_rfl) (by simp) (fun i hi => ?_)
        obtain rfl := List.mem_singleton.1 hi
        have z0 := hF.c0
        have z1 := hF.c1
        have z2 := hF.c2
        have z3 := hF.c3
        have z4 := hF.c4
        have f0 := hF.fr 0
        have f1 := hF.fr 1
        have f2 := hF.fr 2
        have f3 := hF.fr 3
        have f4 := hF.fr 4
        have hB5 := Below.all hbw hlb hbw.size (.int .i64 g.h) (.int .i64 g.w) (.slice q1 g.B.length d1) (.slice q2 g.R.length d2) (.slice q3 g.D.length d3)
        refine wpOp_skip (w' := st5 W b (.int .i64 g.h) (.int .i64 g.w) (.slice q1 g.B.length d1) (.slice q2 g.R.length d2) (.slice q3 g.D.length d3)) rfl rfl rfl ?_ ⟨hSS _ hB5, wpAnyH_done (by kernel_rfl) ?_ _⟩
        · unfold st5
          go_simp
        refine ‹∀ (a' : Act) (w' : World), Met _ a' w' → _› _ _ ?_
        have HE : Aside (Hs (st5 W b (.int .i64 g.h) (.int .i64 g.w) (.slice q1 g.B.length d1) (.slice q2 g.R.length d2) (.slice q3 g.D.length d3)) b g ⟨q1, d1, q2, d2, q3, d3⟩ ∧ Below w1.heap.size w1 (st5 W b (.int .i64 g.h) (.int .i64 g.w) (.slice q1 g.B.length d1) (.slice q2 g.R.length d2) (.slice q3 g.D.length d3))) := ⟨Hs.made (p := ⟨q1, d1, q2, d2, q3, d3⟩) ⟨t1, t2, t3⟩ hF, below_drew hB5⟩
        go_meet
        exact ⟨_, ⟨q1, d1, q2, d2, q3, d3⟩, rfl, HE⟩
      | false =>
        clear hk
        refine (show wpAnyH _ .any _ _ _ 3 _ _ W from ?_)
        simp only [Fl.act, puti, if_true, Bool.false_eq_true, if_false, Act.put, Fl.L, List.setIfInBounds_toArray, List.set_cons_zero, List.set_cons_succ]
        refine takeD (i := 16) (d := 34) (v := .agg #[.int .i64 g.h, .int .i64 g.w, .slice q1 g.B.length d1, .slice q2 g.R.length d2, .slice q3 g.D.length d3]) rfl (by kernel_rfl) (by kernel_rfl) (by kernel_rfl) (fun _ _ _ h => h) (fun oi ho => yields_now ho rfl fun W hSw => ?_) hSW ?_
        · go_simp
        simp only [Act.put, List.setIfInBounds_toArray, List.set_cons_zero, List.set_cons_succ]
        refine wpAnyH_all (rs := [17]) (by kernel_rfl) (by simp) (fun i hi => ?_)
        obtain rfl := List.mem_singleton.1 hi
        have hbx := below_box W (.cells #[.int .i64 0, .int .i64 0, .slice none 0 0, .slice none 0 0, .slice none 0 0] 24)
        have hbw2 := hbw.trans (hbx.mono hbw.size)
        have hlb := hbw.size
        have hF : Five (W.alloc (.cells #[.int .i64 0, .int .i64 0, .slice none 0 0, .slice none 0 0, .slice none 0 0] 24)) W.heap.size (.int .i64 0) (.int .i64 0) (.slice none 0 0) (.slice none 0 0) (.slice none 0 0) := ⟨hp_at rfl⟩
        refine wpOp_val (v := .pointer (some ⟨W.heap.size, 0, none⟩)) (w' := W.alloc (.cells #[.int .i64 0, .int .i64 0, .slice none 0 0, .slice none 0 0, .slice none 0 0] 24)) rfl rfl ?_ ⟨hSS _ hbw2, ?_⟩
        · go_simp
        simp only [Act.put, List.setIfInBounds_toArray, List.set_cons_zero, List.set_cons_succ]
        have u1 := t1.below hbx
        have u2 := t2.below hbx
        have u3 := t3.below hbx
        generalize W.alloc (.cells #[.int .i64 0, .int .i64 0, .slice none 0 0, .slice none 0 0, .slice none 0 0] 24) = W2 at *
        generalize W.heap.size = b at *
        refine wpAnyH_all (rs := [18]) (by kernel_rfl) (by simp) (fun i hi => ?_)
        obtain rfl := List.mem_singleton.1 hi
        have z0 := hF.c0
        have z1 := hF.c1
        have z2 := hF.c2
        have z3 := hF.c3
        have z4 := hF.c4
        have f0 := hF.fr 0
        have f1 := hF.fr 1
        have f2 := hF.fr 2
        have f3 := hF.fr 3
        have f4 := hF.fr 4
        have hB5 := Below.all hbw2 hlb hbw2.size (.int .i64 g.h) (.int .i64 g.w) (.slice q1 g.B.length d1) (.slice q2 g.R.length d2) (.slice q3 g.D.length d3)
        refine wpOp_skip (w' := st5 W2 b (.int .i64 g.h) (.int .i64 g.w) (.slice q1 g.B.length d1) (.slice q2 g.R.length d2) (.slice q3 g.D.length d3)) rfl rfl rfl ?_ ⟨hSS _ hB5, wpAnyH_done (by kernel_rfl) ?_ _⟩
        · unfold st5
          go_simp
        refine ‹∀ (a' : Act) (w' : World), Met _ a' w' → _› _ _ ?_
        have HE : Aside (Hs (st5 W2 b (.int .i64 g.h) (.int .i64 g.w) (.slice q1 g.B.length d1) (.slice q2 g.R.length d2) (.slice q3 g.D.length d3)) b g ⟨q1, d1, q2, d2, q3, d3⟩ ∧ Below w1.heap.size w1 (st5 W2 b (.int .i64 g.h) (.int .i64 g.w) (.slice q1 g.B.length d1) (.slice q2 g.R.length d2) (.slice q3 g.D.length d3))) := ⟨Hs.made (p := ⟨q1, d1, q2, d2, q3, d3⟩) ⟨u1, u2, u3⟩ hF, below_drew hB5⟩
        go_meet
        exact ⟨_, ⟨q1, d1, q2, d2, q3, d3⟩, rfl, HE⟩
  case rest =>
  clear i0 hi0 hz0 hz1 hz2
  rename World => w2
  obtain ⟨b, q, rfl, HE⟩ := hcut
  have HB2 : Aside (Below w.heap.size w w2) := HB1.out.trans (HE.out.2.mono HB1.out.size)
  have HG2 : Aside (Hs w2 w.heap.size g p) := HG1.out.keep HE.out.2
  have HI2 : Aside (Hs w2 b g q) := HE.out.1
  have HW2 : Aside (Wy w2) := HW1.out.below HW1.out.size HE.out.2
  clear HE HG1 HB1 HW1
  have HLL : Aside (g.sl.length ≤ 1024 ∧ ∀ (k : Nat) (s : Sl), g.sl[k]? = some s → s.cs.length ≤ 257) := ⟨Nat.le_trans g.sl_len (by omega), fun k s h => Gr.sl_cs h⟩
  have HM : Aside (g.m ≤ 256) := g.m_le
  obtain ⟨⟨_, k0, k1, k2, k3, k4⟩, _⟩ := HI2.out
  have cL := List_any g q w2 HW2.out HI2.out.rg
  unfold gv at cL
  go_wp2_with fail
  refine cL.mono ?_
  rintro e w3 ⟨v, us, rfl, hO, hb3⟩
  obtain ⟨ao, cap, rfl, hRL⟩ := hO.read
  have HO3 : Aside (OwnL w3 w2.heap.size (.slice ao g.sl.length cap) g.sl us) := hO
  have HR3 : Aside (ReadsL w3 ao g.sl) := hRL
  have HB23 : Aside (Below w2.heap.size w2 w3) := hb3
  have HB3 : Aside (Below w.heap.size w w3) := HB2.out.trans (hb3.mono HB2.out.size)
  have HG3 : Aside (Hs w3 w.heap.size g p) := HG2.out.keep hb3
  have HI3 : Aside (Hs w3 b g q) := HI2.out.keep hb3
  have HW3 : Aside (Wy w3) := HW2.out.below HW2.out.size hb3
  clear cL hb3 hO hRL k0 k1 k2 k3 k4 HG2
  obtain ⟨⟨_, k0, k1, k2, k3, k4⟩, _⟩ := HG3.out
  have cL := refList_any g p w3 HG3.out.rg
  unfold gv at cL
  go_wp2_with fail
  refine cL.mono ?_
  rintro e w4 ⟨v, us2, rfl, hO, hb4⟩
  obtain ⟨ao2, cap2, rfl, hRL⟩ := hO.read
  have HR4 : Aside (ReadsL w4 ao2 g.sl) := hRL
  have HO4 : Aside (OwnL w4 w3.heap.size (.slice ao2 g.sl.length cap2) g.sl us2) := hO
  have HB34 : Aside (Below w3.heap.size w3 w4) := hb4
  have HG4 : Aside (Hs w4 w.heap.size g p) := HG3.out.keep hb4
  have HI4 : Aside (Hs w4 b g q) := HI3.out.keep hb4
  have HW4 : Aside (Wy w4) := HW3.out.below HW3.out.size hb4
  clear cL hb4 hO hRL k0 k1 k2 k3 k4 HG3 HI3 HW3
  have cL := refSameL_any g.sl HLL.out.1 HLL.out.2 ao ao2 cap cap2 w4 (HR3.out.below HB34.out) HR4.out
  go_wp2_with fail
  refine cL.mono ?_
  rintro e w5 ⟨rfl, hb5⟩
  have HB45 : Aside (Below w4.heap.size w4 w5) := hb5
  have HG5 : Aside (Hs w5 w.heap.size g p) := HG4.out.keep hb5
  have HI5 : Aside (Hs w5 b g q) := HI4.out.keep hb5
  have HW5 : Aside (Wy w5) := HW4.out.below HW4.out.size hb5
  clear cL hb5 HG4 HI4 HW4
  obtain ⟨⟨_, k0, k1, k2, k3, k4⟩, _⟩ := HI5.out
  have cL := Seats_any g q w5 HW5.out HI5.out.rg
  unfold gv at cL
  go_wp2_with fail
  refine cL.mono ?_
  rintro e w6 ⟨va, vd, rfl, hO, hb6⟩
  have HO6 : Aside (OwnS w6 w5.heap.size va vd g) := hO
  have HB56 : Aside (Below w5.heap.size w5 w6) := hb6
  have HG6 : Aside (Hs w6 w.heap.size g p) := HG5.out.keep hb6
  have HI6 : Aside (Hs w6 b g q) := HI5.out.keep hb6
  have HW6 : Aside (Wy w6) := HW5.out.below HW5.out.size hb6
  obtain ⟨a1, c1, rfl, hRa⟩ := row_readsS hO.ra
  obtain ⟨a2, c2, rfl, hRd⟩ := row_readsS hO.rd
  have HRa : Aside (ReadsS w6 a1 (fun i => seatV (g.seat false i)) g.m) := hRa
  have HRd : Aside (ReadsS w6 a2 (fun i => seatV (g.seat true i)) g.m) := hRd
  clear cL hb6 hO hRa hRd k0 k1 k2 k3 k4 HG5 HI5 HW5
  obtain ⟨⟨_, k0, k1, k2, k3, k4⟩, _⟩ := HG6.out
  have cL := refSeats_any g p w6 HG6.out.rg
  unfold gv at cL
  go_wp2_with fail
  refine cL.mono ?_
  rintro e w7 ⟨va, vd, rfl, hO, hb7⟩
  obtain ⟨a3, c3, rfl, hRx⟩ := row_readsS hO.ra
  obtain ⟨a4, c4, rfl, hRy⟩ := row_readsS hO.rd
  have HRx : Aside (ReadsS w7 a3 (fun i => seatV (g.seat false i)) g.m) := hRx
  have HRy : Aside (ReadsS w7 a4 (fun i => seatV (g.seat true i)) g.m) := hRy
  have HT7 : Aside (TwoR w7 w6.heap.size (.slice a3 g.m c3) (.slice a4 g.m c4) g g.m g.m) := hO
  have HB67 : Aside (Below w6.heap.size w6 w7) := hb7
  have HG7 : Aside (Hs w7 w.heap.size g p) := HG6.out.keep hb7
  have HI7 : Aside (Hs w7 b g q) := HI6.out.keep hb7
  have HW7 : Aside (Wy w7) := HW6.out.below HW6.out.size hb7
  clear cL hb7 hO hRx hRy k0 k1 k2 k3 k4 HG6 HI6 HW6
  go_wp2_with fail
  refine (refSameS_any g.m HM.out a1 a3 c1 c3 _ w7 (HRa.out.below HB67.out) HRx.out).mono ?_
  rintro e w8 ⟨rfl, hb8⟩
  have HB78 : Aside (Below w7.heap.size w7 w8) := hb8
  have HG8 : Aside (Hs w8 w.heap.size g p) := HG7.out.keep hb8
  have HI8 : Aside (Hs w8 b g q) := HI7.out.keep hb8
  have HW8 : Aside (Wy w8) := HW7.out.below HW7.out.size hb8
  clear hb8 HG7 HI7 HW7
  go_wp2_with fail
  refine (refSameS_any g.m HM.out a2 a4 c2 c4 _ w8 ((HRd.out.below HB67.out).below HB78.out) (HRy.out.below HB78.out)).mono ?_
  rintro e w9 ⟨rfl, hb9⟩
  have HB89 : Aside (Below w8.heap.size w8 w9) := hb9
  have HG9 : Aside (Hs w9 w.heap.size g p) := HG8.out.keep hb9
  have HI9 : Aside (Hs w9 b g q) := HI8.out.keep hb9
  have HW9 : Aside (Wy w9) := HW8.out.below HW8.out.size hb9
  clear hb9 HG8 HI8 HW8
  obtain ⟨⟨_, k0, k1, k2, k3, k4⟩, _⟩ := HG9.out
  obtain ⟨⟨_, j0, j1, j2, j3, j4⟩, _⟩ := HI9.out
  have cS := refSame_any g g q p w9 HP.out.2 HI9.out.rg HG9.out.rg
  rw [Gr.same_refl] at cS
  unfold gv at cS
  go_wp2_with fail
  refine cS.mono ?_
  rintro e w10 ⟨rfl, hb10⟩
  have HB910 : Aside (Below w9.heap.size w9 w10) := hb10
  have HG10 : Aside (Hs w10 w.heap.size g p) := HG9.out.keep hb10
  have HI10 : Aside (Hs w10 b g q) := HI9.out.keep hb10
  have HW10 : Aside (Wy w10) := HW9.out.below HW9.out.size hb10
  clear cS hb10 HG9 HI9 HW9 k0 k1 k2 k3 k4 j0 j1 j2 j3 j4
  have HCP : Aside (∀ (k : Nat) (s : Sl), g.sl[k]? = some s → 0 < s.cs.length ∧ s.cs.length ≤ 257) := fun k s h => ⟨by have := (Gr.sl_good h).2.1; omega, (Gr.sl_good h).2.2.1⟩
  obtain ⟨F0, hF0⟩ : ∃ f, OwnM w3 w2.heap.size (.slice ao g.sl.length cap) g.sl us f := ⟨_, HO3.out.any⟩
  have HF0 : Aside (OwnM w10 w2.heap.size (.slice ao g.sl.length cap) g.sl us F0) := (((((((hF0.keep HB34.out).keep HB45.out).keep HB56.out).keep HB67.out).keep HB78.out).keep HB89.out).keep HB910.out)
  have HLT : Aside (∀ (k : Nat) gb n c, us[k]? = some (.slice (some ⟨gb, 0, none⟩) n c) → k < g.sl.length → w2.heap.size ≤ gb ∧ gb < w3.heap.size) := fun k gb n c h hk => (hF0.each k _ _ (List.getElem?_eq_getElem hk) h).lt gb rfl
  have HO10 : Aside (OwnL w10 w3.heap.size (.slice ao2 g.sl.length cap2) g.sl us2) := ((((((HO4.out.keep HB45.out).keep HB56.out).keep HB67.out).keep HB78.out).keep HB89.out).keep HB910.out)
  clear hF0
  go_wp2
  go_loopg [71] g.sl.length (fun g1 iv wr => ∃ k : Nat, iv = .int .i64 (k : Int) ∧ k ≤ g.sl.length ∧ g.sl.length - k ≤ g1 ∧ Aside (Dif (fun x => w2.heap.size ≤ x ∧ x < w3.heap.size) w10 wr) ∧ Aside (OwnM wr w2.heap.size (.slice ao g.sl.length cap) g.sl us (fun i j => if i < k then -5 - (i : Int) else F0 i j)))
  case atStart => exact ⟨0, rfl, Nat.zero_le _, Nat.le_refl _, Dif.refl _ _, by show OwnM _ _ _ _ _ _; simpa using HF0.out⟩
  case round =>
    obtain ⟨k, rfl, hk, hg, HD, HO⟩ := hrel
    have HLK : Aside (g.sl.length ≤ 1024) := HLL.out.1
    by_cases hlt : k < g.sl.length
    · have hltz : (k : Int) < (g.sl.length : Int) := by omega
      have hs : g.sl[k]? = some (g.sl[k]'hlt) := List.getElem?_eq_getElem hlt
      generalize g.sl[k]'hlt = s at hs
      obtain ⟨hc0, hc1⟩ := HCP.out k s hs
      obtain ⟨b0, gb, c0, e, x0, hu, _, hne⟩ := HO.out.slot hs hc0
      subst e
      have hb1 := HO.out.row.lt b0 rfl
      have HS : Aside (g.sl[k]? = some s ∧ us[k]? = some (.slice (some ⟨gb, 0, none⟩) s.cs.length c0) ∧ b0 ≠ gb) := ⟨hs, hu, hne⟩
      have HSB : Aside (w2.heap.size ≤ gb ∧ gb < w3.heap.size) := HLT.out k gb _ _ hu hlt
      have hk1 : g.sl.length ≤ 1024 := HLK.out
      have HO0 : Aside (OwnM wr w2.heap.size (.slice (some ⟨b0, 0, none⟩) g.sl.length cap) g.sl us (fun i l => if i < k ∨ (i = k ∧ l < 0) then -5 - (i : Int) else F0 i l)) := HO.out.congr (fun i t l _ _ => by
        by_cases h : i < k
        · rw [if_pos h, if_pos (Or.inl h)]
        · rw [if_neg h, if_neg (by omega)])
      clear hs hu hne HO
      go_wp2
      generalize wr = w11 at *
      go_loopg [80] s.cs.length (fun g2 jv wr => ∃ j : Nat, jv = .int .i64 (j : Int) ∧ j ≤ s.cs.length ∧ s.cs.length - j ≤ g2 ∧ Aside (Dif (fun x => w2.heap.size ≤ x ∧ x < w3.heap.size) w10 wr) ∧ Aside (OwnM wr w2.heap.size (.slice (some ⟨b0, 0, none⟩) g.sl.length cap) g.sl us (fun i l => if i < k ∨ (i = k ∧ l < j) then -5 - (i : Int) else F0 i l)))
      case atStart => exact ⟨0, rfl, Nat.zero_le _, Nat.le_refl _, HD, HO0⟩
      case round =>
        obtain ⟨j, rfl, hj, hg2, HD2, HO2⟩ := hrel
        by_cases hlt2 : j < s.cs.length
        · have hltz2 : (j : Int) < (s.cs.length : Int) := by omega
          obtain ⟨b1, gb1, c1', e1, x1, hu1, hr1, hne1⟩ := HO2.out.slot HS.out.1 hc0
          cases e1
          have e2 := hu1.symm.trans HS.out.2.1
          simp only [Option.some.injEq, Value.slice.injEq, Addr.mk.injEq, and_true, true_and] at e2
          obtain ⟨rfl, rfl⟩ := e2
          have y0 := hr1.cellAt j (by omega)
          rw [cellsN_at hlt2] at y0
          have f0 := hr1.frozenAt j
          have HN : Aside (OwnM (wr.setCell ⟨gb1, j, none⟩ (.int .i64 (-5 - (k : Int)))) w2.heap.size (.slice (some ⟨b0, 0, none⟩) g.sl.length cap) g.sl us (fun i l => if i < k ∨ (i = k ∧ l < j + 1) then -5 - (i : Int) else F0 i l)) := HO2.out.put HS.out.1 HS.out.2.1 (fun i l => by
            by_cases h : i = k ∧ l = j
            · obtain ⟨rfl, rfl⟩ := h
              rw [if_pos ⟨rfl, rfl⟩, if_pos (Or.inr ⟨rfl, by omega⟩)]
            · rw [if_neg h]
              by_cases h2 : i < k ∨ (i = k ∧ l < j)
              · rw [if_pos h2, if_pos (by omega)]
              · rw [if_neg h2, if_neg (by omega)])
          have HDN : Aside (Dif (fun x => w2.heap.size ≤ x ∧ x < w3.heap.size) w10 (wr.setCell ⟨gb1, j, none⟩ (.int .i64 (-5 - (k : Int))))) := HD2.out.set gb1 j _ HSB.out
          have hb1 := HO2.out.row.lt b0 rfl
          clear hu1 hr1 HO2 HD2
          go_wp2
          go_roundg (s.cs.length - (j + 1))
          case measure => omega
          case rel => exact ⟨j + 1, by go_num, by omega, Nat.le_refl _, HDN, HN⟩
        · have hltz2 : ¬ (j : Int) < (s.cs.length : Int) := by omega
          obtain rfl : j = s.cs.length := by omega
          obtain ⟨b1, gb1, c1', e1, x1, hu1, hr1, hne1⟩ := HO2.out.slot HS.out.1 hc0
          cases e1
          have HR1 : Aside (us[k]? = some (.slice (some ⟨gb1, 0, none⟩) s.cs.length c1') ∧ wr.ownsRow w2.heap.size 3 1 (.slice (some ⟨gb1, 0, none⟩) s.cs.length c1') s.cs.length _) := ⟨hu1, hr1⟩
          clear hu1 hr1
          go_wp2
          have HOw := HO10.out.dif HD2.out (fun x h1 _ h2 => by omega)
          obtain ⟨aw, cw, ew, hRw⟩ := HOw.read
          cases ew
          obtain ⟨b2, p2, d2, e2, hb2, _, _, y2, _⟩ := hRw k s HS.out.1
          subst e2
          have hbw := HOw.row.lt b2 rfl
          have hgb := (HLT.out k gb1 _ _ HR1.out.1 hlt)
          have hne2 : gb1 ≠ b2 := by omega
          have hb0l := (HO2.out.row.lt b0 rfl).2
          obtain ⟨i0, hi0, hz0, hz1, hz2⟩ := info_parts infoInt
          go_cut [108] from 93 to 107 (fun s108 wd => s108 = .bool false ∧ Aside (Dif (fun x => w2.heap.size ≤ x ∧ x < w3.heap.size) w10 wd ∧ OwnM wd w2.heap.size (.slice (some ⟨b0, 0, none⟩) g.sl.length cap) g.sl us (fun i l => if i < k + 1 then -5 - (i : Int) else F0 i l)))
          case first =>
            have hSS : ∀ W, Dif (fun x => x = gb1) wr.drew W → (W.cell? ⟨b0, k * 3 + 2, none⟩ = some (.slice (some ⟨gb1, 0, none⟩) s.cs.length c1') ∧ W.cell? ⟨b2, k * 3 + 2, none⟩ = some (.slice p2 s.cs.length d2)) := fun W h => ⟨(h.cell (p := ⟨b0, k * 3 + 2, none⟩) hb0l hne1).trans x1, (h.cell (p := ⟨b2, k * 3 + 2, none⟩) hb2 (Ne.symm hne2)).trans y2⟩
            have hSW := hSS wr.drew (Dif.refl _ _)
            have hxx := HR1.out.2
            refine wp_region_held (S := fun W => W.cell? ⟨b0, k * 3 + 2, none⟩ = some (.slice (some ⟨gb1, 0, none⟩) s.cs.length c1') ∧ W.cell? ⟨b2, k * 3 + 2, none⟩ = some (.slice p2 s.cs.length d2)) (by kernel_rfl) ?_
            refine (show wpAnyH _ .any _ _ _ 16 (Array.replicate 16 false) _ wr.drew from ?_)
            refine takeD (i := 0) (d := 93) (v := .slice (some ⟨b0, 0, none⟩) g.sl.length cap) rfl (by kernel_rfl) (by kernel_rfl) (by kernel_rfl) (fun _ _ _ h => h) (fun oi ho => yields_now ho rfl fun W hSw => ?_) hSW ?_
            · obtain ⟨s1, s2⟩ := hSw
              go_simp
            simp only [Act.put, List.setIfInBounds_toArray, List.set_cons_zero, List.set_cons_succ]
            refine takeD (i := 1) (d := 94) (v := .int .i64 (k : Int)) rfl (by kernel_rfl) (by kernel_rfl) (by kernel_rfl) (fun _ _ _ h => h) (fun oi ho => yields_now ho rfl fun W hSw => ?_) hSW ?_
            · obtain ⟨s1, s2⟩ := hSw
              go_simp
            simp only [Act.put, List.setIfInBounds_toArray, List.set_cons_zero, List.set_cons_succ]
            refine takeD (i := 2) (d := 95) (v := .pointer (some ⟨b0, k * 3, none⟩)) rfl (by kernel_rfl) (by kernel_rfl) (by kernel_rfl) (fun _ _ _ h => h) (fun oi ho => yields_now ho rfl fun W hSw => ?_) hSW ?_
            · obtain ⟨s1, s2⟩ := hSw
              go_simp
            simp only [Act.put, List.setIfInBounds_toArray, List.set_cons_zero, List.set_cons_succ]
            refine takeD (i := 3) (d := 96) (v := .pointer (some ⟨b0, k * 3 + 2, none⟩)) rfl (by kernel_rfl) (by kernel_rfl) (by kernel_rfl) (fun _ _ _ h => h) (fun oi ho => yields_now ho rfl fun W hSw => ?_) hSW ?_
            · obtain ⟨s1, s2⟩ := hSw
              go_simp
            simp only [Act.put, List.setIfInBounds_toArray, List.set_cons_zero, List.set_cons_succ]
            refine takeD (i := 4) (d := 97) (v := .slice (some ⟨gb1, 0, none⟩) s.cs.length c1') rfl (by kernel_rfl) (by kernel_rfl) (by kernel_rfl) (fun _ _ _ h => h) (fun oi ho => yields_now ho rfl fun W hSw => ?_) hSW ?_
            · obtain ⟨s1, s2⟩ := hSw
              go_simp
            simp only [Act.put, List.setIfInBounds_toArray, List.set_cons_zero, List.set_cons_succ]
            refine takeD (i := 8) (d := 101) (v := .slice (some ⟨b2, 0, none⟩) g.sl.length cap2) rfl (by kernel_rfl) (by kernel_rfl) (by kernel_rfl) (fun _ _ _ h => h) (fun oi ho => yields_now ho rfl fun W hSw => ?_) hSW ?_
            · obtain ⟨s1, s2⟩ := hSw
              go_simp
            simp only [Act.put, List.setIfInBounds_toArray, List.set_cons_zero, List.set_cons_succ]
            refine takeD (i := 9) (d := 102) (v := .int .i64 (k : Int)) rfl (by kernel_rfl) (by kernel_rfl) (by kernel_rfl) (fun _ _ _ h => h) (fun oi ho => yields_now ho rfl fun W hSw => ?_) hSW ?_
            · obtain ⟨s1, s2⟩ := hSw
              go_simp
            simp only [Act.put, List.setIfInBounds_toArray, List.set_cons_zero, List.set_cons_succ]
            refine takeD (i := 10) (d := 103) (v := .pointer (some ⟨b2, k * 3, none⟩)) rfl (by kernel_rfl) (by kernel_rfl) (by kernel_rfl) (fun _ _ _ h => h) (fun oi ho => yields_now ho rfl fun W hSw => ?_) hSW ?_
            · obtain ⟨s1, s2⟩ := hSw
              go_simp
            simp only [Act.put, List.setIfInBounds_toArray, List.set_cons_zero, List.set_cons_succ]
            refine takeD (i := 11) (d := 104) (v := .pointer (some ⟨b2, k * 3 + 2, none⟩)) rfl (by kernel_rfl) (by kernel_rfl) (by kernel_rfl) (fun _ _ _ h => h) (fun oi ho => yields_now ho rfl fun W hSw => ?_) hSW ?_
            · obtain ⟨s1, s2⟩ := hSw
              go_simp
            simp only [Act.put, List.setIfInBounds_toArray, List.set_cons_zero, List.set_cons_succ]
            refine takeD (i := 12) (d := 105) (v := .slice p2 s.cs.length d2) rfl (by kernel_rfl) (by kernel_rfl) (by kernel_rfl) (fun _ _ _ h => h) (fun oi ho => yields_now ho rfl fun W hSw => ?_) hSW ?_
            · obtain ⟨s1, s2⟩ := hSw
              go_simp
            simp only [Act.put, List.setIfInBounds_toArray, List.set_cons_zero, List.set_cons_succ]
            refine takeD (i := 13) (d := 106) (v := .int .i64 (s.cs.length : Int)) rfl (by kernel_rfl) (by kernel_rfl) (by kernel_rfl) (fun _ _ _ h => h) (fun oi ho => yields_now ho rfl fun W hSw => ?_) hSW ?_
            · obtain ⟨s1, s2⟩ := hSw
              go_simp
            simp only [Act.put, List.setIfInBounds_toArray, List.set_cons_zero, List.set_cons_succ]
            refine takeD (i := 14) (d := 107) (v := .int .i64 ((s.cs.length : Int) + 1)) rfl (by kernel_rfl) (by kernel_rfl) (by kernel_rfl) (fun _ _ _ h => h) (fun oi ho => yields_now ho rfl fun W hSw => ?_) hSW ?_
            · obtain ⟨s1, s2⟩ := hSw
              go_simp
              simp [IntKind.wrap, IntKind.signed, IntKind.bits]
              omega
            simp only [Act.put, List.setIfInBounds_toArray, List.set_cons_zero, List.set_cons_succ]
            refine wpAnyH_all (rs := [5]) (by kernel_rfl) (by simp) (fun i hi => ?_)
            obtain rfl := List.mem_singleton.1 hi
            have hbx := below_box wr.drew (.cells #[.int .i64 7] 3)
            have hSA := hSS (wr.drew.alloc (.cells #[.int .i64 7] 3)) (Dif.of_below hbx)
            refine wpOp_val (v := .slice (some ⟨wr.drew.heap.size, 0, none⟩) 1 1) (w' := wr.drew.alloc (.cells #[.int .i64 7] 3)) rfl rfl ?_ ⟨hSA, ?_⟩
            · go_simp
            simp only [Act.put, List.setIfInBounds_toArray]
            refine wpAnyH_all (rs := [6]) (by kernel_rfl) (by simp) (fun i hi => ?_)
            obtain rfl := List.mem_singleton.1 hi
            have hrow := row_keeps3 hxx ((Below.drew (Below.refl wr.heap.size wr)).alloc (Nat.le_refl _) (.cells #[.int .i64 7] 3))
            refine wpOp_wp rfl rfl (wp_append_keep (wr.drew.alloc (.cells #[.int .i64 7] 3)) (.tmp 97) (.tmp 98) 34 rfl w2.heap.size 3 i0 (.int .i64 0) 1 8 Tryd.underlying34 hi0 hz0 hz1 hz2 gb1 c1' s.cs.length _ rfl hrow ⟨wr.drew.heap.size, 0, none⟩ 1 1 [.int .i64 7] rfl rfl ?_ (by simp [Value.oneCell']) (by unfold maxLen; omega) (by omega) fun a' c' w' h2 h3 => ?_)
            · exact cell_one_new _ _ _
            have hD' : Dif (fun x => x = gb1) wr.drew w' := (Dif.of_below hbx).trans (Dif.of_grown h3)
            have hSD := hSS w' hD'
            refine ⟨hSD, ?_⟩
            simp only [Act.put]
            refine (show wpAnyH _ .any _ _ _ 2 _ _ w' from ?_)
            refine takeD (i := 7) (d := 100) (v := .int .i64 ((s.cs.length : Int) + 1)) rfl (by kernel_rfl) (by kernel_rfl) (by kernel_rfl) (fun _ _ _ h => h) (fun oi ho => yields_now ho rfl fun W hSw => ?_) hSD ?_
            · obtain ⟨s1, s2⟩ := hSw
              go_simp
            simp only [Act.put]
            refine takeD (i := 15) (d := 108) (v := .bool false) rfl (by kernel_rfl) (by kernel_rfl) (by kernel_rfl) (fun _ _ _ h => h) (fun oi ho => yields_now ho rfl fun W hSw => ?_) hSD ?_
            · obtain ⟨s1, s2⟩ := hSw
              go_simp
            simp only [Act.put]
            refine wpAnyH_done (by kernel_rfl) ?_ _
            refine ‹∀ (a' : Act) (w' : World), Met _ a' w' → _› _ _ ?_
            have HE : Aside (Dif (fun x => w2.heap.size ≤ x ∧ x < w3.heap.size) w10 w' ∧ OwnM w' w2.heap.size (.slice (some ⟨b0, 0, none⟩) g.sl.length cap) g.sl us (fun i l => if i < k + 1 then -5 - (i : Int) else F0 i l)) := by
              refine ⟨HD2.out.trans ((Dif.of_below (Below.drew (Below.refl wr.heap.size wr))).trans (hD'.mono fun x _ e => by rw [e]; exact hgb)), ?_⟩
              refine ((HO2.out.keep (Below.drew (Below.refl wr.heap.size wr))).keep hbx).change HS.out.1 HR1.out.1 rfl h3 ?_ ?_
              · have e : cellsN (fun l => if k < k ∨ (k = k ∧ l < s.cs.length) then -5 - (k : Int) else F0 k l) s.cs.length = cellsN (fun l => if k < k + 1 then -5 - (k : Int) else F0 k l) s.cs.length := cellsN_congr (fun l hl => by rw [if_pos (Or.inr ⟨rfl, hl⟩), if_pos (Nat.lt_succ_self k)])
                rw [← e]
                simpa using h2
              · intro i j hi
                by_cases e : i < k
                · rw [if_pos (Or.inl e), if_pos (by omega)]
                · rw [if_neg (by omega), if_neg (by omega)]
            go_meet
            exact ⟨rfl, HE⟩
          case rest =>
            rename World => w13
            obtain ⟨rfl, HE⟩ := hcut
            clear HO2 HD2
            go_wp2
            go_roundg (g.sl.length - (k + 1))
            case measure => omega
            case rel => exact ⟨k + 1, by go_num, by omega, Nat.le_refl _, HE.out.1, HE.out.2⟩
    · have hltz : ¬ (k : Int) < (g.sl.length : Int) := by omega
      obtain rfl : k = g.sl.length := by omega
      generalize wr = w11 at *
      have HF11 : Aside (OwnM w11 w2.heap.size (.slice ao g.sl.length cap) g.sl us (fun i j => if i < g.sl.length then -5 - (i : Int) else F0 i j)) := HO
      clear HO
      go_wp2
      go_loopg [112] g.sl.length (fun g1 iv wr => ∃ k : Nat, iv = .int .i64 (k : Int) ∧ k ≤ g.sl.length ∧ g.sl.length - k ≤ g1 ∧ Aside (Below w11.heap.size w11 wr))
      case atStart => exact ⟨0, rfl, Nat.zero_le _, Nat.le_refl _, Below.refl _ _⟩
      case round =>
        obtain ⟨k, rfl, hk, hg, HB⟩ := hrel
        by_cases hlt : k < g.sl.length
        · have hltz : (k : Int) < (g.sl.length : Int) := by omega
          have hs : g.sl[k]? = some (g.sl[k]'hlt) := List.getElem?_eq_getElem hlt
          generalize g.sl[k]'hlt = s at hs
          obtain ⟨hc0, hc1⟩ := HCP.out k s hs
          obtain ⟨b0, gb, c0, e, x0, hu, hr, hne⟩ := (HF11.out.keep HB.out).slot hs hc0
          subst e
          have HR : Aside (wr.ownsRow w2.heap.size 3 1 (.slice (some ⟨gb, 0, none⟩) s.cs.length c0) s.cs.length (cellsN (fun j => if k < g.sl.length then -5 - (k : Int) else F0 k j) s.cs.length)) := hr
          have hk1 : g.sl.length ≤ 1024 := HLK.out
          clear hs hu hr hne
          go_wp2
          generalize wr = w12 at *
          go_loopg [121] s.cs.length (fun g2 jv wr => ∃ j : Nat, jv = .int .i64 (j : Int) ∧ j ≤ s.cs.length ∧ s.cs.length - j ≤ g2 ∧ Aside (Below w12.heap.size w12 wr))
          case atStart => exact ⟨0, rfl, Nat.zero_le _, Nat.le_refl _, Below.refl _ _⟩
          case round =>
            obtain ⟨j, rfl, hj, hg2, HB2⟩ := hrel
            by_cases hlt2 : j < s.cs.length
            · have hltz2 : (j : Int) < (s.cs.length : Int) := by omega
              have y0 := (row_keeps3 HR.out HB2.out).cellAt j (by omega)
              rw [cellsN_at hlt2, if_pos hlt] at y0
              go_wp2
              go_roundg (s.cs.length - (j + 1))
              case measure => omega
              case rel => exact ⟨j + 1, by go_num, by omega, Nat.le_refl _, HB2.out⟩
            · have hltz2 : ¬ (j : Int) < (s.cs.length : Int) := by omega
              go_wp2
              go_roundg (g.sl.length - (k + 1))
              case measure => omega
              case rel => exact ⟨k + 1, by go_num, by omega, Nat.le_refl _, HB.out.trans (HB2.out.mono HB.out.size)⟩
        · have hltz : ¬ (k : Int) < (g.sl.length : Int) := by omega
          generalize wr = w14 at *
          have HBx : Aside (Below w11.heap.size w11 w14) := HB
          have HD6 : Aside (Dif (fun x => w2.heap.size ≤ x ∧ x < w3.heap.size) w6 w14) := (((((Dif.of_below HB67.out).trans (Dif.of_below HB78.out)).trans (Dif.of_below HB89.out)).trans (Dif.of_below HB910.out)).trans HD.out).trans (Dif.of_below HB.out)
          have HRW : Aside (∃ xs ys, w14.ownsRow w5.heap.size 38 2 (.slice a1 g.m c1) g.m xs ∧ w14.ownsRow w5.heap.size 38 2 (.slice a2 g.m c2) g.m ys) := by
            have z3 := HB34.out.size
            have z4 := HB45.out.size
            exact ⟨_, _, row_dif HO6.out.ra HD6.out (fun x h1 _ h2 => by omega), row_dif HO6.out.rd HD6.out (fun x h1 _ h2 => by omega)⟩
          have HAP : Aside (∀ j, (Value.slice a1 g.m c1).ownBlock = some j → (Value.slice a2 g.m c2).ownBlock ≠ some j) := HO6.out.ap
          clear HB hltz HF11
          go_wp2
          go_loopg [133] g.m (fun g1 iv wr => ∃ k : Nat, iv = .int .i64 (k : Int) ∧ k ≤ g.m ∧ g.m - k ≤ g1 ∧ Aside (Dif (fun x => w5.heap.size ≤ x ∧ x < w6.heap.size) w14 wr) ∧ Aside (∃ xs ys, wr.ownsRow w5.heap.size 38 2 (.slice a1 g.m c1) g.m xs ∧ wr.ownsRow w5.heap.size 38 2 (.slice a2 g.m c2) g.m ys))
          case atStart => exact ⟨0, rfl, Nat.zero_le _, Nat.le_refl _, Dif.refl _ _, HRW⟩
          case round =>
            obtain ⟨k, rfl, hk, hg, HD3, HR3⟩ := hrel
            have hm : g.m ≤ 256 := HM.out
            by_cases hlt : k < g.m
            · have hltz : (k : Int) < (g.m : Int) := by omega
              obtain ⟨xs, ys, hra, hrd⟩ := HR3.out
              clear HR3
              obtain ⟨ba, rfl⟩ : ∃ ba, a1 = some ⟨ba, 0, none⟩ := by
                rcases hra.2 with ⟨_, h0⟩ | ⟨ba, cp, cur, e, _⟩
                · omega
                · cases e; exact ⟨ba, rfl⟩
              obtain ⟨bd, rfl⟩ : ∃ bd, a2 = some ⟨bd, 0, none⟩ := by
                rcases hrd.2 with ⟨_, h0⟩ | ⟨bd, cp, cur, e, _⟩
                · omega
                · cases e; exact ⟨bd, rfl⟩
              have hne : ba ≠ bd := fun e => HAP.out ba rfl (by rw [e]; rfl)
              have hxa := hra.lt ba rfl
              have hxd := hrd.lt bd rfl
              have z6 : w6.heap.size ≤ wr.heap.size := Nat.le_trans HD6.out.size HD3.out.size
              have y0 := hra.cellAt (k * 2 + 1) (by omega)
              rw [List.getElem?_eq_getElem (l := xs) (i := k * 2 + 1) (by rw [hra.1]; omega)] at y0
              generalize xs[k * 2 + 1]'(by rw [hra.1]; omega) = u at y0
              have f0 := hra.frozenAt (k * 2 + 1)
              have y1 := hrd.cellAt (k * 2 + 1) (by omega)
              rw [List.getElem?_eq_getElem (l := ys) (i := k * 2 + 1) (by rw [hrd.1]; omega)] at y1
              generalize ys[k * 2 + 1]'(by rw [hrd.1]; omega) = v at y1
              have f1 := hrd.frozenAt (k * 2 + 1)
              have st1 := hra.stored (k * 2 + 1) (.int .i64 99)
              have hrd2 := row_grown hrd st1.2 (fun j hj e => by cases hj; injection e with e; exact hne e)
              have st2 := hrd2.stored (k * 2 + 1) (.int .i64 98)
              have hra2 := row_grown st1.1 st2.2 (fun j hj e => by cases hj; injection e with e; exact hne e.symm)
              have hb6 : ba < w6.heap.size ∧ bd < w6.heap.size := by
                have := HO6.out.ra.lt ba rfl
                have := HO6.out.rd.lt bd rfl
                omega
              have HN : Aside (∃ xs ys, ((wr.setCell ⟨ba, k * 2 + 1, none⟩ (.int .i64 99)).setCell ⟨bd, k * 2 + 1, none⟩ (.int .i64 98)).ownsRow w5.heap.size 38 2 (.slice (some ⟨ba, 0, none⟩) g.m c1) g.m xs ∧ ((wr.setCell ⟨ba, k * 2 + 1, none⟩ (.int .i64 99)).setCell ⟨bd, k * 2 + 1, none⟩ (.int .i64 98)).ownsRow w5.heap.size 38 2 (.slice (some ⟨bd, 0, none⟩) g.m c2) g.m ys) := ⟨_, _, hra2, st2.1⟩
              have HDN : Aside (Dif (fun x => w5.heap.size ≤ x ∧ x < w6.heap.size) w14 ((wr.setCell ⟨ba, k * 2 + 1, none⟩ (.int .i64 99)).setCell ⟨bd, k * 2 + 1, none⟩ (.int .i64 98))) := (HD3.out.set ba _ _ ⟨hxa.1, hb6.1⟩).set bd _ _ ⟨hxd.1, hb6.2⟩
              clear hra hrd st1 st2 hrd2 hra2 hb6 HD3
              go_wp2
              go_roundg (g.m - (k + 1))
              case measure => omega
              case rel => exact ⟨k + 1, by go_num, by omega, Nat.le_refl _, HDN, HN⟩
            · have hltz : ¬ (k : Int) < (g.m : Int) := by omega
              generalize wr = w15 at *
              clear HR3
              have HBE : Aside (Below w2.heap.size w2 w15) := by
                have d1 : Dif (fun x => w2.heap.size ≤ x) w2 w14 := ((((Dif.of_below HB23.out).trans (Dif.of_below HB34.out)).trans (Dif.of_below HB45.out)).trans (Dif.of_below HB56.out)).trans (HD6.out.mono fun x _ h => h.1)
                have z2 : w2.heap.size ≤ w5.heap.size := Nat.le_trans HB23.out.size (Nat.le_trans HB34.out.size HB45.out.size)
                exact (d1.trans (HD3.out.mono fun x _ h => Nat.le_trans z2 h.1)).below (fun x h1 _ h2 => by omega) (Nat.le_refl _)
              have HD4 : Aside (Dif (fun x => (w2.heap.size ≤ x ∧ x < w3.heap.size) ∨ w5.heap.size ≤ x ∧ x < w6.heap.size) w6 w15) := (HD6.out.mono fun x _ h => .inl h).trans (HD3.out.mono fun x _ h => .inr h)
              have HR15 : Aside (OwnL w15 w3.heap.size (.slice ao2 g.sl.length cap2) g.sl us2) :=
                HO4.out.dif (((Dif.of_below HB45.out).trans (Dif.of_below HB56.out)).trans HD4.out) (fun x h1 h2 h3 => by have := HB45.out.size; omega)
              have HD7 : Aside (Dif (fun x => (w2.heap.size ≤ x ∧ x < w3.heap.size) ∨ w5.heap.size ≤ x ∧ x < w6.heap.size) w7 w15) := by
                have d7 : Dif (fun x => w2.heap.size ≤ x ∧ x < w3.heap.size) w7 w14 := ((((Dif.of_below HB78.out).trans (Dif.of_below HB89.out)).trans (Dif.of_below HB910.out)).trans HD.out).trans (Dif.of_below HBx.out)
                exact (d7.mono fun x _ h => .inl h).trans (HD3.out.mono fun x _ h => .inr h)
              have HS15 : Aside (w15.ownsRow w6.heap.size 38 2 (.slice a3 g.m c3) g.m (cellsS (fun i => seatV (g.seat false i)) g.m) ∧ w15.ownsRow w6.heap.size 38 2 (.slice a4 g.m c4) g.m (cellsS (fun i => seatV (g.seat true i)) g.m)) := by
                have z3 := HB34.out.size
                have z4 := HB45.out.size
                have z5 := HB56.out.size
                exact ⟨row_dif HT7.out.ra HD7.out (fun x h1 _ h3 => by omega), row_dif HT7.out.rd HD7.out (fun x h1 _ h3 => by omega)⟩
              have HI15 : Aside (Hs w15 b g q) := HI2.out.keep HBE.out
              have HW15 : Aside (Wy w15) := HW2.out.below HW2.out.size HBE.out
              have HBF : Aside (Below w.heap.size w w15) := HB2.out.trans (HBE.out.mono HB2.out.size)
              clear HD6 HRW HAP HBx HD HD3 HD4 HD7 HBE
              obtain ⟨⟨_, k0, k1, k2, k3, k4⟩, _⟩ := HI15.out
              have cL := Seats_any g q w15 HW15.out HI15.out.rg
              unfold gv at cL
              go_wp2_with fail
              refine cL.mono ?_
              rintro e w16 ⟨va, vd, rfl, hO, hb16⟩
              obtain ⟨a5, c5, rfl, hRe⟩ := row_readsS hO.ra
              obtain ⟨a6, c6, rfl, hRf⟩ := row_readsS hO.rd
              have HRe : Aside (ReadsS w16 a5 (fun i => seatV (g.seat false i)) g.m) := hRe
              have HRf : Aside (ReadsS w16 a6 (fun i => seatV (g.seat true i)) g.m) := hRf
              have HB1516 : Aside (Below w15.heap.size w15 w16) := hb16
              have HI16 : Aside (Hs w16 b g q) := HI15.out.keep hb16
              have HW16 : Aside (Wy w16) := HW15.out.below HW15.out.size hb16
              clear cL hb16 hO hRe hRf k0 k1 k2 k3 k4 HI15 HW15
              obtain ⟨⟨_, k0, k1, k2, k3, k4⟩, _⟩ := HI16.out
              have cL := List_any g q w16 HW16.out HI16.out.rg
              unfold gv at cL
              go_wp2_with fail
              refine cL.mono ?_
              rintro e w17 ⟨v, us3, rfl, hO, hb17⟩
              obtain ⟨ao7, cap7, rfl, hRL⟩ := hO.read
              have HR17 : Aside (ReadsL w17 ao7 g.sl) := hRL
              have HB1617 : Aside (Below w16.heap.size w16 w17) := hb17
              obtain ⟨ax, cx, ex, hRx⟩ := ((HR15.out.keep HB1516.out).keep HB1617.out).read
              cases ex
              clear cL hb17 hO hRL k0 k1 k2 k3 k4 HI16 HW16
              have cL := refSameL_any g.sl HLL.out.1 HLL.out.2 ao7 ao2 cap7 cap2 w17 HR17.out hRx
              clear hRx
              go_wp2_with fail
              refine cL.mono ?_
              rintro e w18 ⟨rfl, hb18⟩
              have HB1718 : Aside (Below w17.heap.size w17 w18) := hb18
              obtain ⟨ax, cx, ex, hRx⟩ := row_readsS (row_keeps3 (row_keeps3 (row_keeps3 HS15.out.1 HB1516.out) HB1617.out) HB1718.out)
              cases ex
              have cL := refSameS_any g.m HM.out a5 a3 c5 c3 _ w18 ((HRe.out.below HB1617.out).below HB1718.out) hRx
              clear hb18 hRx
              go_wp2_with fail
              refine cL.mono ?_
              rintro e w19 ⟨rfl, hb19⟩
              have HB1819 : Aside (Below w18.heap.size w18 w19) := hb19
              obtain ⟨ax, cx, ex, hRx⟩ := row_readsS (row_keeps3 (row_keeps3 (row_keeps3 (row_keeps3 HS15.out.2 HB1516.out) HB1617.out) HB1718.out) HB1819.out)
              cases ex
              have cL := refSameS_any g.m HM.out a6 a4 c6 c4 _ w19 (((HRf.out.below HB1617.out).below HB1718.out).below HB1819.out) hRx
              clear hb19 hRx
              go_wp2_with fail
              refine cL.mono ?_
              rintro e w20 ⟨rfl, hb20⟩
              have HBZ : Aside (Below w.heap.size w w20) := by
                have a1 := HBF.out
                have a2 := a1.trans (HB1516.out.mono a1.size)
                have a3 := a2.trans (HB1617.out.mono a2.size)
                have a4 := a3.trans (HB1718.out.mono a3.size)
                have a5 := a4.trans (HB1819.out.mono a4.size)
                exact a5.trans (hb20.mono a5.size)
              clear cL hb20
              go_wp2
              go_ret
              exact ⟨rfl, HBZ.out⟩
end Go.Proofs.YtkkeoonglcfhnaaDoor.Grd
