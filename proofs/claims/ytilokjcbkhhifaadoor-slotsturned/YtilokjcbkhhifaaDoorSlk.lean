/-
  The program's Lone.
-/
import Derived.Test.YtilokjcbkhhifaaDoorSlj
namespace Go.Proofs.YtilokjcbkhhifaaDoor.Grd
open Go Go.Lib Go.RowKit

theorem Gr.m_le_B (g : Gr) : g.m ≤ g.B.length := by
  unfold Gr.m
  by_cases h : g.ok
  · rw [if_pos h, (Gr.right_of h).bl]; exact Nat.le_refl _
  · rw [if_neg h]; omega

set_option maxRecDepth 20000 in
set_option maxHeartbeats 4000000 in
theorem Lone_any (g : Gr) (p : Ad) (w : World) (hw : Wy w) (hR : RG w g p) :
    Calls Tryd.prog 22 #[gv g p] w fun e w' => ∃ v, e = .returned v ∧ w'.ownsRow w.heap.size 3 1 v (g.loK g.m).length (cellsI (ints (g.loK g.m))) ∧ Below w.heap.size w w' := by
  obtain ⟨i0, hi0, hz0, hz1, hz2⟩ := info_parts infoInt
  have cS := Seats_any g p (w.alloc (.cells #[.int .i64 g.h, .int .i64 g.w, .slice p.a1 g.B.length p.c1, .slice p.a2 g.R.length p.c2, .slice p.a3 g.D.length p.c3] 24)) (hw.below hw.size (below_box w _)) (hR.below (below_box w _))
  have hm := g.m_le
  have hmB := g.m_le_B
  have HBB : Aside (∀ W, Below w.heap.size w W → ReadsB W p.a1 g.B) := fun W h => hR.b.below h
  have HSU : Aside (∀ k, g.loK (k + 1) = g.loK k ++ (if g.isLone k then [k] else [])) := g.loK_succ
  have HLE : Aside (∀ k, (g.loK k).length ≤ k) := g.loK_len
  have HIX : Aside (∀ k, g.isLone k = (!bt g.B k && !decide (0 ≤ (seatV (g.seat false k)).1) && !decide (0 ≤ (seatV (g.seat true k)).1))) := fun k => by rw [seatV_pos, seatV_pos]; rfl
  unfold gv at cS
  unfold gv
  clear hw hR
  go_enter Tryd.func22, Tryd.ntmps22
  go_wp2_with fail
  refine cS.mono ?_
  rintro e w1 ⟨va, vd, rfl, hO, hb1⟩
  obtain ⟨a1, c1, rfl, hR1⟩ := row_readsS hO.ra
  obtain ⟨a2, c2, rfl, hR2⟩ := row_readsS hO.rd
  have HR1 : Aside (ReadsS w1 a1 (fun i => seatV (g.seat false i)) g.m) := hR1
  have HR2 : Aside (ReadsS w1 a2 (fun i => seatV (g.seat true i)) g.m) := hR2
  have HX1 : Aside (Bx w1 w.heap.size g p) := (Bx.new w g p _).keep hb1
  have HB1 : Aside (Below w.heap.size w w1) := (below_box w _).trans (hb1.mono (below_box w _).size)
  clear cS hO hR1 hR2 hb1
  generalize hgm : g.m = m at *
  have HGM : Aside (g.m = m) := hgm
  clear hgm
  have HR0 : Aside (w1.ownsRow w1.heap.size 3 1 (.slice none 0 0) (g.loK 0).length (cellsI (ints (g.loK 0)))) := ⟨rfl, .inl ⟨rfl, rfl⟩⟩
  go_wp2
  go_loopg [5,14] m (fun g1 nv iv wr => ∃ k : Nat, iv = .int .i64 (k : Int) ∧ k ≤ m ∧ m - k ≤ g1 ∧ Aside (wr.ownsRow w1.heap.size 3 1 nv (g.loK k).length (cellsI (ints (g.loK k)))) ∧ Aside (Below w1.heap.size w1 wr))
  case atStart => exact ⟨0, rfl, Nat.zero_le _, Nat.le_refl _, HR0, Below.refl _ _⟩
  case round =>
    obtain ⟨k, rfl, hk, hg, HOW, HBk⟩ := hrel
    by_cases hlt : k < m
    · have hltz : (k : Int) < (m : Int) := by omega
      obtain ⟨b1, rfl, hb1, x0, x1⟩ := (HR1.out.below HBk.out) k hlt
      obtain ⟨b2, rfl, hb2, y0, y1⟩ := (HR2.out.below HBk.out) k hlt
      obtain ⟨b3, o3, e3, hb3, z0⟩ := (HBB.out wr (HB1.out.trans (HBk.out.mono HB1.out.size))) k (by omega)
      dsimp only at x0 x1 y0 y1
      have HIXk : Aside _ := HIX.out k
      have hcl := HLE.out k
      obtain ⟨_, k0, k1, k2, k3, k4⟩ := HX1.out.keep HBk.out
      have hBz : (k : Int) < (g.B.length : Int) := by omega
      rw [e3] at k2
      generalize seatV (g.seat false k) = x at *
      generalize seatV (g.seat true k) = y at *
      generalize bt g.B k = z at *
      obtain ⟨x, xx⟩ := x
      obtain ⟨y, yy⟩ := y
      have HY : Aside (∀ W, Below wr.heap.size wr W → W.cell? ⟨b2, k * 2, none⟩ = some (.int .i64 y) ∧ W.cell? ⟨b2, k * 2 + 1, none⟩ = some (.int .i64 yy)) := fun W hW => ⟨(hW.cell (p := ⟨b2, k * 2, none⟩) hb2).trans y0, (hW.cell (p := ⟨b2, k * 2 + 1, none⟩) hb2).trans y1⟩
      have cI := isSeat_any x xx wr
      have CJ : Aside (∀ W, Calls Tryd.prog 39 #[.agg #[.int .i64 y, .int .i64 yy]] W fun e w' => e = .returned (.bool (decide (0 ≤ y))) ∧ Below W.heap.size W w') := fun W => isSeat_any y yy W
      clear y0 y1 e3
      cases z with
      | true =>
        have HN : Aside (g.loK (k + 1) = g.loK k) := by show _ = _; rw [HSU.out, HIXk.out]; simp
        go_wp2
        go_roundg (m - (k + 1))
        case measure => omega
        case rel => exact ⟨k + 1, by go_num, by omega, Nat.le_refl _, by rw [HN.out]; exact HOW.out, HBk⟩
      | false =>
        cases hx : decide (0 ≤ x) with
        | true =>
          rw [hx] at cI
          have HN : Aside (g.loK (k + 1) = g.loK k) := by show _ = _; rw [HSU.out, HIXk.out, hx]; simp
          clear hx
          go_wp2_with fail
          refine cI.mono ?_
          rintro e w4 ⟨rfl, hb4⟩
          have HB4 : Aside (Below w1.heap.size w1 w4) := HBk.out.trans (hb4.mono HBk.out.size)
          have HOW4 : Aside (w4.ownsRow w1.heap.size 3 1 u5 (g.loK k).length (cellsI (ints (g.loK k)))) := row_keeps HOW.out hb4
          clear cI hb4 x0 x1 HOW k0 k1 k2 k3 k4
          go_wp2
          go_roundg (m - (k + 1))
          case measure => omega
          case rel => exact ⟨k + 1, by go_num, by omega, Nat.le_refl _, by rw [HN.out]; exact HOW4.out, HB4⟩
        | false =>
          rw [hx] at cI
          go_wp2_with fail
          refine cI.mono ?_
          rintro e w4 ⟨rfl, hb4⟩
          have HB4 : Aside (Below w1.heap.size w1 w4) := HBk.out.trans (hb4.mono HBk.out.size)
          have HOW4 : Aside (w4.ownsRow w1.heap.size 3 1 u5 (g.loK k).length (cellsI (ints (g.loK k)))) := row_keeps HOW.out hb4
          obtain ⟨y0, y1⟩ := HY.out w4 hb4
          have cJ := CJ.out w4
          have HHX : Aside (decide (0 ≤ x) = false) := hx
          clear cI hb4 x0 x1 hx HOW k0 k1 k2 k3 k4
          cases hy : decide (0 ≤ y) with
          | true =>
            rw [hy] at cJ
            have HN : Aside (g.loK (k + 1) = g.loK k) := by show _ = _; rw [HSU.out, HIXk.out, hy]; simp
            clear hy
            go_wp2_with fail
            refine cJ.mono ?_
            rintro e w5 ⟨rfl, hb5⟩
            have HB5 : Aside (Below w1.heap.size w1 w5) := HB4.out.trans (hb5.mono HB4.out.size)
            have HOW5 : Aside (w5.ownsRow w1.heap.size 3 1 u5 (g.loK k).length (cellsI (ints (g.loK k)))) := row_keeps HOW4.out hb5
            clear cJ hb5 y0 y1 HOW4
            go_wp2
            go_roundg (m - (k + 1))
            case measure => omega
            case rel => exact ⟨k + 1, by go_num, by omega, Nat.le_refl _, by rw [HN.out]; exact HOW5.out, HB5⟩
          | false =>
            rw [hy] at cJ
            have HN : Aside (g.loK (k + 1) = g.loK k ++ [k]) := by show _ = _; rw [HSU.out, HIXk.out, HHX.out, hy]; simp
            clear hy
            go_wp2_with fail
            refine cJ.mono ?_
            rintro e w5 ⟨rfl, hb5⟩
            have HB5 : Aside (Below w1.heap.size w1 w5) := HB4.out.trans (hb5.mono HB4.out.size)
            have HOW5 : Aside (w5.ownsRow w1.heap.size 3 1 u5 (g.loK k).length (cellsI (ints (g.loK k)))) := row_keeps HOW4.out hb5
            have hz5 := HB5.out.size
            clear cJ hb5 y0 y1 HOW4
            go_wp2_with (at_builtin; refine wpList_append_own _ rfl _ _ 34 rfl w1.heap.size 3 i0 (.int .i64 0) 1 8 Tryd.underlying34 hi0 hz0 hz1 hz2 rfl (by decide) _ _ _ rfl (HOW5.out.alloc _) ⟨w5.heap.size, 0, none⟩ 1 1 [.int .i64 (k : Int)] rfl rfl (cell_one_new _ _ _) (by simp [Value.oneCell']) (by unfold maxLen; omega) (by omega) (by simp; omega) ?_)
            intro v' wa hown' hgrow _
            have HBa : Aside (Below w1.heap.size w1 wa) := Below.grown (HB5.out.alloc hz5 _) hgrow (by simp; omega) (fun j hj => (HOW5.out.lt _ hj).1)
            have HOWa : Aside (wa.ownsRow w1.heap.size 3 1 v' (g.loK (k + 1)).length (cellsI (ints (g.loK (k + 1))))) := by
              show wa.ownsRow _ _ _ _ _ _
              rw [HN.out]
              simp only [List.length_append, List.length_cons, List.length_nil, ints_snoc, cellsI_snoc]
              exact hown'
            clear hown' hgrow
            go_wp2
            go_roundg (m - (k + 1))
            case measure => omega
            case rel => exact ⟨k + 1, by go_num, by omega, Nat.le_refl _, HOWa, HBa⟩
    · have hltz : ¬ (k : Int) < (m : Int) := by omega
      obtain rfl : k = m := by omega
      go_wp2
      go_ret
      refine ⟨_, rfl, ?_, HB1.out.trans (HBk.out.mono HB1.out.size)⟩
      rw [HGM.out]
      exact row_base HOW.out HB1.out.size
end Go.Proofs.YtilokjcbkhhifaaDoor.Grd
