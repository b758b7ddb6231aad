/-
  Layer 6: Symmetries, of any grid.
-/
import Derived.Test.YthjgldjjplcncabDoorTrnsq
import Derived.Test.YthjgldjjplcncabDoorGrdgq
namespace Go.Proofs.YthjgldjjplcncabDoor.Grd
open Go Go.Lib Go.RowKit

set_option maxHeartbeats 1000000 in
theorem Sym_shut (g : Gr) (p : Ad) (w : World) (hw' : Wy w) (hR : RG w g p) (hc : ¬ g.ok) :
    Calls Tryd.prog 14 #[gv g p] w fun e w' => e = .returned (.slice none 0 0) ∧ Below w.heap.size w w' := by
  have CC : Aside (∀ W, Below w.heap.size w W → Calls Tryd.prog 16 #[gv g p] W fun e w' => e = .returned (.int .i64 (g.chk : Nat)) ∧ Below W.heap.size W w') := fun W h => check_any g p W (hw'.below hw'.size h) (hR.below h)
  have hc2 : ¬ g.chk = 0 := hc
  unfold gv at CC
  unfold gv
  clear hR hw' hc
  have cC := CC.out (w.alloc (.cells #[.int .i64 g.h, .int .i64 g.w, .slice p.a1 g.B.length p.c1, .slice p.a2 g.R.length p.c2, .slice p.a3 g.D.length p.c3] 27)) (below_box w _)
  go_enter Tryd.func14, Tryd.ntmps14
  go_wp2_with fail
  refine cC.mono ?_
  rintro e w1 ⟨rfl, hb1⟩
  have HB1 : Aside (Below w.heap.size w w1) := (below_box w _).trans (hb1.mono (below_box w _).size)
  clear cC hb1
  go_wp2
  go_ret
  exact ⟨rfl, HB1.out⟩

theorem below_drew {w w' : World} (h : Below w.drew.heap.size w.drew w') : Below w.heap.size w w' := (Below.drew (Below.refl _ _)).trans h
theorem below_two {w w7 w8 : World} (h : Below w.drew.heap.size w.drew w7) (h' : Below w7.heap.size w7 w8) : Below w.heap.size w w8 := (below_drew h).trans (h'.mono (below_drew h).size)
theorem rg_drew {w w7 : World} {b : Nat} {g : Gr} {p : Ad} (hH : Hs w b g p) (h : Below w.drew.heap.size w.drew w7) : RG w7 g p := hH.rg.below (below_drew h)
theorem bx_drew {w w7 : World} {b : Nat} {g : Gr} {p : Ad} (hH : Hs w b g p) (h : Below w.drew.heap.size w.drew w7) : Bx w7 b g p := hH.bx.keep (below_drew h)
theorem turned_val (g : Gr) (p : Ad) (k : Nat) (w : World) (hk : k < 8) (hR : RG w g p) (hc : g.ok) :
    Calls Tryd.prog 22 #[gv g p, .int .i64 k] w fun e w' => ∃ q, e = .returned (gv (g.turn k) q) ∧ RG w' (g.turn k) q ∧ q.fresh w.heap.size ∧ Below w.heap.size w w' := by
  refine (turned_any g p (Gr.right_of hc) k hk w hR).mono ?_
  rintro e w' ⟨g1, g2, g3, rfl, hM, hb⟩
  exact ⟨ad3 g.n g1 g2 g3, by rw [gv3_gv (Gr.right_of hc)], hM.rg, hM.fresh, hb⟩

set_option maxHeartbeats 2000000 in
theorem kept_closure (g : Gr) (p : Ad) (k : Nat) (hk : k < 8) (b : Nat) (w : World) (hH : Hs w b g p) (hc : g.ok) :
    Calls Tryd.prog 30 #[.int .i64 k, .pointer (some ⟨b, 0, none⟩)] w fun e w' => e = .returned (.bool ((g.turn k).same g)) ∧ Below w.heap.size w w' := by
  have hl := (Gr.turn_right (Gr.right_of hc) k).len
  have cT := turned_val g p k w.drew hk (hH.rg.below (Below.drew (Below.refl _ _))) hc
  have CS : Aside (∀ W q, RG W (g.turn k) q → RG W g p → Calls Tryd.prog 31 #[gv (g.turn k) q, gv g p] W fun e w' => e = .returned (.bool ((g.turn k).same g)) ∧ Below W.heap.size W w') := fun W q h1 h2 => same_any (g.turn k) g q p W hl h1 h2
  generalize g.turn k = T at *
  unfold gv at cT CS
  obtain ⟨⟨_, k0, k1, k2, k3, k4⟩, _⟩ := hH
  have HH : Aside (Hs w b g p) := ⟨⟨by assumption, k0, k1, k2, k3, k4⟩, by assumption⟩
  go_enter Tryd.func30, Tryd.ntmps30
  go_wp2
  go_region_with (first
    | (go_at_call 31; refine cS.mono ?_; rintro e w8 ⟨rfl, hb8⟩; have HB8 := below_two hb7 hb8; clear hb7 hb8)
    | (go_at_call 22; refine cT.mono ?_; rintro e w7 ⟨q7, rfl, hR7, hf7, hb7⟩; have cS := CS.out w7 q7 hR7 (rg_drew HH.out hb7); obtain ⟨_, j0, j1, j2, j3, j4⟩ := bx_drew HH.out hb7))
  all_goals (try go_simp)
  all_goals (go_wp2_with fail)
  all_goals go_ret
  all_goals exact ⟨rfl, HB8⟩

/-- The first turns that leave the grid as it is. -/
def Gr.syK (g : Gr) (m : Nat) : List Nat := (List.range m).filter fun k => (g.turn k).same g
theorem Gr.syK_succ (g : Gr) (m : Nat) : g.syK (m + 1) = g.syK m ++ (if (g.turn m).same g then [m] else []) := by
  unfold Gr.syK
  rw [List.range_succ, List.filter_append]
  congr 1
  cases h : (g.turn m).same g <;> simp [h]
theorem Gr.syK_len (g : Gr) (m : Nat) : (g.syK m).length ≤ m := by
  unfold Gr.syK
  exact Nat.le_trans (List.length_filter_le _ _) (by rw [List.length_range]; exact Nat.le_refl _)

set_option maxHeartbeats 2000000 in
theorem Sym_open (g : Gr) (p : Ad) (w : World) (hw' : Wy w) (hR : RG w g p) (hc : g.ok) :
    Calls Tryd.prog 14 #[gv g p] w fun e w' => ∃ v, e = .returned v ∧ w'.ownsRow w.heap.size 3 1 v (g.syK 8).length (cellsI (ints (g.syK 8))) ∧ Below w.heap.size w w' := by
  obtain ⟨i0, hi0, hz0, hz1, hz2⟩ := info_parts infoInt
  have CK : Aside (∀ W k, k < 8 → Hs W w.heap.size g p → Calls Tryd.prog 30 #[.int .i64 (k : Nat), .pointer (some ⟨w.heap.size, 0, none⟩)] W fun e w' => e = .returned (.bool ((g.turn k).same g)) ∧ Below W.heap.size W w') := fun W k hk hH => kept_closure g p k hk _ W hH hc
  have HSU : Aside (∀ m, g.syK (m + 1) = g.syK m ++ (if (g.turn m).same g then [m] else [])) := fun m => g.syK_succ m
  have HSL : Aside (∀ m, (g.syK m).length ≤ m) := fun m => g.syK_len m
  have hc2 : g.chk = 0 := hc
  have CC : Aside (∀ W, Below w.heap.size w W → Calls Tryd.prog 16 #[gv g p] W fun e w' => e = .returned (.int .i64 0) ∧ Below W.heap.size W w') := fun W h => by
    have := check_any g p W (hw'.below hw'.size h) (hR.below h)
    rw [hc2] at this
    exact this
  unfold gv at CC
  unfold gv
  clear hw' hc
  have cC := CC.out (w.alloc (.cells #[.int .i64 g.h, .int .i64 g.w, .slice p.a1 g.B.length p.c1, .slice p.a2 g.R.length p.c2, .slice p.a3 g.D.length p.c3] 27)) (below_box w _)
  go_enter Tryd.func14, Tryd.ntmps14
  go_wp2_with fail
  refine cC.mono ?_
  rintro e w1 ⟨rfl, hb1⟩
  have HB1 : Aside (Below w.heap.size w w1) := (below_box w _).trans (hb1.mono (below_box w _).size)
  have HG1 : Aside (Hs w1 w.heap.size g p) := (Hs.new hR _).keep hb1
  clear cC hb1
  go_wp2
  have HR0 : Aside (w1.ownsRow w1.heap.size 3 1 (.slice none 0 0) (g.syK 0).length (cellsI (ints (g.syK 0)))) := ⟨rfl, .inl ⟨rfl, rfl⟩⟩
  go_loopg [4, 10] 8 (fun g1 nv iv wr => ∃ k : Nat, iv = .int .i64 (k : Int) ∧ k ≤ 8 ∧ 8 - k ≤ g1 ∧ Aside (wr.ownsRow w1.heap.size 3 1 nv (g.syK k).length (cellsI (ints (g.syK k)))) ∧ Aside (Below w1.heap.size w1 wr))
  case atStart => exact ⟨0, rfl, Nat.zero_le _, Nat.le_refl _, HR0, Below.refl _ _⟩
  case round =>
    obtain ⟨k, rfl, hk, hg, HOW, HBk⟩ := hrel
    by_cases hlt : k < 8
    · have hltz : (k : Int) < 8 := by omega
      have cK := CK.out wr k hlt (HG1.out.keep HBk.out)
      have HSU1 : Aside (g.syK (k + 1) = g.syK k ++ (if (g.turn k).same g then [k] else [])) := HSU.out k
      have hln := HSL.out k
      cases hs : (g.turn k).same g with
      | false =>
        rw [hs] at cK HSU1
        have HSU2 : Aside (g.syK (k + 1) = g.syK k) := by show _ = _; rw [HSU1.out]; simp
        clear hs HSU1
        go_wp2_with fail
        refine cK.mono ?_
        rintro e w4 ⟨rfl, hb4⟩
        have HBz : Aside (Below w1.heap.size w1 w4) := HBk.out.trans (hb4.mono HBk.out.size)
        have HOW4 : Aside (w4.ownsRow w1.heap.size 3 1 u4 (g.syK k).length (cellsI (ints (g.syK k)))) := row_keeps HOW.out hb4
        clear cK hb4 HOW
        go_wp2
        go_roundg (8 - (k + 1))
        case measure => omega
        case rel => exact ⟨k + 1, by go_num, by omega, Nat.le_refl _, by rw [HSU2.out]; exact HOW4.out, HBz⟩
      | true =>
        rw [hs] at cK HSU1
        have HSU2 : Aside (g.syK (k + 1) = g.syK k ++ [k]) := by show _ = _; rw [HSU1.out]; simp
        clear hs HSU1
        go_wp2_with fail
        refine cK.mono ?_
        rintro e w4 ⟨rfl, hb4⟩
        have HBz : Aside (Below w1.heap.size w1 w4) := HBk.out.trans (hb4.mono HBk.out.size)
        have HOW4 : Aside (w4.ownsRow w1.heap.size 3 1 u4 (g.syK k).length (cellsI (ints (g.syK k)))) := row_keeps HOW.out hb4
        have hz4 := HBz.out.size
        clear cK hb4 HOW
        go_wp2_with (at_builtin; refine wpList_append_own _ rfl _ _ 37 rfl w1.heap.size 3 i0 (.int .i64 0) 1 8 Tryd.underlying37 hi0 hz0 hz1 hz2 rfl (by decide) _ _ _ rfl (HOW4.out.alloc _) ⟨w4.heap.size, 0, none⟩ 1 1 [.int .i64 (k : Int)] rfl rfl (cell_one_new _ _ _) (by simp [Value.oneCell']) (by unfold maxLen; omega) (by omega) (by simp; omega) ?_)
        intro v' wa hown' hgrow _
        have HBa : Aside (Below w1.heap.size w1 wa) := Below.grown (HBz.out.alloc hz4 _) hgrow (by simp; omega) (fun j hj => (HOW4.out.lt _ hj).1)
        have HOWa : Aside (wa.ownsRow w1.heap.size 3 1 v' (g.syK (k + 1)).length (cellsI (ints (g.syK (k + 1))))) := by
          show wa.ownsRow _ _ _ _ _ _
          rw [HSU2.out]
          simp only [List.length_append, List.length_cons, List.length_nil, ints_snoc, cellsI_snoc]
          exact hown'
        clear hown' hgrow
        go_wp2
        go_roundg (8 - (k + 1))
        case measure => omega
        case rel => exact ⟨k + 1, by go_num, by omega, Nat.le_refl _, HOWa, HBa⟩
    · have hltz : ¬ (k : Int) < 8 := by omega
      obtain rfl : k = 8 := by omega
      go_wp2
      go_ret
      exact ⟨_, rfl, row_base HOW.out HB1.out.size, HB1.out.trans (HBk.out.mono HB1.out.size)⟩
end Go.Proofs.YthjgldjjplcncabDoor.Grd
