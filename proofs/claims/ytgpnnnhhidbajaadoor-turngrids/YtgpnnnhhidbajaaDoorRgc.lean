/-
  Layer 6: the document's Turn of any grid and number; its Symmetries.
-/
import Derived.Test.YtgpnnnhhidbajaaDoorRgb
import Derived.Test.YtgpnnnhhidbajaaDoorTrnt
namespace Go.Proofs.YtgpnnnhhidbajaaDoor.Grd
open Go Go.Lib Go.RowKit

set_option maxHeartbeats 1000000 in
theorem refTurn_bad (g : Gr) (p : Ad) (k : Int) (w : World) (hk : ¬ (0 ≤ k ∧ k < 8)) :
    Calls Tryd.prog 9 #[gv g p, .int .i64 k] w fun e w' => e = .returned (.tuple #[zeroG, .int .i64 60]) ∧ Below w.heap.size w w' := by
  have hB0 : Below w.heap.size w ((w.alloc (.cells #[.int .i64 g.h, .int .i64 g.w, .slice p.a1 g.B.length p.c1, .slice p.a2 g.R.length p.c2, .slice p.a3 g.D.length p.c3] 24)).alloc (.cells #[.int .i64 0, .int .i64 0, .slice none 0 0, .slice none 0 0, .slice none 0 0] 24)) := (below_box w _).alloc (below_box w _).size _
  have F0 : Five ((w.alloc (.cells #[.int .i64 g.h, .int .i64 g.w, .slice p.a1 g.B.length p.c1, .slice p.a2 g.R.length p.c2, .slice p.a3 g.D.length p.c3] 24)).alloc (.cells #[.int .i64 0, .int .i64 0, .slice none 0 0, .slice none 0 0, .slice none 0 0] 24)) (w.heap.size + 1) (.int .i64 0) (.int .i64 0) (.slice none 0 0) (.slice none 0 0) (.slice none 0 0) := ⟨heap_alloc2_new w _ _⟩
  obtain ⟨W1, hW1⟩ : ∃ W1, W1 = ((w.alloc (.cells #[.int .i64 g.h, .int .i64 g.w, .slice p.a1 g.B.length p.c1, .slice p.a2 g.R.length p.c2, .slice p.a3 g.D.length p.c3] 24)).alloc (.cells #[.int .i64 0, .int .i64 0, .slice none 0 0, .slice none 0 0, .slice none 0 0] 24)) := ⟨_, rfl⟩
  rw [← hW1] at hB0 F0
  have HF : Aside (Five W1 (w.heap.size + 1) (.int .i64 0) (.int .i64 0) (.slice none 0 0) (.slice none 0 0) (.slice none 0 0) ∧ Below w.heap.size w W1) := ⟨F0, hB0⟩
  unfold gv zeroG
  by_cases h0 : k < 0
  · go_enter Tryd.func9, Tryd.ntmps9
    go_wp2
    refine bodyPost_ret (results_gtc rfl _ _ (w.heap.size + 1) _ _ _ _ _ rfl ⟨heap_alloc2_new w _ _⟩) rfl ⟨rfl, (below_box w _).alloc (below_box w _).size _⟩
  · have h7 : 7 < k := by omega
    go_enter Tryd.func9, Tryd.ntmps9
    go_wp2
    refine bodyPost_ret (results_gtc rfl _ _ (w.heap.size + 1) _ _ _ _ _ rfl ⟨heap_alloc2_new w _ _⟩) rfl ⟨rfl, (below_box w _).alloc (below_box w _).size _⟩

set_option maxHeartbeats 1000000 in
theorem refTurn_shut (g : Gr) (p : Ad) (k : Int) (w : World) (hk : 0 ≤ k ∧ k < 8) (hR : RG w g p) (hc : ¬ g.ok) :
    Calls Tryd.prog 9 #[gv g p, .int .i64 k] w fun e w' => e = .returned (.tuple #[zeroG, .int .i64 (g.chk : Nat)]) ∧ Below w.heap.size w w' := by
  have hB0 : Below w.heap.size w ((w.alloc (.cells #[.int .i64 g.h, .int .i64 g.w, .slice p.a1 g.B.length p.c1, .slice p.a2 g.R.length p.c2, .slice p.a3 g.D.length p.c3] 24)).alloc (.cells #[.int .i64 0, .int .i64 0, .slice none 0 0, .slice none 0 0, .slice none 0 0] 24)) := (below_box w _).alloc (below_box w _).size _
  have F0 : Five ((w.alloc (.cells #[.int .i64 g.h, .int .i64 g.w, .slice p.a1 g.B.length p.c1, .slice p.a2 g.R.length p.c2, .slice p.a3 g.D.length p.c3] 24)).alloc (.cells #[.int .i64 0, .int .i64 0, .slice none 0 0, .slice none 0 0, .slice none 0 0] 24)) (w.heap.size + 1) (.int .i64 0) (.int .i64 0) (.slice none 0 0) (.slice none 0 0) (.slice none 0 0) := ⟨heap_alloc2_new w _ _⟩
  have cC := refCheck_any g p _ (hR.below hB0)
  have hc2 : ¬ g.chk = 0 := hc
  unfold gv at cC
  unfold gv zeroG
  clear hR hc
  go_enter Tryd.func9, Tryd.ntmps9
  go_wp2_with fail
  refine cC.mono ?_
  rintro e w1 ⟨rfl, hb1⟩
  have F1 := F0.keep hb1
  have HF : Aside (Five w1 (w.heap.size + 1) (.int .i64 0) (.int .i64 0) (.slice none 0 0) (.slice none 0 0) (.slice none 0 0) ∧ Below w.heap.size w w1) := ⟨F1, hB0.trans (hb1.mono hB0.size)⟩
  have z0 := F1.c0
  have z1 := F1.c1
  have z2 := F1.c2
  have z3 := F1.c3
  have z4 := F1.c4
  have y0 := F1.fr 0
  have y1 := F1.fr 1
  have y2 := F1.fr 2
  have y3 := F1.fr 3
  have y4 := F1.fr 4
  clear cC hb1 F0 F1 hB0
  go_wp2
  exact bodyPost_ret (results_gtc rfl _ _ (w.heap.size + 1) _ _ _ _ _ rfl (HF.out.1.all _ _ _ _ _)) rfl ⟨rfl, Below.all HF.out.2 (by omega) HF.out.2.size _ _ _ _ _⟩

theorem refTurn_open (g : Gr) (p : Ad) (k : Nat) (w : World) (hk : k < 8) (hR : RG w g p) (hc : g.ok) :
    Calls Tryd.prog 9 #[gv g p, .int .i64 k] w fun e w' => ∃ g1 g2 g3, e = .returned (.tuple #[gv3 (g.th k) (g.tw k) g.n g1 g2 g3, .int .i64 0]) ∧ MadeG w.heap.size w' g.n g1 g2 g3 (g.turn k).B (g.turn k).R (g.turn k).D ∧ Below w.heap.size w w' := by
  by_cases hp : k % 2 = 1
  · have e1 : g.th k = g.W := by unfold Gr.th; rw [if_pos hp]
    have e2 : g.tw k = g.H := by unfold Gr.tw; rw [if_pos hp]
    rw [e1, e2]
    exact refTurn_odd g p k w hk hp hR hc
  · have e1 : g.th k = g.H := by unfold Gr.th; rw [if_neg hp]
    have e2 : g.tw k = g.W := by unfold Gr.tw; rw [if_neg hp]
    rw [e1, e2]
    exact refTurn_even g p k w hk (by omega) hR hc
theorem refTurn_val (g : Gr) (p : Ad) (k : Nat) (w : World) (hk : k < 8) (hR : RG w g p) (hc : g.ok) :
    Calls Tryd.prog 9 #[gv g p, .int .i64 k] w fun e w' => ∃ q, e = .returned (.tuple #[gv (g.turn k) q, .int .i64 0]) ∧ RG w' (g.turn k) q ∧ q.fresh w.heap.size ∧ Below w.heap.size w w' := by
  refine (refTurn_open g p k w hk hR hc).mono ?_
  rintro e w' ⟨g1, g2, g3, rfl, hM, hb⟩
  exact ⟨ad3 g.n g1 g2 g3, by rw [gv3_gv (Gr.right_of hc)], hM.rg, hM.fresh, hb⟩

set_option maxHeartbeats 2000000 in
theorem refSym_open (g : Gr) (p : Ad) (w : World) (hR : RG w g p) (hc : g.ok) :
    Calls Tryd.prog 13 #[gv g p] w fun e w' => ∃ v, e = .returned v ∧ w'.ownsRow w.heap.size 3 1 v (g.syK 8).length (cellsI (ints (g.syK 8))) ∧ Below w.heap.size w w' := by
  obtain ⟨i0, hi0, hz0, hz1, hz2⟩ := info_parts infoInt
  have HG0 := Hs.new hR 24
  have CT : Aside (∀ (k : Nat) W, k < 8 → RG W g p → Calls Tryd.prog 9 #[gv g p, .int .i64 k] W fun e w' => ∃ q, e = .returned (.tuple #[gv (g.turn k) q, .int .i64 0]) ∧ RG w' (g.turn k) q ∧ q.fresh W.heap.size ∧ Below W.heap.size W w') := fun k W hk h => refTurn_val g p k W hk h hc
  have CS : Aside (∀ (k : Nat) W q, RG W (g.turn k) q → RG W g p → Calls Tryd.prog 10 #[gv (g.turn k) q, gv g p] W fun e w' => e = .returned (.bool ((g.turn k).same g)) ∧ Below W.heap.size W w') := fun k W q h1 h2 => refSame_any (g.turn k) g q p W (Gr.turn_right (Gr.right_of hc) k).len h1 h2
  have HSU : Aside (∀ m, g.syK (m + 1) = g.syK m ++ (if (g.turn m).same g then [m] else [])) := fun m => g.syK_succ m
  have HSL : Aside (∀ m, (g.syK m).length ≤ m) := fun m => g.syK_len m
  unfold gv at CT CS
  unfold gv
  clear hR hc
  go_enter Tryd.func13, Tryd.ntmps13
  go_wp2
  obtain ⟨w1, hw1⟩ : ∃ w1, w1 = w.alloc (.cells #[.int .i64 g.h, .int .i64 g.w, .slice p.a1 g.B.length p.c1, .slice p.a2 g.R.length p.c2, .slice p.a3 g.D.length p.c3] 24) := ⟨_, rfl⟩
  rw [← hw1]
  rw [← hw1] at HG0
  have HG1 : Aside (Hs w1 w.heap.size g p) := HG0
  have HB1 : Aside (Below w.heap.size w w1) := by rw [hw1]; exact below_box w _
  clear hw1 HG0
  have HR0 : Aside (w1.ownsRow w1.heap.size 3 1 (.slice none 0 0) (g.syK 0).length (cellsI (ints (g.syK 0)))) := ⟨rfl, .inl ⟨rfl, rfl⟩⟩
  go_loopg [3, 4] 8 (fun g1 nv iv wr => ∃ k : Nat, iv = .int .i64 (k : Int) ∧ k ≤ 8 ∧ 8 - k ≤ g1 ∧ Aside (wr.ownsRow w1.heap.size 3 1 nv (g.syK k).length (cellsI (ints (g.syK k)))) ∧ Aside (Below w1.heap.size w1 wr))
  case atStart => exact ⟨0, rfl, Nat.zero_le _, Nat.le_refl _, HR0, Below.refl _ _⟩
  case round =>
    obtain ⟨k, rfl, hk, hg, HOW, HBk⟩ := hrel
    have HGk : Aside (Hs wr w.heap.size g p) := HG1.out.keep HBk.out
    by_cases hlt : k < 8
    · have hltz : (k : Int) < 8 := by omega
      have cT := CT.out k wr hlt HGk.out.rg
      have CSk : Aside (∀ W q, RG W (g.turn k) q → RG W g p → Calls Tryd.prog 10 #[.agg #[.int .i64 (g.turn k).h, .int .i64 (g.turn k).w, .slice q.a1 (g.turn k).B.length q.c1, .slice q.a2 (g.turn k).R.length q.c2, .slice q.a3 (g.turn k).D.length q.c3], .agg #[.int .i64 g.h, .int .i64 g.w, .slice p.a1 g.B.length p.c1, .slice p.a2 g.R.length p.c2, .slice p.a3 g.D.length p.c3]] W fun e w' => e = .returned (.bool ((g.turn k).same g)) ∧ Below W.heap.size W w') := fun W q h1 h2 => CS.out k W q h1 h2
      have HSU1 : Aside (g.syK (k + 1) = g.syK k ++ (if (g.turn k).same g then [k] else [])) := HSU.out k
      have hln := HSL.out k
      obtain ⟨⟨_, k0, k1, k2, k3, k4⟩, _⟩ := HGk.out
      generalize g.turn k = T at *
      go_wp2_with fail
      refine cT.mono ?_
      rintro e w2 ⟨q, rfl, hRq, _, hb2⟩
      have hb3 := below_box w2 (.cells #[.int .i64 T.h, .int .i64 T.w, .slice q.a1 T.B.length q.c1, .slice q.a2 T.R.length q.c2, .slice q.a3 T.D.length q.c3] 24)
      have HG3 : Aside (Hs (w2.alloc (.cells #[.int .i64 T.h, .int .i64 T.w, .slice q.a1 T.B.length q.c1, .slice q.a2 T.R.length q.c2, .slice q.a3 T.D.length q.c3] 24)) w.heap.size g p) := (HGk.out.keep hb2).keep hb3
      have HT3 : Aside (Hs (w2.alloc (.cells #[.int .i64 T.h, .int .i64 T.w, .slice q.a1 T.B.length q.c1, .slice q.a2 T.R.length q.c2, .slice q.a3 T.D.length q.c3] 24)) w2.heap.size T q) := Hs.new hRq _
      have HB3 : Aside (Below w1.heap.size w1 (w2.alloc (.cells #[.int .i64 T.h, .int .i64 T.w, .slice q.a1 T.B.length q.c1, .slice q.a2 T.R.length q.c2, .slice q.a3 T.D.length q.c3] 24))) := (HBk.out.trans (hb2.mono HBk.out.size)).trans (hb3.mono (Nat.le_trans HBk.out.size hb2.size))
      have HO3 : Aside ((w2.alloc (.cells #[.int .i64 T.h, .int .i64 T.w, .slice q.a1 T.B.length q.c1, .slice q.a2 T.R.length q.c2, .slice q.a3 T.D.length q.c3] 24)).ownsRow w1.heap.size 3 1 u3 (g.syK k).length (cellsI (ints (g.syK k)))) := row_keeps (row_keeps HOW.out hb2) hb3
      have cS := CSk.out _ q HT3.out.rg HG3.out.rg
      clear cT hb2 hb3 hRq HOW HGk k0 k1 k2 k3 k4
      obtain ⟨⟨_, k0, k1, k2, k3, k4⟩, _⟩ := HG3.out
      go_wp2_with fail
      refine cS.mono ?_
      rintro e w4 ⟨rfl, hb4⟩
      have HBz : Aside (Below w1.heap.size w1 w4) := HB3.out.trans (hb4.mono HB3.out.size)
      have HOW4 : Aside (w4.ownsRow w1.heap.size 3 1 u3 (g.syK k).length (cellsI (ints (g.syK k)))) := row_keeps HO3.out hb4
      have hz4 := HBz.out.size
      clear cS hb4 HO3 HB3 HT3 HG3 k0 k1 k2 k3 k4 CSk
      cases hs : T.same g with
      | false =>
        rw [hs] at HSU1
        have HSU2 : Aside (g.syK (k + 1) = g.syK k) := by show _ = _; rw [HSU1.out]; simp
        clear hs HSU1
        go_wp2
        go_roundg (8 - (k + 1))
        case measure => omega
        case rel => exact ⟨k + 1, by go_num, by omega, Nat.le_refl _, by rw [HSU2.out]; exact HOW4.out, HBz⟩
      | true =>
        rw [hs] at HSU1
        have HSU2 : Aside (g.syK (k + 1) = g.syK k ++ [k]) := by show _ = _; rw [HSU1.out]; simp
        clear hs HSU1
        go_wp2_with (at_builtin; refine wpList_append_own _ rfl _ _ 33 rfl w1.heap.size 3 i0 (.int .i64 0) 1 8 Tryd.underlying33 hi0 hz0 hz1 hz2 rfl (by decide) _ _ _ rfl (HOW4.out.alloc _) ⟨w4.heap.size, 0, none⟩ 1 1 [.int .i64 (k : Int)] rfl rfl (cell_one_new _ _ _) (by simp [Value.oneCell']) (by unfold maxLen; omega) (by omega) (by simp; omega) ?_)
        intro v' wa hown' hgrow _
        have HBa : Aside (Below w1.heap.size w1 wa) := Below.grown (HBz.out.alloc hz4 _) hgrow (by simp; omega) (fun j hj => (HOW4.out.lt _ hj).1)
        have HOWa : Aside (wa.ownsRow w1.heap.size 3 1 v' (g.syK (k + 1)).length (cellsI (ints (g.syK (k + 1))))) := by
          show wa.ownsRow _ _ _ _ _ _
          rw [HSU2.out]
          simp only [List.length_append, List.length_cons, List.length_nil, ints_snoc, cellsI_snoc]
          exact hown'
        clear hown' hgrow
        go_wp2
        go_roundg (8 - (k + 1))
        case measure => omega
        case rel => exact ⟨k + 1, by go_num, by omega, Nat.le_refl _, HOWa, HBa⟩
    · have hltz : ¬ (k : Int) < 8 := by omega
      obtain rfl : k = 8 := by omega
      go_wp2
      go_ret
      exact ⟨_, rfl, row_base HOW.out HB1.out.size, HB1.out.trans (HBk.out.mono HB1.out.size)⟩

set_option maxHeartbeats 2000000 in
theorem refSym_shut (g : Gr) (p : Ad) (w : World) (hR : RG w g p) (hc : ¬ g.ok) :
    Calls Tryd.prog 13 #[gv g p] w fun e w' => e = .returned (.slice none 0 0) ∧ Below w.heap.size w w' := by
  have HG0 := Hs.new hR 24
  have CT : Aside (∀ (k : Nat) W, k < 8 → RG W g p → Calls Tryd.prog 9 #[gv g p, .int .i64 k] W fun e w' => e = .returned (.tuple #[zeroG, .int .i64 (g.chk : Nat)]) ∧ Below W.heap.size W w') := fun k W hk h => refTurn_shut g p k W (by omega) h hc
  have hc2 : ¬ g.chk = 0 := hc
  unfold gv zeroG at CT
  unfold gv
  clear hR hc
  go_enter Tryd.func13, Tryd.ntmps13
  go_wp2
  obtain ⟨w1, hw1⟩ : ∃ w1, w1 = w.alloc (.cells #[.int .i64 g.h, .int .i64 g.w, .slice p.a1 g.B.length p.c1, .slice p.a2 g.R.length p.c2, .slice p.a3 g.D.length p.c3] 24) := ⟨_, rfl⟩
  rw [← hw1]
  rw [← hw1] at HG0
  have HG1 : Aside (Hs w1 w.heap.size g p) := HG0
  have HB1 : Aside (Below w.heap.size w w1) := by rw [hw1]; exact below_box w _
  clear hw1 HG0
  go_loopg [3, 4] 8 (fun g1 nv iv wr => ∃ k : Nat, nv = .slice none 0 0 ∧ iv = .int .i64 (k : Int) ∧ k ≤ 8 ∧ 8 - k ≤ g1 ∧ Aside (Below w1.heap.size w1 wr))
  case atStart => exact ⟨0, rfl, rfl, Nat.zero_le _, Nat.le_refl _, Below.refl _ _⟩
  case round =>
    obtain ⟨k, rfl, rfl, hk, hg, HBk⟩ := hrel
    have HGk : Aside (Hs wr w.heap.size g p) := HG1.out.keep HBk.out
    by_cases hlt : k < 8
    · have hltz : (k : Int) < 8 := by omega
      have cT := CT.out k wr hlt HGk.out.rg
      obtain ⟨⟨_, k0, k1, k2, k3, k4⟩, _⟩ := HGk.out
      go_wp2_with fail
      refine cT.mono ?_
      rintro e w2 ⟨rfl, hb2⟩
      have HB3 : Aside (Below w1.heap.size w1 (w2.alloc (.cells #[.int .i64 0, .int .i64 0, .slice none 0 0, .slice none 0 0, .slice none 0 0] 24))) := (HBk.out.trans (hb2.mono HBk.out.size)).alloc (Nat.le_trans HBk.out.size hb2.size) _
      clear cT hb2 k0 k1 k2 k3 k4
      go_wp2
      go_roundg (8 - (k + 1))
      case measure => omega
      case rel => exact ⟨k + 1, rfl, by go_num, by omega, Nat.le_refl _, HB3⟩
    · have hltz : ¬ (k : Int) < 8 := by omega
      go_wp2
      go_ret
      exact ⟨rfl, HB1.out.trans (HBk.out.mono HB1.out.size)⟩
end Go.Proofs.YtgpnnnhhidbajaaDoor.Grd
