/-
  The document's Near of any grid.
-/
import Derived.Test.YtaepndaboefbeaaDoorRfd
import Derived.Test.YtaepndaboefbeaaDoorGrdg
namespace Go.Proofs.YtaepndaboefbeaaDoor.Grd
open Go Go.Lib Go.RowKit

/-- The cells that steps by the first ways reach, at any number. -/
def Gr.stR (g : Gr) (i : Int) (m : Nat) : List Nat := (List.range m).filterMap fun w : Nat => g.stI i (w : Int)
theorem Gr.stR_succ (g : Gr) (i : Int) (m : Nat) : g.stR i (m + 1) = g.stR i m ++ (g.stI i (m : Int)).toList := by
  unfold Gr.stR
  rw [List.range_succ, List.filterMap_append]
  congr 1
theorem Gr.stR_len (g : Gr) (i : Int) (m : Nat) : (g.stR i m).length ≤ m := by
  unfold Gr.stR
  exact Nat.le_trans (List.length_filterMap_le _ _) (by rw [List.length_range]; exact Nat.le_refl _)
theorem Gr.stR_four (g : Gr) (i : Int) : g.stR i 4 = g.nearI i := by
  unfold Gr.stR Gr.nearI
  rw [show List.range 4 = [0, 1, 2, 3] from rfl]
  cases ho : g.opI i with
  | true =>
    rw [if_pos rfl]
    have e : ∀ w : Nat, w < 4 → g.stI i (w : Int) = g.st i.toNat w := fun w hw => by
      unfold Gr.stI
      rw [if_pos ⟨ho, by omega, by omega⟩, Int.toNat_natCast]
    unfold Gr.near
    simp only [List.filterMap_cons, List.filterMap_nil]
    rw [e 0 (by omega), e 1 (by omega), e 2 (by omega), e 3 (by omega)]
  | false =>
    rw [if_neg (by simp)]
    rw [List.filterMap_eq_nil_iff]
    intro w _
    unfold Gr.stI
    rw [if_neg (by rw [ho]; simp)]
theorem Gr.stI_lt {g : Gr} {i way : Int} {j : Nat} (h : g.stI i way = some j) : j < 256 := by
  unfold Gr.stI at h
  by_cases hc : g.opI i = true ∧ 0 ≤ way ∧ way < 4
  · rw [if_pos hc] at h
    obtain ⟨hok, a, rfl, _⟩ := Gr.opI_iff.1 hc.1
    have hr := Gr.right_of hok
    have := (Gr.opn_iff.1 (Gr.st_to hr.sw.1 h)).1
    have := hr.n_le
    omega
  · rw [if_neg hc] at h; cases h

set_option maxHeartbeats 1000000 in
theorem refNear_any (g : Gr) (p : Ad) (i : Int) (w : World) (hR : RG w g p) :
    Calls Tryd.prog 23 #[gv g p, .int .i64 i] w fun e w' => ∃ v, e = .returned v ∧ w'.ownsRow w.heap.size 3 1 v (g.nearI i).length (cellsI (ints (g.nearI i))) ∧ Below w.heap.size w w' := by
  obtain ⟨i0, hi0, hz0, hz1, hz2⟩ := info_parts infoInt
  have HS : Aside (∀ W k, Below w.heap.size w W → Calls Tryd.prog 21 #[gv g p, .int .i64 i, .int .i64 (k : Nat)] W fun e w' => e = .returned (opt (g.stI i (k : Int))) ∧ Below W.heap.size W w') := fun W k h => refStep_any g p i (k : Int) W (hR.below h)
  have HN : Aside (g.stR i 4 = g.nearI i) := g.stR_four i
  have HJ : Aside (∀ k j, g.stI i k = some j → j < 256) := fun k j hj => Gr.stI_lt hj
  unfold gv opt at HS
  unfold gv
  clear hR
  go_enter Tryd.func23, Tryd.ntmps23
  go_wp2
  have HX := Bx.new w g p 24
  have HBe : Aside (Below w.heap.size w (w.alloc (.cells #[.int .i64 g.h, .int .i64 g.w, .slice p.a1 g.B.length p.c1, .slice p.a2 g.R.length p.c2, .slice p.a3 g.D.length p.c3] 24))) := below_box w _
  generalize w.alloc (.cells #[.int .i64 g.h, .int .i64 g.w, .slice p.a1 g.B.length p.c1, .slice p.a2 g.R.length p.c2, .slice p.a3 g.D.length p.c3] 24) = w1 at *
  have HX1 : Aside (Bx w1 w.heap.size g p) := HX
  clear HX
  have hws := HX1.out.lt
  go_loopg [5, 6] 4 (fun g1 nv iv wr => ∃ k : Nat, iv = .int .i64 (k : Int) ∧ k ≤ 4 ∧ 4 - k ≤ g1 ∧ Aside (wr.ownsRow w1.heap.size 3 1 nv (g.stR i k).length (cellsI (ints (g.stR i k)))) ∧ Aside (Below w1.heap.size w1 wr))
  case atStart => exact ⟨0, rfl, Nat.zero_le _, Nat.le_refl _, World.ownsRow_nil _ _ _ _, Below.refl _ _⟩
  case round =>
    obtain ⟨k, rfl, hk, hg, HOW, HBk⟩ := hrel
    have HBw : Aside (Below w.heap.size w wr) := HBe.out.trans (HBk.out.mono HBe.out.size)
    by_cases hlt : k < 4
    · have hltz : (k : Int) < 4 := by omega
      have cS := HS.out wr k HBw.out
      obtain ⟨_, k0, k1, k2, k3, k4⟩ := HX1.out.keep HBk.out
      have HSU : Aside (g.stR i (k + 1) = g.stR i k ++ (g.stI i (k : Int)).toList) := g.stR_succ i k
      have hln := g.stR_len i k
      have HJ1 := HJ.out (k : Int)
      generalize g.stI i (k : Int) = o at *
      cases o with
      | none =>
        go_wp2_with fail
        refine cS.mono ?_
        rintro e w4 ⟨rfl, hb4⟩
        have HBz : Aside (Below w1.heap.size w1 w4) := HBk.out.trans (hb4.mono HBk.out.size)
        have HOW4 : Aside (w4.ownsRow w1.heap.size 3 1 u5 (g.stR i k).length (cellsI (ints (g.stR i k)))) := row_keeps HOW.out hb4
        clear cS hb4 HOW
        go_wp2
        go_roundg (4 - (k + 1))
        case measure => omega
        case rel => exact ⟨k + 1, by go_num, by omega, Nat.le_refl _, by rw [HSU.out, Option.toList_none, List.append_nil]; exact HOW4.out, HBz⟩
      | some j =>
        have hj := HJ1 j rfl
        go_wp2_with fail
        refine cS.mono ?_
        rintro e w4 ⟨rfl, hb4⟩
        have HBz : Aside (Below w1.heap.size w1 w4) := HBk.out.trans (hb4.mono HBk.out.size)
        have HOW4 : Aside (w4.ownsRow w1.heap.size 3 1 u5 (g.stR i k).length (cellsI (ints (g.stR i k)))) := row_keeps HOW.out hb4
        have hz4 := HBz.out.size
        clear cS hb4 HOW HJ1
        go_wp2_with (at_builtin; refine wpList_append_own _ rfl _ _ 35 rfl w1.heap.size 3 i0 (.int .i64 0) 1 8 Tryd.underlying35 hi0 hz0 hz1 hz2 rfl (by decide) _ _ _ rfl (HOW4.out.alloc _) ⟨w4.heap.size, 0, none⟩ 1 1 [.int .i64 (j : Int)] rfl rfl (cell_one_new _ _ _) (by simp [Value.oneCell']) (by unfold maxLen; omega) (by omega) (by simp; omega) ?_)
        intro v' wa hown' hgrow _
        have HBa : Aside (Below w1.heap.size w1 wa) := Below.grown (HBz.out.alloc hz4 _) hgrow (by simp; omega) (fun j hj => (HOW4.out.lt _ hj).1)
        have HOWa : Aside (wa.ownsRow w1.heap.size 3 1 v' (g.stR i (k + 1)).length (cellsI (ints (g.stR i (k + 1))))) := by
          show wa.ownsRow _ _ _ _ _ _
          rw [HSU.out]
          simp only [Option.toList_some, List.length_append, List.length_cons, List.length_nil, ints_snoc, cellsI_snoc]
          exact hown'
        clear hown' hgrow
        go_wp2
        go_roundg (4 - (k + 1))
        case measure => omega
        case rel => exact ⟨k + 1, by go_num, by omega, Nat.le_refl _, HOWa, HBa⟩
    · have hltz : ¬ (k : Int) < 4 := by omega
      obtain rfl : k = 4 := by omega
      go_wp2
      go_ret
      refine ⟨_, rfl, ?_, HBw.out⟩
      have := HOW.out
      rw [HN.out] at this
      exact row_base this HBe.out.size
end Go.Proofs.YtaepndaboefbeaaDoor.Grd
