/-
  The laws' own: kept (is a lent grid as it was, its spare room too?).
-/
import Derived.Test.YtaepndaboefbeaaDoorGrdo
namespace Go.Proofs.YtaepndaboefbeaaDoor.Grd
open Go Go.Lib Go.RowKit

set_option maxHeartbeats 2000000 in
theorem kept_any (g : Gr) (q : Ad) (b1 b2 b3 : Nat) (B : Nat) (w : World) (hl : g.lenOk) (hL : Lent w B g b1 b2 b3) (hS : RG w g q) :
    Calls Tryd.prog 19 #[gv g (lad g b1 b2 b3), gv g q] w fun e w' => e = .returned (.bool true) ∧ Below w.heap.size w w' := by
  have HSame : Aside (∀ W, Below w.heap.size w W → Calls Tryd.prog 18 #[gv g (lad g b1 b2 b3), gv g q] W fun e w' => e = .returned (.bool true) ∧ Below W.heap.size W w') := fun W h => by
    have := refSame_any g g (lad g b1 b2 b3) q W hl (hL.below h).rg (hS.below h)
    rw [Gr.same_refl] at this
    exact this
  have HL : Aside (∀ W, Below w.heap.size w W → Lent W B g b1 b2 b3) := fun W h => hL.below h
  unfold gv lad at HSame
  unfold gv lad
  dsimp only at HSame ⊢
  have hl1 := hl.1
  have hl2 := hl.2.1
  have hl3 := hl.2.2
  clear hL hS hl
  go_enter Tryd.func19, Tryd.ntmps19
  go_wp2
  obtain ⟨W0, hW0⟩ : ∃ W0, W0 = (((w.alloc (.cells #[.int .i64 g.h, .int .i64 g.w, .slice (some ⟨b1, 0, none⟩) g.B.length (g.B.length + 2), .slice (some ⟨b2, 0, none⟩) g.R.length (g.R.length + 2), .slice (some ⟨b3, 0, none⟩) g.D.length (g.D.length + 2)] 24)).alloc (.cells #[.int .i64 g.h, .int .i64 g.w, .slice q.a1 g.B.length q.c1, .slice q.a2 g.R.length q.c2, .slice q.a3 g.D.length q.c3] 24)).alloc (.cells #[.slice (some ⟨b1, 0, none⟩) g.B.length (g.B.length + 2), .slice (some ⟨b2, 0, none⟩) g.R.length (g.R.length + 2), .slice (some ⟨b3, 0, none⟩) g.D.length (g.D.length + 2)] 22)) := ⟨_, rfl⟩
  have hFa : Five W0 w.heap.size (.int .i64 g.h) (.int .i64 g.w) (.slice (some ⟨b1, 0, none⟩) g.B.length (g.B.length + 2)) (.slice (some ⟨b2, 0, none⟩) g.R.length (g.R.length + 2)) (.slice (some ⟨b3, 0, none⟩) g.D.length (g.D.length + 2)) := ⟨by rw [hW0, heap_alloc_old _ _ (by simp; omega)]; exact heap_alloc2_old w _ _⟩
  have hFb : Five W0 (w.heap.size + 1) (.int .i64 g.h) (.int .i64 g.w) (.slice q.a1 g.B.length q.c1) (.slice q.a2 g.R.length q.c2) (.slice q.a3 g.D.length q.c3) := ⟨by rw [hW0, heap_alloc_old _ _ (by simp)]; exact heap_alloc2_new w _ _⟩
  have hT : W0.heap[w.heap.size + 1 + 1]? = some (.cells #[.slice (some ⟨b1, 0, none⟩) g.B.length (g.B.length + 2), .slice (some ⟨b2, 0, none⟩) g.R.length (g.R.length + 2), .slice (some ⟨b3, 0, none⟩) g.D.length (g.D.length + 2)] 22) := by
    rw [hW0]
    have := heap_alloc_new ((w.alloc (.cells #[.int .i64 g.h, .int .i64 g.w, .slice (some ⟨b1, 0, none⟩) g.B.length (g.B.length + 2), .slice (some ⟨b2, 0, none⟩) g.R.length (g.R.length + 2), .slice (some ⟨b3, 0, none⟩) g.D.length (g.D.length + 2)] 24)).alloc (.cells #[.int .i64 g.h, .int .i64 g.w, .slice q.a1 g.B.length q.c1, .slice q.a2 g.R.length q.c2, .slice q.a3 g.D.length q.c3] 24)) (.cells #[.slice (some ⟨b1, 0, none⟩) g.B.length (g.B.length + 2), .slice (some ⟨b2, 0, none⟩) g.R.length (g.R.length + 2), .slice (some ⟨b3, 0, none⟩) g.D.length (g.D.length + 2)] 22)
    rwa [World.size_alloc, World.size_alloc] at this
  have hB0 : Below w.heap.size w W0 := by rw [hW0]; exact ((below_box w _).alloc (below_box w _).size _).alloc (by simp; omega) _
  rw [← hW0]
  clear hW0
  have t0 : W0.cell? ⟨w.heap.size + 1 + 1, 0, none⟩ = some (.slice (some ⟨b1, 0, none⟩) g.B.length (g.B.length + 2)) := by simp [World.cell?, hT]
  have t1 : W0.cell? ⟨w.heap.size + 1 + 1, 1, none⟩ = some (.slice (some ⟨b2, 0, none⟩) g.R.length (g.R.length + 2)) := by simp [World.cell?, hT]
  have t2 : W0.cell? ⟨w.heap.size + 1 + 1, 2, none⟩ = some (.slice (some ⟨b3, 0, none⟩) g.D.length (g.D.length + 2)) := by simp [World.cell?, hT]
  have hL := HL.out W0 hB0
  obtain ⟨p1, p2⟩ := hL.s1.cells
  obtain ⟨p3, p4⟩ := hL.s2.cells
  obtain ⟨p5, p6⟩ := hL.s3.cells
  have HB0 : Aside (Below w.heap.size w W0) := hB0
  have cS := HSame.out W0 hB0
  have k0 := hFa.c0
  have k1 := hFa.c1
  have k2 := hFa.c2
  have k3 := hFa.c3
  have k4 := hFa.c4
  have m0 := hFb.c0
  have m1 := hFb.c1
  have m2 := hFb.c2
  have m3 := hFb.c3
  have m4 := hFb.c4
  clear hL hB0 hT hFa hFb HL HSame
  go_loopg [16] 3 (fun g1 iv wr => ∃ k : Nat, iv = .int .i64 (k : Int) ∧ k ≤ 3 ∧ 3 - k ≤ g1 ∧ wr = W0)
  case atStart => exact ⟨0, rfl, Nat.zero_le _, Nat.le_refl _, rfl⟩
  case round =>
    obtain ⟨k, rfl, hk, hg, rfl⟩ := hrel
    by_cases hlt : k < 3
    · have hc : k = 0 ∨ k = 1 ∨ k = 2 := by omega
      rcases hc with rfl | rfl | rfl
      · clear cS
        have hltz : ((0 : Nat) : Int) < 3 := by decide
        go_wp2
        go_roundg (3 - (0 + 1))
        case measure => omega
        case rel => exact ⟨0 + 1, by go_num, by omega, Nat.le_refl _, rfl⟩
      · clear cS
        have hltz : ((1 : Nat) : Int) < 3 := by decide
        go_wp2
        go_roundg (3 - (1 + 1))
        case measure => omega
        case rel => exact ⟨1 + 1, by go_num, by omega, Nat.le_refl _, rfl⟩
      · clear cS
        have hltz : ((2 : Nat) : Int) < 3 := by decide
        go_wp2
        go_roundg (3 - (2 + 1))
        case measure => omega
        case rel => exact ⟨2 + 1, by go_num, by omega, Nat.le_refl _, rfl⟩
    · have hltz : ¬ (k : Int) < 3 := by omega
      go_wp2_with fail
      refine cS.mono ?_
      rintro e w2 ⟨rfl, hb2⟩
      clear cS
      go_wp2
      go_ret
      exact ⟨rfl, HB0.out.trans (hb2.mono HB0.out.size)⟩
end Go.Proofs.YtaepndaboefbeaaDoor.Grd
