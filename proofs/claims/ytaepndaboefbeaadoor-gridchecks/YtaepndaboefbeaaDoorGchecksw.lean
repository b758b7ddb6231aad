/-
  GridChecks walked: Check, Open, Count and Same of any grids are the document's.
-/
import Derived.Test.YtaepndaboefbeaaDoorRfc
import Derived.Test.YtaepndaboefbeaaDoorGrdp
import Derived.Test.YtaepndaboefbeaaDoorGrdx
namespace Go.Proofs.YtaepndaboefbeaaDoor.Grd
open Go Go.Lib Go.RowKit

set_option maxRecDepth 20000 in
set_option maxHeartbeats 4000000 in
theorem gridChecks_walk (g : Gr) (p : Ad) (h : Gr) (q : Ad) (i : Int) (w : World) (hl : g.lenOk) (hR : RG w g p) (hp : p.nz) (hl2 : h.lenOk) (hR2 : RG w h q) (_hp2 : q.nz) (_hi0 : -9223372036854775808 ≤ i) (_hi1 : i ≤ 9223372036854775807) (hw : Wy w) :
    Calls Tryd.prog 3 #[gv g p, gv h q, .int .i64 i] w fun e w' => e = .returned (.bool true) ∧ Below w.heap.size w w' := by
  have HW : Aside (∀ W, Below w.heap.size w W → Wy W ∧ RG W g p ∧ RG W h q) := fun W hb => ⟨hw.below hw.size hb, hR.below hb, hR2.below hb⟩
  obtain ⟨W0, hW0⟩ : ∃ W0, W0 = ((w.alloc (.cells #[.int .i64 g.h, .int .i64 g.w, .slice p.a1 g.B.length p.c1, .slice p.a2 g.R.length p.c2, .slice p.a3 g.D.length p.c3] 24)).alloc (.cells #[.int .i64 h.h, .int .i64 h.w, .slice q.a1 h.B.length q.c1, .slice q.a2 h.R.length q.c2, .slice q.a3 h.D.length q.c3] 24)) := ⟨_, rfl⟩
  have hB0 : Below w.heap.size w W0 := by rw [hW0]; exact (below_box w _).alloc (below_box w _).size _
  have hX0 : Bx W0 w.heap.size g p := by
    rw [hW0]
    exact (Bx.new w g p _).keep (below_box _ _)
  have hY0 : Bx W0 (w.heap.size + 1) h q := by
    rw [hW0]
    have := Bx.new (w.alloc (.cells #[.int .i64 g.h, .int .i64 g.w, .slice p.a1 g.B.length p.c1, .slice p.a2 g.R.length p.c2, .slice p.a3 g.D.length p.c3] 24)) h q 24
    rwa [World.size_alloc] at this
  have cA := awake_any W0 (HW.out _ hB0).1
  have HLt : Aside (∀ W, Below w.heap.size w W → Calls Tryd.prog 10 #[gv g p] W fun e w' => ∃ b1 b2 b3, e = .returned (gv g (lad g b1 b2 b3)) ∧ Lent w' W.heap.size g b1 b2 b3 ∧ Below W.heap.size W w') := fun W hb => lent_any g p W hl (HW.out W hb).2.1 hp
  unfold gv at HLt
  unfold gv
  have HLO : Aside (g.lenOk ∧ h.lenOk) := ⟨hl, hl2⟩
  have HX0 : Aside (Bx W0 w.heap.size g p) := hX0
  have HY0 : Aside (Bx W0 (w.heap.size + 1) h q) := hY0
  have HB0 : Aside (Below w.heap.size w W0) := hB0
  rw [hW0] at cA
  clear hw hR hR2 hp hl hl2 hX0 hY0 hB0
  go_enter Tryd.func3, Tryd.ntmps3
  go_wp2_with fail
  refine cA.mono ?_
  rintro e w1 ⟨rfl, hb1⟩
  rw [← hW0] at hb1
  clear cA hW0
  have HX1 : Aside (Bx w1 w.heap.size g p) := HX0.out.keep hb1
  have HY1 : Aside (Bx w1 (w.heap.size + 1) h q) := HY0.out.keep hb1
  have HB1 : Aside (Below w.heap.size w w1) := HB0.out.trans (hb1.mono HB0.out.size)
  obtain ⟨_, k0, k1, k2, k3, k4⟩ := HX1.out
  clear hb1 HX0 HY0 HB0
  go_wp2_with fail
  refine (HLt.out w1 HB1.out).mono ?_
  rintro e w2 ⟨b1, b2, b3, rfl, hL2, hb2⟩
  have HX2 : Aside (Bx w2 w.heap.size g p) := HX1.out.keep hb2
  have HY2 : Aside (Bx w2 (w.heap.size + 1) h q) := HY1.out.keep hb2
  have HB2 : Aside (Below w.heap.size w w2) := HB1.out.trans (hb2.mono HB1.out.size)
  have HL2 : Aside (Lent w2 w1.heap.size g b1 b2 b3) := hL2
  unfold lad
  dsimp only
  clear k0 k1 k2 k3 k4 hb2 hL2 HX1 HY1
  go_wp2_with fail
  have HX3 : Aside (Bx (w2.alloc (.cells #[.int .i64 g.h, .int .i64 g.w, .slice (some ⟨b1, 0, none⟩) g.B.length (g.B.length + 2), .slice (some ⟨b2, 0, none⟩) g.R.length (g.R.length + 2), .slice (some ⟨b3, 0, none⟩) g.D.length (g.D.length + 2)] 24)) w.heap.size g p) := HX2.out.keep (below_box _ _)
  have HY3 : Aside (Bx (w2.alloc (.cells #[.int .i64 g.h, .int .i64 g.w, .slice (some ⟨b1, 0, none⟩) g.B.length (g.B.length + 2), .slice (some ⟨b2, 0, none⟩) g.R.length (g.R.length + 2), .slice (some ⟨b3, 0, none⟩) g.D.length (g.D.length + 2)] 24)) (w.heap.size + 1) h q) := HY2.out.keep (below_box _ _)
  have HZ3 : Aside (Bx (w2.alloc (.cells #[.int .i64 g.h, .int .i64 g.w, .slice (some ⟨b1, 0, none⟩) g.B.length (g.B.length + 2), .slice (some ⟨b2, 0, none⟩) g.R.length (g.R.length + 2), .slice (some ⟨b3, 0, none⟩) g.D.length (g.D.length + 2)] 24)) w2.heap.size g ⟨some ⟨b1, 0, none⟩, g.B.length + 2, some ⟨b2, 0, none⟩, g.R.length + 2, some ⟨b3, 0, none⟩, g.D.length + 2⟩) := Bx.new w2 g ⟨some ⟨b1, 0, none⟩, g.B.length + 2, some ⟨b2, 0, none⟩, g.R.length + 2, some ⟨b3, 0, none⟩, g.D.length + 2⟩ _
  have HL3 : Aside (Lent (w2.alloc (.cells #[.int .i64 g.h, .int .i64 g.w, .slice (some ⟨b1, 0, none⟩) g.B.length (g.B.length + 2), .slice (some ⟨b2, 0, none⟩) g.R.length (g.R.length + 2), .slice (some ⟨b3, 0, none⟩) g.D.length (g.D.length + 2)] 24)) w1.heap.size g b1 b2 b3) := HL2.out.below (below_box _ _)
  have HB3 : Aside (Below w.heap.size w (w2.alloc (.cells #[.int .i64 g.h, .int .i64 g.w, .slice (some ⟨b1, 0, none⟩) g.B.length (g.B.length + 2), .slice (some ⟨b2, 0, none⟩) g.R.length (g.R.length + 2), .slice (some ⟨b3, 0, none⟩) g.D.length (g.D.length + 2)] 24))) := HB2.out.alloc HB2.out.size _
  generalize w2.alloc (.cells #[.int .i64 g.h, .int .i64 g.w, .slice (some ⟨b1, 0, none⟩) g.B.length (g.B.length + 2), .slice (some ⟨b2, 0, none⟩) g.R.length (g.R.length + 2), .slice (some ⟨b3, 0, none⟩) g.D.length (g.D.length + 2)] 24) = w3 at *
  have HWw : Aside (∀ W, Below w3.heap.size w3 W → Wy W ∧ RG W g p ∧ RG W h q) := fun W hW => HW.out W (HB3.out.trans (hW.mono HB3.out.size))
  have HRL : Aside (∀ W, Below w3.heap.size w3 W → RG W g (lad g b1 b2 b3)) := fun W hW => (HL3.out.below hW).rg
  have cChk : Aside (∀ W, Below w3.heap.size w3 W → Calls Tryd.prog 11 #[gv g (lad g b1 b2 b3)] W fun e w' => e = .returned (.int .i64 (g.chk : Nat)) ∧ Below W.heap.size W w') := fun W hW => check_any g _ W (HWw.out W hW).1 (HRL.out W hW)
  have cRChk : Aside (∀ W, Below w3.heap.size w3 W → Calls Tryd.prog 12 #[gv g p] W fun e w' => e = .returned (.int .i64 (g.chk : Nat)) ∧ Below W.heap.size W w') := fun W hW => refCheck_any g p W (HWw.out W hW).2.1
  have cOpn : Aside (∀ W, Below w3.heap.size w3 W → Calls Tryd.prog 13 #[gv g (lad g b1 b2 b3), .int .i64 i] W fun e w' => e = .returned (.bool (g.opI i)) ∧ Below W.heap.size W w') := fun W hW => open_any g _ i W (HWw.out W hW).1 (HRL.out W hW)
  have cROpn : Aside (∀ W, Below w3.heap.size w3 W → Calls Tryd.prog 14 #[gv g p, .int .i64 i] W fun e w' => e = .returned (.bool (g.opI i)) ∧ Below W.heap.size W w') := fun W hW => refOpen_any g p i W (HWw.out W hW).2.1
  have cCnt : Aside (∀ W, Below w3.heap.size w3 W → Calls Tryd.prog 15 #[gv g (lad g b1 b2 b3)] W fun e w' => e = .returned (.int .i64 (g.cnt : Nat)) ∧ Below W.heap.size W w') := fun W hW => count_any g _ W (HWw.out W hW).1 (HRL.out W hW)
  have cRCnt : Aside (∀ W, Below w3.heap.size w3 W → Calls Tryd.prog 16 #[gv g p] W fun e w' => e = .returned (.int .i64 (g.cnt : Nat)) ∧ Below W.heap.size W w') := fun W hW => refCount_any g p W HLO.out.1 (HWw.out W hW).2.1
  have cS1 : Aside (∀ W, Below w3.heap.size w3 W → Calls Tryd.prog 17 #[gv g (lad g b1 b2 b3), gv g p] W fun e w' => e = .returned (.bool true) ∧ Below W.heap.size W w') := fun W hW => by
    have := same_any g g (lad g b1 b2 b3) p W HLO.out.1 (HRL.out W hW) (HWw.out W hW).2.1
    rwa [Gr.same_refl] at this
  have cS2 : Aside (∀ W, Below w3.heap.size w3 W → Calls Tryd.prog 17 #[gv g (lad g b1 b2 b3), gv h q] W fun e w' => e = .returned (.bool (g.same h)) ∧ Below W.heap.size W w') := fun W hW => same_any g h _ q W HLO.out.1 (HRL.out W hW) (HWw.out W hW).2.2
  have cRS : Aside (∀ W, Below w3.heap.size w3 W → Calls Tryd.prog 18 #[gv g p, gv h q] W fun e w' => e = .returned (.bool (g.same h)) ∧ Below W.heap.size W w') := fun W hW => refSame_any g h p q W HLO.out.1 (HWw.out W hW).2.1 (HWw.out W hW).2.2
  have cS3 : Aside (∀ W, Below w3.heap.size w3 W → Calls Tryd.prog 17 #[gv h q, gv g p] W fun e w' => e = .returned (.bool (g.same h)) ∧ Below W.heap.size W w') := fun W hW => by
    have := same_any h g q p W HLO.out.2 (HWw.out W hW).2.2 (HWw.out W hW).2.1
    rwa [Gr.same_comm] at this
  have cK : Aside (∀ W, Below w3.heap.size w3 W → Calls Tryd.prog 19 #[gv g (lad g b1 b2 b3), gv g p] W fun e w' => e = .returned (.bool true) ∧ Below W.heap.size W w') := fun W hW => kept_any g p b1 b2 b3 _ W HLO.out.1 (HL3.out.below hW) (HWw.out W hW).2.1
  have HC : Aside (∀ W, Below w3.heap.size w3 W → Bx W w.heap.size g p ∧ Bx W (w.heap.size + 1) h q ∧ Bx W w2.heap.size g ⟨some ⟨b1, 0, none⟩, g.B.length + 2, some ⟨b2, 0, none⟩, g.R.length + 2, some ⟨b3, 0, none⟩, g.D.length + 2⟩) := fun W hW => ⟨HX3.out.keep hW, HY3.out.keep hW, HZ3.out.keep hW⟩
  unfold gv lad at cChk cOpn cCnt cS1 cS2 cK
  unfold gv at cRChk cROpn cRCnt cRS cS3
  dsimp only at cChk cOpn cCnt cS1 cS2 cK
  generalize g.chk = vc at *
  generalize g.opI i = vo at *
  generalize g.cnt = vn at *
  generalize g.same h = vs at *
  clear HLt HX2 HY2 HL2 HB2 HB1
  refine wp_region_quiet (C := fun W => Below w3.heap.size w3 W) (by kernel_rfl) (by kernel_rfl) (Below.drew (Below.refl _ _)) ?_
  repeat (
    refine wpQuiet_step (fun K hK => ?_)
    go_simp
    first
      | (refine hK _ ?_; clear hK K)
      | (apply Exists.intro
         refine ⟨fun W hW => ?_, hK _ ?_⟩
         first
           | exact rfl
           | (with_reducible refine (cChk.out W hW).mono ?_; rintro e w6 ⟨rfl, hb6⟩; exact ⟨rfl, hW.trans (hb6.mono hW.size)⟩)
           | (with_reducible refine (cRChk.out W hW).mono ?_; rintro e w6 ⟨rfl, hb6⟩; exact ⟨rfl, hW.trans (hb6.mono hW.size)⟩)
           | (with_reducible refine (cOpn.out W hW).mono ?_; rintro e w6 ⟨rfl, hb6⟩; exact ⟨rfl, hW.trans (hb6.mono hW.size)⟩)
           | (with_reducible refine (cROpn.out W hW).mono ?_; rintro e w6 ⟨rfl, hb6⟩; exact ⟨rfl, hW.trans (hb6.mono hW.size)⟩)
           | (with_reducible refine (cCnt.out W hW).mono ?_; rintro e w6 ⟨rfl, hb6⟩; exact ⟨rfl, hW.trans (hb6.mono hW.size)⟩)
           | (with_reducible refine (cRCnt.out W hW).mono ?_; rintro e w6 ⟨rfl, hb6⟩; exact ⟨rfl, hW.trans (hb6.mono hW.size)⟩)
           | (obtain ⟨f1, f2, f3⟩ := HC.out W hW; obtain ⟨_, k0, k1, k2, k3, k4⟩ := f1; obtain ⟨_, l0, l1, l2, l3, l4⟩ := f2; obtain ⟨_, m0, m1, m2, m3, m4⟩ := f3; go_simp; exact rfl)
         clear hK K))
  refine wpQuiet_nil ?_
  intro w6 hb6
  have HB6 : Aside (Below w3.heap.size w3 w6) := hb6
  clear hb6
  go_wp2
  refine wp_region_quiet (C := fun W => Below w3.heap.size w3 W) (by kernel_rfl) (by kernel_rfl) (Below.drew HB6.out) ?_
  repeat (
    refine wpQuiet_step (fun K hK => ?_)
    go_simp
    first
      | (refine hK _ ?_; clear hK K)
      | (apply Exists.intro
         refine ⟨fun W hW => ?_, hK _ ?_⟩
         first
           | exact rfl
           | (with_reducible refine (cS1.out W hW).mono ?_; rintro e w6 ⟨rfl, hb6⟩; exact ⟨rfl, hW.trans (hb6.mono hW.size)⟩)
           | (with_reducible refine (cS2.out W hW).mono ?_; rintro e w6 ⟨rfl, hb6⟩; exact ⟨rfl, hW.trans (hb6.mono hW.size)⟩)
           | (with_reducible refine (cRS.out W hW).mono ?_; rintro e w6 ⟨rfl, hb6⟩; exact ⟨rfl, hW.trans (hb6.mono hW.size)⟩)
           | (with_reducible refine (cS3.out W hW).mono ?_; rintro e w6 ⟨rfl, hb6⟩; exact ⟨rfl, hW.trans (hb6.mono hW.size)⟩)
           | (with_reducible refine (cK.out W hW).mono ?_; rintro e w6 ⟨rfl, hb6⟩; exact ⟨rfl, hW.trans (hb6.mono hW.size)⟩)
           | (obtain ⟨f1, f2, f3⟩ := HC.out W hW; obtain ⟨_, k0, k1, k2, k3, k4⟩ := f1; obtain ⟨_, l0, l1, l2, l3, l4⟩ := f2; obtain ⟨_, m0, m1, m2, m3, m4⟩ := f3; go_simp; exact rfl)
         clear hK K))
  refine wpQuiet_nil ?_
  intro w7 hb7
  have HB7 : Aside (Below w.heap.size w w7) := HB3.out.trans (hb7.mono HB3.out.size)
  clear hb7
  go_wp2
  go_ret
  exact ⟨rfl, HB7.out⟩
end Go.Proofs.YtaepndaboefbeaaDoor.Grd
