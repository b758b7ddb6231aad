/-
  Layer 6: Canon, of any grid.
-/
import Derived.Test.YtgpnnnhhidbajaaDoorTrnt
import Derived.Test.YtgpnnnhhidbajaaDoorTrnv
import Derived.Deep.RegionWith
import Derived.Deep.CutRange
namespace Go.Proofs.YtgpnnnhhidbajaaDoor.Grd
open Go Go.Lib Go.RowKit

theorem results_g3 {fn : Func} {p q r : Tmp} (h : fn.results = #[.cell p 24, .tmp q, .tmp r]) (tmps : Array Value) (w : World) (b : Nat) (x0 x1 x2 x3 x4 : Value)
    (hp : tmps.getD p undef = .pointer (some ⟨b, 0, none⟩)) (hb : Five w b x0 x1 x2 x3 x4) :
    (results fn tmps).run Tryd.prog w = .ok (.tuple #[.agg #[x0, x1, x2, x3, x4], tmps.getD q undef, tmps.getD r undef]) w := by
  have hp' : tmps[p]?.getD undef = .pointer (some ⟨b, 0, none⟩) := by simpa using hp
  have c0 := hb.c0
  have c1 := hb.c1
  have c2 := hb.c2
  have c3 := hb.c3
  have c4 := hb.c4
  simp only [results, h]
  simp [hp', asAddr]
  go_simp

/-- What lies where while the least turned grid is sought. -/
structure CSt (w wr : World) (g : Gr) (p : Ad) (bl a g1 g2 g3 : Nat) : Prop where
  f0 : Five wr w.heap.size (.int .i64 g.h) (.int .i64 g.w) (.slice p.a1 g.B.length p.c1) (.slice p.a2 g.R.length p.c2) (.slice p.a3 g.D.length p.c3)
  f1 : Five wr (w.heap.size + 1) (.int .i64 0) (.int .i64 0) (.slice none 0 0) (.slice none 0 0) (.slice none 0 0)
  fl : Five wr bl (.int .i64 (g.th a)) (.int .i64 (g.tw a)) (.slice (some ⟨g1, 0, none⟩) g.n g.n) (.slice (some ⟨g2, 0, none⟩) g.n g.n) (.slice (some ⟨g3, 0, none⟩) g.n g.n)
  m : MadeG (w.heap.size + 1 + 1) wr g.n g1 g2 g3 (g.turn a).B (g.turn a).R (g.turn a).D
  ne : bl ≠ g1 ∧ bl ≠ g2 ∧ bl ≠ g3
  bw : Below w.heap.size w wr
  lo : w.heap.size + 1 < bl
theorem CSt.keep {w wr w' : World} {g : Gr} {p : Ad} {bl a g1 g2 g3 : Nat} (h : CSt w wr g p bl a g1 g2 g3) (hb : Below wr.heap.size wr w') : CSt w w' g p bl a g1 g2 g3 :=
  ⟨h.f0.keep hb, h.f1.keep hb, h.fl.keep hb, h.m.dif hb, h.ne, h.bw.trans (hb.mono h.bw.size), h.lo⟩
theorem CSt.turn {w wr : World} {g : Gr} {p : Ad} {bl a g1 g2 g3 k h1 h2 h3 B : Nat} (h : CSt w wr g p bl a g1 g2 g3) (hm : MadeG B wr g.n h1 h2 h3 (g.turn k).B (g.turn k).R (g.turn k).D) (hB : bl < B) : CSt w (st5 wr bl (.int .i64 (g.th k)) (.int .i64 (g.tw k)) (.slice (some ⟨h1, 0, none⟩) g.n g.n) (.slice (some ⟨h2, 0, none⟩) g.n g.n) (.slice (some ⟨h3, 0, none⟩) g.n g.n)) g p bl k h1 h2 h3 := by
  obtain ⟨l1, l2, l3⟩ := hm.lo
  have hlo := h.lo
  have hd := Dif.st5 (Dif.refl (fun j => j = bl) wr) (b := bl) rfl (.int .i64 (g.th k)) (.int .i64 (g.tw k)) (.slice (some ⟨h1, 0, none⟩) g.n g.n) (.slice (some ⟨h2, 0, none⟩) g.n g.n) (.slice (some ⟨h3, 0, none⟩) g.n g.n)
  exact ⟨h.f0.dif hd (by omega), h.f1.dif hd (by omega), h.fl.all _ _ _ _ _, (hm.st5 (by omega) _ _ _ _ _).base (by omega), ⟨by omega, by omega, by omega⟩, Below.all h.bw (by omega) h.bw.size _ _ _ _ _, h.lo⟩

set_option maxHeartbeats 1000000 in
theorem Canon_shut (g : Gr) (p : Ad) (w : World) (hw' : Wy w) (hR : RG w g p) (hc : ¬ g.ok) :
    Calls Tryd.prog 14 #[gv g p] w fun e w' => e = .returned (.tuple #[zeroG, .int .i64 0, .int .i64 (g.chk : Nat)]) ∧ Below w.heap.size w w' := by
  have hB0 : Below w.heap.size w ((w.alloc (.cells #[.int .i64 g.h, .int .i64 g.w, .slice p.a1 g.B.length p.c1, .slice p.a2 g.R.length p.c2, .slice p.a3 g.D.length p.c3] 24)).alloc (.cells #[.int .i64 0, .int .i64 0, .slice none 0 0, .slice none 0 0, .slice none 0 0] 24)) := (below_box w _).alloc (below_box w _).size _
  have cC := check_any g p ((w.alloc (.cells #[.int .i64 g.h, .int .i64 g.w, .slice p.a1 g.B.length p.c1, .slice p.a2 g.R.length p.c2, .slice p.a3 g.D.length p.c3] 24)).alloc (.cells #[.int .i64 0, .int .i64 0, .slice none 0 0, .slice none 0 0, .slice none 0 0] 24)) (hw'.below hw'.size hB0) (hR.below hB0)
  have F0 : Five ((w.alloc (.cells #[.int .i64 g.h, .int .i64 g.w, .slice p.a1 g.B.length p.c1, .slice p.a2 g.R.length p.c2, .slice p.a3 g.D.length p.c3] 24)).alloc (.cells #[.int .i64 0, .int .i64 0, .slice none 0 0, .slice none 0 0, .slice none 0 0] 24)) (w.heap.size + 1) (.int .i64 0) (.int .i64 0) (.slice none 0 0) (.slice none 0 0) (.slice none 0 0) := ⟨heap_alloc2_new w _ _⟩
  have hc2 : ¬ g.chk = 0 := hc
  unfold gv at cC
  unfold gv zeroG
  clear hR hw' hc
  go_enter Tryd.func14, Tryd.ntmps14
  go_wp2_with fail
  refine cC.mono ?_
  rintro e w1 ⟨rfl, hb1⟩
  have F1 := F0.keep hb1
  have HF : Aside (Five w1 (w.heap.size + 1) (.int .i64 0) (.int .i64 0) (.slice none 0 0) (.slice none 0 0) (.slice none 0 0) ∧ Below w.heap.size w w1) := ⟨F1, hB0.trans (hb1.mono hB0.size)⟩
  have z0 := F1.c0
  have z1 := F1.c1
  have z2 := F1.c2
  have z3 := F1.c3
  have z4 := F1.c4
  have y0 := F1.fr 0
  have y1 := F1.fr 1
  have y2 := F1.fr 2
  have y3 := F1.fr 3
  have y4 := F1.fr 4
  clear cC hb1 F0 F1 hB0
  go_wp2
  exact bodyPost_ret (results_g3 rfl _ _ (w.heap.size + 1) _ _ _ _ _ rfl (HF.out.1.all _ _ _ _ _)) rfl ⟨rfl, Below.all HF.out.2 (by omega) HF.out.2.size _ _ _ _ _⟩

set_option maxRecDepth 100000 in
set_option maxHeartbeats 4000000 in
theorem Canon_open (g : Gr) (p : Ad) (w : World) (hw' : Wy w) (hR : RG w g p) (hc : g.ok) :
    Calls Tryd.prog 14 #[gv g p] w fun e w' => ∃ a g1 g2 g3, e = .returned (.tuple #[gv3 (g.th a) (g.tw a) g.n g1 g2 g3, .int .i64 (a : Nat), .int .i64 0]) ∧ g.Least 8 a ∧ MadeG w.heap.size w' g.n g1 g2 g3 (g.turn a).B (g.turn a).R (g.turn a).D ∧ Below w.heap.size w w' := by
  have hB0 : Below w.heap.size w ((w.alloc (.cells #[.int .i64 g.h, .int .i64 g.w, .slice p.a1 g.B.length p.c1, .slice p.a2 g.R.length p.c2, .slice p.a3 g.D.length p.c3] 24)).alloc (.cells #[.int .i64 0, .int .i64 0, .slice none 0 0, .slice none 0 0, .slice none 0 0] 24)) := (below_box w _).alloc (below_box w _).size _
  have cC := check_any g p ((w.alloc (.cells #[.int .i64 g.h, .int .i64 g.w, .slice p.a1 g.B.length p.c1, .slice p.a2 g.R.length p.c2, .slice p.a3 g.D.length p.c3] 24)).alloc (.cells #[.int .i64 0, .int .i64 0, .slice none 0 0, .slice none 0 0, .slice none 0 0] 24)) (hw'.below hw'.size hB0) (hR.below hB0)
  rw [show g.chk = 0 from hc] at cC
  have F0 : Five ((w.alloc (.cells #[.int .i64 g.h, .int .i64 g.w, .slice p.a1 g.B.length p.c1, .slice p.a2 g.R.length p.c2, .slice p.a3 g.D.length p.c3] 24)).alloc (.cells #[.int .i64 0, .int .i64 0, .slice none 0 0, .slice none 0 0, .slice none 0 0] 24)) (w.heap.size + 1) (.int .i64 0) (.int .i64 0) (.slice none 0 0) (.slice none 0 0) (.slice none 0 0) := ⟨heap_alloc2_new w _ _⟩
  have G0 : Five ((w.alloc (.cells #[.int .i64 g.h, .int .i64 g.w, .slice p.a1 g.B.length p.c1, .slice p.a2 g.R.length p.c2, .slice p.a3 g.D.length p.c3] 24)).alloc (.cells #[.int .i64 0, .int .i64 0, .slice none 0 0, .slice none 0 0, .slice none 0 0] 24)) w.heap.size (.int .i64 g.h) (.int .i64 g.w) (.slice p.a1 g.B.length p.c1) (.slice p.a2 g.R.length p.c2) (.slice p.a3 g.D.length p.c3) := ⟨heap_alloc2_old w _ _⟩
  have CT : Aside (∀ (k : Nat) W, k < 8 → Below w.heap.size w W → Calls Tryd.prog 21 #[gv g p, .int .i64 k] W fun e w' => ∃ g1 g2 g3, e = .returned (gv3 (g.th k) (g.tw k) g.n g1 g2 g3) ∧ MadeG W.heap.size w' g.n g1 g2 g3 (g.turn k).B (g.turn k).R (g.turn k).D ∧ Below W.heap.size W w') := fun k W hk h => turned_any g p (Gr.right_of hc) k hk W (hR.below h)
  have CL : Aside (∀ (W : World) (k a h1 h2 h3 g1 g2 g3 B B' : Nat), MadeG B W g.n h1 h2 h3 (g.turn k).B (g.turn k).R (g.turn k).D → MadeG B' W g.n g1 g2 g3 (g.turn a).B (g.turn a).R (g.turn a).D → Calls Tryd.prog 29 #[gv3 (g.th k) (g.tw k) g.n h1 h2 h3, gv3 (g.th a) (g.tw a) g.n g1 g2 g3] W fun e w' => e = .returned (.bool ((g.turn k).less (g.turn a))) ∧ Below W.heap.size W w') := fun W k a h1 h2 h3 g1 g2 g3 B B' m1 m2 => by
    rw [gv3_gv (Gr.right_of hc), gv3_gv (Gr.right_of hc)]
    exact isLess_any (g.turn k) (g.turn a) _ _ W (Gr.turn_right (Gr.right_of hc) k) (Gr.turn_right (Gr.right_of hc) a) (by rw [g.turn_n, g.turn_n]) m1.rg m2.rg
  unfold gv at cC CT
  unfold gv3 at CT
  unfold gv gv3
  clear hR hw' hc
  go_enter Tryd.func14, Tryd.ntmps14
  go_wp2_with fail
  refine cC.mono ?_
  rintro e w1 ⟨rfl, hb1⟩
  have HF1 : Aside (Five w1 (w.heap.size + 1) (.int .i64 0) (.int .i64 0) (.slice none 0 0) (.slice none 0 0) (.slice none 0 0) ∧ Five w1 w.heap.size (.int .i64 g.h) (.int .i64 g.w) (.slice p.a1 g.B.length p.c1) (.slice p.a2 g.R.length p.c2) (.slice p.a3 g.D.length p.c3) ∧ Below w.heap.size w w1) := ⟨F0.keep hb1, G0.keep hb1, hB0.trans (hb1.mono hB0.size)⟩
  clear cC hb1 F0 G0 hB0
  have k0 := HF1.out.2.1.c0
  have k1 := HF1.out.2.1.c1
  have k2 := HF1.out.2.1.c2
  have k3 := HF1.out.2.1.c3
  have k4 := HF1.out.2.1.c4
  have cT := CT.out 0 w1 (by omega) HF1.out.2.2
  go_wp2_with fail
  refine cT.mono ?_
  rintro e w2 ⟨g1, g2, g3, rfl, hM, hb2⟩
  have H0 : Aside (CSt w (w2.alloc (.cells #[.int .i64 (g.th 0), .int .i64 (g.tw 0), .slice (some ⟨g1, 0, none⟩) g.n g.n, .slice (some ⟨g2, 0, none⟩) g.n g.n, .slice (some ⟨g3, 0, none⟩) g.n g.n] 24)) g p w2.heap.size 0 g1 g2 g3) := by
    obtain ⟨l1, l2, l3⟩ := hM.lo
    have hb3 := below_box w2 (.cells #[.int .i64 (g.th 0), .int .i64 (g.tw 0), .slice (some ⟨g1, 0, none⟩) g.n g.n, .slice (some ⟨g2, 0, none⟩) g.n g.n, .slice (some ⟨g3, 0, none⟩) g.n g.n] 24)
    have hs := HF1.out.1.lt
    exact ⟨(HF1.out.2.1.keep hb2).keep hb3, (HF1.out.1.keep hb2).keep hb3, ⟨hp_at rfl⟩, (hM.dif hb3).base (by omega), ⟨by omega, by omega, by omega⟩, (HF1.out.2.2.trans (hb2.mono HF1.out.2.2.size)).trans (hb3.mono (Nat.le_trans HF1.out.2.2.size hb2.size)), by have := hb2.size; omega⟩
  clear cT hb2 hM k0 k1 k2 k3 k4 HF1
  go_wp2
  generalize w2.heap.size = bl at *
  go_loopg [7, 8] 8 (fun gm av kv wr => ∃ (a k h1 h2 h3 : Nat), av = .int .i64 (a : Int) ∧ kv = .int .i64 (k : Int) ∧ 1 ≤ k ∧ k ≤ 8 ∧ 8 - k ≤ gm ∧ Aside (g.Least k a) ∧ Aside (CSt w wr g p bl a h1 h2 h3))
  case atStart => exact ⟨0, 1, g1, g2, g3, rfl, rfl, Nat.le_refl _, by omega, by omega, g.least_one, H0⟩
  case round =>
    clear H0
    obtain ⟨a, k, g1, g2, g3, rfl, rfl, hk1, hk8, hg, HL, HC⟩ := hrel
    by_cases hlt : k < 8
    · have hltz : (k : Int) < 8 := by omega
      have cT := CT.out k wr hlt HC.out.bw
      have k0 := HC.out.f0.c0
      have k1 := HC.out.f0.c1
      have k2 := HC.out.f0.c2
      have k3 := HC.out.f0.c3
      have k4 := HC.out.f0.c4
      go_wp2_with fail
      refine cT.mono ?_
      rintro e w3 ⟨h1, h2, h3, rfl, hM3, hb3⟩
      have hb4 := below_box w3 (.cells #[.int .i64 (g.th k), .int .i64 (g.tw k), .slice (some ⟨h1, 0, none⟩) g.n g.n, .slice (some ⟨h2, 0, none⟩) g.n g.n, .slice (some ⟨h3, 0, none⟩) g.n g.n] 24)
      have HC4 : Aside (CSt w (w3.alloc (.cells #[.int .i64 (g.th k), .int .i64 (g.tw k), .slice (some ⟨h1, 0, none⟩) g.n g.n, .slice (some ⟨h2, 0, none⟩) g.n g.n, .slice (some ⟨h3, 0, none⟩) g.n g.n] 24)) g p bl a g1 g2 g3) := (HC.out.keep hb3).keep hb4
      have HO4 : Aside (Five (w3.alloc (.cells #[.int .i64 (g.th k), .int .i64 (g.tw k), .slice (some ⟨h1, 0, none⟩) g.n g.n, .slice (some ⟨h2, 0, none⟩) g.n g.n, .slice (some ⟨h3, 0, none⟩) g.n g.n] 24)) w3.heap.size (.int .i64 (g.th k)) (.int .i64 (g.tw k)) (.slice (some ⟨h1, 0, none⟩) g.n g.n) (.slice (some ⟨h2, 0, none⟩) g.n g.n) (.slice (some ⟨h3, 0, none⟩) g.n g.n)) := ⟨hp_at rfl⟩
      have HM4 : Aside (MadeG wr.heap.size (w3.alloc (.cells #[.int .i64 (g.th k), .int .i64 (g.tw k), .slice (some ⟨h1, 0, none⟩) g.n g.n, .slice (some ⟨h2, 0, none⟩) g.n g.n, .slice (some ⟨h3, 0, none⟩) g.n g.n] 24)) g.n h1 h2 h3 (g.turn k).B (g.turn k).R (g.turn k).D) := hM3.dif hb4
      have HBL : Aside (bl < wr.heap.size) := HC.out.fl.lt
      have cL := CL.out (w3.alloc (.cells #[.int .i64 (g.th k), .int .i64 (g.tw k), .slice (some ⟨h1, 0, none⟩) g.n g.n, .slice (some ⟨h2, 0, none⟩) g.n g.n, .slice (some ⟨h3, 0, none⟩) g.n g.n] 24)) k a h1 h2 h3 g1 g2 g3 _ _ HM4.out HC4.out.m
      clear cT hb3 hb4 hM3 k0 k1 k2 k3 k4
      have r0 := HC4.out.fl.c0
      have r1 := HC4.out.fl.c1
      have r2 := HC4.out.fl.c2
      have r3 := HC4.out.fl.c3
      have r4 := HC4.out.fl.c4
      unfold gv3 at cL
      go_wp2_with fail
      refine cL.mono ?_
      rintro e w5 ⟨rfl, hb5⟩
      have HC5 : Aside (CSt w w5 g p bl a g1 g2 g3) := HC4.out.keep hb5
      have HM5 : Aside (MadeG wr.heap.size w5 g.n h1 h2 h3 (g.turn k).B (g.turn k).R (g.turn k).D) := HM4.out.dif hb5
      have HO5 : Aside (Five w5 w3.heap.size (.int .i64 (g.th k)) (.int .i64 (g.tw k)) (.slice (some ⟨h1, 0, none⟩) g.n g.n) (.slice (some ⟨h2, 0, none⟩) g.n g.n) (.slice (some ⟨h3, 0, none⟩) g.n g.n)) := HO4.out.keep hb5
      clear cL hb5 HC4 HM4 HO4 HC r0 r1 r2 r3 r4
      cases hls : (g.turn k).less (g.turn a) with
      | false =>
        have HL2 : Aside (g.Least (k + 1) a) := Gr.least_keep HL.out hls
        clear hls
        go_wp2
        go_roundg (8 - (k + 1))
        case measure => omega
        case rel => exact ⟨a, k + 1, g1, g2, g3, rfl, by go_num, by omega, by omega, Nat.le_refl _, HL2, HC5⟩
      | true =>
        have HL2 : Aside (g.Least (k + 1) k) := Gr.least_new HL.out hls
        clear hls
        have o0 := HO5.out.c0
        have o1 := HO5.out.c1
        have o2 := HO5.out.c2
        have o3 := HO5.out.c3
        have o4 := HO5.out.c4
        have r0 := HC5.out.fl.c0
        have r1 := HC5.out.fl.c1
        have r2 := HC5.out.fl.c2
        have r3 := HC5.out.fl.c3
        have r4 := HC5.out.fl.c4
        have y0 := HC5.out.fl.fr 0
        have y1 := HC5.out.fl.fr 1
        have y2 := HC5.out.fl.fr 2
        have y3 := HC5.out.fl.fr 3
        have y4 := HC5.out.fl.fr 4
        have HC6 : Aside (CSt w (st5 w5 bl (.int .i64 (g.th k)) (.int .i64 (g.tw k)) (.slice (some ⟨h1, 0, none⟩) g.n g.n) (.slice (some ⟨h2, 0, none⟩) g.n g.n) (.slice (some ⟨h3, 0, none⟩) g.n g.n)) g p bl k h1 h2 h3) := HC5.out.turn HM5.out HBL.out
        go_wp2
        go_roundg (8 - (k + 1))
        case measure => omega
        case rel => exact ⟨k, k + 1, h1, h2, h3, rfl, by go_num, by omega, by omega, Nat.le_refl _, HL2, HC6⟩
    · have hltz : ¬ (k : Int) < 8 := by omega
      obtain rfl : k = 8 := by omega
      have r0 := HC.out.fl.c0
      have r1 := HC.out.fl.c1
      have r2 := HC.out.fl.c2
      have r3 := HC.out.fl.c3
      have r4 := HC.out.fl.c4
      have z0 := HC.out.f1.c0
      have z1 := HC.out.f1.c1
      have z2 := HC.out.f1.c2
      have z3 := HC.out.f1.c3
      have z4 := HC.out.f1.c4
      have y0 := HC.out.f1.fr 0
      have y1 := HC.out.f1.fr 1
      have y2 := HC.out.f1.fr 2
      have y3 := HC.out.f1.fr 3
      have y4 := HC.out.f1.fr 4
      go_wp2
      obtain ⟨l1, l2, l3⟩ := HC.out.m.lo
      exact bodyPost_ret (results_g3 rfl _ _ (w.heap.size + 1) _ _ _ _ _ rfl (HC.out.f1.all _ _ _ _ _)) rfl ⟨a, g1, g2, g3, rfl, HL.out, (HC.out.m.st5 (by omega) _ _ _ _ _).base (by omega), Below.all HC.out.bw (by omega) HC.out.bw.size _ _ _ _ _⟩
end Go.Proofs.YtgpnnnhhidbajaaDoor.Grd
