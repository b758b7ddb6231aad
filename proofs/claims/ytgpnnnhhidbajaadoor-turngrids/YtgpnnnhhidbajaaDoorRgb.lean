/-
  Layer 6: the document's Turn of a right grid.
-/
import Derived.Test.YtgpnnnhhidbajaaDoorRga
import Derived.Test.YtgpnnnhhidbajaaDoorTrnh
namespace Go.Proofs.YtgpnnnhhidbajaaDoor.Grd
open Go Go.Lib Go.RowKit

/-- What lies where while the document turns a grid. -/
structure RSt (w wr : World) (g : Gr) (p : Ad) (h' w' bt' g1 g2 g3 : Nat) (Bs Rs Ds : List Bool) : Prop where
  f0 : Five wr w.heap.size (.int .i64 g.H) (.int .i64 g.W) (.slice p.a1 g.n p.c1) (.slice p.a2 g.n p.c2) (.slice p.a3 g.n p.c3)
  f1 : Five wr (w.heap.size + 1) (.int .i64 0) (.int .i64 0) (.slice none 0 0) (.slice none 0 0) (.slice none 0 0)
  fo : Five wr bt' (.int .i64 h') (.int .i64 w') (.slice (some ⟨g1, 0, none⟩) g.n g.n) (.slice (some ⟨g2, 0, none⟩) g.n g.n) (.slice (some ⟨g3, 0, none⟩) g.n g.n)
  m : MadeG (w.heap.size + 1 + 1) wr g.n g1 g2 g3 Bs Rs Ds
  hi : g1 < bt' ∧ g2 < bt' ∧ g3 < bt'
  lo : w.heap.size + 1 < bt'
  bw : Below w.heap.size w wr
theorem RSt.keep {w wr w2 : World} {g : Gr} {p : Ad} {h' w' ob g1 g2 g3 : Nat} {Bs Rs Ds : List Bool} (h : RSt w wr g p h' w' ob g1 g2 g3 Bs Rs Ds) (hb : Below wr.heap.size wr w2) : RSt w w2 g p h' w' ob g1 g2 g3 Bs Rs Ds :=
  ⟨h.f0.keep hb, h.f1.keep hb, h.fo.keep hb, h.m.dif hb, h.hi, h.lo, h.bw.trans (hb.mono h.bw.size)⟩
theorem RSt.put {w wr w2 : World} {g : Gr} {p : Ad} {h' w' ob g1 g2 g3 : Nat} {Bs Rs Ds Bs' Rs' Ds' : List Bool} (h : RSt w wr g p h' w' ob g1 g2 g3 Bs Rs Ds) (hm : MadeG (w.heap.size + 1 + 1) w2 g.n g1 g2 g3 Bs' Rs' Ds') (hd : Dif (fun b => b = g1 ∨ b = g2 ∨ b = g3) wr w2) : RSt w w2 g p h' w' ob g1 g2 g3 Bs' Rs' Ds' := by
  obtain ⟨a, b, c⟩ := h.m.lo
  have := h.hi
  exact ⟨h.f0.dif hd (by omega), h.f1.dif hd (by omega), h.fo.dif hd (by omega), hm, h.hi, h.lo, h.bw.trans (hd.below (fun k hk _ => by omega) h.bw.size)⟩
/-- The grid laid in its box again. -/
theorem RSt.again {w wr : World} {g : Gr} {p : Ad} {h' w' ob g1 g2 g3 : Nat} {Bs Rs Ds : List Bool} (h : RSt w wr g p h' w' ob g1 g2 g3 Bs Rs Ds) : RSt w (st5 wr ob (.int .i64 h') (.int .i64 w') (.slice (some ⟨g1, 0, none⟩) g.n g.n) (.slice (some ⟨g2, 0, none⟩) g.n g.n) (.slice (some ⟨g3, 0, none⟩) g.n g.n)) g p h' w' ob g1 g2 g3 Bs Rs Ds := by
  have hd := Dif.st5 (Dif.refl (fun j => j = ob) wr) (b := ob) rfl (.int .i64 h') (.int .i64 w') (.slice (some ⟨g1, 0, none⟩) g.n g.n) (.slice (some ⟨g2, 0, none⟩) g.n g.n) (.slice (some ⟨g3, 0, none⟩) g.n g.n)
  have hl := h.lo
  have hh := h.hi
  exact ⟨h.f0.dif hd (by omega), h.f1.dif hd (by omega), h.fo.all _ _ _ _ _, h.m.st5 (by omega) _ _ _ _ _, h.hi, h.lo, Below.all h.bw (by omega) h.bw.size _ _ _ _ _⟩

set_option maxRecDepth 100000 in
set_option maxHeartbeats 8000000 in
theorem refTurn_odd (g : Gr) (p : Ad) (k : Nat) (w : World) (hk : k < 8) (hpar : k % 2 = 1) (hR : RG w g p) (hc : g.ok) :
    Calls Tryd.prog 9 #[gv g p, .int .i64 k] w fun e w' => ∃ g1 g2 g3, e = .returned (.tuple #[gv3 g.W g.H g.n g1 g2 g3, .int .i64 0]) ∧ MadeG w.heap.size w' g.n g1 g2 g3 (g.turn k).B (g.turn k).R (g.turn k).D ∧ Below w.heap.size w w' := by
  have hr := Gr.right_of hc
  obtain ⟨hh1, hh2, hh3⟩ := hr.sh
  obtain ⟨hw1, hw2, hw3⟩ := hr.sw
  have hn := hr.n_le
  have etw : g.tw k = g.H := by unfold Gr.tw; rw [if_pos hpar]
  have hB0 : Below w.heap.size w ((w.alloc (.cells #[.int .i64 g.h, .int .i64 g.w, .slice p.a1 g.B.length p.c1, .slice p.a2 g.R.length p.c2, .slice p.a3 g.D.length p.c3] 24)).alloc (.cells #[.int .i64 0, .int .i64 0, .slice none 0 0, .slice none 0 0, .slice none 0 0] 24)) := (below_box w _).alloc (below_box w _).size _
  have cC := refCheck_any g p _ (hR.below hB0)
  rw [show g.chk = 0 from hc] at cC
  have hmn : g.W * g.H = g.n := Nat.mul_comm _ _
  have cB := fun W => refBlank_ok g.W g.H W ⟨hw1, hw2⟩ ⟨hh1, hh2⟩
  simp only [hmn] at cB
  have CM : Aside (∀ i, i < g.n → ∀ W, Calls Tryd.prog 24 #[.int .i64 g.H, .int .i64 g.W, .int .i64 (i : Nat), .int .i64 k] W fun e W' => e = .returned (.tuple #[.int .i64 (g.to k i : Nat), .int .i64 0]) ∧ Below W.heap.size W W') := fun i hi W => refPlace_in g.H g.W i k ⟨hh1, hh2⟩ ⟨hw1, hw2⟩ hi hk W
  have CS : Aside (∀ (W : World) (B g1 g2 g3 i j : Nat) (xs ys zs : List Bool), i < g.n → j < g.n → MadeG B W g.n g1 g2 g3 xs ys zs → Calls Tryd.prog 25 #[gv3 g.W g.H g.n g1 g2 g3, .int .i64 (i : Nat), .int .i64 (j : Nat)] W fun e W' => e = .returned (gv3 g.W g.H g.n g1 g2 g3) ∧ MadeG B W' g.n g1 g2 g3 xs (setR (g.tw k) i j ys) (setD (g.tw k) i j zs) ∧ Dif (fun b => b = g2 ∨ b = g3) W W') :=
    fun W B g1 g2 g3 i j xs ys zs hi hj hM => by rw [etw]; exact refbar_any B g.W g.H g.n g1 g2 g3 i j xs ys zs W ⟨hh1, hh2⟩ hn.2 hi hj hM
  obtain ⟨a1, c1, a2, c2, a3, c3⟩ := p
  have HRG : Aside (∀ W, Below w.heap.size w W → RG W g ⟨a1, c1, a2, c2, a3, c3⟩) := fun W h => hR.below h
  obtain ⟨b1, o1, e1, _, _⟩ := hR.b 0 (by rw [hr.bl]; omega)
  obtain ⟨b2, o2, e2, _, _⟩ := hR.r 0 (by rw [hr.rl]; omega)
  obtain ⟨b3, o3, e3, _, _⟩ := hR.d 0 (by rw [hr.dl]; omega)
  dsimp only at e1 e2 e3
  subst e1 e2 e3
  have HCL : Aside (∀ W, Below w.heap.size w W → ∀ i, i < g.n → W.cell? ⟨b1, o1 + i, none⟩ = some (.bool (bt g.B i)) ∧ W.cell? ⟨b2, o2 + i, none⟩ = some (.bool (bt g.R i)) ∧ W.cell? ⟨b3, o3 + i, none⟩ = some (.bool (bt g.D i))) := fun W h i hi => by
    have hg := HRG.out W h
    obtain ⟨q1, r1, s1, _, t1⟩ := hg.b i (by rw [hr.bl]; exact hi)
    obtain ⟨q2, r2, s2, _, t2⟩ := hg.r i (by rw [hr.rl]; exact hi)
    obtain ⟨q3, r3, s3, _, t3⟩ := hg.d i (by rw [hr.dl]; exact hi)
    simp only [Option.some.injEq, Addr.mk.injEq, and_true] at s1 s2 s3
    obtain ⟨rfl, rfl⟩ := s1
    obtain ⟨rfl, rfl⟩ := s2
    obtain ⟨rfl, rfl⟩ := s3
    exact ⟨t1, t2, t3⟩
  have HRI : Aside g.Right := hr
  have HTL : Aside (∀ i, i < g.n → g.to k i < g.n) := fun i hi => Gr.to_lt hi k
  have hmul : (g.H : Int) * (g.W : Int) = ((g.n : Nat) : Int) := (Int.natCast_mul _ _).symm
  unfold gv at cC
  unfold gv3 at CS
  unfold gv gv3
  rw [hr.bl, hr.rl, hr.dl, ← hh3, ← hw3] at cC hB0
  rw [hr.bl, hr.rl, hr.dl, ← hh3, ← hw3]
  dsimp only at cC hB0 ⊢
  have hk2 : (k : Int) % 2 = 1 := by omega
  clear hh3 hw3 hr hR hc etw
  go_enter Tryd.func9, Tryd.ntmps9
  go_wp2_with fail
  refine cC.mono ?_
  rintro e w1 ⟨rfl, hb1⟩
  have HF1 : Aside (Five w1 (w.heap.size + 1) (.int .i64 0) (.int .i64 0) (.slice none 0 0) (.slice none 0 0) (.slice none 0 0) ∧ Five w1 w.heap.size (.int .i64 g.H) (.int .i64 g.W) (.slice (some ⟨b1, o1, none⟩) g.n c1) (.slice (some ⟨b2, o2, none⟩) g.n c2) (.slice (some ⟨b3, o3, none⟩) g.n c3) ∧ Below w.heap.size w w1) := by
    refine ⟨Five.keep ⟨?_⟩ hb1, Five.keep ⟨?_⟩ hb1, hB0.trans (hb1.mono hB0.size)⟩
    · exact heap_alloc2_new w _ _
    · exact heap_alloc2_old w _ _
  clear cC hb1 hB0
  have k0 := HF1.out.2.1.c0
  have k1 := HF1.out.2.1.c1
  go_wp2
  go_big_region
  have HF2 : Aside (Five w1.drew (w.heap.size + 1) (.int .i64 0) (.int .i64 0) (.slice none 0 0) (.slice none 0 0) (.slice none 0 0) ∧ Five w1.drew w.heap.size (.int .i64 g.H) (.int .i64 g.W) (.slice (some ⟨b1, o1, none⟩) g.n c1) (.slice (some ⟨b2, o2, none⟩) g.n c2) (.slice (some ⟨b3, o3, none⟩) g.n c3) ∧ Below w.heap.size w w1.drew) := ⟨HF1.out.1.keep (Below.drew (Below.refl _ _)), HF1.out.2.1.keep (Below.drew (Below.refl _ _)), Below.drew HF1.out.2.2⟩
  clear k0 k1 HF1
  generalize w1.drew = w2 at *
  have cB2 := cB w2
  clear cB
  go_wp2_with fail
  refine cB2.mono ?_
  rintro e w3 ⟨g1, g2, g3, rfl, hM, hb3⟩
  have hb4 := below_box w3 (.cells #[.int .i64 g.W, .int .i64 g.H, .slice (some ⟨g1, 0, none⟩) g.n g.n, .slice (some ⟨g2, 0, none⟩) g.n g.n, .slice (some ⟨g3, 0, none⟩) g.n g.n] 24)
  have H0 : Aside (RSt w (w3.alloc (.cells #[.int .i64 g.W, .int .i64 g.H, .slice (some ⟨g1, 0, none⟩) g.n g.n, .slice (some ⟨g2, 0, none⟩) g.n g.n, .slice (some ⟨g3, 0, none⟩) g.n g.n] 24)) g ⟨some ⟨b1, o1, none⟩, c1, some ⟨b2, o2, none⟩, c2, some ⟨b3, o3, none⟩, c3⟩ g.W g.H w3.heap.size g1 g2 g3 (List.replicate g.n false) (List.replicate g.n false) (List.replicate g.n false)) := by
    obtain ⟨l1, l2, l3⟩ := hM.lo
    have hs := HF2.out.1.lt
    exact ⟨(HF2.out.2.1.keep hb3).keep hb4, (HF2.out.1.keep hb3).keep hb4, ⟨hp_at rfl⟩, (hM.dif hb4).base (by omega), ⟨by omega, by omega, by omega⟩, by have := hb3.size; omega, (HF2.out.2.2.trans (hb3.mono HF2.out.2.2.size)).trans (hb4.mono (Nat.le_trans HF2.out.2.2.size hb3.size))⟩
  have HS0 : Aside (g.Stg k 0 (List.replicate g.n false) (List.replicate g.n false) (List.replicate g.n false)) := g.stg_zero k
  clear cB2 hb3 hb4 hM HF2
  go_wp2
  generalize w3.heap.size = ob at *
  generalize decide ((k : Int) < 0) = d1 at *
  generalize decide (7 < (k : Int)) = d2 at *
  generalize (d1 || d2) = d3 at *
  try rw [hk2]
  clear hk2
  go_loopg [11] g.n (fun g1' iv wr => ∃ (i : Nat) (Bs Rs Ds : List Bool), iv = .int .i64 (i : Int) ∧ i ≤ g.n ∧ g.n - i ≤ g1' ∧ Aside (RSt w wr g ⟨some ⟨b1, o1, none⟩, c1, some ⟨b2, o2, none⟩, c2, some ⟨b3, o3, none⟩, c3⟩ g.W g.H ob g1 g2 g3 (Bs) (Rs) (Ds)) ∧ Aside (g.Stg k i Bs Rs Ds))
  case atStart => exact ⟨0, _, _, _, rfl, Nat.zero_le _, Nat.le_refl _, H0, HS0⟩
  case round =>
    clear H0 HS0
    obtain ⟨i, Bs, Rs, Ds, rfl, hi, hg, HT, HS⟩ := hrel
    by_cases hlt : i < g.n
    · have hltz : (i : Int) < (g.n : Int) := by omega
      have HNX0 := Gr.stg_next HRI.out hk hlt HS.out
      have cM := CM.out i hlt wr
      have hpl := HTL.out i hlt
      have q0 := HT.out.f0.c0
      have q1 := HT.out.f0.c1
      have q2 := HT.out.f0.c2
      have q3 := HT.out.f0.c3
      have q4 := HT.out.f0.c4
      have r0 := HT.out.fo.c0
      have r1 := HT.out.fo.c1
      have r2 := HT.out.fo.c2
      have r3 := HT.out.fo.c3
      have r4 := HT.out.fo.c4
      obtain ⟨u1, u2, u3⟩ := HCL.out wr HT.out.bw i hlt
      dsimp only at q2 q3 q4
      go_wp2_with fail
      refine cM.mono ?_
      rintro e w4 ⟨rfl, hb4⟩
      have T3 := HT.out.keep hb4
      clear cM q0 q1 q2 q3 q4 r0 r1 r2 r3 r4 u1 u2 u3
      have ck : w4.cell? ⟨g1, g.to k i, none⟩ = some (.bool (bt Bs (g.to k i))) := by
        rw [T3.m.r1.cellAt (g.to k i) (by omega), cellsB_at (by have := T3.m.len; omega)]
      have fk := T3.m.r1.frozenAt (g.to k i)
      generalize bt Bs (g.to k i) = v0 at ck
      obtain ⟨u1, _, _⟩ := HCL.out w4 T3.bw i hlt
      have q2 := T3.f0.c2
      dsimp only at q2
      have r2 := T3.fo.c2
      have HT4 : Aside (RSt w (w4.setCell ⟨g1, g.to k i, none⟩ (.bool (bt g.B i))).drew g ⟨some ⟨b1, o1, none⟩, c1, some ⟨b2, o2, none⟩, c2, some ⟨b3, o3, none⟩, c3⟩ g.W g.H ob g1 g2 g3 (Bs.set (g.to k i) (bt g.B i)) (Rs) (Ds)) := (T3.put (T3.m.put1 _) ((Dif.refl _ _).set g1 _ _ (.inl rfl))).keep (Below.drew (Below.refl _ _))
      clear hb4 T3 HT HS
      generalize bt g.B i = vB at *
      go_wp2
      go_big_region
      clear ck fk u1 q2 r2
      generalize (w4.setCell ⟨g1, g.to k i, none⟩ (.bool vB)).drew = w5 at *
      have q0 := HT4.out.f0.c0
      have q1 := HT4.out.f0.c1
      have q2 := HT4.out.f0.c2
      have q3 := HT4.out.f0.c3
      have q4 := HT4.out.f0.c4
      have r0 := HT4.out.fo.c0
      have r1 := HT4.out.fo.c1
      have r2 := HT4.out.fo.c2
      have r3 := HT4.out.fo.c3
      have r4 := HT4.out.fo.c4
      obtain ⟨u1, u2, u3⟩ := HCL.out w5 HT4.out.bw i hlt
      dsimp only at q2 q3 q4
      cases hRi0 : bt g.R i with
      | false =>
        rw [hRi0] at u2 HNX0
        cases hDi0 : bt g.D i with
        | false =>
          rw [hDi0] at u3 HNX0
          have HNX : Aside (g.Stg k (i + 1) (Bs.set (g.to k i) vB) Rs Ds) := HNX0
          clear hRi0 hDi0 HNX0
          go_wp2
          go_roundg (g.n - (i + 1))
          case measure => omega
          case rel => exact ⟨i + 1, _, _, _, by go_num, by omega, Nat.le_refl _, HT4, HNX⟩
        | true =>
          rw [hDi0] at u3 HNX0
          have hDi : Aside (bt g.D i = true) := hDi0
          have HNX : Aside (g.Stg k (i + 1) (Bs.set (g.to k i) vB) (setR (g.tw k) (g.to k i) (g.to k (i + g.W)) (Rs)) (setD (g.tw k) (g.to k i) (g.to k (i + g.W)) (Ds))) := HNX0
          clear hRi0 hDi0 HNX0
          have hjD : (i + g.W) < g.n := (Gr.below_in HRI.out hlt hDi.out).2
          have cM1 := CM.out (i + g.W) hjD
          have hjlD := HTL.out (i + g.W) hjD
          simp only [Int.natCast_add] at cM1
          go_wp2_with fail
          refine (cM1 _).mono ?_
          rintro e w6a ⟨rfl, hbA⟩
          have TAD : Aside (RSt w w6a g ⟨some ⟨b1, o1, none⟩, c1, some ⟨b2, o2, none⟩, c2, some ⟨b3, o3, none⟩, c3⟩ g.W g.H ob g1 g2 g3 (Bs.set (g.to k i) vB) (Rs) (Ds)) := HT4.out.keep hbA
          have cS := CS.out w6a _ g1 g2 g3 (g.to k i) (g.to k (i + g.W)) _ _ _ hpl hjlD TAD.out.m
          clear cM1 hbA q0 q1 q2 q3 q4 r0 r1 r2 r3 r4 u1 u2 u3
          have r0 := TAD.out.fo.c0
          have r1 := TAD.out.fo.c1
          have r2 := TAD.out.fo.c2
          have r3 := TAD.out.fo.c3
          have r4 := TAD.out.fo.c4
          go_wp2_with fail
          refine cS.mono ?_
          rintro e w6b ⟨rfl, hMB, hdB⟩
          have TCD : Aside (RSt w w6b g ⟨some ⟨b1, o1, none⟩, c1, some ⟨b2, o2, none⟩, c2, some ⟨b3, o3, none⟩, c3⟩ g.W g.H ob g1 g2 g3 (Bs.set (g.to k i) vB) (setR (g.tw k) (g.to k i) (g.to k (i + g.W)) (Rs)) (setD (g.tw k) (g.to k i) (g.to k (i + g.W)) (Ds))) := TAD.out.put hMB (hdB.mono fun _ _ h => .inr h)
          have TBD : Aside (RSt w (st5 w6b ob (.int .i64 g.W) (.int .i64 g.H) (.slice (some ⟨g1, 0, none⟩) g.n g.n) (.slice (some ⟨g2, 0, none⟩) g.n g.n) (.slice (some ⟨g3, 0, none⟩) g.n g.n)) g ⟨some ⟨b1, o1, none⟩, c1, some ⟨b2, o2, none⟩, c2, some ⟨b3, o3, none⟩, c3⟩ g.W g.H ob g1 g2 g3 (Bs.set (g.to k i) vB) (setR (g.tw k) (g.to k i) (g.to k (i + g.W)) (Rs)) (setD (g.tw k) (g.to k i) (g.to k (i + g.W)) (Ds))) := TCD.out.again
          clear cS hMB hdB r0 r1 r2 r3 r4
          have r0 := TCD.out.fo.c0
          have r1 := TCD.out.fo.c1
          have r2 := TCD.out.fo.c2
          have r3 := TCD.out.fo.c3
          have r4 := TCD.out.fo.c4
          have y0 := TCD.out.fo.fr 0
          have y1 := TCD.out.fo.fr 1
          have y2 := TCD.out.fo.fr 2
          have y3 := TCD.out.fo.fr 3
          have y4 := TCD.out.fo.fr 4
          go_wp2
          go_roundg (g.n - (i + 1))
          case measure => omega
          case rel => exact ⟨i + 1, _, _, _, by go_num, by omega, Nat.le_refl _, TBD, HNX⟩
      | true =>
        rw [hRi0] at u2 HNX0
        have hRi : Aside (bt g.R i = true) := hRi0
        clear hRi0
        have hjR : (i + 1) < g.n := (Gr.right_in HRI.out hlt hRi.out).2
        have cM1 := CM.out (i + 1) hjR
        have hjlR := HTL.out (i + 1) hjR
        simp only [Int.natCast_add, Int.natCast_one] at cM1
        go_wp2_with fail
        refine (cM1 _).mono ?_
        rintro e w6a ⟨rfl, hbA⟩
        have TAR : Aside (RSt w w6a g ⟨some ⟨b1, o1, none⟩, c1, some ⟨b2, o2, none⟩, c2, some ⟨b3, o3, none⟩, c3⟩ g.W g.H ob g1 g2 g3 (Bs.set (g.to k i) vB) (Rs) (Ds)) := HT4.out.keep hbA
        have cS := CS.out w6a _ g1 g2 g3 (g.to k i) (g.to k (i + 1)) _ _ _ hpl hjlR TAR.out.m
        clear cM1 hbA q0 q1 q2 q3 q4 r0 r1 r2 r3 r4 u1 u2 u3
        have r0 := TAR.out.fo.c0
        have r1 := TAR.out.fo.c1
        have r2 := TAR.out.fo.c2
        have r3 := TAR.out.fo.c3
        have r4 := TAR.out.fo.c4
        go_wp2_with fail
        refine cS.mono ?_
        rintro e w6b ⟨rfl, hMB, hdB⟩
        have TCR : Aside (RSt w w6b g ⟨some ⟨b1, o1, none⟩, c1, some ⟨b2, o2, none⟩, c2, some ⟨b3, o3, none⟩, c3⟩ g.W g.H ob g1 g2 g3 (Bs.set (g.to k i) vB) (setR (g.tw k) (g.to k i) (g.to k (i + 1)) (Rs)) (setD (g.tw k) (g.to k i) (g.to k (i + 1)) (Ds))) := TAR.out.put hMB (hdB.mono fun _ _ h => .inr h)
        have TBR : Aside (RSt w (st5 w6b ob (.int .i64 g.W) (.int .i64 g.H) (.slice (some ⟨g1, 0, none⟩) g.n g.n) (.slice (some ⟨g2, 0, none⟩) g.n g.n) (.slice (some ⟨g3, 0, none⟩) g.n g.n)) g ⟨some ⟨b1, o1, none⟩, c1, some ⟨b2, o2, none⟩, c2, some ⟨b3, o3, none⟩, c3⟩ g.W g.H ob g1 g2 g3 (Bs.set (g.to k i) vB) (setR (g.tw k) (g.to k i) (g.to k (i + 1)) (Rs)) (setD (g.tw k) (g.to k i) (g.to k (i + 1)) (Ds))) := TCR.out.again
        clear cS hMB hdB r0 r1 r2 r3 r4
        have r0 := TCR.out.fo.c0
        have r1 := TCR.out.fo.c1
        have r2 := TCR.out.fo.c2
        have r3 := TCR.out.fo.c3
        have r4 := TCR.out.fo.c4
        have y0 := TCR.out.fo.fr 0
        have y1 := TCR.out.fo.fr 1
        have y2 := TCR.out.fo.fr 2
        have y3 := TCR.out.fo.fr 3
        have y4 := TCR.out.fo.fr 4
        have q4r : (((((w6b.setCell ⟨ob, 0, none⟩ (.int .i64 g.W)).setCell ⟨ob, 1, none⟩ (.int .i64 g.H)).setCell ⟨ob, 2, none⟩ (.slice (some ⟨g1, 0, none⟩) g.n g.n)).setCell ⟨ob, 3, none⟩ (.slice (some ⟨g2, 0, none⟩) g.n g.n)).setCell ⟨ob, 4, none⟩ (.slice (some ⟨g3, 0, none⟩) g.n g.n)).cell? ⟨w.heap.size, 4, none⟩ = some (.slice (some ⟨b3, o3, none⟩) g.n c3) := TBR.out.f0.c4
        have q0r : (((((w6b.setCell ⟨ob, 0, none⟩ (.int .i64 g.W)).setCell ⟨ob, 1, none⟩ (.int .i64 g.H)).setCell ⟨ob, 2, none⟩ (.slice (some ⟨g1, 0, none⟩) g.n g.n)).setCell ⟨ob, 3, none⟩ (.slice (some ⟨g2, 0, none⟩) g.n g.n)).setCell ⟨ob, 4, none⟩ (.slice (some ⟨g3, 0, none⟩) g.n g.n)).cell? ⟨w.heap.size, 0, none⟩ = some (.int .i64 g.H) := TBR.out.f0.c0
        have q1r : (((((w6b.setCell ⟨ob, 0, none⟩ (.int .i64 g.W)).setCell ⟨ob, 1, none⟩ (.int .i64 g.H)).setCell ⟨ob, 2, none⟩ (.slice (some ⟨g1, 0, none⟩) g.n g.n)).setCell ⟨ob, 3, none⟩ (.slice (some ⟨g2, 0, none⟩) g.n g.n)).setCell ⟨ob, 4, none⟩ (.slice (some ⟨g3, 0, none⟩) g.n g.n)).cell? ⟨w.heap.size, 1, none⟩ = some (.int .i64 g.W) := TBR.out.f0.c1
        have u3r : (((((w6b.setCell ⟨ob, 0, none⟩ (.int .i64 g.W)).setCell ⟨ob, 1, none⟩ (.int .i64 g.H)).setCell ⟨ob, 2, none⟩ (.slice (some ⟨g1, 0, none⟩) g.n g.n)).setCell ⟨ob, 3, none⟩ (.slice (some ⟨g2, 0, none⟩) g.n g.n)).setCell ⟨ob, 4, none⟩ (.slice (some ⟨g3, 0, none⟩) g.n g.n)).cell? ⟨b3, o3 + i, none⟩ = some (.bool (bt g.D i)) := (HCL.out _ TBR.out.bw i hlt).2.2
        cases hDi0 : bt g.D i with
        | false =>
          rw [hDi0] at u3r HNX0
          have HNX : Aside (g.Stg k (i + 1) (Bs.set (g.to k i) vB) (setR (g.tw k) (g.to k i) (g.to k (i + 1)) (Rs)) (setD (g.tw k) (g.to k i) (g.to k (i + 1)) (Ds))) := HNX0
          clear hDi0 HNX0
          go_wp2
          go_roundg (g.n - (i + 1))
          case measure => omega
          case rel => exact ⟨i + 1, _, _, _, by go_num, by omega, Nat.le_refl _, TBR, HNX⟩
        | true =>
          rw [hDi0] at u3r HNX0
          have hDi : Aside (bt g.D i = true) := hDi0
          have HNX : Aside (g.Stg k (i + 1) (Bs.set (g.to k i) vB) (setR (g.tw k) (g.to k i) (g.to k (i + g.W)) (setR (g.tw k) (g.to k i) (g.to k (i + 1)) (Rs))) (setD (g.tw k) (g.to k i) (g.to k (i + g.W)) (setD (g.tw k) (g.to k i) (g.to k (i + 1)) (Ds)))) := HNX0
          clear hDi0 HNX0
          have hjD : (i + g.W) < g.n := (Gr.below_in HRI.out hlt hDi.out).2
          have cM1 := CM.out (i + g.W) hjD
          have hjlD := HTL.out (i + g.W) hjD
          simp only [Int.natCast_add] at cM1
          go_wp2_with fail
          refine (cM1 _).mono ?_
          rintro e w9a ⟨rfl, hbA⟩
          have TAD : Aside (RSt w w9a g ⟨some ⟨b1, o1, none⟩, c1, some ⟨b2, o2, none⟩, c2, some ⟨b3, o3, none⟩, c3⟩ g.W g.H ob g1 g2 g3 (Bs.set (g.to k i) vB) (setR (g.tw k) (g.to k i) (g.to k (i + 1)) (Rs)) (setD (g.tw k) (g.to k i) (g.to k (i + 1)) (Ds))) := TBR.out.keep hbA
          have cS := CS.out w9a _ g1 g2 g3 (g.to k i) (g.to k (i + g.W)) _ _ _ hpl hjlD TAD.out.m
          clear cM1 hbA r0 r1 r2 r3 r4 y0 y1 y2 y3 y4 q4r q0r q1r u3r
          have r0 := TAD.out.fo.c0
          have r1 := TAD.out.fo.c1
          have r2 := TAD.out.fo.c2
          have r3 := TAD.out.fo.c3
          have r4 := TAD.out.fo.c4
          go_wp2_with fail
          refine cS.mono ?_
          rintro e w9b ⟨rfl, hMB, hdB⟩
          have TCD : Aside (RSt w w9b g ⟨some ⟨b1, o1, none⟩, c1, some ⟨b2, o2, none⟩, c2, some ⟨b3, o3, none⟩, c3⟩ g.W g.H ob g1 g2 g3 (Bs.set (g.to k i) vB) (setR (g.tw k) (g.to k i) (g.to k (i + g.W)) (setR (g.tw k) (g.to k i) (g.to k (i + 1)) (Rs))) (setD (g.tw k) (g.to k i) (g.to k (i + g.W)) (setD (g.tw k) (g.to k i) (g.to k (i + 1)) (Ds)))) := TAD.out.put hMB (hdB.mono fun _ _ h => .inr h)
          have TBD : Aside (RSt w (st5 w9b ob (.int .i64 g.W) (.int .i64 g.H) (.slice (some ⟨g1, 0, none⟩) g.n g.n) (.slice (some ⟨g2, 0, none⟩) g.n g.n) (.slice (some ⟨g3, 0, none⟩) g.n g.n)) g ⟨some ⟨b1, o1, none⟩, c1, some ⟨b2, o2, none⟩, c2, some ⟨b3, o3, none⟩, c3⟩ g.W g.H ob g1 g2 g3 (Bs.set (g.to k i) vB) (setR (g.tw k) (g.to k i) (g.to k (i + g.W)) (setR (g.tw k) (g.to k i) (g.to k (i + 1)) (Rs))) (setD (g.tw k) (g.to k i) (g.to k (i + g.W)) (setD (g.tw k) (g.to k i) (g.to k (i + 1)) (Ds)))) := TCD.out.again
          clear cS hMB hdB r0 r1 r2 r3 r4
          have r0 := TCD.out.fo.c0
          have r1 := TCD.out.fo.c1
          have r2 := TCD.out.fo.c2
          have r3 := TCD.out.fo.c3
          have r4 := TCD.out.fo.c4
          have y0 := TCD.out.fo.fr 0
          have y1 := TCD.out.fo.fr 1
          have y2 := TCD.out.fo.fr 2
          have y3 := TCD.out.fo.fr 3
          have y4 := TCD.out.fo.fr 4
          go_wp2
          go_roundg (g.n - (i + 1))
          case measure => omega
          case rel => exact ⟨i + 1, _, _, _, by go_num, by omega, Nat.le_refl _, TBD, HNX⟩
    · have hltz : ¬ (i : Int) < (g.n : Int) := by omega
      obtain rfl : i = g.n := by omega
      obtain ⟨eB, eR, eD⟩ := Gr.stg_end HRI.out hk HS.out
      subst eB eR eD
      have q0 := HT.out.f0.c0
      have q1 := HT.out.f0.c1
      have r0 := HT.out.fo.c0
      have r1 := HT.out.fo.c1
      have r2 := HT.out.fo.c2
      have r3 := HT.out.fo.c3
      have r4 := HT.out.fo.c4
      have z0 := HT.out.f1.c0
      have z1 := HT.out.f1.c1
      have z2 := HT.out.f1.c2
      have z3 := HT.out.f1.c3
      have z4 := HT.out.f1.c4
      have y0 := HT.out.f1.fr 0
      have y1 := HT.out.f1.fr 1
      have y2 := HT.out.f1.fr 2
      have y3 := HT.out.f1.fr 3
      have y4 := HT.out.f1.fr 4
      clear HS
      go_wp2
      obtain ⟨l1, l2, l3⟩ := HT.out.m.lo
      exact bodyPost_ret (results_gtc rfl _ _ (w.heap.size + 1) _ _ _ _ _ rfl (HT.out.f1.all _ _ _ _ _)) rfl ⟨g1, g2, g3, rfl, (HT.out.m.st5 (by omega) _ _ _ _ _).base (by omega), Below.all HT.out.bw (by omega) HT.out.bw.size _ _ _ _ _⟩

set_option maxRecDepth 100000 in
set_option maxHeartbeats 8000000 in
theorem refTurn_even (g : Gr) (p : Ad) (k : Nat) (w : World) (hk : k < 8) (hpar : k % 2 = 0) (hR : RG w g p) (hc : g.ok) :
    Calls Tryd.prog 9 #[gv g p, .int .i64 k] w fun e w' => ∃ g1 g2 g3, e = .returned (.tuple #[gv3 g.H g.W g.n g1 g2 g3, .int .i64 0]) ∧ MadeG w.heap.size w' g.n g1 g2 g3 (g.turn k).B (g.turn k).R (g.turn k).D ∧ Below w.heap.size w w' := by
  have hr := Gr.right_of hc
  obtain ⟨hh1, hh2, hh3⟩ := hr.sh
  obtain ⟨hw1, hw2, hw3⟩ := hr.sw
  have hn := hr.n_le
  have etw : g.tw k = g.W := by unfold Gr.tw; rw [if_neg (by omega)]
  have hB0 : Below w.heap.size w ((w.alloc (.cells #[.int .i64 g.h, .int .i64 g.w, .slice p.a1 g.B.length p.c1, .slice p.a2 g.R.length p.c2, .slice p.a3 g.D.length p.c3] 24)).alloc (.cells #[.int .i64 0, .int .i64 0, .slice none 0 0, .slice none 0 0, .slice none 0 0] 24)) := (below_box w _).alloc (below_box w _).size _
  have cC := refCheck_any g p _ (hR.below hB0)
  rw [show g.chk = 0 from hc] at cC
  have hmn : g.H * g.W = g.n := rfl
  have cB := fun W => refBlank_ok g.H g.W W ⟨hh1, hh2⟩ ⟨hw1, hw2⟩
  simp only [hmn] at cB
  have CM : Aside (∀ i, i < g.n → ∀ W, Calls Tryd.prog 24 #[.int .i64 g.H, .int .i64 g.W, .int .i64 (i : Nat), .int .i64 k] W fun e W' => e = .returned (.tuple #[.int .i64 (g.to k i : Nat), .int .i64 0]) ∧ Below W.heap.size W W') := fun i hi W => refPlace_in g.H g.W i k ⟨hh1, hh2⟩ ⟨hw1, hw2⟩ hi hk W
  have CS : Aside (∀ (W : World) (B g1 g2 g3 i j : Nat) (xs ys zs : List Bool), i < g.n → j < g.n → MadeG B W g.n g1 g2 g3 xs ys zs → Calls Tryd.prog 25 #[gv3 g.H g.W g.n g1 g2 g3, .int .i64 (i : Nat), .int .i64 (j : Nat)] W fun e W' => e = .returned (gv3 g.H g.W g.n g1 g2 g3) ∧ MadeG B W' g.n g1 g2 g3 xs (setR (g.tw k) i j ys) (setD (g.tw k) i j zs) ∧ Dif (fun b => b = g2 ∨ b = g3) W W') :=
    fun W B g1 g2 g3 i j xs ys zs hi hj hM => by rw [etw]; exact refbar_any B g.H g.W g.n g1 g2 g3 i j xs ys zs W ⟨hw1, hw2⟩ hn.2 hi hj hM
  obtain ⟨a1, c1, a2, c2, a3, c3⟩ := p
  have HRG : Aside (∀ W, Below w.heap.size w W → RG W g ⟨a1, c1, a2, c2, a3, c3⟩) := fun W h => hR.below h
  obtain ⟨b1, o1, e1, _, _⟩ := hR.b 0 (by rw [hr.bl]; omega)
  obtain ⟨b2, o2, e2, _, _⟩ := hR.r 0 (by rw [hr.rl]; omega)
  obtain ⟨b3, o3, e3, _, _⟩ := hR.d 0 (by rw [hr.dl]; omega)
  dsimp only at e1 e2 e3
  subst e1 e2 e3
  have HCL : Aside (∀ W, Below w.heap.size w W → ∀ i, i < g.n → W.cell? ⟨b1, o1 + i, none⟩ = some (.bool (bt g.B i)) ∧ W.cell? ⟨b2, o2 + i, none⟩ = some (.bool (bt g.R i)) ∧ W.cell? ⟨b3, o3 + i, none⟩ = some (.bool (bt g.D i))) := fun W h i hi => by
    have hg := HRG.out W h
    obtain ⟨q1, r1, s1, _, t1⟩ := hg.b i (by rw [hr.bl]; exact hi)
    obtain ⟨q2, r2, s2, _, t2⟩ := hg.r i (by rw [hr.rl]; exact hi)
    obtain ⟨q3, r3, s3, _, t3⟩ := hg.d i (by rw [hr.dl]; exact hi)
    simp only [Option.some.injEq, Addr.mk.injEq, and_true] at s1 s2 s3
    obtain ⟨rfl, rfl⟩ := s1
    obtain ⟨rfl, rfl⟩ := s2
    obtain ⟨rfl, rfl⟩ := s3
    exact ⟨t1, t2, t3⟩
  have HRI : Aside g.Right := hr
  have HTL : Aside (∀ i, i < g.n → g.to k i < g.n) := fun i hi => Gr.to_lt hi k
  have hmul : (g.H : Int) * (g.W : Int) = ((g.n : Nat) : Int) := (Int.natCast_mul _ _).symm
  unfold gv at cC
  unfold gv3 at CS
  unfold gv gv3
  rw [hr.bl, hr.rl, hr.dl, ← hh3, ← hw3] at cC hB0
  rw [hr.bl, hr.rl, hr.dl, ← hh3, ← hw3]
  dsimp only at cC hB0 ⊢
  have hk2 : (k : Int) % 2 = 0 := by omega
  clear hh3 hw3 hr hR hc etw
  go_enter Tryd.func9, Tryd.ntmps9
  go_wp2_with fail
  refine cC.mono ?_
  rintro e w1 ⟨rfl, hb1⟩
  have HF1 : Aside (Five w1 (w.heap.size + 1) (.int .i64 0) (.int .i64 0) (.slice none 0 0) (.slice none 0 0) (.slice none 0 0) ∧ Five w1 w.heap.size (.int .i64 g.H) (.int .i64 g.W) (.slice (some ⟨b1, o1, none⟩) g.n c1) (.slice (some ⟨b2, o2, none⟩) g.n c2) (.slice (some ⟨b3, o3, none⟩) g.n c3) ∧ Below w.heap.size w w1) := by
    refine ⟨Five.keep ⟨?_⟩ hb1, Five.keep ⟨?_⟩ hb1, hB0.trans (hb1.mono hB0.size)⟩
    · exact heap_alloc2_new w _ _
    · exact heap_alloc2_old w _ _
  clear cC hb1 hB0
  have k0 := HF1.out.2.1.c0
  have k1 := HF1.out.2.1.c1
  go_wp2
  go_big_region
  have HF2 : Aside (Five w1.drew (w.heap.size + 1) (.int .i64 0) (.int .i64 0) (.slice none 0 0) (.slice none 0 0) (.slice none 0 0) ∧ Five w1.drew w.heap.size (.int .i64 g.H) (.int .i64 g.W) (.slice (some ⟨b1, o1, none⟩) g.n c1) (.slice (some ⟨b2, o2, none⟩) g.n c2) (.slice (some ⟨b3, o3, none⟩) g.n c3) ∧ Below w.heap.size w w1.drew) := ⟨HF1.out.1.keep (Below.drew (Below.refl _ _)), HF1.out.2.1.keep (Below.drew (Below.refl _ _)), Below.drew HF1.out.2.2⟩
  clear k0 k1 HF1
  generalize w1.drew = w2 at *
  have cB2 := cB w2
  clear cB
  go_wp2_with fail
  refine cB2.mono ?_
  rintro e w3 ⟨g1, g2, g3, rfl, hM, hb3⟩
  have hb4 := below_box w3 (.cells #[.int .i64 g.H, .int .i64 g.W, .slice (some ⟨g1, 0, none⟩) g.n g.n, .slice (some ⟨g2, 0, none⟩) g.n g.n, .slice (some ⟨g3, 0, none⟩) g.n g.n] 24)
  have H0 : Aside (RSt w (w3.alloc (.cells #[.int .i64 g.H, .int .i64 g.W, .slice (some ⟨g1, 0, none⟩) g.n g.n, .slice (some ⟨g2, 0, none⟩) g.n g.n, .slice (some ⟨g3, 0, none⟩) g.n g.n] 24)) g ⟨some ⟨b1, o1, none⟩, c1, some ⟨b2, o2, none⟩, c2, some ⟨b3, o3, none⟩, c3⟩ g.H g.W w3.heap.size g1 g2 g3 (List.replicate g.n false) (List.replicate g.n false) (List.replicate g.n false)) := by
    obtain ⟨l1, l2, l3⟩ := hM.lo
    have hs := HF2.out.1.lt
    exact ⟨(HF2.out.2.1.keep hb3).keep hb4, (HF2.out.1.keep hb3).keep hb4, ⟨hp_at rfl⟩, (hM.dif hb4).base (by omega), ⟨by omega, by omega, by omega⟩, by have := hb3.size; omega, (HF2.out.2.2.trans (hb3.mono HF2.out.2.2.size)).trans (hb4.mono (Nat.le_trans HF2.out.2.2.size hb3.size))⟩
  have HS0 : Aside (g.Stg k 0 (List.replicate g.n false) (List.replicate g.n false) (List.replicate g.n false)) := g.stg_zero k
  clear cB2 hb3 hb4 hM HF2
  go_wp2
  generalize w3.heap.size = ob at *
  generalize decide ((k : Int) < 0) = d1 at *
  generalize decide (7 < (k : Int)) = d2 at *
  generalize (d1 || d2) = d3 at *
  try rw [hk2]
  clear hk2
  go_loopg [11] g.n (fun g1' iv wr => ∃ (i : Nat) (Bs Rs Ds : List Bool), iv = .int .i64 (i : Int) ∧ i ≤ g.n ∧ g.n - i ≤ g1' ∧ Aside (RSt w wr g ⟨some ⟨b1, o1, none⟩, c1, some ⟨b2, o2, none⟩, c2, some ⟨b3, o3, none⟩, c3⟩ g.H g.W ob g1 g2 g3 (Bs) (Rs) (Ds)) ∧ Aside (g.Stg k i Bs Rs Ds))
  case atStart => exact ⟨0, _, _, _, rfl, Nat.zero_le _, Nat.le_refl _, H0, HS0⟩
  case round =>
    clear H0 HS0
    obtain ⟨i, Bs, Rs, Ds, rfl, hi, hg, HT, HS⟩ := hrel
    by_cases hlt : i < g.n
    · have hltz : (i : Int) < (g.n : Int) := by omega
      have HNX0 := Gr.stg_next HRI.out hk hlt HS.out
      have cM := CM.out i hlt wr
      have hpl := HTL.out i hlt
      have q0 := HT.out.f0.c0
      have q1 := HT.out.f0.c1
      have q2 := HT.out.f0.c2
      have q3 := HT.out.f0.c3
      have q4 := HT.out.f0.c4
      have r0 := HT.out.fo.c0
      have r1 := HT.out.fo.c1
      have r2 := HT.out.fo.c2
      have r3 := HT.out.fo.c3
      have r4 := HT.out.fo.c4
      obtain ⟨u1, u2, u3⟩ := HCL.out wr HT.out.bw i hlt
      dsimp only at q2 q3 q4
      go_wp2_with fail
      refine cM.mono ?_
      rintro e w4 ⟨rfl, hb4⟩
      have T3 := HT.out.keep hb4
      clear cM q0 q1 q2 q3 q4 r0 r1 r2 r3 r4 u1 u2 u3
      have ck : w4.cell? ⟨g1, g.to k i, none⟩ = some (.bool (bt Bs (g.to k i))) := by
        rw [T3.m.r1.cellAt (g.to k i) (by omega), cellsB_at (by have := T3.m.len; omega)]
      have fk := T3.m.r1.frozenAt (g.to k i)
      generalize bt Bs (g.to k i) = v0 at ck
      obtain ⟨u1, _, _⟩ := HCL.out w4 T3.bw i hlt
      have q2 := T3.f0.c2
      dsimp only at q2
      have r2 := T3.fo.c2
      have HT4 : Aside (RSt w (w4.setCell ⟨g1, g.to k i, none⟩ (.bool (bt g.B i))).drew g ⟨some ⟨b1, o1, none⟩, c1, some ⟨b2, o2, none⟩, c2, some ⟨b3, o3, none⟩, c3⟩ g.H g.W ob g1 g2 g3 (Bs.set (g.to k i) (bt g.B i)) (Rs) (Ds)) := (T3.put (T3.m.put1 _) ((Dif.refl _ _).set g1 _ _ (.inl rfl))).keep (Below.drew (Below.refl _ _))
      clear hb4 T3 HT HS
      generalize bt g.B i = vB at *
      go_wp2
      go_big_region
      clear ck fk u1 q2 r2
      generalize (w4.setCell ⟨g1, g.to k i, none⟩ (.bool vB)).drew = w5 at *
      have q0 := HT4.out.f0.c0
      have q1 := HT4.out.f0.c1
      have q2 := HT4.out.f0.c2
      have q3 := HT4.out.f0.c3
      have q4 := HT4.out.f0.c4
      have r0 := HT4.out.fo.c0
      have r1 := HT4.out.fo.c1
      have r2 := HT4.out.fo.c2
      have r3 := HT4.out.fo.c3
      have r4 := HT4.out.fo.c4
      obtain ⟨u1, u2, u3⟩ := HCL.out w5 HT4.out.bw i hlt
      dsimp only at q2 q3 q4
      cases hRi0 : bt g.R i with
      | false =>
        rw [hRi0] at u2 HNX0
        cases hDi0 : bt g.D i with
        | false =>
          rw [hDi0] at u3 HNX0
          have HNX : Aside (g.Stg k (i + 1) (Bs.set (g.to k i) vB) Rs Ds) := HNX0
          clear hRi0 hDi0 HNX0
          go_wp2
          go_roundg (g.n - (i + 1))
          case measure => omega
          case rel => exact ⟨i + 1, _, _, _, by go_num, by omega, Nat.le_refl _, HT4, HNX⟩
        | true =>
          rw [hDi0] at u3 HNX0
          have hDi : Aside (bt g.D i = true) := hDi0
          have HNX : Aside (g.Stg k (i + 1) (Bs.set (g.to k i) vB) (setR (g.tw k) (g.to k i) (g.to k (i + g.W)) (Rs)) (setD (g.tw k) (g.to k i) (g.to k (i + g.W)) (Ds))) := HNX0
          clear hRi0 hDi0 HNX0
          have hjD : (i + g.W) < g.n := (Gr.below_in HRI.out hlt hDi.out).2
          have cM1 := CM.out (i + g.W) hjD
          have hjlD := HTL.out (i + g.W) hjD
          simp only [Int.natCast_add] at cM1
          go_wp2_with fail
          refine (cM1 _).mono ?_
          rintro e w6a ⟨rfl, hbA⟩
          have TAD : Aside (RSt w w6a g ⟨some ⟨b1, o1, none⟩, c1, some ⟨b2, o2, none⟩, c2, some ⟨b3, o3, none⟩, c3⟩ g.H g.W ob g1 g2 g3 (Bs.set (g.to k i) vB) (Rs) (Ds)) := HT4.out.keep hbA
          have cS := CS.out w6a _ g1 g2 g3 (g.to k i) (g.to k (i + g.W)) _ _ _ hpl hjlD TAD.out.m
          clear cM1 hbA q0 q1 q2 q3 q4 r0 r1 r2 r3 r4 u1 u2 u3
          have r0 := TAD.out.fo.c0
          have r1 := TAD.out.fo.c1
          have r2 := TAD.out.fo.c2
          have r3 := TAD.out.fo.c3
          have r4 := TAD.out.fo.c4
          go_wp2_with fail
          refine cS.mono ?_
          rintro e w6b ⟨rfl, hMB, hdB⟩
          have TCD : Aside (RSt w w6b g ⟨some ⟨b1, o1, none⟩, c1, some ⟨b2, o2, none⟩, c2, some ⟨b3, o3, none⟩, c3⟩ g.H g.W ob g1 g2 g3 (Bs.set (g.to k i) vB) (setR (g.tw k) (g.to k i) (g.to k (i + g.W)) (Rs)) (setD (g.tw k) (g.to k i) (g.to k (i + g.W)) (Ds))) := TAD.out.put hMB (hdB.mono fun _ _ h => .inr h)
          have TBD : Aside (RSt w (st5 w6b ob (.int .i64 g.H) (.int .i64 g.W) (.slice (some ⟨g1, 0, none⟩) g.n g.n) (.slice (some ⟨g2, 0, none⟩) g.n g.n) (.slice (some ⟨g3, 0, none⟩) g.n g.n)) g ⟨some ⟨b1, o1, none⟩, c1, some ⟨b2, o2, none⟩, c2, some ⟨b3, o3, none⟩, c3⟩ g.H g.W ob g1 g2 g3 (Bs.set (g.to k i) vB) (setR (g.tw k) (g.to k i) (g.to k (i + g.W)) (Rs)) (setD (g.tw k) (g.to k i) (g.to k (i + g.W)) (Ds))) := TCD.out.again
          clear cS hMB hdB r0 r1 r2 r3 r4
          have r0 := TCD.out.fo.c0
          have r1 := TCD.out.fo.c1
          have r2 := TCD.out.fo.c2
          have r3 := TCD.out.fo.c3
          have r4 := TCD.out.fo.c4
          have y0 := TCD.out.fo.fr 0
          have y1 := TCD.out.fo.fr 1
          have y2 := TCD.out.fo.fr 2
          have y3 := TCD.out.fo.fr 3
          have y4 := TCD.out.fo.fr 4
          go_wp2
          go_roundg (g.n - (i + 1))
          case measure => omega
          case rel => exact ⟨i + 1, _, _, _, by go_num, by omega, Nat.le_refl _, TBD, HNX⟩
      | true =>
        rw [hRi0] at u2 HNX0
        have hRi : Aside (bt g.R i = true) := hRi0
        clear hRi0
        have hjR : (i + 1) < g.n := (Gr.right_in HRI.out hlt hRi.out).2
        have cM1 := CM.out (i + 1) hjR
        have hjlR := HTL.out (i + 1) hjR
        simp only [Int.natCast_add, Int.natCast_one] at cM1
        go_wp2_with fail
        refine (cM1 _).mono ?_
        rintro e w6a ⟨rfl, hbA⟩
        have TAR : Aside (RSt w w6a g ⟨some ⟨b1, o1, none⟩, c1, some ⟨b2, o2, none⟩, c2, some ⟨b3, o3, none⟩, c3⟩ g.H g.W ob g1 g2 g3 (Bs.set (g.to k i) vB) (Rs) (Ds)) := HT4.out.keep hbA
        have cS := CS.out w6a _ g1 g2 g3 (g.to k i) (g.to k (i + 1)) _ _ _ hpl hjlR TAR.out.m
        clear cM1 hbA q0 q1 q2 q3 q4 r0 r1 r2 r3 r4 u1 u2 u3
        have r0 := TAR.out.fo.c0
        have r1 := TAR.out.fo.c1
        have r2 := TAR.out.fo.c2
        have r3 := TAR.out.fo.c3
        have r4 := TAR.out.fo.c4
        go_wp2_with fail
        refine cS.mono ?_
        rintro e w6b ⟨rfl, hMB, hdB⟩
        have TCR : Aside (RSt w w6b g ⟨some ⟨b1, o1, none⟩, c1, some ⟨b2, o2, none⟩, c2, some ⟨b3, o3, none⟩, c3⟩ g.H g.W ob g1 g2 g3 (Bs.set (g.to k i) vB) (setR (g.tw k) (g.to k i) (g.to k (i + 1)) (Rs)) (setD (g.tw k) (g.to k i) (g.to k (i + 1)) (Ds))) := TAR.out.put hMB (hdB.mono fun _ _ h => .inr h)
        have TBR : Aside (RSt w (st5 w6b ob (.int .i64 g.H) (.int .i64 g.W) (.slice (some ⟨g1, 0, none⟩) g.n g.n) (.slice (some ⟨g2, 0, none⟩) g.n g.n) (.slice (some ⟨g3, 0, none⟩) g.n g.n)) g ⟨some ⟨b1, o1, none⟩, c1, some ⟨b2, o2, none⟩, c2, some ⟨b3, o3, none⟩, c3⟩ g.H g.W ob g1 g2 g3 (Bs.set (g.to k i) vB) (setR (g.tw k) (g.to k i) (g.to k (i + 1)) (Rs)) (setD (g.tw k) (g.to k i) (g.to k (i + 1)) (Ds))) := TCR.out.again
        clear cS hMB hdB r0 r1 r2 r3 r4
        have r0 := TCR.out.fo.c0
        have r1 := TCR.out.fo.c1
        have r2 := TCR.out.fo.c2
        have r3 := TCR.out.fo.c3
        have r4 := TCR.out.fo.c4
        have y0 := TCR.out.fo.fr 0
        have y1 := TCR.out.fo.fr 1
        have y2 := TCR.out.fo.fr 2
        have y3 := TCR.out.fo.fr 3
        have y4 := TCR.out.fo.fr 4
        have q4r : (((((w6b.setCell ⟨ob, 0, none⟩ (.int .i64 g.H)).setCell ⟨ob, 1, none⟩ (.int .i64 g.W)).setCell ⟨ob, 2, none⟩ (.slice (some ⟨g1, 0, none⟩) g.n g.n)).setCell ⟨ob, 3, none⟩ (.slice (some ⟨g2, 0, none⟩) g.n g.n)).setCell ⟨ob, 4, none⟩ (.slice (some ⟨g3, 0, none⟩) g.n g.n)).cell? ⟨w.heap.size, 4, none⟩ = some (.slice (some ⟨b3, o3, none⟩) g.n c3) := TBR.out.f0.c4
        have q0r : (((((w6b.setCell ⟨ob, 0, none⟩ (.int .i64 g.H)).setCell ⟨ob, 1, none⟩ (.int .i64 g.W)).setCell ⟨ob, 2, none⟩ (.slice (some ⟨g1, 0, none⟩) g.n g.n)).setCell ⟨ob, 3, none⟩ (.slice (some ⟨g2, 0, none⟩) g.n g.n)).setCell ⟨ob, 4, none⟩ (.slice (some ⟨g3, 0, none⟩) g.n g.n)).cell? ⟨w.heap.size, 0, none⟩ = some (.int .i64 g.H) := TBR.out.f0.c0
        have q1r : (((((w6b.setCell ⟨ob, 0, none⟩ (.int .i64 g.H)).setCell ⟨ob, 1, none⟩ (.int .i64 g.W)).setCell ⟨ob, 2, none⟩ (.slice (some ⟨g1, 0, none⟩) g.n g.n)).setCell ⟨ob, 3, none⟩ (.slice (some ⟨g2, 0, none⟩) g.n g.n)).setCell ⟨ob, 4, none⟩ (.slice (some ⟨g3, 0, none⟩) g.n g.n)).cell? ⟨w.heap.size, 1, none⟩ = some (.int .i64 g.W) := TBR.out.f0.c1
        have u3r : (((((w6b.setCell ⟨ob, 0, none⟩ (.int .i64 g.H)).setCell ⟨ob, 1, none⟩ (.int .i64 g.W)).setCell ⟨ob, 2, none⟩ (.slice (some ⟨g1, 0, none⟩) g.n g.n)).setCell ⟨ob, 3, none⟩ (.slice (some ⟨g2, 0, none⟩) g.n g.n)).setCell ⟨ob, 4, none⟩ (.slice (some ⟨g3, 0, none⟩) g.n g.n)).cell? ⟨b3, o3 + i, none⟩ = some (.bool (bt g.D i)) := (HCL.out _ TBR.out.bw i hlt).2.2
        cases hDi0 : bt g.D i with
        | false =>
          rw [hDi0] at u3r HNX0
          have HNX : Aside (g.Stg k (i + 1) (Bs.set (g.to k i) vB) (setR (g.tw k) (g.to k i) (g.to k (i + 1)) (Rs)) (setD (g.tw k) (g.to k i) (g.to k (i + 1)) (Ds))) := HNX0
          clear hDi0 HNX0
          go_wp2
          go_roundg (g.n - (i + 1))
          case measure => omega
          case rel => exact ⟨i + 1, _, _, _, by go_num, by omega, Nat.le_refl _, TBR, HNX⟩
        | true =>
          rw [hDi0] at u3r HNX0
          have hDi : Aside (bt g.D i = true) := hDi0
          have HNX : Aside (g.Stg k (i + 1) (Bs.set (g.to k i) vB) (setR (g.tw k) (g.to k i) (g.to k (i + g.W)) (setR (g.tw k) (g.to k i) (g.to k (i + 1)) (Rs))) (setD (g.tw k) (g.to k i) (g.to k (i + g.W)) (setD (g.tw k) (g.to k i) (g.to k (i + 1)) (Ds)))) := HNX0
          clear hDi0 HNX0
          have hjD : (i + g.W) < g.n := (Gr.below_in HRI.out hlt hDi.out).2
          have cM1 := CM.out (i + g.W) hjD
          have hjlD := HTL.out (i + g.W) hjD
          simp only [Int.natCast_add] at cM1
          go_wp2_with fail
          refine (cM1 _).mono ?_
          rintro e w9a ⟨rfl, hbA⟩
          have TAD : Aside (RSt w w9a g ⟨some ⟨b1, o1, none⟩, c1, some ⟨b2, o2, none⟩, c2, some ⟨b3, o3, none⟩, c3⟩ g.H g.W ob g1 g2 g3 (Bs.set (g.to k i) vB) (setR (g.tw k) (g.to k i) (g.to k (i + 1)) (Rs)) (setD (g.tw k) (g.to k i) (g.to k (i + 1)) (Ds))) := TBR.out.keep hbA
          have cS := CS.out w9a _ g1 g2 g3 (g.to k i) (g.to k (i + g.W)) _ _ _ hpl hjlD TAD.out.m
          clear cM1 hbA r0 r1 r2 r3 r4 y0 y1 y2 y3 y4 q4r q0r q1r u3r
          have r0 := TAD.out.fo.c0
          have r1 := TAD.out.fo.c1
          have r2 := TAD.out.fo.c2
          have r3 := TAD.out.fo.c3
          have r4 := TAD.out.fo.c4
          go_wp2_with fail
          refine cS.mono ?_
          rintro e w9b ⟨rfl, hMB, hdB⟩
          have TCD : Aside (RSt w w9b g ⟨some ⟨b1, o1, none⟩, c1, some ⟨b2, o2, none⟩, c2, some ⟨b3, o3, none⟩, c3⟩ g.H g.W ob g1 g2 g3 (Bs.set (g.to k i) vB) (setR (g.tw k) (g.to k i) (g.to k (i + g.W)) (setR (g.tw k) (g.to k i) (g.to k (i + 1)) (Rs))) (setD (g.tw k) (g.to k i) (g.to k (i + g.W)) (setD (g.tw k) (g.to k i) (g.to k (i + 1)) (Ds)))) := TAD.out.put hMB (hdB.mono fun _ _ h => .inr h)
          have TBD : Aside (RSt w (st5 w9b ob (.int .i64 g.H) (.int .i64 g.W) (.slice (some ⟨g1, 0, none⟩) g.n g.n) (.slice (some ⟨g2, 0, none⟩) g.n g.n) (.slice (some ⟨g3, 0, none⟩) g.n g.n)) g ⟨some ⟨b1, o1, none⟩, c1, some ⟨b2, o2, none⟩, c2, some ⟨b3, o3, none⟩, c3⟩ g.H g.W ob g1 g2 g3 (Bs.set (g.to k i) vB) (setR (g.tw k) (g.to k i) (g.to k (i + g.W)) (setR (g.tw k) (g.to k i) (g.to k (i + 1)) (Rs))) (setD (g.tw k) (g.to k i) (g.to k (i + g.W)) (setD (g.tw k) (g.to k i) (g.to k (i + 1)) (Ds)))) := TCD.out.again
          clear cS hMB hdB r0 r1 r2 r3 r4
          have r0 := TCD.out.fo.c0
          have r1 := TCD.out.fo.c1
          have r2 := TCD.out.fo.c2
          have r3 := TCD.out.fo.c3
          have r4 := TCD.out.fo.c4
          have y0 := TCD.out.fo.fr 0
          have y1 := TCD.out.fo.fr 1
          have y2 := TCD.out.fo.fr 2
          have y3 := TCD.out.fo.fr 3
          have y4 := TCD.out.fo.fr 4
          go_wp2
          go_roundg (g.n - (i + 1))
          case measure => omega
          case rel => exact ⟨i + 1, _, _, _, by go_num, by omega, Nat.le_refl _, TBD, HNX⟩
    · have hltz : ¬ (i : Int) < (g.n : Int) := by omega
      obtain rfl : i = g.n := by omega
      obtain ⟨eB, eR, eD⟩ := Gr.stg_end HRI.out hk HS.out
      subst eB eR eD
      have q0 := HT.out.f0.c0
      have q1 := HT.out.f0.c1
      have r0 := HT.out.fo.c0
      have r1 := HT.out.fo.c1
      have r2 := HT.out.fo.c2
      have r3 := HT.out.fo.c3
      have r4 := HT.out.fo.c4
      have z0 := HT.out.f1.c0
      have z1 := HT.out.f1.c1
      have z2 := HT.out.f1.c2
      have z3 := HT.out.f1.c3
      have z4 := HT.out.f1.c4
      have y0 := HT.out.f1.fr 0
      have y1 := HT.out.f1.fr 1
      have y2 := HT.out.f1.fr 2
      have y3 := HT.out.f1.fr 3
      have y4 := HT.out.f1.fr 4
      clear HS
      go_wp2
      obtain ⟨l1, l2, l3⟩ := HT.out.m.lo
      exact bodyPost_ret (results_gtc rfl _ _ (w.heap.size + 1) _ _ _ _ _ rfl (HT.out.f1.all _ _ _ _ _)) rfl ⟨g1, g2, g3, rfl, (HT.out.m.st5 (by omega) _ _ _ _ _).base (by omega), Below.all HT.out.bw (by omega) HT.out.bw.size _ _ _ _ _⟩
end Go.Proofs.YtgpnnnhhidbajaaDoor.Grd
