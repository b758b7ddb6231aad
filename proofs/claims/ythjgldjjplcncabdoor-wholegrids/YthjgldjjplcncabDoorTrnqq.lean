/-
  Layer 6: turned, of a right grid.
-/
import Derived.Test.YthjgldjjplcncabDoorTrnoq
import Derived.Deep.CutRange
import Derived.Deep.RegionWith
namespace Go.Proofs.YthjgldjjplcncabDoor.Grd
open Go Go.Lib Go.RowKit

theorem Five.dif {O : Nat → Prop} {W W' : World} {b : Nat} {x0 x1 x2 x3 x4 : Value} (h : Five W b x0 x1 x2 x3 x4) (hd : Dif O W W') (ho : ¬ O b) : Five W' b x0 x1 x2 x3 x4 := ⟨(hd.block b h.lt ho).trans h.blk⟩
theorem Two.dif {O : Nat → Prop} {W W' : World} {b : Nat} {t : TypeId} {x0 x1 : Value} (h : Two W b t x0 x1) (hd : Dif O W W') (ho : ¬ O b) : Two W' b t x0 x1 := ⟨(hd.block b h.lt ho).trans h.blk⟩
/-- What lies where while a grid is turned. -/
structure TSt (w wr : World) (g : Gr) (p : Ad) (k ob g1 g2 g3 : Nat) (Bs Rs Ds : List Bool) : Prop where
  f0 : Five wr w.heap.size (.int .i64 g.H) (.int .i64 g.W) (.slice p.a1 g.n p.c1) (.slice p.a2 g.n p.c2) (.slice p.a3 g.n p.c3)
  f1 : Five wr (w.heap.size + 1) (.int .i64 0) (.int .i64 0) (.slice none 0 0) (.slice none 0 0) (.slice none 0 0)
  t2 : Two wr (w.heap.size + 1 + 1) 80 (.int .i64 g.H) (.int .i64 g.W)
  fo : Five wr ob (.int .i64 (g.th k)) (.int .i64 (g.tw k)) (.slice (some ⟨g1, 0, none⟩) g.n g.n) (.slice (some ⟨g2, 0, none⟩) g.n g.n) (.slice (some ⟨g3, 0, none⟩) g.n g.n)
  m : MadeG (w.heap.size + 1 + 1 + 1) wr g.n g1 g2 g3 Bs Rs Ds
  hi : g1 < ob ∧ g2 < ob ∧ g3 < ob
  bw : Below w.heap.size w wr
theorem TSt.keep {w wr w' : World} {g : Gr} {p : Ad} {k ob g1 g2 g3 : Nat} {Bs Rs Ds : List Bool} (h : TSt w wr g p k ob g1 g2 g3 Bs Rs Ds) (hb : Below wr.heap.size wr w') : TSt w w' g p k ob g1 g2 g3 Bs Rs Ds :=
  ⟨h.f0.keep hb, h.f1.keep hb, h.t2.keep hb, h.fo.keep hb, h.m.dif hb, h.hi, h.bw.trans (hb.mono h.bw.size)⟩
theorem TSt.put {w wr w' : World} {g : Gr} {p : Ad} {k ob g1 g2 g3 : Nat} {Bs Rs Ds Bs' Rs' Ds' : List Bool} (h : TSt w wr g p k ob g1 g2 g3 Bs Rs Ds) (hm : MadeG (w.heap.size + 1 + 1 + 1) w' g.n g1 g2 g3 Bs' Rs' Ds') (hd : Dif (fun b => b = g1 ∨ b = g2 ∨ b = g3) wr w') : TSt w w' g p k ob g1 g2 g3 Bs' Rs' Ds' := by
  obtain ⟨a, b, c⟩ := h.m.lo
  have := h.hi
  exact ⟨h.f0.dif hd (by omega), h.f1.dif hd (by omega), h.t2.dif hd (by omega), h.fo.dif hd (by omega), hm, h.hi, h.bw.trans (hd.below (fun k hk _ => by omega) h.bw.size)⟩

set_option maxRecDepth 20000 in
set_option maxHeartbeats 4000000 in
theorem turned_any (g : Gr) (p : Ad) (hr : g.Right) (k : Nat) (hk : k < 8) (w : World) (hR : RG w g p) :
    Calls Tryd.prog 22 #[gv g p, .int .i64 k] w fun e w' => ∃ g1 g2 g3, e = .returned (gv3 (g.th k) (g.tw k) g.n g1 g2 g3) ∧ MadeG w.heap.size w' g.n g1 g2 g3 (g.turn k).B (g.turn k).R (g.turn k).D ∧ Below w.heap.size w w' := by
  obtain ⟨hh1, hh2, hh3⟩ := hr.sh
  obtain ⟨hw1, hw2, hw3⟩ := hr.sw
  have hn := hr.n_le
  have cB : ∀ W, Calls Tryd.prog 42 #[.agg #[.int .i64 g.H, .int .i64 g.W], .int .i64 k] W fun e W' => ∃ g1 g2 g3, e = .returned (gv3 (g.th k) (g.tw k) g.n g1 g2 g3) ∧ MadeG W.heap.size W' g.n g1 g2 g3 (List.replicate g.n false) (List.replicate g.n false) (List.replicate g.n false) ∧ Below W.heap.size W W' := fun W => tblank_any g.H g.W k ⟨hh1, hh2⟩ ⟨hw1, hw2⟩ hk W
  have CM : Aside (∀ i, i < g.n → ∀ W, Calls Tryd.prog 33 #[.agg #[.int .i64 g.H, .int .i64 g.W], .int .i64 (i : Nat), .int .i64 k] W fun e W' => e = .returned (.int .i64 (g.to k i : Nat)) ∧ Below W.heap.size W W') := fun i hi W => moved_any g.H g.W i k ⟨hh1, hh2⟩ ⟨hw1, hw2⟩ hi hk W
  have htw : 1 ≤ g.tw k ∧ g.tw k ≤ 16 := by
    unfold Gr.tw
    by_cases e : k % 2 = 1
    · rw [if_pos e]; exact ⟨hh1, hh2⟩
    · rw [if_neg e]; exact ⟨hw1, hw2⟩
  have CS : Aside (∀ (W : World) (B g1 g2 g3 i j : Nat) (xs ys zs : List Bool), i < g.n → j < g.n → MadeG B W g.n g1 g2 g3 xs ys zs → Calls Tryd.prog 43 #[gv3 (g.th k) (g.tw k) g.n g1 g2 g3, .int .i64 (i : Nat), .int .i64 (j : Nat)] W fun e W' => e = .returned (.tuple #[]) ∧ MadeG B W' g.n g1 g2 g3 xs (setR (g.tw k) i j ys) (setD (g.tw k) i j zs) ∧ Dif (fun b => b = g2 ∨ b = g3) W W') :=
    fun W B g1 g2 g3 i j xs ys zs hi hj hM => setBar_any B (g.th k) (g.tw k) g.n g1 g2 g3 i j xs ys zs W htw hn.2 hi hj hM
  obtain ⟨a1, c1, a2, c2, a3, c3⟩ := p
  have HRG : Aside (∀ W, Below w.heap.size w W → RG W g ⟨a1, c1, a2, c2, a3, c3⟩) := fun W h => hR.below h
  obtain ⟨b1, o1, e1, _, _⟩ := hR.b 0 (by rw [hr.bl]; omega)
  obtain ⟨b2, o2, e2, _, _⟩ := hR.r 0 (by rw [hr.rl]; omega)
  obtain ⟨b3, o3, e3, _, _⟩ := hR.d 0 (by rw [hr.dl]; omega)
  dsimp only at e1 e2 e3
  subst e1 e2 e3
  have HCL : Aside (∀ W, Below w.heap.size w W → ∀ i, i < g.n → W.cell? ⟨b1, o1 + i, none⟩ = some (.bool (bt g.B i)) ∧ W.cell? ⟨b2, o2 + i, none⟩ = some (.bool (bt g.R i)) ∧ W.cell? ⟨b3, o3 + i, none⟩ = some (.bool (bt g.D i))) := fun W h i hi => by
    have hg := HRG.out W h
    obtain ⟨q1, r1, s1, _, t1⟩ := hg.b i (by rw [hr.bl]; exact hi)
    obtain ⟨q2, r2, s2, _, t2⟩ := hg.r i (by rw [hr.rl]; exact hi)
    obtain ⟨q3, r3, s3, _, t3⟩ := hg.d i (by rw [hr.dl]; exact hi)
    simp only [Option.some.injEq, Addr.mk.injEq, and_true] at s1 s2 s3
    obtain ⟨rfl, rfl⟩ := s1
    obtain ⟨rfl, rfl⟩ := s2
    obtain ⟨rfl, rfl⟩ := s3
    exact ⟨t1, t2, t3⟩
  have HRI : Aside g.Right := hr
  have HTL : Aside (∀ i, i < g.n → g.to k i < g.n) := fun i hi => Gr.to_lt hi k
  unfold gv
  rw [hr.bl, hr.rl, hr.dl, ← hh3, ← hw3]
  clear hh3 hw3 hr hR
  go_enter Tryd.func22, Tryd.ntmps22
  go_wp2_with fail
  refine (cB _).mono ?_
  rintro e w2 ⟨g1, g2, g3, rfl, hM, hb⟩
  have H0 : Aside (TSt w (w2.alloc (.cells #[.int .i64 (g.th k), .int .i64 (g.tw k), .slice (some ⟨g1, 0, none⟩) g.n g.n, .slice (some ⟨g2, 0, none⟩) g.n g.n, .slice (some ⟨g3, 0, none⟩) g.n g.n] 27)) g ⟨some ⟨b1, o1, none⟩, c1, some ⟨b2, o2, none⟩, c2, some ⟨b3, o3, none⟩, c3⟩ k w2.heap.size g1 g2 g3 (List.replicate g.n false) (List.replicate g.n false) (List.replicate g.n false)) := by
    obtain ⟨W0, hW0⟩ : ∃ W0, W0 = (((w.alloc (.cells #[.int .i64 g.H, .int .i64 g.W, .slice (some ⟨b1, o1, none⟩) g.n c1, .slice (some ⟨b2, o2, none⟩) g.n c2, .slice (some ⟨b3, o3, none⟩) g.n c3] 27)).alloc (.cells #[.int .i64 0, .int .i64 0, .slice none 0 0, .slice none 0 0, .slice none 0 0] 27)).alloc (.cells #[.int .i64 g.H, .int .i64 g.W] 80)) := ⟨_, rfl⟩
    rw [← hW0] at hM hb
    have hs0 : W0.heap.size = w.heap.size + 1 + 1 + 1 := by rw [hW0, World.size_alloc, World.size_alloc, World.size_alloc]
    have hB0 : Below w.heap.size w W0 := by rw [hW0]; exact ((below_box w _).alloc (below_box w _).size _).alloc (by simp; omega) _
    have f0 : Five W0 w.heap.size (.int .i64 g.H) (.int .i64 g.W) (.slice (some ⟨b1, o1, none⟩) g.n c1) (.slice (some ⟨b2, o2, none⟩) g.n c2) (.slice (some ⟨b3, o3, none⟩) g.n c3) := ⟨by rw [hW0, hp_past (by simp only [World.size_alloc]; omega), hp_past (by simp only [World.size_alloc]; omega)]; exact hp_at rfl⟩
    have f1 : Five W0 (w.heap.size + 1) (.int .i64 0) (.int .i64 0) (.slice none 0 0) (.slice none 0 0) (.slice none 0 0) := ⟨by rw [hW0, hp_past (by simp only [World.size_alloc]; omega)]; exact hp_at (by rw [World.size_alloc])⟩
    have t2 : Two W0 (w.heap.size + 1 + 1) 80 (.int .i64 g.H) (.int .i64 g.W) := ⟨by rw [hW0]; exact hp_at (by rw [World.size_alloc, World.size_alloc])⟩
    rw [hs0] at hM
    have hb3 := below_box w2 (.cells #[.int .i64 (g.th k), .int .i64 (g.tw k), .slice (some ⟨g1, 0, none⟩) g.n g.n, .slice (some ⟨g2, 0, none⟩) g.n g.n, .slice (some ⟨g3, 0, none⟩) g.n g.n] 27)
    obtain ⟨l1, l2, l3⟩ := hM.lo
    exact ⟨(f0.keep hb).keep hb3, (f1.keep hb).keep hb3, (t2.keep hb).keep hb3, ⟨hp_at rfl⟩, hM.dif hb3, ⟨l1.2, l2.2, l3.2⟩, (hB0.trans (hb.mono hB0.size)).trans (hb3.mono (Nat.le_trans hB0.size hb.size))⟩
  have HS0 : Aside (g.Stg k 0 (List.replicate g.n false) (List.replicate g.n false) (List.replicate g.n false)) := g.stg_zero k
  unfold gv3
  have k2 := H0.out.f0.c2
  dsimp only at k2
  clear hM hb cB
  go_wp2
  clear k2 htw
  have hob : w2.heap.size = w2.heap.size := rfl
  generalize w2.heap.size = ob at *
  go_loopg [21] g.n (fun g1' iv wr => ∃ (i : Nat) (Bs Rs Ds : List Bool), iv = .int .i64 (i : Int) ∧ i ≤ g.n ∧ g.n - i ≤ g1' ∧ Aside (TSt w wr g ⟨some ⟨b1, o1, none⟩, c1, some ⟨b2, o2, none⟩, c2, some ⟨b3, o3, none⟩, c3⟩ k ob g1 g2 g3 (Bs) (Rs) (Ds)) ∧ Aside (g.Stg k i Bs Rs Ds))
  case atStart => exact ⟨0, _, _, _, rfl, Nat.zero_le _, Nat.le_refl _, H0, HS0⟩
  case round =>
    clear H0 HS0
    obtain ⟨i, Bs, Rs, Ds, rfl, hi, hg, HT, HS⟩ := hrel
    by_cases hlt : i < g.n
    · have hltz : (i : Int) < (g.n : Int) := by omega
      have HNX0 := Gr.stg_next HRI.out hk hlt HS.out
      have cM := CM.out i hlt wr
      have hpl := HTL.out i hlt
      have q2 := HT.out.f0.c2
      have q3 := HT.out.f0.c3
      have q4 := HT.out.f0.c4
      have q1 := HT.out.f0.c1
      have s0 := HT.out.t2.c0
      have s1 := HT.out.t2.c1
      have r0 := HT.out.fo.c0
      have r1 := HT.out.fo.c1
      have r2 := HT.out.fo.c2
      have r3 := HT.out.fo.c3
      have r4 := HT.out.fo.c4
      obtain ⟨u1, u2, u3⟩ := HCL.out wr HT.out.bw i hlt
      dsimp only at q2 q3 q4
      go_wp2_with fail
      refine cM.mono ?_
      rintro e w3 ⟨rfl, hb3⟩
      have T3 := HT.out.keep hb3
      clear cM q1 q2 q3 q4 s0 s1 r0 r1 r2 r3 r4 u1 u2 u3
      have ck : w3.cell? ⟨g1, g.to k i, none⟩ = some (.bool (bt Bs (g.to k i))) := by
        rw [T3.m.r1.cellAt (g.to k i) (by omega), cellsB_at (by have := T3.m.len; omega)]
      have fk := T3.m.r1.frozenAt (g.to k i)
      generalize bt Bs (g.to k i) = v0 at ck
      have r2 := T3.fo.c2
      have HT4 : Aside (TSt w (w3.setCell ⟨g1, g.to k i, none⟩ (.bool (bt g.B i))) g ⟨some ⟨b1, o1, none⟩, c1, some ⟨b2, o2, none⟩, c2, some ⟨b3, o3, none⟩, c3⟩ k ob g1 g2 g3 (Bs.set (g.to k i) (bt g.B i)) (Rs) (Ds)) := T3.put (T3.m.put1 _) ((Dif.refl _ _).set g1 _ _ (.inl rfl))
      have hcc : (w3.setCell ⟨g1, g.to k i, none⟩ (.bool (bt g.B i))).heap.size = w3.heap.size := by simp
      have q2 := HT4.out.f0.c2
      have q3 := HT4.out.f0.c3
      have q4 := HT4.out.f0.c4
      have q1 := HT4.out.f0.c1
      have s0 := HT4.out.t2.c0
      have s1 := HT4.out.t2.c1
      have r0 := HT4.out.fo.c0
      have r1 := HT4.out.fo.c1
      have r2b := HT4.out.fo.c2
      have r3 := HT4.out.fo.c3
      have r4 := HT4.out.fo.c4
      obtain ⟨u1, u2, u3⟩ := HCL.out (w3.setCell ⟨g1, g.to k i, none⟩ (.bool (bt g.B i))) HT4.out.bw i hlt
      dsimp only at q2 q3 q4
      clear hb3 T3 HT HS
      generalize bt g.B i = vB at *
      cases hRi0 : bt g.R i with
      | false =>
        rw [hRi0] at u2 HNX0
        cases hDi0 : bt g.D i with
        | false =>
          rw [hDi0] at u3 HNX0
          have HNX : Aside (g.Stg k (i + 1) (Bs.set (g.to k i) vB) Rs Ds) := HNX0
          clear hRi0 hDi0 HNX0
          go_wp2
          go_roundg (g.n - (i + 1))
          case measure => omega
          case rel => exact ⟨i + 1, _, _, _, by go_num, by omega, Nat.le_refl _, HT4, HNX⟩
        | true =>
          rw [hDi0] at u3 HNX0
          have hDi : Aside (bt g.D i = true) := hDi0
          have HNX : Aside (g.Stg k (i + 1) (Bs.set (g.to k i) vB) (setR (g.tw k) (g.to k i) (g.to k (i + g.W)) Rs) (setD (g.tw k) (g.to k i) (g.to k (i + g.W)) Ds)) := HNX0
          clear hRi0 hDi0 HNX0
          have hjD : (i + g.W) < g.n := (Gr.below_in HRI.out hlt hDi.out).2
          have cM1 := CM.out (i + g.W) hjD
          have hjl := HTL.out (i + g.W) hjD
          simp only [Int.natCast_add] at cM1
          have hwr : IntKind.i64.wrap ((i : Int) + (g.W : Int)) = (i : Int) + (g.W : Int) := by rw [IntKind.wrap_i64]; omega
          go_upto_region 11 with fail
          clear u1 u2 u3
          go_region_with (first
            | (go_at_call 43; refine cS.mono ?_; rintro e wB ⟨rfl, hMB, hdB⟩; have TB : TSt w wB g ⟨some ⟨b1, o1, none⟩, c1, some ⟨b2, o2, none⟩, c2, some ⟨b3, o3, none⟩, c3⟩ k ob g1 g2 g3 (Bs.set (g.to k i) vB) (setR (g.tw k) (g.to k i) (g.to k (i + g.W)) (Rs)) (setD (g.tw k) (g.to k i) (g.to k (i + g.W)) (Ds)) := TA.out.put hMB (hdB.mono fun _ _ h => .inr h); clear hMB hdB)
            | (go_at_call 33; refine (cM1 _).mono ?_; rintro e wA ⟨rfl, hbA⟩; have TA : Aside (TSt w wA g ⟨some ⟨b1, o1, none⟩, c1, some ⟨b2, o2, none⟩, c2, some ⟨b3, o3, none⟩, c3⟩ k ob g1 g2 g3 (Bs.set (g.to k i) vB) (Rs) (Ds)) := (HT4.out.keep (Below.drew (Below.refl _ _))).keep hbA; have cS := CS.out wA _ g1 g2 g3 (g.to k i) (g.to k (i + g.W)) _ _ _ hpl hjl TA.out.m; unfold gv3 at cS; have x0 := TA.out.fo.c0; have x1 := TA.out.fo.c1; have x2 := TA.out.fo.c2; have x3 := TA.out.fo.c3; have x4 := TA.out.fo.c4; clear hbA))
          all_goals (try go_simp)
          all_goals (go_wp2_with fail)
          all_goals go_roundg (g.n - (i + 1))
          all_goals first
            | exact ⟨i + 1, _, _, _, by go_num, by omega, Nat.le_refl _, TB, HNX⟩
            | omega
      | true =>
        rw [hRi0] at u2 HNX0
        have hRi : Aside (bt g.R i = true) := hRi0
        clear hRi0
        have hjR : (i + 1) < g.n := (Gr.right_in HRI.out hlt hRi.out).2
        have cM1 := CM.out (i + 1) hjR
        have hjl := HTL.out (i + 1) hjR
        simp only [Int.natCast_add, Int.natCast_one] at cM1
        have hwr : IntKind.i64.wrap ((i : Int) + 1) = (i : Int) + 1 := by rw [IntKind.wrap_i64]; omega
        go_upto_region 9 with fail
        go_cut [] from 40 to 47 (fun wd => Aside (TSt w wd g ⟨some ⟨b1, o1, none⟩, c1, some ⟨b2, o2, none⟩, c2, some ⟨b3, o3, none⟩, c3⟩ k ob g1 g2 g3 (Bs.set (g.to k i) vB) (setR (g.tw k) (g.to k i) (g.to k (i + 1)) (Rs)) (setD (g.tw k) (g.to k i) (g.to k (i + 1)) (Ds))))
        case first =>
          clear u1 u2 u3
          go_region_with (first
            | (go_at_call 43; refine cS.mono ?_; rintro e wB ⟨rfl, hMB, hdB⟩; have TB : TSt w wB g ⟨some ⟨b1, o1, none⟩, c1, some ⟨b2, o2, none⟩, c2, some ⟨b3, o3, none⟩, c3⟩ k ob g1 g2 g3 (Bs.set (g.to k i) vB) (setR (g.tw k) (g.to k i) (g.to k (i + 1)) (Rs)) (setD (g.tw k) (g.to k i) (g.to k (i + 1)) (Ds)) := TA.out.put hMB (hdB.mono fun _ _ h => .inr h); clear hMB hdB)
            | (go_at_call 33; refine (cM1 _).mono ?_; rintro e wA ⟨rfl, hbA⟩; have TA : Aside (TSt w wA g ⟨some ⟨b1, o1, none⟩, c1, some ⟨b2, o2, none⟩, c2, some ⟨b3, o3, none⟩, c3⟩ k ob g1 g2 g3 (Bs.set (g.to k i) vB) (Rs) (Ds)) := (HT4.out.keep (Below.drew (Below.refl _ _))).keep hbA; have cS := CS.out wA _ g1 g2 g3 (g.to k i) (g.to k (i + 1)) _ _ _ hpl hjl TA.out.m; unfold gv3 at cS; have x0 := TA.out.fo.c0; have x1 := TA.out.fo.c1; have x2 := TA.out.fo.c2; have x3 := TA.out.fo.c3; have x4 := TA.out.fo.c4; clear hbA))
          all_goals (try go_simp)
          all_goals (go_wp2_with fail)
          all_goals go_meet
          all_goals exact TB
        case rest =>
          rename World => wd
          clear cM1 q1 q2 q3 q4 s0 s1 r0 r1 r2b r3 r4 u1 u2 u3 r2 ck fk
          have HT5 : Aside (TSt w wd g ⟨some ⟨b1, o1, none⟩, c1, some ⟨b2, o2, none⟩, c2, some ⟨b3, o3, none⟩, c3⟩ k ob g1 g2 g3 (Bs.set (g.to k i) vB) (setR (g.tw k) (g.to k i) (g.to k (i + 1)) (Rs)) (setD (g.tw k) (g.to k i) (g.to k (i + 1)) (Ds))) := hcut
          clear hcut HT4
          have q2 := HT5.out.f0.c2
          have q3 := HT5.out.f0.c3
          have q4 := HT5.out.f0.c4
          have q1 := HT5.out.f0.c1
          have s0 := HT5.out.t2.c0
          have s1 := HT5.out.t2.c1
          have r0 := HT5.out.fo.c0
          have r1 := HT5.out.fo.c1
          have r2b := HT5.out.fo.c2
          have r3 := HT5.out.fo.c3
          have r4 := HT5.out.fo.c4
          obtain ⟨u1, u2, u3⟩ := HCL.out wd HT5.out.bw i hlt
          dsimp only at q2 q3 q4
          cases hDi0 : bt g.D i with
          | false =>
            rw [hDi0] at u3 HNX0
            have HNX : Aside (g.Stg k (i + 1) (Bs.set (g.to k i) vB) (setR (g.tw k) (g.to k i) (g.to k (i + 1)) (Rs)) (setD (g.tw k) (g.to k i) (g.to k (i + 1)) (Ds))) := HNX0
            clear hDi0 HNX0
            go_wp2
            go_roundg (g.n - (i + 1))
            case measure => omega
            case rel => exact ⟨i + 1, _, _, _, by go_num, by omega, Nat.le_refl _, HT5, HNX⟩
          | true =>
            rw [hDi0] at u3 HNX0
            have hDi : Aside (bt g.D i = true) := hDi0
            have HNX : Aside (g.Stg k (i + 1) (Bs.set (g.to k i) vB) (setR (g.tw k) (g.to k i) (g.to k (i + g.W)) (setR (g.tw k) (g.to k i) (g.to k (i + 1)) (Rs))) (setD (g.tw k) (g.to k i) (g.to k (i + g.W)) (setD (g.tw k) (g.to k i) (g.to k (i + 1)) (Ds)))) := HNX0
            clear hDi0 HNX0
            have hjD : (i + g.W) < g.n := (Gr.below_in HRI.out hlt hDi.out).2
            have cM1 := CM.out (i + g.W) hjD
            have hjl := HTL.out (i + g.W) hjD
            simp only [Int.natCast_add] at cM1
            have hwr : IntKind.i64.wrap ((i : Int) + (g.W : Int)) = (i : Int) + (g.W : Int) := by rw [IntKind.wrap_i64]; omega
            go_upto_region 11 with fail
            clear u1 u2 u3
            go_region_with (first
              | (go_at_call 43; refine cS.mono ?_; rintro e wB ⟨rfl, hMB, hdB⟩; have TB : TSt w wB g ⟨some ⟨b1, o1, none⟩, c1, some ⟨b2, o2, none⟩, c2, some ⟨b3, o3, none⟩, c3⟩ k ob g1 g2 g3 (Bs.set (g.to k i) vB) (setR (g.tw k) (g.to k i) (g.to k (i + g.W)) (setR (g.tw k) (g.to k i) (g.to k (i + 1)) (Rs))) (setD (g.tw k) (g.to k i) (g.to k (i + g.W)) (setD (g.tw k) (g.to k i) (g.to k (i + 1)) (Ds))) := TA.out.put hMB (hdB.mono fun _ _ h => .inr h); clear hMB hdB)
              | (go_at_call 33; refine (cM1 _).mono ?_; rintro e wA ⟨rfl, hbA⟩; have TA : Aside (TSt w wA g ⟨some ⟨b1, o1, none⟩, c1, some ⟨b2, o2, none⟩, c2, some ⟨b3, o3, none⟩, c3⟩ k ob g1 g2 g3 (Bs.set (g.to k i) vB) (setR (g.tw k) (g.to k i) (g.to k (i + 1)) (Rs)) (setD (g.tw k) (g.to k i) (g.to k (i + 1)) (Ds))) := (HT5.out.keep (Below.drew (Below.refl _ _))).keep hbA; have cS := CS.out wA _ g1 g2 g3 (g.to k i) (g.to k (i + g.W)) _ _ _ hpl hjl TA.out.m; unfold gv3 at cS; have x0 := TA.out.fo.c0; have x1 := TA.out.fo.c1; have x2 := TA.out.fo.c2; have x3 := TA.out.fo.c3; have x4 := TA.out.fo.c4; clear hbA))
            all_goals (try go_simp)
            all_goals (go_wp2_with fail)
            all_goals go_roundg (g.n - (i + 1))
            all_goals first
              | exact ⟨i + 1, _, _, _, by go_num, by omega, Nat.le_refl _, TB, HNX⟩
              | omega
    · have hltz : ¬ (i : Int) < (g.n : Int) := by omega
      obtain rfl : i = g.n := by omega
      obtain ⟨eB, eR, eD⟩ := Gr.stg_end HRI.out hk HS.out
      subst eB eR eD
      have r0 := HT.out.fo.c0
      have r1 := HT.out.fo.c1
      have r2 := HT.out.fo.c2
      have r3 := HT.out.fo.c3
      have r4 := HT.out.fo.c4
      have z0 := HT.out.f1.c0
      have z1 := HT.out.f1.c1
      have z2 := HT.out.f1.c2
      have z3 := HT.out.f1.c3
      have z4 := HT.out.f1.c4
      have y0 := HT.out.f1.fr 0
      have y1 := HT.out.f1.fr 1
      have y2 := HT.out.f1.fr 2
      have y3 := HT.out.f1.fr 3
      have y4 := HT.out.f1.fr 4
      clear HS
      go_wp2
      have hF5 := ((((HT.out.f1.set0 (.int .i64 (g.th k))).set1 (.int .i64 (g.tw k))).set2 (.slice (some ⟨g1, 0, none⟩) g.n g.n)).set3 (.slice (some ⟨g2, 0, none⟩) g.n g.n)).set4 (.slice (some ⟨g3, 0, none⟩) g.n g.n)
      refine bodyPost_ret (results_g rfl _ _ (w.heap.size + 1) _ _ _ _ _ rfl hF5.c0 hF5.c1 hF5.c2 hF5.c3 hF5.c4) rfl ⟨g1, g2, g3, rfl, ?_, ?_⟩
      · exact (((((HT.out.m.setLow (by omega)).setLow (by omega)).setLow (by omega)).setLow (by omega)).setLow (by omega)).base (by omega)
      · have HB3 := HT.out.bw
        exact Below.setIn (Below.setIn (Below.setIn (Below.setIn (Below.setIn HB3 (by omega) HB3.size) (by omega) (by simpa using HB3.size)) (by omega) (by simpa using HB3.size)) (by omega) (by simpa using HB3.size)) (by omega) (by simpa using HB3.size)
end Go.Proofs.YthjgldjjplcncabDoor.Grd
