/-
  Layer 6: the document's order and less.
-/
import Derived.Test.YtgpnnnhhidbajaaDoorTrnv
namespace Go.Proofs.YtgpnnnhhidbajaaDoor.Grd
open Go Go.Lib Go.RowKit

theorem cell_in {W : World} {b off : Nat} {v : Value} (h : W.cell? ⟨b, off, none⟩ = some v) : b < W.heap.size := by
  by_cases hb : b < W.heap.size
  · exact hb
  · have e : W.heap[b]? = none := Array.getElem?_eq_none (by omega)
    simp [World.cell?, e] at h

set_option maxHeartbeats 1000000 in
theorem order_some (x y : List Bool) (b1 o1 b2 o2 c1 c2 : Nat) (w : World) (hl : x.length = y.length) (hn : x.length ≤ 256) (h1 : ∀ i, i < x.length → w.cell? ⟨b1, o1 + i, none⟩ = some (.bool (bt x i))) (h2 : ∀ i, i < x.length → w.cell? ⟨b2, o2 + i, none⟩ = some (.bool (bt y i))) :
    Calls Tryd.prog 44 #[.slice (some ⟨b1, o1, none⟩) x.length c1, .slice (some ⟨b2, o2, none⟩) y.length c2] w fun e w' => e = .returned (.int .i64 (ordL x y)) ∧ Below w.heap.size w w' := by
  have HR : Aside (∀ W i, Below w.heap.size w W → i < x.length → W.cell? ⟨b1, o1 + i, none⟩ = some (.bool (bt x i)) ∧ W.cell? ⟨b2, o2 + i, none⟩ = some (.bool (bt y i))) := fun W i hb hi => by
    have l1 : b1 < w.heap.size := cell_in (h1 i hi)
    have l2 : b2 < w.heap.size := cell_in (h2 i hi)
    exact ⟨(hb.cell (p := ⟨b1, o1 + i, none⟩) l1).trans (h1 i hi), (hb.cell (p := ⟨b2, o2 + i, none⟩) l2).trans (h2 i hi)⟩
  have HD : Aside (∀ i, i < x.length → (∀ j, j < i → bt x j = bt y j) → bt x i ≠ bt y i → ordL x y = if bt x i then -1 else 1) := fun i hi hp hne => ordL_diff i x y hi (by omega) hp hne
  have HS : Aside ((∀ j, j < x.length → bt x j = bt y j) → ordL x y = 0) := fun h => ordL_same x y hl h
  rw [← hl]
  generalize x.length = n at *
  clear h1 h2 hl
  go_enter Tryd.func44, Tryd.ntmps44
  go_wp2
  go_loopg [5] n (fun g1 iv wr => ∃ i : Nat, iv = .int .i64 (i : Int) ∧ i ≤ n ∧ n - i ≤ g1 ∧ Aside (∀ j, j < i → bt x j = bt y j) ∧ Aside (Below w.heap.size w wr))
  case atStart => exact ⟨0, rfl, Nat.zero_le _, Nat.le_refl _, (fun j hj => absurd hj (Nat.not_lt_zero j)), Below.refl _ _⟩
  case round =>
    obtain ⟨i, rfl, hi, hg, HP, HB⟩ := hrel
    by_cases hlt : i < n
    · have hltz : (i : Int) < (n : Int) := by omega
      obtain ⟨u1, u2⟩ := HR.out wr i HB.out hlt
      have HBd : Aside (Below w.heap.size w wr.drew) := Below.drew HB.out
      have HD1 := HD.out i hlt HP.out
      have HP2 : bt x i = bt y i → ∀ j, j < i + 1 → bt x j = bt y j := fun he j hj => by
        by_cases e : j = i
        · rw [e]; exact he
        · exact HP.out j (by omega)
      cases hx : bt x i with
      | false =>
        rw [hx] at u1 HD1 HP2
        cases hy : bt y i with
        | false =>
          rw [hy] at u2 HP2
          have HP3 : Aside (∀ j, j < i + 1 → bt x j = bt y j) := HP2 rfl
          clear hx hy HD1 HP2
          go_wp2
          go_big_region
          go_wp2
          go_roundg (n - (i + 1))
          case measure => omega
          case rel => exact ⟨i + 1, by go_num, by omega, Nat.le_refl _, HP3, HBd⟩
        | true =>
          rw [hy] at u2 HD1
          have HE : Aside (ordL x y = 1) := HD1 (by simp)
          clear hx hy HD1 HP2
          go_wp2
          go_big_region
          go_wp2
          go_ret
          refine ⟨?_, HBd.out⟩
          rw [HE.out]
          rfl
      | true =>
        rw [hx] at u1 HD1 HP2
        cases hy : bt y i with
        | true =>
          rw [hy] at u2 HP2
          have HP3 : Aside (∀ j, j < i + 1 → bt x j = bt y j) := HP2 rfl
          clear hx hy HD1 HP2
          go_wp2
          go_big_region
          go_wp2
          go_roundg (n - (i + 1))
          case measure => omega
          case rel => exact ⟨i + 1, by go_num, by omega, Nat.le_refl _, HP3, HBd⟩
        | false =>
          rw [hy] at u2 HD1
          have HE : Aside (ordL x y = -1) := HD1 (by simp)
          clear hx hy HD1 HP2
          go_wp2
          go_big_region
          go_wp2
          go_ret
          refine ⟨?_, HBd.out⟩
          rw [HE.out]
          rfl
    · have hltz : ¬ (i : Int) < (n : Int) := by omega
      have HE : Aside (ordL x y = 0) := HS.out fun j hj => HP.out j (by omega)
      go_wp2
      go_ret
      refine ⟨?_, HB.out⟩
      rw [HE.out]
      rfl
theorem order_any (x y : List Bool) (a1 a2 : Option Addr) (c1 c2 : Nat) (w : World) (hl : x.length = y.length) (hp : 0 < x.length) (hn : x.length ≤ 256) (h1 : ReadsB w a1 x) (h2 : ReadsB w a2 y) :
    Calls Tryd.prog 44 #[.slice a1 x.length c1, .slice a2 y.length c2] w fun e w' => e = .returned (.int .i64 (ordL x y)) ∧ Below w.heap.size w w' := by
  obtain ⟨b1, o1, rfl, _, _⟩ := h1 0 hp
  obtain ⟨b2, o2, rfl, _, _⟩ := h2 0 (by omega)
  refine order_some x y b1 o1 b2 o2 c1 c2 w hl hn (fun i hi => ?_) (fun i hi => ?_)
  · obtain ⟨b, o, e, _, hc⟩ := h1 i hi
    simp only [Option.some.injEq, Addr.mk.injEq, and_true] at e
    obtain ⟨rfl, rfl⟩ := e
    exact hc
  · obtain ⟨b, o, e, _, hc⟩ := h2 i (by omega)
    simp only [Option.some.injEq, Addr.mk.injEq, and_true] at e
    obtain ⟨rfl, rfl⟩ := e
    exact hc
theorem Gr.less_w {a b : Gr} (ha : a.Right) (hb : b.Right) (hn : a.n = b.n) (h : a.h = b.h) : a.w = b.w := by
  have h1 := ha.sh
  have h2 := hb.sh
  have h3 := ha.sw
  have h4 := hb.sw
  have eH : a.H = b.H := by omega
  unfold Gr.n at hn
  rw [eH] at hn
  have := Nat.eq_of_mul_eq_mul_left (by omega) hn
  omega

set_option maxHeartbeats 2000000 in
theorem refless_any (a b : Gr) (p q : Ad) (w : World) (ha : a.Right) (hb : b.Right) (hn : a.n = b.n) (hR : RG w a p) (hS : RG w b q) :
    Calls Tryd.prog 30 #[gv a p, gv b q] w fun e w' => e = .returned (.bool (a.less b)) ∧ Below w.heap.size w w' := by
  have hn1 := ha.n_le
  have C1 : Aside (∀ W, Below w.heap.size w W → Calls Tryd.prog 44 #[.slice p.a1 a.B.length p.c1, .slice q.a1 b.B.length q.c1] W fun e w' => e = .returned (.int .i64 (ordL a.B b.B)) ∧ Below W.heap.size W w') := fun W h => order_any a.B b.B p.a1 q.a1 p.c1 q.c1 W (by rw [ha.bl, hb.bl, hn]) (by rw [ha.bl]; omega) (by rw [ha.bl]; omega) (hR.b.below h) (hS.b.below h)
  have C2 : Aside (∀ W, Below w.heap.size w W → Calls Tryd.prog 44 #[.slice p.a2 a.R.length p.c2, .slice q.a2 b.R.length q.c2] W fun e w' => e = .returned (.int .i64 (ordL a.R b.R)) ∧ Below W.heap.size W w') := fun W h => order_any a.R b.R p.a2 q.a2 p.c2 q.c2 W (by rw [ha.rl, hb.rl, hn]) (by rw [ha.rl]; omega) (by rw [ha.rl]; omega) (hR.r.below h) (hS.r.below h)
  have C3 : Aside (∀ W, Below w.heap.size w W → Calls Tryd.prog 44 #[.slice p.a3 a.D.length p.c3, .slice q.a3 b.D.length q.c3] W fun e w' => e = .returned (.int .i64 (ordL a.D b.D)) ∧ Below W.heap.size W w') := fun W h => order_any a.D b.D p.a3 q.a3 p.c3 q.c3 W (by rw [ha.dl, hb.dl, hn]) (by rw [ha.dl]; omega) (by rw [ha.dl]; omega) (hR.d.below h) (hS.d.below h)
  have hww := Gr.less_w ha hb hn
  rw [Gr.less_eq ha hb hn]
  unfold ord3
  have r1 := ordL_range a.B b.B
  have r2 := ordL_range a.R b.R
  have r3 := ordL_range a.D b.D
  have HX : Aside (∀ ah aw, Below w.heap.size w ((w.alloc (.cells #[.int .i64 ah, .int .i64 aw, .slice p.a1 a.B.length p.c1, .slice p.a2 a.R.length p.c2, .slice p.a3 a.D.length p.c3] 24)).alloc (.cells #[.int .i64 b.h, .int .i64 b.w, .slice q.a1 b.B.length q.c1, .slice q.a2 b.R.length q.c2, .slice q.a3 b.D.length q.c3] 24))) := fun ah aw => (below_box w _).alloc (below_box w _).size _
  have HY : Aside (∀ ah aw, Hs ((w.alloc (.cells #[.int .i64 ah, .int .i64 aw, .slice p.a1 a.B.length p.c1, .slice p.a2 a.R.length p.c2, .slice p.a3 a.D.length p.c3] 24)).alloc (.cells #[.int .i64 b.h, .int .i64 b.w, .slice q.a1 b.B.length q.c1, .slice q.a2 b.R.length q.c2, .slice q.a3 b.D.length q.c3] 24)) w.heap.size ⟨ah, aw, a.B, a.R, a.D⟩ p ∧ Hs ((w.alloc (.cells #[.int .i64 ah, .int .i64 aw, .slice p.a1 a.B.length p.c1, .slice p.a2 a.R.length p.c2, .slice p.a3 a.D.length p.c3] 24)).alloc (.cells #[.int .i64 b.h, .int .i64 b.w, .slice q.a1 b.B.length q.c1, .slice q.a2 b.R.length q.c2, .slice q.a3 b.D.length q.c3] 24)) (w.heap.size + 1) b q) := fun ah aw => by
    refine ⟨(Hs.new (G := ⟨ah, aw, a.B, a.R, a.D⟩) ⟨hR.b, hR.r, hR.d⟩ _).keep (below_box _ _), ?_⟩
    have := Hs.new (W := w.alloc (.cells #[.int .i64 ah, .int .i64 aw, .slice p.a1 a.B.length p.c1, .slice p.a2 a.R.length p.c2, .slice p.a3 a.D.length p.c3] 24)) (hS.below (below_box w _)) 24
    rwa [World.size_alloc] at this
  unfold gv
  clear hR hS ha hb hn
  generalize ordL a.B b.B = x1 at *
  generalize ordL a.R b.R = x2 at *
  generalize ordL a.D b.D = x3 at *
  by_cases hh : a.h = b.h
  · rw [if_pos hh]
    obtain ⟨o, ho⟩ : ∃ o, o = (if x1 = 0 then (if x2 = 0 then x3 else x2) else x1) := ⟨_, rfl⟩
    rw [← ho]
    have HO : Aside (o = (if x1 = 0 then (if x2 = 0 then x3 else x2) else x1)) := ho
    clear ho
    have hw2 := hww hh
    clear hww
    rw [hh, hw2]
    have cA := C1.out _ (HX.out b.h b.w)
    have HY0 := HY.out b.h b.w
    have HX0 := HX.out b.h b.w
    generalize b.h = bh at *
    generalize b.w = bw at *
    clear hh hw2 C1 HX HY
    have HB0 : Aside (Below w.heap.size w ((w.alloc (.cells #[.int .i64 bh, .int .i64 bw, .slice p.a1 a.B.length p.c1, .slice p.a2 a.R.length p.c2, .slice p.a3 a.D.length p.c3] 24)).alloc (.cells #[.int .i64 bh, .int .i64 bw, .slice q.a1 b.B.length q.c1, .slice q.a2 b.R.length q.c2, .slice q.a3 b.D.length q.c3] 24))) := HX0
    have HZ0 : Aside (_ ∧ _) := HY0
    clear HX0 HY0
    go_enter Tryd.func30, Tryd.ntmps30
    go_wp2_with fail
    refine cA.mono ?_
    rintro e w1 ⟨rfl, hb1⟩
    have hH1 := HZ0.out.1.keep hb1
    have hH2 := HZ0.out.2.keep hb1
    have HB1 : Aside (Below w.heap.size w w1) := HB0.out.trans (hb1.mono HB0.out.size)
    have cB := C2.out w1 HB1.out
    obtain ⟨_, k0, k1, k2, k3, k4⟩ := hH1.bx
    obtain ⟨_, j0, j1, j2, j3, j4⟩ := hH2.bx
    have HZ1 : Aside (Hs w1 w.heap.size _ p ∧ Hs w1 (w.heap.size + 1) _ q) := ⟨hH1, hH2⟩
    dsimp only at k0 k1 k2 k3 k4 j0 j1 j2 j3 j4
    clear hb1 cA hH1 hH2 HZ0 HB0
    by_cases q1 : x1 = 0
    · subst q1
      go_wp2_with fail
      refine cB.mono ?_
      rintro e w2 ⟨rfl, hb2⟩
      have hH1 := HZ1.out.1.keep hb2
      have hH2 := HZ1.out.2.keep hb2
      have HB2 : Aside (Below w.heap.size w w2) := HB1.out.trans (hb2.mono HB1.out.size)
      have cC := C3.out w2 HB2.out
      clear k0 k1 k2 k3 k4 j0 j1 j2 j3 j4
      obtain ⟨_, k0, k1, k2, k3, k4⟩ := hH1.bx
      obtain ⟨_, j0, j1, j2, j3, j4⟩ := hH2.bx
      dsimp only at k0 k1 k2 k3 k4 j0 j1 j2 j3 j4
      clear hb2 cB hH1 hH2 HZ1 HB1
      by_cases q2 : x2 = 0
      · subst q2
        have ho : o = x3 := by have := HO.out; simpa using this
        subst ho
        clear HO
        go_wp2_with fail
        refine cC.mono ?_
        rintro e w3 ⟨rfl, hb3⟩
        have HB3 : Aside (Below w.heap.size w w3) := HB2.out.trans (hb3.mono HB2.out.size)
        clear hb3 cC k0 k1 k2 k3 k4 j0 j1 j2 j3 j4
        go_wp2
        go_ret
        exact ⟨rfl, HB3.out⟩
      · have ho : o = x2 := by have := HO.out; simpa [q2] using this
        subst ho
        clear HO
        go_wp2
        go_ret
        exact ⟨rfl, HB2.out⟩
    · have ho : o = x1 := by have := HO.out; simpa [q1] using this
      subst ho
      clear HO
      go_wp2
      go_ret
      exact ⟨rfl, HB1.out⟩
  · rw [if_neg hh]
    have HB0 : Aside (Below w.heap.size w ((w.alloc (.cells #[.int .i64 a.h, .int .i64 a.w, .slice p.a1 a.B.length p.c1, .slice p.a2 a.R.length p.c2, .slice p.a3 a.D.length p.c3] 24)).alloc (.cells #[.int .i64 b.h, .int .i64 b.w, .slice q.a1 b.B.length q.c1, .slice q.a2 b.R.length q.c2, .slice q.a3 b.D.length q.c3] 24))) := HX.out _ _
    clear HX HY hww
    go_enter Tryd.func30, Tryd.ntmps30
    go_wp2
    go_ret
    exact ⟨rfl, HB0.out⟩
end Go.Proofs.YtgpnnnhhidbajaaDoor.Grd
