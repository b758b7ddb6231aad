/-
  TurnGrids: the first statement, that copies the grid, whichever order is drawn.
-/
import Derived.Test.YtgpnnnhhidbajaaDoorTcanonw
import Derived.Test.YtgpnnnhhidbajaaDoorRge6
import Derived.Test.YtgpnnnhhidbajaaDoorTrnx
import Derived.Test.YtgpnnnhhidbajaaDoorTgridsu
namespace Go.Proofs.YtgpnnnhhidbajaaDoor.Grd
open Go Go.Lib Go.RowKit

theorem takeD {P : Program} {ops : Array Oper} {Q : Exit → Act → World → Prop} {md : Region.Mode} {S : World → Prop} {i d : Nat} {v : Value} {fuel : Nat} {listed : Array Bool} {a : Act} {w : World} (hd : (ops[i]?).map (fun o => o.dst) = some (some d))
    (hs : Region.noSelect ops = true) (hf : Region.free md ops listed i = true) (hr : (Region.ready md ops listed).contains i = true)
    (hQ : ∀ c a w, Q (.panic c) (a.put (some d) v) w → Q (.panic c) a w) (hy : ∀ oi, ops[i]? = some oi → YieldsIf P ops S oi v a) (hS : S w)
    (h : wpAnyH P md ops Q S fuel (listed.setIfInBounds i true) (a.put (some d) v) w) : wpAnyH P md ops Q S (fuel + 1) listed a w := by
  cases ho : ops[i]? with
  | none => rw [ho] at hd; cases hd
  | some oi =>
    rw [ho] at hd
    have e : oi.dst = some d := by simpa using hd
    exact wpAnyH_take ho hs hf hr (by rw [e]; exact hQ) (hy oi ho) hS (by rw [e]; exact h)
theorem yields_now {P : Program} {ops : Array Oper} {S : World → Prop} {o oi : Oper} {v : Value} {a : Act} (ho : some o = some oi) (hw : Region.wanted o (yielded ops a.tmps) = true) (h : ∀ w, S w → (execOp a.eval o).run P w = .ok (.value v) w) : YieldsIf P ops S oi v a := by
  obtain rfl := Option.some.inj ho
  exact Or.inl ⟨hw, h⟩

theorem wpOp_call {P : Program} {ops : Array Oper} {Q : Exit → Act → World → Prop} {i d : Nat} {o : Oper} {K : Act → World → Prop} {a : Act} {w : World} {f : FuncId} {args : Array Value} {R : Ending → World → Prop} (q : ops[i]? = some o) (hw : Region.wanted o (yielded ops a.tmps) = true) (hd : o.dst = some d) (h : (execOp a.eval o).run P w = .ok (.enter f args) w) (hc : Calls P f args w R) (hK : ∀ e w', R e w' → ∃ v, e = .returned v ∧ K (a.put (some d) v) w') : wpOp P ops Q i K a w := by
  unfold wpOp
  simp only [q]
  rw [if_pos hw]
  refine .inl ?_
  unfold Oper.wp
  rw [h, Oper.upon_enter]
  refine hc.mono ?_
  intro e w' hR
  obtain ⟨v, rfl, hk⟩ := hK e w' hR
  rw [hd]
  exact hk
theorem wpOp_skip {P : Program} {ops : Array Oper} {Q : Exit → Act → World → Prop} {i : Nat} {o : Oper} {K : Act → World → Prop} {a : Act} {w w' : World} (q : ops[i]? = some o) (g : o.guard = none) (hd : o.dst = none) (h : (execOp a.eval o).run P w = .ok .skip w') (hK : K a w') : wpOp P ops Q i K a w := by
  refine wpOp_wp q g ?_
  unfold Oper.wp
  rw [h, Oper.upon_skip, hd]
  exact hK
theorem ReadsB.five {W : World} {b : Nat} {ao : Option Addr} {zs : List Bool} {i0 i1 : Int} (h : ReadsB W ao zs) (hF : Five W b (.int .i64 i0) (.int .i64 i1) (.slice none 0 0) (.slice none 0 0) (.slice none 0 0)) (y0 y1 y2 y3 y4 : Value) : ReadsB (st5 W b y0 y1 y2 y3 y4) ao zs := fun j hj => by
  obtain ⟨g, o, h1, h2, h3⟩ := h j hj
  have hd := Dif.st5 (Dif.refl (fun k => k = b) W) (b := b) rfl y0 y1 y2 y3 y4
  have hg : g ≠ b := by
    rintro rfl
    generalize o + j = n at h3
    match n, h3 with
    | 0, h3 => rw [hF.c0] at h3; cases h3
    | 1, h3 => rw [hF.c1] at h3; cases h3
    | 2, h3 => rw [hF.c2] at h3; cases h3
    | 3, h3 => rw [hF.c3] at h3; cases h3
    | 4, h3 => rw [hF.c4] at h3; cases h3
    | m + 5, h3 => simp [World.cell?, hF.blk] at h3
  exact ⟨g, o, h1, Nat.lt_of_lt_of_le h2 hd.size, (hd.cell (p := ⟨g, o + j, none⟩) h2 hg).trans h3⟩
theorem Hs.made {W : World} {G : Gr} {p : Ad} {b : Nat} {i0 i1 : Int} (h : RG W G p) (hF : Five W b (.int .i64 i0) (.int .i64 i1) (.slice none 0 0) (.slice none 0 0) (.slice none 0 0)) : Hs (st5 W b (.int .i64 G.h) (.int .i64 G.w) (.slice p.a1 G.B.length p.c1) (.slice p.a2 G.R.length p.c2) (.slice p.a3 G.D.length p.c3)) b G p :=
  ⟨(hF.all _ _ _ _ _).bx, h.b.five hF _ _ _ _ _, h.r.five hF _ _ _ _ _, h.d.five hF _ _ _ _ _⟩

set_option maxRecDepth 100000 in
set_option maxHeartbeats 4000000 in
theorem turnGrids_walk (g : Gr) (p : Ad) (k : Int) (w : World) (hl : g.lenOk) (hR : RG w g p) (hp : p.nz) (hw : Wy w) :
    Calls Tryd.prog 3 #[gv g p, .int .i64 k] w fun e w' => e = .returned (.bool true) ∧ Below w.heap.size w w' := by
  obtain ⟨i0, hi0, hz0, hz1, hz2⟩ := info_parts infoBool
  have cA := fun W => awake6_any W
  unfold gv
  have HG0 := Hs.new hR 24
  have HP : Aside (p.nz ∧ g.lenOk) := ⟨hp, hl⟩
  have CT : Aside (∀ q W, Below w.heap.size w W → RG W g q → Calls Tryd.prog 8 #[gv g q, .int .i64 k] W fun e w' => ∃ r, e = .returned (.tuple #[gv (g.tv k) r, .int .i64 (g.te k)]) ∧ RG w' (g.tv k) r ∧ Own w' W.heap.size r (g.tv k) ∧ Below W.heap.size W w') := fun q W h hG => TurnU g q k W (hw.below hw.size h) hG
  have CRT : Aside (∀ q W, RG W g q → Calls Tryd.prog 9 #[gv g q, .int .i64 k] W fun e w' => ∃ r, e = .returned (.tuple #[gv (g.tv k) r, .int .i64 (g.te k)]) ∧ RG w' (g.tv k) r ∧ Own w' W.heap.size r (g.tv k) ∧ Below W.heap.size W w') := fun q W hG => refTurnU g q k W hG
  have CS : Aside (∀ q W, Below w.heap.size w W → RG W g q → Calls Tryd.prog 12 #[gv g q] W fun e w' => ∃ ao c, e = .returned (.slice ao g.sl.length c) ∧ ReadsI w' ao g.sl ∧ Below W.heap.size W w') := fun q W h hG => SymU g q W (hw.below hw.size h) hG
  have CC : Aside (∀ q W, Below w.heap.size w W → RG W g q → Calls Tryd.prog 14 #[gv g q] W fun e w' => ∃ (a : Nat) (C : Gr) (r : Ad), e = .returned (.tuple #[gv C r, .int .i64 a, .int .i64 (g.chk : Nat)]) ∧ g.Cn a C ∧ RG w' C r ∧ Own w' W.heap.size r C ∧ Below W.heap.size W w') := fun q W h hG => CanonU g q W (hw.below hw.size h) hG
  have HTL : Aside (g.tv k).lenOk := g.tv_len k
  obtain ⟨T, hT⟩ : ∃ T, g.tv k = T := ⟨_, rfl⟩
  obtain ⟨E, hE⟩ : ∃ E, g.te k = E := ⟨_, rfl⟩
  rw [hT, hE] at CT CRT
  rw [hT] at HTL
  clear hR hw hp hl hT hE
  go_enter Tryd.func3, Tryd.ntmps3
  go_wp2_with fail
  refine (cA _).mono ?_
  rintro e w1 ⟨rfl, hb1⟩
  have HG1 : Aside (Hs w1 w.heap.size g p) := HG0.keep hb1
  have HB1 : Aside (Below w.heap.size w w1) := (below_box w _).trans (hb1.mono (below_box w _).size)
  clear cA hb1 HG0
  go_wp2
  go_cut [5] from 21 to 37 (fun s5 wd => ∃ b q, s5 = .pointer (some ⟨b, 0, none⟩) ∧ Aside (Hs wd b g q ∧ Below w1.heap.size w1 wd))
  case first =>
    have hSS : ∀ W, Below w1.drew.heap.size w1.drew W → (W.cell? ⟨w.heap.size, 0, none⟩ = some (.int .i64 g.h) ∧ W.cell? ⟨w.heap.size, 1, none⟩ = some (.int .i64 g.w) ∧ W.cell? ⟨w.heap.size, 2, none⟩ = some (.slice p.a1 g.B.length p.c1) ∧ W.cell? ⟨w.heap.size, 3, none⟩ = some (.slice p.a2 g.R.length p.c2) ∧ W.cell? ⟨w.heap.size, 4, none⟩ = some (.slice p.a3 g.D.length p.c3)) := fun W h => by
      obtain ⟨_, k0, k1, k2, k3, k4⟩ := (HG1.out.keep (below_drew h)).bx
      exact ⟨k0, k1, k2, k3, k4⟩
    have hS0 := hSS w1.drew (Below.refl _ _)
    refine wp_region_held (S := fun W => W.cell? ⟨w.heap.size, 0, none⟩ = some (.int .i64 g.h) ∧ W.cell? ⟨w.heap.size, 1, none⟩ = some (.int .i64 g.w) ∧ W.cell? ⟨w.heap.size, 2, none⟩ = some (.slice p.a1 g.B.length p.c1) ∧ W.cell? ⟨w.heap.size, 3, none⟩ = some (.slice p.a2 g.R.length p.c2) ∧ W.cell? ⟨w.heap.size, 4, none⟩ = some (.slice p.a3 g.D.length p.c3)) (by kernel_rfl) ?_
    refine (show wpAnyH _ .any _ _ _ 19 (Array.replicate 19 false) _ w1.drew from ?_)
    refine takeD (i := 0) (d := 21) (v := .pointer (some ⟨w.heap.size, 0, none⟩)) rfl (by kernel_rfl) (by kernel_rfl) (by kernel_rfl) (fun _ _ _ h => h) (fun oi ho => yields_now ho rfl fun W hSw => ?_) hS0 ?_
    · obtain ⟨k0, k1, k2, k3, k4⟩ := hSw
      go_simp
    simp only [Act.put, List.setIfInBounds_toArray, List.set_cons_zero, List.set_cons_succ]
    refine takeD (i := 1) (d := 22) (v := .int .i64 g.h) rfl (by kernel_rfl) (by kernel_rfl) (by kernel_rfl) (fun _ _ _ h => h) (fun oi ho => yields_now ho rfl fun W hSw => ?_) hS0 ?_
    · obtain ⟨k0, k1, k2, k3, k4⟩ := hSw
      go_simp
    simp only [Act.put, List.setIfInBounds_toArray, List.set_cons_zero, List.set_cons_succ]
    refine takeD (i := 2) (d := 23) (v := .pointer (some ⟨w.heap.size, 1, none⟩)) rfl (by kernel_rfl) (by kernel_rfl) (by kernel_rfl) (fun _ _ _ h => h) (fun oi ho => yields_now ho rfl fun W hSw => ?_) hS0 ?_
    · obtain ⟨k0, k1, k2, k3, k4⟩ := hSw
      go_simp
    simp only [Act.put, List.setIfInBounds_toArray, List.set_cons_zero, List.set_cons_succ]
    refine takeD (i := 3) (d := 24) (v := .int .i64 g.w) rfl (by kernel_rfl) (by kernel_rfl) (by kernel_rfl) (fun _ _ _ h => h) (fun oi ho => yields_now ho rfl fun W hSw => ?_) hS0 ?_
    · obtain ⟨k0, k1, k2, k3, k4⟩ := hSw
      go_simp
    simp only [Act.put, List.setIfInBounds_toArray, List.set_cons_zero, List.set_cons_succ]
    refine takeD (i := 5) (d := 26) (v := .pointer (some ⟨w.heap.size, 2, none⟩)) rfl (by kernel_rfl) (by kernel_rfl) (by kernel_rfl) (fun _ _ _ h => h) (fun oi ho => yields_now ho rfl fun W hSw => ?_) hS0 ?_
    · obtain ⟨k0, k1, k2, k3, k4⟩ := hSw
      go_simp
    simp only [Act.put, List.setIfInBounds_toArray, List.set_cons_zero, List.set_cons_succ]
    refine takeD (i := 6) (d := 27) (v := .slice p.a1 g.B.length p.c1) rfl (by kernel_rfl) (by kernel_rfl) (by kernel_rfl) (fun _ _ _ h => h) (fun oi ho => yields_now ho rfl fun W hSw => ?_) hS0 ?_
    · obtain ⟨k0, k1, k2, k3, k4⟩ := hSw
      go_simp
    simp only [Act.put, List.setIfInBounds_toArray, List.set_cons_zero, List.set_cons_succ]
    refine takeD (i := 9) (d := 30) (v := .pointer (some ⟨w.heap.size, 3, none⟩)) rfl (by kernel_rfl) (by kernel_rfl) (by kernel_rfl) (fun _ _ _ h => h) (fun oi ho => yields_now ho rfl fun W hSw => ?_) hS0 ?_
    · obtain ⟨k0, k1, k2, k3, k4⟩ := hSw
      go_simp
    simp only [Act.put, List.setIfInBounds_toArray, List.set_cons_zero, List.set_cons_succ]
    refine takeD (i := 10) (d := 31) (v := .slice p.a2 g.R.length p.c2) rfl (by kernel_rfl) (by kernel_rfl) (by kernel_rfl) (fun _ _ _ h => h) (fun oi ho => yields_now ho rfl fun W hSw => ?_) hS0 ?_
    · obtain ⟨k0, k1, k2, k3, k4⟩ := hSw
      go_simp
    simp only [Act.put, List.setIfInBounds_toArray, List.set_cons_zero, List.set_cons_succ]
    refine takeD (i := 13) (d := 34) (v := .pointer (some ⟨w.heap.size, 4, none⟩)) rfl (by kernel_rfl) (by kernel_rfl) (by kernel_rfl) (fun _ _ _ h => h) (fun oi ho => yields_now ho rfl fun W hSw => ?_) hS0 ?_
    · obtain ⟨k0, k1, k2, k3, k4⟩ := hSw
      go_simp
    simp only [Act.put, List.setIfInBounds_toArray, List.set_cons_zero, List.set_cons_succ]
    refine takeD (i := 14) (d := 35) (v := .slice p.a3 g.D.length p.c3) rfl (by kernel_rfl) (by kernel_rfl) (by kernel_rfl) (fun _ _ _ h => h) (fun oi ho => yields_now ho rfl fun W hSw => ?_) hS0 ?_
    · obtain ⟨k0, k1, k2, k3, k4⟩ := hSw
      go_simp
    simp only [Act.put, List.setIfInBounds_toArray, List.set_cons_zero, List.set_cons_succ]
    have HN := HP.out.1
    refine apps_any (w0 := w1.drew) i0 hi0 hz0 hz1 hz2 rfl rfl rfl rfl rfl rfl rfl ⟨rfl, rfl⟩ ⟨rfl, rfl⟩ ⟨rfl, rfl⟩ ⟨rfl, rfl⟩ ⟨rfl, rfl⟩ ⟨rfl, rfl⟩ ⟨rfl, rfl⟩ ?b4 ?b8 ?b12 ?b17 rfl rfl rfl (by simp) (by kernel_rfl) g.B g.R g.D p.a1 p.a2 p.a3 p.c1 p.c2 p.c3 rfl rfl rfl ?n1 ?n2 ?n3 ?l1 ?l2 ?l3 ?r1 ?r2 ?r3 hSS ?hfin 7 ⟨false, false, false, false, false, false, false⟩ ⟨undef, undef, undef, undef, undef, undef, undef⟩ w1.drew rfl ?kp
    case b4 => intro ev W; go_simp
    case b8 => intro ev W; go_simp
    case b12 => intro ev W; go_simp
    case b17 => intro ev W; go_simp
    case n1 => exact HN.1
    case n2 => exact HN.2.1
    case n3 => exact HN.2.2
    case l1 => exact HP.out.2.1
    case l2 => exact HP.out.2.2.1
    case l3 => exact HP.out.2.2.2
    case r1 => exact (HG1.out.rg.b.below (Below.drew (Below.refl _ _)))
    case r2 => exact (HG1.out.rg.r.below (Below.drew (Below.refl _ _)))
    case r3 => exact (HG1.out.rg.d.below (Below.drew (Below.refl _ _)))
    case kp => exact ⟨rfl, Below.refl _ _, (fun h => nomatch h), (fun h => nomatch h), (fun h => nomatch h), (fun h => nomatch h), (fun h => nomatch h), (fun h => nomatch h), (fun h => nomatch h)⟩
    case hfin =>
      intro V W c hk
      obtain ⟨V1, V2, V3, V4, V5, V6, V7⟩ := V
      obtain ⟨q1, d1, e1, t1⟩ := hk.v1 rfl
      obtain ⟨q2, d2, e2, t2⟩ := hk.v2 rfl
      obtain ⟨q3, d3, e3, t3⟩ := hk.v3 rfl
      have hbw := hk.bw
      dsimp only at e1 e2 e3
      subst e1 e2 e3
      have hSW := hSS W hbw
      cases c with
      | true =>
        obtain ⟨b, e4, hlb, hF⟩ := hk.c rfl
        dsimp only at e4
        subst e4
        clear hk
        refine (show wpAnyH _ .any _ _ _ 2 _ _ W from ?_)
        simp only [Fl.act, puti, if_true, Act.put, Fl.L, List.setIfInBounds_toArray, List.set_cons_zero, List.set_cons_succ]
        refine takeD (i := 16) (d := 37) (v := .agg #[.int .i64 g.h, .int .i64 g.w, .slice q1 g.B.length d1, .slice q2 g.R.length d2, .slice q3 g.D.length d3]) rfl (by kernel_rfl) (by kernel_rfl) (by kernel_rfl) (fun _ _ _ h => h) (fun oi ho => yields_now ho rfl fun W hSw => ?_) hSW ?_
        · go_simp
        simp only [Act.put, List.setIfInBounds_toArray, List.set_cons_zero, List.set_cons_succ]
        refine wpAnyH_all (rs := [18]) (by kernel_rfl) (by simp) (fun i hi => ?_)
        obtain rfl := List.mem_singleton.1 hi
        have z0 := hF.c0
        have z1 := hF.c1
        have z2 := hF.c2
        have z3 := hF.c3
        have z4 := hF.c4
        have f0 := hF.fr 0
        have f1 := hF.fr 1
        have f2 := hF.fr 2
        have f3 := hF.fr 3
        have f4 := hF.fr 4
        have hB5 := Below.all hbw hlb hbw.size (.int .i64 g.h) (.int .i64 g.w) (.slice q1 g.B.length d1) (.slice q2 g.R.length d2) (.slice q3 g.D.length d3)
        refine wpOp_skip (w' := st5 W b (.int .i64 g.h) (.int .i64 g.w) (.slice q1 g.B.length d1) (.slice q2 g.R.length d2) (.slice q3 g.D.length d3)) rfl rfl rfl ?_ ⟨hSS _ hB5, wpAnyH_done (by kernel_rfl) ?_ _⟩
        · unfold st5
          go_simp
        refine ‹∀ (a' : Act) (w' : World), Met _ a' w' → _› _ _ ?_
        have HE : Aside (Hs (st5 W b (.int .i64 g.h) (.int .i64 g.w) (.slice q1 g.B.length d1) (.slice q2 g.R.length d2) (.slice q3 g.D.length d3)) b g ⟨q1, d1, q2, d2, q3, d3⟩ ∧ Below w1.heap.size w1 (st5 W b (.int .i64 g.h) (.int .i64 g.w) (.slice q1 g.B.length d1) (.slice q2 g.R.length d2) (.slice q3 g.D.length d3))) := ⟨Hs.made (p := ⟨q1, d1, q2, d2, q3, d3⟩) ⟨t1, t2, t3⟩ hF, below_drew hB5⟩
        go_meet
        exact ⟨_, ⟨q1, d1, q2, d2, q3, d3⟩, rfl, HE⟩
      | false =>
        clear hk
        refine (show wpAnyH _ .any _ _ _ 3 _ _ W from ?_)
        simp only [Fl.act, puti, if_true, Bool.false_eq_true, if_false, Act.put, Fl.L, List.setIfInBounds_toArray, List.set_cons_zero, List.set_cons_succ]
        refine takeD (i := 16) (d := 37) (v := .agg #[.int .i64 g.h, .int .i64 g.w, .slice q1 g.B.length d1, .slice q2 g.R.length d2, .slice q3 g.D.length d3]) rfl (by kernel_rfl) (by kernel_rfl) (by kernel_rfl) (fun _ _ _ h => h) (fun oi ho => yields_now ho rfl fun W hSw => ?_) hSW ?_
        · go_simp
        simp only [Act.put, List.setIfInBounds_toArray, List.set_cons_zero, List.set_cons_succ]
        refine wpAnyH_all (rs := [17]) (by kernel_rfl) (by simp) (fun i hi => ?_)
        obtain rfl := List.mem_singleton.1 hi
        have hbx := below_box W (.cells #[.int .i64 0, .int .i64 0, .slice none 0 0, .slice none 0 0, .slice none 0 0] 24)
        have hbw2 := hbw.trans (hbx.mono hbw.size)
        have hlb := hbw.size
        have hF : Five (W.alloc (.cells #[.int .i64 0, .int .i64 0, .slice none 0 0, .slice none 0 0, .slice none 0 0] 24)) W.heap.size (.int .i64 0) (.int .i64 0) (.slice none 0 0) (.slice none 0 0) (.slice none 0 0) := ⟨hp_at rfl⟩
        refine wpOp_val (v := .pointer (some ⟨W.heap.size, 0, none⟩)) (w' := W.alloc (.cells #[.int .i64 0, .int .i64 0, .slice none 0 0, .slice none 0 0, .slice none 0 0] 24)) rfl rfl ?_ ⟨hSS _ hbw2, ?_⟩
        · go_simp
        simp only [Act.put, List.setIfInBounds_toArray, List.set_cons_zero, List.set_cons_succ]
        have u1 := t1.below hbx
        have u2 := t2.below hbx
        have u3 := t3.below hbx
        generalize W.alloc (.cells #[.int .i64 0, .int .i64 0, .slice none 0 0, .slice none 0 0, .slice none 0 0] 24) = W2 at *
        generalize W.heap.size = b at *
        refine wpAnyH_all (rs := [18]) (by kernel_rfl) (by simp) (fun i hi => ?_)
        obtain rfl := List.mem_singleton.1 hi
        have z0 := hF.c0
        have z1 := hF.c1
        have z2 := hF.c2
        have z3 := hF.c3
        have z4 := hF.c4
        have f0 := hF.fr 0
        have f1 := hF.fr 1
        have f2 := hF.fr 2
        have f3 := hF.fr 3
        have f4 := hF.fr 4
        have hB5 := Below.all hbw2 hlb hbw2.size (.int .i64 g.h) (.int .i64 g.w) (.slice q1 g.B.length d1) (.slice q2 g.R.length d2) (.slice q3 g.D.length d3)
        refine wpOp_skip (w' := st5 W2 b (.int .i64 g.h) (.int .i64 g.w) (.slice q1 g.B.length d1) (.slice q2 g.R.length d2) (.slice q3 g.D.length d3)) rfl rfl rfl ?_ ⟨hSS _ hB5, wpAnyH_done (by kernel_rfl) ?_ _⟩
        · unfold st5
          go_simp
        refine ‹∀ (a' : Act) (w' : World), Met _ a' w' → _› _ _ ?_
        have HE : Aside (Hs (st5 W2 b (.int .i64 g.h) (.int .i64 g.w) (.slice q1 g.B.length d1) (.slice q2 g.R.length d2) (.slice q3 g.D.length d3)) b g ⟨q1, d1, q2, d2, q3, d3⟩ ∧ Below w1.heap.size w1 (st5 W2 b (.int .i64 g.h) (.int .i64 g.w) (.slice q1 g.B.length d1) (.slice q2 g.R.length d2) (.slice q3 g.D.length d3))) := ⟨Hs.made (p := ⟨q1, d1, q2, d2, q3, d3⟩) ⟨u1, u2, u3⟩ hF, below_drew hB5⟩
        go_meet
        exact ⟨_, ⟨q1, d1, q2, d2, q3, d3⟩, rfl, HE⟩
  case rest =>
  clear i0 hi0 hz0 hz1 hz2
  rename World => w2
  obtain ⟨b, q, rfl, HE⟩ := hcut
  have HB2 : Aside (Below w.heap.size w w2) := HB1.out.trans (HE.out.2.mono HB1.out.size)
  have HG2 : Aside (Hs w2 w.heap.size g p) := HG1.out.keep HE.out.2
  have HI2 : Aside (Hs w2 b g q) := HE.out.1
  clear HE HG1 HB1
  obtain ⟨⟨_, k0, k1, k2, k3, k4⟩, _⟩ := HI2.out
  have cT := CT.out q w2 HB2.out HI2.out.rg
  unfold gv at cT
  go_wp2_with fail
  refine cT.mono ?_
  rintro e w3 ⟨r, rfl, hRr, hOr, hb3⟩
  have HT4 : Aside (Hs (w3.alloc (.cells #[.int .i64 T.h, .int .i64 T.w, .slice r.a1 T.B.length r.c1, .slice r.a2 T.R.length r.c2, .slice r.a3 T.D.length r.c3] 24)) w3.heap.size T r) := Hs.new hRr _
  have HO4 : Aside (Own (w3.alloc (.cells #[.int .i64 T.h, .int .i64 T.w, .slice r.a1 T.B.length r.c1, .slice r.a2 T.R.length r.c2, .slice r.a3 T.D.length r.c3] 24)) w2.heap.size r T) := hOr.keep (below_box _ _)
  have HL4 : Aside (∀ a, r.a1 = some a → a.block < w3.heap.size) := hOr.lt
  have HG4 : Aside (Hs (w3.alloc (.cells #[.int .i64 T.h, .int .i64 T.w, .slice r.a1 T.B.length r.c1, .slice r.a2 T.R.length r.c2, .slice r.a3 T.D.length r.c3] 24)) w.heap.size g p) := (HG2.out.keep hb3).keep (below_box _ _)
  have HI4 : Aside (Hs (w3.alloc (.cells #[.int .i64 T.h, .int .i64 T.w, .slice r.a1 T.B.length r.c1, .slice r.a2 T.R.length r.c2, .slice r.a3 T.D.length r.c3] 24)) b g q) := (HI2.out.keep hb3).keep (below_box _ _)
  have HI5 : Aside (Below w2.heap.size w2 (w3.alloc (.cells #[.int .i64 T.h, .int .i64 T.w, .slice r.a1 T.B.length r.c1, .slice r.a2 T.R.length r.c2, .slice r.a3 T.D.length r.c3] 24))) := hb3.alloc hb3.size _
  have HB4 : Aside (Below w.heap.size w (w3.alloc (.cells #[.int .i64 T.h, .int .i64 T.w, .slice r.a1 T.B.length r.c1, .slice r.a2 T.R.length r.c2, .slice r.a3 T.D.length r.c3] 24))) := (HB2.out.trans (hb3.mono HB2.out.size)).alloc (Nat.le_trans HB2.out.size hb3.size) _
  clear cT hb3 k0 k1 k2 k3 k4 hRr hOr
  obtain ⟨⟨_, k0, k1, k2, k3, k4⟩, _⟩ := HG4.out
  have cT := CRT.out p _ HG4.out.rg
  unfold gv at cT
  go_wp2_with fail
  refine cT.mono ?_
  rintro e w5 ⟨s, rfl, hRs, hOs, hb5⟩
  have HW6 : Aside (Hs (w5.alloc (.cells #[.int .i64 T.h, .int .i64 T.w, .slice s.a1 T.B.length s.c1, .slice s.a2 T.R.length s.c2, .slice s.a3 T.D.length s.c3] 24)) w5.heap.size T s) := Hs.new hRs _
  have HP6 : Aside (Own (w5.alloc (.cells #[.int .i64 T.h, .int .i64 T.w, .slice s.a1 T.B.length s.c1, .slice s.a2 T.R.length s.c2, .slice s.a3 T.D.length s.c3] 24)) (w3.alloc (.cells #[.int .i64 T.h, .int .i64 T.w, .slice r.a1 T.B.length r.c1, .slice r.a2 T.R.length r.c2, .slice r.a3 T.D.length r.c3] 24)).heap.size s T) := hOs.keep (below_box _ _)
  have HT6 : Aside (Hs (w5.alloc (.cells #[.int .i64 T.h, .int .i64 T.w, .slice s.a1 T.B.length s.c1, .slice s.a2 T.R.length s.c2, .slice s.a3 T.D.length s.c3] 24)) w3.heap.size T r) := (HT4.out.keep hb5).keep (below_box _ _)
  have HO6 : Aside (Own (w5.alloc (.cells #[.int .i64 T.h, .int .i64 T.w, .slice s.a1 T.B.length s.c1, .slice s.a2 T.R.length s.c2, .slice s.a3 T.D.length s.c3] 24)) w2.heap.size r T) := (HO4.out.keep hb5).keep (below_box _ _)
  have HX6 : Aside ((∀ a, r.a1 = some a → a.block < w3.heap.size) ∧ s.fresh (w3.heap.size + 1) ∧ w3.heap.size < w5.heap.size ∧ b < w2.heap.size ∧ w.heap.size < w2.heap.size) := ⟨HL4.out, by have := HP6.out.fr; rwa [World.size_alloc] at this, by have := hb5.size; rw [World.size_alloc] at this; omega, HI2.out.bx.lt, HG2.out.bx.lt⟩
  have HG6 : Aside (Hs (w5.alloc (.cells #[.int .i64 T.h, .int .i64 T.w, .slice s.a1 T.B.length s.c1, .slice s.a2 T.R.length s.c2, .slice s.a3 T.D.length s.c3] 24)) w.heap.size g p) := (HG4.out.keep hb5).keep (below_box _ _)
  have HI6 : Aside (Hs (w5.alloc (.cells #[.int .i64 T.h, .int .i64 T.w, .slice s.a1 T.B.length s.c1, .slice s.a2 T.R.length s.c2, .slice s.a3 T.D.length s.c3] 24)) b g q) := (HI4.out.keep hb5).keep (below_box _ _)
  have HJ6 : Aside (Below w2.heap.size w2 (w5.alloc (.cells #[.int .i64 T.h, .int .i64 T.w, .slice s.a1 T.B.length s.c1, .slice s.a2 T.R.length s.c2, .slice s.a3 T.D.length s.c3] 24))) := (HI5.out.trans (hb5.mono HI5.out.size)).alloc (Nat.le_trans HI5.out.size hb5.size) _
  have HB6 : Aside (Below w.heap.size w (w5.alloc (.cells #[.int .i64 T.h, .int .i64 T.w, .slice s.a1 T.B.length s.c1, .slice s.a2 T.R.length s.c2, .slice s.a3 T.D.length s.c3] 24))) := (HB4.out.trans (hb5.mono HB4.out.size)).alloc (Nat.le_trans HB4.out.size hb5.size) _
  clear cT hb5 k0 k1 k2 k3 k4 hRs hOs HT4 HO4 HG4 HI4 HI5 HB4
  go_upto_region 6 with fail
  generalize hbT : w3.heap.size = bT at *
  generalize hbW : w5.heap.size = bW at *
  generalize (w5.alloc (.cells #[.int .i64 T.h, .int .i64 T.w, .slice s.a1 T.B.length s.c1, .slice s.a2 T.R.length s.c2, .slice s.a3 T.D.length s.c3] 24)) = w6 at *
  clear hbT hbW HP6
  have hD : Below w6.heap.size w6 w6.drew := Below.drew (Below.refl _ _)
  have hSS : ∀ W, Below w6.heap.size w6 W → (Bx W bT T r ∧ Bx W bW T s ∧ Bx W b g q ∧ Bx W w.heap.size g p) := fun W h => ⟨(HT6.out.keep h).bx, (HW6.out.keep h).bx, (HI6.out.keep h).bx, (HG6.out.keep h).bx⟩
  have hSW := hSS _ hD
  go_cut [66] from 50 to 66 (fun s66 wd => s66 = .bool false ∧ Aside (Below w6.heap.size w6 wd))
  case first =>
    refine wp_region_held (S := fun W => (Bx W bT T r ∧ Bx W bW T s ∧ Bx W b g q ∧ Bx W w.heap.size g p)) (by kernel_rfl) ?_
    refine (show wpAnyH _ .any _ _ _ 17 (Array.replicate 17 false) _ w6.drew from ?_)
    refine takeD (i := 0) (d := 50) (v := .int .i64 E) rfl (by kernel_rfl) (by kernel_rfl) (by kernel_rfl) (fun _ _ _ h => h) (fun oi ho => yields_now ho rfl fun W hSw => ?_) hSW ?_
    · obtain ⟨⟨_, k0, k1, k2, k3, k4⟩, ⟨_, l0, l1, l2, l3, l4⟩, ⟨_, m0, m1, m2, m3, m4⟩, ⟨_, n0, n1, n2, n3, n4⟩⟩ := hSw
      go_simp
    simp only [Act.put, List.setIfInBounds_toArray, List.set_cons_zero, List.set_cons_succ]
    refine takeD (i := 1) (d := 51) (v := .int .i64 E) rfl (by kernel_rfl) (by kernel_rfl) (by kernel_rfl) (fun _ _ _ h => h) (fun oi ho => yields_now ho rfl fun W hSw => ?_) hSW ?_
    · obtain ⟨⟨_, k0, k1, k2, k3, k4⟩, ⟨_, l0, l1, l2, l3, l4⟩, ⟨_, m0, m1, m2, m3, m4⟩, ⟨_, n0, n1, n2, n3, n4⟩⟩ := hSw
      go_simp
    simp only [Act.put, List.setIfInBounds_toArray, List.set_cons_zero, List.set_cons_succ]
    refine takeD (i := 2) (d := 52) (v := .bool false) rfl (by kernel_rfl) (by kernel_rfl) (by kernel_rfl) (fun _ _ _ h => h) (fun oi ho => yields_now ho rfl fun W hSw => ?_) hSW ?_
    · obtain ⟨⟨_, k0, k1, k2, k3, k4⟩, ⟨_, l0, l1, l2, l3, l4⟩, ⟨_, m0, m1, m2, m3, m4⟩, ⟨_, n0, n1, n2, n3, n4⟩⟩ := hSw
      go_simp
    simp only [Act.put, List.setIfInBounds_toArray, List.set_cons_zero, List.set_cons_succ]
    refine takeD (i := 3) (d := 53) (v := .bool false) rfl (by kernel_rfl) (by kernel_rfl) (by kernel_rfl) (fun _ _ _ h => h) (fun oi ho => yields_now ho rfl fun W hSw => ?_) hSW ?_
    · obtain ⟨⟨_, k0, k1, k2, k3, k4⟩, ⟨_, l0, l1, l2, l3, l4⟩, ⟨_, m0, m1, m2, m3, m4⟩, ⟨_, n0, n1, n2, n3, n4⟩⟩ := hSw
      go_simp
    simp only [Act.put, List.setIfInBounds_toArray, List.set_cons_zero, List.set_cons_succ]
    refine takeD (i := 4) (d := 54) (v := .agg #[.int .i64 T.h, .int .i64 T.w, .slice r.a1 T.B.length r.c1, .slice r.a2 T.R.length r.c2, .slice r.a3 T.D.length r.c3]) rfl (by kernel_rfl) (by kernel_rfl) (by kernel_rfl) (fun _ _ _ h => h) (fun oi ho => yields_now ho rfl fun W hSw => ?_) hSW ?_
    · obtain ⟨⟨_, k0, k1, k2, k3, k4⟩, ⟨_, l0, l1, l2, l3, l4⟩, ⟨_, m0, m1, m2, m3, m4⟩, ⟨_, n0, n1, n2, n3, n4⟩⟩ := hSw
      go_simp
    simp only [Act.put, List.setIfInBounds_toArray, List.set_cons_zero, List.set_cons_succ]
    refine takeD (i := 5) (d := 55) (v := .agg #[.int .i64 T.h, .int .i64 T.w, .slice s.a1 T.B.length s.c1, .slice s.a2 T.R.length s.c2, .slice s.a3 T.D.length s.c3]) rfl (by kernel_rfl) (by kernel_rfl) (by kernel_rfl) (fun _ _ _ h => h) (fun oi ho => yields_now ho rfl fun W hSw => ?_) hSW ?_
    · obtain ⟨⟨_, k0, k1, k2, k3, k4⟩, ⟨_, l0, l1, l2, l3, l4⟩, ⟨_, m0, m1, m2, m3, m4⟩, ⟨_, n0, n1, n2, n3, n4⟩⟩ := hSw
      go_simp
    simp only [Act.put, List.setIfInBounds_toArray, List.set_cons_zero, List.set_cons_succ]
    refine wpAnyH_all (rs := [6]) (by kernel_rfl) (by simp) (fun i hi => ?_)
    obtain rfl := List.mem_singleton.1 hi
    have cSm := refSame_any T T r s w6.drew HTL.out (HT6.out.keep hD).rg (HW6.out.keep hD).rg
    rw [Gr.same_refl] at cSm
    unfold gv at cSm
    refine wpOp_call rfl rfl rfl (by go_simp) cSm ?_
    rintro e w7 ⟨rfl, hb7⟩
    have hb7 := hD.trans (hb7.mono hD.size)
    refine ⟨_, rfl, hSS _ hb7, ?_⟩
    have hSW := hSS _ hb7
    simp only [Act.put, List.setIfInBounds_toArray, List.set_cons_zero, List.set_cons_succ]
    refine takeD (i := 7) (d := 57) (v := .bool false) rfl (by kernel_rfl) (by kernel_rfl) (by kernel_rfl) (fun _ _ _ h => h) (fun oi ho => yields_now ho rfl fun W hSw => ?_) hSW ?_
    · obtain ⟨⟨_, k0, k1, k2, k3, k4⟩, ⟨_, l0, l1, l2, l3, l4⟩, ⟨_, m0, m1, m2, m3, m4⟩, ⟨_, n0, n1, n2, n3, n4⟩⟩ := hSw
      go_simp
    simp only [Act.put, List.setIfInBounds_toArray, List.set_cons_zero, List.set_cons_succ]
    refine takeD (i := 8) (d := 58) (v := .bool false) rfl (by kernel_rfl) (by kernel_rfl) (by kernel_rfl) (fun _ _ _ h => h) (fun oi ho => yields_now ho rfl fun W hSw => ?_) hSW ?_
    · obtain ⟨⟨_, k0, k1, k2, k3, k4⟩, ⟨_, l0, l1, l2, l3, l4⟩, ⟨_, m0, m1, m2, m3, m4⟩, ⟨_, n0, n1, n2, n3, n4⟩⟩ := hSw
      go_simp
    simp only [Act.put, List.setIfInBounds_toArray, List.set_cons_zero, List.set_cons_succ]
    refine takeD (i := 9) (d := 59) (v := .bool false) rfl (by kernel_rfl) (by kernel_rfl) (by kernel_rfl) (fun _ _ _ h => h) (fun oi ho => yields_now ho rfl fun W hSw => ?_) hSW ?_
    · obtain ⟨⟨_, k0, k1, k2, k3, k4⟩, ⟨_, l0, l1, l2, l3, l4⟩, ⟨_, m0, m1, m2, m3, m4⟩, ⟨_, n0, n1, n2, n3, n4⟩⟩ := hSw
      go_simp
    simp only [Act.put, List.setIfInBounds_toArray, List.set_cons_zero, List.set_cons_succ]
    refine takeD (i := 10) (d := 60) (v := .agg #[.int .i64 g.h, .int .i64 g.w, .slice q.a1 g.B.length q.c1, .slice q.a2 g.R.length q.c2, .slice q.a3 g.D.length q.c3]) rfl (by kernel_rfl) (by kernel_rfl) (by kernel_rfl) (fun _ _ _ h => h) (fun oi ho => yields_now ho rfl fun W hSw => ?_) hSW ?_
    · obtain ⟨⟨_, k0, k1, k2, k3, k4⟩, ⟨_, l0, l1, l2, l3, l4⟩, ⟨_, m0, m1, m2, m3, m4⟩, ⟨_, n0, n1, n2, n3, n4⟩⟩ := hSw
      go_simp
    simp only [Act.put, List.setIfInBounds_toArray, List.set_cons_zero, List.set_cons_succ]
    refine takeD (i := 12) (d := 62) (v := .agg #[.int .i64 g.h, .int .i64 g.w, .slice p.a1 g.B.length p.c1, .slice p.a2 g.R.length p.c2, .slice p.a3 g.D.length p.c3]) rfl (by kernel_rfl) (by kernel_rfl) (by kernel_rfl) (fun _ _ _ h => h) (fun oi ho => yields_now ho rfl fun W hSw => ?_) hSW ?_
    · obtain ⟨⟨_, k0, k1, k2, k3, k4⟩, ⟨_, l0, l1, l2, l3, l4⟩, ⟨_, m0, m1, m2, m3, m4⟩, ⟨_, n0, n1, n2, n3, n4⟩⟩ := hSw
      go_simp
    simp only [Act.put, List.setIfInBounds_toArray, List.set_cons_zero, List.set_cons_succ]
    refine wpAnyH_all (rs := [11]) (by kernel_rfl) (by simp) (fun i hi => ?_)
    obtain rfl := List.mem_singleton.1 hi
    have cS1 := CS.out q w7 (HB6.out.trans (hb7.mono HB6.out.size)) (HI6.out.keep hb7).rg
    unfold gv at cS1
    refine wpOp_call rfl rfl rfl (by go_simp) cS1 ?_
    rintro e w8 ⟨ao, c8, rfl, hr8, hb8⟩
    have hb8 := hb7.trans (hb8.mono hb7.size)
    refine ⟨_, rfl, hSS _ hb8, ?_⟩
    have hSW := hSS _ hb8
    simp only [Act.put, List.setIfInBounds_toArray, List.set_cons_zero, List.set_cons_succ]
    refine wpAnyH_all (rs := [13]) (by kernel_rfl) (by simp) (fun i hi => ?_)
    obtain rfl := List.mem_singleton.1 hi
    have cS2 := refSymU g p w8 (HG6.out.keep hb8).rg
    unfold gv at cS2
    refine wpOp_call rfl rfl rfl (by go_simp) cS2 ?_
    rintro e w9 ⟨ao2, c9, rfl, hr9, hb9⟩
    have hr8 := hr8.below hb9
    have hb9 := hb8.trans (hb9.mono hb8.size)
    refine ⟨_, rfl, hSS _ hb9, ?_⟩
    have hSW := hSS _ hb9
    simp only [Act.put, List.setIfInBounds_toArray, List.set_cons_zero, List.set_cons_succ]
    refine wpAnyH_all (rs := [14]) (by kernel_rfl) (by simp) (fun i hi => ?_)
    obtain rfl := List.mem_singleton.1 hi
    have cS3 := sameInts_any g.sl ao ao2 c8 c9 w9 (by have := g.sl_len; omega) hr8 hr9
    refine wpOp_call rfl rfl rfl (by go_simp) cS3 ?_
    rintro e w10 ⟨rfl, hb10⟩
    have hb10 := hb9.trans (hb10.mono hb9.size)
    refine ⟨_, rfl, hSS _ hb10, ?_⟩
    have hSW := hSS _ hb10
    simp only [Act.put, List.setIfInBounds_toArray, List.set_cons_zero, List.set_cons_succ]
    refine takeD (i := 15) (d := 65) (v := .bool false) rfl (by kernel_rfl) (by kernel_rfl) (by kernel_rfl) (fun _ _ _ h => h) (fun oi ho => yields_now ho rfl fun W hSw => ?_) hSW ?_
    · obtain ⟨⟨_, k0, k1, k2, k3, k4⟩, ⟨_, l0, l1, l2, l3, l4⟩, ⟨_, m0, m1, m2, m3, m4⟩, ⟨_, n0, n1, n2, n3, n4⟩⟩ := hSw
      go_simp
    simp only [Act.put, List.setIfInBounds_toArray, List.set_cons_zero, List.set_cons_succ]
    refine takeD (i := 16) (d := 66) (v := .bool false) rfl (by kernel_rfl) (by kernel_rfl) (by kernel_rfl) (fun _ _ _ h => h) (fun oi ho => yields_now ho rfl fun W hSw => ?_) hSW ?_
    · obtain ⟨⟨_, k0, k1, k2, k3, k4⟩, ⟨_, l0, l1, l2, l3, l4⟩, ⟨_, m0, m1, m2, m3, m4⟩, ⟨_, n0, n1, n2, n3, n4⟩⟩ := hSw
      go_simp
    simp only [Act.put, List.setIfInBounds_toArray, List.set_cons_zero, List.set_cons_succ]
    refine wpAnyH_done (by kernel_rfl) ?_ _
    refine ‹∀ (a' : Act) (w' : World), Met _ a' w' → _› _ _ ?_
    have HE : Aside (Below w6.heap.size w6 w10) := hb10
    go_meet
    exact ⟨rfl, HE⟩
  case rest =>
  rename World => w7
  obtain ⟨rfl, HE⟩ := hcut
  have HB7 : Aside (Below w.heap.size w w7) := HB6.out.trans (HE.out.mono HB6.out.size)
  have HJ7 : Aside (Below w2.heap.size w2 w7) := HJ6.out.trans (HE.out.mono HJ6.out.size)
  have HT7 : Aside (Hs w7 bT T r) := HT6.out.keep HE.out
  have HO7 : Aside (Own w7 w2.heap.size r T) := HO6.out.keep HE.out
  have HW7 : Aside (Hs w7 bW T s) := HW6.out.keep HE.out
  have HI7 : Aside (Hs w7 b g q) := HI6.out.keep HE.out
  have HG7 : Aside (Hs w7 w.heap.size g p) := HG6.out.keep HE.out
  clear HE HB6 HJ6 HT6 HO6 HW6 HI6 HG6 hSS hSW hD
  obtain ⟨⟨_, k0, k1, k2, k3, k4⟩, _⟩ := HI7.out
  have cC := CC.out q w7 HB7.out HI7.out.rg
  unfold gv at cC
  go_wp2_with fail
  refine cC.mono ?_
  rintro e w8 ⟨a, C, c, rfl, hCn, hRc, hOc, hb8⟩
  have HC8 : Aside (Hs (w8.alloc (.cells #[.int .i64 C.h, .int .i64 C.w, .slice c.a1 C.B.length c.c1, .slice c.a2 C.R.length c.c2, .slice c.a3 C.D.length c.c3] 24)) w8.heap.size C c) := Hs.new hRc _
  have HQ8 : Aside (Own (w8.alloc (.cells #[.int .i64 C.h, .int .i64 C.w, .slice c.a1 C.B.length c.c1, .slice c.a2 C.R.length c.c2, .slice c.a3 C.D.length c.c3] 24)) w7.heap.size c C) := hOc.keep (below_box _ _)
  have HL8 : Aside (∀ a, c.a1 = some a → a.block < w8.heap.size) := hOc.lt
  have HE8 : Aside (Below w7.heap.size w7 (w8.alloc (.cells #[.int .i64 C.h, .int .i64 C.w, .slice c.a1 C.B.length c.c1, .slice c.a2 C.R.length c.c2, .slice c.a3 C.D.length c.c3] 24))) := hb8.alloc hb8.size _
  have HB8 : Aside (Below w.heap.size w (w8.alloc (.cells #[.int .i64 C.h, .int .i64 C.w, .slice c.a1 C.B.length c.c1, .slice c.a2 C.R.length c.c2, .slice c.a3 C.D.length c.c3] 24))) := HB7.out.trans (HE8.out.mono HB7.out.size)
  have HN8 : Aside (g.Cn a C) := hCn
  clear cC k0 k1 k2 k3 k4 hRc hOc hCn
  obtain ⟨⟨_, k0, k1, k2, k3, k4⟩, _⟩ := HG7.out.keep HE8.out
  have cC := refCanonU g p _ (HG7.out.keep HE8.out).rg
  unfold gv at cC
  go_wp2_with fail
  refine cC.mono ?_
  rintro e w10 ⟨a', C', d, rfl, hCn, hRd, _, hb10⟩
  obtain ⟨rfl, rfl⟩ := HN8.out.one hCn
  have HD10 : Aside (Hs (w10.alloc (.cells #[.int .i64 C.h, .int .i64 C.w, .slice d.a1 C.B.length d.c1, .slice d.a2 C.R.length d.c2, .slice d.a3 C.D.length d.c3] 24)) w10.heap.size C d) := Hs.new hRd _
  have HC10 : Aside (Hs (w10.alloc (.cells #[.int .i64 C.h, .int .i64 C.w, .slice d.a1 C.B.length d.c1, .slice d.a2 C.R.length d.c2, .slice d.a3 C.D.length d.c3] 24)) w8.heap.size C c) := (HC8.out.keep hb10).keep (below_box _ _)
  have HE10 : Aside (Below w7.heap.size w7 (w10.alloc (.cells #[.int .i64 C.h, .int .i64 C.w, .slice d.a1 C.B.length d.c1, .slice d.a2 C.R.length d.c2, .slice d.a3 C.D.length d.c3] 24))) := (HE8.out.trans (hb10.mono HE8.out.size)).alloc (Nat.le_trans HE8.out.size hb10.size) _
  have HQ10 : Aside (Own (w10.alloc (.cells #[.int .i64 C.h, .int .i64 C.w, .slice d.a1 C.B.length d.c1, .slice d.a2 C.R.length d.c2, .slice d.a3 C.D.length d.c3] 24)) w7.heap.size c C) := (HQ8.out.keep hb10).keep (below_box _ _)
  have HT10 : Aside (Hs (w10.alloc (.cells #[.int .i64 C.h, .int .i64 C.w, .slice d.a1 C.B.length d.c1, .slice d.a2 C.R.length d.c2, .slice d.a3 C.D.length d.c3] 24)) bT T r) := HT7.out.keep HE10.out
  have HW10 : Aside (Hs (w10.alloc (.cells #[.int .i64 C.h, .int .i64 C.w, .slice d.a1 C.B.length d.c1, .slice d.a2 C.R.length d.c2, .slice d.a3 C.D.length d.c3] 24)) bW T s) := HW7.out.keep HE10.out
  have HI10 : Aside (Hs (w10.alloc (.cells #[.int .i64 C.h, .int .i64 C.w, .slice d.a1 C.B.length d.c1, .slice d.a2 C.R.length d.c2, .slice d.a3 C.D.length d.c3] 24)) b g q) := HI7.out.keep HE10.out
  have HG10 : Aside (Hs (w10.alloc (.cells #[.int .i64 C.h, .int .i64 C.w, .slice d.a1 C.B.length d.c1, .slice d.a2 C.R.length d.c2, .slice d.a3 C.D.length d.c3] 24)) w.heap.size g p) := HG7.out.keep HE10.out
  have HO10 : Aside (Own (w10.alloc (.cells #[.int .i64 C.h, .int .i64 C.w, .slice d.a1 C.B.length d.c1, .slice d.a2 C.R.length d.c2, .slice d.a3 C.D.length d.c3] 24)) w2.heap.size r T) := HO7.out.keep HE10.out
  have HB10 : Aside (Below w.heap.size w (w10.alloc (.cells #[.int .i64 C.h, .int .i64 C.w, .slice d.a1 C.B.length d.c1, .slice d.a2 C.R.length d.c2, .slice d.a3 C.D.length d.c3] 24))) := HB7.out.trans (HE10.out.mono HB7.out.size)
  have HJ10 : Aside (Below w2.heap.size w2 (w10.alloc (.cells #[.int .i64 C.h, .int .i64 C.w, .slice d.a1 C.B.length d.c1, .slice d.a2 C.R.length d.c2, .slice d.a3 C.D.length d.c3] 24))) := HJ7.out.trans (HE10.out.mono HJ7.out.size)
  have HX10 : Aside ((∀ a, c.a1 = some a → w7.heap.size ≤ a.block ∧ a.block < w8.heap.size) ∧ bT < w7.heap.size ∧ bW < w7.heap.size ∧ w7.heap.size ≤ w8.heap.size ∧ w2.heap.size ≤ w7.heap.size) := ⟨fun a e => ⟨HQ8.out.fr.1 a e, HL8.out a e⟩, HT7.out.bx.lt, HW7.out.bx.lt, hb8.size, HJ7.out.size⟩
  have HCL : Aside C.lenOk := HN8.out.len
  clear cC hb10 hb8 k0 k1 k2 k3 k4 hRd hCn HC8 HQ8 HL8 HE8 HB8 HN8 HB7 HJ7 HT7 HO7 HI7 HG7
  obtain ⟨⟨_, k0, k1, k2, k3, k4⟩, _⟩ := HC10.out
  obtain ⟨⟨_, l0, l1, l2, l3, l4⟩, _⟩ := HD10.out
  have cSm := refSame_any C C c d _ HCL.out HC10.out.rg HD10.out.rg
  rw [Gr.same_refl] at cSm
  unfold gv at cSm
  go_wp2_with fail
  refine cSm.mono ?_
  rintro e w12 ⟨rfl, hb12⟩
  clear cSm k0 k1 k2 k3 k4 l0 l1 l2 l3 l4
  obtain ⟨⟨_, k0, k1, k2, k3, k4⟩, _⟩ := HI10.out.keep hb12
  obtain ⟨⟨_, l0, l1, l2, l3, l4⟩, _⟩ := HG10.out.keep hb12
  have cSm := refSame_any g g q p w12 HP.out.2 (HI10.out.keep hb12).rg (HG10.out.keep hb12).rg
  rw [Gr.same_refl] at cSm
  unfold gv at cSm
  have HE12 : Aside (Below (w10.alloc (.cells #[.int .i64 C.h, .int .i64 C.w, .slice d.a1 C.B.length d.c1, .slice d.a2 C.R.length d.c2, .slice d.a3 C.D.length d.c3] 24)).heap.size (w10.alloc (.cells #[.int .i64 C.h, .int .i64 C.w, .slice d.a1 C.B.length d.c1, .slice d.a2 C.R.length d.c2, .slice d.a3 C.D.length d.c3] 24)) w12) := hb12
  clear hb12
  go_wp2_with fail
  refine cSm.mono ?_
  rintro e w13 ⟨rfl, hb13⟩
  clear cSm k0 k1 k2 k3 k4 l0 l1 l2 l3 l4
  have HE13 : Aside (Below (w10.alloc (.cells #[.int .i64 C.h, .int .i64 C.w, .slice d.a1 C.B.length d.c1, .slice d.a2 C.R.length d.c2, .slice d.a3 C.D.length d.c3] 24)).heap.size (w10.alloc (.cells #[.int .i64 C.h, .int .i64 C.w, .slice d.a1 C.B.length d.c1, .slice d.a2 C.R.length d.c2, .slice d.a3 C.D.length d.c3] 24)) w13) := HE12.out.trans (hb13.mono HE12.out.size)
  have HC13 : Aside (Hs w13 w8.heap.size C c) := HC10.out.keep HE13.out
  have HQ13 : Aside (Own w13 w7.heap.size c C) := HQ10.out.keep HE13.out
  have HT13 : Aside (Hs w13 bT T r) := HT10.out.keep HE13.out
  have HW13 : Aside (Hs w13 bW T s) := HW10.out.keep HE13.out
  have HI13 : Aside (Hs w13 b g q) := HI10.out.keep HE13.out
  have HG13 : Aside (Hs w13 w.heap.size g p) := HG10.out.keep HE13.out
  have HO13 : Aside (Own w13 w2.heap.size r T) := HO10.out.keep HE13.out
  have HB13 : Aside (Below w.heap.size w w13) := HB10.out.trans (HE13.out.mono HB10.out.size)
  have HJ13 : Aside (Below w2.heap.size w2 w13) := HJ10.out.trans (HE13.out.mono HJ10.out.size)
  clear hb13 HE12 HE13 HC10 HQ10 HT10 HW10 HI10 HG10 HO10 HB10 HJ10 HD10 HE10 CS CC CRT
  generalize w8.heap.size = bC at *
  generalize w10.heap.size = bD at *
  obtain ⟨⟨_, k0, k1, k2, k3, k4⟩, _⟩ := HT13.out
  go_wp2
  have hln := HTL.out.1
  go_loopg [102] T.B.length (fun g1 iv wr => ∃ m : Nat, iv = .int .i64 (m : Int) ∧ m ≤ T.B.length ∧ T.B.length - m ≤ g1 ∧ Aside (Flip w13 wr r T.B.length))
  case atStart => exact ⟨0, rfl, Nat.zero_le _, Nat.le_refl _, HO13.out.wr, Dif.refl _ _⟩
  case round =>
    clear k0 k1 k2 k3 k4
    obtain ⟨m, rfl, hm, hg, HF⟩ := hrel
    have HOt : Aside (∀ k, At1 r k → w2.heap.size ≤ k ∧ k < bT) := fun k h => by
      obtain ⟨a, e, rfl⟩ := h
      exact ⟨HO13.out.fr.1 a e, HX6.out.1 a e⟩
    by_cases hlt : m < T.B.length
    · have hltz : (m : Int) < (T.B.length : Int) := by omega
      obtain ⟨gb, v, hga, hcl, hfr⟩ := HF.out.wr.cell hlt
      have e := HF.out.df.block bT HT13.out.bx.lt (fun h => Nat.lt_irrefl _ (HOt.out _ h).2)
      have k2 := (cell_of_block e (j := 2)).trans HT13.out.bx.k2
      rw [hga] at k2
      have HF2 : Aside (Flip w13 (wr.setCell ⟨gb, m, none⟩ (.bool !v)).drew r T.B.length) := HF.out.put hga _
      clear e hga HF
      go_wp2
      go_region
      go_wp2
      go_roundg (T.B.length - (m + 1))
      case measure => omega
      case rel => exact ⟨m + 1, by go_num, by omega, Nat.le_refl _, HF2⟩
    · have hltz : ¬ (m : Int) < (T.B.length : Int) := by omega
      obtain rfl : m = T.B.length := by omega
      have HDf : Aside (Dif (At1 r) w13 wr) := HF.out.df
      have HC14 : Aside (Hs wr bC C c) := HC13.out.dif HDf.out (fun h => by have := HOt.out _ h; have := HX10.out; omega) (fun a e h => by have := HOt.out _ h; have := HX10.out; have := HQ13.out.fr.1 a e; omega) (fun a e h => by have := HOt.out _ h; have := HX10.out; have := HQ13.out.fr.2.1 a e; omega) (fun a e h => by have := HOt.out _ h; have := HX10.out; have := HQ13.out.fr.2.2 a e; omega)
      have HQ14 : Aside (Own wr w7.heap.size c C) := ⟨HQ13.out.fr, fun a e => Nat.lt_of_lt_of_le (HQ13.out.lt a e) HDf.out.size, HQ13.out.wr.dif HDf.out (fun a e h => by have := HOt.out _ h; have := HX10.out; have := HQ13.out.fr.1 a e; omega)⟩
      have HW14 : Aside (Hs wr bW T s) := HW13.out.dif HDf.out (fun h => by have := HOt.out _ h; have := HX6.out; omega) (fun a e h => by have := HOt.out _ h; have := HX6.out; have := HX6.out.2.1.1 a e; omega) (fun a e h => by have := HOt.out _ h; have := HX6.out; have := HX6.out.2.1.2.1 a e; omega) (fun a e h => by have := HOt.out _ h; have := HX6.out; have := HX6.out.2.1.2.2 a e; omega)
      have HJ14 : Aside (Below w2.heap.size w2 wr) := HJ13.out.trans (HDf.out.below (fun k hk _ h => by have := HOt.out _ h; omega) HJ13.out.size)
      have HZ14 : Aside (w2.heap.size ≤ wr.heap.size) := HJ14.out.size
      clear HF HDf HC13 HQ13 HW13 HJ13 HT13 HI13 HG13 HO13 HB13 hlt hm hg
      generalize wr = w14 at *
      obtain ⟨⟨_, k0, k1, k2, k3, k4⟩, _⟩ := HC14.out
      have hlc := HCL.out.1
      go_wp2
      go_loopg [119] C.B.length (fun g2 iv wx => ∃ m : Nat, iv = .int .i64 (m : Int) ∧ m ≤ C.B.length ∧ C.B.length - m ≤ g2 ∧ Aside (Flip w14 wx c C.B.length))
      case atStart => exact ⟨0, rfl, Nat.zero_le _, Nat.le_refl _, HQ14.out.wr, Dif.refl _ _⟩
      case round =>
        clear k0 k1 k2 k3 k4
        obtain ⟨m, rfl, hm, hg, HF⟩ := hrel
        have HOc : Aside (∀ k, At1 c k → w7.heap.size ≤ k ∧ k < bC) := fun k h => by
          obtain ⟨a, e, rfl⟩ := h
          exact HX10.out.1 a e
        by_cases hlt : m < C.B.length
        · have hltz2 : (m : Int) < (C.B.length : Int) := by omega
          obtain ⟨gb, v, hga, hcl, hfr⟩ := HF.out.wr.cell hlt
          have e := HF.out.df.block bC HC14.out.bx.lt (fun h => Nat.lt_irrefl _ (HOc.out _ h).2)
          have k2 := (cell_of_block e (j := 2)).trans HC14.out.bx.k2
          rw [hga] at k2
          have HF2 : Aside (Flip w14 (wr.setCell ⟨gb, m, none⟩ (.bool !v)).drew c C.B.length) := HF.out.put hga _
          clear e hga HF
          go_wp2
          go_region
          go_wp2
          go_roundg (C.B.length - (m + 1))
          case measure => omega
          case rel => exact ⟨m + 1, by go_num, by omega, Nat.le_refl _, HF2⟩
        · have hltz2 : ¬ (m : Int) < (C.B.length : Int) := by omega
          obtain rfl : m = C.B.length := by omega
          have HW15 : Aside (Hs wr bW T s) := HW14.out.dif2 HW7.out HF.out.df (fun k hk h => by have := (HOc.out _ h).1; omega)
          have HJ15 : Aside (Below w2.heap.size w2 wr) := HJ14.out.trans (HF.out.df.below (fun k hk _ h => by have := (HOc.out _ h).1; have := HX10.out; have := HX6.out; omega) HJ14.out.size)
          have HI15 : Aside (Hs wr b g q) := HI2.out.keep HJ15.out
          have HG15 : Aside (Hs wr w.heap.size g p) := HG2.out.keep HJ15.out
          have HB15 : Aside (Below w.heap.size w wr) := HB2.out.trans (HJ15.out.mono HB2.out.size)
          obtain ⟨⟨_, k0, k1, k2, k3, k4⟩, _⟩ := HI15.out
          have cT := CT.out q wr HB15.out HI15.out.rg
          unfold gv at cT
          clear HF
          go_wp2_with fail
          refine cT.mono ?_
          rintro e w16 ⟨y, rfl, hRy, _, hb16⟩
          have HY17 : Aside (Hs (w16.alloc (.cells #[.int .i64 T.h, .int .i64 T.w, .slice y.a1 T.B.length y.c1, .slice y.a2 T.R.length y.c2, .slice y.a3 T.D.length y.c3] 24)) w16.heap.size T y) := Hs.new hRy _
          have HW17 : Aside (Hs (w16.alloc (.cells #[.int .i64 T.h, .int .i64 T.w, .slice y.a1 T.B.length y.c1, .slice y.a2 T.R.length y.c2, .slice y.a3 T.D.length y.c3] 24)) bW T s) := (HW15.out.keep hb16).keep (below_box _ _)
          have HI17 : Aside (Hs (w16.alloc (.cells #[.int .i64 T.h, .int .i64 T.w, .slice y.a1 T.B.length y.c1, .slice y.a2 T.R.length y.c2, .slice y.a3 T.D.length y.c3] 24)) b g q) := (HI15.out.keep hb16).keep (below_box _ _)
          have HG17 : Aside (Hs (w16.alloc (.cells #[.int .i64 T.h, .int .i64 T.w, .slice y.a1 T.B.length y.c1, .slice y.a2 T.R.length y.c2, .slice y.a3 T.D.length y.c3] 24)) w.heap.size g p) := (HG15.out.keep hb16).keep (below_box _ _)
          have HB17 : Aside (Below w.heap.size w (w16.alloc (.cells #[.int .i64 T.h, .int .i64 T.w, .slice y.a1 T.B.length y.c1, .slice y.a2 T.R.length y.c2, .slice y.a3 T.D.length y.c3] 24))) := (HB15.out.trans (hb16.mono HB15.out.size)).alloc (Nat.le_trans HB15.out.size hb16.size) _
          clear cT hRy hb16 k0 k1 k2 k3 k4 HW15 HI15 HG15 HB15 HJ15 HW14 HC14 HQ14 HJ14
          obtain ⟨⟨_, k0, k1, k2, k3, k4⟩, _⟩ := HI17.out
          obtain ⟨⟨_, l0, l1, l2, l3, l4⟩, _⟩ := HG17.out
          have cSm := refSame_any g g q p _ HP.out.2 HI17.out.rg HG17.out.rg
          rw [Gr.same_refl] at cSm
          unfold gv at cSm
          go_wp2_with fail
          refine cSm.mono ?_
          rintro e w18 ⟨rfl, hb18⟩
          have HY18 : Aside (Hs w18 w16.heap.size T y) := HY17.out.keep hb18
          have HW18 : Aside (Hs w18 bW T s) := HW17.out.keep hb18
          have HB18 : Aside (Below w.heap.size w w18) := HB17.out.trans (hb18.mono HB17.out.size)
          clear cSm hb18 k0 k1 k2 k3 k4 l0 l1 l2 l3 l4 HY17 HW17 HI17 HG17 HB17
          generalize w16.heap.size = bY at *
          obtain ⟨⟨_, k0, k1, k2, k3, k4⟩, _⟩ := HY18.out
          obtain ⟨⟨_, l0, l1, l2, l3, l4⟩, _⟩ := HW18.out
          have cSm := refSame_any T T y s _ HTL.out HY18.out.rg HW18.out.rg
          rw [Gr.same_refl] at cSm
          unfold gv at cSm
          go_wp2_with fail
          refine cSm.mono ?_
          rintro e w19 ⟨rfl, hb19⟩
          have HB19 : Aside (Below w.heap.size w w19) := HB18.out.trans (hb19.mono HB18.out.size)
          clear cSm hb19 k0 k1 k2 k3 k4 l0 l1 l2 l3 l4
          go_wp2
          go_ret
          exact ⟨rfl, HB19.out⟩
end Go.Proofs.YtgpnnnhhidbajaaDoor.Grd
