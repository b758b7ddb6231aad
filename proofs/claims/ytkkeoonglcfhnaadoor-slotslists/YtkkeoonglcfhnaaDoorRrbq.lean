/-
  The document's List.
-/
import Derived.Test.YtkkeoonglcfhnaaDoorRraq
import Derived.Test.YtkkeoonglcfhnaaDoorSlf
import Derived.Deep.RegionWith
import Derived.Deep.CutRange
namespace Go.Proofs.YtkkeoonglcfhnaaDoor.Grd
open Go Go.Lib Go.RowKit

set_option maxHeartbeats 1000000 in
theorem refList_shut (g : Gr) (p : Ad) (hc : ¬ g.ok) (w : World) (hR : RG w g p) :
    Calls Tryd.prog 11 #[gv g p] w fun e w' => e = .returned (.slice none 0 0) ∧ Below w.heap.size w w' := by
  have cC := refCheck_any g p (w.alloc (.cells #[.int .i64 g.h, .int .i64 g.w, .slice p.a1 g.B.length p.c1, .slice p.a2 g.R.length p.c2, .slice p.a3 g.D.length p.c3] 24)) (hR.below (below_box w _))
  have hc2 : ¬ g.chk = 0 := hc
  have hc3 : ¬ ((g.chk : Nat) : Int) = 0 := by omega
  unfold gv at cC
  unfold gv
  clear hR hc
  go_enter Tryd.func11, Tryd.ntmps11
  go_wp2_with fail
  refine cC.mono ?_
  rintro e w1 ⟨rfl, hb1⟩
  have HB1 : Aside (Below w.heap.size w w1) := (below_box w _).trans (hb1.mono (below_box w _).size)
  clear cC hb1
  go_wp2
  go_ret
  exact ⟨rfl, HB1.out⟩

theorem Gr.beg_run {g : Gr} (hW : 0 < g.W) {d i : Nat} (hd : d < 2) : (decide (g.head d i = i) && decide (1 < (g.run d (g.head d i)).length)) = g.beg d i := by
  unfold Gr.beg
  by_cases h : g.st i (d + 2) = none
  · rw [Gr.head_none h, decide_eq_true rfl, h]
    simp only [Bool.true_and, Option.isNone_none]
    rw [Bool.eq_iff_iff, decide_eq_true_eq]
    exact Gr.run_two hW hd
  · have h2 : ¬ g.head d i = i := fun e => h ((Gr.head_self hW hd).1 e)
    rw [decide_eq_false h2]
    cases hs : g.st i (d + 2) with
    | none => exact absurd hs h
    | some j => rfl
theorem Gr.beg_three {g : Gr} (hW : 0 < g.W) {d i : Nat} (hd : d < 2) : (g.beg d i = true ∧ g.head d i = i ∧ 1 < (g.run d (g.head d i)).length) ∨ (g.beg d i = false ∧ ¬ g.head d i = i) ∨ (g.beg d i = false ∧ g.head d i = i ∧ ¬ 1 < (g.run d (g.head d i)).length) := by
  have h := Gr.beg_run hW hd (i := i)
  by_cases e1 : g.head d i = i
  · by_cases e2 : 1 < (g.run d (g.head d i)).length
    · exact .inl ⟨by rw [← h, decide_eq_true e1, decide_eq_true e2]; rfl, e1, e2⟩
    · exact .inr (.inr ⟨by rw [← h, decide_eq_false e2, Bool.and_false], e1, e2⟩)
  · exact .inr (.inl ⟨by rw [← h, decide_eq_false e1, Bool.false_and], e1⟩)
theorem Gr.beg_opn {g : Gr} {d i : Nat} (h : g.opn i = false) : g.beg d i = false := by
  unfold Gr.beg
  cases hs : g.st i d with
  | none => simp
  | some j => rw [Gr.st_opn hs] at h; cases h

set_option maxRecDepth 20000 in
set_option maxHeartbeats 4000000 in
theorem refList_ok (g : Gr) (p : Ad) (hok : g.ok) (w : World) (hR : RG w g p) :
    Calls Tryd.prog 11 #[gv g p] w fun e w' => ∃ v us, e = .returned v ∧ OwnL w' w.heap.size v g.sl us ∧ Below w.heap.size w w' := by
  have hr := Gr.right_of hok
  have hz := hr.sz
  have hW := hz.sw.1
  have hn := hz.n_le
  have cC := refCheck_any g p (w.alloc (.cells #[.int .i64 g.h, .int .i64 g.w, .slice p.a1 g.B.length p.c1, .slice p.a2 g.R.length p.c2, .slice p.a3 g.D.length p.c3] 24)) (hR.below (below_box w _))
  rw [show g.chk = 0 from hok] at cC
  have HQ : Aside (∀ i dn, g.opn i = true → ∀ W, Below w.heap.size w W → Calls Tryd.prog 33 #[gv g p, .int .i64 (i : Nat), .bool dn] W fun e w' => ∃ v, e = .returned v ∧ w'.ownsRow W.heap.size 3 1 v (g.run (way dn) (g.head (way dn) i)).length (cellsI (ints (g.run (way dn) (g.head (way dn) i)))) ∧ Below W.heap.size W w') := fun i dn hi W h => refRun_any g p hok i hi dn W (hR.below h)
  have HBB : Aside (∀ i, i < g.n → ∀ W, Below w.heap.size w W → ∃ b off, p.a1 = some ⟨b, off, none⟩ ∧ b < W.heap.size ∧ W.cell? ⟨b, off + i, none⟩ = some (.bool (bt g.B i))) := fun i hi W h => (hR.b.below h) i (by rw [hr.bl]; exact hi)
  have hHW : g.h * g.w = ((g.n : Nat) : Int) := by rw [← hz.sh.2.2, ← hz.sw.2.2]; exact (Int.natCast_mul _ _).symm
  have hH16 : 1 ≤ g.h ∧ g.h ≤ 16 := by have := hz.sh; omega
  have hW16 : 1 ≤ g.w ∧ g.w ≤ 16 := by have := hz.sw; omega
  have HBl : Aside (g.B.length = g.n) := hr.bl
  have HS : Aside (g.sl = g.slTo g.n) := by show g.sl = _; unfold Gr.sl; rw [if_pos hok]
  have HTR : Aside (∀ d i, d < 2 → (g.beg d i = true ∧ g.head d i = i ∧ 1 < (g.run d (g.head d i)).length) ∨ (g.beg d i = false ∧ ¬ g.head d i = i) ∨ (g.beg d i = false ∧ g.head d i = i ∧ ¬ 1 < (g.run d (g.head d i)).length)) := fun d i hd => Gr.beg_three hW hd
  have HNU : Aside (∀ i, g.numTo i ≤ i) := g.numTo_le
  have HSN : Aside (∀ i, (g.slTo i).length ≤ 2 * i) := g.slTo_len
  have HSH : Aside (∀ i, bt g.B i = true → g.slTo (i + 1) = g.slTo i ∧ g.numTo (i + 1) = g.numTo i) := fun i h => by
    have ho : g.opn i = false := by cases h2 : g.opn i with | false => rfl | true => rw [(Gr.opn_iff.1 h2).2] at h; cases h
    simp [Gr.slTo, Gr.slAt, Gr.numTo, Gr.beg_opn ho]
  have HL2 : Aside (∀ d i, (g.run d i).length ≤ 257 ∧ 1 ≤ (g.run d i).length) := fun d i => ⟨Gr.run_len256 hz d i, g.run_pos d i⟩
  have HBG : Aside (∀ d i, d < 2 → (decide (g.head d i = i) && decide (1 < (g.run d (g.head d i)).length)) = g.beg d i) := fun d i hd => Gr.beg_run hW hd
  have HHL : Aside (∀ d i, d < 2 → g.head d i ≤ i) := fun d i hd => Gr.head_le hW hd i
  have HHB : Aside (∀ d i, d < 2 → g.beg d i = true → g.head d i = i) := fun d i hd h => by
    rw [← Gr.beg_run hW hd, Bool.and_eq_true] at h
    exact of_decide_eq_true h.1
  have HLE : Aside (∀ d i, d < 2 → g.beg d i = true → 2 ≤ (g.run d i).length) := fun d i hd h => by
    unfold Gr.beg at h
    rw [Bool.and_eq_true] at h
    exact (Gr.run_two hW hd).2 h.2
  obtain ⟨i0, hi0, hz0, hz1, hz2⟩ := info_parts infoSlot
  unfold gv at cC HQ
  unfold gv
  clear hr hz hok
  go_enter Tryd.func11, Tryd.ntmps11
  go_wp2_with fail
  refine cC.mono ?_
  rintro e w1 ⟨rfl, hb1⟩
  have HX1 : Aside (Bx w1 w.heap.size g p) := (Bx.new w g p 24).keep hb1
  have HB1 : Aside (Below w.heap.size w w1) := (below_box w _).trans (hb1.mono (below_box w _).size)
  obtain ⟨_, k0, k1, k2, k3, k4⟩ := HX1.out
  clear hR cC hb1
  go_wp2
  --LOOP
  clear k0 k1 k2 k3 k4
  go_loopg [3, 4, 5] g.n (fun g1 lv nv iv wr => ∃ (i : Nat) (us : List Value), nv = .int .i64 (g.numTo i : Nat) ∧ iv = .int .i64 (i : Nat) ∧ i ≤ g.n ∧ g.n - i ≤ g1 ∧ Aside (OwnL wr w1.heap.size lv (g.slTo i) us) ∧ Aside (Below w1.heap.size w1 wr))
  case atStart => exact ⟨0, [], rfl, rfl, Nat.zero_le _, Nat.le_refl _, OwnL.nil _ _, Below.refl _ _⟩
  case round =>
    obtain ⟨i, us, rfl, rfl, hin, hg, HOL3, HBk⟩ := hrel
    have HBw : Aside (Below w.heap.size w wr) := HB1.out.trans (HBk.out.mono HB1.out.size)
    obtain ⟨_, k0, k1, k2, k3, k4⟩ := HX1.out.keep HBk.out
    by_cases hlt : i < g.n
    · have hltz : (i : Int) < (g.n : Int) := by omega
      obtain ⟨b3, o3, e3, hb3, z0⟩ := HBB.out i hlt wr HBw.out
      have hBz : (i : Int) < (g.B.length : Int) := by rw [HBl.out]; exact hltz
      have hnum : g.numTo i ≤ 256 := by have := HNU.out i; omega
      have hsl : (g.slTo i).length ≤ 512 := by have := HSN.out i; omega
      rw [e3] at k2
      have HE3 : Aside (p.a1 = some ⟨b3, o3, none⟩) := e3
      clear e3
      cases hz : bt g.B i with
      | true =>
        rw [hz] at z0
        have HZ : Aside (g.slTo (i + 1) = g.slTo i ∧ g.numTo (i + 1) = g.numTo i) := HSH.out i hz
        clear hz
        go_wp2
        go_roundg (g.n - (i + 1))
        case measure => omega
        case rel => exact ⟨i + 1, us, by rw [HZ.out.2], by go_num, by omega, Nat.le_refl _, by rw [HZ.out.1]; exact HOL3, HBk⟩
      | false =>
        rw [hz] at z0
        have hop : g.opn i = true := Gr.opn_iff.2 ⟨hlt, hz⟩
        have cR0 := HQ.out i false hop wr HBw.out
        have CR1 : Aside (∀ W, Below w.heap.size w W → Calls Tryd.prog 33 #[.agg #[.int .i64 g.h, .int .i64 g.w, .slice p.a1 g.B.length p.c1, .slice p.a2 g.R.length p.c2, .slice p.a3 g.D.length p.c3], .int .i64 (i : Nat), .bool true] W fun e w' => ∃ v, e = .returned v ∧ w'.ownsRow W.heap.size 3 1 v (g.run 1 (g.head 1 i)).length (cellsI (ints (g.run 1 (g.head 1 i)))) ∧ Below W.heap.size W w') := fun W h => HQ.out i true hop W h
        simp only [way, Bool.false_eq_true, if_false] at cR0
        rw [HE3.out] at cR0 CR1
        have HLL : Aside (∀ d i, (g.run d i).length ≤ 257 ∧ 1 ≤ (g.run d i).length) := HL2
        clear hz hop
        go_wp2_with fail
        refine cR0.mono ?_
        rintro e w4 ⟨v0, rfl, hr0, hb4⟩
        have HB4 : Aside (Below w1.heap.size w1 w4) := HBk.out.trans (hb4.mono HBk.out.size)
        have HB4w : Aside (Below w.heap.size w w4) := HBw.out.trans (hb4.mono HBw.out.size)
        have HSZ0 : Aside (wr.heap.size ≤ wr.heap.size) := Nat.le_refl _
        have HSZ2 : Aside (w4.heap.size ≤ w4.heap.size) := Nat.le_refl _
        have HOL4 : Aside (OwnL w4 w1.heap.size u3 (g.slTo i) us) := HOL3.out.keep hb4
        have HA0 : Aside (w4.ownsRow wr.heap.size 3 1 v0 (g.run 0 (g.head 0 i)).length (cellsI (ints (g.run 0 (g.head 0 i))))) := hr0
        have HSZ1 : Aside (wr.heap.size ≤ w4.heap.size) := hb4.size
        have HBS0 : Aside (w1.heap.size ≤ wr.heap.size) := HBk.out.size
        have HX4 := HX1.out.keep HB4.out
        clear cR0 hb4 hr0 k0 k1 k2 k3 k4 z0
        obtain ⟨_, k0, k1, k2, k3, k4⟩ := HX4
        rw [HE3.out] at k2
        have cR1 := CR1.out w4 HB4w.out
        go_wp2_with fail
        refine cR1.mono ?_
        rintro e w5 ⟨v1, rfl, hr1, hb5⟩
        have HB5 : Aside (Below w1.heap.size w1 w5) := HB4.out.trans (hb5.mono HB4.out.size)
        have HOL5 : Aside (OwnL w5 w1.heap.size u3 (g.slTo i) us) := HOL4.out.keep hb5
        have HA1 : Aside (w5.ownsRow w4.heap.size 3 1 v1 (g.run 1 (g.head 1 i)).length (cellsI (ints (g.run 1 (g.head 1 i))))) := hr1
        have hr0 := row_keeps HA0.out hb5
        have HBS1 : Aside (w1.heap.size ≤ w4.heap.size) := HB4.out.size
        obtain ⟨a0, c0, rfl, hn0, hI0⟩ := row_reads hr0
        obtain ⟨a1, c1, rfl, hn1, hI1⟩ := row_reads hr1
        rw [← hn0] at hr0 HA0 ⊢
        rw [← hn1] at hr1 HA1 ⊢
        have HR50 : Aside (w5.ownsRow wr.heap.size 3 1 (.slice a0 (g.run 0 (g.head 0 i)).length c0) (g.run 0 (g.head 0 i)).length (cellsI (ints (g.run 0 (g.head 0 i))))) := hr0
        have HR51 : Aside (w5.ownsRow w4.heap.size 3 1 (.slice a1 (g.run 1 (g.head 1 i)).length c1) (g.run 1 (g.head 1 i)).length (cellsI (ints (g.run 1 (g.head 1 i))))) := hr1
        obtain ⟨q0, o0, e0, _, x0⟩ := hI0 0 (by rw [ints_length]; exact (HLL.out 0 _).2)
        obtain ⟨q1, o1, e1, _, x1⟩ := hI1 0 (by rw [ints_length]; exact (HLL.out 1 _).2)
        rw [show (ints (g.run 0 (g.head 0 i)))[0]?.getD 0 = ((g.head 0 i : Nat) : Int) by simp [ints, Gr.run_head]] at x0
        rw [show (ints (g.run 1 (g.head 1 i)))[0]?.getD 0 = ((g.head 1 i : Nat) : Int) by simp [ints, Gr.run_head]] at x1
        rw [Nat.add_zero] at x0 x1
        subst e0 e1
        have hd0 : g.head 0 i ≤ i := HHL.out 0 i (by omega)
        have hd1 : g.head 1 i ≤ i := HHL.out 1 i (by omega)
        have hp0 : (0 : Int) < ((g.run 0 (g.head 0 i)).length : Int) := by have := (HLL.out 0 (g.head 0 i)).2; omega
        have hp1 : (0 : Int) < ((g.run 1 (g.head 1 i)).length : Int) := by have := (HLL.out 1 (g.head 1 i)).2; omega
        have HHD0 : Aside (g.beg 0 i = true → g.head 0 i = i) := fun h => HHB.out 0 i (by omega) h
        have HHD1 : Aside (g.beg 1 i = true → g.head 1 i = i) := fun h => HHB.out 1 i (by omega) h
        have HLB0 : Aside (g.beg 0 i = true → 2 ≤ (g.run 0 i).length) := fun h => HLE.out 0 i (by omega) h
        have HLB1 : Aside (g.beg 1 i = true → 2 ≤ (g.run 1 i).length) := fun h => HLE.out 1 i (by omega) h
        clear cR1 hb5 hr0 hr1 hn0 hn1 hI0 hI1 k0 k1 k2 k3 k4 CR1
        rcases HTR.out 0 i (by omega) with ⟨hb0, e10, e20⟩ | ⟨hb0, e10⟩ | ⟨hb0, e10, e20⟩
        · rcases HTR.out 1 i (by omega) with ⟨hb1, e11, e21⟩ | ⟨hb1, e11⟩ | ⟨hb1, e11, e21⟩
          · have e1z0 : ((g.head 0 i : Nat) : Int) = (i : Int) := by rw [e10]
            have e2z0 : (1 : Int) < ((g.run 0 (g.head 0 i)).length : Int) := by omega
            have e1z1 : ((g.head 1 i : Nat) : Int) = (i : Int) := by rw [e11]
            have e2z1 : (1 : Int) < ((g.run 1 (g.head 1 i)).length : Int) := by omega
            -- true true
            have HZ : Aside (g.slTo (i + 1) = g.slTo i ++ [⟨g.numTo (i + 1), false, g.run 0 i⟩, ⟨g.numTo (i + 1), true, g.run 1 i⟩]) := by show _ = _; simp [Gr.slTo, Gr.slAt, hb0, hb1]
            have HN : Aside (((g.numTo (i + 1) : Nat) : Int) = ((g.numTo i : Nat) : Int) + 1) := by show _ = _; simp [Gr.numTo, hb0, hb1]
            have h0 : g.head 0 i = i := HHD0.out hb0
            have hl0 : 2 ≤ (g.run 0 i).length := HLB0.out hb0
            have h1 : g.head 1 i = i := HHD1.out hb1
            have hl1 : 2 ≤ (g.run 1 i).length := HLB1.out hb1
            have hlt2 := (HLL.out 0 i)
            clear hb0 hb1 e10 e11
            rw [h0] at HA0 HR50 x0 e1z0 e2z0
            rw [h0]
            have hbk0 := row_blk HA0.out (by omega)
            have HSM0 : Aside (∃ j, (Value.slice (some ⟨q0, o0, none⟩) (g.run 0 i).length c0).ownBlock = some j) := ⟨hbk0.choose, hbk0.choose_spec.1⟩
            rw [h1] at HA1 HR51 x1 e1z1 e2z1
            rw [h1]
            have hbk1 := row_blk HA1.out (by omega)
            have HSM1 : Aside (∃ j, (Value.slice (some ⟨q1, o1, none⟩) (g.run 1 i).length c1).ownBlock = some j) := ⟨hbk1.choose, hbk1.choose_spec.1⟩
            have hsz1 := HOL5.out.row.1
            go_wp2_with (at_builtin; refine wpList_append_own _ rfl _ _ 26 rfl w1.heap.size 36 i0 (.agg #[.int .i64 0, .bool false, .slice none 0 0]) 3 40 Tryd.underlying26 hi0 hz0 hz1 hz2 rfl (by decide) _ _ _ rfl (HOL5.out.row.alloc _) ⟨w5.heap.size, 0, none⟩ 1 1 [.int .i64 (((g.numTo i : Nat) : Int) + 1), .bool false, .slice (some ⟨q0, o0, none⟩) (g.run 0 i).length c0] rfl rfl (cell3_new _ _ _ _ _) (by simp [Value.oneCell']) (by unfold maxLen; first | omega | (simp only [List.length_append, List.length_cons, List.length_nil]; omega)) (by first | omega | (simp only [List.length_append, List.length_cons, List.length_nil]; omega)) (by rw [World.size_alloc]; have := HB5.out.size; omega) ?_)
            intro v1' wa1 hown1 hgrow1 _
            have HOLa1 : Aside (OwnL wa1 w1.heap.size v1' (g.slTo i ++ [⟨g.numTo (i + 1), false, g.run 0 i⟩]) (us ++ [.slice (some ⟨q0, o0, none⟩) (g.run 0 i).length c0])) := by
              show OwnL _ _ _ _ _
              refine (HOL5.out.alloc _).snoc (s := ⟨g.numTo (i + 1), false, g.run 0 i⟩) ((row_base HR50.out HBS0.out).alloc _) (fun j hj y hy e => by have h1 := HOL3.out.blocks y hy j e; have h3 := (HA0.out.lt j hj).1; have := HSZ0.out; omega) HSM0.out hgrow1 ?_
              rw [HN.out]
              exact hown1
            have HBa1 : Aside (Below w1.heap.size w1 wa1) := Below.grown (HB5.out.alloc HB5.out.size _) hgrow1 (by rw [World.size_alloc]; have := HB5.out.size; omega) (fun j hj => (HOL5.out.row.lt _ hj).1)
            clear hown1
            have hsz2 := HOLa1.out.row.1
            go_wp2_with (at_builtin; refine wpList_append_own _ rfl _ _ 26 rfl w1.heap.size 36 i0 (.agg #[.int .i64 0, .bool false, .slice none 0 0]) 3 40 Tryd.underlying26 hi0 hz0 hz1 hz2 rfl (by decide) _ _ _ rfl (HOLa1.out.row.alloc _) ⟨wa1.heap.size, 0, none⟩ 1 1 [.int .i64 (((g.numTo i : Nat) : Int) + 1), .bool true, .slice (some ⟨q1, o1, none⟩) (g.run 1 i).length c1] rfl rfl (cell3_new _ _ _ _ _) (by simp [Value.oneCell']) (by unfold maxLen; first | omega | (simp only [List.length_append, List.length_cons, List.length_nil]; omega)) (by first | omega | (simp only [List.length_append, List.length_cons, List.length_nil]; omega)) (by rw [World.size_alloc]; have := HBa1.out.size; omega) ?_)
            intro v2' wa2 hown2 hgrow2 _
            have HOLa2 : Aside (OwnL wa2 w1.heap.size v2' ((g.slTo i ++ [⟨g.numTo (i + 1), false, g.run 0 i⟩]) ++ [⟨g.numTo (i + 1), true, g.run 1 i⟩]) ((us ++ [.slice (some ⟨q0, o0, none⟩) (g.run 0 i).length c0]) ++ [.slice (some ⟨q1, o1, none⟩) (g.run 1 i).length c1])) := by
              show OwnL _ _ _ _ _
              refine (HOLa1.out.alloc _).snoc (s := ⟨g.numTo (i + 1), true, g.run 1 i⟩) ((row_base (row_grown (HR51.out.alloc _) hgrow1 fun j hj => slot_apart HOL5.out.row HR51.out hj) HBS1.out).alloc _) (fun j hj y hy e => by
                have h3 := (HA1.out.lt j hj).1
                have h4 := HSZ1.out
                rcases List.mem_append.1 hy with hy | hy
                · have h1 := HOL3.out.blocks y hy j e; omega
                · simp at hy; subst hy; have h5 := (HA0.out.lt j e).2; have h6 := HSZ2.out; omega) HSM1.out hgrow2 ?_
              rw [HN.out]
              rw [List.length_append]; exact hown2
            have HBa2 : Aside (Below w1.heap.size w1 wa2) := Below.grown (HBa1.out.alloc HBa1.out.size _) hgrow2 (by rw [World.size_alloc]; have := HBa1.out.size; omega) (fun j hj => (HOLa1.out.row.lt _ hj).1)
            clear hown2 hgrow2
            go_wp2
            go_roundg (g.n - (i + 1))
            case measure => omega
            case rel => exact ⟨i + 1, _, by rw [HN.out], by go_num, by omega, Nat.le_refl _, by rw [HZ.out]; exact (by have := HOLa2.out; rwa [List.append_assoc] at this), HBa2⟩
          · have e1z0 : ((g.head 0 i : Nat) : Int) = (i : Int) := by rw [e10]
            have e2z0 : (1 : Int) < ((g.run 0 (g.head 0 i)).length : Int) := by omega
            have e1z1 : ¬ ((g.head 1 i : Nat) : Int) = (i : Int) := by omega
            -- true false
            have HZ : Aside (g.slTo (i + 1) = g.slTo i ++ [⟨g.numTo (i + 1), false, g.run 0 i⟩]) := by show _ = _; simp [Gr.slTo, Gr.slAt, hb0, hb1]
            have HN : Aside (((g.numTo (i + 1) : Nat) : Int) = ((g.numTo i : Nat) : Int) + 1) := by show _ = _; simp [Gr.numTo, hb0, hb1]
            have h0 : g.head 0 i = i := HHD0.out hb0
            have hl0 : 2 ≤ (g.run 0 i).length := HLB0.out hb0
            have hlt2 := (HLL.out 0 i)
            clear hb0 hb1 e10 e11
            rw [h0] at HA0 HR50 x0 e1z0 e2z0
            rw [h0]
            have hbk0 := row_blk HA0.out (by omega)
            have HSM0 : Aside (∃ j, (Value.slice (some ⟨q0, o0, none⟩) (g.run 0 i).length c0).ownBlock = some j) := ⟨hbk0.choose, hbk0.choose_spec.1⟩
            have hsz1 := HOL5.out.row.1
            go_wp2_with (at_builtin; refine wpList_append_own _ rfl _ _ 26 rfl w1.heap.size 36 i0 (.agg #[.int .i64 0, .bool false, .slice none 0 0]) 3 40 Tryd.underlying26 hi0 hz0 hz1 hz2 rfl (by decide) _ _ _ rfl (HOL5.out.row.alloc _) ⟨w5.heap.size, 0, none⟩ 1 1 [.int .i64 (((g.numTo i : Nat) : Int) + 1), .bool false, .slice (some ⟨q0, o0, none⟩) (g.run 0 i).length c0] rfl rfl (cell3_new _ _ _ _ _) (by simp [Value.oneCell']) (by unfold maxLen; first | omega | (simp only [List.length_append, List.length_cons, List.length_nil]; omega)) (by first | omega | (simp only [List.length_append, List.length_cons, List.length_nil]; omega)) (by rw [World.size_alloc]; have := HB5.out.size; omega) ?_)
            intro v1' wa1 hown1 hgrow1 _
            have HOLa1 : Aside (OwnL wa1 w1.heap.size v1' (g.slTo i ++ [⟨g.numTo (i + 1), false, g.run 0 i⟩]) (us ++ [.slice (some ⟨q0, o0, none⟩) (g.run 0 i).length c0])) := by
              show OwnL _ _ _ _ _
              refine (HOL5.out.alloc _).snoc (s := ⟨g.numTo (i + 1), false, g.run 0 i⟩) ((row_base HR50.out HBS0.out).alloc _) (fun j hj y hy e => by have h1 := HOL3.out.blocks y hy j e; have h3 := (HA0.out.lt j hj).1; have := HSZ0.out; omega) HSM0.out hgrow1 ?_
              rw [HN.out]
              exact hown1
            have HBa1 : Aside (Below w1.heap.size w1 wa1) := Below.grown (HB5.out.alloc HB5.out.size _) hgrow1 (by rw [World.size_alloc]; have := HB5.out.size; omega) (fun j hj => (HOL5.out.row.lt _ hj).1)
            clear hown1 hgrow1
            go_wp2
            go_roundg (g.n - (i + 1))
            case measure => omega
            case rel => exact ⟨i + 1, _, by rw [HN.out], by go_num, by omega, Nat.le_refl _, by rw [HZ.out]; exact HOLa1.out, HBa1⟩
          · have e1z0 : ((g.head 0 i : Nat) : Int) = (i : Int) := by rw [e10]
            have e2z0 : (1 : Int) < ((g.run 0 (g.head 0 i)).length : Int) := by omega
            have e1z1 : ((g.head 1 i : Nat) : Int) = (i : Int) := by rw [e11]
            have e2z1 : ¬ (1 : Int) < ((g.run 1 (g.head 1 i)).length : Int) := by omega
            -- true false
            have HZ : Aside (g.slTo (i + 1) = g.slTo i ++ [⟨g.numTo (i + 1), false, g.run 0 i⟩]) := by show _ = _; simp [Gr.slTo, Gr.slAt, hb0, hb1]
            have HN : Aside (((g.numTo (i + 1) : Nat) : Int) = ((g.numTo i : Nat) : Int) + 1) := by show _ = _; simp [Gr.numTo, hb0, hb1]
            have h0 : g.head 0 i = i := HHD0.out hb0
            have hl0 : 2 ≤ (g.run 0 i).length := HLB0.out hb0
            have hlt2 := (HLL.out 0 i)
            clear hb0 hb1 e10 e11
            rw [h0] at HA0 HR50 x0 e1z0 e2z0
            rw [h0]
            have hbk0 := row_blk HA0.out (by omega)
            have HSM0 : Aside (∃ j, (Value.slice (some ⟨q0, o0, none⟩) (g.run 0 i).length c0).ownBlock = some j) := ⟨hbk0.choose, hbk0.choose_spec.1⟩
            have hsz1 := HOL5.out.row.1
            go_wp2_with (at_builtin; refine wpList_append_own _ rfl _ _ 26 rfl w1.heap.size 36 i0 (.agg #[.int .i64 0, .bool false, .slice none 0 0]) 3 40 Tryd.underlying26 hi0 hz0 hz1 hz2 rfl (by decide) _ _ _ rfl (HOL5.out.row.alloc _) ⟨w5.heap.size, 0, none⟩ 1 1 [.int .i64 (((g.numTo i : Nat) : Int) + 1), .bool false, .slice (some ⟨q0, o0, none⟩) (g.run 0 i).length c0] rfl rfl (cell3_new _ _ _ _ _) (by simp [Value.oneCell']) (by unfold maxLen; first | omega | (simp only [List.length_append, List.length_cons, List.length_nil]; omega)) (by first | omega | (simp only [List.length_append, List.length_cons, List.length_nil]; omega)) (by rw [World.size_alloc]; have := HB5.out.size; omega) ?_)
            intro v1' wa1 hown1 hgrow1 _
            have HOLa1 : Aside (OwnL wa1 w1.heap.size v1' (g.slTo i ++ [⟨g.numTo (i + 1), false, g.run 0 i⟩]) (us ++ [.slice (some ⟨q0, o0, none⟩) (g.run 0 i).length c0])) := by
              show OwnL _ _ _ _ _
              refine (HOL5.out.alloc _).snoc (s := ⟨g.numTo (i + 1), false, g.run 0 i⟩) ((row_base HR50.out HBS0.out).alloc _) (fun j hj y hy e => by have h1 := HOL3.out.blocks y hy j e; have h3 := (HA0.out.lt j hj).1; have := HSZ0.out; omega) HSM0.out hgrow1 ?_
              rw [HN.out]
              exact hown1
            have HBa1 : Aside (Below w1.heap.size w1 wa1) := Below.grown (HB5.out.alloc HB5.out.size _) hgrow1 (by rw [World.size_alloc]; have := HB5.out.size; omega) (fun j hj => (HOL5.out.row.lt _ hj).1)
            clear hown1 hgrow1
            go_wp2
            go_roundg (g.n - (i + 1))
            case measure => omega
            case rel => exact ⟨i + 1, _, by rw [HN.out], by go_num, by omega, Nat.le_refl _, by rw [HZ.out]; exact HOLa1.out, HBa1⟩
        · rcases HTR.out 1 i (by omega) with ⟨hb1, e11, e21⟩ | ⟨hb1, e11⟩ | ⟨hb1, e11, e21⟩
          · have e1z0 : ¬ ((g.head 0 i : Nat) : Int) = (i : Int) := by omega
            have e1z1 : ((g.head 1 i : Nat) : Int) = (i : Int) := by rw [e11]
            have e2z1 : (1 : Int) < ((g.run 1 (g.head 1 i)).length : Int) := by omega
            -- false true
            have HZ : Aside (g.slTo (i + 1) = g.slTo i ++ [⟨g.numTo (i + 1), true, g.run 1 i⟩]) := by show _ = _; simp [Gr.slTo, Gr.slAt, hb0, hb1]
            have HN : Aside (((g.numTo (i + 1) : Nat) : Int) = ((g.numTo i : Nat) : Int) + 1) := by show _ = _; simp [Gr.numTo, hb0, hb1]
            have h1 : g.head 1 i = i := HHD1.out hb1
            have hl1 : 2 ≤ (g.run 1 i).length := HLB1.out hb1
            have hlt2 := (HLL.out 0 i)
            clear hb0 hb1 e10 e11
            rw [h1] at HA1 HR51 x1 e1z1 e2z1
            rw [h1]
            have hbk1 := row_blk HA1.out (by omega)
            have HSM1 : Aside (∃ j, (Value.slice (some ⟨q1, o1, none⟩) (g.run 1 i).length c1).ownBlock = some j) := ⟨hbk1.choose, hbk1.choose_spec.1⟩
            have hsz1 := HOL5.out.row.1
            go_wp2_with (at_builtin; refine wpList_append_own _ rfl _ _ 26 rfl w1.heap.size 36 i0 (.agg #[.int .i64 0, .bool false, .slice none 0 0]) 3 40 Tryd.underlying26 hi0 hz0 hz1 hz2 rfl (by decide) _ _ _ rfl (HOL5.out.row.alloc _) ⟨w5.heap.size, 0, none⟩ 1 1 [.int .i64 (((g.numTo i : Nat) : Int) + 1), .bool true, .slice (some ⟨q1, o1, none⟩) (g.run 1 i).length c1] rfl rfl (cell3_new _ _ _ _ _) (by simp [Value.oneCell']) (by unfold maxLen; first | omega | (simp only [List.length_append, List.length_cons, List.length_nil]; omega)) (by first | omega | (simp only [List.length_append, List.length_cons, List.length_nil]; omega)) (by rw [World.size_alloc]; have := HB5.out.size; omega) ?_)
            intro v1' wa1 hown1 hgrow1 _
            have HOLa1 : Aside (OwnL wa1 w1.heap.size v1' (g.slTo i ++ [⟨g.numTo (i + 1), true, g.run 1 i⟩]) (us ++ [.slice (some ⟨q1, o1, none⟩) (g.run 1 i).length c1])) := by
              show OwnL _ _ _ _ _
              refine (HOL5.out.alloc _).snoc (s := ⟨g.numTo (i + 1), true, g.run 1 i⟩) ((row_base HR51.out HBS1.out).alloc _) (fun j hj y hy e => by have h1 := HOL3.out.blocks y hy j e; have h3 := (HA1.out.lt j hj).1; have := HSZ1.out; omega) HSM1.out hgrow1 ?_
              rw [HN.out]
              exact hown1
            have HBa1 : Aside (Below w1.heap.size w1 wa1) := Below.grown (HB5.out.alloc HB5.out.size _) hgrow1 (by rw [World.size_alloc]; have := HB5.out.size; omega) (fun j hj => (HOL5.out.row.lt _ hj).1)
            clear hown1 hgrow1
            go_wp2
            go_roundg (g.n - (i + 1))
            case measure => omega
            case rel => exact ⟨i + 1, _, by rw [HN.out], by go_num, by omega, Nat.le_refl _, by rw [HZ.out]; exact HOLa1.out, HBa1⟩
          · have e1z0 : ¬ ((g.head 0 i : Nat) : Int) = (i : Int) := by omega
            have e1z1 : ¬ ((g.head 1 i : Nat) : Int) = (i : Int) := by omega
            -- false false
            have HZ : Aside (g.slTo (i + 1) = g.slTo i) := by show _ = _; simp [Gr.slTo, Gr.slAt, hb0, hb1]
            have HN : Aside (((g.numTo (i + 1) : Nat) : Int) = ((g.numTo i : Nat) : Int)) := by show _ = _; simp [Gr.numTo, hb0, hb1]
            have hlt2 := (HLL.out 0 i)
            clear hb0 hb1 e10 e11
            go_wp2
            go_roundg (g.n - (i + 1))
            case measure => omega
            case rel => exact ⟨i + 1, _, by rw [HN.out], by go_num, by omega, Nat.le_refl _, by rw [HZ.out]; exact HOL5.out, HB5⟩
          · have e1z0 : ¬ ((g.head 0 i : Nat) : Int) = (i : Int) := by omega
            have e1z1 : ((g.head 1 i : Nat) : Int) = (i : Int) := by rw [e11]
            have e2z1 : ¬ (1 : Int) < ((g.run 1 (g.head 1 i)).length : Int) := by omega
            -- false false
            have HZ : Aside (g.slTo (i + 1) = g.slTo i) := by show _ = _; simp [Gr.slTo, Gr.slAt, hb0, hb1]
            have HN : Aside (((g.numTo (i + 1) : Nat) : Int) = ((g.numTo i : Nat) : Int)) := by show _ = _; simp [Gr.numTo, hb0, hb1]
            have hlt2 := (HLL.out 0 i)
            clear hb0 hb1 e10 e11
            go_wp2
            go_roundg (g.n - (i + 1))
            case measure => omega
            case rel => exact ⟨i + 1, _, by rw [HN.out], by go_num, by omega, Nat.le_refl _, by rw [HZ.out]; exact HOL5.out, HB5⟩
        · rcases HTR.out 1 i (by omega) with ⟨hb1, e11, e21⟩ | ⟨hb1, e11⟩ | ⟨hb1, e11, e21⟩
          · have e1z0 : ((g.head 0 i : Nat) : Int) = (i : Int) := by rw [e10]
            have e2z0 : ¬ (1 : Int) < ((g.run 0 (g.head 0 i)).length : Int) := by omega
            have e1z1 : ((g.head 1 i : Nat) : Int) = (i : Int) := by rw [e11]
            have e2z1 : (1 : Int) < ((g.run 1 (g.head 1 i)).length : Int) := by omega
            -- false true
            have HZ : Aside (g.slTo (i + 1) = g.slTo i ++ [⟨g.numTo (i + 1), true, g.run 1 i⟩]) := by show _ = _; simp [Gr.slTo, Gr.slAt, hb0, hb1]
            have HN : Aside (((g.numTo (i + 1) : Nat) : Int) = ((g.numTo i : Nat) : Int) + 1) := by show _ = _; simp [Gr.numTo, hb0, hb1]
            have h1 : g.head 1 i = i := HHD1.out hb1
            have hl1 : 2 ≤ (g.run 1 i).length := HLB1.out hb1
            have hlt2 := (HLL.out 0 i)
            clear hb0 hb1 e10 e11
            rw [h1] at HA1 HR51 x1 e1z1 e2z1
            rw [h1]
            have hbk1 := row_blk HA1.out (by omega)
            have HSM1 : Aside (∃ j, (Value.slice (some ⟨q1, o1, none⟩) (g.run 1 i).length c1).ownBlock = some j) := ⟨hbk1.choose, hbk1.choose_spec.1⟩
            have hsz1 := HOL5.out.row.1
            go_wp2_with (at_builtin; refine wpList_append_own _ rfl _ _ 26 rfl w1.heap.size 36 i0 (.agg #[.int .i64 0, .bool false, .slice none 0 0]) 3 40 Tryd.underlying26 hi0 hz0 hz1 hz2 rfl (by decide) _ _ _ rfl (HOL5.out.row.alloc _) ⟨w5.heap.size, 0, none⟩ 1 1 [.int .i64 (((g.numTo i : Nat) : Int) + 1), .bool true, .slice (some ⟨q1, o1, none⟩) (g.run 1 i).length c1] rfl rfl (cell3_new _ _ _ _ _) (by simp [Value.oneCell']) (by unfold maxLen; first | omega | (simp only [List.length_append, List.length_cons, List.length_nil]; omega)) (by first | omega | (simp only [List.length_append, List.length_cons, List.length_nil]; omega)) (by rw [World.size_alloc]; have := HB5.out.size; omega) ?_)
            intro v1' wa1 hown1 hgrow1 _
            have HOLa1 : Aside (OwnL wa1 w1.heap.size v1' (g.slTo i ++ [⟨g.numTo (i + 1), true, g.run 1 i⟩]) (us ++ [.slice (some ⟨q1, o1, none⟩) (g.run 1 i).length c1])) := by
              show OwnL _ _ _ _ _
              refine (HOL5.out.alloc _).snoc (s := ⟨g.numTo (i + 1), true, g.run 1 i⟩) ((row_base HR51.out HBS1.out).alloc _) (fun j hj y hy e => by have h1 := HOL3.out.blocks y hy j e; have h3 := (HA1.out.lt j hj).1; have := HSZ1.out; omega) HSM1.out hgrow1 ?_
              rw [HN.out]
              exact hown1
            have HBa1 : Aside (Below w1.heap.size w1 wa1) := Below.grown (HB5.out.alloc HB5.out.size _) hgrow1 (by rw [World.size_alloc]; have := HB5.out.size; omega) (fun j hj => (HOL5.out.row.lt _ hj).1)
            clear hown1 hgrow1
            go_wp2
            go_roundg (g.n - (i + 1))
            case measure => omega
            case rel => exact ⟨i + 1, _, by rw [HN.out], by go_num, by omega, Nat.le_refl _, by rw [HZ.out]; exact HOLa1.out, HBa1⟩
          · have e1z0 : ((g.head 0 i : Nat) : Int) = (i : Int) := by rw [e10]
            have e2z0 : ¬ (1 : Int) < ((g.run 0 (g.head 0 i)).length : Int) := by omega
            have e1z1 : ¬ ((g.head 1 i : Nat) : Int) = (i : Int) := by omega
            -- false false
            have HZ : Aside (g.slTo (i + 1) = g.slTo i) := by show _ = _; simp [Gr.slTo, Gr.slAt, hb0, hb1]
            have HN : Aside (((g.numTo (i + 1) : Nat) : Int) = ((g.numTo i : Nat) : Int)) := by show _ = _; simp [Gr.numTo, hb0, hb1]
            have hlt2 := (HLL.out 0 i)
            clear hb0 hb1 e10 e11
            go_wp2
            go_roundg (g.n - (i + 1))
            case measure => omega
            case rel => exact ⟨i + 1, _, by rw [HN.out], by go_num, by omega, Nat.le_refl _, by rw [HZ.out]; exact HOL5.out, HB5⟩
          · have e1z0 : ((g.head 0 i : Nat) : Int) = (i : Int) := by rw [e10]
            have e2z0 : ¬ (1 : Int) < ((g.run 0 (g.head 0 i)).length : Int) := by omega
            have e1z1 : ((g.head 1 i : Nat) : Int) = (i : Int) := by rw [e11]
            have e2z1 : ¬ (1 : Int) < ((g.run 1 (g.head 1 i)).length : Int) := by omega
            -- false false
            have HZ : Aside (g.slTo (i + 1) = g.slTo i) := by show _ = _; simp [Gr.slTo, Gr.slAt, hb0, hb1]
            have HN : Aside (((g.numTo (i + 1) : Nat) : Int) = ((g.numTo i : Nat) : Int)) := by show _ = _; simp [Gr.numTo, hb0, hb1]
            have hlt2 := (HLL.out 0 i)
            clear hb0 hb1 e10 e11
            go_wp2
            go_roundg (g.n - (i + 1))
            case measure => omega
            case rel => exact ⟨i + 1, _, by rw [HN.out], by go_num, by omega, Nat.le_refl _, by rw [HZ.out]; exact HOL5.out, HB5⟩
    · have hltz : ¬ (i : Int) < (g.n : Int) := by omega
      obtain rfl : i = g.n := by omega
      go_wp2
      go_ret
      refine ⟨_, rfl, ⟨us, ?_⟩, HBw.out⟩
      rw [HS.out]
      exact HOL3.out.base HB1.out.size
theorem refList_any (g : Gr) (p : Ad) (w : World) (hR : RG w g p) :
    Calls Tryd.prog 11 #[gv g p] w fun e w' => ∃ v us, e = .returned v ∧ OwnL w' w.heap.size v g.sl us ∧ Below w.heap.size w w' := by
  by_cases hok : g.ok
  · exact refList_ok g p hok w hR
  · refine (refList_shut g p hok w hR).mono ?_
    rintro e w' ⟨rfl, hb⟩
    exact ⟨_, [], rfl, by rw [Gr.sl_shut hok]; exact OwnL.nil _ _, hb⟩
end Go.Proofs.YtkkeoonglcfhnaaDoor.Grd
