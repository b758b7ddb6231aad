/-
  GridBack walked: a step there is a step back, and stays within the part.
-/
import Derived.Test.YtaepndaboefbeaaDoorGrdi
import Derived.Test.YtaepndaboefbeaaDoorGrdx
import Derived.Test.YtaepndaboefbeaaDoorGrdo
import Derived.Deep.RegionWith
namespace Go.Proofs.YtaepndaboefbeaaDoor.Grd
open Go Go.Lib Go.RowKit

/-- The cells that steps by the first ways reach, at any number. -/
def Gr.stK (g : Gr) (i : Int) (m : Nat) : List Nat := (List.range m).filterMap fun w : Nat => g.stI i (w : Int)
theorem Gr.stK_succ (g : Gr) (i : Int) (m : Nat) : g.stK i (m + 1) = g.stK i m ++ (g.stI i (m : Int)).toList := by
  unfold Gr.stK
  rw [List.range_succ, List.filterMap_append]
  congr 1
theorem Gr.stK_four (g : Gr) (i : Int) : g.stK i 4 = g.nearI i := by
  unfold Gr.stK Gr.nearI
  rw [show List.range 4 = [0, 1, 2, 3] from rfl]
  cases ho : g.opI i with
  | true =>
    rw [if_pos rfl]
    have e : ∀ w : Nat, w < 4 → g.stI i (w : Int) = g.st i.toNat w := fun w hw => by
      unfold Gr.stI
      rw [if_pos ⟨ho, by omega, by omega⟩, Int.toNat_natCast]
    unfold Gr.near
    simp only [List.filterMap_cons, List.filterMap_nil]
    rw [e 0 (by omega), e 1 (by omega), e 2 (by omega), e 3 (by omega)]
  | false =>
    rw [if_neg (by simp)]
    rw [List.filterMap_eq_nil_iff]
    intro w _
    unfold Gr.stI
    rw [if_neg (by rw [ho]; simp)]
theorem Gr.stI_some {g : Gr} {i way : Int} {j : Nat} (h : g.stI i way = some j) : g.ok ∧ ∃ a b : Nat, i = a ∧ way = b ∧ g.st a b = some j := by
  unfold Gr.stI at h
  by_cases hc : g.opI i = true ∧ 0 ≤ way ∧ way < 4
  · rw [if_pos hc] at h
    obtain ⟨hok, a, rfl, _⟩ := Gr.opI_iff.1 hc.1
    obtain ⟨b, rfl⟩ := Int.eq_ofNat_of_zero_le hc.2.1
    exact ⟨hok, a, b, rfl, rfl, by simpa using h⟩
  · rw [if_neg hc] at h; cases h
theorem Gr.stI_of {g : Gr} (hok : g.ok) {a b j : Nat} (h : g.st a b = some j) : g.stI (a : Int) (b : Int) = some j := by
  unfold Gr.stI
  have := Gr.st_way h
  rw [if_pos ⟨Gr.opI_iff.2 ⟨hok, a, rfl, Gr.st_opn h⟩, by omega, by omega⟩]
  simpa using h

set_option maxRecDepth 100000 in
set_option maxHeartbeats 4000000 in
theorem gridBack_shut (g : Gr) (p : Ad) (hc : ¬ g.ok) (i : Int) (w : World) (hw : Wy w) (hR : RG w g p) :
    Calls Tryd.prog 6 #[gv g p, .int .i64 i] w fun e w' => e = .returned (.bool true) ∧ Below w.heap.size w w' := by
  have HW : Aside (∀ W, Below w.heap.size w W → Wy W ∧ RG W g p) := fun W h => ⟨hw.below hw.size h, hR.below h⟩
  have hcl := g.chk_le
  have hc2 : ¬ ((g.chk : Nat) : Int) = 0 := by have : ¬ g.chk = 0 := hc; omega
  have hcnt : g.cnt = 0 := if_neg hc
  have HC : Aside (¬ g.ok) := hc
  have cA := awake_any (w.alloc (.cells #[.int .i64 g.h, .int .i64 g.w, .slice p.a1 g.B.length p.c1, .slice p.a2 g.R.length p.c2, .slice p.a3 g.D.length p.c3] 24)) (HW.out _ (below_box w _)).1
  unfold gv
  clear hw hR hc
  go_enter Tryd.func6, Tryd.ntmps6
  go_wp2_with fail
  refine cA.mono ?_
  rintro e w1 ⟨rfl, hb1⟩
  have HX1 : Aside (Bx w1 w.heap.size g p) := (Bx.new w g p _).keep hb1
  have HB1 : Aside (Below w.heap.size w w1) := (below_box w _).trans (hb1.mono (below_box w _).size)
  obtain ⟨_, k0, k1, k2, k3, k4⟩ := HX1.out
  have cP := parts_shut g p HC.out w1 (HW.out _ HB1.out).1 (HW.out _ HB1.out).2
  unfold gv at cP
  clear hb1 cA
  go_wp2_with fail
  refine cP.mono ?_
  rintro e w2 ⟨rfl, hb2⟩
  have HX2 : Aside (Bx w2 w.heap.size g p) := HX1.out.keep hb2
  have HB2 : Aside (Below w.heap.size w w2) := HB1.out.trans (hb2.mono HB1.out.size)
  clear k0 k1 k2 k3 k4
  obtain ⟨_, k0, k1, k2, k3, k4⟩ := HX2.out
  have cC := check_any g p w2 (HW.out _ HB2.out).1 (HW.out _ HB2.out).2
  unfold gv at cC
  clear hb2 cP
  go_wp2_with fail
  refine cC.mono ?_
  rintro e w3 ⟨rfl, hb3⟩
  have HX3 : Aside (Bx w3 w.heap.size g p) := HX2.out.keep hb3
  have HB3 : Aside (Below w.heap.size w w3) := HB2.out.trans (hb3.mono HB2.out.size)
  clear k0 k1 k2 k3 k4
  obtain ⟨_, k0, k1, k2, k3, k4⟩ := HX3.out
  have cN := count_any g p w3 (HW.out _ HB3.out).1 (HW.out _ HB3.out).2
  rw [hcnt] at cN
  unfold gv at cN
  clear hb3 cC
  go_wp2_with fail
  refine cN.mono ?_
  rintro e w4 ⟨rfl, hb4⟩
  clear cN
  go_wp2
  go_ret
  refine ⟨?_, HB3.out.trans (hb4.mono HB3.out.size)⟩
  show Ending.returned (.bool (((g.chk : Nat) : Int) != 0)) = .returned (.bool true)
  rw [bne_iff_ne.2 hc2]

theorem four_mod (m : Nat) : ((m : Int) + 2) % 4 = (((m + 2) % 4 : Nat) : Int) := by omega

set_option maxRecDepth 100000 in
set_option maxHeartbeats 4000000 in
theorem gridBack_open (g : Gr) (p : Ad) (hok : g.ok) (i : Int) (hi0 : -9223372036854775808 ≤ i) (hi1 : i ≤ 9223372036854775807) (w : World) (hw : Wy w) (hR : RG w g p) :
    Calls Tryd.prog 6 #[gv g p, .int .i64 i] w fun e w' => e = .returned (.bool true) ∧ Below w.heap.size w w' := by
  have HW : Aside (∀ W, Below w.heap.size w W → Wy W ∧ RG W g p) := fun W h => ⟨hw.below hw.size h, hR.below h⟩
  have HK : Aside (g.ok) := hok
  have hn := (Gr.right_of hok).n_le
  have HWp : Aside (0 < g.W) := (Gr.right_of hok).sw.1
  have cA := awake_any (w.alloc (.cells #[.int .i64 g.h, .int .i64 g.w, .slice p.a1 g.B.length p.c1, .slice p.a2 g.R.length p.c2, .slice p.a3 g.D.length p.c3] 24)) (HW.out _ (below_box w _)).1
  unfold gv
  clear hw hR hok
  go_enter Tryd.func6, Tryd.ntmps6
  go_wp2_with fail
  refine cA.mono ?_
  rintro e w1 ⟨rfl, hb1⟩
  have HX1 : Aside (Bx w1 w.heap.size g p) := (Bx.new w g p _).keep hb1
  have HB1 : Aside (Below w.heap.size w w1) := (below_box w _).trans (hb1.mono (below_box w _).size)
  obtain ⟨_, k0, k1, k2, k3, k4⟩ := HX1.out
  have cP := parts_open g p HK.out w1 (HW.out _ HB1.out).1 (HW.out _ HB1.out).2
  unfold gv at cP
  clear hb1 cA
  go_wp2_with fail
  refine cP.mono ?_
  rintro e w2 ⟨v, rfl, P, hown, hL, hb2⟩
  clear cP
  have HX2 : Aside (Bx w2 w.heap.size g p) := HX1.out.keep hb2
  have HB2 : Aside (Below w.heap.size w w2) := HB1.out.trans (hb2.mono HB1.out.size)
  clear k0 k1 k2 k3 k4
  have HL : Aside (g.Labels P) := hL
  have hpl : P.length = g.n := hL.1
  obtain ⟨ao, cap, rfl, _, hrd⟩ := row_reads hown
  obtain ⟨b, off, rfl, hbl, _⟩ := hrd 0 (by omega)
  have HRd : Aside (∀ W, Below w2.heap.size w2 W → ∀ j q, P[j]? = some q → W.cell? ⟨b, off + j, none⟩ = some (.int .i64 q)) := fun W hW j q hq => by
    obtain ⟨b', off', e', _, hc⟩ := hrd j (List.getElem?_eq_some_iff.1 hq).1
    injection e' with e'
    injection e' with e1 e2
    subst e1 e2
    rw [hq] at hc
    exact (hW.cell (p := ⟨b, off + j, none⟩) hbl).trans hc
  have HPl : Aside (P.length = g.n) := hpl
  rw [hpl]
  clear hown hL hrd hpl hb2
  have HN4 : Aside ((g.stK i 4).length = (g.nearI i).length) := by show _ = _; rw [g.stK_four i]
  have HPn : Aside (P.length ≤ 256) := by show P.length ≤ 256; rw [HPl.out]; exact hn.2
  have hPn := HPn.out
  have hPz : ((P.length : Int) == 0) = false := by rw [HPl.out]; simp; omega
  have hcl : g.count ≤ 256 := Nat.le_trans (g.ahead_le g.n) hn.2
  go_wp2
  go_loopg [7, 35] 4 (fun g1 sv iv wr => ∃ m : Nat, iv = .int .i64 (m : Int) ∧ sv = .int .i64 ((g.stK i m).length : Nat) ∧ m ≤ 4 ∧ 4 - m ≤ g1 ∧ Aside (Below w2.heap.size w2 wr))
  case atStart => exact ⟨0, rfl, rfl, Nat.zero_le _, Nat.le_refl _, Below.refl _ _⟩
  case round =>
    obtain ⟨m, rfl, rfl, hm, hg, HBk⟩ := hrel
    have HBw : Aside (Below w.heap.size w wr) := HB2.out.trans (HBk.out.mono HB2.out.size)
    have HXk : Aside (Bx wr w.heap.size g p) := HX2.out.keep HBk.out
    obtain ⟨_, k0, k1, k2, k3, k4⟩ := HXk.out
    by_cases hlt : m < 4
    · have hltz : (m : Int) < 4 := by omega
      have cS := Step_any g p i (m : Int) wr (HW.out _ HBw.out).1 (HW.out _ HBw.out).2
      have HSU : Aside (g.stK i (m + 1) = g.stK i m ++ (g.stI i (m : Int)).toList) := g.stK_succ i m
      have hsl : (g.stK i m).length ≤ m := by
        unfold Gr.stK
        exact Nat.le_trans (List.length_filterMap_le _ _) (by rw [List.length_range]; exact Nat.le_refl _)
      unfold gv opt at cS
      cases hst : g.stI i (m : Int) with
      | none =>
        rw [hst] at cS HSU
        have HSU2 : Aside ((g.stK i (m + 1)).length = (g.stK i m).length) := by show _ = _; rw [HSU.out]; simp
        generalize g.stK i m = L at *
        clear hst HSU
        go_wp2_with fail
        refine cS.mono ?_
        rintro e w4 ⟨rfl, hb4⟩
        have HB4 : Aside (Below w2.heap.size w2 w4) := HBk.out.trans (hb4.mono HBk.out.size)
        clear cS hb4
        go_wp2
        go_roundg (4 - (m + 1))
        case measure => omega
        case rel => exact ⟨m + 1, by go_num, by rw [HSU2.out], by omega, Nat.le_refl _, HB4⟩
      | some j =>
        rw [hst] at cS HSU
        obtain ⟨_, a, m', rfl, hmm, hsta⟩ := Gr.stI_some hst
        obtain rfl : m' = m := by omega
        have HSU2 : Aside ((g.stK (a : Int) (m' + 1)).length = (g.stK (a : Int) m').length + 1) := by show _ = _; rw [HSU.out]; simp
        have hoa := Gr.st_opn hsta
        have hoj := Gr.st_to HWp.out hsta
        have hstb := Gr.stI_of HK.out (Gr.st_back HWp.out hsta)
        have HS2 : Aside (∀ W, Below w.heap.size w W → Calls Tryd.prog 20 #[gv g p, .int .i64 (j : Nat), .int .i64 (((m' : Int) + 2) % 4)] W fun e w' => e = .returned (.tuple #[.int .i64 (a : Int), .bool true]) ∧ Below W.heap.size W w') := fun W h => by
          have := Step_any g p j (((m' : Int) + 2) % 4) W (HW.out _ h).1 (HW.out _ h).2
          rw [four_mod, hstb] at this
          rw [four_mod]
          exact this
        have hoI : g.opI (j : Int) = true := Gr.opI_iff.2 ⟨HK.out, j, rfl, hoj⟩
        have HO2 : Aside (∀ W, Below w.heap.size w W → Calls Tryd.prog 13 #[gv g p, .int .i64 (j : Nat)] W fun e w' => e = .returned (.bool true) ∧ Below W.heap.size W w') := fun W h => by
          have := open_any g p j W (HW.out _ h).1 (HW.out _ h).2
          rw [hoI] at this
          exact this
        obtain ⟨q, hq, _, _, hqc⟩ := Gr.lab_next HWp.out HL.out hoa
        have hqj : P[j]? = some (q : Int) := by
          rw [← hq]
          exact ((Gr.lab_reach HWp.out HL.out hoa hoj).2 (.one (Gr.mem_near.2 ⟨_, hsta⟩))).symm
        have hal : a < P.length := (List.getElem?_eq_some_iff.1 hq).1
        have hjl : j < P.length := (List.getElem?_eq_some_iff.1 hqj).1
        have HQ : Aside (P[a]? = some (q : Int) ∧ P[j]? = some (q : Int)) := ⟨hq, hqj⟩
        unfold gv at HS2 HO2
        generalize g.stK (a : Int) m' = L at *
        clear hst HSU hoa hoj hstb hoI hq hqj hsta hmm
        go_wp2_with fail
        refine cS.mono ?_
        rintro e w4 ⟨rfl, hb4⟩
        have HB4 : Aside (Below w2.heap.size w2 w4) := HBk.out.trans (hb4.mono HBk.out.size)
        have HB4w : Aside (Below w.heap.size w w4) := HBw.out.trans (hb4.mono HBw.out.size)
        have HX4 : Aside (Bx w4 w.heap.size g p) := HXk.out.keep hb4
        clear cS hb4 k0 k1 k2 k3 k4
        obtain ⟨_, k0, k1, k2, k3, k4⟩ := HX4.out
        have cS2 := HS2.out w4 HB4w.out
        go_wp2_with fail
        refine cS2.mono ?_
        rintro e w5 ⟨rfl, hb5⟩
        have HB5 : Aside (Below w2.heap.size w2 w5) := HB4.out.trans (hb5.mono HB4.out.size)
        have HB5w : Aside (Below w.heap.size w w5) := HB4w.out.trans (hb5.mono HB4w.out.size)
        have HX5 : Aside (Bx w5 w.heap.size g p) := HX4.out.keep hb5
        clear cS2 hb5 k0 k1 k2 k3 k4
        obtain ⟨_, k0, k1, k2, k3, k4⟩ := HX5.out
        have ra := HRd.out w5 HB5.out a _ HQ.out.1
        have rj := HRd.out w5 HB5.out j _ HQ.out.2
        have hq0 : ¬ (q : Int) < 0 := by omega
        have hqn : ¬ (g.count : Int) ≤ (q : Int) := by omega
        go_wp2
        have HC : Aside (∀ W, Below w5.heap.size w5 W → W.cell? ⟨b, off + a, none⟩ = some (.int .i64 (q : Int)) ∧ W.cell? ⟨b, off + j, none⟩ = some (.int .i64 (q : Int)) ∧ Bx W w.heap.size g p) := fun W hW => ⟨HRd.out W (HB5.out.trans (hW.mono HB5.out.size)) a _ HQ.out.1, HRd.out W (HB5.out.trans (hW.mono HB5.out.size)) j _ HQ.out.2, HX5.out.keep hW⟩
        refine wp_region_quiet (C := fun W => Below w5.heap.size w5 W) (by kernel_rfl) (by kernel_rfl) (Below.drew (Below.refl _ _)) ?_
        have hj0 : ¬ (j : Int) < 0 := by omega
        have ha0 : ¬ (a : Int) < 0 := by omega
        have hjp : ¬ P.length ≤ j := by omega
        have hap : ¬ P.length ≤ a := by omega
        have hqp : ¬ g.count ≤ q := by omega
        clear k0 k1 k2 k3 k4 ra rj
        repeat (
          refine wpQuiet_step (fun K hK => ?_)
          go_simp
          first
            | (refine hK _ ?_; clear hK K)
            | (apply Exists.intro
               refine ⟨fun W hW => ?_, hK _ ?_⟩
               first
                 | exact rfl
                 | (refine (HO2.out W (HB5w.out.trans (hW.mono HB5w.out.size))).mono ?_; rintro e w6 ⟨rfl, hb6⟩; exact ⟨rfl, hW.trans (hb6.mono hW.size)⟩)
                 | (obtain ⟨f1, f2, f3⟩ := HC.out W hW; obtain ⟨_, k0, k1, k2, k3, k4⟩ := f3; go_simp; exact rfl)
               clear hK K))
        refine wpQuiet_nil ?_
        intro w6 hb6
        have HB6 : Aside (Below w2.heap.size w2 w6) := HB5.out.trans (hb6.mono HB5.out.size)
        clear hb6
        go_wp2
        go_roundg (4 - (m' + 1))
        case measure => omega
        case rel => exact ⟨m' + 1, by go_num, by rw [HSU2.out]; go_num, by omega, Nat.le_refl _, HB6⟩
    · have hltz : ¬ (m : Int) < 4 := by omega
      obtain rfl : m = 4 := by omega
      have cN := near_any g p i wr (HW.out _ HBw.out).1 (HW.out _ HBw.out).2
      unfold gv at cN
      rw [HN4.out]
      go_wp2_with fail
      refine cN.mono ?_
      rintro e w4 ⟨v, rfl, hown, hb4⟩
      obtain ⟨ao, cap2, rfl, hln, _⟩ := row_reads hown
      rw [ints_length]
      clear hown cN hln
      generalize (g.nearI i).length = nl at *
      go_wp2
      go_ret
      exact ⟨rfl, HBw.out.trans (hb4.mono HBw.out.size)⟩

theorem gridBack_walk (g : Gr) (p : Ad) (i : Int) (w : World) (_hl : g.lenOk) (hR : RG w g p) (_hp : p.nz) (hi0 : -9223372036854775808 ≤ i) (hi1 : i ≤ 9223372036854775807) (hw : Wy w) :
    Calls Tryd.prog 6 #[gv g p, .int .i64 i] w fun e w' => e = .returned (.bool true) ∧ Below w.heap.size w w' := by
  by_cases hok : g.ok
  · exact gridBack_open g p hok i hi0 hi1 w hw hR
  · exact gridBack_shut g p hok i w hw hR
end Go.Proofs.YtaepndaboefbeaaDoor.Grd
