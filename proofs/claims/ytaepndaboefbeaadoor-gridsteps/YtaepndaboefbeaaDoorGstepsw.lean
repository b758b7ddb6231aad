/-
  GridSteps walked: Step and Near of any grid are the document's, at any cell and way.
-/
import Derived.Test.YtaepndaboefbeaaDoorRfe
import Derived.Test.YtaepndaboefbeaaDoorGrdp
import Derived.Test.YtaepndaboefbeaaDoorGrdx
namespace Go.Proofs.YtaepndaboefbeaaDoor.Grd
open Go Go.Lib Go.RowKit

set_option maxRecDepth 20000 in
set_option maxHeartbeats 4000000 in
theorem gridSteps_walk (g : Gr) (p : Ad) (i way : Int) (w : World) (hl : g.lenOk) (hR : RG w g p) (hp : p.nz) (_hi0 : -9223372036854775808 ≤ i) (_hi1 : i ≤ 9223372036854775807) (_hw0 : -9223372036854775808 ≤ way) (_hw1 : way ≤ 9223372036854775807) (hw : Wy w) :
    Calls Tryd.prog 4 #[gv g p, .int .i64 i, .int .i64 way] w fun e w' => e = .returned (.bool true) ∧ Below w.heap.size w w' := by
  have HW : Aside (∀ W, Below w.heap.size w W → Wy W ∧ RG W g p) := fun W hb => ⟨hw.below hw.size hb, hR.below hb⟩
  have cA := awake_any (w.alloc (.cells #[.int .i64 g.h, .int .i64 g.w, .slice p.a1 g.B.length p.c1, .slice p.a2 g.R.length p.c2, .slice p.a3 g.D.length p.c3] 24)) (HW.out _ (below_box w _)).1
  have HLt : Aside (∀ W, Below w.heap.size w W → Calls Tryd.prog 10 #[gv g p] W fun e w' => ∃ b1 b2 b3, e = .returned (gv g (lad g b1 b2 b3)) ∧ Lent w' W.heap.size g b1 b2 b3 ∧ Below W.heap.size W w') := fun W hb => lent_any g p W hl (HW.out W hb).2 hp
  have HLO : Aside (g.lenOk) := hl
  unfold gv at HLt
  unfold gv
  clear hw hR hp hl
  go_enter Tryd.func4, Tryd.ntmps4
  go_wp2_with fail
  refine cA.mono ?_
  rintro e w1 ⟨rfl, hb1⟩
  have HX1 : Aside (Bx w1 w.heap.size g p) := (Bx.new w g p _).keep hb1
  have HB1 : Aside (Below w.heap.size w w1) := (below_box w _).trans (hb1.mono (below_box w _).size)
  obtain ⟨_, k0, k1, k2, k3, k4⟩ := HX1.out
  clear hb1 cA
  go_wp2_with fail
  refine (HLt.out w1 HB1.out).mono ?_
  rintro e w2 ⟨b1, b2, b3, rfl, hL2, hb2⟩
  have HX2 : Aside (Bx w2 w.heap.size g p) := HX1.out.keep hb2
  have HB2 : Aside (Below w.heap.size w w2) := HB1.out.trans (hb2.mono HB1.out.size)
  have HL2 : Aside (Lent w2 w1.heap.size g b1 b2 b3) := hL2
  unfold lad
  dsimp only
  clear k0 k1 k2 k3 k4 hb2 hL2 HX1
  obtain ⟨_, k0, k1, k2, k3, k4⟩ := HX2.out
  go_wp2_with fail
  have HX3 : Aside (Bx (w2.alloc (.cells #[.int .i64 g.h, .int .i64 g.w, .slice (some ⟨b1, 0, none⟩) g.B.length (g.B.length + 2), .slice (some ⟨b2, 0, none⟩) g.R.length (g.R.length + 2), .slice (some ⟨b3, 0, none⟩) g.D.length (g.D.length + 2)] 24)) w.heap.size g p) := HX2.out.keep (below_box _ _)
  have HZ3 : Aside (Bx (w2.alloc (.cells #[.int .i64 g.h, .int .i64 g.w, .slice (some ⟨b1, 0, none⟩) g.B.length (g.B.length + 2), .slice (some ⟨b2, 0, none⟩) g.R.length (g.R.length + 2), .slice (some ⟨b3, 0, none⟩) g.D.length (g.D.length + 2)] 24)) w2.heap.size g ⟨some ⟨b1, 0, none⟩, g.B.length + 2, some ⟨b2, 0, none⟩, g.R.length + 2, some ⟨b3, 0, none⟩, g.D.length + 2⟩) := Bx.new w2 g ⟨some ⟨b1, 0, none⟩, g.B.length + 2, some ⟨b2, 0, none⟩, g.R.length + 2, some ⟨b3, 0, none⟩, g.D.length + 2⟩ _
  have HL3 : Aside (Lent (w2.alloc (.cells #[.int .i64 g.h, .int .i64 g.w, .slice (some ⟨b1, 0, none⟩) g.B.length (g.B.length + 2), .slice (some ⟨b2, 0, none⟩) g.R.length (g.R.length + 2), .slice (some ⟨b3, 0, none⟩) g.D.length (g.D.length + 2)] 24)) w1.heap.size g b1 b2 b3) := HL2.out.below (below_box _ _)
  have HB3 : Aside (Below w.heap.size w (w2.alloc (.cells #[.int .i64 g.h, .int .i64 g.w, .slice (some ⟨b1, 0, none⟩) g.B.length (g.B.length + 2), .slice (some ⟨b2, 0, none⟩) g.R.length (g.R.length + 2), .slice (some ⟨b3, 0, none⟩) g.D.length (g.D.length + 2)] 24))) := HB2.out.alloc HB2.out.size _
  generalize w2.alloc (.cells #[.int .i64 g.h, .int .i64 g.w, .slice (some ⟨b1, 0, none⟩) g.B.length (g.B.length + 2), .slice (some ⟨b2, 0, none⟩) g.R.length (g.R.length + 2), .slice (some ⟨b3, 0, none⟩) g.D.length (g.D.length + 2)] 24) = w3 at *
  have HWw : Aside (∀ W, Below w3.heap.size w3 W → Wy W ∧ RG W g p) := fun W hW => HW.out W (HB3.out.trans (hW.mono HB3.out.size))
  have HRL : Aside (∀ W, Below w3.heap.size w3 W → RG W g (lad g b1 b2 b3)) := fun W hW => (HL3.out.below hW).rg
  have HC : Aside (∀ W, Below w3.heap.size w3 W → Bx W w.heap.size g p ∧ Bx W w2.heap.size g ⟨some ⟨b1, 0, none⟩, g.B.length + 2, some ⟨b2, 0, none⟩, g.R.length + 2, some ⟨b3, 0, none⟩, g.D.length + 2⟩) := fun W hW => ⟨HX3.out.keep hW, HZ3.out.keep hW⟩
  have cSt : Aside (∀ W, Below w3.heap.size w3 W → Calls Tryd.prog 20 #[gv g (lad g b1 b2 b3), .int .i64 i, .int .i64 way] W fun e w' => e = .returned (opt (g.stI i way)) ∧ Below W.heap.size W w') := fun W hW => Step_any g _ i way W (HWw.out W hW).1 (HRL.out W hW)
  have cRSt : Aside (∀ W, Below w3.heap.size w3 W → Calls Tryd.prog 21 #[gv g p, .int .i64 i, .int .i64 way] W fun e w' => e = .returned (opt (g.stI i way)) ∧ Below W.heap.size W w') := fun W hW => refStep_any g p i way W (HWw.out W hW).2
  have cNr : Aside (∀ W, Below w3.heap.size w3 W → Calls Tryd.prog 22 #[gv g (lad g b1 b2 b3), .int .i64 i] W fun e w' => ∃ v, e = .returned v ∧ w'.ownsRow W.heap.size 3 1 v (g.nearI i).length (cellsI (ints (g.nearI i))) ∧ Below W.heap.size W w') := fun W hW => near_any g _ i W (HWw.out W hW).1 (HRL.out W hW)
  have cRNr : Aside (∀ W, Below w3.heap.size w3 W → Calls Tryd.prog 23 #[gv g p, .int .i64 i] W fun e w' => ∃ v, e = .returned v ∧ w'.ownsRow W.heap.size 3 1 v (g.nearI i).length (cellsI (ints (g.nearI i))) ∧ Below W.heap.size W w') := fun W hW => refNear_any g p i W (HWw.out W hW).2
  have cK : Aside (∀ W, Below w3.heap.size w3 W → Calls Tryd.prog 19 #[gv g (lad g b1 b2 b3), gv g p] W fun e w' => e = .returned (.bool true) ∧ Below W.heap.size W w') := fun W hW => kept_any g p b1 b2 b3 _ W HLO.out (HL3.out.below hW) (HWw.out W hW).2
  unfold gv lad at cSt cNr cK
  unfold opt at cSt cRSt
  unfold gv at cRSt cRNr
  dsimp only at cSt cNr cK
  have hNl : (g.nearI i).length ≤ 4 := by
    unfold Gr.nearI
    by_cases h : g.opI i = true
    · rw [if_pos h]; exact g.near_len _
    · rw [if_neg h]; exact Nat.zero_le _
  generalize hgo : g.stI i way = o at cSt cRSt
  generalize g.nearI i = L at *
  clear hgo HLt HX2 HL2 HB2 HB1 k0 k1 k2 k3 k4
  refine (cSt.out w3 (Below.refl _ _)).mono ?_
  rintro e w4 ⟨rfl, hb4⟩
  have HB4 : Aside (Below w3.heap.size w3 w4) := hb4
  obtain ⟨f1, f2⟩ := HC.out w4 hb4
  obtain ⟨_, k0, k1, k2, k3, k4⟩ := f1
  obtain ⟨_, l0, l1, l2, l3, l4⟩ := f2
  clear hb4
  go_wp2_with fail
  refine (cRSt.out w4 HB4.out).mono ?_
  rintro e w5 ⟨rfl, hb5⟩
  have HB5 : Aside (Below w3.heap.size w3 w5) := HB4.out.trans (hb5.mono HB4.out.size)
  clear k0 k1 k2 k3 k4 l0 l1 l2 l3 l4 hb5
  obtain ⟨f1, f2⟩ := HC.out w5 HB5.out
  obtain ⟨_, k0, k1, k2, k3, k4⟩ := f1
  obtain ⟨_, l0, l1, l2, l3, l4⟩ := f2
  go_wp2_with fail
  refine (cNr.out w5 HB5.out).mono ?_
  rintro e w6 ⟨vl, rfl, hol, hb6⟩
  have HB56 : Aside (Below w5.heap.size w5 w6) := hb6
  have HB6 : Aside (Below w3.heap.size w3 w6) := HB5.out.trans (hb6.mono HB5.out.size)
  clear k0 k1 k2 k3 k4 l0 l1 l2 l3 l4 hb6
  obtain ⟨f1, f2⟩ := HC.out w6 HB6.out
  obtain ⟨_, k0, k1, k2, k3, k4⟩ := f1
  obtain ⟨_, l0, l1, l2, l3, l4⟩ := f2
  have HOL : Aside (w6.ownsRow w5.heap.size 3 1 vl L.length (cellsI (ints L))) := hol
  obtain ⟨la, lc, rfl, -, hlr⟩ := row_reads hol
  have HLR : Aside (ReadsI w6 la (ints L)) := hlr
  clear hol hlr
  go_wp2_with fail
  refine (cRNr.out w6 HB6.out).mono ?_
  rintro e w7 ⟨vw, rfl, how, hb7⟩
  have HB67 : Aside (Below w6.heap.size w6 w7) := hb7
  have HB7 : Aside (Below w3.heap.size w3 w7) := HB6.out.trans (hb7.mono HB6.out.size)
  clear k0 k1 k2 k3 k4 l0 l1 l2 l3 l4 hb7
  have HOW : Aside (w7.ownsRow w6.heap.size 3 1 vw L.length (cellsI (ints L))) := how
  obtain ⟨wa, wc, rfl, -, hwr⟩ := row_reads how
  have HWR : Aside (ReadsI w7 wa (ints L)) := hwr
  clear how hwr
  have cSI := sameInts_any (ints L) la wa lc wc w7 (by rw [ints_length]; omega) (HLR.out.below HB67.out) HWR.out
  go_wp2_with fail
  refine cSI.mono ?_
  rintro e w8 ⟨rfl, hb8⟩
  have HB78 : Aside (Below w7.heap.size w7 w8) := hb8
  have HB8 : Aside (Below w3.heap.size w3 w8) := HB7.out.trans (hb8.mono HB7.out.size)
  clear cSI hb8
  have HO8 : Aside (w8.ownsRow w5.heap.size 3 1 (.slice la (ints L).length lc) L.length (cellsI (ints L))) := row_keeps (row_keeps HOL.out HB67.out) HB78.out
  have HQ8 : Aside (w8.ownsRow w6.heap.size 3 1 (.slice wa (ints L).length wc) L.length (cellsI (ints L))) := row_keeps HOW.out HB78.out
  have HB58 : Aside (Below w5.heap.size w5 w8) := (HB56.out.trans (HB67.out.mono HB56.out.size)).trans (HB78.out.mono (HB56.out.trans (HB67.out.mono HB56.out.size)).size)
  have HLB : Aside (∀ b, la = some ⟨b, 0, none⟩ → b < w6.heap.size) := fun b hb => (HOL.out.lt b (by rw [hb]; rfl)).2
  have hil : (ints L).length ≤ 4 := by rw [ints_length]; exact hNl
  have HIL : Aside ((ints L).length = L.length) := ints_length L
  have HB3f : Aside (∀ W, Below w5.heap.size w5 W → Below w3.heap.size w3 W) := fun W hW => HB5.out.trans (hW.mono HB5.out.size)
  clear HOL HOW HLR HWR
  go_wp2
  go_loopg [53] (ints L).length (fun g1 iv wr => ∃ k : Nat, iv = .int .i64 (k : Int) ∧ k ≤ (ints L).length ∧ (ints L).length - k ≤ g1 ∧ Aside (∃ ys : List Int, ys.length = L.length ∧ wr.ownsRow w5.heap.size 3 1 (.slice la (ints L).length lc) L.length (cellsI ys)) ∧ Aside (Below w5.heap.size w5 wr) ∧ Aside (wr.ownsRow w6.heap.size 3 1 (.slice wa (ints L).length wc) L.length (cellsI (ints L))))
  case atStart => exact ⟨0, rfl, Nat.zero_le _, Nat.le_refl _, ⟨_, ints_length _, HO8.out⟩, HB58, HQ8⟩
  case round =>
    obtain ⟨k, rfl, hk, hg, HY, HBk, HQk⟩ := hrel
    by_cases hlt : k < (ints L).length
    · have hltz : (k : Int) < ((ints L).length : Int) := by omega
      obtain ⟨ys, hyl, hy⟩ := HY.out
      have hgs : ∃ b, la = some ⟨b, 0, none⟩ := by
        rcases hy.2 with ⟨h1, h2⟩ | ⟨b, cap, cur, h1, _⟩
        · have := HIL.out; omega
        · simp only [Value.slice.injEq] at h1; exact ⟨b, h1.1⟩
      obtain ⟨b, rfl⟩ := hgs
      have hkL : k < L.length := by have := HIL.out; omega
      have hy' : wr.ownsRow w5.heap.size 3 1 (.slice (some ⟨b, 0, none⟩) L.length lc) L.length (cellsI ys) := by rw [← HIL.out] at hy ⊢; exact hy
      have ck : wr.cell? ⟨b, k, none⟩ = some (.int .i64 (ys[k]?.getD 0)) := by
        rw [hy'.cellAt k (by omega)]
        simp [cellsI, List.getElem?_eq_getElem (l := ys) (i := k) (by omega)]
      generalize ys[k]?.getD 0 = yk at ck
      have fk := hy'.frozenAt k
      obtain ⟨hy2, hgr⟩ := hy'.stored k (.int .i64 (-1))
      have HB2 : Aside (Below w5.heap.size w5 (wr.setCell ⟨b, k, none⟩ (.int .i64 (-1)))) := HBk.out.grown hgr HBk.out.size (fun j hj => by
        have := (hy'.lt b rfl).1
        injection hj with h; omega)
      have HN : Aside (∃ ys : List Int, ys.length = L.length ∧ (wr.setCell ⟨b, k, none⟩ (.int .i64 (-1))).ownsRow w5.heap.size 3 1 (.slice (some ⟨b, 0, none⟩) (ints L).length lc) L.length (cellsI ys)) := ⟨ys.set k (-1), by simpa using hyl, by
        rw [show cellsI (ys.set k (-1)) = (cellsI ys).set k (.int .i64 (-1)) by simp [cellsI], HIL.out]; exact hy2⟩
      have HQ2 : Aside ((wr.setCell ⟨b, k, none⟩ (.int .i64 (-1))).ownsRow w6.heap.size 3 1 (.slice wa (ints L).length wc) L.length (cellsI (ints L))) := by
        refine HQk.out.kept hgr ?_
        by_cases hv : (Value.slice wa (ints L).length wc).ownBlock = none
        · exact .inl hv
        · right
          intro e
          have h1 := (HQk.out.lt b e).1
          have h2 := HLB.out b rfl
          omega
      clear hy hy' hy2 hgr HY hyl
      go_wp2
      go_roundg ((ints L).length - (k + 1))
      case measure => omega
      case rel => exact ⟨k + 1, by go_num, by omega, Nat.le_refl _, HN, HB2, HQ2⟩
    · have hltz : ¬ (k : Int) < ((ints L).length : Int) := by omega
      have HBr : Aside (Below w3.heap.size w3 wr) := HB3f.out wr HBk.out
      obtain ⟨f1, f2⟩ := HC.out wr HBr.out
      obtain ⟨_, k0, k1, k2, k3, k4⟩ := f1
      obtain ⟨_, l0, l1, l2, l3, l4⟩ := f2
      go_wp2_with fail
      refine (cNr.out wr HBr.out).mono ?_
      rintro e w9 ⟨v9, rfl, ho9, hb9⟩
      have HB9 : Aside (Below w3.heap.size w3 w9) := HBr.out.trans (hb9.mono HBr.out.size)
      have hq9 := row_keeps HQk.out hb9
      obtain ⟨na, nc, rfl, -, hnr⟩ := row_reads ho9
      obtain ⟨wa', wc', hwe, -, hwr⟩ := row_reads hq9
      simp only [Value.slice.injEq] at hwe
      obtain ⟨rfl, -, rfl⟩ := hwe
      have cSI := sameInts_any (ints L) na wa nc wc w9 (by omega) hnr hwr
      clear k0 k1 k2 k3 k4 l0 l1 l2 l3 l4 hb9 hq9 hnr hwr ho9 HY HQk
      go_wp2_with fail
      refine cSI.mono ?_
      rintro e w10 ⟨rfl, hb10⟩
      have HB10 : Aside (Below w3.heap.size w3 w10) := HB9.out.trans (hb10.mono HB9.out.size)
      obtain ⟨f1, f2⟩ := HC.out w10 HB10.out
      obtain ⟨_, k0, k1, k2, k3, k4⟩ := f1
      obtain ⟨_, l0, l1, l2, l3, l4⟩ := f2
      clear cSI hb10
      go_wp2_with fail
      refine (cK.out w10 HB10.out).mono ?_
      rintro e w11 ⟨rfl, hb11⟩
      have HB11 : Aside (Below w.heap.size w w11) := HB3.out.trans ((HB10.out.trans (hb11.mono HB10.out.size)).mono HB3.out.size)
      clear hb11
      go_wp2
      go_ret
      exact ⟨rfl, HB11.out⟩
end Go.Proofs.YtaepndaboefbeaaDoor.Grd
