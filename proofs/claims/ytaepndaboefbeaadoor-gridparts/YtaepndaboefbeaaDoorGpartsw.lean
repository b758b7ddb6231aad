/-
  GridParts walked: the parts of any grid are the document's.
-/
import Derived.Test.YtaepndaboefbeaaDoorRff
import Derived.Test.YtaepndaboefbeaaDoorGrdp
import Derived.Test.YtaepndaboefbeaaDoorGrdx
namespace Go.Proofs.YtaepndaboefbeaaDoor.Grd
open Go Go.Lib Go.RowKit

/-- Both answer one list of numbers and one count, whatever the world. -/
theorem parts_both (g : Gr) : ∃ (L : List Int) (c : Nat), L.length ≤ 256 ∧ c ≤ 256 ∧
    (∀ (p : Ad) (w : World), Wy w → RG w g p → Calls Tryd.prog 25 #[gv g p] w fun e w' => ∃ v, e = .returned (.tuple #[v, .int .i64 (c : Int)]) ∧ w'.ownsRow w.heap.size 3 1 v L.length (cellsI L) ∧ Below w.heap.size w w') ∧
    (∀ (p : Ad) (w : World), RG w g p → Calls Tryd.prog 26 #[gv g p] w fun e w' => ∃ v, e = .returned (.tuple #[v, .int .i64 (c : Int)]) ∧ w'.ownsRow w.heap.size 3 1 v L.length (cellsI L) ∧ Below w.heap.size w w') := by
  by_cases hok : g.ok
  · have hz := (Gr.right_of hok).sz
    have hn := hz.n_le
    have hc : g.count ≤ 256 := Nat.le_trans (g.ahead_le g.n) hn.2
    by_cases hP : ∃ P, g.Labels P
    · obtain ⟨P, hP⟩ := hP
      have hl : P.length = g.n := hP.1
      refine ⟨P, g.count, by omega, hc, fun p w hw hR => (parts_open g p hok w hw hR).mono ?_, fun p w hR => (refParts_open g p hok w hR).mono ?_⟩
      · rintro e w' ⟨v, rfl, P', h1, h2, h3⟩
        rw [Gr.labels_unique hz.sw.1 h2 hP, ← hl] at h1
        exact ⟨v, rfl, h1, h3⟩
      · rintro e w' ⟨v, rfl, P', h1, h2, h3⟩
        rw [Gr.labels_unique hz.sw.1 h2 hP, ← hl] at h1
        exact ⟨v, rfl, h1, h3⟩
    · refine ⟨[], 0, by simp, by omega, fun p w hw hR => (parts_open g p hok w hw hR).mono ?_, fun p w hR => (refParts_open g p hok w hR).mono ?_⟩
      · rintro e w' ⟨v, rfl, P', h1, h2, h3⟩
        exact absurd ⟨P', h2⟩ hP
      · rintro e w' ⟨v, rfl, P', h1, h2, h3⟩
        exact absurd ⟨P', h2⟩ hP
  · refine ⟨[], 0, by simp, by omega, fun p w hw hR => (parts_shut g p hok w hw hR).mono ?_, fun p w hR => (refParts_shut g p hok w hR).mono ?_⟩
    · rintro e w' ⟨rfl, hb⟩
      exact ⟨_, rfl, World.ownsRow_nil _ _ _ _, hb⟩
    · rintro e w' ⟨rfl, hb⟩
      exact ⟨_, rfl, World.ownsRow_nil _ _ _ _, hb⟩

set_option maxRecDepth 20000 in
set_option maxHeartbeats 4000000 in
theorem gridParts_walk (g : Gr) (p : Ad) (w : World) (hl : g.lenOk) (hR : RG w g p) (hp : p.nz) (hw : Wy w) :
    Calls Tryd.prog 5 #[gv g p] w fun e w' => e = .returned (.bool true) ∧ Below w.heap.size w w' := by
  obtain ⟨L, ct, hNl, hct, hPa, hPr⟩ := parts_both g
  have HW : Aside (∀ W, Below w.heap.size w W → Wy W ∧ RG W g p) := fun W hb => ⟨hw.below hw.size hb, hR.below hb⟩
  have cA := awake_any (w.alloc (.cells #[.int .i64 g.h, .int .i64 g.w, .slice p.a1 g.B.length p.c1, .slice p.a2 g.R.length p.c2, .slice p.a3 g.D.length p.c3] 24)) (HW.out _ (below_box w _)).1
  have HLt : Aside (∀ W, Below w.heap.size w W → Calls Tryd.prog 10 #[gv g p] W fun e w' => ∃ b1 b2 b3, e = .returned (gv g (lad g b1 b2 b3)) ∧ Lent w' W.heap.size g b1 b2 b3 ∧ Below W.heap.size W w') := fun W hb => lent_any g p W hl (HW.out W hb).2 hp
  have HLO : Aside (g.lenOk) := hl
  unfold gv at HLt
  unfold gv
  clear hw hR hp hl
  go_enter Tryd.func5, Tryd.ntmps5
  go_wp2_with fail
  refine cA.mono ?_
  rintro e w1 ⟨rfl, hb1⟩
  have HX1 : Aside (Bx w1 w.heap.size g p) := (Bx.new w g p _).keep hb1
  have HB1 : Aside (Below w.heap.size w w1) := (below_box w _).trans (hb1.mono (below_box w _).size)
  obtain ⟨_, k0, k1, k2, k3, k4⟩ := HX1.out
  clear hb1 cA
  go_wp2_with fail
  refine (HLt.out w1 HB1.out).mono ?_
  rintro e w2 ⟨b1, b2, b3, rfl, hL2, hb2⟩
  have HX2 : Aside (Bx w2 w.heap.size g p) := HX1.out.keep hb2
  have HB2 : Aside (Below w.heap.size w w2) := HB1.out.trans (hb2.mono HB1.out.size)
  have HL2 : Aside (Lent w2 w1.heap.size g b1 b2 b3) := hL2
  unfold lad
  dsimp only
  clear k0 k1 k2 k3 k4 hb2 hL2 HX1
  obtain ⟨_, k0, k1, k2, k3, k4⟩ := HX2.out
  go_wp2_with fail
  have HX3 : Aside (Bx (w2.alloc (.cells #[.int .i64 g.h, .int .i64 g.w, .slice (some ⟨b1, 0, none⟩) g.B.length (g.B.length + 2), .slice (some ⟨b2, 0, none⟩) g.R.length (g.R.length + 2), .slice (some ⟨b3, 0, none⟩) g.D.length (g.D.length + 2)] 24)) w.heap.size g p) := HX2.out.keep (below_box _ _)
  have HZ3 : Aside (Bx (w2.alloc (.cells #[.int .i64 g.h, .int .i64 g.w, .slice (some ⟨b1, 0, none⟩) g.B.length (g.B.length + 2), .slice (some ⟨b2, 0, none⟩) g.R.length (g.R.length + 2), .slice (some ⟨b3, 0, none⟩) g.D.length (g.D.length + 2)] 24)) w2.heap.size g ⟨some ⟨b1, 0, none⟩, g.B.length + 2, some ⟨b2, 0, none⟩, g.R.length + 2, some ⟨b3, 0, none⟩, g.D.length + 2⟩) := Bx.new w2 g ⟨some ⟨b1, 0, none⟩, g.B.length + 2, some ⟨b2, 0, none⟩, g.R.length + 2, some ⟨b3, 0, none⟩, g.D.length + 2⟩ _
  have HL3 : Aside (Lent (w2.alloc (.cells #[.int .i64 g.h, .int .i64 g.w, .slice (some ⟨b1, 0, none⟩) g.B.length (g.B.length + 2), .slice (some ⟨b2, 0, none⟩) g.R.length (g.R.length + 2), .slice (some ⟨b3, 0, none⟩) g.D.length (g.D.length + 2)] 24)) w1.heap.size g b1 b2 b3) := HL2.out.below (below_box _ _)
  have HB3 : Aside (Below w.heap.size w (w2.alloc (.cells #[.int .i64 g.h, .int .i64 g.w, .slice (some ⟨b1, 0, none⟩) g.B.length (g.B.length + 2), .slice (some ⟨b2, 0, none⟩) g.R.length (g.R.length + 2), .slice (some ⟨b3, 0, none⟩) g.D.length (g.D.length + 2)] 24))) := HB2.out.alloc HB2.out.size _
  generalize w2.alloc (.cells #[.int .i64 g.h, .int .i64 g.w, .slice (some ⟨b1, 0, none⟩) g.B.length (g.B.length + 2), .slice (some ⟨b2, 0, none⟩) g.R.length (g.R.length + 2), .slice (some ⟨b3, 0, none⟩) g.D.length (g.D.length + 2)] 24) = w3 at *
  have HWw : Aside (∀ W, Below w3.heap.size w3 W → Wy W ∧ RG W g p) := fun W hW => HW.out W (HB3.out.trans (hW.mono HB3.out.size))
  have HRL : Aside (∀ W, Below w3.heap.size w3 W → RG W g (lad g b1 b2 b3)) := fun W hW => (HL3.out.below hW).rg
  have HC : Aside (∀ W, Below w3.heap.size w3 W → Bx W w.heap.size g p ∧ Bx W w2.heap.size g ⟨some ⟨b1, 0, none⟩, g.B.length + 2, some ⟨b2, 0, none⟩, g.R.length + 2, some ⟨b3, 0, none⟩, g.D.length + 2⟩) := fun W hW => ⟨HX3.out.keep hW, HZ3.out.keep hW⟩
  have cNr : Aside (∀ W, Below w3.heap.size w3 W → Calls Tryd.prog 25 #[gv g (lad g b1 b2 b3)] W fun e w' => ∃ v, e = .returned (.tuple #[v, .int .i64 (ct : Int)]) ∧ w'.ownsRow W.heap.size 3 1 v L.length (cellsI L) ∧ Below W.heap.size W w') := fun W hW => hPa _ W (HWw.out W hW).1 (HRL.out W hW)
  have cRNr : Aside (∀ W, Below w3.heap.size w3 W → Calls Tryd.prog 26 #[gv g p] W fun e w' => ∃ v, e = .returned (.tuple #[v, .int .i64 (ct : Int)]) ∧ w'.ownsRow W.heap.size 3 1 v L.length (cellsI L) ∧ Below W.heap.size W w') := fun W hW => hPr p W (HWw.out W hW).2
  have cK : Aside (∀ W, Below w3.heap.size w3 W → Calls Tryd.prog 19 #[gv g (lad g b1 b2 b3), gv g p] W fun e w' => e = .returned (.bool true) ∧ Below W.heap.size W w') := fun W hW => kept_any g p b1 b2 b3 _ W HLO.out (HL3.out.below hW) (HWw.out W hW).2
  unfold gv lad at cNr cK
  unfold gv at cRNr
  dsimp only at cNr cK
  clear HLt HX2 HL2 HB2 HB1 k0 k1 k2 k3 k4 hPa hPr
  refine (cNr.out w3 (Below.refl _ _)).mono ?_
  rintro e w6 ⟨vl, rfl, hol, hb6⟩
  have HB36 : Aside (Below w3.heap.size w3 w6) := hb6
  have HB6 : Aside (Below w3.heap.size w3 w6) := hb6
  clear hb6
  obtain ⟨f1, f2⟩ := HC.out w6 HB6.out
  obtain ⟨_, k0, k1, k2, k3, k4⟩ := f1
  obtain ⟨_, l0, l1, l2, l3, l4⟩ := f2
  have HOL : Aside (w6.ownsRow w3.heap.size 3 1 vl L.length (cellsI L)) := hol
  obtain ⟨la, lc, rfl, -, hlr⟩ := row_reads hol
  have HLR : Aside (ReadsI w6 la L) := hlr
  clear hol hlr
  go_wp2_with fail
  refine (cRNr.out w6 HB6.out).mono ?_
  rintro e w7 ⟨vw, rfl, how, hb7⟩
  have HB67 : Aside (Below w6.heap.size w6 w7) := hb7
  have HB7 : Aside (Below w3.heap.size w3 w7) := HB6.out.trans (hb7.mono HB6.out.size)
  clear k0 k1 k2 k3 k4 l0 l1 l2 l3 l4 hb7
  have HOW : Aside (w7.ownsRow w6.heap.size 3 1 vw L.length (cellsI L)) := how
  obtain ⟨wa, wc, rfl, -, hwr⟩ := row_reads how
  have HWR : Aside (ReadsI w7 wa L) := hwr
  clear how hwr
  have cSI := sameInts_any L la wa lc wc w7 (by omega) (HLR.out.below HB67.out) HWR.out
  go_wp2_with fail
  refine cSI.mono ?_
  rintro e w8 ⟨rfl, hb8⟩
  have HB78 : Aside (Below w7.heap.size w7 w8) := hb8
  have HB8 : Aside (Below w3.heap.size w3 w8) := HB7.out.trans (hb8.mono HB7.out.size)
  clear cSI hb8
  have HO8 : Aside (w8.ownsRow w3.heap.size 3 1 (.slice la L.length lc) L.length (cellsI L)) := row_keeps (row_keeps HOL.out HB67.out) HB78.out
  have HQ8 : Aside (w8.ownsRow w6.heap.size 3 1 (.slice wa L.length wc) L.length (cellsI L)) := row_keeps HOW.out HB78.out
  have HB58 : Aside (Below w3.heap.size w3 w8) := (HB36.out.trans (HB67.out.mono HB36.out.size)).trans (HB78.out.mono (HB36.out.trans (HB67.out.mono HB36.out.size)).size)
  have HLB : Aside (∀ b, la = some ⟨b, 0, none⟩ → b < w6.heap.size) := fun b hb => (HOL.out.lt b (by rw [hb]; rfl)).2
  have hil : L.length ≤ 256 := hNl
  have HB3f : Aside (∀ W, Below w3.heap.size w3 W → Below w3.heap.size w3 W) := fun _ hW => hW
  clear HOL HOW HLR HWR
  go_wp2
  go_loopg [36] L.length (fun g1 iv wr => ∃ k : Nat, iv = .int .i64 (k : Int) ∧ k ≤ L.length ∧ L.length - k ≤ g1 ∧ Aside (∃ ys : List Int, ys.length = L.length ∧ wr.ownsRow w3.heap.size 3 1 (.slice la L.length lc) L.length (cellsI ys)) ∧ Aside (Below w3.heap.size w3 wr) ∧ Aside (wr.ownsRow w6.heap.size 3 1 (.slice wa L.length wc) L.length (cellsI L)))
  case atStart => exact ⟨0, rfl, Nat.zero_le _, Nat.le_refl _, ⟨_, rfl, HO8.out⟩, HB58, HQ8⟩
  case round =>
    obtain ⟨k, rfl, hk, hg, HY, HBk, HQk⟩ := hrel
    by_cases hlt : k < L.length
    · have hltz : (k : Int) < (L.length : Int) := by omega
      obtain ⟨ys, hyl, hy⟩ := HY.out
      have hgs : ∃ b, la = some ⟨b, 0, none⟩ := by
        rcases hy.2 with ⟨h1, h2⟩ | ⟨b, cap, cur, h1, _⟩
        · omega
        · simp only [Value.slice.injEq] at h1; exact ⟨b, h1.1⟩
      obtain ⟨b, rfl⟩ := hgs
      have hkL : k < L.length := by omega
      have hy' : wr.ownsRow w3.heap.size 3 1 (.slice (some ⟨b, 0, none⟩) L.length lc) L.length (cellsI ys) := hy
      have ck : wr.cell? ⟨b, k, none⟩ = some (.int .i64 (ys[k]?.getD 0)) := by
        rw [hy'.cellAt k (by omega)]
        simp [cellsI, List.getElem?_eq_getElem (l := ys) (i := k) (by omega)]
      generalize ys[k]?.getD 0 = yk at ck
      have fk := hy'.frozenAt k
      obtain ⟨hy2, hgr⟩ := hy'.stored k (.int .i64 (-7))
      have HB2 : Aside (Below w3.heap.size w3 (wr.setCell ⟨b, k, none⟩ (.int .i64 (-7)))) := HBk.out.grown hgr HBk.out.size (fun j hj => by
        have := (hy'.lt b rfl).1
        injection hj with h; omega)
      have HN : Aside (∃ ys : List Int, ys.length = L.length ∧ (wr.setCell ⟨b, k, none⟩ (.int .i64 (-7))).ownsRow w3.heap.size 3 1 (.slice (some ⟨b, 0, none⟩) L.length lc) L.length (cellsI ys)) := ⟨ys.set k (-7), by simpa using hyl, by
        rw [show cellsI (ys.set k (-7)) = (cellsI ys).set k (.int .i64 (-7)) by simp [cellsI]]; exact hy2⟩
      have HQ2 : Aside ((wr.setCell ⟨b, k, none⟩ (.int .i64 (-7))).ownsRow w6.heap.size 3 1 (.slice wa L.length wc) L.length (cellsI L)) := by
        refine HQk.out.kept hgr ?_
        by_cases hv : (Value.slice wa L.length wc).ownBlock = none
        · exact .inl hv
        · right
          intro e
          have h1 := (HQk.out.lt b e).1
          have h2 := HLB.out b rfl
          omega
      clear hy hy' hy2 hgr HY hyl
      go_wp2
      go_roundg (L.length - (k + 1))
      case measure => omega
      case rel => exact ⟨k + 1, by go_num, by omega, Nat.le_refl _, HN, HB2, HQ2⟩
    · have hltz : ¬ (k : Int) < (L.length : Int) := by omega
      have HBr : Aside (Below w3.heap.size w3 wr) := HB3f.out wr HBk.out
      obtain ⟨f1, f2⟩ := HC.out wr HBr.out
      obtain ⟨_, k0, k1, k2, k3, k4⟩ := f1
      obtain ⟨_, l0, l1, l2, l3, l4⟩ := f2
      go_wp2_with fail
      refine (cNr.out wr HBr.out).mono ?_
      rintro e w9 ⟨v9, rfl, ho9, hb9⟩
      have HB9 : Aside (Below w3.heap.size w3 w9) := HBr.out.trans (hb9.mono HBr.out.size)
      have hq9 := row_keeps HQk.out hb9
      obtain ⟨na, nc, rfl, -, hnr⟩ := row_reads ho9
      obtain ⟨wa', wc', hwe, -, hwr⟩ := row_reads hq9
      simp only [Value.slice.injEq] at hwe
      obtain ⟨rfl, -, rfl⟩ := hwe
      have cSI := sameInts_any L na wa nc wc w9 (by omega) hnr hwr
      clear k0 k1 k2 k3 k4 l0 l1 l2 l3 l4 hb9 hq9 hnr hwr ho9 HY HQk
      go_wp2_with fail
      refine cSI.mono ?_
      rintro e w10 ⟨rfl, hb10⟩
      have HB10 : Aside (Below w3.heap.size w3 w10) := HB9.out.trans (hb10.mono HB9.out.size)
      obtain ⟨f1, f2⟩ := HC.out w10 HB10.out
      obtain ⟨_, k0, k1, k2, k3, k4⟩ := f1
      obtain ⟨_, l0, l1, l2, l3, l4⟩ := f2
      clear cSI hb10
      go_wp2_with fail
      refine (cK.out w10 HB10.out).mono ?_
      rintro e w11 ⟨rfl, hb11⟩
      have HB11 : Aside (Below w.heap.size w w11) := HB3.out.trans ((HB10.out.trans (hb11.mono HB10.out.size)).mono HB3.out.size)
      clear hb11
      go_wp2
      go_ret
      exact ⟨rfl, HB11.out⟩
end Go.Proofs.YtaepndaboefbeaaDoor.Grd
