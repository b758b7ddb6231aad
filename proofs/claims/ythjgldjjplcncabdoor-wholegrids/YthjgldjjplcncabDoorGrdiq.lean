/-
  The program's Parts of any grid.
-/
import Derived.Test.YthjgldjjplcncabDoorGrdhq
namespace Go.Proofs.YthjgldjjplcncabDoor.Grd
open Go Go.Lib Go.RowKit

set_option maxHeartbeats 1000000 in
theorem parts_shut (g : Gr) (p : Ad) (hc : ¬ g.ok) (w : World) (hw : Wy w) (hR : RG w g p) :
    Calls Tryd.prog 11 #[gv g p] w fun e w' => e = .returned (.tuple #[.slice none 0 0, .int .i64 0]) ∧ Below w.heap.size w w' := by
  have cC := check_any g p (w.alloc (.cells #[.int .i64 g.h, .int .i64 g.w, .slice p.a1 g.B.length p.c1, .slice p.a2 g.R.length p.c2, .slice p.a3 g.D.length p.c3] 27)) (hw.below hw.size (below_box w _)) (hR.below (below_box w _))
  have hcl := g.chk_le
  have hc2 : ¬ ((g.chk : Nat) : Int) = 0 := by
    have : ¬ g.chk = 0 := hc
    omega
  unfold gv at cC
  unfold gv
  clear hR hw hc
  go_enter Tryd.func11, Tryd.ntmps11
  go_wp2_with fail
  refine cC.mono ?_
  rintro e w1 ⟨rfl, hb1⟩
  have HB1 : Aside (Below w.heap.size w w1) := (below_box w _).trans (hb1.mono (below_box w _).size)
  clear hb1 cC
  go_wp2
  go_ret2
  exact ⟨rfl, HB1.out⟩

theorem full_eq {Z : List Int} {n : Nat} (h1 : Z.length = n) (h2 : ∀ j, j < n → Z[j]? = some (-1)) : Z = List.replicate n (-1) := by
  apply List.ext_getElem?
  intro j
  by_cases hj : j < n
  · rw [h2 j hj, List.getElem?_replicate, if_pos hj]
  · rw [List.getElem?_eq_none (by omega), List.getElem?_eq_none (by simp; omega)]

set_option maxHeartbeats 2000000 in
theorem parts_open (g : Gr) (p : Ad) (hok : g.ok) (w : World) (hw : Wy w) (hR : RG w g p) :
    Calls Tryd.prog 11 #[gv g p] w fun e w' => ∃ v, e = .returned (.tuple #[v, .int .i64 (g.count : Nat)]) ∧ ∃ P, w'.ownsRow w.heap.size 3 1 v g.n (cellsI P) ∧ g.Labels P ∧ Below w.heap.size w w' := by
  obtain ⟨i0, hi0, hz0, hz1, hz2⟩ := info_parts infoInt
  have hz := (Gr.right_of hok).sz
  have hn := hz.n_le
  have hws := hw.size
  obtain ⟨b1, o1, c1, b2, o2, c2, b3, o3, c3, rfl, hA⟩ := hR.open hz
  have cC := check_any g ⟨some ⟨b1, o1, none⟩, c1, some ⟨b2, o2, none⟩, c2, some ⟨b3, o3, none⟩, c3⟩ (w.alloc (.cells #[.int .i64 g.h, .int .i64 g.w, .slice (some ⟨b1, o1, none⟩) g.B.length c1, .slice (some ⟨b2, o2, none⟩) g.R.length c2, .slice (some ⟨b3, o3, none⟩) g.D.length c3] 27)) (hw.below hw.size (below_box w _)) (hR.below (below_box w _))
  rw [show g.chk = 0 from hok] at cC
  unfold gv at cC
  dsimp only at cC
  obtain ⟨M, hM⟩ : ∃ M, M = madeCells (Value.int .i64 0).cells (g.n * i0.size) := ⟨_, rfl⟩
  have hMs : M.size = g.n * 1 := by rw [hM, size_madeCells, hz1]
  have hMl : M.toList = cellsI (List.replicate g.n 0) := by
    rw [hM, hz1, Nat.mul_one]
    show (madeCells #[Value.int .i64 0] g.n).toList = _
    rw [toList_madeCells_one]
    simp [cellsI]
  have hmk : ∀ W : World, (Instr.makeSlice 37 (.int .i64 (g.n : Int)) (.int .i64 (g.n : Int))).run Tryd.prog W = .ok (.slice (some ⟨W.heap.size, 0, none⟩) g.n g.n) (W.alloc (.cells M 3)) := fun W => by
    have h := run_make (P := Tryd.prog) W 37 3 i0 (.int .i64 0) Tryd.underlying37 hi0 hz0 .i64 .i64 g.n g.n (by omega) (by omega) (by rw [hz2]; omega) (by omega)
    rw [Int.toNat_natCast, ← hM] at h
    exact h
  have o0 := fun W : World => World.ownsRow_lit (e := 3) (size := 1) (base := W.heap.size) W M g.n (Nat.le_refl _) (by unfold maxLen; omega) hMs
  rw [hMl] at o0
  clear hM hMl
  have hBl : (g.B.length : Int) = (g.n : Int) := by rw [hz.bl]
  have HA : Aside (∀ W, Below w.heap.size w W → RA W g b1 o1 b2 o2 b3 o3) := fun W hb => hA.below hb
  have HR : Aside (∀ W, Below w.heap.size w W → RG W g ⟨some ⟨b1, o1, none⟩, c1, some ⟨b2, o2, none⟩, c2, some ⟨b3, o3, none⟩, c3⟩) := fun W hb => hR.below hb
  have HWy : Aside (∀ W, Below w.heap.size w W → Wy W) := fun W hb => hw.below hws hb
  have HOK : Aside (g.ok) := hok
  have HWp : Aside (0 < g.W) := hz.sw.1
  unfold gv
  dsimp only
  clear hok hz hR hw hA
  go_enter Tryd.func11, Tryd.ntmps11
  go_wp2_with fail
  refine cC.mono ?_
  rintro e w1 ⟨rfl, hb1⟩
  have HBX : Aside (Bx w1 w.heap.size g ⟨some ⟨b1, o1, none⟩, c1, some ⟨b2, o2, none⟩, c2, some ⟨b3, o3, none⟩, c3⟩) := (Bx.new w g ⟨some ⟨b1, o1, none⟩, c1, some ⟨b2, o2, none⟩, c2, some ⟨b3, o3, none⟩, c3⟩ 27).keep hb1
  obtain ⟨_, k0, k1, k2, k3, k4⟩ := HBX.out
  dsimp only at k2 k3 k4
  have HB1 : Aside (Below w.heap.size w w1) := (below_box w _).trans (hb1.mono (below_box w _).size)
  clear hb1 cC
  have oN := o0 w1
  clear o0
  go_wp2
  have HBm : Aside (Below w1.heap.size w1 (w1.alloc (.cells M 3))) := below_box w1 _
  have hw1s : (w1.alloc (.cells M 3)).heap.size = w1.heap.size + 1 := World.size_alloc _ _
  have hlw := HBX.out.lt
  generalize w1.alloc (.cells M 3) = w2 at *
  clear hmk
  have HB2 : Aside (Below w.heap.size w w2) := HB1.out.trans (HBm.out.mono HB1.out.size)
  go_loopg [17] g.n (fun g1 iv wr => ∃ k : Nat, iv = .int .i64 (k : Int) ∧ k ≤ g.n ∧ g.n - k ≤ g1 ∧ Aside (∃ Z : List Int, Z.length = g.n ∧ (∀ j, j < k → Z[j]? = some (-1)) ∧ wr.ownsRow w1.heap.size 3 1 (.slice (some ⟨w1.heap.size, 0, none⟩) g.n g.n) g.n (cellsI Z)) ∧ Aside (Below w1.heap.size w1 wr))
  case atStart => exact ⟨0, rfl, Nat.zero_le _, Nat.le_refl _, ⟨_, by simp, fun j hj => absurd hj (Nat.not_lt_zero j), oN⟩, HBm⟩
  case round =>
    obtain ⟨k, rfl, hk, hg, HZ, HBk⟩ := hrel
    by_cases hlt : k < g.n
    · have hltz : (k : Int) < (g.n : Int) := by omega
      obtain ⟨Z, hZl, hZ1, hy⟩ := HZ.out
      have ck : wr.cell? ⟨w1.heap.size, k, none⟩ = some (.int .i64 (Z[k]?.getD 0)) := by
        rw [hy.cellAt k (by omega)]
        simp [cellsI, List.getElem?_eq_getElem (l := Z) (i := k) (by omega)]
      generalize Z[k]?.getD 0 = yk at ck
      have fk := hy.frozenAt k
      obtain ⟨hy2, hgr⟩ := hy.stored k (.int .i64 (-1))
      have hbz : Below w1.heap.size w1 (wr.setCell ⟨w1.heap.size, k, none⟩ (.int .i64 (-1))) := HBk.out.grown hgr HBk.out.size (fun j hj => by injection hj with h; omega)
      have HB3 : Aside (Below w1.heap.size w1 (wr.setCell ⟨w1.heap.size, k, none⟩ (.int .i64 (-1)))) := hbz
      have HN : Aside (∃ Z : List Int, Z.length = g.n ∧ (∀ j, j < k + 1 → Z[j]? = some (-1)) ∧ (wr.setCell ⟨w1.heap.size, k, none⟩ (.int .i64 (-1))).ownsRow w1.heap.size 3 1 (.slice (some ⟨w1.heap.size, 0, none⟩) g.n g.n) g.n (cellsI Z)) :=
        ⟨Z.set k (-1), by simpa using hZl, fun j hj => by
          by_cases e : j = k
          · subst e; rw [List.getElem?_set_self (by omega)]
          · rw [List.getElem?_set_ne (fun h => e h.symm)]; exact hZ1 j (by omega), by rw [cellsI_set]; exact hy2⟩
      clear hy hy2 hgr HZ hZl hZ1 hbz
      go_wp2
      go_roundg (g.n - (k + 1))
      case measure => omega
      case rel => exact ⟨k + 1, by go_num, by omega, Nat.le_refl _, HN, HB3⟩
    · have hltz : ¬ (k : Int) < (g.n : Int) := by omega
      obtain ⟨Z, hZl, hZ1, hy⟩ := HZ.out
      have hZ := full_eq hZl (fun j hj => hZ1 j (by omega))
      subst hZ
      have HY : Aside (wr.ownsRow w1.heap.size 3 1 (.slice (some ⟨w1.heap.size, 0, none⟩) g.n g.n) g.n (cellsI (List.replicate g.n (-1)))) := hy
      clear hy HZ hZl hZ1
      have HU0 : Aside (g.Upto 0 (List.replicate g.n (-1))) := g.upto_zero
      have HBr : Aside (Below w1.heap.size w1 wr) := HBk
      have hah : ∀ m, m ≤ g.n → g.ahead m ≤ 256 := fun m hm => by have := g.ahead_le m; omega
      have HAH : Aside (∀ m, m ≤ g.n → g.ahead m ≤ 256) := hah
      have HCS : Aside (∀ (W : World) (m : Nat) (P : List Int), g.first m = true → g.Upto m P → W.ownsRow w1.heap.size 3 1 (.slice (some ⟨w1.heap.size, 0, none⟩) g.n g.n) g.n (cellsI P) → Below w1.heap.size w1 W → Calls Tryd.prog 27 #[.agg #[.int .i64 g.h, .int .i64 g.w, .slice (some ⟨b1, o1, none⟩) g.B.length c1, .slice (some ⟨b2, o2, none⟩) g.R.length c2, .slice (some ⟨b3, o3, none⟩) g.D.length c3], .slice (some ⟨w1.heap.size, 0, none⟩) g.n g.n, .int .i64 m, .int .i64 (g.ahead m : Nat)] W fun e w' => e = .returned (.tuple #[]) ∧ Below w1.heap.size W w' ∧ ∃ P', w'.ownsRow w1.heap.size 3 1 (.slice (some ⟨w1.heap.size, 0, none⟩) g.n g.n) g.n (cellsI P') ∧ g.Upto (m + 1) P') := fun W m P hf hP hO hB =>
        spread_any g ⟨some ⟨b1, o1, none⟩, c1, some ⟨b2, o2, none⟩, c2, some ⟨b3, o3, none⟩, c3⟩ HOK.out m hf P hP W w1.heap.size g.n (by omega) (fun W' h' => HR.out W' (HB1.out.trans ((hB.trans h').mono HB1.out.size))) (HWy.out W (HB1.out.trans (hB.mono HB1.out.size))) hO
      clear hah k0 k1 k2 k3 k4
      go_wp2
      go_loopg [6, 26] g.n (fun g1 nv iv wx => ∃ (m : Nat) (P : List Int), iv = .int .i64 (m : Int) ∧ nv = .int .i64 (g.ahead m : Nat) ∧ m ≤ g.n ∧ g.n - m ≤ g1 ∧ Aside (wx.ownsRow w1.heap.size 3 1 (.slice (some ⟨w1.heap.size, 0, none⟩) g.n g.n) g.n (cellsI P)) ∧ Aside (g.Upto m P) ∧ Aside (Below w1.heap.size w1 wx))
      case atStart => exact ⟨0, _, rfl, rfl, Nat.zero_le _, Nat.le_refl _, HY, HU0, HBr⟩
      case round =>
        obtain ⟨m, P, rfl, rfl, hm, hg2, HO, HU, HBx⟩ := hrel
        have HBw : Aside (Below w.heap.size w wr) := HB1.out.trans (HBx.out.mono HB1.out.size)
        by_cases hl2 : m < g.n
        · have hlz2 : (m : Int) < (g.n : Int) := by omega
          obtain ⟨_, k0, k1, k2, k3, k4⟩ := HBX.out.keep HBx.out
          dsimp only at k2 k3 k4
          have eB := (HA.out wr HBw.out).e1 m hl2
          have hb1l := (HA.out wr HBw.out).l1
          have ham := HAH.out m hm
          have HAS : Aside (g.ahead (m + 1) = g.ahead m + (if g.first m then 1 else 0)) := g.ahead_succ m
          obtain ⟨q, hq, hq1, hq2⟩ := Gr.upto_range HWp.out HU.out hl2
          have ep : wr.cell? ⟨w1.heap.size, m, none⟩ = some (.int .i64 q) := by
            rw [HO.out.cellAt m (by omega)]
            exact cellsI_at hq
          cases hB : bt g.B m with
          | true =>
            rw [hB] at eB
            have hfn : g.first m = false := Gr.upto_block (by unfold Gr.opn; rw [hB]; simp)
            have HU2 : Aside (g.Upto (m + 1) P) := Gr.upto_skip HU.out hfn
            have HA2 : Aside (g.ahead (m + 1) = g.ahead m) := by show _ = _; rw [HAS.out, hfn]; rfl
            clear hB hq hfn
            go_wp2
            go_roundg (g.n - (m + 1))
            case measure => omega
            case rel => exact ⟨m + 1, P, by go_num, by rw [HA2.out], by omega, Nat.le_refl _, HO, HU2, HBx⟩
          | false =>
            rw [hB] at eB
            have hop : g.opn m = true := Gr.opn_iff.2 ⟨hl2, hB⟩
            by_cases hq0 : 0 ≤ q
            · have hfn : g.first m = false := Gr.upto_old HU.out hop hq hq0
              have HU2 : Aside (g.Upto (m + 1) P) := Gr.upto_skip HU.out hfn
              have HA2 : Aside (g.ahead (m + 1) = g.ahead m) := by show _ = _; rw [HAS.out, hfn]; rfl
              have hqn : ¬ q < 0 := by omega
              clear hB hq hfn hop
              go_wp2
              go_roundg (g.n - (m + 1))
              case measure => omega
              case rel => exact ⟨m + 1, P, by go_num, by rw [HA2.out], by omega, Nat.le_refl _, HO, HU2, HBx⟩
            · have hqn : q < 0 := by omega
              have hfn : g.first m = true := Gr.upto_new HWp.out HU.out hop hq hqn
              have cS := HCS.out wr m P hfn HU.out HO.out HBx.out
              have HA2 : Aside (g.ahead (m + 1) = g.ahead m + 1) := by show _ = _; rw [HAS.out, hfn]; rfl
              clear hB hq hfn hop
              go_wp2_with fail
              refine cS.mono ?_
              rintro e w4 ⟨rfl, hb4, P4, hO4, hU4⟩
              have HB4 : Aside (Below w1.heap.size w1 w4) := HBx.out.trans hb4
              have HO4 : Aside (w4.ownsRow w1.heap.size 3 1 (.slice (some ⟨w1.heap.size, 0, none⟩) g.n g.n) g.n (cellsI P4)) := hO4
              have HU4 : Aside (g.Upto (m + 1) P4) := hU4
              clear cS hb4 hO4 hU4
              go_wp2
              go_roundg (g.n - (m + 1))
              case measure => omega
              case rel => exact ⟨m + 1, P4, by go_num, by rw [HA2.out]; go_num, by omega, Nat.le_refl _, HO4, HU4, HB4⟩
        · have hlz2 : ¬ (m : Int) < (g.n : Int) := by omega
          have hmn : m = g.n := by omega
          subst hmn
          have HL : Aside (g.Labels P) := Gr.upto_end HU.out
          have HO5 : Aside (wr.ownsRow w.heap.size 3 1 (.slice (some ⟨w1.heap.size, 0, none⟩) g.n g.n) g.n (cellsI P)) := row_base HO.out HB1.out.size
          clear HO HU
          go_wp2
          go_ret2
          exact ⟨_, rfl, P, HO5.out, HL.out, HBw.out⟩
end Go.Proofs.YthjgldjjplcncabDoor.Grd
