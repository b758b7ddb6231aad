/-
  The document's Parts of any grid: numbers are handed on from cell to cell till none changes.
-/
import Derived.Test.YtaepndaboefbeaaDoorRfe
import Derived.Test.YtaepndaboefbeaaDoorGrdi
namespace Go.Proofs.YtaepndaboefbeaaDoor.Grd
open Go Go.Lib Go.RowKit

set_option maxHeartbeats 1000000 in
theorem refParts_shut (g : Gr) (p : Ad) (hc : ¬ g.ok) (w : World) (hR : RG w g p) :
    Calls Tryd.prog 26 #[gv g p] w fun e w' => e = .returned (.tuple #[.slice none 0 0, .int .i64 0]) ∧ Below w.heap.size w w' := by
  have cC := refCheck_any g p (w.alloc (.cells #[.int .i64 g.h, .int .i64 g.w, .slice p.a1 g.B.length p.c1, .slice p.a2 g.R.length p.c2, .slice p.a3 g.D.length p.c3] 24)) (hR.below (below_box w _))
  have hcl := g.chk_le
  have hc2 : ¬ ((g.chk : Nat) : Int) = 0 := by
    have : ¬ g.chk = 0 := hc
    omega
  unfold gv at cC
  unfold gv
  clear hR hc
  go_enter Tryd.func26, Tryd.ntmps26
  go_wp2_with fail
  refine cC.mono ?_
  rintro e w1 ⟨rfl, hb1⟩
  have HB1 : Aside (Below w.heap.size w w1) := (below_box w _).trans (hb1.mono (below_box w _).size)
  clear hb1 cC
  go_wp2
  go_ret2
  exact ⟨rfl, HB1.out⟩

/-- The cells that a sweep has looked at: all that is near them has the number. -/
def Gr.Swept (g : Gr) (k : Nat) (p' : List Int) (j : Nat) : Prop := ∀ a, a < j → g.Lab k p' a → ∀ b, b ∈ g.near a → g.Lab k p' b
theorem Gr.mid_push {g : Gr} (hW : 0 < g.W) {k : Nat} (hf : g.first k = true) {p p' : List Int} {a b : Nat} (hp : g.Upto k p) (h : g.Mid k p p' (g.Lab k p')) (ha : g.Lab k p' a) (hb : b ∈ g.near a) : g.Mid k p (p'.set b (g.ahead k : Int)) (g.Lab k (p'.set b (g.ahead k : Int))) ∧ ∀ c, g.Lab k p' c → g.Lab k (p'.set b (g.ahead k : Int)) c := by
  have hm := Gr.mid_mark hW (Gr.first_iff.1 hf).1 h ha hb
  exact ⟨Gr.mid_label hW hp hm, fun c hc => hm.yes c (.inl hc)⟩
theorem Gr.mid_near {g : Gr} (hW : 0 < g.W) {k : Nat} (hf : g.first k = true) {p p' : List Int} {a b : Nat} (hp : g.Upto k p) (h : g.Mid k p p' (g.Lab k p')) (ha : g.Lab k p' a) (hb : b ∈ g.near a) : g.Lab k p' b ∨ p'[b]? = some (-1) := by
  rcases Gr.mid_val hf hp h (Gr.opn_iff.1 (Gr.near_opn hW hb).2).1 (.snoc (h.sub a ha) hb) with ⟨h1, _⟩ | ⟨_, h1⟩
  · exact .inl h1
  · exact .inr h1
/-- A sweep so far: nothing turned, and all that was looked at is shut; or something turned. -/
def Gr.Swp (g : Gr) (k : Nat) (N0 : Nat) (p' : List Int) (j : Nat) (c : Bool) : Prop := (c = false ∧ negs p' = N0 ∧ g.Swept k p' j) ∨ (c = true ∧ negs p' < N0)

set_option maxHeartbeats 2000000 in
set_option maxRecDepth 20000 in
theorem refParts_open (g : Gr) (p : Ad) (hok : g.ok) (w : World) (hR : RG w g p) :
    Calls Tryd.prog 26 #[gv g p] w fun e w' => ∃ v, e = .returned (.tuple #[v, .int .i64 (g.count : Nat)]) ∧ ∃ P, w'.ownsRow w.heap.size 3 1 v g.n (cellsI P) ∧ g.Labels P ∧ Below w.heap.size w w' := by
  obtain ⟨i0, hi0, hz0, hz1, hz2⟩ := info_parts infoInt
  have hz := (Gr.right_of hok).sz
  have hn := hz.n_le
  obtain ⟨b1, o1, c1, b2, o2, c2, b3, o3, c3, rfl, hA⟩ := hR.open hz
  have cC := refCheck_any g ⟨some ⟨b1, o1, none⟩, c1, some ⟨b2, o2, none⟩, c2, some ⟨b3, o3, none⟩, c3⟩ (w.alloc (.cells #[.int .i64 g.h, .int .i64 g.w, .slice (some ⟨b1, o1, none⟩) g.B.length c1, .slice (some ⟨b2, o2, none⟩) g.R.length c2, .slice (some ⟨b3, o3, none⟩) g.D.length c3] 24)) (hR.below (below_box w _))
  rw [show g.chk = 0 from hok] at cC
  unfold gv at cC
  dsimp only at cC
  obtain ⟨M, hM⟩ : ∃ M, M = madeCells (Value.int .i64 0).cells (g.n * i0.size) := ⟨_, rfl⟩
  have hMs : M.size = g.n * 1 := by rw [hM, size_madeCells, hz1]
  have hMl : M.toList = cellsI (List.replicate g.n 0) := by
    rw [hM, hz1, Nat.mul_one]
    show (madeCells #[Value.int .i64 0] g.n).toList = _
    rw [toList_madeCells_one]
    simp [cellsI]
  have hmk : ∀ W : World, (Instr.makeSlice 35 (.int .i64 (g.n : Int)) (.int .i64 (g.n : Int))).run Tryd.prog W = .ok (.slice (some ⟨W.heap.size, 0, none⟩) g.n g.n) (W.alloc (.cells M 3)) := fun W => by
    have h := run_make (P := Tryd.prog) W 35 3 i0 (.int .i64 0) Tryd.underlying35 hi0 hz0 .i64 .i64 g.n g.n (by omega) (by omega) (by rw [hz2]; omega) (by omega)
    rw [Int.toNat_natCast, ← hM] at h
    exact h
  have o0 := fun W : World => World.ownsRow_lit (e := 3) (size := 1) (base := W.heap.size) W M g.n (Nat.le_refl _) (by unfold maxLen; omega) hMs
  rw [hMl] at o0
  clear hM hMl
  have hmul : g.h * g.w = (g.n : Int) := by rw [← hz.sh.2.2, ← hz.sw.2.2]; exact (Int.natCast_mul _ _).symm
  have hBl : (g.B.length : Int) = (g.n : Int) := by rw [hz.bl]
  have HA : Aside (∀ W, Below w.heap.size w W → RA W g b1 o1 b2 o2 b3 o3) := fun W hb => hA.below hb
  have HNr : Aside (∀ W a, g.opn a = true → Below w.heap.size w W → Calls Tryd.prog 23 #[.agg #[.int .i64 g.h, .int .i64 g.w, .slice (some ⟨b1, o1, none⟩) g.B.length c1, .slice (some ⟨b2, o2, none⟩) g.R.length c2, .slice (some ⟨b3, o3, none⟩) g.D.length c3], .int .i64 (a : Nat)] W fun e w' => ∃ v, e = .returned v ∧ w'.ownsRow W.heap.size 3 1 v (g.near a).length (cellsI (ints (g.near a))) ∧ Below W.heap.size W w') := fun W a ha hb => by
    have h := refNear_any g ⟨some ⟨b1, o1, none⟩, c1, some ⟨b2, o2, none⟩, c2, some ⟨b3, o3, none⟩, c3⟩ (a : Int) W (hR.below hb)
    rw [show g.nearI (a : Int) = g.near a by unfold Gr.nearI; rw [if_pos (Gr.opI_iff.2 ⟨hok, a, rfl, ha⟩), Int.toNat_natCast]] at h
    exact h
  have HWp : Aside (0 < g.W) := hz.sw.1
  unfold gv
  dsimp only
  clear hok hz hR hA
  go_enter Tryd.func26, Tryd.ntmps26
  go_wp2_with fail
  refine cC.mono ?_
  rintro e w1 ⟨rfl, hb1⟩
  have HBX : Aside (Bx w1 w.heap.size g ⟨some ⟨b1, o1, none⟩, c1, some ⟨b2, o2, none⟩, c2, some ⟨b3, o3, none⟩, c3⟩) := (Bx.new w g ⟨some ⟨b1, o1, none⟩, c1, some ⟨b2, o2, none⟩, c2, some ⟨b3, o3, none⟩, c3⟩ 24).keep hb1
  obtain ⟨_, k0, k1, k2, k3, k4⟩ := HBX.out
  dsimp only at k2 k3 k4
  have HB1 : Aside (Below w.heap.size w w1) := (below_box w _).trans (hb1.mono (below_box w _).size)
  clear hb1 cC
  have oN := o0 w1
  clear o0
  go_wp2
  have HBm : Aside (Below w1.heap.size w1 (w1.alloc (.cells M 3))) := below_box w1 _
  have hw1s : (w1.alloc (.cells M 3)).heap.size = w1.heap.size + 1 := World.size_alloc _ _
  have hlw := HBX.out.lt
  generalize w1.alloc (.cells M 3) = w2 at *
  clear hmk
  have HB2 : Aside (Below w.heap.size w w2) := HB1.out.trans (HBm.out.mono HB1.out.size)
  go_loopg [6] g.n (fun g1 iv wr => ∃ k : Nat, iv = .int .i64 (k : Int) ∧ k ≤ g.n ∧ g.n - k ≤ g1 ∧ Aside (∃ Z : List Int, Z.length = g.n ∧ (∀ j, j < k → Z[j]? = some (-1)) ∧ wr.ownsRow w1.heap.size 3 1 (.slice (some ⟨w1.heap.size, 0, none⟩) g.n g.n) g.n (cellsI Z)) ∧ Aside (Below w1.heap.size w1 wr))
  case atStart => exact ⟨0, rfl, Nat.zero_le _, Nat.le_refl _, ⟨_, by simp, fun j hj => absurd hj (Nat.not_lt_zero j), oN⟩, HBm⟩
  case round =>
    obtain ⟨k, rfl, hk, hg, HZ, HBk⟩ := hrel
    by_cases hlt : k < g.n
    · have hltz : (k : Int) < (g.n : Int) := by omega
      obtain ⟨Z, hZl, hZ1, hy⟩ := HZ.out
      have ck : wr.cell? ⟨w1.heap.size, k, none⟩ = some (.int .i64 (Z[k]?.getD 0)) := by
        rw [hy.cellAt k (by omega)]
        simp [cellsI, List.getElem?_eq_getElem (l := Z) (i := k) (by omega)]
      generalize Z[k]?.getD 0 = yk at ck
      have fk := hy.frozenAt k
      obtain ⟨hy2, hgr⟩ := hy.stored k (.int .i64 (-1))
      have HB3 : Aside (Below w1.heap.size w1 (wr.setCell ⟨w1.heap.size, k, none⟩ (.int .i64 (-1)))) := HBk.out.grown hgr HBk.out.size (fun j hj => by injection hj with h; omega)
      have HN : Aside (∃ Z : List Int, Z.length = g.n ∧ (∀ j, j < k + 1 → Z[j]? = some (-1)) ∧ (wr.setCell ⟨w1.heap.size, k, none⟩ (.int .i64 (-1))).ownsRow w1.heap.size 3 1 (.slice (some ⟨w1.heap.size, 0, none⟩) g.n g.n) g.n (cellsI Z)) :=
        ⟨Z.set k (-1), by simpa using hZl, fun j hj => by
          by_cases e : j = k
          · subst e; rw [List.getElem?_set_self (by omega)]
          · rw [List.getElem?_set_ne (fun h => e h.symm)]; exact hZ1 j (by omega), by rw [cellsI_set]; exact hy2⟩
      clear hy hy2 hgr HZ hZl hZ1
      go_wp2
      go_roundg (g.n - (k + 1))
      case measure => omega
      case rel => exact ⟨k + 1, by go_num, by omega, Nat.le_refl _, HN, HB3⟩
    · have hltz : ¬ (k : Int) < (g.n : Int) := by omega
      obtain ⟨Z, hZl, hZ1, hy⟩ := HZ.out
      have hZ := full_eq hZl (fun j hj => hZ1 j (by omega))
      subst hZ
      have HY : Aside (wr.ownsRow w1.heap.size 3 1 (.slice (some ⟨w1.heap.size, 0, none⟩) g.n g.n) g.n (cellsI (List.replicate g.n (-1)))) := hy
      clear hy HZ hZl hZ1
      have HU0 : Aside (g.Upto 0 (List.replicate g.n (-1))) := g.upto_zero
      have HBr : Aside (Below w1.heap.size w1 wr) := HBk
      have HAH : Aside (∀ m, m ≤ g.n → g.ahead m ≤ 256) := fun m hm => Nat.le_trans (g.ahead_le m) (by omega)
      have HNG : Aside (∀ P' : List Int, P'.length = g.n → negs P' ≤ 256) := fun P' h => Nat.le_trans (negs_le _) (by omega)
      clear k0 k1 k2 k3 k4
      go_wp2
      go_loopg [5, 7] g.n (fun g1 nv iv wx => ∃ (m : Nat) (P : List Int), iv = .int .i64 (m : Int) ∧ nv = .int .i64 (g.ahead m : Nat) ∧ m ≤ g.n ∧ g.n - m ≤ g1 ∧ Aside (wx.ownsRow w1.heap.size 3 1 (.slice (some ⟨w1.heap.size, 0, none⟩) g.n g.n) g.n (cellsI P)) ∧ Aside (g.Upto m P) ∧ Aside (Below w1.heap.size w1 wx))
      case atStart => exact ⟨0, _, rfl, rfl, Nat.zero_le _, Nat.le_refl _, HY, HU0, HBr⟩
      case round =>
        obtain ⟨m, P, rfl, rfl, hm, hg2, HO, HU, HBx⟩ := hrel
        have HBw : Aside (Below w.heap.size w wr) := HB1.out.trans (HBx.out.mono HB1.out.size)
        by_cases hl2 : m < g.n
        · have hlz2 : (m : Int) < (g.n : Int) := by omega
          obtain ⟨_, k0, k1, k2, k3, k4⟩ := HBX.out.keep HBx.out
          dsimp only at k2 k3 k4
          have eB := (HA.out wr HBw.out).e1 m hl2
          have ham := HAH.out m hm
          have HAS : Aside (g.ahead (m + 1) = g.ahead m + (if g.first m then 1 else 0)) := g.ahead_succ m
          obtain ⟨q, hq, hq1, hq2⟩ := Gr.upto_range HWp.out HU.out hl2
          have ep : wr.cell? ⟨w1.heap.size, m, none⟩ = some (.int .i64 q) := by
            rw [HO.out.cellAt m (by omega)]
            exact cellsI_at hq
          cases hB : bt g.B m with
          | true =>
            rw [hB] at eB
            have hfn : g.first m = false := Gr.upto_block (by unfold Gr.opn; rw [hB]; simp)
            have HU2 : Aside (g.Upto (m + 1) P) := Gr.upto_skip HU.out hfn
            have HA2 : Aside (g.ahead (m + 1) = g.ahead m) := by show _ = _; rw [HAS.out, hfn]; rfl
            clear hB hq hfn
            go_wp2
            go_roundg (g.n - (m + 1))
            case measure => omega
            case rel => exact ⟨m + 1, P, by go_num, by rw [HA2.out], by omega, Nat.le_refl _, HO, HU2, HBx⟩
          | false =>
            rw [hB] at eB
            have hop : g.opn m = true := Gr.opn_iff.2 ⟨hl2, hB⟩
            by_cases hq0 : 0 ≤ q
            · have hfn : g.first m = false := Gr.upto_old HU.out hop hq hq0
              have HU2 : Aside (g.Upto (m + 1) P) := Gr.upto_skip HU.out hfn
              have HA2 : Aside (g.ahead (m + 1) = g.ahead m) := by show _ = _; rw [HAS.out, hfn]; rfl
              clear hB hq hfn hop
              go_wp2
              go_roundg (g.n - (m + 1))
              case measure => omega
              case rel => exact ⟨m + 1, P, by go_num, by rw [HA2.out], by omega, Nat.le_refl _, HO, HU2, HBx⟩
            · have hqn : q < 0 := by omega
              have hfn : g.first m = true := Gr.upto_new HWp.out HU.out hop hq hqn
              have HA2 : Aside (g.ahead (m + 1) = g.ahead m + 1) := by show _ = _; rw [HAS.out, hfn]; rfl
              have HF : Aside (g.first m = true) := hfn
              have fm := HO.out.frozenAt m
              obtain ⟨hs1, hs2⟩ := HO.out.stored m (.int .i64 (g.ahead m : Nat))
              have HOs : Aside ((wr.setCell ⟨w1.heap.size, m, none⟩ (.int .i64 (g.ahead m : Nat))).ownsRow w1.heap.size 3 1 (.slice (some ⟨w1.heap.size, 0, none⟩) g.n g.n) g.n (cellsI (P.set m (g.ahead m : Int)))) := by
                show World.ownsRow _ _ _ _ _ _ _
                rw [cellsI_set]; exact hs1
              have HBs : Aside (Below w1.heap.size w1 (wr.setCell ⟨w1.heap.size, m, none⟩ (.int .i64 (g.ahead m : Nat)))) := HBx.out.grown hs2 HBx.out.size (fun j hj => by injection hj with h; omega)
              have HM0 : Aside (g.Mid m P (P.set m (g.ahead m : Int)) (g.Lab m (P.set m (g.ahead m : Int)))) := Gr.mid_label HWp.out HU.out (Gr.mid_start HU.out.1 hl2)
              clear hB hq hfn hop hs1 hs2
              have HAL : Aside (∀ (P' : List Int) (x : Nat), g.Lab m P' x ↔ P'[x]? = some (g.ahead m : Int)) := fun P' x => Iff.rfl
              have HPU : Aside (∀ (P' : List Int) (a x : Nat), g.Mid m P P' (g.Lab m P') → g.Lab m P' a → x ∈ g.near a → g.Mid m P (P'.set x (g.ahead m : Int)) (g.Lab m (P'.set x (g.ahead m : Int))) ∧ ∀ c, g.Lab m P' c → g.Lab m (P'.set x (g.ahead m : Int)) c) := fun P' a x h1 h2 h3 => Gr.mid_push HWp.out HF.out HU.out h1 h2 h3
              have HMN : Aside (∀ (P' : List Int) (a x : Nat), g.Mid m P P' (g.Lab m P') → g.Lab m P' a → x ∈ g.near a → g.Lab m P' x ∨ P'[x]? = some (-1)) := fun P' a x h1 h2 h3 => Gr.mid_near HWp.out HF.out HU.out h1 h2 h3
              have HEN : Aside (∀ P' : List Int, g.Mid m P P' (g.Lab m P') → g.Swept m P' g.n → g.Upto (m + 1) P') := fun P' h1 h2 => Gr.mid_end HWp.out HF.out HU.out h1 fun a x ha hx => h2 a (by rw [← h1.len]; exact (List.getElem?_eq_some_iff.1 ha).1) ha x hx
              have HOP : Aside (∀ (P' : List Int) (a : Nat), g.Mid m P P' (g.Lab m P') → g.Lab m P' a → g.opn a = true) := fun P' a h1 h2 => (h1.sub a h2).opn HWp.out (Gr.first_iff.1 HF.out).1
              have HSS : Aside (∀ (P' : List Int) (N0 j : Nat) (c : Bool), g.Swp m N0 P' j c → (g.Lab m P' j → c = false → ∀ x, x ∈ g.near j → g.Lab m P' x) → g.Swp m N0 P' (j + 1) c) := fun P' N0 j c h h2 => by
                rcases h with ⟨h3, h4, h5⟩ | h3
                · refine .inl ⟨h3, h4, fun a ha hl x hx => ?_⟩
                  by_cases e : a = j
                  · subst e; exact h2 hl h3 x hx
                  · exact h5 a (by omega) hl x hx
                · exact .inr h3
              have hng0 := HNG.out (P.set m (g.ahead m : Int)) (by simpa using HU.out.1)
              go_wp2
              clear k0 k1 k2 k3 k4 eB ep fm
              go_loopg [8] 600 (fun g1 cv wx => ∃ (c : Bool) (P1 : List Int), cv = .bool c ∧ Aside (wx.ownsRow w1.heap.size 3 1 (.slice (some ⟨w1.heap.size, 0, none⟩) g.n g.n) g.n (cellsI P1)) ∧ Aside (g.Mid m P P1 (g.Lab m P1)) ∧ Aside (c = false → g.Swept m P1 g.n) ∧ 2 * negs P1 + (if c then 1 else 0) ≤ g1 ∧ g1 ≤ 600 ∧ Aside (Below w1.heap.size w1 wx))
              case atStart => exact ⟨true, _, rfl, HOs, HM0, (fun h => by cases h), by rw [if_pos rfl]; omega, Nat.le_refl _, HBs⟩
              case round =>
                obtain ⟨c, P1, rfl, HO1, HM1, HC1, hgc, hgc6, HBc⟩ := hrel
                cases c with
                | false =>
                  have HU2 : Aside (g.Upto (m + 1) P1) := HEN.out P1 HM1.out (HC1.out rfl)
                  clear HC1 HM1
                  go_wp2
                  go_roundg (g.n - (m + 1))
                  case measure => omega
                  case rel => exact ⟨m + 1, P1, by go_num, by rw [HA2.out]; go_num, by omega, Nat.le_refl _, HO1, HU2, HBc⟩
                | true =>
                  obtain ⟨N0, hN0⟩ : ∃ N0, N0 = negs P1 := ⟨_, rfl⟩
                  have HW0 : Aside (g.Swp m N0 P1 0 false) := .inl ⟨rfl, hN0.symm, fun a ha => absurd ha (Nat.not_lt_zero a)⟩
                  have hgN : 2 * N0 < gk := by simp at hgc; omega
                  clear HC1 hgc hN0
                  go_wp2
                  go_loopg [8, 9] g.n (fun g2 cv jv wx => ∃ (c : Bool) (j : Nat) (P2 : List Int), cv = .bool c ∧ jv = .int .i64 (j : Int) ∧ j ≤ g.n ∧ g.n - j ≤ g2 ∧ Aside (wx.ownsRow w1.heap.size 3 1 (.slice (some ⟨w1.heap.size, 0, none⟩) g.n g.n) g.n (cellsI P2)) ∧ Aside (g.Mid m P P2 (g.Lab m P2)) ∧ Aside (g.Swp m N0 P2 j c) ∧ Aside (Below w1.heap.size w1 wx))
                  case atStart => exact ⟨false, 0, P1, rfl, rfl, Nat.zero_le _, Nat.le_refl _, HO1, HM1, HW0, HBc⟩
                  case round =>
                    obtain ⟨c, j, P2, rfl, rfl, hj, hgj, HO2, HM2, HS2, HBj⟩ := hrel
                    have HBjw : Aside (Below w.heap.size w wr) := HB1.out.trans (HBj.out.mono HB1.out.size)
                    obtain ⟨_, k0, k1, k2, k3, k4⟩ := HBX.out.keep HBj.out
                    dsimp only at k2 k3 k4
                    by_cases hlj : j < g.n
                    · have hljz : (j : Int) < (g.n : Int) := by omega
                      have hP2l : P2.length = g.n := HM2.out.len
                      obtain ⟨r, hr⟩ : ∃ r, P2[j]? = some r := ⟨P2[j], List.getElem?_eq_getElem (by omega)⟩
                      have er : wr.cell? ⟨w1.heap.size, j, none⟩ = some (.int .i64 r) := by
                        rw [HO2.out.cellAt j (by omega)]
                        exact cellsI_at hr
                      by_cases hra : r = (g.ahead m : Int)
                      · subst hra
                        have hLj : g.Lab m P2 j := hr
                        have HLJ : Aside (g.Lab m P2 j) := hLj
                        have HOJ : Aside (g.opn j = true) := HOP.out P2 j HM2.out hLj
                        have cN := HNr.out wr j HOJ.out HBjw.out
                        clear hr hLj hP2l
                        go_wp2_with fail
                        refine cN.mono ?_
                        rintro e w4 ⟨v, rfl, hown, hb4⟩
                        have HO4 : Aside (w4.ownsRow w1.heap.size 3 1 (.slice (some ⟨w1.heap.size, 0, none⟩) g.n g.n) g.n (cellsI P2)) := row_keeps HO2.out hb4
                        have HB4 : Aside (Below w1.heap.size w1 w4) := HBj.out.trans (hb4.mono HBj.out.size)
                        have HNS : Aside (∀ nbk, v.ownBlock = some nbk → nbk ≠ w1.heap.size) := fun nbk e h => by
                          have h1 := (hown.lt nbk e).1
                          have h2 := (HO2.out.lt w1.heap.size rfl).2
                          omega
                        have HOz : Aside (w4.ownsRow 0 3 1 v (g.near j).length (cellsI (ints (g.near j)))) := row_base hown (Nat.zero_le _)
                        obtain ⟨nao, ncap, rfl, -, -⟩ := row_reads hown
                        have HIL : Aside ((ints (g.near j)).length = (g.near j).length) := ints_length _
                        have hIL4 : (ints (g.near j)).length ≤ 4 := by rw [ints_length]; exact g.near_len j
                        clear cN hown hb4 k0 k1 k2 k3 k4 er
                        go_wp2
                        go_loopg [8, 11] (ints (g.near j)).length (fun g3 cv kv wx => ∃ (c : Bool) (kk : Nat) (P3 : List Int), cv = .bool c ∧ kv = .int .i64 (kk : Int) ∧ kk ≤ (ints (g.near j)).length ∧ (ints (g.near j)).length - kk ≤ g3 ∧ Aside (wx.ownsRow w1.heap.size 3 1 (.slice (some ⟨w1.heap.size, 0, none⟩) g.n g.n) g.n (cellsI P3)) ∧ Aside (g.Mid m P P3 (g.Lab m P3)) ∧ Aside (g.Swp m N0 P3 j c) ∧ Aside (g.Lab m P3 j) ∧ Aside (c = false → ∀ m' x, m' < kk → (g.near j)[m']? = some x → g.Lab m P3 x) ∧ Aside (wx.ownsRow 0 3 1 (.slice nao (ints (g.near j)).length ncap) (g.near j).length (cellsI (ints (g.near j)))) ∧ Aside (Below w1.heap.size w1 wx))
                        case atStart => exact ⟨c, 0, P2, rfl, rfl, Nat.zero_le _, Nat.le_refl _, HO4, HM2, HS2, HLJ, fun _ m' x h => absurd h (Nat.not_lt_zero m'), HOz, HB4⟩
                        case round =>
                          obtain ⟨c3, kk, P3, rfl, rfl, hkk, hgk, HO5, HM5, HS5, HL5, HD5, HZ5, HBk5⟩ := hrel
                          by_cases hlk : kk < (ints (g.near j)).length
                          · have hlkz : (kk : Int) < ((ints (g.near j)).length : Int) := by omega
                            have hIL := HIL.out
                            have hkn : kk < (g.near j).length := by omega
                            obtain ⟨x, hx⟩ : ∃ x, (g.near j)[kk]? = some x := ⟨(g.near j)[kk], List.getElem?_eq_getElem hkn⟩
                            have hnb : ∃ nb, nao = some ⟨nb, 0, none⟩ := by
                              rcases HZ5.out.2 with ⟨h1, h2⟩ | ⟨nb, _, _, h1, _⟩
                              · omega
                              · simp only [Value.slice.injEq] at h1; exact ⟨nb, h1.1⟩
                            obtain ⟨nb, hnb⟩ := hnb
                            have en : wr.cell? ⟨nb, kk, none⟩ = some (.int .i64 (x : Int)) := by
                              have h0 := HZ5.out
                              rw [hnb, hIL] at h0
                              rw [h0.cellAt kk (by omega)]
                              exact cellsI_at (by simp [ints, hx])
                            have hxn : x ∈ g.near j := List.mem_of_getElem? hx
                            have hxl : x < g.n := (Gr.opn_iff.1 (Gr.near_opn HWp.out hxn).2).1
                            have hP3l : P3.length = g.n := HM5.out.len
                            have fx := HO5.out.frozenAt x
                            have hx0 : ¬ (x : Int) < 0 := by omega
                            have hxp : ¬ g.n ≤ x := by omega
                            have HDx : Aside (∀ P4 : List Int, (∀ c, g.Lab m P3 c → g.Lab m P4 c) → g.Lab m P4 x → c3 = false → ∀ m' x', m' < kk + 1 → (g.near j)[m']? = some x' → g.Lab m P4 x') := fun P4 h1 h2 hc m' x' hm' hx' => by
                              by_cases e : m' = kk
                              · subst e; rw [hx] at hx'; cases hx'; exact h2
                              · exact h1 x' (HD5.out hc m' x' (by omega) hx')
                            have HIL2 : Aside ((ints (g.near j)).length = (g.near j).length) := hIL
                            have hmn := HMN.out P3 j x HM5.out HL5.out hxn
                            have hpu := HPU.out P3 j x HM5.out HL5.out hxn
                            clear hIL hkn hx HD5 hxn
                            rcases hmn with hlab | hneg
                            · have ex : wr.cell? ⟨w1.heap.size, x, none⟩ = some (.int .i64 (g.ahead m : Int)) := by
                                rw [HO5.out.cellAt x (by omega)]
                                exact cellsI_at ((HAL.out P3 x).1 hlab)
                              have HD6 : Aside (c3 = false → ∀ m' x', m' < kk + 1 → (g.near j)[m']? = some x' → g.Lab m P3 x') := HDx.out P3 (fun _ h => h) hlab
                              have hah0 : ¬ (g.ahead m : Int) < 0 := by omega
                              clear hlab hpu hP3l HDx
                              rw [hnb]
                              go_wp2
                              rw [← hnb]
                              go_roundg ((ints (g.near j)).length - (kk + 1))
                              case measure => omega
                              case rel => exact ⟨c3, kk + 1, P3, rfl, by go_num, by omega, Nat.le_refl _, HO5, HM5, HS5, HL5, HD6, HZ5, HBk5⟩
                            · have ex : wr.cell? ⟨w1.heap.size, x, none⟩ = some (.int .i64 (-1)) := by
                                rw [HO5.out.cellAt x (by omega)]
                                exact cellsI_at hneg
                              have hns := negs_set (v := (g.ahead m : Int)) hneg (by omega) (by omega)
                              have HS6 : Aside (g.Swp m N0 (P3.set x (g.ahead m : Int)) j true) := .inr ⟨rfl, by
                                rcases HS5.out with ⟨_, h, _⟩ | ⟨_, h⟩ <;> omega⟩
                              have HM6 : Aside (g.Mid m P (P3.set x (g.ahead m : Int)) (g.Lab m (P3.set x (g.ahead m : Int)))) := hpu.1
                              have HL6 : Aside (g.Lab m (P3.set x (g.ahead m : Int)) j) := hpu.2 j HL5.out
                              have HD6 : Aside (true = false → ∀ m' x', m' < kk + 1 → (g.near j)[m']? = some x' → g.Lab m (P3.set x (g.ahead m : Int)) x') := fun h => nomatch h
                              obtain ⟨hs1, hs2⟩ := HO5.out.stored x (.int .i64 (g.ahead m : Int))
                              have HO6 : Aside ((wr.setCell ⟨w1.heap.size, x, none⟩ (.int .i64 (g.ahead m : Int))).ownsRow w1.heap.size 3 1 (.slice (some ⟨w1.heap.size, 0, none⟩) g.n g.n) g.n (cellsI (P3.set x (g.ahead m : Int)))) := by
                                show World.ownsRow _ _ _ _ _ _ _
                                rw [cellsI_set]; exact hs1
                              have HZ6 : Aside ((wr.setCell ⟨w1.heap.size, x, none⟩ (.int .i64 (g.ahead m : Int))).ownsRow 0 3 1 (.slice nao (ints (g.near j)).length ncap) (g.near j).length (cellsI (ints (g.near j)))) := HZ5.out.kept hs2 (.inr fun e => HNS.out w1.heap.size e rfl)
                              have HB6 : Aside (Below w1.heap.size w1 (wr.setCell ⟨w1.heap.size, x, none⟩ (.int .i64 (g.ahead m : Int)))) := HBk5.out.grown hs2 HBk5.out.size (fun j hj => by injection hj with h; omega)
                              clear hs1 hs2 hns hneg hpu hP3l HDx
                              rw [hnb]
                              go_wp2
                              rw [← hnb]
                              go_roundg ((ints (g.near j)).length - (kk + 1))
                              case measure => omega
                              case rel => exact ⟨true, kk + 1, P3.set x (g.ahead m : Int), rfl, by go_num, by omega, Nat.le_refl _, HO6, HM6, HS6, HL6, HD6, HZ6, HB6⟩
                          · have hlkz : ¬ (kk : Int) < ((ints (g.near j)).length : Int) := by omega
                            have HS6 : Aside (g.Swp m N0 P3 (j + 1) c3) := HSS.out P3 N0 j c3 HS5.out fun _ hc x hx => by
                              obtain ⟨m', h1, h2⟩ := List.mem_iff_getElem.1 hx
                              exact HD5.out hc m' x (by have := HIL.out; omega) (by rw [List.getElem?_eq_getElem h1, h2])
                            clear HD5 HL5 HZ5 HS5
                            go_wp2
                            go_roundg (g.n - (j + 1))
                            case measure => omega
                            case rel => exact ⟨c3, j + 1, P3, rfl, by go_num, by omega, Nat.le_refl _, HO5, HM5, HS6, HBk5⟩
                      · have HS3 : Aside (g.Swp m N0 P2 (j + 1) c) := HSS.out P2 N0 j c HS2.out fun hl => absurd (Option.some.inj (hr.symm.trans hl)) hra
                        clear hr hP2l
                        go_wp2
                        go_roundg (g.n - (j + 1))
                        case measure => omega
                        case rel => exact ⟨c, j + 1, P2, rfl, by go_num, by omega, Nat.le_refl _, HO2, HM2, HS3, HBj⟩
                    · have hljz : ¬ (j : Int) < (g.n : Int) := by omega
                      have hjn : j = g.n := by omega
                      subst hjn
                      have HCx : Aside (c = false → g.Swept m P2 g.n) := fun hc => by
                        rcases HS2.out with ⟨_, _, h⟩ | ⟨h, _⟩
                        · exact h
                        · rw [hc] at h; cases h
                      have hmz : 2 * negs P2 + (if c then 1 else 0) ≤ 2 * N0 := by
                        rcases HS2.out with ⟨h1, h2, _⟩ | ⟨h1, h2⟩
                        · subst h1; simp; omega
                        · subst h1; simp; omega
                      go_wp2
                      go_roundg (2 * negs P2 + (if c then 1 else 0))
                      case measure => omega
                      case rel => exact ⟨c, P2, rfl, HO2, HM2, HCx, Nat.le_refl _, by omega, HBj⟩
        · have hlz2 : ¬ (m : Int) < (g.n : Int) := by omega
          have hmn : m = g.n := by omega
          subst hmn
          have HL : Aside (g.Labels P) := Gr.upto_end HU.out
          have HO5 : Aside (wr.ownsRow w.heap.size 3 1 (.slice (some ⟨w1.heap.size, 0, none⟩) g.n g.n) g.n (cellsI P)) := row_base HO.out HB1.out.size
          clear HO HU
          go_wp2
          go_ret2
          exact ⟨_, rfl, P, HO5.out, HL.out, HBw.out⟩
end Go.Proofs.YtaepndaboefbeaaDoor.Grd
