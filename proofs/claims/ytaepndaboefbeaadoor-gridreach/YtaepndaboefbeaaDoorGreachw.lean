/-
  GridReach walked: the cells that steps reach from one are just those of its part; parts are numbered by their first cells.
-/
import Derived.Test.YtaepndaboefbeaaDoorGrdi
import Derived.Test.YtaepndaboefbeaaDoorGrdx
import Derived.Test.YtaepndaboefbeaaDoorGrdo
import Derived.Test.YtaepndaboefbeaaDoorGrdv
import Derived.Deep.RegionWith
namespace Go.Proofs.YtaepndaboefbeaaDoor.Grd
open Go Go.Lib Go.RowKit

theorem cellsB_set (zs : List Bool) (j : Nat) (x : Bool) : cellsB (zs.set j x) = (cellsB zs).set j (.bool x) := by simp [cellsB]
theorem cellsB_at {zs : List Bool} {j : Nat} (h : j < zs.length) : (cellsB zs)[j]? = some (.bool (bt zs j)) := by simp [cellsB, bt, List.getElem?_eq_getElem h]
/-- The worlds while the search goes: what was seen, what waits. -/
structure ReSt (w3 : World) (n bs : Nat) (S : List Bool) (b off cap : Nat) (T : List Nat) (wr : World) : Prop where
  bel : Below bs w3 wr
  sn : wr.ownsRow bs 4 1 (.slice (some ⟨bs, 0, none⟩) n n) n (cellsB S)
  td : OwnQ wr (bs + 1) b off T.length cap (ints T)
theorem ReSt.call {w3 : World} {n bs : Nat} {S : List Bool} {b off cap : Nat} {T : List Nat} {wr wr' : World} (h : ReSt w3 n bs S b off cap T wr) (hb : Below wr.heap.size wr wr') : ReSt w3 n bs S b off cap T wr' :=
  ⟨h.bel.trans (hb.mono (Nat.le_of_lt (h.sn.lt bs rfl).2)), row_keeps h.sn hb, h.td.keep hb⟩
theorem ReSt.mark {w3 : World} {n bs : Nat} {S : List Bool} {b off cap : Nat} {T : List Nat} {wr : World} (h : ReSt w3 n bs S b off cap T wr) (j : Nat) : ReSt w3 n bs (S.set j true) b off cap T (wr.setCell ⟨bs, j, none⟩ (.bool true)) := by
  obtain ⟨h1, h2⟩ := h.sn.stored j (.bool true)
  have hgl := (h.sn.lt bs rfl).2
  have hbs := h.td.bs
  exact ⟨h.bel.grown h2 (by omega) (fun j hj => by injection hj with hj; omega), by rw [cellsB_set]; exact h1, h.td.of_block (h2.block b h.td.lt (fun e => by injection e with e; omega))⟩
theorem ReSt.push {w3 : World} {n bs : Nat} {S : List Bool} {b off cap b' off' cap' : Nat} {T : List Nat} {wr wa : World} {o : Obj} (h : ReSt w3 n bs S b off cap T wr) (j : Nat)
    (h1 : OwnQ wa (bs + 1) b' off' (T.length + 1) cap' (ints T ++ [(j : Int)])) (h2 : (wr.alloc o).grownBy wa (some b)) : ReSt w3 n bs S b' off' cap' (T ++ [j]) wa := by
  have ha := h.call (below_box wr o)
  have hgl := (ha.sn.lt bs rfl).2
  have hbs := h.td.bs
  refine ⟨ha.bel.grown h2 (by omega) (fun k hk => by injection hk with hk; omega), ha.sn.kept h2 (.inr fun e => by have e2 : bs = b := Option.some.inj e; omega), ?_⟩
  rw [List.length_append, ints_snoc]
  exact h1

set_option maxRecDepth 100000 in
set_option maxHeartbeats 4000000 in
theorem gridReach_shut (g : Gr) (p : Ad) (i : Int) (ho : g.opI i = false) (w : World) (hw : Wy w) (hR : RG w g p) :
    Calls Tryd.prog 7 #[gv g p, .int .i64 i] w fun e w' => e = .returned (.bool true) ∧ Below w.heap.size w w' := by
  have HW : Aside (∀ W, Below w.heap.size w W → Wy W ∧ RG W g p) := fun W h => ⟨hw.below hw.size h, hR.below h⟩
  have HP : Aside (∀ W, Below w.heap.size w W → Calls Tryd.prog 25 #[gv g p] W fun e w' => (∃ ao l cap n, e = .returned (.tuple #[.slice ao l cap, .int .i64 n])) ∧ Below W.heap.size W w') := fun W h => by
    by_cases hok : g.ok
    · refine (parts_open g p hok W (HW.out _ h).1 (HW.out _ h).2).mono ?_
      rintro e w' ⟨v, rfl, P, hown, _, hb⟩
      obtain ⟨ao, cap, rfl, _, _⟩ := row_reads hown
      exact ⟨⟨_, _, _, _, rfl⟩, hb⟩
    · refine (parts_shut g p hok W (HW.out _ h).1 (HW.out _ h).2).mono ?_
      rintro e w' ⟨rfl, hb⟩
      exact ⟨⟨_, _, _, _, rfl⟩, hb⟩
  have HO : Aside (∀ W, Below w.heap.size w W → Calls Tryd.prog 13 #[gv g p, .int .i64 i] W fun e w' => e = .returned (.bool false) ∧ Below W.heap.size W w') := fun W h => by
    have := open_any g p i W (HW.out _ h).1 (HW.out _ h).2
    rw [ho] at this
    exact this
  have cA := awake_any (w.alloc (.cells #[.int .i64 g.h, .int .i64 g.w, .slice p.a1 g.B.length p.c1, .slice p.a2 g.R.length p.c2, .slice p.a3 g.D.length p.c3] 24)) (HW.out _ (below_box w _)).1
  unfold gv at HP HO
  unfold gv
  clear hw hR
  go_enter Tryd.func7, Tryd.ntmps7
  go_wp2_with fail
  refine cA.mono ?_
  rintro e w1 ⟨rfl, hb1⟩
  have HX1 : Aside (Bx w1 w.heap.size g p) := (Bx.new w g p _).keep hb1
  have HB1 : Aside (Below w.heap.size w w1) := (below_box w _).trans (hb1.mono (below_box w _).size)
  obtain ⟨_, k0, k1, k2, k3, k4⟩ := HX1.out
  clear hb1 cA
  go_wp2_with fail
  refine (HP.out w1 HB1.out).mono ?_
  rintro e w2 ⟨⟨ao, l, cap, n, rfl⟩, hb2⟩
  have HX2 : Aside (Bx w2 w.heap.size g p) := HX1.out.keep hb2
  have HB2 : Aside (Below w.heap.size w w2) := HB1.out.trans (hb2.mono HB1.out.size)
  clear k0 k1 k2 k3 k4 hb2
  obtain ⟨_, k0, k1, k2, k3, k4⟩ := HX2.out
  go_wp2_with fail
  refine (HO.out w2 HB2.out).mono ?_
  rintro e w3 ⟨rfl, hb3⟩
  go_wp2
  go_ret
  exact ⟨rfl, HB2.out.trans (hb3.mono HB2.out.size)⟩

set_option maxRecDepth 100000 in
set_option maxHeartbeats 4000000 in
theorem gridReach_open (g : Gr) (p : Ad) (hok : g.ok) (k : Nat) (hk : g.opn k = true) (w : World) (hw : Wy w) (hR : RG w g p) :
    Calls Tryd.prog 7 #[gv g p, .int .i64 k] w fun e w' => e = .returned (.bool true) ∧ Below w.heap.size w w' := by
  obtain ⟨i0, hi0, hz0, hz1, hz2⟩ := info_parts infoInt
  obtain ⟨j0, hj0, hjz0, hjz1, hjz2⟩ := info_parts infoBool
  have hz := (Gr.right_of hok).sz
  have hn := hz.n_le
  have hkn := (Gr.opn_iff.1 hk).1
  obtain ⟨b1, o1, c1, b2, o2, c2, b3, o3, c3, rfl, hA⟩ := hR.open hz
  have HA : Aside (∀ W, Below w.heap.size w W → RA W g b1 o1 b2 o2 b3 o3) := fun W hb => hA.below hb
  have HW : Aside (∀ W, Below w.heap.size w W → Wy W ∧ RG W g ⟨some ⟨b1, o1, none⟩, c1, some ⟨b2, o2, none⟩, c2, some ⟨b3, o3, none⟩, c3⟩) := fun W h => ⟨hw.below hw.size h, hR.below h⟩
  have HWp : Aside (0 < g.W) := hz.sw.1
  have HOK : Aside (g.ok) := hok
  have HKO : Aside (g.opn k = true) := hk
  have HO : Aside (∀ W, Below w.heap.size w W → Calls Tryd.prog 13 #[gv g ⟨some ⟨b1, o1, none⟩, c1, some ⟨b2, o2, none⟩, c2, some ⟨b3, o3, none⟩, c3⟩, .int .i64 k] W fun e w' => e = .returned (.bool true) ∧ Below W.heap.size W w') := fun W h => by
    have := open_any g ⟨some ⟨b1, o1, none⟩, c1, some ⟨b2, o2, none⟩, c2, some ⟨b3, o3, none⟩, c3⟩ k W (HW.out _ h).1 (HW.out _ h).2
    rw [Gr.opI_iff.2 ⟨hok, k, rfl, hk⟩] at this
    exact this
  have HN : Aside (∀ W a, g.opn a = true → Below w.heap.size w W → Calls Tryd.prog 22 #[gv g ⟨some ⟨b1, o1, none⟩, c1, some ⟨b2, o2, none⟩, c2, some ⟨b3, o3, none⟩, c3⟩, .int .i64 (a : Nat)] W fun e w' => ∃ v, e = .returned v ∧ w'.ownsRow W.heap.size 3 1 v (g.near a).length (cellsI (ints (g.near a))) ∧ Below W.heap.size W w') := fun W a ha h =>
    near_open g ⟨some ⟨b1, o1, none⟩, c1, some ⟨b2, o2, none⟩, c2, some ⟨b3, o3, none⟩, c3⟩ hok a ha W (HW.out _ h).1 (HW.out _ h).2
  have cA := awake_any (w.alloc (.cells #[.int .i64 g.h, .int .i64 g.w, .slice (some ⟨b1, o1, none⟩) g.B.length c1, .slice (some ⟨b2, o2, none⟩) g.R.length c2, .slice (some ⟨b3, o3, none⟩) g.D.length c3] 24)) (HW.out _ (below_box w _)).1
  have hBz : (g.B.length : Int) = (g.n : Int) := by rw [hz.bl]
  have HBX : Aside (∀ W, Below (w.heap.size + 1) (w.alloc (.cells #[.int .i64 g.h, .int .i64 g.w, .slice (some ⟨b1, o1, none⟩) g.B.length c1, .slice (some ⟨b2, o2, none⟩) g.R.length c2, .slice (some ⟨b3, o3, none⟩) g.D.length c3] 24)) W → Bx W w.heap.size g ⟨some ⟨b1, o1, none⟩, c1, some ⟨b2, o2, none⟩, c2, some ⟨b3, o3, none⟩, c3⟩) := fun W h =>
    (Bx.new w g ⟨some ⟨b1, o1, none⟩, c1, some ⟨b2, o2, none⟩, c2, some ⟨b3, o3, none⟩, c3⟩ 24).below h (by omega) h.size
  unfold gv at HO HN
  unfold gv
  dsimp only at HO HN ⊢
  obtain ⟨M, hM⟩ : ∃ M, M = madeCells (Value.bool false).cells (g.n * j0.size) := ⟨_, rfl⟩
  have hMs : M.size = g.n * 1 := by rw [hM, size_madeCells, hjz1]
  have hMl : M.toList = cellsB (List.replicate g.n false) := by
    rw [hM, hjz1, Nat.mul_one]
    show (madeCells #[Value.bool false] g.n).toList = _
    rw [toList_madeCells_one]
    simp [cellsB]
  have hmk : ∀ W : World, (Instr.makeSlice 22 (.int .i64 (g.n : Int)) (.int .i64 (g.n : Int))).run Tryd.prog W = .ok (.slice (some ⟨W.heap.size, 0, none⟩) g.n g.n) (W.alloc (.cells M 4)) := fun W => by
    have h := run_make (P := Tryd.prog) W 22 4 j0 (.bool false) Tryd.underlying22 hj0 hjz0 .i64 .i64 g.n g.n (by omega) (by omega) (by rw [hjz2]; omega) (by omega)
    rw [Int.toNat_natCast, ← hM] at h
    exact h
  clear hM hw hR hA hz hok
  go_enter Tryd.func7, Tryd.ntmps7
  go_wp2_with fail
  refine cA.mono ?_
  rintro e w1 ⟨rfl, hb1⟩
  have HX1 : Aside (Bx w1 w.heap.size g ⟨some ⟨b1, o1, none⟩, c1, some ⟨b2, o2, none⟩, c2, some ⟨b3, o3, none⟩, c3⟩) := (Bx.new w g ⟨some ⟨b1, o1, none⟩, c1, some ⟨b2, o2, none⟩, c2, some ⟨b3, o3, none⟩, c3⟩ 24).keep hb1
  have HB1 : Aside (Below w.heap.size w w1) := (below_box w _).trans (hb1.mono (below_box w _).size)
  obtain ⟨_, k0, k1, k2, k3, k4⟩ := HX1.out
  dsimp only at k2 k3 k4
  have cP := parts_open g ⟨some ⟨b1, o1, none⟩, c1, some ⟨b2, o2, none⟩, c2, some ⟨b3, o3, none⟩, c3⟩ HOK.out w1 (HW.out _ HB1.out).1 (HW.out _ HB1.out).2
  unfold gv at cP
  dsimp only at cP
  clear hb1 cA HBX
  go_wp2_with fail
  refine cP.mono ?_
  rintro e w2 ⟨v, rfl, P, hown, hL, hb2⟩
  clear cP
  have HX2 : Aside (Bx w2 w.heap.size g ⟨some ⟨b1, o1, none⟩, c1, some ⟨b2, o2, none⟩, c2, some ⟨b3, o3, none⟩, c3⟩) := HX1.out.keep hb2
  have HB2 : Aside (Below w.heap.size w w2) := HB1.out.trans (hb2.mono HB1.out.size)
  clear k0 k1 k2 k3 k4
  obtain ⟨_, k0, k1, k2, k3, k4⟩ := HX2.out
  dsimp only at k2 k3 k4
  have HL : Aside (g.Labels P) := hL
  have hpl : P.length = g.n := hL.1
  obtain ⟨ao, cap, rfl, -, hrd⟩ := row_reads hown
  obtain ⟨b, off, rfl, hbl, -⟩ := hrd 0 (by omega)
  have hPz : (P.length : Int) = (g.n : Int) := by omega
  have HPl : Aside (P.length = g.n) := hpl
  have HRd : Aside (∀ W, Below w2.heap.size w2 W → ∀ j q, P[j]? = some q → W.cell? ⟨b, off + j, none⟩ = some (.int .i64 q)) := fun W hW j q hq => by
    obtain ⟨b', off', e', _, hc⟩ := hrd j (List.getElem?_eq_some_iff.1 hq).1
    injection e' with e'
    injection e' with e1 e2
    subst e1 e2
    rw [hq] at hc
    exact (hW.cell (p := ⟨b, off + j, none⟩) hbl).trans hc
  clear hown hL hrd hb2 hpl
  go_wp2_with fail
  refine (HO.out w2 HB2.out).mono ?_
  rintro e w3 ⟨rfl, hb3⟩
  have HX3 : Aside (Bx w3 w.heap.size g ⟨some ⟨b1, o1, none⟩, c1, some ⟨b2, o2, none⟩, c2, some ⟨b3, o3, none⟩, c3⟩) := HX2.out.keep hb3
  have HB3 : Aside (Below w.heap.size w w3) := HB2.out.trans (hb3.mono HB2.out.size)
  have HB23 : Aside (Below w2.heap.size w2 w3) := hb3
  clear k0 k1 k2 k3 k4 hb3 HO
  obtain ⟨_, k0, k1, k2, k3, k4⟩ := HX3.out
  dsimp only at k2 k3 k4
  have hnk : ¬ g.n ≤ k := by omega
  have hnk2 : decide (g.n ≤ k) = false := decide_eq_false hnk
  go_wp2
  have hSt0 : ReSt w3 g.n w3.heap.size ((List.replicate g.n false).set k true) (w3.heap.size + 1) 0 1 [k] ((w3.alloc (.cells (M.setIfInBounds k (.bool true)) 4)).alloc (.cells #[.int .i64 k] 3)) := by
    have hM2s : (M.setIfInBounds k (.bool true)).size = g.n * 1 := by simpa using hMs
    have hM2l : (M.setIfInBounds k (.bool true)).toList = cellsB ((List.replicate g.n false).set k true) := by rw [Array.toList_setIfInBounds, hMl, cellsB_set]
    have o1 := World.ownsRow_lit (e := 4) (size := 1) (base := w3.heap.size) w3 (M.setIfInBounds k (.bool true)) g.n (Nat.le_refl _) (by unfold maxLen; omega) hM2s
    rw [hM2l] at o1
    have hq := OwnQ.lit (w3.alloc (.cells (M.setIfInBounds k (.bool true)) 4)) (w3.heap.size + 1) (by rw [World.size_alloc]; exact Nat.le_refl _) (k : Int)
    rw [World.size_alloc] at hq
    exact ⟨(below_box w3 _).alloc (below_box w3 _).size _, o1.alloc _, hq⟩
  have HS0 : Aside (ReSt w3 g.n w3.heap.size ((List.replicate g.n false).set k true) (w3.heap.size + 1) 0 1 [k] ((w3.alloc (.cells (M.setIfInBounds k (.bool true)) 4)).alloc (.cells #[.int .i64 k] 3))) := hSt0
  have HF0 : Aside (g.Bfs k ((List.replicate g.n false).set k true) [k] (fun _ => False)) := Gr.bfs_start hkn
  clear hSt0 k0 k1 k2 k3 k4 hmk hMs hMl
  generalize ((w3.alloc (.cells (M.setIfInBounds k (.bool true)) 4)).alloc (.cells #[.int .i64 k] 3)) = W0 at *
  go_loopg [8] 600 (fun g1 tv wr => ∃ (S : List Bool) (T : List Nat) (b' off' cap' : Nat), tv = .slice (some ⟨b', off', none⟩) T.length cap' ∧ Aside (ReSt w3 g.n w3.heap.size S b' off' cap' T wr) ∧ Aside (g.Bfs k S T (fun _ => False)) ∧ 2 * uns S + T.length ≤ g1 ∧ g1 ≤ 600)
  case atStart =>
    refine ⟨_, _, _, _, _, rfl, HS0, HF0, ?_, Nat.le_refl _⟩
    have := uns_le ((List.replicate g.n false).set k true)
    simp only [List.length_set, List.length_replicate] at this
    simp only [List.length_cons, List.length_nil]
    omega
  case round =>
    obtain ⟨S, T, tb, toff, tcap, rfl, HSt, HBf, hg1, hg6⟩ := hrel
    have HBw : Aside (Below w.heap.size w wr) := HB3.out.trans (HSt.out.bel.mono HB3.out.size)
    have HBwr : Aside (Below w3.heap.size w3 wr) := HSt.out.bel
    obtain ⟨_, k0, k1, k2, k3, k4⟩ := HX3.out.keep HBwr.out
    dsimp only at k2 k3 k4
    cases T with
    | nil =>
      have HE : Aside (∀ j, S[j]? = some true ↔ g.Reach k j) := Gr.bfs_end HBf.out
      have HWE : Aside (ReSt w3 g.n w3.heap.size S tb toff tcap [] wr) := HSt
      have hSl : S.length = g.n := HBf.out.len
      obtain ⟨qk, hqk, _, _, _⟩ := Gr.lab_next HWp.out HL.out HKO.out
      have HB2w : Aside (Below w2.heap.size w2 wr) := HB23.out.trans (HBwr.out.mono HB23.out.size)
      have ek := HRd.out wr HB2w.out k _ hqk
      have hkP : k < P.length := (List.getElem?_eq_some_iff.1 hqk).1
      have HRA := HA.out wr HBw.out
      have HCa : Aside (∀ m, m < g.n → (wr.cell? ⟨w3.heap.size, m, none⟩ = some (.bool (bt S m)) ∧ wr.cell? ⟨b1, o1 + m, none⟩ = some (.bool (bt g.B m)) ∧ ∀ q, P[m]? = some q → wr.cell? ⟨b, off + m, none⟩ = some (.int .i64 q))) := fun m hm => ⟨by
        rw [HWE.out.sn.cellAt m (by omega)]
        exact cellsB_at (by omega), HRA.e1 m hm, fun q hq => HRd.out wr HB2w.out m q hq⟩
      have HLa : Aside (∀ m, m < g.n → (∃ q : Nat, P[m]? = some (q : Int) ∧ bt g.B m = false ∧ q ≤ g.ahead m ∧ g.ahead (m + 1) = g.ahead m + (if q = g.ahead m then 1 else 0) ∧ (bt S m = true ↔ q = qk)) ∨ (P[m]? = some (-1) ∧ bt g.B m = true ∧ bt S m = false ∧ g.ahead (m + 1) = g.ahead m)) := fun m hm => by
        have hbt : bt S m = true ↔ S[m]? = some true := by
          rw [bt_in (by omega), List.getElem?_eq_getElem (by omega)]
          simp
        cases hop : g.opn m with
        | true =>
          left
          obtain ⟨q, h1, h2, h3, _⟩ := Gr.lab_next HWp.out HL.out hop
          refine ⟨q, h1, (Gr.opn_iff.1 hop).2, h2, ?_, ?_⟩
          · rw [Gr.ahead_succ]
            by_cases hf : g.first m = true
            · rw [if_pos hf, if_pos (h3.2 hf)]
            · rw [if_neg hf, if_neg (fun h => hf (h3.1 h))]
          · rw [hbt, HE.out m, ← Gr.lab_reach HWp.out HL.out HKO.out hop, hqk, h1]
            constructor
            · intro e
              have := Option.some.inj e
              omega
            · intro e
              rw [e]
        | false =>
          right
          have hb : bt g.B m = true := by
            unfold Gr.opn at hop
            rw [decide_eq_true hm, Bool.true_and] at hop
            simpa using hop
          refine ⟨Gr.lab_block HL.out hm hop, hb, ?_, ?_⟩
          · rw [Bool.eq_false_iff]
            intro h
            have := ((HE.out m).1 (hbt.1 h)).opn HWp.out HKO.out
            rw [hop] at this
            cases this
          · rw [Gr.ahead_succ, if_neg (by rw [Gr.upto_block hop]; simp)]
            omega
      have HAl : Aside (∀ m, m ≤ g.n → g.ahead m ≤ 256) := fun m hm => Nat.le_trans (g.ahead_le m) (by omega)
      have HCN : Aside (g.count = g.ahead g.n) := rfl
      clear hqk HRA HSt HBf hSl
      simp only [List.length_nil]
      go_wp2
      go_loopg [11, 82] g.n (fun g2 nv iv wx => ∃ m nd : Nat, iv = .int .i64 (m : Int) ∧ nv = .int .i64 (g.ahead m : Nat) ∧ m ≤ g.n ∧ g.n - m ≤ g2 ∧ wx = wr.drewN nd)
      case atStart => exact ⟨0, 0, rfl, rfl, Nat.zero_le _, Nat.le_refl _, rfl⟩
      case round =>
        obtain ⟨m, nd, rfl, rfl, hm, hg2, rfl⟩ := hrel
        by_cases hlt : m < g.n
        · have hltz : (m : Int) < (g.n : Int) := by omega
          obtain ⟨es, eb, ep⟩ := HCa.out m hlt
          have ham := HAl.out m hm
          rcases HLa.out m hlt with ⟨q, hq, hB, hqa, has, hqs⟩ | ⟨hq, hB, hS, has⟩
          · have eq := ep _ hq
            rw [hB] at eb
            have HAS : Aside (g.ahead (m + 1) = g.ahead m + (if q = g.ahead m then 1 else 0)) := has
            generalize g.ahead m = am at *
            have h1 : ¬ am < q := by omega
            have h2 : ¬ (q : Int) < -1 := by omega
            have h3 : ¬ (q : Int) = -1 := by omega
            have h4 : ((q : Int) == -1) = false := beq_eq_false_iff_ne.2 h3
            clear hq hB ep has
            cases hs : bt S m with
            | true =>
              have hqq : q = qk := hqs.1 hs
              subst hqq
              rw [hs] at es
              clear hqs hs
              by_cases hqn : q = am
              · subst hqn
                go_wp2
                go_quiet (fail)
                go_wp2
                go_roundg (g.n - (m + 1))
                case measure => omega
                case rel => exact ⟨m + 1, _, by go_num, by rw [HAS.out]; first | go_num | (rw [if_pos rfl]; go_num), by omega, Nat.le_refl _, rfl⟩
              · have hqz : ¬ (q : Int) = (am : Int) := by omega
                go_wp2
                go_quiet (fail)
                go_wp2
                go_roundg (g.n - (m + 1))
                case measure => omega
                case rel => exact ⟨m + 1, _, by go_num, by rw [HAS.out, if_neg hqn]; go_num, by omega, Nat.le_refl _, rfl⟩
            | false =>
              have hqq : ¬ q = qk := fun h => by rw [hqs.2 h] at hs; cases hs
              have hqz2 : ¬ (q : Int) = (qk : Int) := by omega
              have hqz3 : ((q : Int) == (qk : Int)) = false := beq_eq_false_iff_ne.2 hqz2
              rw [hs] at es
              clear hqs hs
              by_cases hqn : q = am
              · subst hqn
                go_wp2
                go_quiet (fail)
                go_wp2
                go_roundg (g.n - (m + 1))
                case measure => omega
                case rel => exact ⟨m + 1, _, by go_num, by rw [HAS.out]; first | go_num | (rw [if_pos rfl]; go_num), by omega, Nat.le_refl _, rfl⟩
              · have hqz : ¬ (q : Int) = (am : Int) := by omega
                go_wp2
                go_quiet (fail)
                go_wp2
                go_roundg (g.n - (m + 1))
                case measure => omega
                case rel => exact ⟨m + 1, _, by go_num, by rw [HAS.out, if_neg hqn]; go_num, by omega, Nat.le_refl _, rfl⟩
          · have eq := ep _ hq
            rw [hB] at eb
            rw [hS] at es
            have HAS : Aside (g.ahead (m + 1) = g.ahead m) := has
            generalize g.ahead m = am at *
            have h1 : ¬ (am : Int) < -1 := by omega
            have h2 : ¬ (-1 : Int) = (qk : Int) := by omega
            have h4 : ((-1 : Int) == (qk : Int)) = false := beq_eq_false_iff_ne.2 h2
            have h3 : ¬ (-1 : Int) = (am : Int) := by omega
            clear hq hB ep has hS
            go_wp2
            go_quiet (fail)
            go_wp2
            go_roundg (g.n - (m + 1))
            case measure => omega
            case rel => exact ⟨m + 1, _, by go_num, by rw [HAS.out], by omega, Nat.le_refl _, rfl⟩
        · have hltz : ¬ (m : Int) < (g.n : Int) := by omega
          obtain rfl : m = g.n := by omega
          rw [← HCN.out]
          have HF : Aside (Below w.heap.size w wr) := HBw
          go_wp2
          go_ret
          exact ⟨rfl, below_drewN HF.out _⟩
    | cons a T =>
      have hSl : S.length = g.n := HBf.out.len
      have HAS : Aside (S[a]? = some true) := HBf.out.wait a (by simp)
      have HAO : Aside (g.opn a = true) := (HBf.out.sub a HAS.out).opn HWp.out HKO.out
      have HPop : Aside (g.Bfs k S T (fun j => j = a)) := Gr.bfs_pop HBf.out
      have ea : wr.cell? ⟨tb, toff, none⟩ = some (.int .i64 (a : Int)) := by
        have := HSt.out.td.cell 0 (by simp)
        simpa [ints] using this
      have htc : (a :: T).length ≤ tcap := HSt.out.td.nc
      simp only [List.length_cons] at hg1 htc ⊢
      have cN := HN.out wr.drew a HAO.out (Below.drew HBw.out)
      go_wp2
      (first | go_region_with (go_at_call 22; refine cN.mono ?_; rintro e w4 ⟨v, rfl, hown, hb4⟩; have HOw : Aside (w4.ownsRow wr.heap.size 3 1 v (g.near a).length (cellsI (ints (g.near a)))) := hown; have HB4 : Aside (Below wr.heap.size wr w4) := (Below.drew (Below.refl _ wr)).trans hb4; obtain ⟨nao, ncap, rfl, -, -⟩ := row_reads hown; rw [ints_length]; clear hown hb4) | fail)
      all_goals simp only [Exit.then, Act.put, List.getElem_toArray, List.getElem_cons_succ, List.getElem_cons_zero, List.setIfInBounds_toArray, List.set_cons_succ, List.set_cons_zero]
      all_goals
        have HS4 : Aside (ReSt w3 g.n w3.heap.size S tb toff tcap (a :: T) w4) := HSt.out.call HB4.out
        obtain ⟨M0, hM0⟩ : ∃ M0, M0 = 2 * uns S + T.length := ⟨_, rfl⟩
        have hMg : M0 < gk := by omega
        have hM6 : M0 ≤ 600 := by omega
        have HM0 : Aside (2 * uns S + T.length ≤ M0) := Nat.le_of_eq hM0.symm
        have HNB : Aside (∀ nbk, nao = some ⟨nbk, 0, none⟩ → tb ≠ nbk) := fun nbk e h => by
          have h1 := (HOw.out.lt nbk (by rw [e]; rfl)).1
          have h2 := HSt.out.td.lt
          omega
        have HNS : Aside (∀ nbk, nao = some ⟨nbk, 0, none⟩ → nbk ≠ w3.heap.size) := fun nbk e h => by
          have h1 := (HOw.out.lt nbk (by rw [e]; rfl)).1
          have h2 := (HSt.out.sn.lt w3.heap.size rfl).2
          omega
        have HLn : Aside ((g.near a).length ≤ 4) := g.near_len a
        have hLn := HLn.out
        have HLM : Aside (∀ m x, (g.near a)[m]? = some x → x ∈ g.near a) := fun m x h => List.mem_of_getElem? h
        have HML : Aside (∀ x, x ∈ g.near a → ∃ m, m < (g.near a).length ∧ (g.near a)[m]? = some x) := fun x h => by
          obtain ⟨m, h1, h2⟩ := List.mem_iff_getElem.1 h
          exact ⟨m, h1, by rw [List.getElem?_eq_getElem h1, h2]⟩
        have HOz : Aside (w4.ownsRow 0 3 1 (.slice nao (g.near a).length ncap) (g.near a).length (cellsI (ints (g.near a)))) := by
          have := row_base HOw.out (Nat.zero_le _)
          rwa [ints_length] at this
        clear HOw
        obtain ⟨L, hLq⟩ : ∃ L, g.near a = L := ⟨_, rfl⟩
        rw [hLq] at HOz HLn hLn HLM HML ⊢
        have HLQ : Aside (g.near a = L) := hLq
        clear hLq
        clear k0 k1 k2 k3 k4 ea cN hM0 HBf
        go_wp2
        go_loopg [8, 55] L.length (fun g2 tv iv wx => ∃ (m : Nat) (S' : List Bool) (T' : List Nat) (b' off' cap' : Nat), iv = .int .i64 (m : Int) ∧ tv = .slice (some ⟨b', off', none⟩) (T'.length + 1) cap' ∧ m ≤ L.length ∧ L.length - m ≤ g2 ∧ Aside (ReSt w3 g.n w3.heap.size S' b' off' cap' (a :: T') wx) ∧ Aside (g.Bfs k S' T' (fun j => j = a)) ∧ Aside (S'[a]? = some true) ∧ Aside (∀ m' x, m' < m → L[m']? = some x → S'[x]? = some true) ∧ Aside (wx.ownsRow 0 3 1 (.slice nao L.length ncap) L.length (cellsI (ints L))) ∧ Aside (∀ nbk, nao = some ⟨nbk, 0, none⟩ → b' ≠ nbk) ∧ Aside (2 * uns S' + T'.length ≤ M0))
        case atStart => exact ⟨0, S, T, tb, toff, tcap, rfl, rfl, Nat.zero_le _, Nat.le_refl _, HS4, HPop, HAS, fun m' x h => absurd h (Nat.not_lt_zero m'), HOz, HNB, HM0⟩
        case round =>
          obtain ⟨m, S1, T1, tb1, to1, tc1, rfl, rfl, hm, hg2, HS5, HF5, HA5, HD5, HO5, HN5, HM5⟩ := hrel
          by_cases hlt : m < L.length
          · have hltz : (m : Int) < (L.length : Int) := by omega
            obtain ⟨j, hj⟩ : ∃ j, L[m]? = some j := ⟨L[m], List.getElem?_eq_getElem hlt⟩
            have hnb : ∃ nb, nao = some ⟨nb, 0, none⟩ := by
              rcases HO5.out.2 with ⟨h1, h2⟩ | ⟨nb, _, _, h1, _⟩
              · omega
              · cases h1; exact ⟨nb, rfl⟩
            obtain ⟨nb, hnb⟩ := hnb
            have HNQ : Aside (tb1 ≠ nb) := HN5.out nb hnb
            have en : wr.cell? ⟨nb, m, none⟩ = some (.int .i64 (j : Int)) := by
              have h0 := HO5.out
              rw [hnb] at h0
              rw [h0.cellAt m (by omega)]
              exact cellsI_at (by simp [ints, hj])
            have hjn : j ∈ g.near a := by rw [HLQ.out]; exact HLM.out m j hj
            have HJN : Aside (j ∈ g.near a) := hjn
            have hjl : j < g.n := (Gr.opn_iff.1 (Gr.near_opn HWp.out hjn).2).1
            have hS1l : S1.length = g.n := HF5.out.len
            have es : wr.cell? ⟨w3.heap.size, j, none⟩ = some (.bool (bt S1 j)) := by
              rw [HS5.out.sn.cellAt j (by omega)]
              exact cellsB_at (by omega)
            have fs := HS5.out.sn.frozenAt j
            have HSL : Aside (S1.length = g.n) := hS1l
            have HDx : Aside (∀ S2 : List Bool, (∀ x, S1[x]? = some true → S2[x]? = some true) → S2[j]? = some true → ∀ m' x, m' < m + 1 → L[m']? = some x → S2[x]? = some true) := fun S2 h1 h2 m' x hm' hx => by
              by_cases e : m' = m
              · subst e; rw [hj] at hx; cases hx; exact h2
              · exact h1 x (HD5.out m' x (by omega) hx)
            have HOx : Aside (wr.ownsRow 0 3 1 (.slice nao L.length ncap) L.length (cellsI (ints L))) := HO5
            have hj0 : ¬ (j : Int) < 0 := by omega
            have hjp : ¬ g.n ≤ j := by omega
            clear hj hjn HD5 hS1l
            cases hbt : bt S1 j with
            | true =>
              rw [hbt] at es
              have hsj : S1[j]? = some true := by
                rw [bt_in (by rw [HSL.out]; exact hjl)] at hbt
                rw [List.getElem?_eq_getElem (by rw [HSL.out]; exact hjl), hbt]
              have HD6 : Aside (∀ m' x, m' < m + 1 → L[m']? = some x → S1[x]? = some true) := HDx.out S1 (fun _ h => h) hsj
              clear hbt hsj
              rw [hnb]
              go_wp2
              rw [← hnb]
              go_roundg (L.length - (m + 1))
              case measure => omega
              case rel => exact ⟨m + 1, S1, T1, tb1, to1, tc1, by go_num, rfl, by omega, Nat.le_refl _, HS5, HF5, HA5, HD6, HO5, HN5, HM5⟩
            | false =>
              rw [hbt] at es
              have hsj : S1[j]? = some false := by
                rw [bt_in (by rw [HSL.out]; exact hjl)] at hbt
                rw [List.getElem?_eq_getElem (by rw [HSL.out]; exact hjl), hbt]
              have hkeep : ∀ x, S1[x]? = some true → (S1.set j true)[x]? = some true := fun x hx => by
                by_cases e : x = j
                · subst e; rw [List.getElem?_set_self (by rw [HSL.out]; exact hjl)]
                · rw [List.getElem?_set_ne (fun h => e h.symm)]; exact hx
              have HD6 : Aside (∀ m' x, m' < m + 1 → L[m']? = some x → (S1.set j true)[x]? = some true) := HDx.out _ hkeep (by rw [List.getElem?_set_self (by rw [HSL.out]; exact hjl)])
              have HA6 : Aside ((S1.set j true)[a]? = some true) := hkeep a HA5.out
              have HF6 : Aside (g.Bfs k (S1.set j true) (T1 ++ [j]) (fun j => j = a)) := Gr.bfs_push HWp.out HF5.out HA5.out HJN.out
              have hus := uns_set hsj
              have hM5 := HM5.out
              have HM6 : Aside (2 * uns (S1.set j true) + (T1 ++ [j]).length ≤ M0) := by
                show 2 * uns (S1.set j true) + (T1 ++ [j]).length ≤ M0
                rw [List.length_append, List.length_singleton]
                omega
              have hT1 : T1.length ≤ 600 := by omega
              have HS6 : Aside (ReSt w3 g.n w3.heap.size (S1.set j true) tb1 to1 tc1 (a :: T1) (wr.setCell ⟨w3.heap.size, j, none⟩ (.bool true))) := HS5.out.mark j
              have hnbl : nb < wr.heap.size := (HO5.out.lt nb (by rw [hnb]; rfl)).2
              have HOm : Aside ((wr.setCell ⟨w3.heap.size, j, none⟩ (.bool true)).ownsRow 0 3 1 (.slice nao L.length ncap) L.length (cellsI (ints L))) := HO5.out.kept (set_grown wr w3.heap.size j (.bool true)) (.inr fun e => by
                rw [hnb] at e
                exact HNS.out nb hnb (Option.some.inj e))
              have hw3s : w3.heap.size < wr.heap.size := (HS5.out.sn.lt w3.heap.size rfl).2
              clear hbt hsj hkeep hus HF5
              rw [hnb]
              go_wp2_with (at_builtin; refine wpList_append_q rfl _ _ rfl i0 hi0 hz0 hz1 hz2 (w3.heap.size + 1) tb1 to1 (T1.length + 1) tc1 (ints (a :: T1)) rfl (HS6.out.td.keep (below_box _ _)) ⟨wr.heap.size, 0, none⟩ (j : Int) rfl (by have h := cells_box (wr.setCell ⟨w3.heap.size, j, none⟩ (.bool true)) #[.int .i64 (j : Int)] 3 0; simpa using h) (by omega) (by simp; omega) ?_)
              intro b' off' cap' wa hq' hgr hbb
              have HS7 : Aside (ReSt w3 g.n w3.heap.size (S1.set j true) b' off' cap' (a :: (T1 ++ [j])) wa) := HS6.out.push j hq' hgr
              have HO7 : Aside (wa.ownsRow 0 3 1 (.slice nao L.length ncap) L.length (cellsI (ints L))) := (HOm.out.alloc _).kept hgr (.inr fun e => by
                rw [hnb] at e
                exact HNQ.out (Option.some.inj e).symm)
              have HN7 : Aside (∀ nbk, nao = some ⟨nbk, 0, none⟩ → b' ≠ nbk) := fun nbk e => by
                rcases hbb with rfl | rfl
                · exact HN5.out nbk e
                · rw [hnb] at e
                  injection e with e
                  injection e with e
                  simp
                  omega
              clear hq' hgr hbb
              go_wp2
              rw [← hnb]
              go_roundg (L.length - (m + 1))
              case measure => omega
              case rel => exact ⟨m + 1, S1.set j true, T1 ++ [j], b', off', cap', by go_num, by rw [List.length_append]; rfl, by omega, Nat.le_refl _, HS7, HF6, HA6, HD6, HO7, HN7, HM6⟩
          · have hltz : ¬ (m : Int) < (L.length : Int) := by omega
            have HSh : Aside (g.Bfs k S1 T1 (fun _ => False)) := Gr.bfs_shut HF5.out fun x hx => by
              obtain ⟨m', h1, h2⟩ := HML.out x (by rw [← HLQ.out]; exact hx)
              exact HD5.out m' x (by omega) h2
            have hM5 := HM5.out
            have htd := HS5.out.td
            simp only [List.length_cons] at htd
            have htn := htd.nc
            by_cases hc1 : tc1 = 1
            · subst hc1
              obtain rfl : T1 = [] := List.eq_nil_of_length_eq_zero (by omega)
              have HP5 : Aside (ReSt w3 g.n w3.heap.size S1 tb1 to1 0 [] wr) := ⟨HS5.out.bel, HS5.out.sn, OwnQ.pop0 htd⟩
              clear htd HF5 HD5
              go_wp2
              go_roundg (2 * uns S1 + 0)
              case measure => simp at hM5; omega
              case rel => exact ⟨S1, [], tb1, to1, 0, rfl, HP5, HSh, Nat.le_refl _, by simp at hM5; omega⟩
            · have HP5 : Aside (ReSt w3 g.n w3.heap.size S1 tb1 (to1 + 1) (tc1 - 1) T1 wr) := ⟨HS5.out.bel, HS5.out.sn, OwnQ.pop htd⟩
              clear htd HF5 HD5
              go_wp2
              go_roundg (2 * uns S1 + T1.length)
              case measure => omega
              case rel => exact ⟨S1, T1, tb1, to1 + 1, tc1 - 1, rfl, HP5, HSh, Nat.le_refl _, by omega⟩

theorem gridReach_walk (g : Gr) (p : Ad) (i : Int) (w : World) (_hl : g.lenOk) (hR : RG w g p) (_hp : p.nz) (_hi0 : -9223372036854775808 ≤ i) (_hi1 : i ≤ 9223372036854775807) (hw : Wy w) :
    Calls Tryd.prog 7 #[gv g p, .int .i64 i] w fun e w' => e = .returned (.bool true) ∧ Below w.heap.size w w' := by
  cases ho : g.opI i with
  | true =>
    obtain ⟨hok, k, rfl, hk⟩ := Gr.opI_iff.1 ho
    exact gridReach_open g p hok k hk w hw hR
  | false => exact gridReach_shut g p i ho w hw hR
end Go.Proofs.YtaepndaboefbeaaDoor.Grd
