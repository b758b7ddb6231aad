/-
  GridBlanks walked: Blank of any sides.
-/
import Derived.Test.YtaepndaboefbeaaDoorGrdq
import Derived.Test.YtaepndaboefbeaaDoorGrdx
import Derived.Test.YtaepndaboefbeaaDoorGrdj
import Derived.Test.YtaepndaboefbeaaDoorGrdo
namespace Go.Proofs.YtaepndaboefbeaaDoor.Grd
open Go Go.Lib Go.RowKit

def zeroGr : Gr := ⟨0, 0, [], [], []⟩
theorem uns_rep (n : Nat) : uns (List.replicate n false) = n := by
  unfold uns
  rw [List.filter_eq_self.2 (fun x hx => by rw [List.eq_of_mem_replicate hx]; rfl), List.length_replicate]

theorem rep0 {n : Nat} (h : 1 ≤ n) : (cellsB (List.replicate n false))[0]? = some (.bool false) := by
  obtain ⟨k, rfl⟩ : ∃ k, n = k + 1 := ⟨n - 1, by omega⟩
  rfl

set_option maxRecDepth 100000 in
set_option maxHeartbeats 2000000 in
theorem gridBlanks_bad (h v : Int) (w : World) (hb : ¬ (sideOk h ∧ sideOk v)) (hw : Wy w) :
    Calls Tryd.prog 8 #[.int .i64 h, .int .i64 v] w fun e w' => e = .returned (.bool true) ∧ Below w.heap.size w w' := by
  have cA := awake_any w hw
  have HB : Aside (∀ W, Calls Tryd.prog 27 #[.int .i64 h, .int .i64 v] W fun e w' => e = .returned (.tuple #[zeroG, .int .i64 50]) ∧ Below W.heap.size W w') := fun W => blank_bad h v W hb
  have HC : Aside (∀ W, Calls Tryd.prog 28 #[.int .i64 h, .int .i64 v] W fun e w' => e = .returned (.tuple #[zeroG, .int .i64 50]) ∧ Below W.heap.size W w') := fun W => refBlank_bad h v W hb
  have HS : Aside (∀ W, Calls Tryd.prog 18 #[zeroG, zeroG] W fun e w' => e = .returned (.bool true) ∧ Below W.heap.size W w') := fun W => by
    have := refSame_any zeroGr zeroGr ⟨none, 0, none, 0, none, 0⟩ ⟨none, 0, none, 0, none, 0⟩ W ⟨Nat.zero_le _, Nat.zero_le _, Nat.zero_le _⟩ ⟨fun i hi => absurd hi (Nat.not_lt_zero i), fun i hi => absurd hi (Nat.not_lt_zero i), fun i hi => absurd hi (Nat.not_lt_zero i)⟩ ⟨fun i hi => absurd hi (Nat.not_lt_zero i), fun i hi => absurd hi (Nat.not_lt_zero i), fun i hi => absurd hi (Nat.not_lt_zero i)⟩
    rw [Gr.same_refl] at this
    exact this
  unfold zeroG at HB HC HS
  clear hb
  go_enter Tryd.func8, Tryd.ntmps8
  go_wp2_with fail
  refine cA.mono ?_
  rintro e w1 ⟨rfl, hb1⟩
  have HB1 : Aside (Below w.heap.size w w1) := hb1
  clear cA hb1
  go_wp2_with fail
  refine (HB.out w1).mono ?_
  rintro e w2 ⟨rfl, hb2⟩
  have HB2 : Aside (Below w.heap.size w w2) := HB1.out.trans (hb2.mono HB1.out.size)
  clear hb2
  go_wp2_with fail
  have HX2 : Aside (Bx (w2.alloc (.cells #[.int .i64 0, .int .i64 0, .slice none 0 0, .slice none 0 0, .slice none 0 0] 24)) w2.heap.size zeroGr ⟨none, 0, none, 0, none, 0⟩) := Bx.new w2 zeroGr ⟨none, 0, none, 0, none, 0⟩ _
  have HB3 : Aside (Below w.heap.size w (w2.alloc (.cells #[.int .i64 0, .int .i64 0, .slice none 0 0, .slice none 0 0, .slice none 0 0] 24))) := HB2.out.alloc HB2.out.size _
  refine (HC.out _).mono ?_
  rintro e w3 ⟨rfl, hb3⟩
  have HX3 : Aside (Bx w3 w2.heap.size zeroGr ⟨none, 0, none, 0, none, 0⟩) := HX2.out.keep hb3
  have HB4 : Aside (Below w.heap.size w w3) := HB3.out.trans (hb3.mono HB3.out.size)
  obtain ⟨hlt, k0, k1, k2, k3, k4⟩ := HX3.out
  simp only [zeroGr, List.length_nil] at k0 k1 k2 k3 k4
  clear hb3 HX2 HB3
  go_wp2_with fail
  refine (HS.out _).mono ?_
  rintro e w4 ⟨rfl, hb4⟩
  have HB5 : Aside (Below w.heap.size w w4) := (HB4.out.alloc HB4.out.size _).trans (hb4.mono (HB4.out.alloc HB4.out.size _).size)
  clear hb4
  go_wp2
  go_ret
  exact ⟨rfl, HB5.out⟩

/-- A blank grid whose first cell is a block. -/
def blankG1 (h v : Nat) : Gr := ⟨h, v, (List.replicate (h * v) false).set 0 true, List.replicate (h * v) false, List.replicate (h * v) false⟩
theorem blankG1_ok {h v : Nat} (h1 : 1 ≤ h ∧ h ≤ 16) (h2 : 1 ≤ v ∧ v ≤ 16) : (blankG1 h v).ok := by
  have hn : (blankG1 h v).n = h * v := by simp [blankG1, Gr.n, Gr.H, Gr.W]
  refine Gr.chk_ok ⟨⟨?_, ?_⟩, ?_, ?_⟩ ⟨?_, ?_, ?_⟩ ?_
  · show (1 : Int) ≤ (h : Int); omega
  · show (h : Int) ≤ 16; omega
  · show (1 : Int) ≤ (v : Int); omega
  · show (v : Int) ≤ 16; omega
  · rw [hn]; simp [blankG1]
  · rw [hn]; simp [blankG1]
  · rw [hn]; simp [blankG1]
  · rintro ⟨i, _, hb | hb⟩
    · have := hb.1; rw [show (blankG1 h v).R = List.replicate (h * v) false from rfl, bt_rep] at this; cases this
    · have := hb.1; rw [show (blankG1 h v).D = List.replicate (h * v) false from rfl, bt_rep] at this; cases this

set_option maxRecDepth 100000 in
set_option maxHeartbeats 4000000 in
theorem gridBlanks_ok (h v : Nat) (w : World) (h1 : 1 ≤ h ∧ h ≤ 16) (h2 : 1 ≤ v ∧ v ≤ 16) (hw : Wy w) :
    Calls Tryd.prog 8 #[.int .i64 h, .int .i64 v] w fun e w' => e = .returned (.bool true) ∧ Below w.heap.size w w' := by
  have cA := awake_any w hw
  have HW : Aside (∀ W, Below w.heap.size w W → Wy W) := fun W h => hw.below hw.size h
  have HB : Aside (∀ W : World, Calls Tryd.prog 27 #[.int .i64 h, .int .i64 v] W fun e w' => ∃ g1 g2 g3, e = .returned (.tuple #[.agg #[.int .i64 h, .int .i64 v, .slice (some ⟨g1, 0, none⟩) (h * v) (h * v), .slice (some ⟨g2, 0, none⟩) (h * v) (h * v), .slice (some ⟨g3, 0, none⟩) (h * v) (h * v)], .int .i64 0]) ∧ MadeG W.heap.size w' (h * v) g1 g2 g3 (List.replicate (h * v) false) (List.replicate (h * v) false) (List.replicate (h * v) false) ∧ Below W.heap.size W w') := fun W => blank_ok h v W h1 h2
  have HC : Aside (∀ W : World, Calls Tryd.prog 28 #[.int .i64 h, .int .i64 v] W fun e w' => ∃ g1 g2 g3, e = .returned (.tuple #[.agg #[.int .i64 h, .int .i64 v, .slice (some ⟨g1, 0, none⟩) (h * v) (h * v), .slice (some ⟨g2, 0, none⟩) (h * v) (h * v), .slice (some ⟨g3, 0, none⟩) (h * v) (h * v)], .int .i64 0]) ∧ MadeG W.heap.size w' (h * v) g1 g2 g3 (List.replicate (h * v) false) (List.replicate (h * v) false) (List.replicate (h * v) false) ∧ Below W.heap.size W w') := fun W => refBlank_ok h v W h1 h2
  have hnl : h * v ≤ 256 := Nat.mul_le_mul h1.2 h2.2
  have hn1 : 1 ≤ h * v := Nat.mul_le_mul h1.1 h2.1
  have hmul : (h : Int) * (v : Int) = ((h * v : Nat) : Int) := (Int.natCast_mul _ _).symm
  have HSa : Aside (∀ (W : World) (B B' a1 a2 a3 b1 b2 b3 : Nat), MadeG B W (h * v) a1 a2 a3 (List.replicate (h * v) false) (List.replicate (h * v) false) (List.replicate (h * v) false) → MadeG B' W (h * v) b1 b2 b3 (List.replicate (h * v) false) (List.replicate (h * v) false) (List.replicate (h * v) false) → Calls Tryd.prog 18 #[.agg #[.int .i64 h, .int .i64 v, .slice (some ⟨a1, 0, none⟩) (h * v) (h * v), .slice (some ⟨a2, 0, none⟩) (h * v) (h * v), .slice (some ⟨a3, 0, none⟩) (h * v) (h * v)], .agg #[.int .i64 h, .int .i64 v, .slice (some ⟨b1, 0, none⟩) (h * v) (h * v), .slice (some ⟨b2, 0, none⟩) (h * v) (h * v), .slice (some ⟨b3, 0, none⟩) (h * v) (h * v)]] W fun e w' => e = .returned (.bool true) ∧ Below W.heap.size W w') := fun W B B' a1 a2 a3 b1 b2 b3 m1 m2 => by
    have := refSame_any (blankG h v) (blankG h v) ⟨some ⟨a1, 0, none⟩, h * v, some ⟨a2, 0, none⟩, h * v, some ⟨a3, 0, none⟩, h * v⟩ ⟨some ⟨b1, 0, none⟩, h * v, some ⟨b2, 0, none⟩, h * v, some ⟨b3, 0, none⟩, h * v⟩ W ⟨by simp [blankG]; omega, by simp [blankG]; omega, by simp [blankG]; omega⟩ (MadeG.rg (g := blankG h v) m1) (MadeG.rg (g := blankG h v) m2)
    rw [Gr.same_refl] at this
    unfold gv blankG at this
    simpa using this
  have HCw : Aside (∀ (W : World) (B a1 a2 a3 : Nat), Below w.heap.size w W → MadeG B W (h * v) a1 a2 a3 (List.replicate (h * v) false) (List.replicate (h * v) false) (List.replicate (h * v) false) → Calls Tryd.prog 15 #[.agg #[.int .i64 h, .int .i64 v, .slice (some ⟨a1, 0, none⟩) (h * v) (h * v), .slice (some ⟨a2, 0, none⟩) (h * v) (h * v), .slice (some ⟨a3, 0, none⟩) (h * v) (h * v)]] W fun e w' => e = .returned (.int .i64 ((h * v : Nat) : Int)) ∧ Below W.heap.size W w') := fun W B a1 a2 a3 hb m1 => by
    have := count_any (blankG h v) ⟨some ⟨a1, 0, none⟩, h * v, some ⟨a2, 0, none⟩, h * v, some ⟨a3, 0, none⟩, h * v⟩ W (HW.out W hb) (MadeG.rg (g := blankG h v) m1)
    rw [show (blankG h v).cnt = h * v by unfold Gr.cnt; rw [if_pos (blankG_ok h1 h2)]; exact uns_rep _] at this
    unfold gv blankG at this
    simpa using this
  have HCg : Aside (∀ (W : World) (B a1 a2 a3 : Nat), Below w.heap.size w W → MadeG B W (h * v) a1 a2 a3 ((List.replicate (h * v) false).set 0 true) (List.replicate (h * v) false) (List.replicate (h * v) false) → Calls Tryd.prog 15 #[.agg #[.int .i64 h, .int .i64 v, .slice (some ⟨a1, 0, none⟩) (h * v) (h * v), .slice (some ⟨a2, 0, none⟩) (h * v) (h * v), .slice (some ⟨a3, 0, none⟩) (h * v) (h * v)]] W fun e w' => e = .returned (.int .i64 ((h * v - 1 : Nat) : Int)) ∧ Below W.heap.size W w') := fun W B a1 a2 a3 hb m1 => by
    have := count_any (blankG1 h v) ⟨some ⟨a1, 0, none⟩, h * v, some ⟨a2, 0, none⟩, h * v, some ⟨a3, 0, none⟩, h * v⟩ W (HW.out W hb) (MadeG.rg (g := blankG1 h v) m1)
    rw [show (blankG1 h v).cnt = h * v - 1 by
      unfold Gr.cnt
      rw [if_pos (blankG1_ok h1 h2)]
      have := uns_set (l := List.replicate (h * v) false) (b := 0) (by rw [List.getElem?_replicate, if_pos (by omega)])
      rw [uns_rep] at this
      show uns ((List.replicate (h * v) false).set 0 true) = _
      omega] at this
    unfold gv blankG1 at this
    simpa using this
  clear hw
  have hnm : ((h * v - 1 : Nat) : Int) = ((h * v : Nat) : Int) - 1 := by omega
  obtain ⟨n, hnn⟩ : ∃ n, h * v = n := ⟨_, rfl⟩
  rw [hnn] at HB HC HSa HCw HCg hnl hn1 hmul hnm
  clear hnn
  go_enter Tryd.func8, Tryd.ntmps8
  go_wp2_with fail
  refine cA.mono ?_
  rintro e w1 ⟨rfl, hb1⟩
  have HB1 : Aside (Below w.heap.size w w1) := hb1
  clear cA hb1
  go_wp2_with fail
  refine (HB.out w1).mono ?_
  rintro e w2 ⟨a1, a2, a3, rfl, hm2, hb2⟩
  have HB2 : Aside (Below w.heap.size w w2) := HB1.out.trans (hb2.mono HB1.out.size)
  have HM2 : Aside (MadeG w1.heap.size w2 n a1 a2 a3 (List.replicate n false) (List.replicate n false) (List.replicate n false)) := hm2
  have hla : a1 < w2.heap.size := (hm2.r1.lt a1 rfl).2
  have hlw : w.heap.size ≤ a1 := Nat.le_trans HB1.out.size (hm2.r1.lt a1 rfl).1
  clear hb2 hm2
  go_wp2_with fail
  have HX2 : Aside (Five (w2.alloc (.cells #[.int .i64 h, .int .i64 v, .slice (some ⟨a1, 0, none⟩) n n, .slice (some ⟨a2, 0, none⟩) n n, .slice (some ⟨a3, 0, none⟩) n n] 24)) w2.heap.size (.int .i64 h) (.int .i64 v) (.slice (some ⟨a1, 0, none⟩) n n) (.slice (some ⟨a2, 0, none⟩) n n) (.slice (some ⟨a3, 0, none⟩) n n)) := ⟨hp_new w2 _⟩
  have HB3 : Aside (Below w.heap.size w (w2.alloc (.cells #[.int .i64 h, .int .i64 v, .slice (some ⟨a1, 0, none⟩) n n, .slice (some ⟨a2, 0, none⟩) n n, .slice (some ⟨a3, 0, none⟩) n n] 24))) := HB2.out.alloc HB2.out.size _
  have HM3 : Aside (MadeG w1.heap.size (w2.alloc (.cells #[.int .i64 h, .int .i64 v, .slice (some ⟨a1, 0, none⟩) n n, .slice (some ⟨a2, 0, none⟩) n n, .slice (some ⟨a3, 0, none⟩) n n] 24)) n a1 a2 a3 (List.replicate n false) (List.replicate n false) (List.replicate n false)) := HM2.out.below (below_box _ _)
  refine (HC.out _).mono ?_
  rintro e w3 ⟨b1, b2, b3, rfl, hm3, hb3⟩
  have HF3 : Aside (Five w3 w2.heap.size (.int .i64 h) (.int .i64 v) (.slice (some ⟨a1, 0, none⟩) n n) (.slice (some ⟨a2, 0, none⟩) n n) (.slice (some ⟨a3, 0, none⟩) n n)) := HX2.out.keep hb3
  have HB4 : Aside (Below w.heap.size w w3) := HB3.out.trans (hb3.mono HB3.out.size)
  have HMa : Aside (MadeG w1.heap.size w3 n a1 a2 a3 (List.replicate n false) (List.replicate n false) (List.replicate n false)) := HM3.out.below hb3
  have HMb : Aside (MadeG (w2.heap.size + 1) w3 n b1 b2 b3 (List.replicate n false) (List.replicate n false) (List.replicate n false)) := by
    show MadeG _ _ _ _ _ _ _ _ _
    rw [World.size_alloc] at hm3
    exact hm3
  have hl3 := HF3.out.lt
  have k0 := HF3.out.c0
  have k1 := HF3.out.c1
  have k2 := HF3.out.c2
  have k3 := HF3.out.c3
  have k4 := HF3.out.c4
  clear hb3 hm3 HX2 HB3 HM3 HM2
  go_wp2_with fail
  have HFw : Aside (Five (w3.alloc (.cells #[.int .i64 h, .int .i64 v, .slice (some ⟨b1, 0, none⟩) n n, .slice (some ⟨b2, 0, none⟩) n n, .slice (some ⟨b3, 0, none⟩) n n] 24)) w3.heap.size (.int .i64 h) (.int .i64 v) (.slice (some ⟨b1, 0, none⟩) n n) (.slice (some ⟨b2, 0, none⟩) n n) (.slice (some ⟨b3, 0, none⟩) n n)) := ⟨hp_new w3 _⟩
  have hbx := below_box w3 (.cells #[.int .i64 h, .int .i64 v, .slice (some ⟨b1, 0, none⟩) n n, .slice (some ⟨b2, 0, none⟩) n n, .slice (some ⟨b3, 0, none⟩) n n] 24)
  refine (HSa.out _ w1.heap.size (w2.heap.size + 1) a1 a2 a3 b1 b2 b3 (HMa.out.below hbx) (HMb.out.below hbx)).mono ?_
  rintro e w4 ⟨rfl, hb4⟩
  have hF4 := (HF3.out.keep hbx).keep hb4
  have hG4 := HFw.out.keep hb4
  have hA4 := (HMa.out.below hbx).below hb4
  have hM4 := (HMb.out.below hbx).below hb4
  have hB4 : Below w.heap.size w w4 := (HB4.out.trans (hbx.mono HB4.out.size)).trans (hb4.mono (HB4.out.trans (hbx.mono HB4.out.size)).size)
  clear k0 k1 k2 k3 k4 hbx hb4 HF3 HFw HMa HMb HB4
  have ea : w4.cell? ⟨a1, 0, none⟩ = some (.bool false) := by
    rw [hA4.r1.cellAt 0 (by omega)]
    exact rep0 hn1
  have fa := hA4.r1.frozenAt 0
  have e2 : w4.cell? ⟨a2, 0, none⟩ = some (.bool false) := by
    rw [hA4.r2.cellAt 0 (by omega)]
    exact rep0 hn1
  have e3 : w4.cell? ⟨a3, 0, none⟩ = some (.bool false) := by
    rw [hA4.r3.cellAt 0 (by omega)]
    exact rep0 hn1
  have n12 : ¬ a2 = a1 := fun e => hA4.n12 e.symm
  have n13 : ¬ a3 = a1 := fun e => hA4.n13 e.symm
  have nw3 : ¬ w3.heap.size = a1 := by omega
  have m0 := hG4.c0
  have m1 := hG4.c1
  have m2 := hG4.c2
  have m3 := hG4.c3
  have m4 := hG4.c4
  have k0 := hF4.c0
  have k1 := hF4.c1
  have k2 := hF4.c2
  have k3 := hF4.c3
  have k4 := hF4.c4
  have hne : ∀ c, w2.heap.size ≤ c → ¬ c = a1 := fun c hc e => by omega
  have HF5 : Aside (Five (w4.setCell ⟨a1, 0, none⟩ (.bool true)) w2.heap.size (.int .i64 h) (.int .i64 v) (.slice (some ⟨a1, 0, none⟩) n n) (.slice (some ⟨a2, 0, none⟩) n n) (.slice (some ⟨a3, 0, none⟩) n n)) := hF4.other (hne _ (Nat.le_refl _))
  have HG5 : Aside (Five (w4.setCell ⟨a1, 0, none⟩ (.bool true)) w3.heap.size (.int .i64 h) (.int .i64 v) (.slice (some ⟨b1, 0, none⟩) n n) (.slice (some ⟨b2, 0, none⟩) n n) (.slice (some ⟨b3, 0, none⟩) n n)) := hG4.other (hne _ (by omega))
  have hgr := set_grown w4 a1 0 (.bool true)
  have kp : ∀ (B c : Nat), c ≠ a1 → w4.ownsRow B 4 1 (.slice (some ⟨c, 0, none⟩) n n) n (cellsB (List.replicate n false)) → (w4.setCell ⟨a1, 0, none⟩ (.bool true)).ownsRow B 4 1 (.slice (some ⟨c, 0, none⟩) n n) n (cellsB (List.replicate n false)) := fun B c hc ho => ho.kept hgr (.inr fun e => hc (Option.some.inj e))
  have HA5 : Aside (MadeG w1.heap.size (w4.setCell ⟨a1, 0, none⟩ (.bool true)) n a1 a2 a3 ((List.replicate n false).set 0 true) (List.replicate n false) (List.replicate n false)) := ⟨hA4.n12, hA4.n13, hA4.n23, by
    have := (hA4.r1.stored 0 (.bool true)).1
    rwa [show (cellsB (List.replicate n false)).set 0 (.bool true) = cellsB ((List.replicate n false).set 0 true) by simp [cellsB]] at this, kp _ _ (fun e => hA4.n12 e.symm) hA4.r2, kp _ _ (fun e => hA4.n13 e.symm) hA4.r3⟩
  have HM5 : Aside (MadeG (w2.heap.size + 1) (w4.setCell ⟨a1, 0, none⟩ (.bool true)) n b1 b2 b3 (List.replicate n false) (List.replicate n false) (List.replicate n false)) := ⟨hM4.n12, hM4.n13, hM4.n23, kp _ _ (hne _ (by have := (hM4.r1.lt b1 rfl).1; omega)) hM4.r1, kp _ _ (hne _ (by have := (hM4.r2.lt b2 rfl).1; omega)) hM4.r2, kp _ _ (hne _ (by have := (hM4.r3.lt b3 rfl).1; omega)) hM4.r3⟩
  have HB5 : Aside (Below w.heap.size w (w4.setCell ⟨a1, 0, none⟩ (.bool true))) := Below.setIn hB4 hlw hB4.size
  clear hF4 hG4 hA4 hM4 hB4 hgr kp hne
  have nw2 : ¬ w2.heap.size = a1 := by omega
  go_wp2_with fail
  refine (HCw.out _ _ b1 b2 b3 HB5.out HM5.out).mono ?_
  rintro e w6 ⟨rfl, hb6⟩
  have HB6 : Aside (Below w.heap.size w w6) := HB5.out.trans (hb6.mono HB5.out.size)
  have hF6 := HF5.out.keep hb6
  have HA6 : Aside (MadeG w1.heap.size w6 n a1 a2 a3 ((List.replicate n false).set 0 true) (List.replicate n false) (List.replicate n false)) := HA5.out.below hb6
  clear k0 k1 k2 k3 k4 m0 m1 m2 m3 m4 ea e2 e3 fa hb6
  have k0 := hF6.c0
  have k1 := hF6.c1
  have k2 := hF6.c2
  have k3 := hF6.c3
  have k4 := hF6.c4
  go_wp2_with fail
  refine (HCg.out _ _ a1 a2 a3 HB6.out HA6.out).mono ?_
  rintro e w7 ⟨rfl, hb7⟩
  have HB7 : Aside (Below w.heap.size w w7) := HB6.out.trans (hb7.mono HB6.out.size)
  clear hb7
  go_wp2
  go_ret
  exact ⟨rfl, HB7.out⟩

theorem gridBlanks_walk (h v : Int) (w : World) (_h0 : -9223372036854775808 ≤ h) (_h1 : h ≤ 9223372036854775807) (_v0 : -9223372036854775808 ≤ v) (_v1 : v ≤ 9223372036854775807) (hw : Wy w) :
    Calls Tryd.prog 8 #[.int .i64 h, .int .i64 v] w fun e w' => e = .returned (.bool true) ∧ Below w.heap.size w w' := by
  by_cases hb : sideOk h ∧ sideOk v
  · obtain ⟨⟨a, b⟩, c, d⟩ := hb
    obtain ⟨hh, rfl⟩ := Int.eq_ofNat_of_zero_le (show 0 ≤ h by omega)
    obtain ⟨vv, rfl⟩ := Int.eq_ofNat_of_zero_le (show 0 ≤ v by omega)
    exact gridBlanks_ok hh vv w (by omega) (by omega) hw
  · exact gridBlanks_bad h v w hb hw
end Go.Proofs.YtaepndaboefbeaaDoor.Grd
