/-
  The package of the whole: a blank grid; the symmetries of anything, and where a cell goes, as contracts.
-/
import Derived.Test.YthjgldjjplcncabDoorWsmq
import Derived.Test.YthjgldjjplcncabDoorGsf
import Derived.Test.YthjgldjjplcncabDoorTrntq
import Derived.Test.YthjgldjjplcncabDoorTrndq
import Derived.Test.YthjgldjjplcncabDoorGrdqq
import Derived.Test.YthjgldjjplcncabDoorGrdyq
import Derived.Test.YthjgldjjplcncabDoorTrnrq
namespace Go.Proofs.YthjgldjjplcncabDoor.Grd
open Go Go.Lib Go.RowKit

set_option maxHeartbeats 1000000 in
theorem topBlank (h v : Nat) (h1 : 1 ≤ h ∧ h ≤ 16) (h2 : 1 ≤ v ∧ v ≤ 16) (w : World) :
    Calls Tryd.prog 6 #[.int .i64 h, .int .i64 v] w fun e w' => ∃ p, e = .returned (gv (blankG h v) p) ∧ RG w' (blankG h v) p ∧ Below w.heap.size w w' := by
  have cB := refBlank_ok h v (w.alloc (.cells #[.int .i64 0, .int .i64 0, .slice none 0 0, .slice none 0 0, .slice none 0 0] 27)) h1 h2
  have HF0 : Aside (Five (w.alloc (.cells #[.int .i64 0, .int .i64 0, .slice none 0 0, .slice none 0 0, .slice none 0 0] 27)) w.heap.size (.int .i64 0) (.int .i64 0) (.slice none 0 0) (.slice none 0 0) (.slice none 0 0)) := ⟨heap_alloc_new w _⟩
  have HG : Aside (∀ g1 g2 g3, gv (blankG h v) ⟨some ⟨g1, 0, none⟩, h * v, some ⟨g2, 0, none⟩, h * v, some ⟨g3, 0, none⟩, h * v⟩ = .agg #[.int .i64 h, .int .i64 v, .slice (some ⟨g1, 0, none⟩) (h * v) (h * v), .slice (some ⟨g2, 0, none⟩) (h * v) (h * v), .slice (some ⟨g3, 0, none⟩) (h * v) (h * v)]) := fun g1 g2 g3 => by simp [gv, blankG]
  have HM : Aside (∀ W B g1 g2 g3, MadeG B W (h * v) g1 g2 g3 (List.replicate (h * v) false) (List.replicate (h * v) false) (List.replicate (h * v) false) → RG W (blankG h v) ⟨some ⟨g1, 0, none⟩, h * v, some ⟨g2, 0, none⟩, h * v, some ⟨g3, 0, none⟩, h * v⟩) := fun W B g1 g2 g3 hM => MadeG.rgy (g := blankG h v) hM
  clear h1 h2
  generalize blankG h v = G at *
  generalize h * v = n at *
  go_enter Tryd.func6, Tryd.ntmps6
  go_wp2_with fail
  refine cB.mono ?_
  rintro e w1 ⟨g1, g2, g3, rfl, hM, hb⟩
  have hby := below_box w1 (.cells #[.int .i64 h, .int .i64 v, .slice (some ⟨g1, 0, none⟩) n n, .slice (some ⟨g2, 0, none⟩) n n, .slice (some ⟨g3, 0, none⟩) n n] 27)
  obtain ⟨w2, hw2⟩ : ∃ w2, w2 = w1.alloc (.cells #[.int .i64 h, .int .i64 v, .slice (some ⟨g1, 0, none⟩) n n, .slice (some ⟨g2, 0, none⟩) n n, .slice (some ⟨g3, 0, none⟩) n n] 27) := ⟨_, rfl⟩
  rw [← hw2] at hby
  have hF := (HF0.out.keep hb).keep hby
  have hb1 : Below w.heap.size w w1 := (below_box w _).trans (hb.mono (below_box w _).size)
  have HF : Aside (Five w2 w.heap.size (.int .i64 0) (.int .i64 0) (.slice none 0 0) (.slice none 0 0) (.slice none 0 0) ∧ Below w.heap.size w w2) := ⟨hF, hb1.trans (hby.mono hb1.size)⟩
  have HMM : Aside (MadeG (w.heap.size + 1) w2 n g1 g2 g3 (List.replicate n false) (List.replicate n false) (List.replicate n false)) := by
    rw [World.size_alloc] at hM
    exact hM.dif hby
  have z0 := hF.c0
  have z1 := hF.c1
  have z2 := hF.c2
  have z3 := hF.c3
  have z4 := hF.c4
  have f0 := hF.fr 0
  have f1 := hF.fr 1
  have f2 := hF.fr 2
  have f3 := hF.fr 3
  have f4 := hF.fr 4
  clear cB hF hb hM HF0 hby hb1
  rw [hw2] at z0 z1 z2 z3 z4 f0 f1 f2 f3 f4
  go_wp2
  rw [← hw2]
  have hF5 := HF.out.1.all (.int .i64 h) (.int .i64 v) (.slice (some ⟨g1, 0, none⟩) n n) (.slice (some ⟨g2, 0, none⟩) n n) (.slice (some ⟨g3, 0, none⟩) n n)
  refine bodyPost_ret (results_g rfl _ _ w.heap.size _ _ _ _ _ rfl hF5.c0 hF5.c1 hF5.c2 hF5.c3 hF5.c4) rfl ⟨⟨some ⟨g1, 0, none⟩, n, some ⟨g2, 0, none⟩, n, some ⟨g3, 0, none⟩, n⟩, ?_, ?_, Below.all HF.out.2 (Nat.le_refl _) HF.out.2.size _ _ _ _ _⟩
  · rw [HG.out]
  · refine HM.out _ (w.heap.size + 1) g1 g2 g3 (HMM.out.st5 (b := w.heap.size) ?_ _ _ _ _ _)
    obtain ⟨⟨l1, _⟩, ⟨l2, _⟩, ⟨l3, _⟩⟩ := HMM.out.lo
    exact ⟨by omega, by omega, by omega⟩
theorem Sym_any (g : Gr) (p : Ad) (w : World) (hw : Wy w) (hR : RG w g p) :
    Calls Tryd.prog 14 #[gv g p] w fun e w' => ∃ v, e = .returned v ∧ w'.ownsRow w.heap.size 3 1 v g.syA.length (cellsI (ints g.syA)) ∧ Below w.heap.size w w' := by
  unfold Gr.syA
  by_cases hc : g.ok
  · rw [if_pos hc]
    exact Sym_open g p w hw hR hc
  · rw [if_neg hc]
    refine (Sym_shut g p w hw hR hc).mono ?_
    rintro e w' ⟨rfl, hb⟩
    exact ⟨_, rfl, World.ownsRow_nil _ _ _ _, hb⟩
theorem place_of (g : Gr) (hok : g.ok) {i k : Nat} (hi : i < g.n) (hk : k < 8) (W : World) :
    Calls Tryd.prog 15 #[.int .i64 g.h, .int .i64 g.w, .int .i64 i, .int .i64 k] W fun e W' => e = .returned (.tuple #[.int .i64 (plc g.H g.W i k : Nat), .int .i64 0]) ∧ Below W.heap.size W W' := by
  have hR := Gr.right_of hok
  have e1 : (g.H : Int) = g.h := hR.sh.2.2
  have e2 : (g.W : Int) = g.w := hR.sw.2.2
  have s1 := hR.sh
  have s2 := hR.sw
  have hi' : i < g.H * g.W := hi
  have := Place_any g.h g.w i k W
  rw [← e1, ← e2] at this ⊢
  have e : pAns g.H g.W i k = (((plc g.H g.W i k : Nat) : Int), (0 : Int)) := by
    unfold pAns sideOk
    have hmul : (g.H : Int) * (g.W : Int) = ((g.H * g.W : Nat) : Int) := (Int.natCast_mul _ _).symm
    rw [if_neg (by omega), if_neg (by omega), if_neg (by rw [hmul]; omega)]
    simp only [Int.toNat_natCast]
  rw [e] at this
  exact this
theorem blank22_ok : (blankG 2 2).ok := by
  show (blankG 2 2).chk = 0
  decide +kernel
theorem blank22_sy : ((blankG 2 2).syA).length = 8 := by decide +kernel
end Go.Proofs.YthjgldjjplcncabDoor.Grd
