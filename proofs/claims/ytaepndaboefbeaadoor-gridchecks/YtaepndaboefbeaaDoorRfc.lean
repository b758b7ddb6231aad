/-
  The document's Count, of any grid.
-/
import Derived.Test.YtaepndaboefbeaaDoorRfb
import Derived.Test.YtaepndaboefbeaaDoorGrdj
namespace Go.Proofs.YtaepndaboefbeaaDoor.Grd
open Go Go.Lib Go.RowKit

/-- How many of the first cells are open. -/
def Gr.cntK (g : Gr) (k : Nat) : Nat := if g.ok then uns (g.B.take k) else 0
theorem Gr.cntK_succ {g : Gr} {k : Nat} (hk : k < g.B.length) : g.cntK (k + 1) = g.cntK k + (if g.opI (k : Int) then 1 else 0) := by
  unfold Gr.cntK
  by_cases h : g.ok
  · rw [if_pos h, if_pos h, uns_take hk]
    have e : g.opI (k : Int) = !bt g.B k := by
      unfold Gr.opI
      rw [decide_eq_true h, Bool.true_and, decide_eq_true ⟨by omega, by omega⟩, Bool.true_and, Int.toNat_natCast]
    rw [e]
    cases bt g.B k <;> rfl
  · rw [if_neg h, if_neg h]
    have e : g.opI (k : Int) = false := by
      unfold Gr.opI
      rw [decide_eq_false h, Bool.false_and]
    rw [e]
    rfl
theorem Gr.cntK_le (g : Gr) (k : Nat) : g.cntK k ≤ k := by
  unfold Gr.cntK
  by_cases h : g.ok
  · rw [if_pos h]
    exact Nat.le_trans (uns_le _) (by rw [List.length_take]; exact Nat.min_le_left _ _)
  · rw [if_neg h]
    exact Nat.zero_le _
theorem Gr.cntK_end (g : Gr) : g.cntK g.B.length = g.cnt := by
  unfold Gr.cntK Gr.cnt
  rw [List.take_length]

set_option maxHeartbeats 1000000 in
theorem refCount_any (g : Gr) (p : Ad) (w : World) (hl : g.lenOk) (hR : RG w g p) :
    Calls Tryd.prog 16 #[gv g p] w fun e w' => e = .returned (.int .i64 (g.cnt : Nat)) ∧ Below w.heap.size w w' := by
  have HO : Aside (∀ W i, Below w.heap.size w W → Calls Tryd.prog 14 #[gv g p, .int .i64 i] W fun e w' => e = .returned (.bool (g.opI i)) ∧ Below W.heap.size W w') := fun W i h => refOpen_any g p i W (hR.below h)
  have hl1 := hl.1
  have HE : Aside (g.cntK g.B.length = g.cnt) := g.cntK_end
  have hc0 : g.cntK 0 = 0 := by have := g.cntK_le 0; omega
  unfold gv at HO
  unfold gv
  clear hR hl
  go_enter Tryd.func16, Tryd.ntmps16
  go_wp2
  have HX := Bx.new w g p 24
  have HBe : Aside (Below w.heap.size w (w.alloc (.cells #[.int .i64 g.h, .int .i64 g.w, .slice p.a1 g.B.length p.c1, .slice p.a2 g.R.length p.c2, .slice p.a3 g.D.length p.c3] 24))) := below_box w _
  generalize w.alloc (.cells #[.int .i64 g.h, .int .i64 g.w, .slice p.a1 g.B.length p.c1, .slice p.a2 g.R.length p.c2, .slice p.a3 g.D.length p.c3] 24) = w1 at *
  have HX1 : Aside (Bx w1 w.heap.size g p) := HX
  clear HX
  go_loopg [3, 4] g.B.length (fun g1 nv iv wr => ∃ k : Nat, iv = .int .i64 (k : Int) ∧ nv = .int .i64 (g.cntK k : Nat) ∧ k ≤ g.B.length ∧ g.B.length - k ≤ g1 ∧ Aside (Below w1.heap.size w1 wr))
  case atStart => exact ⟨0, rfl, by rw [hc0]; rfl, Nat.zero_le _, Nat.le_refl _, Below.refl _ _⟩
  case round =>
    obtain ⟨k, rfl, rfl, hk, hg, HBk⟩ := hrel
    have HBw : Aside (Below w.heap.size w wr) := HBe.out.trans (HBk.out.mono HBe.out.size)
    obtain ⟨_, k0, k1, k2, k3, k4⟩ := HX1.out.keep HBk.out
    by_cases hlt : k < g.B.length
    · have hltz : (k : Int) < (g.B.length : Int) := by omega
      have cO := HO.out wr (k : Int) HBw.out
      have HS : Aside (g.cntK (k + 1) = g.cntK k + (if g.opI (k : Int) then 1 else 0)) := Gr.cntK_succ hlt
      have hcl := g.cntK_le k
      generalize g.cntK k = u at *
      generalize g.opI (k : Int) = x at *
      go_wp2_with fail
      refine cO.mono ?_
      rintro e w4 ⟨rfl, hb4⟩
      have HB4 : Aside (Below w1.heap.size w1 w4) := HBk.out.trans (hb4.mono HBk.out.size)
      clear cO hb4
      cases x with
      | true =>
        go_wp2
        go_roundg (g.B.length - (k + 1))
        case measure => omega
        case rel => exact ⟨k + 1, by go_num, by rw [HS.out]; first | go_num | rfl, by omega, Nat.le_refl _, HB4⟩
      | false =>
        go_wp2
        go_roundg (g.B.length - (k + 1))
        case measure => omega
        case rel => exact ⟨k + 1, by go_num, by rw [HS.out]; first | go_num | rfl, by omega, Nat.le_refl _, HB4⟩
    · have hltz : ¬ (k : Int) < (g.B.length : Int) := by omega
      obtain rfl : k = g.B.length := by omega
      rw [HE.out]
      go_wp2
      go_ret
      exact ⟨rfl, HBw.out⟩
end Go.Proofs.YtaepndaboefbeaaDoor.Grd
