/-
  The program's Check, Open, Count and Step of any grid.
-/
import Derived.Test.YthjgldjjplcncabDoorGrde
namespace Go.Proofs.YthjgldjjplcncabDoor.Grd
open Go Go.Lib Go.RowKit

theorem check_any (g : Gr) (p : Ad) (w : World) (hw : Wy w) (hR : RG w g p) :
    Calls Tryd.prog 16 #[gv g p] w fun e w' => e = .returned (.int .i64 (g.chk : Nat)) ∧ Below w.heap.size w w' := by
  by_cases h : g.sides
  · by_cases h' : g.sizes
    · exact check_loop g p w hw hR h h'
    · rw [Gr.chk_size h h']; exact check_size g p w h h'
  · rw [Gr.chk_side h]; exact check_side g p w h

/-- Is there an open cell of this number? -/
def Gr.opI (g : Gr) (i : Int) : Bool := decide g.ok && (decide (0 ≤ i ∧ i < (g.B.length : Int)) && !bt g.B i.toNat)
theorem Gr.chk_le (g : Gr) : g.chk ≤ 52 := by
  unfold Gr.chk
  by_cases h : g.sides
  · by_cases h2 : g.sizes
    · by_cases h3 : g.barredB = true <;> simp [h, h2, h3]
    · simp [h, h2]
  · simp [h]
theorem Gr.opI_iff {g : Gr} {i : Int} : g.opI i = true ↔ g.ok ∧ ∃ k : Nat, i = k ∧ g.opn k = true := by
  unfold Gr.opI
  constructor
  · intro h
    simp only [Bool.and_eq_true, decide_eq_true_eq] at h
    obtain ⟨h1, ⟨h2, h3⟩, h4⟩ := h
    obtain ⟨k, rfl⟩ := Int.eq_ofNat_of_zero_le h2
    refine ⟨h1, k, rfl, Gr.opn_iff.2 ⟨?_, by simpa using h4⟩⟩
    have := (Gr.right_of h1).bl
    omega
  · rintro ⟨h1, k, rfl, h⟩
    obtain ⟨h2, h3⟩ := Gr.opn_iff.1 h
    have := (Gr.right_of h1).bl
    simp [h1, h3]
    omega

/-- How many cells are open. -/
def Gr.cnt (g : Gr) : Nat := if g.ok then uns g.B else 0
theorem uns_take {l : List Bool} {k : Nat} (hk : k < l.length) : uns (l.take (k + 1)) = uns (l.take k) + (if bt l k then 0 else 1) := by
  rw [List.take_succ_eq_append_getElem hk, bt_in hk]
  unfold uns
  rw [List.filter_append, List.length_append]
  cases l[k] <;> rfl

set_option maxHeartbeats 1000000 in
theorem count_any (g : Gr) (p : Ad) (w : World) (hw : Wy w) (hR : RG w g p) :
    Calls Tryd.prog 12 #[gv g p] w fun e w' => e = .returned (.int .i64 (g.cnt : Nat)) ∧ Below w.heap.size w w' := by
  have hcl := g.chk_le
  by_cases hc : g.chk = 0
  · have hz := (Gr.right_of hc).sz
    have hn := hz.n_le
    obtain ⟨b1, o1, c1, b2, o2, c2, b3, o3, c3, rfl, hA⟩ := hR.open hz
    have cC := check_any g ⟨some ⟨b1, o1, none⟩, c1, some ⟨b2, o2, none⟩, c2, some ⟨b3, o3, none⟩, c3⟩ (w.alloc (.cells #[.int .i64 g.h, .int .i64 g.w, .slice (some ⟨b1, o1, none⟩) g.B.length c1, .slice (some ⟨b2, o2, none⟩) g.R.length c2, .slice (some ⟨b3, o3, none⟩) g.D.length c3] 27)) (hw.below hw.size (below_box w _)) (hR.below (below_box w _))
    have hcnt : g.cnt = uns g.B := if_pos hc
    rw [hcnt]
    rw [hc] at cC
    unfold gv at cC
    unfold gv
    dsimp only at cC ⊢
    have hBl := hz.bl
    rw [hBl] at cC ⊢
    clear hcl hc hcnt hz
    go_enter Tryd.func12, Tryd.ntmps12
    go_wp2_with fail
    refine cC.mono ?_
    rintro e w1 ⟨rfl, hb1⟩
    have HX := Bx.new w g ⟨some ⟨b1, o1, none⟩, c1, some ⟨b2, o2, none⟩, c2, some ⟨b3, o3, none⟩, c3⟩ 27
    dsimp only at HX
    rw [hBl] at HX
    obtain ⟨_, k0, k1, k2, k3, k4⟩ := HX.keep hb1
    have HB1 : Aside (Below w.heap.size w w1) := (below_box w _).trans (hb1.mono (below_box w _).size)
    dsimp only at k2 k3 k4
    rw [hBl] at k2
    have hA1 := (hA.below HB1.out).e1
    have HBl : Aside (g.B.length = g.n) := hBl
    clear hb1 cC HX hA hBl hR
    go_wp2
    go_loopg [3, 12] g.n (fun g1 nv iv wr => ∃ k : Nat, iv = .int .i64 (k : Int) ∧ nv = .int .i64 (uns (g.B.take k) : Nat) ∧ k ≤ g.n ∧ g.n - k ≤ g1 ∧ wr = w1)
    case atStart => exact ⟨0, rfl, rfl, Nat.zero_le _, Nat.le_refl _, rfl⟩
    case round =>
      obtain ⟨k, rfl, rfl, hk, hg, rfl⟩ := hrel
      by_cases hlt : k < g.n
      · have hltz : (k : Int) < (g.n : Int) := by omega
        have eB := hA1 k hlt
        have HU : Aside (uns (g.B.take (k + 1)) = uns (g.B.take k) + (if bt g.B k then 0 else 1)) := uns_take (by rw [HBl.out]; exact hlt)
        have hul : uns (g.B.take k) ≤ k := Nat.le_trans (uns_le _) (by rw [List.length_take]; omega)
        generalize uns (g.B.take k) = u at *
        generalize bt g.B k = x at *
        clear hA1
        cases x with
        | false =>
          go_wp2
          go_roundg (g.n - (k + 1))
          case measure => omega
          case rel => exact ⟨k + 1, by go_num, by rw [HU.out]; rfl, by omega, Nat.le_refl _, rfl⟩
        | true =>
          go_wp2
          go_roundg (g.n - (k + 1))
          case measure => omega
          case rel => exact ⟨k + 1, by go_num, by rw [HU.out]; rfl, by omega, Nat.le_refl _, rfl⟩
      · have hltz : ¬ (k : Int) < (g.n : Int) := by omega
        have e : g.B.take k = g.B := List.take_of_length_le (by rw [HBl.out]; omega)
        rw [e]
        clear e
        go_wp2
        go_ret
        exact ⟨rfl, HB1.out⟩
  · have cC := check_any g p (w.alloc (.cells #[.int .i64 g.h, .int .i64 g.w, .slice p.a1 g.B.length p.c1, .slice p.a2 g.R.length p.c2, .slice p.a3 g.D.length p.c3] 27)) (hw.below hw.size (below_box w _)) (hR.below (below_box w _))
    have hcnt : g.cnt = 0 := if_neg hc
    rw [hcnt]
    unfold gv at cC
    unfold gv
    have hc2 : ¬ ((g.chk : Nat) : Int) = 0 := by omega
    go_enter Tryd.func12, Tryd.ntmps12
    go_wp2_with fail
    refine cC.mono ?_
    rintro e w1 ⟨rfl, hb1⟩
    have HB1 : Aside (Below w.heap.size w w1) := (below_box w _).trans (hb1.mono (below_box w _).size)
    clear hb1 cC
    go_wp2
    go_ret
    exact ⟨rfl, HB1.out⟩

/-- What Step answers, at any numbers. -/
def Gr.stI (g : Gr) (i way : Int) : Option Nat := if g.opI i = true ∧ 0 ≤ way ∧ way < 4 then g.st i.toNat way.toNat else none

end Go.Proofs.YthjgldjjplcncabDoor.Grd
