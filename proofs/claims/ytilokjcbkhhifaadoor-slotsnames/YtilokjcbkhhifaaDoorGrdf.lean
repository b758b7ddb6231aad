/-
  The program's Check, Open, Count and Step of any grid.
-/
import Derived.Test.YtilokjcbkhhifaaDoorGrde
namespace Go.Proofs.YtilokjcbkhhifaaDoor.Grd
open Go Go.Lib Go.RowKit

theorem check_any (g : Gr) (p : Ad) (w : World) (hw : Wy w) (hR : RG w g p) :
    Calls Tryd.prog 29 #[gv g p] w fun e w' => e = .returned (.int .i64 (g.chk : Nat)) ∧ Below w.heap.size w w' := by
  by_cases h : g.sides
  · by_cases h' : g.sizes
    · exact check_loop g p w hw hR h h'
    · rw [Gr.chk_size h h']; exact check_size g p w h h'
  · rw [Gr.chk_side h]; exact check_side g p w h

/-- Is there an open cell of this number? -/
def Gr.opI (g : Gr) (i : Int) : Bool := decide g.ok && (decide (0 ≤ i ∧ i < (g.B.length : Int)) && !bt g.B i.toNat)
theorem Gr.chk_le (g : Gr) : g.chk ≤ 52 := by
  unfold Gr.chk
  by_cases h : g.sides
  · by_cases h2 : g.sizes
    · by_cases h3 : g.barredB = true <;> simp [h, h2, h3]
    · simp [h, h2]
  · simp [h]
theorem Gr.opI_iff {g : Gr} {i : Int} : g.opI i = true ↔ g.ok ∧ ∃ k : Nat, i = k ∧ g.opn k = true := by
  unfold Gr.opI
  constructor
  · intro h
    simp only [Bool.and_eq_true, decide_eq_true_eq] at h
    obtain ⟨h1, ⟨h2, h3⟩, h4⟩ := h
    obtain ⟨k, rfl⟩ := Int.eq_ofNat_of_zero_le h2
    refine ⟨h1, k, rfl, Gr.opn_iff.2 ⟨?_, by simpa using h4⟩⟩
    have := (Gr.right_of h1).bl
    omega
  · rintro ⟨h1, k, rfl, h⟩
    obtain ⟨h2, h3⟩ := Gr.opn_iff.1 h
    have := (Gr.right_of h1).bl
    simp [h1, h3]
    omega

/-- How many cells are open. -/
def Gr.cnt (g : Gr) : Nat := if g.ok then uns g.B else 0
theorem uns_take {l : List Bool} {k : Nat} (hk : k < l.length) : uns (l.take (k + 1)) = uns (l.take k) + (if bt l k then 0 else 1) := by
  rw [List.take_succ_eq_append_getElem hk, bt_in hk]
  unfold uns
  rw [List.filter_append, List.length_append]
  cases l[k] <;> rfl

/-- What Step answers, at any numbers. -/
def Gr.stI (g : Gr) (i way : Int) : Option Nat := if g.opI i = true ∧ 0 ≤ way ∧ way < 4 then g.st i.toNat way.toNat else none

set_option maxHeartbeats 1000000 in
theorem Step_any (g : Gr) (p : Ad) (i way : Int) (w : World) (hw : Wy w) (hR : RG w g p) :
    Calls Tryd.prog 28 #[gv g p, .int .i64 i, .int .i64 way] w fun e w' => e = .returned (opt (g.stI i way)) ∧ Below w.heap.size w w' := by
  have cC := check_any g p (w.alloc (.cells #[.int .i64 g.h, .int .i64 g.w, .slice p.a1 g.B.length p.c1, .slice p.a2 g.R.length p.c2, .slice p.a3 g.D.length p.c3] 24)) (hw.below hw.size (below_box w _)) (hR.below (below_box w _))
  have HO : Aside (∀ W, Below w.heap.size w W → Calls Tryd.prog 43 #[gv g p, .int .i64 i] W fun e w' => e = .returned (.bool (decide (0 ≤ i ∧ i < (g.B.length : Int)) && !bt g.B i.toNat)) ∧ Below W.heap.size W w') := fun W h => isOpen_any g p i W (hR.b.below h)
  have hcl := g.chk_le
  by_cases hc : g.chk = 0
  · have hop : g.opI i = (decide (0 ≤ i ∧ i < (g.B.length : Int)) && !bt g.B i.toNat) := by unfold Gr.opI; rw [decide_eq_true (show g.ok from hc), Bool.true_and]
    rw [← hop] at HO
    clear hop
    rw [hc] at cC
    cases ho : g.opI i with
    | false =>
      have e : g.stI i way = none := by unfold Gr.stI; rw [if_neg (by rw [ho]; simp)]
      rw [e]
      rw [ho] at HO
      unfold gv at cC HO
      unfold gv opt
      clear hcl hc ho e
      go_enter Tryd.func28, Tryd.ntmps28
      go_wp2_with fail
      refine cC.mono ?_
      rintro e w1 ⟨rfl, hb1⟩
      obtain ⟨_, k0, k1, k2, k3, k4⟩ := (Bx.new w g p _).keep hb1
      have HB1 : Aside (Below w.heap.size w w1) := (below_box w _).trans (hb1.mono (below_box w _).size)
      have cO := HO.out w1 HB1.out
      clear HO hb1 cC
      go_wp2_with fail
      refine cO.mono ?_
      rintro e w2 ⟨rfl, hb2⟩
      clear cO
      go_wp2
      go_ret2
      exact ⟨rfl, HB1.out.trans (hb2.mono HB1.out.size)⟩
    | true =>
      rw [ho] at HO
      obtain ⟨hok, k, rfl, hk⟩ := Gr.opI_iff.1 ho
      have hz := (Gr.right_of hok).sz
      by_cases hway : 0 ≤ way ∧ way < 4
      · obtain ⟨hw0, hw4⟩ := hway
        obtain ⟨wy, rfl⟩ := Int.eq_ofNat_of_zero_le hw0
        have e : g.stI (k : Int) (wy : Int) = g.stp k wy := by
          unfold Gr.stI
          rw [if_pos ⟨ho, hw0, hw4⟩, Int.toNat_natCast, Int.toNat_natCast, Gr.st_stp hk]
        rw [e]
        have HS : Aside (∀ W, Below w.heap.size w W → Calls Tryd.prog 44 #[gv g p, .int .i64 k, .int .i64 wy] W fun e w' => e = .returned (opt (g.stp k wy)) ∧ Below W.heap.size W w') := fun W h => step_any g p hz k wy (Gr.opn_iff.1 hk).1 (by omega) W (hw.below hw.size h) (hR.below h)
        unfold gv at cC HO
        unfold gv opt at HS
        unfold gv opt
        have hw4n : wy < 4 := by omega
        clear hcl hc ho e hz hk hok hR hw
        go_enter Tryd.func28, Tryd.ntmps28
        go_wp2_with fail
        refine cC.mono ?_
        rintro e w1 ⟨rfl, hb1⟩
        have HBX2 : Aside (Bx w1 w.heap.size g p) := (Bx.new w g p _).keep hb1
        obtain ⟨_, k0, k1, k2, k3, k4⟩ := HBX2.out
        have HB1 : Aside (Below w.heap.size w w1) := (below_box w _).trans (hb1.mono (below_box w _).size)
        have cO := HO.out w1 HB1.out
        clear HO hb1 cC
        go_wp2_with fail
        refine cO.mono ?_
        rintro e w2 ⟨rfl, hb2⟩
        clear cO
        obtain ⟨_, k0, k1, k2, k3, k4⟩ := HBX2.out.keep hb2
        have HB2 : Aside (Below w.heap.size w w2) := HB1.out.trans (hb2.mono HB1.out.size)
        have cS := HS.out w2 HB2.out
        clear hb2 HS HBX2
        go_wp2_with fail
        refine cS.mono ?_
        rintro e w3 ⟨rfl, hb3⟩
        go_wp2
        go_ret2
        exact ⟨rfl, HB2.out.trans (hb3.mono HB2.out.size)⟩
      · have e : g.stI (k : Int) way = none := by unfold Gr.stI; rw [if_neg (fun h => hway h.2)]
        rw [e]
        unfold gv at cC HO
        unfold gv opt
        have hcs : way < 0 ∨ (0 ≤ way ∧ 4 ≤ way) := by omega
        clear hcl hc ho e hz hk hok hR hw hway
        go_enter Tryd.func28, Tryd.ntmps28
        go_wp2_with fail
        refine cC.mono ?_
        rintro e w1 ⟨rfl, hb1⟩
        obtain ⟨_, k0, k1, k2, k3, k4⟩ := (Bx.new w g p _).keep hb1
        have HB1 : Aside (Below w.heap.size w w1) := (below_box w _).trans (hb1.mono (below_box w _).size)
        have cO := HO.out w1 HB1.out
        clear HO hb1 cC
        go_wp2_with fail
        refine cO.mono ?_
        rintro e w2 ⟨rfl, hb2⟩
        clear cO
        rcases hcs with hcs | ⟨hcs0, hcs⟩
        · go_wp2
          go_ret2
          exact ⟨rfl, HB1.out.trans (hb2.mono HB1.out.size)⟩
        · go_wp2
          go_ret2
          exact ⟨rfl, HB1.out.trans (hb2.mono HB1.out.size)⟩
  · have e : g.stI i way = none := by
      unfold Gr.stI
      rw [if_neg (fun h => hc (Gr.opI_iff.1 h.1).1)]
    rw [e]
    have hc2 : ¬ ((g.chk : Nat) : Int) = 0 := by omega
    unfold gv at cC
    unfold gv opt
    clear HO e hw hR
    go_enter Tryd.func28, Tryd.ntmps28
    go_wp2_with fail
    refine cC.mono ?_
    rintro e w1 ⟨rfl, hb1⟩
    have HB1 : Aside (Below w.heap.size w w1) := (below_box w _).trans (hb1.mono (below_box w _).size)
    clear hb1 cC
    go_wp2
    go_ret2
    exact ⟨rfl, HB1.out⟩
end Go.Proofs.YtilokjcbkhhifaaDoor.Grd
