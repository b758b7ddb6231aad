/-
  The program's isReached, and the closure that gathers a run.
-/
import Derived.Test.YthjgldjjplcncabDoorSla
import Derived.Test.YthjgldjjplcncabDoorGrdg
namespace Go.Proofs.YthjgldjjplcncabDoor.Grd
open Go Go.Lib Go.RowKit

/-- A step leads to a cell just if one leads back from it. -/
theorem Gr.back_iff {g : Gr} (hW : 0 < g.W) {d b i : Nat} (hd : d < 2) (hb : b + (if d = 0 then 1 else g.W) = i) : (g.st b d).isSome = (g.st i (d + 2)).isSome := by
  have : d = 0 ∨ d = 1 := by omega
  rw [Bool.eq_iff_iff, Option.isSome_iff_exists, Option.isSome_iff_exists]
  constructor
  · rintro ⟨j, hj⟩
    refine ⟨b, ?_⟩
    have e : j = i := by
      have ho := Gr.st_opn hj
      rcases this with rfl | rfl
      · rw [Gr.st0 ho] at hj
        obtain ⟨_, rfl⟩ := if_some hj
        simpa using hb
      · rw [Gr.st1 ho] at hj
        obtain ⟨_, rfl⟩ := if_some hj
        simpa using hb
    subst e
    have := Gr.st_back hW hj
    rwa [Nat.mod_eq_of_lt (by omega)] at this
  · rintro ⟨j, hj⟩
    have e : j = b := by
      have ho := Gr.st_opn hj
      rcases this with rfl | rfl
      · rw [Gr.st2 ho] at hj
        obtain ⟨_, rfl⟩ := if_some hj
        simp at hb
        omega
      · rw [Gr.st3 ho] at hj
        obtain ⟨_, rfl⟩ := if_some hj
        simp at hb
        omega
    subst e
    have h2 := Gr.st_back hW hj
    rw [show (d + 2 + 2) % 4 = d by omega] at h2
    exact ⟨i, h2⟩
theorem Gr.back_none {g : Gr} {d i : Nat} (hd : d < 2) (hb : i < (if d = 0 then 1 else g.W)) : g.st i (d + 2) = none := by
  have : d = 0 ∨ d = 1 := by omega
  by_cases ho : g.opn i = true
  · rcases this with rfl | rfl
    · simp at hb
      subst hb
      rw [Gr.st2 ho, if_neg (fun h => by have := h.1; simp at this)]
    · simp at hb
      rw [Gr.st3 ho, if_neg (fun h => by have := h.1; rw [Nat.div_eq_of_lt hb] at this; omega)]
  · unfold Gr.st; rw [if_neg ho]

set_option maxHeartbeats 1000000 in
theorem isReached_any (g : Gr) (p : Ad) (hz : Sz g) (i : Nat) (hi : i < g.n) (dn : Bool) (w : World) (hR : RG w g p) :
    Calls Tryd.prog 26 #[gv g p, .int .i64 i, .bool dn] w fun e w' => e = .returned (.bool (g.st i (way dn + 2)).isSome) ∧ Below w.heap.size w w' := by
  obtain ⟨h4, h5, h6⟩ := hz.sw
  have hn := hz.n_le
  have HO : Aside (∀ b, b < g.n → ∀ W, Below w.heap.size w W → Calls Tryd.prog 25 #[gv g p, .int .i64 (b : Nat), .bool dn] W fun e w' => e = .returned (opt (g.st b (way dn))) ∧ Below W.heap.size W w') := fun b hb W h => onward_any g p hz b hb dn W (hR.below h)
  have HS : Aside (∀ b, b + (if way dn = 0 then 1 else g.W) = i → (g.st b (way dn)).isSome = (g.st i (way dn + 2)).isSome) := fun b hb => Gr.back_iff h4 (way_lt dn) hb
  have HN : Aside (i < (if way dn = 0 then 1 else g.W) → g.st i (way dn + 2) = none) := fun hb => Gr.back_none (way_lt dn) hb
  have hiz : (i : Int) < 256 := by omega
  unfold gv opt at HO
  unfold gv
  rw [← h6] at HO ⊢
  clear hR hz h6
  cases dn with
  | false =>
    simp only [way, Bool.false_eq_true, if_false, if_true] at HO HS HN ⊢
    by_cases hlt : i < 1
    · rw [HN.out hlt]
      clear HO HS HN
      have hltz : (i : Int) - 1 < 0 := by omega
      go_enter Tryd.func26, Tryd.ntmps26
      go_wp2
      go_ret
      exact ⟨rfl, below_box w _⟩
    · obtain ⟨b, hb⟩ : ∃ b, b + 1 = i := ⟨i - 1, by omega⟩
      have cO := HO.out b (by omega) (w.alloc (.cells #[.int .i64 g.h, .int .i64 (g.W : Int), .slice p.a1 g.B.length p.c1, .slice p.a2 g.R.length p.c2, .slice p.a3 g.D.length p.c3] 27)) (below_box w _)
      rw [← HS.out b hb]
      have e : (i : Int) - 1 = (b : Int) := by omega
      have hb0 : ¬ (b : Int) < 0 := by omega
      have hb1 : (b : Int) < 256 := by omega
      clear HO HS HN hlt hb
      generalize g.st b 0 = o at *
      generalize (b : Int) = bz at *
      go_enter Tryd.func26, Tryd.ntmps26
      go_wp2_with fail
      refine cO.mono ?_
      rintro e w1 ⟨rfl, hb1⟩
      go_wp2
      go_ret
      exact ⟨rfl, (below_box w _).trans (hb1.mono (below_box w _).size)⟩
  | true =>
    simp only [way, if_true] at HO HS HN ⊢
    by_cases hlt : i < g.W
    · rw [HN.out (by simpa using hlt)]
      clear HO HS HN
      have hltz : (i : Int) - (g.W : Int) < 0 := by omega
      go_enter Tryd.func26, Tryd.ntmps26
      go_wp2
      go_ret
      exact ⟨rfl, below_box w _⟩
    · obtain ⟨b, hb⟩ : ∃ b, b + g.W = i := ⟨i - g.W, by omega⟩
      have cO := HO.out b (by omega) (w.alloc (.cells #[.int .i64 g.h, .int .i64 (g.W : Int), .slice p.a1 g.B.length p.c1, .slice p.a2 g.R.length p.c2, .slice p.a3 g.D.length p.c3] 27)) (below_box w _)
      rw [← HS.out b (by simpa using hb)]
      have e : (i : Int) - (g.W : Int) = (b : Int) := by omega
      have hb0 : ¬ (b : Int) < 0 := by omega
      have hb1 : (b : Int) < 256 := by omega
      clear HO HS HN hlt hb
      generalize g.st b 1 = o at *
      generalize (b : Int) = bz at *
      go_enter Tryd.func26, Tryd.ntmps26
      go_wp2_with fail
      refine cO.mono ?_
      rintro e w1 ⟨rfl, hb1⟩
      go_wp2
      go_ret
      exact ⟨rfl, (below_box w _).trans (hb1.mono (below_box w _).size)⟩
end Go.Proofs.YthjgldjjplcncabDoor.Grd
