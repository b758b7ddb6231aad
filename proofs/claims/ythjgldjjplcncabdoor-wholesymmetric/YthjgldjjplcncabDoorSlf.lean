/-
  The program's List of any grid; a list of slots, read.
-/
import Derived.Test.YthjgldjjplcncabDoorSle
namespace Go.Proofs.YthjgldjjplcncabDoor.Grd
open Go Go.Lib Go.RowKit

set_option maxHeartbeats 1000000 in
theorem List_shut (g : Gr) (p : Ad) (hc : ¬ g.ok) (w : World) (hw' : Wy w) (hR : RG w g p) :
    Calls Tryd.prog 10 #[gv g p] w fun e w' => e = .returned (.slice none 0 0) ∧ Below w.heap.size w w' := by
  have cC := check_any g p (w.alloc (.cells #[.int .i64 g.h, .int .i64 g.w, .slice p.a1 g.B.length p.c1, .slice p.a2 g.R.length p.c2, .slice p.a3 g.D.length p.c3] 27)) (hw'.below hw'.size (below_box w _)) (hR.below (below_box w _))
  have hc2 : ¬ g.chk = 0 := hc
  have hc3 : ¬ ((g.chk : Nat) : Int) = 0 := by omega
  unfold gv at cC
  unfold gv
  clear hR hw' hc
  go_enter Tryd.func10, Tryd.ntmps10
  go_wp2_with fail
  refine cC.mono ?_
  rintro e w1 ⟨rfl, hb1⟩
  have HB1 : Aside (Below w.heap.size w w1) := (below_box w _).trans (hb1.mono (below_box w _).size)
  clear cC hb1
  go_wp2
  go_ret
  exact ⟨rfl, HB1.out⟩
theorem Gr.sl_shut {g : Gr} (h : ¬ g.ok) : g.sl = [] := by unfold Gr.sl; rw [if_neg h]
theorem List_any (g : Gr) (p : Ad) (w : World) (hw : Wy w) (hR : RG w g p) :
    Calls Tryd.prog 10 #[gv g p] w fun e w' => ∃ v us, e = .returned v ∧ OwnL w' w.heap.size v g.sl us ∧ Below w.heap.size w w' := by
  by_cases hok : g.ok
  · exact List_ok g p hok w hw hR
  · refine (List_shut g p hok w hw hR).mono ?_
    rintro e w' ⟨rfl, hb⟩
    exact ⟨_, [], rfl, by rw [Gr.sl_shut hok]; exact OwnL.nil _ _, hb⟩

/-- A list of slots, wherever it lies. -/
def ReadsL (W : World) (ao : Option Addr) (L : List Sl) : Prop := ∀ (k : Nat) (s : Sl), L[k]? = some s → ∃ b a' c', ao = some ⟨b, 0, none⟩ ∧ b < W.heap.size ∧ W.cell? ⟨b, k * 3, none⟩ = some (.int .i64 (s.num : Int)) ∧ W.cell? ⟨b, k * 3 + 1, none⟩ = some (.bool s.dn) ∧ W.cell? ⟨b, k * 3 + 2, none⟩ = some (.slice a' s.cs.length c') ∧ ReadsI W a' (ints s.cs)
theorem ReadsL.below {W W' : World} {ao : Option Addr} {L : List Sl} (h : ReadsL W ao L) (hb : Below W.heap.size W W') : ReadsL W' ao L := fun k s hk => by
  obtain ⟨b, a', c', h1, h2, h3, h4, h5, h6⟩ := h k s hk
  exact ⟨b, a', c', h1, Nat.lt_of_lt_of_le h2 hb.size, (hb.cell (p := ⟨b, k * 3, none⟩) h2).trans h3, (hb.cell (p := ⟨b, k * 3 + 1, none⟩) h2).trans h4, (hb.cell (p := ⟨b, k * 3 + 2, none⟩) h2).trans h5, h6.below hb⟩
theorem OwnL.read {W : World} {B : Nat} {v : Value} {L : List Sl} {us : List Value} (h : OwnL W B v L us) : ∃ ao cap, v = .slice ao L.length cap ∧ ReadsL W ao L := by
  have hr := h.row
  rcases hr.2 with ⟨rfl, h0⟩ | ⟨g, cap, cur, rfl, hb, _⟩
  · exact ⟨none, 0, by rw [h0], fun k s hk => by have := (List.getElem?_eq_some_iff.1 hk).1; omega⟩
  · refine ⟨_, cap, rfl, fun k s hk => ?_⟩
    have hkl := (List.getElem?_eq_some_iff.1 hk).1
    have hu : us[k]? = some (us[k]'(by rw [h.len]; exact hkl)) := List.getElem?_eq_getElem _
    generalize us[k]'(by rw [h.len]; exact hkl) = u at hu
    obtain ⟨c1, c2, c3⟩ := slCells_at L us k s u hk hu
    obtain ⟨a', c', rfl, _, hR⟩ := row_reads (h.each k s u hk hu)
    have cell := fun (j : Nat) (x : Value) (hx : (slCells L us)[j]? = some x) => by
      have := hr.cells (g := g) rfl j x hx
      rwa [show (⟨g, 0, none⟩ : Addr).add j = ⟨g, j, none⟩ by unfold Addr.add; split <;> simp_all] at this
    rw [ints_length] at c3
    rw [Nat.mul_comm 3 k] at c1 c2 c3
    exact ⟨g, a', c', rfl, (hr.lt g rfl).2, cell _ _ c1, cell _ _ c2, cell _ _ c3, hR⟩

/-- The place of the slot with this number and direction. -/
def findIx (num : Int) (dn : Bool) : List Sl → Nat → Int
  | [], _ => -1
  | s :: r, k => if (s.num : Int) = num ∧ s.dn = dn then (k : Int) else findIx num dn r (k + 1)
theorem findIx_at {num : Int} {dn : Bool} {L : List Sl} {k : Nat} {s : Sl} (h : L[k]? = some s) : findIx num dn (L.drop k) k = if (s.num : Int) = num ∧ s.dn = dn then (k : Int) else findIx num dn (L.drop (k + 1)) (k + 1) := by
  have e : L.drop k = s :: L.drop (k + 1) := by
    obtain ⟨hl, rfl⟩ := List.getElem?_eq_some_iff.1 h
    exact List.drop_eq_getElem_cons hl
  rw [e]
  rfl
end Go.Proofs.YthjgldjjplcncabDoor.Grd
