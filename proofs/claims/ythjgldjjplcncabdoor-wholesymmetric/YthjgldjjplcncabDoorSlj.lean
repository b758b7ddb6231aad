/-
  The program's Crossings and Lone.
-/
import Derived.Test.YthjgldjjplcncabDoorSli
namespace Go.Proofs.YthjgldjjplcncabDoor.Grd
open Go Go.Lib Go.RowKit

/-- A list of seats, wherever it lies. -/
def ReadsS (W : World) (ao : Option Addr) (f : Nat → Int × Int) (m : Nat) : Prop := ∀ i, i < m → ∃ b, ao = some ⟨b, 0, none⟩ ∧ b < W.heap.size ∧ W.cell? ⟨b, i * 2, none⟩ = some (.int .i64 (f i).1) ∧ W.cell? ⟨b, i * 2 + 1, none⟩ = some (.int .i64 (f i).2)
theorem ReadsS.below {W W' : World} {ao : Option Addr} {f : Nat → Int × Int} {m : Nat} (h : ReadsS W ao f m) (hb : Below W.heap.size W W') : ReadsS W' ao f m := fun i hi => by
  obtain ⟨b, h1, h2, h3, h4⟩ := h i hi
  exact ⟨b, h1, Nat.lt_of_lt_of_le h2 hb.size, (hb.cell (p := ⟨b, i * 2, none⟩) h2).trans h3, (hb.cell (p := ⟨b, i * 2 + 1, none⟩) h2).trans h4⟩
theorem row_readsS {W : World} {B m : Nat} {v : Value} {f : Nat → Int × Int} (h : W.ownsRow B 77 2 v m (cellsS f m)) : ∃ ao cap, v = .slice ao m cap ∧ ReadsS W ao f m := by
  rcases h.2 with ⟨rfl, h0⟩ | ⟨g, cap, cur, rfl, hb, _⟩
  · exact ⟨none, 0, by rw [h0], fun i hi => by omega⟩
  · refine ⟨_, cap, rfl, fun i hi => ⟨g, rfl, (h.lt g rfl).2, ?_, ?_⟩⟩
    · rw [h.cellAt _ (by omega), (cellsS_at hi).1]
    · rw [h.cellAt _ (by omega), (cellsS_at hi).2]
theorem seatV_pos (o : Option (Nat × Nat)) : decide (0 ≤ (seatV o).1) = o.isSome := by
  cases o with
  | none => decide
  | some p => exact decide_eq_true (by show (0 : Int) ≤ (p.1 : Int); omega)
/-- Crossings among the first cells, and lone cells among them. -/
def Gr.isX (g : Gr) (i : Nat) : Bool := (g.seat false i).isSome && (g.seat true i).isSome
def Gr.crK (g : Gr) (k : Nat) : Nat := ((List.range k).filter g.isX).length
theorem Gr.crK_succ (g : Gr) (k : Nat) : g.crK (k + 1) = g.crK k + (if g.isX k then 1 else 0) := by
  unfold Gr.crK
  rw [List.range_succ, List.filter_append, List.length_append]
  congr 1
  cases h : g.isX k <;> simp [h]
theorem Gr.crK_le (g : Gr) (k : Nat) : g.crK k ≤ k := by
  unfold Gr.crK
  exact Nat.le_trans (List.length_filter_le _ _) (by rw [List.length_range]; exact Nat.le_refl _)
def Gr.isLone (g : Gr) (i : Nat) : Bool := !bt g.B i && !(g.seat false i).isSome && !(g.seat true i).isSome
def Gr.loK (g : Gr) (k : Nat) : List Nat := (List.range k).filter g.isLone
theorem Gr.loK_succ (g : Gr) (k : Nat) : g.loK (k + 1) = g.loK k ++ (if g.isLone k then [k] else []) := by
  unfold Gr.loK
  rw [List.range_succ, List.filter_append]
  congr 1
  cases h : g.isLone k <;> simp [h]
theorem Gr.loK_len (g : Gr) (k : Nat) : (g.loK k).length ≤ k := by
  unfold Gr.loK
  exact Nat.le_trans (List.length_filter_le _ _) (by rw [List.length_range]; exact Nat.le_refl _)
theorem Gr.m_le (g : Gr) : g.m ≤ 256 := by
  unfold Gr.m
  by_cases h : g.ok
  · rw [if_pos h]; exact (Gr.right_of h).n_le.2
  · rw [if_neg h]; omega

set_option maxRecDepth 20000 in
set_option maxHeartbeats 2000000 in
theorem Crossings_any (g : Gr) (p : Ad) (w : World) (hw : Wy w) (hR : RG w g p) :
    Calls Tryd.prog 13 #[gv g p] w fun e w' => e = .returned (.int .i64 (g.crK g.m : Nat)) ∧ Below w.heap.size w w' := by
  have cS := Seats_any g p (w.alloc (.cells #[.int .i64 g.h, .int .i64 g.w, .slice p.a1 g.B.length p.c1, .slice p.a2 g.R.length p.c2, .slice p.a3 g.D.length p.c3] 27)) (hw.below hw.size (below_box w _)) (hR.below (below_box w _))
  have hm := g.m_le
  have HSU : Aside (∀ k, g.crK (k + 1) = g.crK k + (if g.isX k then 1 else 0)) := g.crK_succ
  have HLE : Aside (∀ k, g.crK k ≤ k) := g.crK_le
  have HIX : Aside (∀ k, g.isX k = (decide (0 ≤ (seatV (g.seat false k)).1) && decide (0 ≤ (seatV (g.seat true k)).1))) := fun k => by rw [seatV_pos, seatV_pos]; rfl
  have hc0 : g.crK 0 = 0 := rfl
  unfold gv at cS
  unfold gv
  clear hw hR
  go_enter Tryd.func13, Tryd.ntmps13
  go_wp2_with fail
  refine cS.mono ?_
  rintro e w1 ⟨va, vd, rfl, hO, hb1⟩
  obtain ⟨a1, c1, rfl, hR1⟩ := row_readsS hO.ra
  obtain ⟨a2, c2, rfl, hR2⟩ := row_readsS hO.rd
  have HR1 : Aside (ReadsS w1 a1 (fun i => seatV (g.seat false i)) g.m) := hR1
  have HR2 : Aside (ReadsS w1 a2 (fun i => seatV (g.seat true i)) g.m) := hR2
  have HB1 : Aside (Below w.heap.size w w1) := (below_box w _).trans (hb1.mono (below_box w _).size)
  clear cS hO hR1 hR2 hb1
  generalize hgm : g.m = m at *
  have HGM : Aside (g.m = m) := hgm
  clear hgm
  go_wp2
  go_loopg [5, 14] m (fun g1 nv iv wr => ∃ k : Nat, nv = .int .i64 (g.crK k : Nat) ∧ iv = .int .i64 (k : Int) ∧ k ≤ m ∧ m - k ≤ g1 ∧ Aside (Below w1.heap.size w1 wr))
  case atStart => exact ⟨0, by rw [hc0]; rfl, rfl, Nat.zero_le _, Nat.le_refl _, Below.refl _ _⟩
  case round =>
    obtain ⟨k, rfl, rfl, hk, hg, HBk⟩ := hrel
    by_cases hlt : k < m
    · have hltz : (k : Int) < (m : Int) := by omega
      obtain ⟨b1, rfl, hb1, x0, x1⟩ := (HR1.out.below HBk.out) k hlt
      obtain ⟨b2, rfl, hb2, y0, y1⟩ := (HR2.out.below HBk.out) k hlt
      dsimp only at x0 x1 y0 y1
      have HIXk : Aside _ := HIX.out k
      have hcl := HLE.out k
      generalize seatV (g.seat false k) = x at *
      generalize seatV (g.seat true k) = y at *
      obtain ⟨x, xx⟩ := x
      obtain ⟨y, yy⟩ := y
      have HY : Aside (∀ W, Below wr.heap.size wr W → W.cell? ⟨b2, k * 2, none⟩ = some (.int .i64 y) ∧ W.cell? ⟨b2, k * 2 + 1, none⟩ = some (.int .i64 yy)) := fun W hW => ⟨(hW.cell (p := ⟨b2, k * 2, none⟩) hb2).trans y0, (hW.cell (p := ⟨b2, k * 2 + 1, none⟩) hb2).trans y1⟩
      have cI := isSeat_any x xx wr
      have CJ : Aside (∀ W, Calls Tryd.prog 29 #[.agg #[.int .i64 y, .int .i64 yy]] W fun e w' => e = .returned (.bool (decide (0 ≤ y))) ∧ Below W.heap.size W w') := fun W => isSeat_any y yy W
      have hcl2 : g.crK k ≤ 256 := by omega
      clear y0 y1
      cases hx : decide (0 ≤ x) with
      | false =>
        rw [hx] at cI
        have HN : Aside (g.crK (k + 1) = g.crK k) := by show _ = _; rw [HSU.out, HIXk.out, hx]; rfl
        clear hx
        go_wp2_with fail
        refine cI.mono ?_
        rintro e w4 ⟨rfl, hb4⟩
        have HB4 : Aside (Below w1.heap.size w1 w4) := HBk.out.trans (hb4.mono HBk.out.size)
        clear cI hb4 x0 x1
        go_wp2
        go_roundg (m - (k + 1))
        case measure => omega
        case rel => exact ⟨k + 1, by rw [HN.out], by go_num, by omega, Nat.le_refl _, HB4⟩
      | true =>
        rw [hx] at cI
        go_wp2_with fail
        refine cI.mono ?_
        rintro e w4 ⟨rfl, hb4⟩
        have HB4 : Aside (Below w1.heap.size w1 w4) := HBk.out.trans (hb4.mono HBk.out.size)
        obtain ⟨y0, y1⟩ := HY.out w4 hb4
        have cJ := CJ.out w4
        have HHX : Aside (decide (0 ≤ x) = true) := hx
        clear cI hb4 x0 x1 hx
        cases hy : decide (0 ≤ y) with
        | false =>
          rw [hy] at cJ
          have HN : Aside (g.crK (k + 1) = g.crK k) := by show _ = _; rw [HSU.out, HIXk.out, hy, Bool.and_false]; rfl
          clear hy
          go_wp2_with fail
          refine cJ.mono ?_
          rintro e w5 ⟨rfl, hb5⟩
          have HB5 : Aside (Below w1.heap.size w1 w5) := HB4.out.trans (hb5.mono HB4.out.size)
          clear cJ hb5 y0 y1
          go_wp2
          go_roundg (m - (k + 1))
          case measure => omega
          case rel => exact ⟨k + 1, by rw [HN.out], by go_num, by omega, Nat.le_refl _, HB5⟩
        | true =>
          rw [hy] at cJ
          have HN : Aside (g.crK (k + 1) = g.crK k + 1) := by show _ = _; rw [HSU.out, HIXk.out, HHX.out, hy]; rfl
          clear hy
          go_wp2_with fail
          refine cJ.mono ?_
          rintro e w5 ⟨rfl, hb5⟩
          have HB5 : Aside (Below w1.heap.size w1 w5) := HB4.out.trans (hb5.mono HB4.out.size)
          clear cJ hb5 y0 y1
          go_wp2
          go_roundg (m - (k + 1))
          case measure => omega
          case rel => exact ⟨k + 1, by rw [HN.out]; go_num, by go_num, by omega, Nat.le_refl _, HB5⟩
    · have hltz : ¬ (k : Int) < (m : Int) := by omega
      obtain rfl : k = m := by omega
      go_wp2
      go_ret
      exact ⟨by rw [HGM.out]; rfl, HB1.out.trans (HBk.out.mono HB1.out.size)⟩
end Go.Proofs.YthjgldjjplcncabDoor.Grd
