/-
  SlotsSeats walked.
-/
import Derived.Test.YtilokjcbkhhifaaDoorSlw
import Derived.Test.YtilokjcbkhhifaaDoorSrunm
import Derived.Test.YtilokjcbkhhifaaDoorSseatm
import Derived.Test.YtilokjcbkhhifaaDoorSlj
import Derived.Deep.CutRange
import Derived.Deep.RegionWith
namespace Go.Proofs.YtilokjcbkhhifaaDoor.Grd
open Go Go.Lib Go.RowKit

/-- The seats counted so far: of the cells ahead of i, and of the first k directions of i. -/
def Gr.nS (g : Gr) (i k : Nat) : Nat := cntS (g.seat false) i + cntS (g.seat true) i + (if decide (1 ≤ k) && (g.seat false i).isSome then 1 else 0) + (if decide (2 ≤ k) && (g.seat true i).isSome then 1 else 0)
/-- A seat in a block of its own. -/
structure Sb (W : World) (b : Nat) (x y : Int) : Prop where
  lt : b < W.heap.size
  q0 : W.cell? ⟨b, 0, none⟩ = some (.int .i64 x)
  q1 : W.cell? ⟨b, 1, none⟩ = some (.int .i64 y)
theorem Sb.keep {W W' : World} {b : Nat} {x y : Int} (h : Sb W b x y) (hb : Below W.heap.size W W') : Sb W' b x y :=
  ⟨Nat.lt_of_lt_of_le h.lt hb.size, (hb.cell (p := ⟨b, 0, none⟩) h.lt).trans h.q0, (hb.cell (p := ⟨b, 1, none⟩) h.lt).trans h.q1⟩
theorem Sb.new (w : World) (x y : Int) (t : TypeId) : Sb (w.alloc (.cells #[.int .i64 x, .int .i64 y] t)) w.heap.size x y := ⟨by rw [World.size_alloc]; omega, cells_box _ _ _ _, cells_box _ _ _ _⟩
theorem Gr.stI_any {g : Gr} (hok : g.ok) {i d : Nat} (hd : d < 4) : g.stI (i : Int) (d : Int) = g.st i d := by
  by_cases ho : g.opn i = true
  · exact Gr.stI_st hok ho hd
  · have h1 : g.opI (i : Int) = false := by
      cases h : g.opI (i : Int) with
      | false => rfl
      | true =>
        obtain ⟨_, k, e, hk⟩ := Gr.opI_iff.1 h
        have : i = k := by omega
        subst this
        exact absurd hk ho
    unfold Gr.stI Gr.st
    rw [if_neg (fun h => by rw [h1] at h; cases h.1), if_neg ho]
theorem Gr.nS_next (g : Gr) (i : Nat) : g.nS (i + 1) 0 = g.nS i 2 := by
  unfold Gr.nS
  rw [cntS_succ, cntS_succ]
  simp
  omega
theorem Gr.nS_le {g : Gr} {i k : Nat} (hn : g.n ≤ 256) (hi : i < g.n) : g.nS i k ≤ 1024 := by
  have h1 := cntS_le (g.seat false) i
  have h2 := cntS_le (g.seat true) i
  have h3 : (if decide (1 ≤ k) && (g.seat false i).isSome then 1 else 0) ≤ 1 := by split <;> omega
  have h4 : (if decide (2 ≤ k) && (g.seat true i).isSome then 1 else 0) ≤ 1 := by split <;> omega
  unfold Gr.nS
  omega
set_option maxRecDepth 20000 in
set_option maxHeartbeats 4000000 in
theorem slotsSeats_walk (g : Gr) (p : Ad) (w : World) (hR : RG w g p) (hw : Wy w) :
    Calls Tryd.prog 7 #[gv g p] w fun e w' => e = .returned (.bool true) ∧ Below w.heap.size w w' := by
  have HW : Aside (∀ W, Below w.heap.size w W → Wy W ∧ RG W g p) := fun W hb => ⟨hw.below hw.size hb, hR.below hb⟩
  have cA := awake7_any (w.alloc (.cells #[.int .i64 g.h, .int .i64 g.w, .slice p.a1 g.B.length p.c1, .slice p.a2 g.R.length p.c2, .slice p.a3 g.D.length p.c3] 24)) (HW.out _ (below_box w _)).1
  have HL : Aside (∀ W, Below w.heap.size w W → Calls Tryd.prog 10 #[gv g p] W fun e w' => ∃ v us, e = .returned v ∧ OwnL w' W.heap.size v g.sl us ∧ Below W.heap.size W w') := fun W hb => List_any g p W (HW.out W hb).1 (HW.out W hb).2
  have HT : Aside (∀ W, Below w.heap.size w W → Calls Tryd.prog 13 #[gv g p] W fun e w' => ∃ va vd, e = .returned (.tuple #[va, vd]) ∧ OwnS w' W.heap.size va vd g ∧ Below W.heap.size W w') := fun W hb => Seats_any g p W (HW.out W hb).1 (HW.out W hb).2
  have HC : Aside (∀ W, Below w.heap.size w W → Calls Tryd.prog 29 #[gv g p] W fun e w' => e = .returned (.int .i64 (g.chk : Nat)) ∧ Below W.heap.size W w') := fun W hb => check_any g p W (HW.out W hb).1 (HW.out W hb).2
  have HS : Aside (∀ i way : Int, ∀ W, Below w.heap.size w W → Calls Tryd.prog 28 #[gv g p, .int .i64 i, .int .i64 way] W fun e w' => e = .returned (opt (g.stI i way)) ∧ Below W.heap.size W w') := fun i way W hb => Step_any g p i way W (HW.out W hb).1 (HW.out W hb).2
  have hln := g.sl_len
  have hm := g.m_le
  unfold gv at HL HS HT HC
  unfold opt at HS
  unfold gv
  clear hw hR
  go_enter Tryd.func7, Tryd.ntmps7
  go_wp2_with fail
  refine cA.mono ?_
  rintro e w1 ⟨rfl, hb1⟩
  have HX1 : Aside (Bx w1 w.heap.size g p) := (Bx.new w g p _).keep hb1
  have HB1 : Aside (Below w.heap.size w w1) := (below_box w _).trans (hb1.mono (below_box w _).size)
  obtain ⟨_, k0, k1, k2, k3, k4⟩ := HX1.out
  clear hb1 cA
  have cL := HL.out w1 HB1.out
  go_wp2_with fail
  refine cL.mono ?_
  rintro e w2 ⟨v, us, rfl, hO, hb2⟩
  obtain ⟨ao, cap, rfl, hRL⟩ := hO.read
  have HX2 : Aside (Bx w2 w.heap.size g p) := HX1.out.keep hb2
  have HB2 : Aside (Below w.heap.size w w2) := HB1.out.trans (hb2.mono HB1.out.size)
  have HRL2 : Aside (ReadsL w2 ao g.sl) := hRL
  clear hRL hO cL hb2 k0 k1 k2 k3 k4
  obtain ⟨_, k0, k1, k2, k3, k4⟩ := HX2.out
  have cT := HT.out w2 HB2.out
  go_wp2_with fail
  refine cT.mono ?_
  rintro e w3 ⟨va, vd, rfl, hO, hb3⟩
  obtain ⟨a1, c1, rfl, hR1⟩ := row_readsS hO.ra
  obtain ⟨a2, c2, rfl, hR2⟩ := row_readsS hO.rd
  have HX3 : Aside (Bx w3 w.heap.size g p) := HX2.out.keep hb3
  have HB3 : Aside (Below w.heap.size w w3) := HB2.out.trans (hb3.mono HB2.out.size)
  have HRL : Aside (ReadsL w3 ao g.sl) := HRL2.out.below hb3
  have HR1 : Aside (ReadsS w3 a1 (fun i => seatV (g.seat false i)) g.m) := hR1
  have HR2 : Aside (ReadsS w3 a2 (fun i => seatV (g.seat true i)) g.m) := hR2
  clear cT hO hb3 hR1 hR2 k0 k1 k2 k3 k4 HRL2
  obtain ⟨_, k0, k1, k2, k3, k4⟩ := HX3.out
  have cC := HC.out w3 HB3.out
  by_cases hok : g.ok
  · have hr := Gr.right_of hok
    have hn := hr.n_le.2
    have HBl : Aside (g.B.length = g.n) := hr.bl
    have e2 : g.m = g.n := if_pos hok
    rw [show g.chk = 0 from hok] at cC
    rw [e2] at HR1 HR2 ⊢
    have HTOT : Aside (sumK g.sl g.sl.length = cntS (g.seat false) g.n + cntS (g.seat true) g.n) := g.seats_cells
    have HSL : Aside (∀ k, sumK g.sl k ≤ 257 * k) := fun k => sumK_le (fun k s hs => Gr.sl_cs hs) k
    have HSK : Aside (∀ (k : Nat) (s : Sl), g.sl[k]? = some s → sumK g.sl (k + 1) = sumK g.sl k + s.cs.length) := fun k s hs => by simp [sumK, hs]
    have HCS : Aside (∀ (k : Nat) (s : Sl), g.sl[k]? = some s → s.cs.length ≤ 257) := fun k s hs => Gr.sl_cs hs
    have HSI : Aside (∀ (i d : Nat), d < 4 → i < g.n → ∀ W, Below w.heap.size w W → Calls Tryd.prog 28 #[.agg #[.int .i64 g.h, .int .i64 g.w, .slice p.a1 g.B.length p.c1, .slice p.a2 g.R.length p.c2, .slice p.a3 g.D.length p.c3], .int .i64 (i : Nat), .int .i64 (d : Nat)] W fun e w' => e = .returned (.tuple #[.int .i64 ((g.st i d).getD 0 : Nat), .bool (g.st i d).isSome]) ∧ Below W.heap.size W w') := fun i d hd _ W h => by
      have := HS.out i d W h
      rwa [Gr.stI_any hok hd] at this
    have HSS : Aside (∀ (dn : Bool) (i : Nat), (g.seat dn i).isSome = ((g.st i (way dn)).isSome || (g.st i (way dn + 2)).isSome)) := fun dn i => g.seat_steps hok dn i
    have HNL : Aside (∀ i k, i < g.n → g.nS i k ≤ 1024) := fun i k hi => Gr.nS_le hn hi
    have HNN : Aside (∀ i, g.nS (i + 1) 0 = g.nS i 2) := g.nS_next
    have HAA : Aside (∀ (dn : Bool) (i n a : Nat), g.seat dn i = some (n, a) → At g.sl dn i n a) := fun dn i n a h => Gr.seat_iff.1 h
    clear hr e2 hm hok
    go_wp2_with fail
    refine cC.mono ?_
    rintro e w4 ⟨rfl, hb4⟩
    have HX4 : Aside (Bx w4 w.heap.size g p) := HX3.out.keep hb4
    have HB4 : Aside (Below w.heap.size w w4) := HB3.out.trans (hb4.mono HB3.out.size)
    have HRL4 : Aside (ReadsL w4 ao g.sl) := HRL.out.below hb4
    have HR14 : Aside (ReadsS w4 a1 (fun i => seatV (g.seat false i)) g.n) := HR1.out.below hb4
    have HR24 : Aside (ReadsS w4 a2 (fun i => seatV (g.seat true i)) g.n) := HR2.out.below hb4
    clear cC hb4 k0 k1 k2 k3 k4 HR1 HR2 HRL HX3 HX2 HX1 HB1 HB2 HB3
    have HBLZ : Aside ((g.B.length : Int) = (g.n : Int)) := by show _ = _; rw [HBl.out]
    obtain ⟨_, k0, k1, k2, k3, k4⟩ := HX4.out
    rw [HBl.out] at k2
    go_wp2
    clear k0 k1 k2 k3 k4
    generalize hLL : g.sl = L at *
    have HLL : Aside (g.sl = L) := hLL
    clear hLL
    go_loopg [6, 54] L.length (fun g1 nv iv wr => ∃ k : Nat, nv = .int .i64 (sumK L k : Nat) ∧ iv = .int .i64 (k : Int) ∧ k ≤ L.length ∧ L.length - k ≤ g1 ∧ Aside (Below w4.heap.size w4 wr))
    case atStart => exact ⟨0, rfl, rfl, Nat.zero_le _, Nat.le_refl _, Below.refl _ _⟩
    case round =>
      obtain ⟨k, rfl, rfl, hk, hg, HBk⟩ := hrel
      by_cases hlt : k < L.length
      · have hltz : (k : Int) < (L.length : Int) := by omega
        have hs : L[k]? = some (L[k]'hlt) := List.getElem?_eq_getElem hlt
        generalize L[k]'hlt = s at hs
        obtain ⟨b, a', c', rfl, hb, e0, e1, e2, _⟩ := (HRL4.out.below HBk.out) k s hs
        have hcs := HCS.out k s hs
        have hsk := HSL.out k
        have HSU : Aside (sumK L (k + 1) = sumK L k + s.cs.length) := HSK.out k s hs
        have HBn : Aside (Below w4.heap.size w4 (wr.alloc (.cells #[.int .i64 (s.num : Int), .bool s.dn, .slice a' s.cs.length c'] 36))) := HBk.out.alloc HBk.out.size _
        clear hs
        go_wp2
        go_roundg (L.length - (k + 1))
        case measure => omega
        case rel => exact ⟨k + 1, by rw [HSU.out]; go_num, by go_num, by omega, Nat.le_refl _, HBn⟩
      · have hltz : ¬ (k : Int) < (L.length : Int) := by omega
        obtain rfl : k = L.length := by omega
        generalize hw5 : wr = w5 at *
        clear hw5
        have HX5 : Aside (Bx w5 w.heap.size g p) := HX4.out.keep HBk.out
        have HB5 : Aside (Below w.heap.size w w5) := HB4.out.trans (HBk.out.mono HB4.out.size)
        have HRL5 : Aside (ReadsL w5 ao L) := HRL4.out.below HBk.out
        have HR15 : Aside (ReadsS w5 a1 (fun i => seatV (g.seat false i)) g.n) := HR14.out.below HBk.out
        have HR25 : Aside (ReadsS w5 a2 (fun i => seatV (g.seat true i)) g.n) := HR24.out.below HBk.out
        clear HX4 HB4 HRL4 HR14 HR24 HBk
        go_wp2
        --LOOP2
        go_loopg [7, 66] g.n (fun g1 nv iv wr => ∃ i : Nat, nv = .int .i64 (g.nS i 0 : Nat) ∧ iv = .int .i64 (i : Int) ∧ i ≤ g.n ∧ g.n - i ≤ g1 ∧ Aside (Below w5.heap.size w5 wr))
        case atStart => exact ⟨0, rfl, rfl, Nat.zero_le _, Nat.le_refl _, Below.refl _ _⟩
        case round =>
          obtain ⟨i, rfl, rfl, hi, hg, HBr⟩ := hrel
          by_cases hlt : i < g.n
          · have hltz : (i : Int) < (g.n : Int) := by omega
            obtain ⟨b1, rfl, hb1, x0, x1⟩ := (HR15.out.below HBr.out) i hlt
            obtain ⟨b2, rfl, hb2, y0, y1⟩ := (HR25.out.below HBr.out) i hlt
            dsimp only at x0 x1 y0 y1
            have HG2 : Aside _ := hg
            have HI : Aside (i < g.n) := hlt
            go_wp2
            go_cut [77, 78, 79] from 69 to 79 (fun s77 s78 s79 wd => s77 = .slice (some ⟨wr.heap.size, 0, none⟩) 2 2 ∧ s78 = .int .i64 2 ∧ s79 = .int .i64 0 ∧ wd = (wr.alloc (.cells #[.int .i64 (seatV (g.seat false i)).1, .int .i64 (seatV (g.seat false i)).2, .int .i64 (seatV (g.seat true i)).1, .int .i64 (seatV (g.seat true i)).2] 38)).drew)
            case first =>
              go_region
              go_wp2
              go_meet
              exact ⟨rfl, rfl, rfl, rfl⟩
            case rest =>
            rename World => w7
            obtain ⟨rfl, rfl, rfl, hw7⟩ := hcut
            have HQ : Aside (w7.cell? ⟨wr.heap.size, 0, none⟩ = some (.int .i64 (seatV (g.seat false i)).1) ∧ w7.cell? ⟨wr.heap.size, 1, none⟩ = some (.int .i64 (seatV (g.seat false i)).2) ∧ w7.cell? ⟨wr.heap.size, 2, none⟩ = some (.int .i64 (seatV (g.seat true i)).1) ∧ w7.cell? ⟨wr.heap.size, 3, none⟩ = some (.int .i64 (seatV (g.seat true i)).2)) := by
              rw [hw7]; exact ⟨cells_box _ _ _ _, cells_box _ _ _ _, cells_box _ _ _ _, cells_box _ _ _ _⟩
            have HBr7 : Aside (Below wr.heap.size wr w7) := by show Below _ _ _; rw [hw7]; exact Below.drew (below_box _ _)
            have hbk : wr.heap.size < w7.heap.size := by rw [hw7]; show _ < (wr.alloc _).heap.size; rw [World.size_alloc]; omega
            have HBr5 : Aside (Below w5.heap.size w5 w7) := HBr.out.trans (HBr7.out.mono HBr.out.size)
            have HX7 : Aside (Bx w7 w.heap.size g p) := HX5.out.keep HBr5.out
            have HB7 : Aside (Below w.heap.size w w7) := HB5.out.trans (HBr5.out.mono HB5.out.size)
            have HRL7 : Aside (ReadsL w7 ao L) := HRL5.out.below HBr5.out
            clear hw7 HBr7 HBr x0 x1 y0 y1 hb1 hb2
            generalize hbb : wr.heap.size = bk at *
            clear hbb
            go_wp2
            go_loopg [7, 79] 2 (fun g2 nv jv wr => ∃ k : Nat, nv = .int .i64 (g.nS i k : Nat) ∧ jv = .int .i64 (k : Int) ∧ k ≤ 2 ∧ 2 - k ≤ g2 ∧ Aside (Below w7.heap.size w7 wr))
            case atStart => exact ⟨0, rfl, rfl, by omega, by omega, Below.refl _ _⟩
            case round =>
            obtain ⟨k, rfl, rfl, hk, hg2, HBj⟩ := hrel
            by_cases hk2 : k < 2
            · rcases (show k = 0 ∨ k = 1 by omega) with rfl | rfl
              · skip
                have HE : Aside (wr.cell? ⟨bk, 0, none⟩ = some (.int .i64 (seatV (g.seat false i)).1) ∧ wr.cell? ⟨bk, 1, none⟩ = some (.int .i64 (seatV (g.seat false i)).2)) := ⟨(HBj.out.cell (p := ⟨bk, 0, none⟩) hbk).trans HQ.out.1, (HBj.out.cell (p := ⟨bk, 1, none⟩) hbk).trans HQ.out.2.1⟩
                have HST : Aside ((g.seat false i).isSome = ((g.st i 0).isSome || (g.st i 2).isSome)) := HSS.out false i
                have HNS : Aside (g.nS i 1 = g.nS i 0 + (if (g.seat false i).isSome then 1 else 0)) := by show _ = _; simp [Gr.nS]
                have hns : g.nS i 0 ≤ 1024 := HNL.out i 0 HI.out
                have HAT : Aside (∀ n a, g.seat false i = some (n, a) → At L false i n a) := fun n a h => HAA.out false i n a h
                obtain ⟨_, k0, k1, k2, k3, k4⟩ := HX7.out.keep HBj.out
                obtain ⟨e0, e1⟩ := HE.out
                have HBb : Aside (Below w7.heap.size w7 (wr.alloc (.cells #[.int .i64 (seatV (g.seat false i)).1, .int .i64 (seatV (g.seat false i)).2] 38))) := HBj.out.alloc HBj.out.size _
                have HSB : Aside (Sb (wr.alloc (.cells #[.int .i64 (seatV (g.seat false i)).1, .int .i64 (seatV (g.seat false i)).2] 38)) wr.heap.size (seatV (g.seat false i)).1 (seatV (g.seat false i)).2) := Sb.new _ _ _ _
                have cS1 := HSI.out i 0 (by omega) HI.out _ (HB7.out.trans (HBb.out.mono HB7.out.size))
                have CS2 : Aside (∀ W, Below w.heap.size w W → Calls Tryd.prog 28 #[.agg #[.int .i64 g.h, .int .i64 g.w, .slice p.a1 g.B.length p.c1, .slice p.a2 g.R.length p.c2, .slice p.a3 g.D.length p.c3], .int .i64 (i : Nat), .int .i64 2] W fun e w' => e = .returned (.tuple #[.int .i64 ((g.st i 2).getD 0 : Nat), .bool (g.st i 2).isSome]) ∧ Below W.heap.size W w') := fun W h => HSI.out i 2 (by omega) HI.out W h
                generalize g.st i 0 = s1 at *
                generalize g.st i 2 = s2 at *
                clear HE
                go_wp2_with fail
                refine cS1.mono ?_
                rintro e w9 ⟨rfl, hb9⟩
                have HB9 : Aside (Below w7.heap.size w7 w9) := HBb.out.trans (hb9.mono HBb.out.size)
                have HSB9 : Aside (Sb w9 wr.heap.size (seatV (g.seat false i)).1 (seatV (g.seat false i)).2) := HSB.out.keep hb9
                clear cS1 hb9 k0 k1 k2 k3 k4 e0 e1
                obtain ⟨_, k0, k1, k2, k3, k4⟩ := HX7.out.keep HB9.out
                have cS2 := CS2.out w9 (HB7.out.trans (HB9.out.mono HB7.out.size))
                go_wp2_with fail
                refine cS2.mono ?_
                rintro e w10 ⟨rfl, hb10⟩
                have HB10 : Aside (Below w7.heap.size w7 w10) := HB9.out.trans (hb10.mono HB9.out.size)
                obtain ⟨_, q0, q1⟩ := HSB9.out.keep hb10
                clear cS2 hb10 k0 k1 k2 k3 k4 HBb HSB HSB9 HB9 CS2
                cases hse : g.seat false i with
                | none =>
                  rw [hse] at q0 q1 HST HNS
                  have hor : (s1.isSome || s2.isSome) = false := HST.out.symm
                  have HN2 : Aside (g.nS i 1 = g.nS i 0) := HNS.out
                  have h1 : s1 = none := by cases s1 with | none => rfl | some _ => cases hor
                  have h2 : s2 = none := by cases s2 with | none => rfl | some _ => rw [Bool.or_eq_false_iff] at hor; cases hor.2
                  subst h1 h2
                  replace q0 : w10.cell? ⟨wr.heap.size, 0, none⟩ = some (.int .i64 (-1)) := q0
                  replace q1 : w10.cell? ⟨wr.heap.size, 1, none⟩ = some (.int .i64 0) := q1
                  simp only [Option.isSome_none, Option.getD_none]
                  clear hse hor HST
                  go_wp2
                  go_roundg (2 - (0 + 1))
                  case measure => omega
                  case rel => exact ⟨1, by rw [HN2.out], rfl, by omega, Nat.le_refl _, HB10⟩
                | some pr =>
                  obtain ⟨n, a⟩ := pr
                  rw [hse] at q0 q1 HST HNS
                  have HN2 : Aside (g.nS i 1 = g.nS i 0 + 1) := HNS.out
                  have hor : (s1.isSome || s2.isSome) = true := HST.out.symm
                  replace q0 : w10.cell? ⟨wr.heap.size, 0, none⟩ = some (.int .i64 (n : Int)) := q0
                  replace q1 : w10.cell? ⟨wr.heap.size, 1, none⟩ = some (.int .i64 (a : Int)) := q1
                  obtain ⟨s, hs1, hs2, hs3⟩ := HAT.out n a hse
                  have hnl : n < L.length := (List.getElem?_eq_some_iff.1 hs1).1
                  have hal : a < s.cs.length := (List.getElem?_eq_some_iff.1 hs3).1
                  have hscl := HCS.out n s hs1
                  obtain ⟨b8, a8, c8, rfl, hb8, f0, f1, f2, hI8⟩ := (HRL7.out.below HB10.out) n s hs1
                  obtain ⟨b9, o9, rfl, hb9, g0⟩ := hI8 a (by rw [ints_length]; exact hal)
                  rw [show (ints s.cs)[a]?.getD 0 = (i : Int) by simp [ints, hs3]] at g0
                  rw [hs2] at f1
                  have hnz : (n : Int) < (L.length : Int) := by omega
                  have haz : (a : Int) < (s.cs.length : Int) := by omega
                  have hn512 : n < 512 := by omega
                  have ha512 : a < 512 := by omega
                  clear hse HST hs1 hs2 hs3 hI8
                  have hi256 : i < 256 := by have := HI.out; omega
                  cases s1 with
                  | some s1 =>
                    simp only [Option.isSome_some, Option.getD_some]
                    clear hor
                    go_wp2
                    go_quiet (fail)
                    go_wp2
                    go_roundg (2 - (0 + 1))
                    case measure => omega
                    case rel => exact ⟨1, by rw [HN2.out]; go_num, rfl, by omega, Nat.le_refl _, below_drewN HB10.out _⟩
                  | none =>
                    have h2 : s2.isSome = true := by simpa using hor
                    rw [h2]
                    simp only [Option.isSome_none, Option.getD_none]
                    clear hor
                    go_wp2
                    go_quiet (fail)
                    go_wp2
                    go_roundg (2 - (0 + 1))
                    case measure => omega
                    case rel => exact ⟨1, by rw [HN2.out]; go_num, rfl, by omega, Nat.le_refl _, below_drewN HB10.out _⟩
              · skip
                have HE : Aside (wr.cell? ⟨bk, 2, none⟩ = some (.int .i64 (seatV (g.seat true i)).1) ∧ wr.cell? ⟨bk, 3, none⟩ = some (.int .i64 (seatV (g.seat true i)).2)) := ⟨(HBj.out.cell (p := ⟨bk, 2, none⟩) hbk).trans HQ.out.2.2.1, (HBj.out.cell (p := ⟨bk, 3, none⟩) hbk).trans HQ.out.2.2.2⟩
                have HST : Aside ((g.seat true i).isSome = ((g.st i 1).isSome || (g.st i 3).isSome)) := HSS.out true i
                have HNS : Aside (g.nS i 2 = g.nS i 1 + (if (g.seat true i).isSome then 1 else 0)) := by show _ = _; simp [Gr.nS]
                have hns : g.nS i 1 ≤ 1024 := HNL.out i 1 HI.out
                have HAT : Aside (∀ n a, g.seat true i = some (n, a) → At L true i n a) := fun n a h => HAA.out true i n a h
                obtain ⟨_, k0, k1, k2, k3, k4⟩ := HX7.out.keep HBj.out
                obtain ⟨e0, e1⟩ := HE.out
                have HBb : Aside (Below w7.heap.size w7 (wr.alloc (.cells #[.int .i64 (seatV (g.seat true i)).1, .int .i64 (seatV (g.seat true i)).2] 38))) := HBj.out.alloc HBj.out.size _
                have HSB : Aside (Sb (wr.alloc (.cells #[.int .i64 (seatV (g.seat true i)).1, .int .i64 (seatV (g.seat true i)).2] 38)) wr.heap.size (seatV (g.seat true i)).1 (seatV (g.seat true i)).2) := Sb.new _ _ _ _
                have cS1 := HSI.out i 1 (by omega) HI.out _ (HB7.out.trans (HBb.out.mono HB7.out.size))
                have CS2 : Aside (∀ W, Below w.heap.size w W → Calls Tryd.prog 28 #[.agg #[.int .i64 g.h, .int .i64 g.w, .slice p.a1 g.B.length p.c1, .slice p.a2 g.R.length p.c2, .slice p.a3 g.D.length p.c3], .int .i64 (i : Nat), .int .i64 3] W fun e w' => e = .returned (.tuple #[.int .i64 ((g.st i 3).getD 0 : Nat), .bool (g.st i 3).isSome]) ∧ Below W.heap.size W w') := fun W h => HSI.out i 3 (by omega) HI.out W h
                generalize g.st i 1 = s1 at *
                generalize g.st i 3 = s2 at *
                clear HE
                go_wp2_with fail
                refine cS1.mono ?_
                rintro e w9 ⟨rfl, hb9⟩
                have HB9 : Aside (Below w7.heap.size w7 w9) := HBb.out.trans (hb9.mono HBb.out.size)
                have HSB9 : Aside (Sb w9 wr.heap.size (seatV (g.seat true i)).1 (seatV (g.seat true i)).2) := HSB.out.keep hb9
                clear cS1 hb9 k0 k1 k2 k3 k4 e0 e1
                obtain ⟨_, k0, k1, k2, k3, k4⟩ := HX7.out.keep HB9.out
                have cS2 := CS2.out w9 (HB7.out.trans (HB9.out.mono HB7.out.size))
                go_wp2_with fail
                refine cS2.mono ?_
                rintro e w10 ⟨rfl, hb10⟩
                have HB10 : Aside (Below w7.heap.size w7 w10) := HB9.out.trans (hb10.mono HB9.out.size)
                obtain ⟨_, q0, q1⟩ := HSB9.out.keep hb10
                clear cS2 hb10 k0 k1 k2 k3 k4 HBb HSB HSB9 HB9 CS2
                cases hse : g.seat true i with
                | none =>
                  rw [hse] at q0 q1 HST HNS
                  have hor : (s1.isSome || s2.isSome) = false := HST.out.symm
                  have HN2 : Aside (g.nS i 2 = g.nS i 1) := HNS.out
                  have h1 : s1 = none := by cases s1 with | none => rfl | some _ => cases hor
                  have h2 : s2 = none := by cases s2 with | none => rfl | some _ => rw [Bool.or_eq_false_iff] at hor; cases hor.2
                  subst h1 h2
                  replace q0 : w10.cell? ⟨wr.heap.size, 0, none⟩ = some (.int .i64 (-1)) := q0
                  replace q1 : w10.cell? ⟨wr.heap.size, 1, none⟩ = some (.int .i64 0) := q1
                  simp only [Option.isSome_none, Option.getD_none]
                  clear hse hor HST
                  go_wp2
                  go_roundg (2 - (1 + 1))
                  case measure => omega
                  case rel => exact ⟨2, by rw [HN2.out], rfl, by omega, Nat.le_refl _, HB10⟩
                | some pr =>
                  obtain ⟨n, a⟩ := pr
                  rw [hse] at q0 q1 HST HNS
                  have HN2 : Aside (g.nS i 2 = g.nS i 1 + 1) := HNS.out
                  have hor : (s1.isSome || s2.isSome) = true := HST.out.symm
                  replace q0 : w10.cell? ⟨wr.heap.size, 0, none⟩ = some (.int .i64 (n : Int)) := q0
                  replace q1 : w10.cell? ⟨wr.heap.size, 1, none⟩ = some (.int .i64 (a : Int)) := q1
                  obtain ⟨s, hs1, hs2, hs3⟩ := HAT.out n a hse
                  have hnl : n < L.length := (List.getElem?_eq_some_iff.1 hs1).1
                  have hal : a < s.cs.length := (List.getElem?_eq_some_iff.1 hs3).1
                  have hscl := HCS.out n s hs1
                  obtain ⟨b8, a8, c8, rfl, hb8, f0, f1, f2, hI8⟩ := (HRL7.out.below HB10.out) n s hs1
                  obtain ⟨b9, o9, rfl, hb9, g0⟩ := hI8 a (by rw [ints_length]; exact hal)
                  rw [show (ints s.cs)[a]?.getD 0 = (i : Int) by simp [ints, hs3]] at g0
                  rw [hs2] at f1
                  have hnz : (n : Int) < (L.length : Int) := by omega
                  have haz : (a : Int) < (s.cs.length : Int) := by omega
                  have hn512 : n < 512 := by omega
                  have ha512 : a < 512 := by omega
                  clear hse HST hs1 hs2 hs3 hI8
                  have hi256 : i < 256 := by have := HI.out; omega
                  cases s1 with
                  | some s1 =>
                    simp only [Option.isSome_some, Option.getD_some]
                    clear hor
                    go_wp2
                    go_quiet (fail)
                    go_wp2
                    go_roundg (2 - (1 + 1))
                    case measure => omega
                    case rel => exact ⟨2, by rw [HN2.out]; go_num, rfl, by omega, Nat.le_refl _, below_drewN HB10.out _⟩
                  | none =>
                    have h2 : s2.isSome = true := by simpa using hor
                    rw [h2]
                    simp only [Option.isSome_none, Option.getD_none]
                    clear hor
                    go_wp2
                    go_quiet (fail)
                    go_wp2
                    go_roundg (2 - (1 + 1))
                    case measure => omega
                    case rel => exact ⟨2, by rw [HN2.out]; go_num, rfl, by omega, Nat.le_refl _, below_drewN HB10.out _⟩
            · obtain rfl : k = 2 := by omega
              have HN2 : Aside (g.nS (i + 1) 0 = g.nS i 2) := HNN.out i
              have HB9 : Aside (Below w5.heap.size w5 wr) := HBr5.out.trans (HBj.out.mono HBr5.out.size)
              go_wp2
              go_roundg (g.n - (i + 1))
              case measure => have := HI.out; have := HG2.out; omega
              case rel => exact ⟨i + 1, by rw [HN2.out], by go_num, HI.out, Nat.le_refl _, HB9⟩
          · have hltz : ¬ (i : Int) < (g.n : Int) := by omega
            obtain rfl : i = g.n := by omega
            have HF : Aside (sumK L L.length = g.nS g.n 0) := by show _ = _; rw [HTOT.out]; simp [Gr.nS]
            rw [HF.out]
            go_wp2
            go_ret
            exact ⟨rfl, HB5.out.trans (HBr.out.mono HB5.out.size)⟩
  · have hc2 : ¬ ((g.chk : Nat) : Int) = 0 := by have : ¬ g.chk = 0 := hok; omega
    have e1 : g.sl.length = 0 := by rw [Gr.sl_shut hok]; rfl
    have e2 : g.m = 0 := if_neg hok
    rw [e1, e2]
    clear e1 e2
    go_wp2_with fail
    refine cC.mono ?_
    rintro e w4 ⟨rfl, hb4⟩
    have HB4 : Aside (Below w.heap.size w w4) := HB3.out.trans (hb4.mono HB3.out.size)
    clear cC hb4 k0 k1 k2 k3 k4
    go_wp2
    go_ret
    exact ⟨rfl, HB4.out⟩
end Go.Proofs.YtilokjcbkhhifaaDoor.Grd
