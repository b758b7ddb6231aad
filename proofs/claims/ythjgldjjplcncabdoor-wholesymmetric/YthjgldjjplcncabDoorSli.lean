/-
  The program's Seats.
-/
import Derived.Test.YthjgldjjplcncabDoorSlh
import Derived.Deep.CutRange
import Derived.Deep.RegionWith
namespace Go.Proofs.YthjgldjjplcncabDoor.Grd
open Go Go.Lib Go.RowKit

theorem below_dw {w w' : World} (h : Below w.drew.heap.size w.drew w') : Below w.heap.size w w' := (Below.drew (Below.refl _ _)).trans h
theorem OwnL.grown {W W' : World} {B b : Nat} {v : Value} {L : List Sl} {us : List Value} (h : OwnL W B v L us) (hg : W.grownBy W' (some b)) (hb : b < B) : OwnL W' B v L us :=
  ⟨row_grown h.row hg fun j hj e => by cases e; have := (h.row.lt _ hj).1; omega, h.len, fun k s u h1 h2 => row_grown (h.each k s u h1 h2) hg fun j hj e => by cases e; have := ((h.each k s u h1 h2).lt _ hj).1; omega, h.two⟩
theorem OwnL.at {W : World} {B : Nat} {ao : Option Addr} {cap : Nat} {L : List Sl} {us : List Value} {k : Nat} {s : Sl} (h : OwnL W B (.slice ao L.length cap) L us) (hs : L[k]? = some s) :
    ∃ b a' c', ao = some ⟨b, 0, none⟩ ∧ us[k]? = some (.slice a' s.cs.length c') ∧ b < W.heap.size ∧ W.cell? ⟨b, k * 3, none⟩ = some (.int .i64 (s.num : Int)) ∧ W.cell? ⟨b, k * 3 + 1, none⟩ = some (.bool s.dn) ∧ W.cell? ⟨b, k * 3 + 2, none⟩ = some (.slice a' s.cs.length c') := by
  have hr := h.row
  have hkl := (List.getElem?_eq_some_iff.1 hs).1
  rcases hr.2 with ⟨h0, h1⟩ | ⟨g, cap', cur, e, hb, _⟩
  · omega
  · cases e
    have hu : us[k]? = some (us[k]'(by rw [h.len]; exact hkl)) := List.getElem?_eq_getElem _
    generalize us[k]'(by rw [h.len]; exact hkl) = u at hu
    obtain ⟨c1, c2, c3⟩ := slCells_at L us k s u hs hu
    obtain ⟨a', c', rfl, _, _⟩ := row_reads (h.each k s u hs hu)
    have cell := fun (j : Nat) (x : Value) (hx : (slCells L us)[j]? = some x) => by
      have := hr.cells (g := g) rfl j x hx
      rwa [show (⟨g, 0, none⟩ : Addr).add j = ⟨g, j, none⟩ by unfold Addr.add; split <;> simp_all] at this
    rw [ints_length] at c3 hu
    rw [Nat.mul_comm 3 k] at c1 c2 c3
    exact ⟨g, a', c', rfl, hu, (hr.lt g rfl).2, cell _ _ c1, cell _ _ c2, cell _ _ c3⟩
theorem OwnL.ints {W : World} {B : Nat} {v : Value} {L : List Sl} {us : List Value} {k : Nat} {s : Sl} {a' : Option Addr} {l c' : Nat} (h : OwnL W B v L us) (hs : L[k]? = some s) (hu : us[k]? = some (.slice a' l c')) : ReadsI W a' (ints s.cs) := by
  obtain ⟨x, y, e, _, hR⟩ := row_reads (h.each k s _ hs hu)
  cases e
  exact hR

/-- How many seats a grid has of each direction. -/
def Gr.m (g : Gr) : Nat := if g.ok then g.n else 0
/-- The two lists of seats, in memory of the call's own. -/
structure OwnS (W : World) (B : Nat) (va vd : Value) (g : Gr) : Prop where
  ra : W.ownsRow B 77 2 va g.m (cellsS (fun i => seatV (g.seat false i)) g.m)
  rd : W.ownsRow B 77 2 vd g.m (cellsS (fun i => seatV (g.seat true i)) g.m)
  ap : ∀ j, va.ownBlock = some j → vd.ownBlock ≠ some j
/-- The two lists, on the way. -/
structure TwoS (W : World) (B ba bd : Nat) (g : Gr) (k aF aT : Nat) : Prop where
  ra : W.ownsRow B 77 2 (.slice (some ⟨ba, 0, none⟩) g.n g.n) g.n (cellsS (fun i => seatV (g.seatK false k aF i)) g.n)
  rd : W.ownsRow B 77 2 (.slice (some ⟨bd, 0, none⟩) g.n g.n) g.n (cellsS (fun i => seatV (g.seatK true k aT i)) g.n)
  ne : ba ≠ bd
theorem TwoS.below {W W' : World} {B ba bd : Nat} {g : Gr} {k aF aT : Nat} (h : TwoS W B ba bd g k aF aT) (hb : Below W.heap.size W W') : TwoS W' B ba bd g k aF aT := ⟨row_keeps3 h.ra hb, row_keeps3 h.rd hb, h.ne⟩

theorem seatV_zero (g : Gr) (dn : Bool) : (fun i => seatV (g.seatK dn 0 0 i)) = fun _ => (-1, 0) := by
  funext i
  rw [Gr.seatK_zero]
  rfl
theorem TwoS.new {w W1 W2 : World} {b1 b2 : Nat} {g : Gr} (h1 : W1.ownsRow w.drew.heap.size 77 2 (.slice (some ⟨b1, 0, none⟩) g.n g.n) g.n (cellsS (fun _ => (-1, 0)) g.n)) (hb1 : Below w.drew.heap.size w.drew W1)
    (h2 : W2.ownsRow W1.heap.size 77 2 (.slice (some ⟨b2, 0, none⟩) g.n g.n) g.n (cellsS (fun _ => (-1, 0)) g.n)) (hb2 : Below W1.heap.size W1 W2) {w0 : World} (hB : Below w0.heap.size w0 w) : TwoS W2 w0.heap.size b1 b2 g 0 0 0 ∧ Below w0.heap.size w0 W2 := by
  have hB1 : Below w0.heap.size w0 W1 := hB.trans ((below_dw hb1).mono hB.size)
  refine ⟨⟨?_, ?_, ?_⟩, hB1.trans (hb2.mono hB1.size)⟩
  · rw [seatV_zero]; exact row_base3 (row_keeps3 h1 hb2) hB.size
  · rw [seatV_zero]; exact row_base3 h2 hB1.size
  · have := (h1.lt b1 rfl).2
    have := (h2.lt b2 rfl).1
    omega
set_option maxRecDepth 20000 in
set_option maxHeartbeats 4000000 in
theorem Seats_ok (g : Gr) (p : Ad) (hok : g.ok) (w : World) (hw : Wy w) (hR : RG w g p) :
    Calls Tryd.prog 28 #[gv g p] w fun e w' => ∃ ba bd, e = .returned (.tuple #[.slice (some ⟨ba, 0, none⟩) g.n g.n, .slice (some ⟨bd, 0, none⟩) g.n g.n]) ∧ TwoS w' w.heap.size ba bd g g.sl.length 0 0 ∧ Below w.heap.size w w' := by
  have hr := Gr.right_of hok
  have hn := hr.n_le.2
  have HBl : Aside (g.B.length = g.n) := hr.bl
  have HW : Aside (∀ W, Below w.heap.size w W → Wy W ∧ RG W g p) := fun W hb => ⟨hw.below hw.size hb, hR.below hb⟩
  have cC := check_any g p (w.alloc (.cells #[.int .i64 g.h, .int .i64 g.w, .slice p.a1 g.B.length p.c1, .slice p.a2 g.R.length p.c2, .slice p.a3 g.D.length p.c3] 27)) (HW.out _ (below_box w _)).1 (HW.out _ (below_box w _)).2
  rw [show g.chk = 0 from hok] at cC
  have HL : Aside (∀ W, Below w.heap.size w W → Calls Tryd.prog 10 #[gv g p] W fun e w' => ∃ v us, e = .returned v ∧ OwnL w' W.heap.size v g.sl us ∧ Below W.heap.size W w') := fun W hb => List_any g p W (HW.out W hb).1 (HW.out W hb).2
  have HN : Aside (∀ W, Calls Tryd.prog 45 #[.int .i64 (g.B.length : Nat)] W fun e w' => ∃ b, e = .returned (.slice (some ⟨b, 0, none⟩) g.n g.n) ∧ w'.ownsRow W.heap.size 77 2 (.slice (some ⟨b, 0, none⟩) g.n g.n) g.n (cellsS (fun _ => (-1, 0)) g.n) ∧ Below W.heap.size W w') := fun W => by rw [HBl.out]; exact noSeats_any g.n W hn
  have hln := g.sl_len
  unfold gv at HL cC
  unfold gv
  clear hw hR hr
  go_enter Tryd.func28, Tryd.ntmps28
  go_wp2_with fail
  refine cC.mono ?_
  rintro e w1 ⟨rfl, hb1⟩
  have HX1 : Aside (Bx w1 w.heap.size g p) := (Bx.new w g p _).keep hb1
  have HB1 : Aside (Below w.heap.size w w1) := (below_box w _).trans (hb1.mono (below_box w _).size)
  obtain ⟨_, k0, k1, k2, k3, k4⟩ := HX1.out
  have cN1 := HN.out w1.drew
  clear hb1 cC
  go_wp2
  go_cut [4, 5] from 14 to 21 (fun sa sb wd => ∃ ba bd, sa = .slice (some ⟨ba, 0, none⟩) g.n g.n ∧ sb = .slice (some ⟨bd, 0, none⟩) g.n g.n ∧ Aside ((TwoS wd w.heap.size ba bd g 0 0 0 ∧ Below w.heap.size w wd) ∧ Below w1.heap.size w1 wd))
  case first =>
    go_region_with (first
      | (go_at_call 45; refine cN2.mono ?_; rintro e w3 ⟨b2, rfl, ho2, hb2⟩; have HE := TwoS.new ho1 hb1 ho2 hb2 HB1.out; have HF := (below_dw hb1).trans (hb2.mono (below_dw hb1).size); clear cN2)
      | (go_at_call 45; refine cN1.mono ?_; rintro e w2 ⟨b1, rfl, ho1, hb1⟩; have cN2 := HN.out w2; obtain ⟨_, j0, j1, j2, j3, j4⟩ := HX1.out.keep (below_dw hb1)))
    all_goals (try go_simp)
    all_goals (go_wp2_with fail)
    all_goals go_meet
    all_goals exact ⟨_, _, rfl, rfl, HE, HF⟩
  case rest =>
  rename World => w4
  obtain ⟨ba, bd, rfl, rfl, HE⟩ := hcut
  have HT4 : Aside (TwoS w4 w.heap.size ba bd g 0 0 0) := HE.out.1.1
  have HB4 : Aside (Below w.heap.size w w4) := HE.out.1.2
  have HBX : Aside (Below w1.heap.size w1 w4) := HE.out.2
  have cL := HL.out w4 HB4.out
  clear HE cN1 k0 k1 k2 k3 k4
  have HX4 : Aside (Bx w4 w.heap.size g p) := HX1.out.keep HBX.out
  obtain ⟨_, k0, k1, k2, k3, k4⟩ := HX4.out
  go_wp2_with fail
  refine cL.mono ?_
  rintro e w5 ⟨v, us, rfl, hO, hb5⟩
  obtain ⟨ao, cap, rfl, _⟩ := hO.read
  have HO5 : Aside (OwnL w5 w4.heap.size (.slice ao g.sl.length cap) g.sl us) := hO
  have HT5 : Aside (TwoS w5 w.heap.size ba bd g 0 0 0) := HT4.out.below hb5
  have HB5 : Aside (Below w.heap.size w w5) := HB4.out.trans (hb5.mono HB4.out.size)
  have HLO : Aside (ba < w4.heap.size ∧ bd < w4.heap.size) := ⟨(HT4.out.ra.lt _ rfl).2, (HT4.out.rd.lt _ rfl).2⟩
  clear hO cL hb5 k0 k1 k2 k3 k4
  go_wp2
  --LOOP
  have HATS : Aside (∀ (k : Nat) (s : Sl), g.sl[k]? = some s → s.cs.length ≤ 257 ∧ ∀ (a c : Nat), s.cs[a]? = some c → c < g.n) := fun k s hs => ⟨Gr.sl_cs hs, fun a c hc => (Gr.at_lt ⟨s, hs, rfl, hc⟩).1⟩
  have HNXT : Aside (∀ (k : Nat) (s : Sl), g.sl[k]? = some s → ∀ (dn : Bool) (i : Nat), g.seatK dn (k + 1) 0 i = g.seatK dn k (if s.dn = dn then s.cs.length else 0) i) := fun k s hs dn i => Gr.seatK_next hs i
  have HSTP : Aside (∀ (k : Nat) (s : Sl), g.sl[k]? = some s → ∀ (a c : Nat), s.cs[a]? = some c → ∀ i, g.seatK s.dn k (a + 1) i = if i = c then some (k, a) else g.seatK s.dn k a i) := fun k s hs a c hc i => Gr.seatK_step hs hc i
  generalize hLL : g.sl = L at *
  have HLL : Aside (g.sl = L) := hLL
  clear hLL
  go_loopg [25] L.length (fun g1 iv wr => ∃ k : Nat, iv = .int .i64 (k : Int) ∧ k ≤ L.length ∧ L.length - k ≤ g1 ∧ Aside (TwoS wr w.heap.size ba bd g k 0 0) ∧ Aside (OwnL wr w4.heap.size (.slice ao L.length cap) L us) ∧ Aside (Below w.heap.size w wr))
  case atStart => exact ⟨0, rfl, Nat.zero_le _, Nat.le_refl _, HT5, HO5, HB5⟩
  case round =>
    obtain ⟨k, rfl, hk, hg, HT, HO, HB⟩ := hrel
    by_cases hlt : k < L.length
    · have hltz : (k : Int) < (L.length : Int) := by omega
      have hs : L[k]? = some (L[k]'hlt) := List.getElem?_eq_getElem hlt
      generalize L[k]'hlt = s at hs
      have HKS : Aside (L[k]? = some s) := hs
      obtain ⟨hcl, hcn⟩ := HATS.out k s hs
      have HCN : Aside (∀ (a c : Nat), s.cs[a]? = some c → c < g.n) := hcn
      have HNX : Aside _ := HNXT.out k s hs
      have HSTEP : Aside _ := HSTP.out k s hs
      obtain ⟨b, a', c', rfl, hu, hb, e0, e1, e2⟩ := HO.out.at hs
      have HU : Aside (us[k]? = some (.slice a' s.cs.length c')) := hu
      have HG1 : Aside _ := hg
      have HK : Aside (k < L.length) := hlt
      have HTb : Aside (TwoS (wr.alloc (.cells #[.int .i64 (s.num : Int), .bool s.dn, .slice a' s.cs.length c'] 39)) w.heap.size ba bd g k 0 0) := HT.out.below (below_box _ _)
      have HOb : Aside (OwnL (wr.alloc (.cells #[.int .i64 (s.num : Int), .bool s.dn, .slice a' s.cs.length c'] 39)) w4.heap.size (.slice (some ⟨b, 0, none⟩) L.length cap) L us) := HO.out.alloc _
      have HBb : Aside (Below w.heap.size w (wr.alloc (.cells #[.int .i64 (s.num : Int), .bool s.dn, .slice a' s.cs.length c'] 39))) := HB.out.alloc HB.out.size _
      clear hu hs hcn HT5 HO5 HB5 HNXT HSTP HT HO HB
      cases hdn : s.dn with
      | false =>
        rw [hdn] at e1 HTb HOb HBb
        rw [hdn] at HSTEP HNX
        have HNX : Aside (∀ (dn : Bool) (i : Nat), g.seatK dn (k + 1) 0 i = g.seatK dn k (if false = dn then s.cs.length else 0) i) := HNX
        have HSTEP : Aside (∀ (a c : Nat), s.cs[a]? = some c → ∀ i, g.seatK false k (a + 1) i = if i = c then some (k, a) else g.seatK false k a i) := HSTEP
        clear hdn
        go_wp2
        go_loopg [37] s.cs.length (fun g2 iv wr => ∃ a : Nat, iv = .int .i64 (a : Int) ∧ a ≤ s.cs.length ∧ s.cs.length - a ≤ g2 ∧ Aside (TwoS wr w.heap.size ba bd g k a 0) ∧ Aside (OwnL wr w4.heap.size (.slice (some ⟨b, 0, none⟩) L.length cap) L us) ∧ Aside (Below w.heap.size w wr))
        case atStart => exact ⟨0, rfl, Nat.zero_le _, Nat.le_refl _, HTb, HOb, HBb⟩
        case round =>
          obtain ⟨a, rfl, ha, hg2, HT6, HO6, HB6⟩ := hrel
          by_cases hla : a < s.cs.length
          · have hlaz : (a : Int) < (s.cs.length : Int) := by omega
            have hc : s.cs[a]? = some (s.cs[a]'hla) := List.getElem?_eq_getElem hla
            generalize s.cs[a]'hla = c at hc
            obtain ⟨b7, o7, rfl, hb7, e7⟩ := (HO6.out.ints HKS.out HU.out) a (by rw [ints_length]; exact hla)
            rw [show (ints s.cs)[a]?.getD 0 = (c : Int) by simp [ints, hc]] at e7
            have hcn : c < g.n := HCN.out a c hc
            have hcz : (c : Int) < (g.n : Int) := by omega
            have hc256 : c < 256 := by omega
            have c0 := HT6.out.ra.cellAt (c * 2) (by omega)
            have c1 := HT6.out.ra.cellAt (c * 2 + 1) (by omega)
            rw [(cellsS_at hcn).1] at c0
            rw [(cellsS_at hcn).2] at c1
            have f0 := HT6.out.ra.frozenAt (c * 2)
            have f1 := HT6.out.ra.frozenAt (c * 2 + 1)
            have HST : Aside (TwoS ((wr.setCell ⟨ba, c * 2, none⟩ (.int .i64 (k : Int))).setCell ⟨ba, c * 2 + 1, none⟩ (.int .i64 (a : Int))) w.heap.size ba bd g k (a + 1) 0 ∧ OwnL ((wr.setCell ⟨ba, c * 2, none⟩ (.int .i64 (k : Int))).setCell ⟨ba, c * 2 + 1, none⟩ (.int .i64 (a : Int))) w4.heap.size (.slice (some ⟨b, 0, none⟩) L.length cap) L us ∧ Below w.heap.size w ((wr.setCell ⟨ba, c * 2, none⟩ (.int .i64 (k : Int))).setCell ⟨ba, c * 2 + 1, none⟩ (.int .i64 (a : Int)))) := by
              have e := seat_stored HT6.out.ra hcn (k : Int) (a : Int) HB6.out (Nat.le_refl _) (f' := fun i => seatV (g.seatK false k (a + 1) i)) (fun j hj => by rw [HSTEP.out a c hc j]; by_cases h : j = c <;> simp [h, seatV])
              have g1 := HT6.out.ra.stored (c * 2) (.int .i64 (k : Int))
              have g2 := g1.1.stored (c * 2 + 1) (.int .i64 (a : Int))
              have hne := HT6.out.ne
              have hlo := HLO.out.1
              refine ⟨⟨e.1, row_grown (row_grown HT6.out.rd g1.2 fun j hj h => ?_) g2.2 fun j hj h => ?_, hne⟩, (HO6.out.grown g1.2 hlo).grown g2.2 hlo, e.2⟩
              · cases h; cases hj; exact hne rfl
              · cases h; cases hj; exact hne rfl
            clear hc
            go_wp2
            go_roundg (s.cs.length - (a + 1))
            case measure => omega
            case rel => exact ⟨a + 1, by go_num, by omega, Nat.le_refl _, HST.out.1, HST.out.2.1, HST.out.2.2⟩
          · have hlaz : ¬ (a : Int) < (s.cs.length : Int) := by omega
            obtain rfl : a = s.cs.length := by omega
            have HTn : Aside (TwoS wr w.heap.size ba bd g (k + 1) 0 0) := by
              have ht := HT6.out
              refine ⟨?_, ?_, ht.ne⟩
              · rw [cellsS_congr (fun i _ => congrArg seatV (HNX.out false i))]; exact ht.ra
              · rw [cellsS_congr (fun i _ => congrArg seatV (HNX.out true i))]; exact ht.rd
            go_wp2
            go_roundg (L.length - (k + 1))
            case measure => have := HK.out; have := HG1.out; omega
            case rel => exact ⟨k + 1, by go_num, HK.out, Nat.le_refl _, HTn, HO6, HB6⟩
      | true =>
        rw [hdn] at e1 HTb HOb HBb
        rw [hdn] at HSTEP HNX
        have HNX : Aside (∀ (dn : Bool) (i : Nat), g.seatK dn (k + 1) 0 i = g.seatK dn k (if true = dn then s.cs.length else 0) i) := HNX
        have HSTEP : Aside (∀ (a c : Nat), s.cs[a]? = some c → ∀ i, g.seatK true k (a + 1) i = if i = c then some (k, a) else g.seatK true k a i) := HSTEP
        clear hdn
        go_wp2
        go_loopg [37] s.cs.length (fun g2 iv wr => ∃ a : Nat, iv = .int .i64 (a : Int) ∧ a ≤ s.cs.length ∧ s.cs.length - a ≤ g2 ∧ Aside (TwoS wr w.heap.size ba bd g k 0 a) ∧ Aside (OwnL wr w4.heap.size (.slice (some ⟨b, 0, none⟩) L.length cap) L us) ∧ Aside (Below w.heap.size w wr))
        case atStart => exact ⟨0, rfl, Nat.zero_le _, Nat.le_refl _, HTb, HOb, HBb⟩
        case round =>
          obtain ⟨a, rfl, ha, hg2, HT6, HO6, HB6⟩ := hrel
          by_cases hla : a < s.cs.length
          · have hlaz : (a : Int) < (s.cs.length : Int) := by omega
            have hc : s.cs[a]? = some (s.cs[a]'hla) := List.getElem?_eq_getElem hla
            generalize s.cs[a]'hla = c at hc
            obtain ⟨b7, o7, rfl, hb7, e7⟩ := (HO6.out.ints HKS.out HU.out) a (by rw [ints_length]; exact hla)
            rw [show (ints s.cs)[a]?.getD 0 = (c : Int) by simp [ints, hc]] at e7
            have hcn : c < g.n := HCN.out a c hc
            have hcz : (c : Int) < (g.n : Int) := by omega
            have hc256 : c < 256 := by omega
            have c0 := HT6.out.rd.cellAt (c * 2) (by omega)
            have c1 := HT6.out.rd.cellAt (c * 2 + 1) (by omega)
            rw [(cellsS_at hcn).1] at c0
            rw [(cellsS_at hcn).2] at c1
            have f0 := HT6.out.rd.frozenAt (c * 2)
            have f1 := HT6.out.rd.frozenAt (c * 2 + 1)
            have HST : Aside (TwoS ((wr.setCell ⟨bd, c * 2, none⟩ (.int .i64 (k : Int))).setCell ⟨bd, c * 2 + 1, none⟩ (.int .i64 (a : Int))) w.heap.size ba bd g k 0 (a + 1) ∧ OwnL ((wr.setCell ⟨bd, c * 2, none⟩ (.int .i64 (k : Int))).setCell ⟨bd, c * 2 + 1, none⟩ (.int .i64 (a : Int))) w4.heap.size (.slice (some ⟨b, 0, none⟩) L.length cap) L us ∧ Below w.heap.size w ((wr.setCell ⟨bd, c * 2, none⟩ (.int .i64 (k : Int))).setCell ⟨bd, c * 2 + 1, none⟩ (.int .i64 (a : Int)))) := by
              have e := seat_stored HT6.out.rd hcn (k : Int) (a : Int) HB6.out (Nat.le_refl _) (f' := fun i => seatV (g.seatK true k (a + 1) i)) (fun j hj => by rw [HSTEP.out a c hc j]; by_cases h : j = c <;> simp [h, seatV])
              have g1 := HT6.out.rd.stored (c * 2) (.int .i64 (k : Int))
              have g2 := g1.1.stored (c * 2 + 1) (.int .i64 (a : Int))
              have hne := HT6.out.ne
              have hlo := HLO.out.2
              refine ⟨⟨row_grown (row_grown HT6.out.ra g1.2 fun j hj h => ?_) g2.2 fun j hj h => ?_, e.1, hne⟩, (HO6.out.grown g1.2 hlo).grown g2.2 hlo, e.2⟩
              · cases h; cases hj; exact hne rfl
              · cases h; cases hj; exact hne rfl
            clear hc
            go_wp2
            go_roundg (s.cs.length - (a + 1))
            case measure => omega
            case rel => exact ⟨a + 1, by go_num, by omega, Nat.le_refl _, HST.out.1, HST.out.2.1, HST.out.2.2⟩
          · have hlaz : ¬ (a : Int) < (s.cs.length : Int) := by omega
            obtain rfl : a = s.cs.length := by omega
            have HTn : Aside (TwoS wr w.heap.size ba bd g (k + 1) 0 0) := by
              have ht := HT6.out
              refine ⟨?_, ?_, ht.ne⟩
              · rw [cellsS_congr (fun i _ => congrArg seatV (HNX.out false i))]; exact ht.ra
              · rw [cellsS_congr (fun i _ => congrArg seatV (HNX.out true i))]; exact ht.rd
            go_wp2
            go_roundg (L.length - (k + 1))
            case measure => have := HK.out; have := HG1.out; omega
            case rel => exact ⟨k + 1, by go_num, HK.out, Nat.le_refl _, HTn, HO6, HB6⟩
    · have hltz : ¬ (k : Int) < (L.length : Int) := by omega
      obtain rfl : k = L.length := by omega
      go_wp2
      go_ret2
      exact ⟨_, _, rfl, by rw [HLL.out]; exact HT.out, HB.out⟩

set_option maxHeartbeats 1000000 in
theorem Seats_shut (g : Gr) (p : Ad) (hc : ¬ g.ok) (w : World) (hw' : Wy w) (hR : RG w g p) :
    Calls Tryd.prog 28 #[gv g p] w fun e w' => e = .returned (.tuple #[.slice none 0 0, .slice none 0 0]) ∧ Below w.heap.size w w' := by
  have cC := check_any g p (w.alloc (.cells #[.int .i64 g.h, .int .i64 g.w, .slice p.a1 g.B.length p.c1, .slice p.a2 g.R.length p.c2, .slice p.a3 g.D.length p.c3] 27)) (hw'.below hw'.size (below_box w _)) (hR.below (below_box w _))
  have hc2 : ¬ g.chk = 0 := hc
  have hc3 : ¬ ((g.chk : Nat) : Int) = 0 := by omega
  unfold gv at cC
  unfold gv
  clear hR hw' hc
  go_enter Tryd.func28, Tryd.ntmps28
  go_wp2_with fail
  refine cC.mono ?_
  rintro e w1 ⟨rfl, hb1⟩
  have HB1 : Aside (Below w.heap.size w w1) := (below_box w _).trans (hb1.mono (below_box w _).size)
  clear cC hb1
  go_wp2
  go_ret2
  exact ⟨rfl, HB1.out⟩
/-- The program's Seats, of any grid. -/
theorem Seats_any (g : Gr) (p : Ad) (w : World) (hw : Wy w) (hR : RG w g p) :
    Calls Tryd.prog 28 #[gv g p] w fun e w' => ∃ va vd, e = .returned (.tuple #[va, vd]) ∧ OwnS w' w.heap.size va vd g ∧ Below w.heap.size w w' := by
  by_cases hok : g.ok
  · refine (Seats_ok g p hok w hw hR).mono ?_
    rintro e w' ⟨ba, bd, rfl, hT, hb⟩
    have hm : g.m = g.n := if_pos hok
    refine ⟨_, _, rfl, ⟨?_, ?_, fun j h e => ?_⟩, hb⟩
    · rw [hm, cellsS_congr (fun i _ => congrArg seatV (g.seatK_all false i).symm)]; exact hT.ra
    · rw [hm, cellsS_congr (fun i _ => congrArg seatV (g.seatK_all true i).symm)]; exact hT.rd
    · cases h; cases e; exact hT.ne rfl
  · refine (Seats_shut g p hok w hw hR).mono ?_
    rintro e w' ⟨rfl, hb⟩
    have hm : g.m = 0 := if_neg hok
    refine ⟨_, _, rfl, ⟨?_, ?_, fun j h => by cases h⟩, hb⟩
    · rw [hm]; exact ⟨rfl, .inl ⟨rfl, rfl⟩⟩
    · rw [hm]; exact ⟨rfl, .inl ⟨rfl, rfl⟩⟩
end Go.Proofs.YthjgldjjplcncabDoor.Grd
