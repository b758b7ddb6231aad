/-
  SlotsRuns walked.
-/
import Derived.Test.YtilokjcbkhhifaaDoorSlw
import Derived.Test.YtilokjcbkhhifaaDoorSrunm
import Derived.Deep.RegionWith
namespace Go.Proofs.YtilokjcbkhhifaaDoor.Grd
open Go Go.Lib Go.RowKit

theorem below_dr {w w' : World} (h : Below w.drew.heap.size w.drew w') : Below w.heap.size w w' := (Below.drew (Below.refl _ _)).trans h
/-- A slot in a block of its own. -/
structure Qx (W : World) (b : Nat) (s : Sl) (dn : Bool) (a' : Option Addr) (c' : Nat) : Prop where
  lt : b < W.heap.size
  q0 : W.cell? ⟨b, 0, none⟩ = some (.int .i64 (s.num : Int))
  q1 : W.cell? ⟨b, 1, none⟩ = some (.bool dn)
  q2 : W.cell? ⟨b, 2, none⟩ = some (.slice a' s.cs.length c')
theorem Qx.keep {W W' : World} {b : Nat} {s : Sl} {dn : Bool} {a' : Option Addr} {c' : Nat} (h : Qx W b s dn a' c') (hb : Below W.heap.size W W') : Qx W' b s dn a' c' :=
  ⟨Nat.lt_of_lt_of_le h.lt hb.size, (hb.cell (p := ⟨b, 0, none⟩) h.lt).trans h.q0, (hb.cell (p := ⟨b, 1, none⟩) h.lt).trans h.q1, (hb.cell (p := ⟨b, 2, none⟩) h.lt).trans h.q2⟩
theorem Qx.new (w : World) (s : Sl) (dn : Bool) (a' : Option Addr) (c' : Nat) (t : TypeId) : Qx (w.alloc (.cells #[.int .i64 (s.num : Int), .bool dn, .slice a' s.cs.length c'] t)) w.heap.size s dn a' c' :=
  ⟨by rw [World.size_alloc]; omega, cells_box _ _ _ _, cells_box _ _ _ _, cells_box _ _ _ _⟩

set_option maxRecDepth 20000 in
set_option maxHeartbeats 4000000 in
theorem slotsRuns_walk (g : Gr) (p : Ad) (w : World) (hR : RG w g p) (hw : Wy w) :
    Calls Tryd.prog 6 #[gv g p] w fun e w' => e = .returned (.bool true) ∧ Below w.heap.size w w' := by
  have HW : Aside (∀ W, Below w.heap.size w W → Wy W ∧ RG W g p) := fun W hb => ⟨hw.below hw.size hb, hR.below hb⟩
  have cA := awake7_any (w.alloc (.cells #[.int .i64 g.h, .int .i64 g.w, .slice p.a1 g.B.length p.c1, .slice p.a2 g.R.length p.c2, .slice p.a3 g.D.length p.c3] 24)) (HW.out _ (below_box w _)).1
  have HL : Aside (∀ W, Below w.heap.size w W → Calls Tryd.prog 10 #[gv g p] W fun e w' => ∃ v us, e = .returned v ∧ OwnL w' W.heap.size v g.sl us ∧ Below W.heap.size W w') := fun W hb => List_any g p W (HW.out W hb).1 (HW.out W hb).2
  have HS : Aside (∀ i way : Int, ∀ W, Below w.heap.size w W → Calls Tryd.prog 28 #[gv g p, .int .i64 i, .int .i64 way] W fun e w' => e = .returned (opt (g.stI i way)) ∧ Below W.heap.size W w') := fun i way W hb => Step_any g p i way W (HW.out W hb).1 (HW.out W hb).2
  have HG : Aside (∀ (k : Nat) (s : Sl), g.sl[k]? = some s → _) := fun k s h => Gr.sl_good h
  have HN : Aside (∀ (k : Nat) (s : Sl), g.sl[k]? = some s → _) := fun k s h => Gr.nums_sl h
  have hln := g.sl_len
  have HNL : Aside (∀ (k : Nat) (s : Sl), g.sl[k]? = some s → s.num ≤ 512) := fun k s h => Gr.sl_num h
  unfold gv at HL HS
  unfold opt at HS
  unfold gv
  clear hw hR
  generalize hLL : g.sl = L at *
  clear hLL
  go_enter Tryd.func6, Tryd.ntmps6
  go_wp2_with fail
  refine cA.mono ?_
  rintro e w1 ⟨rfl, hb1⟩
  have HX1 : Aside (Bx w1 w.heap.size g p) := (Bx.new w g p _).keep hb1
  have HB1 : Aside (Below w.heap.size w w1) := (below_box w _).trans (hb1.mono (below_box w _).size)
  obtain ⟨_, k0, k1, k2, k3, k4⟩ := HX1.out
  clear hb1 cA
  have cL := HL.out w1 HB1.out
  go_wp2_with fail
  refine cL.mono ?_
  rintro e w2 ⟨v, us, rfl, hO, hb2⟩
  obtain ⟨ao, cap, rfl, hRL⟩ := hO.read
  have HX2 : Aside (Bx w2 w.heap.size g p) := HX1.out.keep hb2
  have HB2 : Aside (Below w.heap.size w w2) := HB1.out.trans (hb2.mono HB1.out.size)
  have HRL : Aside (ReadsL w2 ao L) := hRL
  clear hRL hO cL hb2 k0 k1 k2 k3 k4
  go_wp2
  --LOOP
  have HLV : Aside (∀ (k : Nat) (s : Sl), L[k]? = some s → lvl 1 L (k + 1) = s.num) := fun k s h => lvl_succ h
  have HL0 : Aside (lvl 1 L 0 = 1) := rfl
  go_loopg [3, 18] L.length (fun g1 nv iv wr => ∃ k : Nat, nv = .int .i64 (lvl 1 L k : Nat) ∧ iv = .int .i64 (k : Int) ∧ k ≤ L.length ∧ L.length - k ≤ g1 ∧ Aside (Below w2.heap.size w2 wr))
  case atStart => exact ⟨0, rfl, rfl, Nat.zero_le _, Nat.le_refl _, Below.refl _ _⟩
  case round =>
    obtain ⟨k, rfl, rfl, hk, hg, HB3⟩ := hrel
    by_cases hlt : k < L.length
    · have hltz : (k : Int) < (L.length : Int) := by omega
      have hs : L[k]? = some (L[k]'hlt) := List.getElem?_eq_getElem hlt
      generalize L[k]'hlt = s at hs
      obtain ⟨_, hc2, hc257, HGC0, HGF0⟩ := HG.out k s hs
      have HGC : Aside (∀ (a c : Nat), s.cs[a]? = some c → c < 256 ∧ g.opn c = true ∧ g.stI (c : Int) (way s.dn : Nat) = s.cs[a + 1]?) := HGC0
      have HGF : Aside (∀ c : Nat, s.cs[0]? = some c → g.stI (c : Int) ((way s.dn + 2 : Nat) : Int) = none) := HGF0
      have hnm := HN.out k s hs
      have HLV1 : Aside (lvl 1 L (k + 1) = s.num) := HLV.out k s hs
      obtain ⟨b, a', c', rfl, hb, e0, e1, e2, hRI⟩ := (HRL.out.below HB3.out) k s hs
      have HG1 : Aside _ := hg
      have HK : Aside (k < L.length) := hlt
      have hsn : s.num ≤ 512 := HNL.out k s hs
      have HB4 : Aside (Below w.heap.size w wr) := HB2.out.trans (HB3.out.mono HB2.out.size)
      have HX5 : Aside (Bx (wr.alloc (.cells #[.int .i64 (s.num : Int), .bool s.dn, .slice a' s.cs.length c'] 36)) w.heap.size g p) := (HX2.out.keep HB3.out).keep (below_box _ _)
      have HB5 : Aside (Below w2.heap.size w2 (wr.alloc (.cells #[.int .i64 (s.num : Int), .bool s.dn, .slice a' s.cs.length c'] 36))) := HB3.out.alloc HB3.out.size _
      have HQ5 : Aside (Qx (wr.alloc (.cells #[.int .i64 (s.num : Int), .bool s.dn, .slice a' s.cs.length c'] 36)) wr.heap.size s s.dn a' c') := Qx.new _ _ _ _ _ _
      have HRI : Aside (ReadsI (wr.alloc (.cells #[.int .i64 (s.num : Int), .bool s.dn, .slice a' s.cs.length c'] 36)) a' (ints s.cs)) := hRI.below (below_box _ _)
      have HLM : Aside (lvl 1 L (k + 1) = s.num) := HLV1.out
      generalize lvl 1 L k = m at *
      have hm1 : ¬ (s.num : Int) < (m : Int) := by omega
      have hm2 : ¬ (m : Int) + 1 < (s.num : Int) := by omega
      have hm3 : m ≤ 513 := by omega
      clear hnm hs hRI HLV HLV1
      cases hdn : s.dn with
      | false =>
        rw [hdn] at e1 HX5 HB5 HQ5 HRI HGC HGF
        clear hdn
        go_wp2
        generalize wr.alloc (.cells #[.int .i64 (s.num : Int), .bool false, .slice a' s.cs.length c'] 36) = w5 at *
        generalize hqb : wr.heap.size = qb at *
        clear hqb e0 e1 e2 hb
        have hc2z : 0 < s.cs.length := by omega
        clear HB3 HB4
        go_loopg [46] s.cs.length (fun g2 iv wr => ∃ a : Nat, iv = .int .i64 (a : Int) ∧ a ≤ s.cs.length ∧ s.cs.length - a ≤ g2 ∧ Aside (Below w5.heap.size w5 wr))
        case atStart => exact ⟨0, rfl, Nat.zero_le _, Nat.le_refl _, Below.refl _ _⟩
        case round =>
          obtain ⟨a, rfl, ha, hg2, HB6⟩ := hrel
          have HBw : Aside (Below w.heap.size w wr) := HB2.out.trans ((HB5.out.trans (HB6.out.mono HB5.out.size)).mono HB2.out.size)
          by_cases hla : a < s.cs.length
          · have hlaz : (a : Int) < (s.cs.length : Int) := by omega
            have hc : s.cs[a]? = some (s.cs[a]'hla) := List.getElem?_eq_getElem hla
            generalize s.cs[a]'hla = c at hc
            obtain ⟨hc256, hco, hst⟩ := HGC.out a c hc
            obtain ⟨b7, o7, rfl, hb7, e7⟩ := (HRI.out.below HB6.out) a (by rw [ints_length]; exact hla)
            rw [show (ints s.cs)[a]?.getD 0 = (c : Int) by simp [ints, hc]] at e7
            have cS := HS.out (c : Int) 0 wr HBw.out
            rw [show g.stI (c : Int) 0 = s.cs[a + 1]? from hst] at cS
            obtain ⟨_, k0, k1, k2, k3, k4⟩ := HX5.out.keep HB6.out
            clear hst hc hco
            by_cases hl1 : a + 1 < s.cs.length
            · have hl1z : (a : Int) + 1 < (s.cs.length : Int) := by omega
              have hc1 : s.cs[a + 1]? = some (s.cs[a + 1]'hl1) := List.getElem?_eq_getElem hl1
              generalize s.cs[a + 1]'hl1 = c1 at hc1
              obtain ⟨b8, o8, e8a, hb8, e8⟩ := (HRI.out.below HB6.out) (a + 1) (by rw [ints_length]; exact hl1)
              rw [show (ints s.cs)[a + 1]?.getD 0 = (c1 : Int) by simp [ints, hc1]] at e8
              cases e8a
              rw [hc1] at cS
              simp only [Option.getD_some, Option.isSome_some] at cS
              have HE8 : Aside (wr.cell? ⟨b7, o7 + (a + 1), none⟩ = some (.int .i64 (c1 : Int))) := e8
              clear hc1 e8
              go_wp2_with fail
              refine cS.mono ?_
              rintro e w7 ⟨rfl, hb7s⟩
              have e8 := (hb7s.cell (p := ⟨b7, o7 + (a + 1), none⟩) hb8).trans HE8.out
              have HB7 : Aside (Below w5.heap.size w5 w7) := HB6.out.trans (hb7s.mono HB6.out.size)
              clear k0 k1 k2 k3 k4 e7
              obtain ⟨_, q0, q1, q2⟩ := HQ5.out.keep HB7.out
              clear cS hb7s
              go_wp2
              go_roundg (s.cs.length - (a + 1))
              case measure => omega
              case rel => exact ⟨a + 1, by go_num, by omega, Nat.le_refl _, HB7⟩
            · have hl1z : ¬ (a : Int) + 1 < (s.cs.length : Int) := by omega
              have hc1 : s.cs[a + 1]? = none := List.getElem?_eq_none (by omega)
              rw [hc1] at cS
              simp only [Option.getD_none, Option.isSome_none] at cS
              clear hc1
              go_wp2_with fail
              refine cS.mono ?_
              rintro e w7 ⟨rfl, hb7s⟩
              have HB7 : Aside (Below w5.heap.size w5 w7) := HB6.out.trans (hb7s.mono HB6.out.size)
              clear k0 k1 k2 k3 k4 e7
              obtain ⟨_, q0, q1, q2⟩ := HQ5.out.keep HB7.out
              clear cS hb7s
              go_wp2
              go_roundg (s.cs.length - (a + 1))
              case measure => omega
              case rel => exact ⟨a + 1, by go_num, by omega, Nat.le_refl _, HB7⟩
          · have hlaz : ¬ (a : Int) < (s.cs.length : Int) := by omega
            obtain rfl : a = s.cs.length := by omega
            have hc : s.cs[0]? = some (s.cs[0]'hc2z) := List.getElem?_eq_getElem hc2z
            generalize s.cs[0]'hc2z = c at hc
            obtain ⟨hc256, hco, _⟩ := HGC.out 0 c hc
            have hst := HGF.out c hc
            obtain ⟨b7, o7, rfl, hb7, e7⟩ := (HRI.out.below HB6.out) 0 (by rw [ints_length]; exact hc2z)
            rw [show (ints s.cs)[0]?.getD 0 = (c : Int) by simp [ints, hc]] at e7
            rw [Nat.add_zero] at e7
            have cS := HS.out (c : Int) 2 wr.drew HBw.out.drew
            rw [show g.stI (c : Int) 2 = none from hst] at cS
            simp only [Option.getD_none, Option.isSome_none] at cS
            obtain ⟨_, k0, k1, k2, k3, k4⟩ := HX5.out.keep HB6.out
            obtain ⟨_, q0, q1, q2⟩ := HQ5.out.keep HB6.out
            clear hst hc hco
            go_wp2
            go_region_with (go_at_call 28; refine cS.mono ?_; rintro e w7 ⟨rfl, hb7s⟩)
            all_goals (try go_simp)
            all_goals (go_wp2_with fail)
            all_goals (
              have HB7 : Aside (Below w2.heap.size w2 w7) := (HB5.out.trans (HB6.out.mono HB5.out.size)).trans ((below_dr hb7s).mono (HB5.out.trans (HB6.out.mono HB5.out.size)).size)
              clear k0 k1 k2 k3 k4 e7 q0 q1 q2 cS hb7s
              go_wp2
              go_roundg (L.length - (k + 1))
              case measure => have := HK.out; have := HG1.out; omega
              case rel => exact ⟨k + 1, by rw [HLM.out], by go_num, HK.out, Nat.le_refl _, HB7⟩)
      | true =>
        rw [hdn] at e1 HX5 HB5 HQ5 HRI HGC HGF
        clear hdn
        go_wp2
        generalize wr.alloc (.cells #[.int .i64 (s.num : Int), .bool true, .slice a' s.cs.length c'] 36) = w5 at *
        generalize hqb : wr.heap.size = qb at *
        clear hqb e0 e1 e2 hb
        have hc2z : 0 < s.cs.length := by omega
        clear HB3 HB4
        go_loopg [46] s.cs.length (fun g2 iv wr => ∃ a : Nat, iv = .int .i64 (a : Int) ∧ a ≤ s.cs.length ∧ s.cs.length - a ≤ g2 ∧ Aside (Below w5.heap.size w5 wr))
        case atStart => exact ⟨0, rfl, Nat.zero_le _, Nat.le_refl _, Below.refl _ _⟩
        case round =>
          obtain ⟨a, rfl, ha, hg2, HB6⟩ := hrel
          have HBw : Aside (Below w.heap.size w wr) := HB2.out.trans ((HB5.out.trans (HB6.out.mono HB5.out.size)).mono HB2.out.size)
          by_cases hla : a < s.cs.length
          · have hlaz : (a : Int) < (s.cs.length : Int) := by omega
            have hc : s.cs[a]? = some (s.cs[a]'hla) := List.getElem?_eq_getElem hla
            generalize s.cs[a]'hla = c at hc
            obtain ⟨hc256, hco, hst⟩ := HGC.out a c hc
            obtain ⟨b7, o7, rfl, hb7, e7⟩ := (HRI.out.below HB6.out) a (by rw [ints_length]; exact hla)
            rw [show (ints s.cs)[a]?.getD 0 = (c : Int) by simp [ints, hc]] at e7
            have cS := HS.out (c : Int) 1 wr HBw.out
            rw [show g.stI (c : Int) 1 = s.cs[a + 1]? from hst] at cS
            obtain ⟨_, k0, k1, k2, k3, k4⟩ := HX5.out.keep HB6.out
            clear hst hc hco
            by_cases hl1 : a + 1 < s.cs.length
            · have hl1z : (a : Int) + 1 < (s.cs.length : Int) := by omega
              have hc1 : s.cs[a + 1]? = some (s.cs[a + 1]'hl1) := List.getElem?_eq_getElem hl1
              generalize s.cs[a + 1]'hl1 = c1 at hc1
              obtain ⟨b8, o8, e8a, hb8, e8⟩ := (HRI.out.below HB6.out) (a + 1) (by rw [ints_length]; exact hl1)
              rw [show (ints s.cs)[a + 1]?.getD 0 = (c1 : Int) by simp [ints, hc1]] at e8
              cases e8a
              rw [hc1] at cS
              simp only [Option.getD_some, Option.isSome_some] at cS
              have HE8 : Aside (wr.cell? ⟨b7, o7 + (a + 1), none⟩ = some (.int .i64 (c1 : Int))) := e8
              clear hc1 e8
              go_wp2_with fail
              refine cS.mono ?_
              rintro e w7 ⟨rfl, hb7s⟩
              have e8 := (hb7s.cell (p := ⟨b7, o7 + (a + 1), none⟩) hb8).trans HE8.out
              have HB7 : Aside (Below w5.heap.size w5 w7) := HB6.out.trans (hb7s.mono HB6.out.size)
              clear k0 k1 k2 k3 k4 e7
              obtain ⟨_, q0, q1, q2⟩ := HQ5.out.keep HB7.out
              clear cS hb7s
              go_wp2
              go_roundg (s.cs.length - (a + 1))
              case measure => omega
              case rel => exact ⟨a + 1, by go_num, by omega, Nat.le_refl _, HB7⟩
            · have hl1z : ¬ (a : Int) + 1 < (s.cs.length : Int) := by omega
              have hc1 : s.cs[a + 1]? = none := List.getElem?_eq_none (by omega)
              rw [hc1] at cS
              simp only [Option.getD_none, Option.isSome_none] at cS
              clear hc1
              go_wp2_with fail
              refine cS.mono ?_
              rintro e w7 ⟨rfl, hb7s⟩
              have HB7 : Aside (Below w5.heap.size w5 w7) := HB6.out.trans (hb7s.mono HB6.out.size)
              clear k0 k1 k2 k3 k4 e7
              obtain ⟨_, q0, q1, q2⟩ := HQ5.out.keep HB7.out
              clear cS hb7s
              go_wp2
              go_roundg (s.cs.length - (a + 1))
              case measure => omega
              case rel => exact ⟨a + 1, by go_num, by omega, Nat.le_refl _, HB7⟩
          · have hlaz : ¬ (a : Int) < (s.cs.length : Int) := by omega
            obtain rfl : a = s.cs.length := by omega
            have hc : s.cs[0]? = some (s.cs[0]'hc2z) := List.getElem?_eq_getElem hc2z
            generalize s.cs[0]'hc2z = c at hc
            obtain ⟨hc256, hco, _⟩ := HGC.out 0 c hc
            have hst := HGF.out c hc
            obtain ⟨b7, o7, rfl, hb7, e7⟩ := (HRI.out.below HB6.out) 0 (by rw [ints_length]; exact hc2z)
            rw [show (ints s.cs)[0]?.getD 0 = (c : Int) by simp [ints, hc]] at e7
            rw [Nat.add_zero] at e7
            have cS := HS.out (c : Int) 3 wr.drew HBw.out.drew
            rw [show g.stI (c : Int) 3 = none from hst] at cS
            simp only [Option.getD_none, Option.isSome_none] at cS
            obtain ⟨_, k0, k1, k2, k3, k4⟩ := HX5.out.keep HB6.out
            obtain ⟨_, q0, q1, q2⟩ := HQ5.out.keep HB6.out
            clear hst hc hco
            go_wp2
            go_region_with (go_at_call 28; refine cS.mono ?_; rintro e w7 ⟨rfl, hb7s⟩)
            all_goals (try go_simp)
            all_goals (go_wp2_with fail)
            all_goals (
              have HB7 : Aside (Below w2.heap.size w2 w7) := (HB5.out.trans (HB6.out.mono HB5.out.size)).trans ((below_dr hb7s).mono (HB5.out.trans (HB6.out.mono HB5.out.size)).size)
              clear k0 k1 k2 k3 k4 e7 q0 q1 q2 cS hb7s
              go_wp2
              go_roundg (L.length - (k + 1))
              case measure => have := HK.out; have := HG1.out; omega
              case rel => exact ⟨k + 1, by rw [HLM.out], by go_num, HK.out, Nat.le_refl _, HB7⟩)
    · have hltz : ¬ (k : Int) < (L.length : Int) := by omega
      obtain rfl : k = L.length := by omega
      go_wp2
      go_ret
      exact ⟨rfl, HB2.out.trans (HB3.out.mono HB2.out.size)⟩
end Go.Proofs.YtilokjcbkhhifaaDoor.Grd
