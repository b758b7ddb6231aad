/-
  The document's Find, Crossings and Lone.
-/
import Derived.Test.YtilokjcbkhhifaaDoorRrd
import Derived.Test.YtilokjcbkhhifaaDoorSlk
namespace Go.Proofs.YtilokjcbkhhifaaDoor.Grd
open Go Go.Lib Go.RowKit

set_option maxRecDepth 20000 in
set_option maxHeartbeats 1000000 in
theorem refFind_any (g : Gr) (p : Ad) (num : Int) (dn : Bool) (w : World) (hR : RG w g p) :
    Calls Tryd.prog 18 #[gv g p, .int .i64 num, .bool dn] w fun e w' => e = .returned (.int .i64 (findIx num dn g.sl 0)) ∧ Below w.heap.size w w' := by
  have cL := refList_any g p (w.alloc (.cells #[.int .i64 g.h, .int .i64 g.w, .slice p.a1 g.B.length p.c1, .slice p.a2 g.R.length p.c2, .slice p.a3 g.D.length p.c3] 24)) (hR.below (below_box w _))
  have hln := g.sl_len
  generalize g.sl = L at *
  unfold gv at cL
  unfold gv
  clear hR
  go_enter Tryd.func18, Tryd.ntmps18
  go_wp2_with fail
  refine cL.mono ?_
  rintro e w1 ⟨v, us, rfl, hO, hb1⟩
  have HB1 : Aside (Below w.heap.size w w1) := (below_box w _).trans (hb1.mono (below_box w _).size)
  obtain ⟨ao, cap, rfl, hRL⟩ := hO.read
  have HRL : Aside (ReadsL w1 ao L) := hRL
  clear cL hb1 hO hRL
  go_wp2
  go_loopg [8] L.length (fun g1 iv wr => ∃ k : Nat, iv = .int .i64 (k : Int) ∧ k ≤ L.length ∧ L.length - k ≤ g1 ∧ Aside (Below w1.heap.size w1 wr) ∧ Aside (findIx num dn (L.drop k) k = findIx num dn L 0))
  case atStart => exact ⟨0, rfl, Nat.zero_le _, Nat.le_refl _, Below.refl _ _, rfl⟩
  case round =>
    obtain ⟨k, rfl, hk, hg, HB2, HF⟩ := hrel
    by_cases hlt : k < L.length
    · have hltz : (k : Int) < (L.length : Int) := by omega
      have hs : L[k]? = some (L[k]'hlt) := List.getElem?_eq_getElem hlt
      generalize L[k]'hlt = s at hs
      have HFA : Aside _ := findIx_at (num := num) (dn := dn) hs
      obtain ⟨b, a', c', rfl, hb, e0, e1, e2, _⟩ := (HRL.out.below HB2.out) k s hs
      clear hs
      have HE : Aside (s.dn = dn ↔ (s.dn == dn) = true) := (beq_iff_eq).symm
      by_cases h1 : (s.num : Int) = num
      · subst h1
        cases hd : (s.dn == dn) with
        | true =>
          have HFE : Aside (findIx s.num dn L 0 = (k : Int)) := by show _ = _; rw [← HF.out, HFA.out, if_pos ⟨rfl, HE.out.2 hd⟩]
          go_wp2
          go_ret
          exact ⟨by rw [HFE.out]; rfl, HB1.out.trans (HB2.out.mono HB1.out.size)⟩
        | false =>
          have HF2 : Aside (findIx s.num dn (L.drop (k + 1)) (k + 1) = findIx s.num dn L 0) := by show _ = _; rw [← HF.out, HFA.out, if_neg (fun h => by have := HE.out.1 h.2; rw [hd] at this; cases this)]
          go_wp2
          go_roundg (L.length - (k + 1))
          case measure => omega
          case rel => exact ⟨k + 1, by go_num, by omega, Nat.le_refl _, HB2, HF2⟩
      · have HF2 : Aside (findIx num dn (L.drop (k + 1)) (k + 1) = findIx num dn L 0) := by show _ = _; rw [← HF.out, HFA.out, if_neg (fun h => h1 h.1)]
        go_wp2
        go_roundg (L.length - (k + 1))
        case measure => omega
        case rel => exact ⟨k + 1, by go_num, by omega, Nat.le_refl _, HB2, HF2⟩
    · have hltz : ¬ (k : Int) < (L.length : Int) := by omega
      obtain rfl : k = L.length := by omega
      go_wp2
      go_ret
      refine ⟨?_, HB1.out.trans (HB2.out.mono HB1.out.size)⟩
      rw [← HF.out, List.drop_length]
      rfl

set_option maxRecDepth 20000 in
set_option maxHeartbeats 2000000 in
theorem refCrossings_any (g : Gr) (p : Ad) (w : World) (hR : RG w g p) :
    Calls Tryd.prog 20 #[gv g p] w fun e w' => e = .returned (.int .i64 (g.crK g.m : Nat)) ∧ Below w.heap.size w w' := by
  have cS := refSeats_any g p (w.alloc (.cells #[.int .i64 g.h, .int .i64 g.w, .slice p.a1 g.B.length p.c1, .slice p.a2 g.R.length p.c2, .slice p.a3 g.D.length p.c3] 24)) (hR.below (below_box w _))
  have hm := g.m_le
  have HSU : Aside (∀ k, g.crK (k + 1) = g.crK k + (if g.isX k then 1 else 0)) := g.crK_succ
  have HLE : Aside (∀ k, g.crK k ≤ k) := g.crK_le
  have HIX : Aside (∀ k, g.isX k = (decide (0 ≤ (seatV (g.seat false k)).1) && decide (0 ≤ (seatV (g.seat true k)).1))) := fun k => by rw [seatV_pos, seatV_pos]; rfl
  have hc0 : g.crK 0 = 0 := rfl
  unfold gv at cS
  unfold gv
  clear hR
  go_enter Tryd.func20, Tryd.ntmps20
  go_wp2_with fail
  refine cS.mono ?_
  rintro e w1 ⟨va, vd, rfl, hO, hb1⟩
  obtain ⟨a1, c1, rfl, hR1⟩ := row_readsS hO.ra
  obtain ⟨a2, c2, rfl, hR2⟩ := row_readsS hO.rd
  have HR1 : Aside (ReadsS w1 a1 (fun i => seatV (g.seat false i)) g.m) := hR1
  have HR2 : Aside (ReadsS w1 a2 (fun i => seatV (g.seat true i)) g.m) := hR2
  have HB1 : Aside (Below w.heap.size w w1) := (below_box w _).trans (hb1.mono (below_box w _).size)
  clear cS hO hR1 hR2 hb1
  generalize hgm : g.m = m at *
  have HGM : Aside (g.m = m) := hgm
  clear hgm
  go_wp2
  go_loopg [5, 6] m (fun g1 nv iv wr => ∃ k : Nat, nv = .int .i64 (g.crK k : Nat) ∧ iv = .int .i64 (k : Int) ∧ k ≤ m ∧ m - k ≤ g1 ∧ Aside (Below w1.heap.size w1 wr))
  case atStart => exact ⟨0, by rw [hc0]; rfl, rfl, Nat.zero_le _, Nat.le_refl _, Below.refl _ _⟩
  case round =>
    obtain ⟨k, rfl, rfl, hk, hg, HBk⟩ := hrel
    by_cases hlt : k < m
    · have hltz : (k : Int) < (m : Int) := by omega
      obtain ⟨b1, rfl, hb1, x0, x1⟩ := (HR1.out.below HBk.out) k hlt
      obtain ⟨b2, rfl, hb2, y0, y1⟩ := (HR2.out.below HBk.out) k hlt
      dsimp only at x0 x1 y0 y1
      have HIXk : Aside _ := HIX.out k
      have hcl := HLE.out k
      generalize seatV (g.seat false k) = x at *
      generalize seatV (g.seat true k) = y at *
      obtain ⟨x, xx⟩ := x
      obtain ⟨y, yy⟩ := y
      have hcl2 : g.crK k ≤ 256 := by omega
      by_cases hx : 0 ≤ x
      · by_cases hy : 0 ≤ y
        · have HN : Aside (g.crK (k + 1) = g.crK k + 1) := by show _ = _; rw [HSU.out, HIXk.out, decide_eq_true hx, decide_eq_true hy]; rfl
          go_wp2
          go_roundg (m - (k + 1))
          case measure => omega
          case rel => exact ⟨k + 1, by rw [HN.out]; go_num, by go_num, by omega, Nat.le_refl _, HBk⟩
        · have HN : Aside (g.crK (k + 1) = g.crK k) := by show _ = _; rw [HSU.out, HIXk.out, decide_eq_false hy, Bool.and_false]; rfl
          go_wp2
          go_roundg (m - (k + 1))
          case measure => omega
          case rel => exact ⟨k + 1, by rw [HN.out], by go_num, by omega, Nat.le_refl _, HBk⟩
      · have HN : Aside (g.crK (k + 1) = g.crK k) := by show _ = _; rw [HSU.out, HIXk.out, decide_eq_false hx, Bool.false_and]; rfl
        go_wp2
        go_roundg (m - (k + 1))
        case measure => omega
        case rel => exact ⟨k + 1, by rw [HN.out], by go_num, by omega, Nat.le_refl _, HBk⟩
    · have hltz : ¬ (k : Int) < (m : Int) := by omega
      obtain rfl : k = m := by omega
      go_wp2
      go_ret
      exact ⟨by rw [HGM.out]; rfl, HB1.out.trans (HBk.out.mono HB1.out.size)⟩

set_option maxRecDepth 20000 in
set_option maxHeartbeats 4000000 in
theorem refLone_any (g : Gr) (p : Ad) (w : World) (hR : RG w g p) :
    Calls Tryd.prog 23 #[gv g p] w fun e w' => ∃ v, e = .returned v ∧ w'.ownsRow w.heap.size 3 1 v (g.loK g.m).length (cellsI (ints (g.loK g.m))) ∧ Below w.heap.size w w' := by
  obtain ⟨i0, hi0, hz0, hz1, hz2⟩ := info_parts infoInt
  have cS := refSeats_any g p (w.alloc (.cells #[.int .i64 g.h, .int .i64 g.w, .slice p.a1 g.B.length p.c1, .slice p.a2 g.R.length p.c2, .slice p.a3 g.D.length p.c3] 24)) (hR.below (below_box w _))
  have hm := g.m_le
  have hmB := g.m_le_B
  have HBB : Aside (∀ W, Below w.heap.size w W → ReadsB W p.a1 g.B) := fun W h => hR.b.below h
  have HSU : Aside (∀ k, g.loK (k + 1) = g.loK k ++ (if g.isLone k then [k] else [])) := g.loK_succ
  have HLE : Aside (∀ k, (g.loK k).length ≤ k) := g.loK_len
  have HIX : Aside (∀ k, g.isLone k = (!bt g.B k && !decide (0 ≤ (seatV (g.seat false k)).1) && !decide (0 ≤ (seatV (g.seat true k)).1))) := fun k => by rw [seatV_pos, seatV_pos]; rfl
  unfold gv at cS
  unfold gv
  clear hR
  go_enter Tryd.func23, Tryd.ntmps23
  go_wp2_with fail
  refine cS.mono ?_
  rintro e w1 ⟨va, vd, rfl, hO, hb1⟩
  obtain ⟨a1, c1, rfl, hR1⟩ := row_readsS hO.ra
  obtain ⟨a2, c2, rfl, hR2⟩ := row_readsS hO.rd
  have HR1 : Aside (ReadsS w1 a1 (fun i => seatV (g.seat false i)) g.m) := hR1
  have HR2 : Aside (ReadsS w1 a2 (fun i => seatV (g.seat true i)) g.m) := hR2
  have HX1 : Aside (Bx w1 w.heap.size g p) := (Bx.new w g p _).keep hb1
  have HB1 : Aside (Below w.heap.size w w1) := (below_box w _).trans (hb1.mono (below_box w _).size)
  clear cS hO hR1 hR2 hb1
  generalize hgm : g.m = m at *
  have HGM : Aside (g.m = m) := hgm
  clear hgm
  have HR0 : Aside (w1.ownsRow w1.heap.size 3 1 (.slice none 0 0) (g.loK 0).length (cellsI (ints (g.loK 0)))) := ⟨rfl, .inl ⟨rfl, rfl⟩⟩
  go_wp2
  go_loopg [5, 6] m (fun g1 nv iv wr => ∃ k : Nat, iv = .int .i64 (k : Int) ∧ k ≤ m ∧ m - k ≤ g1 ∧ Aside (wr.ownsRow w1.heap.size 3 1 nv (g.loK k).length (cellsI (ints (g.loK k)))) ∧ Aside (Below w1.heap.size w1 wr))
  case atStart => exact ⟨0, rfl, Nat.zero_le _, Nat.le_refl _, HR0, Below.refl _ _⟩
  case round =>
    obtain ⟨k, rfl, hk, hg, HOW, HBk⟩ := hrel
    by_cases hlt : k < m
    · have hltz : (k : Int) < (m : Int) := by omega
      obtain ⟨b1, rfl, hb1, x0, x1⟩ := (HR1.out.below HBk.out) k hlt
      obtain ⟨b2, rfl, hb2, y0, y1⟩ := (HR2.out.below HBk.out) k hlt
      obtain ⟨b3, o3, e3, hb3, z0⟩ := (HBB.out wr (HB1.out.trans (HBk.out.mono HB1.out.size))) k (by omega)
      dsimp only at x0 x1 y0 y1
      have HIXk : Aside _ := HIX.out k
      have hcl := HLE.out k
      obtain ⟨_, k0, k1, k2, k3, k4⟩ := HX1.out.keep HBk.out
      have hBz : (k : Int) < (g.B.length : Int) := by omega
      have hsz := HBk.out.size
      rw [e3] at k2
      generalize seatV (g.seat false k) = x at *
      generalize seatV (g.seat true k) = y at *
      generalize bt g.B k = z at *
      obtain ⟨x, xx⟩ := x
      obtain ⟨y, yy⟩ := y
      clear e3
      cases z with
      | true =>
        have HN : Aside (g.loK (k + 1) = g.loK k) := by show _ = _; rw [HSU.out, HIXk.out]; simp
        go_wp2
        go_roundg (m - (k + 1))
        case measure => omega
        case rel => exact ⟨k + 1, by go_num, by omega, Nat.le_refl _, by rw [HN.out]; exact HOW.out, HBk⟩
      | false =>
        by_cases hx : 0 ≤ x
        · have hx2 : ¬ x < 0 := by omega
          have HN : Aside (g.loK (k + 1) = g.loK k) := by show _ = _; rw [HSU.out, HIXk.out, decide_eq_true hx]; simp
          go_wp2
          go_roundg (m - (k + 1))
          case measure => omega
          case rel => exact ⟨k + 1, by go_num, by omega, Nat.le_refl _, by rw [HN.out]; exact HOW.out, HBk⟩
        · have hx2 : x < 0 := by omega
          by_cases hy : 0 ≤ y
          · have hy2 : ¬ y < 0 := by omega
            have HN : Aside (g.loK (k + 1) = g.loK k) := by show _ = _; rw [HSU.out, HIXk.out, decide_eq_true hy]; simp
            go_wp2
            go_roundg (m - (k + 1))
            case measure => omega
            case rel => exact ⟨k + 1, by go_num, by omega, Nat.le_refl _, by rw [HN.out]; exact HOW.out, HBk⟩
          · have hy2 : y < 0 := by omega
            have HN : Aside (g.loK (k + 1) = g.loK k ++ [k]) := by show _ = _; rw [HSU.out, HIXk.out, decide_eq_false hx, decide_eq_false hy]; simp
            go_wp2_with (at_builtin; refine wpList_append_own _ rfl _ _ 34 rfl w1.heap.size 3 i0 (.int .i64 0) 1 8 Tryd.underlying34 hi0 hz0 hz1 hz2 rfl (by decide) _ _ _ rfl (HOW.out.alloc _) ⟨wr.heap.size, 0, none⟩ 1 1 [.int .i64 (k : Int)] rfl rfl (cell_one_new _ _ _) (by simp [Value.oneCell']) (by unfold maxLen; omega) (by omega) (by simp; omega) ?_)
            intro v' wa hown' hgrow _
            have HBa : Aside (Below w1.heap.size w1 wa) := Below.grown (HBk.out.alloc hsz _) hgrow (by simp; omega) (fun j hj => (HOW.out.lt _ hj).1)
            have HOWa : Aside (wa.ownsRow w1.heap.size 3 1 v' (g.loK (k + 1)).length (cellsI (ints (g.loK (k + 1))))) := by
              show wa.ownsRow _ _ _ _ _ _
              rw [HN.out]
              simp only [List.length_append, List.length_cons, List.length_nil, ints_snoc, cellsI_snoc]
              exact hown'
            clear hown' hgrow
            go_wp2
            go_roundg (m - (k + 1))
            case measure => omega
            case rel => exact ⟨k + 1, by go_num, by omega, Nat.le_refl _, HOWa, HBa⟩
    · have hltz : ¬ (k : Int) < (m : Int) := by omega
      obtain rfl : k = m := by omega
      go_wp2
      go_ret
      refine ⟨_, rfl, ?_, HB1.out.trans (HBk.out.mono HB1.out.size)⟩
      rw [HGM.out]
      exact row_base HOW.out HB1.out.size
end Go.Proofs.YtilokjcbkhhifaaDoor.Grd
