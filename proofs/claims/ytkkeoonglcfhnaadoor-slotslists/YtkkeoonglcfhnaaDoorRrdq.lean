/-
  The document's Seats.
-/
import Derived.Test.YtkkeoonglcfhnaaDoorRrcq
namespace Go.Proofs.YtkkeoonglcfhnaaDoor.Grd
open Go Go.Lib Go.RowKit

set_option maxHeartbeats 1000000 in
theorem refSeats_shut (g : Gr) (p : Ad) (hc : ¬ g.ok) (w : World) (hR : RG w g p) :
    Calls Tryd.prog 14 #[gv g p] w fun e w' => e = .returned (.tuple #[.slice none 0 0, .slice none 0 0]) ∧ Below w.heap.size w w' := by
  have cC := refCheck_any g p (w.alloc (.cells #[.int .i64 g.h, .int .i64 g.w, .slice p.a1 g.B.length p.c1, .slice p.a2 g.R.length p.c2, .slice p.a3 g.D.length p.c3] 24)) (hR.below (below_box w _))
  have hc2 : ¬ g.chk = 0 := hc
  have hc3 : ¬ ((g.chk : Nat) : Int) = 0 := by omega
  unfold gv at cC
  unfold gv
  clear hR hc
  go_enter Tryd.func14, Tryd.ntmps14
  go_wp2_with fail
  refine cC.mono ?_
  rintro e w1 ⟨rfl, hb1⟩
  have HB1 : Aside (Below w.heap.size w w1) := (below_box w _).trans (hb1.mono (below_box w _).size)
  clear cC hb1
  go_wp2
  go_ret2
  exact ⟨rfl, HB1.out⟩
theorem cellsS_snoc (f : Nat → Int × Int) (m : Nat) : cellsS f (m + 1) = cellsS f m ++ [.int .i64 (f m).1, .int .i64 (f m).2] := by
  unfold cellsS
  rw [show (m + 1) * 2 = m * 2 + 1 + 1 by omega, List.range_succ, List.range_succ, List.map_append, List.map_append, List.append_assoc]
  congr 1
  have e1 : m * 2 % 2 = 0 := by omega
  have e2 : m * 2 / 2 = m := by omega
  have e3 : (m * 2 + 1) % 2 = 1 := by omega
  have e4 : (m * 2 + 1) / 2 = m := by omega
  simp [e1, e2, e3, e4]
theorem cell2_new (w : World) (x y : Value) (t : TypeId) : ∀ j u, [x, y][j]? = some u → (w.alloc (.cells #[x, y] t)).cell? ((⟨w.heap.size, 0, none⟩ : Addr).add j) = some u := by
  intro j u h
  rw [Addr.add_lit, cells_box]
  simpa using h
/-- The two lists so far. -/
structure TwoR (W : World) (B : Nat) (va vd : Value) (g : Gr) (ka kd : Nat) : Prop where
  ra : W.ownsRow B 38 2 va ka (cellsS (fun i => seatV (g.seat false i)) ka)
  rd : W.ownsRow B 38 2 vd kd (cellsS (fun i => seatV (g.seat true i)) kd)
  ap : ∀ j, va.ownBlock = some j → vd.ownBlock ≠ some j
theorem TwoR.below {W W' : World} {B : Nat} {va vd : Value} {g : Gr} {ka kd : Nat} (h : TwoR W B va vd g ka kd) (hb : Below W.heap.size W W') : TwoR W' B va vd g ka kd := ⟨row_keeps3 h.ra hb, row_keeps3 h.rd hb, h.ap⟩
theorem TwoR.nextA {W W1 W' : World} {B : Nat} {va vd va' : Value} {g : Gr} {ka kd : Nat} (h : TwoR W B va vd g ka kd) (hb : Below W.heap.size W W1) (hr : W'.ownsRow B 38 2 va' (ka + 1) (cellsS (fun i => seatV (g.seat false i)) (ka + 1)))
    (hg : W1.grownBy W' va.ownBlock) (hv : va'.ownBlock = va.ownBlock ∨ va'.ownBlock = some W1.heap.size) : TwoR W' B va' vd g (ka + 1) kd := by
  have h1 := h.below hb
  refine ⟨hr, row_grown h1.rd hg fun j hj e => h.ap j e hj, fun j hj e => ?_⟩
  rcases hv with hv | hv
  · rw [hv] at hj; exact h.ap j hj e
  · rw [hv] at hj; cases hj; have := (h1.rd.lt _ e).2; omega
theorem TwoR.nextD {W W1 W' : World} {B : Nat} {va vd vd' : Value} {g : Gr} {ka kd : Nat} (h : TwoR W B va vd g ka kd) (hb : Below W.heap.size W W1) (hr : W'.ownsRow B 38 2 vd' (kd + 1) (cellsS (fun i => seatV (g.seat true i)) (kd + 1)))
    (hg : W1.grownBy W' vd.ownBlock) (hv : vd'.ownBlock = vd.ownBlock ∨ vd'.ownBlock = some W1.heap.size) : TwoR W' B va vd' g ka (kd + 1) := by
  have h1 := h.below hb
  refine ⟨row_grown h1.ra hg fun j hj e => h.ap j hj e, hr, fun j hj e => ?_⟩
  rcases hv with hv | hv
  · rw [hv] at e; exact h.ap j hj e
  · rw [hv] at e; cases e; have := (h1.ra.lt _ hj).2; omega

set_option maxRecDepth 20000 in
set_option maxHeartbeats 4000000 in
theorem refSeats_ok (g : Gr) (p : Ad) (hok : g.ok) (w : World) (hR : RG w g p) :
    Calls Tryd.prog 14 #[gv g p] w fun e w' => ∃ va vd, e = .returned (.tuple #[va, vd]) ∧ TwoR w' w.heap.size va vd g g.n g.n ∧ Below w.heap.size w w' := by
  have hr := Gr.right_of hok
  have hz := hr.sz
  have hn := hz.n_le
  have cC := refCheck_any g p (w.alloc (.cells #[.int .i64 g.h, .int .i64 g.w, .slice p.a1 g.B.length p.c1, .slice p.a2 g.R.length p.c2, .slice p.a3 g.D.length p.c3] 24)) (hR.below (below_box w _))
  rw [show g.chk = 0 from hok] at cC
  have HL : Aside (∀ W, Below w.heap.size w W → Calls Tryd.prog 11 #[gv g p] W fun e w' => ∃ v us, e = .returned v ∧ OwnL w' W.heap.size v g.sl us ∧ Below W.heap.size W w') := fun W h => refList_any g p W (hR.below h)
  have hHW : g.h * g.w = ((g.n : Nat) : Int) := by rw [← hz.sh.2.2, ← hz.sw.2.2]; exact (Int.natCast_mul _ _).symm
  have hH16 : 1 ≤ g.h ∧ g.h ≤ 16 := by have := hz.sh; omega
  have hW16 : 1 ≤ g.w ∧ g.w ≤ 16 := by have := hz.sw; omega
  have HLN : Aside (g.sl.length ≤ 512 ∧ ∀ (k : Nat) (s : Sl), g.sl[k]? = some s → s.cs.length ≤ 257 ∧ ∀ (a c : Nat), s.cs[a]? = some c → c < 256) := ⟨g.sl_len, fun k s hs => ⟨Gr.sl_cs hs, fun a c hc => by have := (Gr.at_lt ⟨s, hs, rfl, hc⟩).1; omega⟩⟩
  obtain ⟨i0, hi0, hz0, hz1, hz2⟩ := info_parts infoSeat
  unfold gv at cC HL
  unfold gv
  clear hr hz hok hR
  go_enter Tryd.func14, Tryd.ntmps14
  go_wp2_with fail
  refine cC.mono ?_
  rintro e w1 ⟨rfl, hb1⟩
  have HX1 : Aside (Bx w1 w.heap.size g p) := (Bx.new w g p 24).keep hb1
  have HB1 : Aside (Below w.heap.size w w1) := (below_box w _).trans (hb1.mono (below_box w _).size)
  obtain ⟨_, k0, k1, k2, k3, k4⟩ := HX1.out
  clear cC hb1
  have cL := HL.out w1 HB1.out
  go_wp2_with fail
  refine cL.mono ?_
  rintro e w2 ⟨v, us, rfl, hO, hb2⟩
  obtain ⟨ao, cap, rfl, hRL⟩ := hO.read
  have HRL : Aside (ReadsL w2 ao g.sl) := hRL
  have HX2 : Aside (Bx w2 w.heap.size g p) := HX1.out.keep hb2
  have HB2 : Aside (Below w.heap.size w w2) := HB1.out.trans (hb2.mono HB1.out.size)
  have HSE : Aside (∀ (i : Nat) (dn : Bool), ∀ W, Below w2.heap.size w2 W → Calls Tryd.prog 35 #[.slice ao g.sl.length cap, .int .i64 i, .bool dn] W fun e w' => e = .returned (.agg #[.int .i64 (seatV (g.seat dn i)).1, .int .i64 (seatV (g.seat dn i)).2]) ∧ Below W.heap.size W w') := fun i dn W h => refSeat_any g.sl ao cap i dn W HLN.out.1 HLN.out.2 (hRL.below h)
  have HT0 : Aside (TwoR w2 w2.heap.size (.slice none 0 0) (.slice none 0 0) g 0 0) := ⟨⟨rfl, .inl ⟨rfl, rfl⟩⟩, ⟨rfl, .inl ⟨rfl, rfl⟩⟩, fun j h => by cases h⟩
  clear hRL hO cL hb2 k0 k1 k2 k3 k4
  go_wp2
  go_loopg [4, 5, 7] g.n (fun g1 av dv iv wr => ∃ i : Nat, iv = .int .i64 (i : Int) ∧ i ≤ g.n ∧ g.n - i ≤ g1 ∧ Aside (TwoR wr w2.heap.size av dv g i i) ∧ Aside (Below w2.heap.size w2 wr))
  case atStart => exact ⟨0, rfl, Nat.zero_le _, Nat.le_refl _, HT0, Below.refl _ _⟩
  case round =>
    obtain ⟨i, rfl, hi, hg, HT, HB⟩ := hrel
    obtain ⟨_, k0, k1, k2, k3, k4⟩ := HX2.out.keep HB.out
    by_cases hlt : i < g.n
    · have hltz : (i : Int) < (g.n : Int) := by omega
      have hs2 := HB.out.size
      have cS := HSE.out i false wr HB.out
      go_wp2_with fail
      refine cS.mono ?_
      rintro e w3 ⟨rfl, hb3⟩
      have HB3 : Aside (Below w2.heap.size w2 w3) := HB.out.trans (hb3.mono HB.out.size)
      have HT3 : Aside (TwoR w3 w2.heap.size u4 u5 g i i) := HT.out.below hb3
      have hs3 := HB3.out.size
      clear cS hb3 k0 k1 k2 k3 k4 HT
      go_wp2_with (at_builtin; refine wpList_append_own_at _ rfl _ _ 29 rfl w2.heap.size 38 i0 (.agg #[.int .i64 0, .int .i64 0]) 2 16 Tryd.underlying29 hi0 hz0 hz1 hz2 rfl (by decide) _ _ _ rfl (HT3.out.ra.alloc _) ⟨w3.heap.size, 0, none⟩ 1 1 [.int .i64 (seatV (g.seat false i)).1, .int .i64 (seatV (g.seat false i)).2] rfl rfl (cell2_new _ _ _ _) (by simp [Value.oneCell']) (by unfold maxLen; omega) (by omega) (by rw [World.size_alloc]; omega) ?_)
      intro v' wa hown' hgrow _ hat
      have HT4 : Aside (TwoR wa w2.heap.size v' u5 g (i + 1) i) := HT3.out.nextA (below_box _ _) (by rw [cellsS_snoc]; exact hown') hgrow (by rw [World.size_alloc]; exact hat)
      have HB4 : Aside (Below w2.heap.size w2 wa) := Below.grown (HB3.out.alloc hs3 _) hgrow (by rw [World.size_alloc]; omega) (fun j hj => (HT3.out.ra.lt _ hj).1)
      have hs4 := HB4.out.size
      have cS := HSE.out i true wa HB4.out
      clear hown' hgrow hat HT3
      go_wp2_with fail
      refine cS.mono ?_
      rintro e w5 ⟨rfl, hb5⟩
      have HB5 : Aside (Below w2.heap.size w2 w5) := HB4.out.trans (hb5.mono HB4.out.size)
      have HT5 : Aside (TwoR w5 w2.heap.size v' u5 g (i + 1) i) := HT4.out.below hb5
      have hs5 := HB5.out.size
      clear cS hb5 HT4
      go_wp2_with (at_builtin; refine wpList_append_own_at _ rfl _ _ 29 rfl w2.heap.size 38 i0 (.agg #[.int .i64 0, .int .i64 0]) 2 16 Tryd.underlying29 hi0 hz0 hz1 hz2 rfl (by decide) _ _ _ rfl (HT5.out.rd.alloc _) ⟨w5.heap.size, 0, none⟩ 1 1 [.int .i64 (seatV (g.seat true i)).1, .int .i64 (seatV (g.seat true i)).2] rfl rfl (cell2_new _ _ _ _) (by simp [Value.oneCell']) (by unfold maxLen; omega) (by omega) (by rw [World.size_alloc]; omega) ?_)
      intro v2' wb hown' hgrow _ hat
      have HT6 : Aside (TwoR wb w2.heap.size v' v2' g (i + 1) (i + 1)) := HT5.out.nextD (below_box _ _) (by rw [cellsS_snoc]; exact hown') hgrow (by rw [World.size_alloc]; exact hat)
      have HB6 : Aside (Below w2.heap.size w2 wb) := Below.grown (HB5.out.alloc hs5 _) hgrow (by rw [World.size_alloc]; omega) (fun j hj => (HT5.out.rd.lt _ hj).1)
      clear hown' hgrow hat HT5
      go_wp2
      go_roundg (g.n - (i + 1))
      case measure => omega
      case rel => exact ⟨i + 1, by go_num, by omega, Nat.le_refl _, HT6, HB6⟩
    · have hltz : ¬ (i : Int) < (g.n : Int) := by omega
      obtain rfl : i = g.n := by omega
      go_wp2
      go_ret2
      exact ⟨_, _, rfl, ⟨row_base3 HT.out.ra HB2.out.size, row_base3 HT.out.rd HB2.out.size, HT.out.ap⟩, HB2.out.trans (HB.out.mono HB2.out.size)⟩
theorem refSeats_any (g : Gr) (p : Ad) (w : World) (hR : RG w g p) :
    Calls Tryd.prog 14 #[gv g p] w fun e w' => ∃ va vd, e = .returned (.tuple #[va, vd]) ∧ TwoR w' w.heap.size va vd g g.m g.m ∧ Below w.heap.size w w' := by
  by_cases hok : g.ok
  · have hm : g.m = g.n := if_pos hok
    rw [hm]
    exact refSeats_ok g p hok w hR
  · have hm : g.m = 0 := if_neg hok
    rw [hm]
    refine (refSeats_shut g p hok w hR).mono ?_
    rintro e w' ⟨rfl, hb⟩
    exact ⟨_, _, rfl, ⟨⟨rfl, .inl ⟨rfl, rfl⟩⟩, ⟨rfl, .inl ⟨rfl, rfl⟩⟩, fun j h => by cases h⟩, hb⟩
end Go.Proofs.YtkkeoonglcfhnaaDoor.Grd
