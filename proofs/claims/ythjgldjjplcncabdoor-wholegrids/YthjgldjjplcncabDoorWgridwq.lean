/-
  WholeGrids walked.
-/
import Derived.Test.YthjgldjjplcncabDoorWtopq
import Derived.Test.YthjgldjjplcncabDoorWgmq
import Derived.Test.YthjgldjjplcncabDoorGsk
import Derived.Test.YthjgldjjplcncabDoorGsf
import Derived.Test.YthjgldjjplcncabDoorGrdiq
import Derived.Test.YthjgldjjplcncabDoorTrniq
namespace Go.Proofs.YthjgldjjplcncabDoor.Skt
open Go Go.Lib Go.RowKit Utf Grd

theorem blank12_ok : (blankG 1 2).chk = 0 := by decide +kernel
theorem blank12_draw : prT (blankG 1 2) = [46, 46, 10] := by decide +kernel
theorem blank12_eq : ((ByteArray.mk #[46, 46, 10]).toList == [46, 46, 10]) = true := by decide +kernel

/-- What lies where: the grid and the turned one, each in its box. -/
structure TwoG (w0 W : World) (bg bt : Nat) (G T : Gr) (p q : Ad) : Prop where
  bw : Below w0.heap.size w0 W
  xg : Bx W bg G p
  xt : Bx W bt T q
  rg : RG W G p
  rt : RG W T q
theorem TwoG.keep {w0 W W' : World} {bg bt : Nat} {G T : Gr} {p q : Ad} (h : TwoG w0 W bg bt G T p q) (hb : Below W.heap.size W W') : TwoG w0 W' bg bt G T p q :=
  ⟨h.bw.trans (hb.mono h.bw.size), h.xg.keep hb, h.xt.keep hb, h.rg.below hb, h.rt.below hb⟩
/-- The counts by length. -/
def lensI (A B : List Sl) : List Int := (List.range 17).map fun n => (cntL A n : Int) - (cntL B n : Int)
/-- A block of 17 numbers. -/
structure A17 (W : World) (b : Nat) (I : List Int) : Prop where
  blk : W.heap[b]? = some (.cells (cellsI I).toArray 34)
  len : I.length = 17
theorem A17.lt {W : World} {b : Nat} {I : List Int} (h : A17 W b I) : b < W.heap.size := (Array.getElem?_eq_some_iff.1 h.blk).1
theorem A17.at {W : World} {b : Nat} {I : List Int} (h : A17 W b I) {j : Nat} {x : Int} (hj : I[j]? = some x) : W.cell? ⟨b, j, none⟩ = some (.int .i64 x) := by
  simp only [World.cell?, h.blk]
  rw [List.getElem?_toArray]
  exact cellsI_at hj
theorem A17.fr {W : World} {b : Nat} {I : List Int} (h : A17 W b I) (j : Nat) : W.frozen? ⟨b, j, none⟩ = false := frozen_of_row W b j _ _ h.blk
theorem A17.keep {W W' : World} {b : Nat} {I : List Int} (h : A17 W b I) (hb : Below W.heap.size W W') : A17 W' b I := ⟨(hb.block b h.lt).trans h.blk, h.len⟩
theorem A17.set {W : World} {b : Nat} {I : List Int} (h : A17 W b I) (j : Nat) (v : Int) : A17 (W.setCell ⟨b, j, none⟩ (.int .i64 v)) b (I.set j v) := by
  refine ⟨?_, by rw [List.length_set]; exact h.len⟩
  rw [heap_setCell_same W b j _ _ _ h.blk]
  rw [cellsI_set]
  simp

theorem cntL_snoc (A : List Sl) (s : Sl) (n : Nat) : cntL (A ++ [s]) n = cntL A n + (if s.cs.length = n then 1 else 0) := by
  unfold cntL
  rw [List.filter_append, List.length_append]
  by_cases h : s.cs.length = n
  · simp [h]
  · simp [h]
theorem cntL_le (A : List Sl) (n : Nat) : cntL A n ≤ A.length := List.length_filter_le _ _
theorem lensI_len (A B : List Sl) : (lensI A B).length = 17 := by simp [lensI]
theorem lensI_at (A B : List Sl) {n : Nat} (h : n < 17) : (lensI A B)[n]? = some ((cntL A n : Int) - (cntL B n : Int)) := by simp [lensI, h]
theorem lensI_incr (A B : List Sl) (s : Sl) : (lensI A B).set s.cs.length ((cntL A s.cs.length : Int) - (cntL B s.cs.length : Int) + 1) = lensI (A ++ [s]) B := by
  apply List.ext_getElem
  · simp [lensI]
  · intro i h1 h2
    have hi : i < 17 := by simpa [lensI] using h2
    rw [List.getElem_set]
    by_cases e : s.cs.length = i
    · rw [if_pos e]
      subst e
      simp only [lensI, List.getElem_map, List.getElem_range, cntL_snoc, if_pos]
      omega
    · rw [if_neg e]
      simp only [lensI, List.getElem_map, List.getElem_range, cntL_snoc, if_neg e]
      omega
theorem lensI_decr (A B : List Sl) (s : Sl) : (lensI A B).set s.cs.length ((cntL A s.cs.length : Int) - (cntL B s.cs.length : Int) - 1) = lensI A (B ++ [s]) := by
  apply List.ext_getElem
  · simp [lensI]
  · intro i h1 h2
    have hi : i < 17 := by simpa [lensI] using h2
    rw [List.getElem_set]
    by_cases e : s.cs.length = i
    · rw [if_pos e]
      subst e
      simp only [lensI, List.getElem_map, List.getElem_range, cntL_snoc, if_pos]
      omega
    · rw [if_neg e]
      simp only [lensI, List.getElem_map, List.getElem_range, cntL_snoc, if_neg e]
      omega
theorem lensI_nil : lensI [] [] = List.replicate 17 0 := by decide +kernel
theorem lensI_same {A B : List Sl} (h : ∀ n, cntL B n = cntL A n) : lensI A B = List.replicate 17 0 := by
  apply List.ext_getElem
  · simp [lensI]
  · intro i h1 h2
    simp only [lensI, List.getElem_map, List.getElem_range, List.getElem_replicate, h]
    omega
theorem row_difb {W W' : World} {b n z : Nat} {e : TypeId} {v : Value} {l : List Value} (h : W.ownsRow (b + 1) e z v n l) (hd : Dif (fun k => k = b) W W') : W'.ownsRow (b + 1) e z v n l := by
  rcases h with ⟨h1, h2 | ⟨g, cap, cur, e1, e2, e3, e4⟩⟩
  · exact ⟨h1, .inl h2⟩
  · exact ⟨h1, .inr ⟨g, cap, cur, e1, e2, (hd.block g (Array.getElem?_eq_some_iff.1 e3).1 (by omega)).trans e3, e4⟩⟩
theorem ownL_difb {W W' : World} {b : Nat} {v : Value} {L : List Sl} {us : List Value} (h : OwnL W (b + 1) v L us) (hd : Dif (fun k => k = b) W W') : OwnL W' (b + 1) v L us :=
  ⟨row_difb h.row hd, h.len, fun k s u h1 h2 => row_difb (h.each k s u h1 h2) hd, h.two⟩

set_option maxRecDepth 100000 in
set_option maxHeartbeats 2000000 in
theorem wholeGrids_walk (s : ByteArray) (k : Int) (W : World) (hs : s.size ≤ 140737488355328) (hT : Lib.Utf8Tabs 1 2 W) (hw : Wy W) :
    Calls Tryd.prog 3 #[.string s, .int .i64 k] W fun e W' => e = .returned (.bool true) ∧ Below W.heap.size W W' := by
  have cB := topBlank 1 2 (by omega) (by omega) W
  obtain ⟨m, hkm0, hml⟩ := low_bits k 7 (by omega)
  have hkm : bits .and .i64 k 7 = (m : Int) := hkm0
  clear hkm0
  have HWB : Aside (∀ Z, Below W.heap.size W Z → Wy Z ∧ Lib.Utf8Tabs 1 2 Z) := fun Z hZ => ⟨hw.below hw.size hZ, tabs_below hZ (tabs_size hT) hT⟩
  have HB12 : Aside (∀ q Z, Wy Z → RG Z (blankG 1 2) q → Calls Tryd.prog 5 #[gv (blankG 1 2) q] Z fun e W' => e = .returned (.tuple #[.string ⟨#[46, 46, 10]⟩, .int .i64 0]) ∧ Below Z.heap.size Z W') := fun q Z h1 h2 => by
    have := print_any (blankG 1 2) q Z h1 h2
    rw [blank12_draw, blank12_ok] at this
    exact this
  have hb12 := blank12_eq
  have hF := prs_facts s
  clear hw hT
  generalize blankG 1 2 = GB at *
  go_enter Tryd.func3, Tryd.ntmps3
  go_wp2_with fail
  refine cB.mono ?_
  rintro e w1 ⟨q, rfl, hRG, hb1⟩
  have cP := HB12.out q w1 (HWB.out _ hb1).1 hRG
  have HB1 : Aside (Below W.heap.size W w1) := hb1
  clear cB hRG hb1
  go_wp2_with fail
  refine cP.mono ?_
  rintro e w2 ⟨rfl, hb2⟩
  have HB2 : Aside (Below W.heap.size W w2) := HB1.out.trans (hb2.mono HB1.out.size)
  have cP2 := parse_any s w2 (HWB.out w2 HB2.out).2 (HWB.out w2 HB2.out).1 hs
  clear cP hb2 HB1
  have HPS : Aside (∃ x, prs s = x) := ⟨_, rfl⟩
  generalize (prs s).1 = G at *
  generalize (prs s).2.1 = a at *
  generalize (prs s).2.2 = er at *
  clear HPS
  go_wp2_with fail
  refine cP2.mono ?_
  rintro e w3 ⟨p, rfl, hR, hb3⟩
  have HB3 : Aside (Below W.heap.size W w3) := HB2.out.trans (hb3.mono HB2.out.size)
  have HR : Aside (RG w3 G p) := hR
  clear cP2 hb3 hR HB2 hb12
  by_cases her : er = 0
  · obtain ⟨hG, rfl⟩ := hF.1 her
    subst her
    have hm8 : m < 8 := by omega
    have HG : Aside (G.chk = 0) := hG
    have hTk : (G.turn m).chk = 0 := Gr.ok_of_right (Gr.turn_right (Gr.right_of (g := G) hG) m)
    have HTK : Aside ((G.turn m).chk = 0) := hTk
    have hbx := below_box w3 (.cells #[.int .i64 G.h, .int .i64 G.w, .slice p.a1 G.B.length p.c1, .slice p.a2 G.R.length p.c2, .slice p.a3 G.D.length p.c3] 27)
    obtain ⟨wx, hwx⟩ : ∃ wx, wx = w3.alloc (.cells #[.int .i64 G.h, .int .i64 G.w, .slice p.a1 G.B.length p.c1, .slice p.a2 G.R.length p.c2, .slice p.a3 G.D.length p.c3] 27) := ⟨_, rfl⟩
    have HX : Aside (Bx wx w3.heap.size G p ∧ RG wx G p ∧ Below W.heap.size W wx) := by
      rw [hwx]
      exact ⟨Bx.new w3 G p _, HR.out.below hbx, HB3.out.trans (hbx.mono HB3.out.size)⟩
    have cT := Turn_val G p m wx hm8 (HWB.out _ HX.out.2.2).1 HX.out.2.1 hG
    have HF : Aside ((∀ n, cntL (G.turn m).sl n = cntL G.sl n) ∧ (G.turn m).cnt = G.cnt ∧ (G.turn m).count = G.count ∧ (G.turn m).crK (G.turn m).m = G.crK G.m) := ⟨fun n => Gr.turn_lens hG m n, Gr.turn_cnt hG m, Gr.turn_count hG hm8, (Gr.turn_counts hG m).2.1⟩
    generalize G.turn m = T at *
    rw [hwx] at cT
    unfold gv at cT ⊢
    clear hF hbx
    go_wp2_with fail
    rw [← hwx] at cT ⊢
    refine cT.mono ?_
    clear hwx
    rintro e w4 ⟨q, rfl, hRT, _, hb4⟩
    have hHB4 : Below W.heap.size W w4 := HX.out.2.2.trans (hb4.mono HX.out.2.2.size)
    have hby := below_box w4 (.cells #[.int .i64 T.h, .int .i64 T.w, .slice q.a1 T.B.length q.c1, .slice q.a2 T.R.length q.c2, .slice q.a3 T.D.length q.c3] 27)
    obtain ⟨wy, hwy⟩ : ∃ wy, wy = w4.alloc (.cells #[.int .i64 T.h, .int .i64 T.w, .slice q.a1 T.B.length q.c1, .slice q.a2 T.R.length q.c2, .slice q.a3 T.D.length q.c3] 27) := ⟨_, rfl⟩
    rw [← hwy] at hby
    have HZ : Aside (TwoG W wy w3.heap.size w4.heap.size G T p q) := ⟨hHB4.trans (hby.mono hHB4.size), (HX.out.1.keep hb4).keep hby, by rw [hwy]; exact Bx.new w4 T q _, (HX.out.2.1.below hb4).below hby, hRT.below hby⟩
    have cQ := print_any T q wy (HWB.out _ HZ.out.bw).1 HZ.out.rt
    rw [HTK.out] at cQ
    have HTT : Aside (prs ⟨(prT T).toArray⟩ = (T, 0, 0) ∧ (ByteArray.mk (prT T).toArray).size ≤ 140737488355328) := ⟨prs_draw HTK.out (by simp), by
      have h1 := prT_len T
      have h2 := (Gr.right_of (g := T) HTK.out).sz.n_le
      show (prT T).toArray.size ≤ _
      rw [List.size_toArray]
      omega⟩
    obtain ⟨_, k0, k1, k2, k3, k4⟩ := HZ.out.xt
    rw [hwy] at cQ k0 k1 k2 k3 k4
    unfold gv at cQ
    clear cT hb4 hRT hHB4 hby HX HB3 HR
    go_wp2_with fail
    rw [← hwy] at cQ ⊢
    refine cQ.mono ?_
    clear hwy k0 k1 k2 k3 k4 cQ
    rintro e w5 ⟨rfl, hb5⟩
    have HZ5 : Aside (TwoG W w5 w3.heap.size w4.heap.size G T p q) := HZ.out.keep hb5
    have cP3 := parse_any ⟨(prT T).toArray⟩ w5 (HWB.out _ HZ5.out.bw).2 (HWB.out _ HZ5.out.bw).1 HTT.out.2
    rw [HTT.out.1] at cP3
    clear hb5 HZ
    generalize ByteArray.mk (prT T).toArray = tx at *
    go_wp2_with fail
    refine cP3.mono ?_
    rintro e w6 ⟨r, rfl, hRr, hb6⟩
    have hZ6 := HZ5.out.keep hb6
    have hbz := below_box w6 (.cells #[.int .i64 T.h, .int .i64 T.w, .slice r.a1 T.B.length r.c1, .slice r.a2 T.R.length r.c2, .slice r.a3 T.D.length r.c3] 27)
    obtain ⟨wz, hwz⟩ : ∃ wz, wz = w6.alloc (.cells #[.int .i64 T.h, .int .i64 T.w, .slice r.a1 T.B.length r.c1, .slice r.a2 T.R.length r.c2, .slice r.a3 T.D.length r.c3] 27) := ⟨_, rfl⟩
    rw [← hwz] at hbz
    have HZ6 : Aside (TwoG W wz w3.heap.size w4.heap.size G T p q ∧ Bx wz w6.heap.size T r ∧ RG wz T r) := ⟨hZ6.keep hbz, by rw [hwz]; exact Bx.new w6 T r _, hRr.below hbz⟩
    have cS := refSame_any T T q r wz (len_ok HTK.out) HZ6.out.1.rt HZ6.out.2.2
    rw [Gr.same_refl] at cS
    obtain ⟨_, k0, k1, k2, k3, k4⟩ := HZ6.out.1.xt
    obtain ⟨_, j0, j1, j2, j3, j4⟩ := HZ6.out.2.1
    rw [hwz] at cS k0 k1 k2 k3 k4 j0 j1 j2 j3 j4
    unfold gv at cS ⊢
    clear cP3 hb6 hRr hZ6 hbz HZ5
    go_wp2_with fail
    rw [← hwz] at cS ⊢
    refine cS.mono ?_
    clear cS hwz k0 k1 k2 k3 k4 j0 j1 j2 j3 j4
    rintro e w7 ⟨rfl, hb7⟩
    have HZ7 : Aside (TwoG W w7 w3.heap.size w4.heap.size G T p q) := HZ6.out.1.keep hb7
    clear hb7 HZ6
    generalize w3.heap.size = bg at *
    generalize w4.heap.size = bt' at *
    obtain ⟨wl, hwl⟩ : ∃ wl, wl = w7.alloc (.cells #[.int .i64 0, .int .i64 0, .int .i64 0, .int .i64 0, .int .i64 0, .int .i64 0, .int .i64 0, .int .i64 0, .int .i64 0, .int .i64 0, .int .i64 0, .int .i64 0, .int .i64 0, .int .i64 0, .int .i64 0, .int .i64 0, .int .i64 0] 34) := ⟨_, rfl⟩
    have HL0 : Aside (A17 wl w7.heap.size (lensI [] []) ∧ Below w7.heap.size w7 wl ∧ wl.heap.size = w7.heap.size + 1) := by
      rw [hwl, lensI_nil]
      exact ⟨⟨heap_alloc_new w7 _, by decide⟩, below_box w7 _, World.size_alloc _ _⟩
    have HZ8 := HZ7.out.keep HL0.out.2.1
    have cL := List_any G p wl (HWB.out _ HZ8.bw).1 HZ8.rg
    obtain ⟨_, k0, k1, k2, k3, k4⟩ := HZ8.xg
    rw [hwl] at cL k0 k1 k2 k3 k4
    unfold gv at cL
    clear HZ8
    go_wp2_with fail
    rw [← hwl] at cL ⊢
    refine cL.mono ?_
    rintro e w8 ⟨v, us, rfl, hO, hb8⟩
    rw [HL0.out.2.2] at hO
    have HA8 : Aside (A17 w8 w7.heap.size (lensI [] []) ∧ Below w7.heap.size w7 w8) := ⟨HL0.out.1.keep hb8, HL0.out.2.1.trans (hb8.mono HL0.out.2.1.size)⟩
    obtain ⟨ao, cap, rfl, _⟩ := hO.read
    have HO8 : Aside (OwnL w8 (w7.heap.size + 1) (.slice ao G.sl.length cap) G.sl us) := hO
    have HLB : Aside (w7.heap.size ≤ w7.heap.size) := Nat.le_refl _
    have hsl := G.sl_len
    have htl := T.sl_len
    have HS16 : Aside (∀ (g : Gr) (s : Sl), s ∈ g.sl → 2 ≤ s.cs.length ∧ s.cs.length ≤ 16) := fun g s h => Gr.sl_len16 h
    clear cL hb8 hO hwl HL0 k0 k1 k2 k3 k4
    generalize hb7 : w7.heap.size = b at *
    go_wp2
    go_loopg [85] G.sl.length (fun g1 iv wr => ∃ n : Nat, iv = .int .i64 (n : Int) ∧ n ≤ G.sl.length ∧ G.sl.length - n ≤ g1 ∧ Aside (OwnL wr (b + 1) (.slice ao G.sl.length cap) G.sl us) ∧ Aside (A17 wr b (lensI (G.sl.take n) [])) ∧ Aside (Below b w7 wr))
    case atStart => exact ⟨0, rfl, Nat.zero_le _, Nat.le_refl _, HO8, HA8.out.1, HA8.out.2⟩
    case round =>
      clear HO8 HA8
      obtain ⟨n, rfl, hn, hg1, HO, HA, HB⟩ := hrel
      by_cases hlt : n < G.sl.length
      · have hltz : (n : Int) < (G.sl.length : Int) := by omega
        have hs1 : G.sl[n]? = some (G.sl[n]'hlt) := List.getElem?_eq_getElem hlt
        generalize G.sl[n]'hlt = x at hs1
        obtain ⟨h2, h16⟩ := HS16.out G x (List.mem_of_getElem? hs1)
        have HN1 : Aside (_ ∧ _) := ⟨hlt, hg1⟩
        obtain ⟨ao', cap', e', hRL⟩ := HO.out.read
        cases e'
        obtain ⟨b0, a', c', rfl, hb0, e0, e1, e2, _⟩ := hRL n x hs1
        have hbz := below_box wr (.cells #[.int .i64 (x.num : Int), .bool x.dn, .slice a' x.cs.length c'] 39)
        have HXB : Aside (OwnL (wr.alloc (.cells #[.int .i64 (x.num : Int), .bool x.dn, .slice a' x.cs.length c'] 39)) (b + 1) (.slice (some ⟨b0, 0, none⟩) G.sl.length cap) G.sl us ∧ A17 (wr.alloc (.cells #[.int .i64 (x.num : Int), .bool x.dn, .slice a' x.cs.length c'] 39)) b (lensI (G.sl.take n) []) ∧ Below b w7 (wr.alloc (.cells #[.int .i64 (x.num : Int), .bool x.dn, .slice a' x.cs.length c'] 39))) := ⟨HO.out.keep hbz, HA.out.keep hbz, HB.out.alloc (by have h1 := HB.out.size; omega) _⟩
        have HST : Aside (∀ W, OwnL W (b + 1) (.slice (some ⟨b0, 0, none⟩) G.sl.length cap) G.sl us ∧ A17 W b (lensI (G.sl.take n) []) ∧ Below b w7 W → OwnL (W.setCell ⟨b, x.cs.length, none⟩ (.int .i64 ((cntL (G.sl.take n) x.cs.length : Int) + 1))) (b + 1) (.slice (some ⟨b0, 0, none⟩) G.sl.length cap) G.sl us ∧ A17 (W.setCell ⟨b, x.cs.length, none⟩ (.int .i64 ((cntL (G.sl.take n) x.cs.length : Int) + 1))) b (lensI (G.sl.take (n + 1)) []) ∧ Below b w7 (W.setCell ⟨b, x.cs.length, none⟩ (.int .i64 ((cntL (G.sl.take n) x.cs.length : Int) + 1)))) := fun W h => by
          have hd : Dif (fun k => k = b) W (W.setCell ⟨b, x.cs.length, none⟩ (.int .i64 ((cntL (G.sl.take n) x.cs.length : Int) + 1))) := (Dif.refl _ _).set b _ _ rfl
          refine ⟨ownL_difb h.1 hd, ?_, Below.setIn h.2.2 (Nat.le_refl _) (by have h1 := h.2.2.size; omega)⟩
          have ht : G.sl.take (n + 1) = G.sl.take n ++ [x] := by rw [List.take_add_one, hs1]; rfl
          have h1 := lensI_incr (G.sl.take n) [] x
          have h0 : cntL [] x.cs.length = 0 := rfl
          rw [h0] at h1
          rw [ht, ← h1]
          have h2 := h.2.1.set x.cs.length ((cntL (G.sl.take n) x.cs.length : Int) + 1)
          simpa using h2
        have hcl : cntL (G.sl.take n) x.cs.length ≤ 512 := by
          have h1 := cntL_le (G.sl.take n) x.cs.length
          have h2 : (G.sl.take n).length ≤ G.sl.length := List.length_take_le' _ _
          omega
        have y0 := HXB.out.2.1.at (lensI_at (G.sl.take n) [] (show x.cs.length < 17 by omega))
        have y1 := HXB.out.2.1.fr x.cs.length
        rw [show ((cntL (G.sl.take n) x.cs.length : Int) - (cntL [] x.cs.length : Int)) = (cntL (G.sl.take n) x.cs.length : Int) by show _ - ((0 : Nat) : Int) = _; omega] at y0
        generalize cntL (G.sl.take n) x.cs.length = ct at *
        have HEL : Aside (∃ y : Nat, x.cs.length = y) := ⟨_, rfl⟩
        generalize x.cs.length = xl at *
        have hx1 : ¬ (xl : Int) < 2 := by omega
        have hx2 : ¬ (16 : Int) < (xl : Int) := by omega
        have hx3 : xl < 17 := by omega
        clear hs1 hRL hbz HO HA HB hn hg1 hlt
        go_wp2
        have hN := HST.out _ HXB.out
        have HNA : Aside (_ ∧ _ ∧ _) := hN
        go_roundg (G.sl.length - (n + 1))
        case measure =>
          have h1 := HN1.out.1
          have h2 := HN1.out.2
          omega
        case rel => exact ⟨n + 1, by go_num, by have := HN1.out.1; omega, Nat.le_refl _, HNA.out.1, HNA.out.2.1, HNA.out.2.2⟩
      · have hltz : ¬ (n : Int) < (G.sl.length : Int) := by omega
        obtain rfl : n = G.sl.length := by omega
        have HE : Aside (A17 wr b (lensI G.sl []) ∧ Below b w7 wr) := by
          refine ⟨?_, HB.out⟩
          have := HA.out
          rw [List.take_length] at this
          exact this
        clear HO HA HB hn hg1
        have hbw : Below w7.heap.size w7 wr := by rw [hb7]; exact HE.out.2
        have HZ8 := HZ7.out.keep hbw
        have cL := List_any T q wr (HWB.out _ HZ8.bw).1 HZ8.rt
        obtain ⟨_, k0, k1, k2, k3, k4⟩ := HZ8.xt
        unfold gv at cL
        clear HZ8 hbw
        go_wp2_with fail
        refine cL.mono ?_
        rintro e w9 ⟨v, us2, rfl, hO, hb9⟩
        have hlt1 := HE.out.1.lt
        obtain ⟨ao2, cap2, rfl, _⟩ := hO.read
        have HO9 : Aside (OwnL w9 (b + 1) (.slice ao2 T.sl.length cap2) T.sl us2) := hO.base hlt1
        have HE9 : Aside (A17 w9 b (lensI G.sl []) ∧ Below b w7 w9) := ⟨HE.out.1.keep hb9, HE.out.2.trans (hb9.mono (by omega))⟩
        clear cL hb9 hO HE k0 k1 k2 k3 k4 hlt1
        generalize wr = wE at *
        go_wp2
        go_loopg [110] T.sl.length (fun g2 iv wr => ∃ n : Nat, iv = .int .i64 (n : Int) ∧ n ≤ T.sl.length ∧ T.sl.length - n ≤ g2 ∧ Aside (OwnL wr (b + 1) (.slice ao2 T.sl.length cap2) T.sl us2) ∧ Aside (A17 wr b (lensI G.sl (T.sl.take n))) ∧ Aside (Below b w7 wr))
        case atStart => exact ⟨0, rfl, Nat.zero_le _, Nat.le_refl _, HO9, HE9.out.1, HE9.out.2⟩
        case round =>
          clear HO9 HE9
          obtain ⟨n, rfl, hn, hg1, HO, HA, HB⟩ := hrel
          by_cases hlt : n < T.sl.length
          · have hltz : (n : Int) < (T.sl.length : Int) := by omega
            have hs1 : T.sl[n]? = some (T.sl[n]'hlt) := List.getElem?_eq_getElem hlt
            generalize T.sl[n]'hlt = x at hs1
            obtain ⟨h2, h16⟩ := HS16.out T x (List.mem_of_getElem? hs1)
            have HN1 : Aside (_ ∧ _) := ⟨hlt, hg1⟩
            obtain ⟨ao', cap', e', hRL⟩ := HO.out.read
            cases e'
            obtain ⟨b0, a', c', rfl, hb0, e0, e1, e2, _⟩ := hRL n x hs1
            have hbz := below_box wr (.cells #[.int .i64 (x.num : Int), .bool x.dn, .slice a' x.cs.length c'] 39)
            have HXB : Aside (OwnL (wr.alloc (.cells #[.int .i64 (x.num : Int), .bool x.dn, .slice a' x.cs.length c'] 39)) (b + 1) (.slice (some ⟨b0, 0, none⟩) T.sl.length cap2) T.sl us2 ∧ A17 (wr.alloc (.cells #[.int .i64 (x.num : Int), .bool x.dn, .slice a' x.cs.length c'] 39)) b (lensI G.sl (T.sl.take n)) ∧ Below b w7 (wr.alloc (.cells #[.int .i64 (x.num : Int), .bool x.dn, .slice a' x.cs.length c'] 39))) := ⟨HO.out.keep hbz, HA.out.keep hbz, HB.out.alloc (by have h1 := HB.out.size; omega) _⟩
            have HST : Aside (∀ W, OwnL W (b + 1) (.slice (some ⟨b0, 0, none⟩) T.sl.length cap2) T.sl us2 ∧ A17 W b (lensI G.sl (T.sl.take n)) ∧ Below b w7 W → OwnL (W.setCell ⟨b, x.cs.length, none⟩ (.int .i64 ((cntL G.sl x.cs.length : Int) - (cntL (T.sl.take n) x.cs.length : Int) - 1))) (b + 1) (.slice (some ⟨b0, 0, none⟩) T.sl.length cap2) T.sl us2 ∧ A17 (W.setCell ⟨b, x.cs.length, none⟩ (.int .i64 ((cntL G.sl x.cs.length : Int) - (cntL (T.sl.take n) x.cs.length : Int) - 1))) b (lensI G.sl (T.sl.take (n + 1))) ∧ Below b w7 (W.setCell ⟨b, x.cs.length, none⟩ (.int .i64 ((cntL G.sl x.cs.length : Int) - (cntL (T.sl.take n) x.cs.length : Int) - 1)))) := fun W h => by
              have hd : Dif (fun k => k = b) W (W.setCell ⟨b, x.cs.length, none⟩ (.int .i64 ((cntL G.sl x.cs.length : Int) - (cntL (T.sl.take n) x.cs.length : Int) - 1))) := (Dif.refl _ _).set b _ _ rfl
              refine ⟨ownL_difb h.1 hd, ?_, Below.setIn h.2.2 (Nat.le_refl _) (by have h1 := h.2.2.size; omega)⟩
              have ht : T.sl.take (n + 1) = T.sl.take n ++ [x] := by rw [List.take_add_one, hs1]; rfl
              have h1 := lensI_decr G.sl (T.sl.take n) x
              rw [ht, ← h1]
              exact h.2.1.set x.cs.length _
            have hcl : cntL (T.sl.take n) x.cs.length ≤ 512 ∧ cntL G.sl x.cs.length ≤ 512 := by
              have h1 := cntL_le (T.sl.take n) x.cs.length
              have h2 : (T.sl.take n).length ≤ T.sl.length := List.length_take_le' _ _
              have h3 := cntL_le G.sl x.cs.length
              omega
            have y0 := HXB.out.2.1.at (lensI_at G.sl (T.sl.take n) (show x.cs.length < 17 by omega))
            have y1 := HXB.out.2.1.fr x.cs.length
            generalize cntL (T.sl.take n) x.cs.length = ct at *
            generalize cntL G.sl x.cs.length = cu at *
            have hcv : ∃ cv : Int, (cu : Int) - (ct : Int) = cv ∧ -512 ≤ cv ∧ cv ≤ 512 := ⟨_, rfl, by omega, by omega⟩
            obtain ⟨cv, hcv, hc1, hc2⟩ := hcv
            rw [hcv] at y0 HST
            clear hcv hcl
            have HEL : Aside (∃ y : Nat, x.cs.length = y) := ⟨_, rfl⟩
            generalize x.cs.length = xl at *
            have hx1 : ¬ (xl : Int) < 2 := by omega
            have hx2 : ¬ (16 : Int) < (xl : Int) := by omega
            have hx3 : xl < 17 := by omega
            clear hs1 hRL hbz HO HA HB hn hg1 hlt
            go_wp2
            have hN := HST.out _ HXB.out
            have HNA : Aside (_ ∧ _ ∧ _) := hN
            go_roundg (T.sl.length - (n + 1))
            case measure =>
              have h1 := HN1.out.1
              have h2 := HN1.out.2
              omega
            case rel => exact ⟨n + 1, by go_num, by have := HN1.out.1; omega, Nat.le_refl _, HNA.out.1, HNA.out.2.1, HNA.out.2.2⟩
          · have hltz : ¬ (n : Int) < (T.sl.length : Int) := by omega
            obtain rfl : n = T.sl.length := by omega
            have HE : Aside (A17 wr b (List.replicate 17 0) ∧ Below b w7 wr) := by
              refine ⟨?_, HB.out⟩
              have := HA.out
              rw [List.take_length, lensI_same HF.out.1] at this
              exact this
            clear HO HA HB hn hg1
            have hbw : Below w7.heap.size w7 wr := by rw [hb7]; exact HE.out.2
            have HZ9 : Aside (TwoG W wr bg bt' G T p q) := HZ7.out.keep hbw
            have cC := parts_open G p HG.out wr (HWB.out _ HZ9.out.bw).1 HZ9.out.rg
            obtain ⟨_, k0, k1, k2, k3, k4⟩ := HZ9.out.xg
            unfold gv at cC
            clear hbw
            go_wp2_with fail
            refine cC.mono ?_
            rintro e wp ⟨vp, rfl, _, _, _, hbp⟩
            have HZp : Aside (TwoG W wp bg bt' G T p q ∧ A17 wp b (List.replicate 17 0)) := ⟨HZ9.out.keep hbp, HE.out.1.keep hbp⟩
            have cD := parts_open T q HTK.out wp (HWB.out _ HZp.out.1.bw).1 HZp.out.1.rt
            rw [HF.out.2.2.1] at cD
            clear cC hbp HZ9 HE k0 k1 k2 k3 k4
            obtain ⟨_, k0, k1, k2, k3, k4⟩ := HZp.out.1.xt
            unfold gv at cD
            go_wp2_with fail
            refine cD.mono ?_
            rintro e wq ⟨vq, rfl, _, _, _, hbq⟩
            have HZq : Aside (TwoG W wq bg bt' G T p q ∧ A17 wq b (List.replicate 17 0)) := ⟨HZp.out.1.keep hbq, HZp.out.2.keep hbq⟩
            clear cD hbq HZp k0 k1 k2 k3 k4
            generalize G.count = gc at *
            go_wp2
            have hSS : ∀ Z Z', (TwoG W Z bg bt' G T p q ∧ A17 Z b (List.replicate 17 0)) → Below Z.heap.size Z Z' → (TwoG W Z' bg bt' G T p q ∧ A17 Z' b (List.replicate 17 0)) := fun Z Z' h hb => ⟨h.1.keep hb, h.2.keep hb⟩
            have hSW : TwoG W wq.drew bg bt' G T p q ∧ A17 wq.drew b (List.replicate 17 0) := hSS _ _ HZq.out (Below.drew (Below.refl _ _))
            have HCG : ∀ Z, (TwoG W Z bg bt' G T p q ∧ A17 Z b (List.replicate 17 0)) → Calls Tryd.prog 12 #[.agg #[.int .i64 G.h, .int .i64 G.w, .slice p.a1 G.B.length p.c1, .slice p.a2 G.R.length p.c2, .slice p.a3 G.D.length p.c3]] Z fun e w' => e = .returned (.int .i64 (G.cnt : Nat)) ∧ Below Z.heap.size Z w' := fun Z h => count_any G p Z (HWB.out _ h.1.bw).1 h.1.rg
            have HCT : ∀ Z, (TwoG W Z bg bt' G T p q ∧ A17 Z b (List.replicate 17 0)) → Calls Tryd.prog 12 #[.agg #[.int .i64 T.h, .int .i64 T.w, .slice q.a1 T.B.length q.c1, .slice q.a2 T.R.length q.c2, .slice q.a3 T.D.length q.c3]] Z fun e w' => e = .returned (.int .i64 (G.cnt : Nat)) ∧ Below Z.heap.size Z w' := fun Z h => HF.out.2.1 ▸ count_any T q Z (HWB.out _ h.1.bw).1 h.1.rt
            have HXG : ∀ Z, (TwoG W Z bg bt' G T p q ∧ A17 Z b (List.replicate 17 0)) → Calls Tryd.prog 13 #[.agg #[.int .i64 G.h, .int .i64 G.w, .slice p.a1 G.B.length p.c1, .slice p.a2 G.R.length p.c2, .slice p.a3 G.D.length p.c3]] Z fun e w' => e = .returned (.int .i64 (G.crK G.m : Nat)) ∧ Below Z.heap.size Z w' := fun Z h => Crossings_any G p Z (HWB.out _ h.1.bw).1 h.1.rg
            have HXT : ∀ Z, (TwoG W Z bg bt' G T p q ∧ A17 Z b (List.replicate 17 0)) → Calls Tryd.prog 13 #[.agg #[.int .i64 T.h, .int .i64 T.w, .slice q.a1 T.B.length q.c1, .slice q.a2 T.R.length q.c2, .slice q.a3 T.D.length q.c3]] Z fun e w' => e = .returned (.int .i64 (G.crK G.m : Nat)) ∧ Below Z.heap.size Z w' := fun Z h => HF.out.2.2.2 ▸ Crossings_any T q Z (HWB.out _ h.1.bw).1 h.1.rt
            have HZA : ∀ Z, A17 Z b (List.replicate 17 0) → Z.cell? ⟨b, 0, none⟩ = some (.int .i64 0) ∧ Z.cell? ⟨b, 1, none⟩ = some (.int .i64 0) ∧ Z.cell? ⟨b, 2, none⟩ = some (.int .i64 0) ∧ Z.cell? ⟨b, 3, none⟩ = some (.int .i64 0) ∧ Z.cell? ⟨b, 4, none⟩ = some (.int .i64 0) ∧ Z.cell? ⟨b, 5, none⟩ = some (.int .i64 0) ∧ Z.cell? ⟨b, 6, none⟩ = some (.int .i64 0) ∧ Z.cell? ⟨b, 7, none⟩ = some (.int .i64 0) ∧ Z.cell? ⟨b, 8, none⟩ = some (.int .i64 0) ∧ Z.cell? ⟨b, 9, none⟩ = some (.int .i64 0) ∧ Z.cell? ⟨b, 10, none⟩ = some (.int .i64 0) ∧ Z.cell? ⟨b, 11, none⟩ = some (.int .i64 0) ∧ Z.cell? ⟨b, 12, none⟩ = some (.int .i64 0) ∧ Z.cell? ⟨b, 13, none⟩ = some (.int .i64 0) ∧ Z.cell? ⟨b, 14, none⟩ = some (.int .i64 0) ∧ Z.cell? ⟨b, 15, none⟩ = some (.int .i64 0) ∧ Z.cell? ⟨b, 16, none⟩ = some (.int .i64 0) := fun Z h => ⟨h.at rfl, h.at rfl, h.at rfl, h.at rfl, h.at rfl, h.at rfl, h.at rfl, h.at rfl, h.at rfl, h.at rfl, h.at rfl, h.at rfl, h.at rfl, h.at rfl, h.at rfl, h.at rfl, h.at rfl⟩
            generalize G.cnt = cc at *
            generalize G.crK G.m = cx at *
            refine wp_region_held (S := fun Z => TwoG W Z bg bt' G T p q ∧ A17 Z b (List.replicate 17 0)) (by kernel_rfl) ?_
            refine (show wpAnyH _ .any _ _ _ 23 (Array.replicate 23 false) _ wq.drew from ?_)
            refine takeD (i := 0) (d := 142) (v := .agg #[.int .i64 0, .int .i64 0, .int .i64 0, .int .i64 0, .int .i64 0, .int .i64 0, .int .i64 0, .int .i64 0, .int .i64 0, .int .i64 0, .int .i64 0, .int .i64 0, .int .i64 0, .int .i64 0, .int .i64 0, .int .i64 0, .int .i64 0]) rfl (by kernel_rfl) (by kernel_rfl) (by kernel_rfl) (fun _ _ _ h => h) (fun oi ho => yields_now ho rfl fun Z hSw => ?_) hSW ?_
            · obtain ⟨z0, z1, z2, z3, z4, z5, z6, z7, z8, z9, z10, z11, z12, z13, z14, z15, z16⟩ := HZA Z hSw.2
              go_simp
            simp only [Act.put, List.setIfInBounds_toArray, List.set_cons_zero, List.set_cons_succ]
            refine takeD (i := 1) (d := 143) (v := .agg #[.int .i64 0, .int .i64 0, .int .i64 0, .int .i64 0, .int .i64 0, .int .i64 0, .int .i64 0, .int .i64 0, .int .i64 0, .int .i64 0, .int .i64 0, .int .i64 0, .int .i64 0, .int .i64 0, .int .i64 0, .int .i64 0, .int .i64 0]) rfl (by kernel_rfl) (by kernel_rfl) (by kernel_rfl) (fun _ _ _ h => h) (fun oi ho => yields_now ho rfl fun Z hSw => ?_) hSW ?_
            · clear hSw
              go_simp
            simp only [Act.put, List.setIfInBounds_toArray, List.set_cons_zero, List.set_cons_succ]
            refine takeD (i := 2) (d := 144) (v := .bool true) rfl (by kernel_rfl) (by kernel_rfl) (by kernel_rfl) (fun _ _ _ h => h) (fun oi ho => yields_now ho rfl fun Z hSw => ?_) hSW ?_
            · clear hSw
              go_simp
              first | kernel_rfl | rfl | (simp [Op.equalIn]; done)
            simp only [Act.put, List.setIfInBounds_toArray, List.set_cons_zero, List.set_cons_succ]
            refine takeD (i := 3) (d := 145) (v := .bool true) rfl (by kernel_rfl) (by kernel_rfl) (by kernel_rfl) (fun _ _ _ h => h) (fun oi ho => yields_now ho rfl fun Z hSw => ?_) hSW ?_
            · clear hSw
              go_simp
            simp only [Act.put, List.setIfInBounds_toArray, List.set_cons_zero, List.set_cons_succ]
            refine takeD (i := 4) (d := 146) (v := .int .i64 (gc : Nat)) rfl (by kernel_rfl) (by kernel_rfl) (by kernel_rfl) (fun _ _ _ h => h) (fun oi ho => yields_now ho rfl fun Z hSw => ?_) hSW ?_
            · clear hSw
              go_simp
            simp only [Act.put, List.setIfInBounds_toArray, List.set_cons_zero, List.set_cons_succ]
            refine takeD (i := 5) (d := 147) (v := .int .i64 (gc : Nat)) rfl (by kernel_rfl) (by kernel_rfl) (by kernel_rfl) (fun _ _ _ h => h) (fun oi ho => yields_now ho rfl fun Z hSw => ?_) hSW ?_
            · clear hSw
              go_simp
            simp only [Act.put, List.setIfInBounds_toArray, List.set_cons_zero, List.set_cons_succ]
            refine takeD (i := 6) (d := 148) (v := .bool true) rfl (by kernel_rfl) (by kernel_rfl) (by kernel_rfl) (fun _ _ _ h => h) (fun oi ho => yields_now ho rfl fun Z hSw => ?_) hSW ?_
            · clear hSw
              go_simp
            simp only [Act.put, List.setIfInBounds_toArray, List.set_cons_zero, List.set_cons_succ]
            refine takeD (i := 7) (d := 149) (v := .bool true) rfl (by kernel_rfl) (by kernel_rfl) (by kernel_rfl) (fun _ _ _ h => h) (fun oi ho => yields_now ho rfl fun Z hSw => ?_) hSW ?_
            · clear hSw
              go_simp
            simp only [Act.put, List.setIfInBounds_toArray, List.set_cons_zero, List.set_cons_succ]
            refine takeD (i := 8) (d := 150) (v := .bool true) rfl (by kernel_rfl) (by kernel_rfl) (by kernel_rfl) (fun _ _ _ h => h) (fun oi ho => yields_now ho rfl fun Z hSw => ?_) hSW ?_
            · clear hSw
              go_simp
            simp only [Act.put, List.setIfInBounds_toArray, List.set_cons_zero, List.set_cons_succ]
            refine takeD (i := 9) (d := 151) (v := .agg #[.int .i64 G.h, .int .i64 G.w, .slice p.a1 G.B.length p.c1, .slice p.a2 G.R.length p.c2, .slice p.a3 G.D.length p.c3]) rfl (by kernel_rfl) (by kernel_rfl) (by kernel_rfl) (fun _ _ _ h => h) (fun oi ho => yields_now ho rfl fun Z hSw => ?_) hSW ?_
            · obtain ⟨_, k0, k1, k2, k3, k4⟩ := hSw.1.xg
              go_simp
            simp only [Act.put, List.setIfInBounds_toArray, List.set_cons_zero, List.set_cons_succ]
            refine takeD (i := 11) (d := 153) (v := .agg #[.int .i64 T.h, .int .i64 T.w, .slice q.a1 T.B.length q.c1, .slice q.a2 T.R.length q.c2, .slice q.a3 T.D.length q.c3]) rfl (by kernel_rfl) (by kernel_rfl) (by kernel_rfl) (fun _ _ _ h => h) (fun oi ho => yields_now ho rfl fun Z hSw => ?_) hSW ?_
            · obtain ⟨_, k0, k1, k2, k3, k4⟩ := hSw.1.xt
              go_simp
            simp only [Act.put, List.setIfInBounds_toArray, List.set_cons_zero, List.set_cons_succ]
            refine wpAnyH_all (rs := [10]) (by kernel_rfl) (by simp) (fun i hi => ?_)
            obtain rfl := List.mem_singleton.1 hi
            refine wpOp_call rfl rfl rfl (by go_simp) (HCG _ hSW) ?_
            rintro e wr1 ⟨rfl, hbN⟩
            have hSX := hSS _ _ hSW hbN
            clear hbN hSW
            have hSW := hSX
            clear hSX
            refine ⟨_, rfl, hSW, ?_⟩
            simp only [Act.put, List.setIfInBounds_toArray, List.set_cons_zero, List.set_cons_succ]
            refine wpAnyH_all (rs := [12]) (by kernel_rfl) (by simp) (fun i hi => ?_)
            obtain rfl := List.mem_singleton.1 hi
            refine wpOp_call rfl rfl rfl (by go_simp) (HCT _ hSW) ?_
            rintro e wr2 ⟨rfl, hbN⟩
            have hSX := hSS _ _ hSW hbN
            clear hbN hSW
            have hSW := hSX
            clear hSX
            refine ⟨_, rfl, hSW, ?_⟩
            simp only [Act.put, List.setIfInBounds_toArray, List.set_cons_zero, List.set_cons_succ]
            refine takeD (i := 13) (d := 155) (v := .bool true) rfl (by kernel_rfl) (by kernel_rfl) (by kernel_rfl) (fun _ _ _ h => h) (fun oi ho => yields_now ho rfl fun Z hSw => ?_) hSW ?_
            · clear hSw
              go_simp
            simp only [Act.put, List.setIfInBounds_toArray, List.set_cons_zero, List.set_cons_succ]
            refine takeD (i := 14) (d := 156) (v := .bool true) rfl (by kernel_rfl) (by kernel_rfl) (by kernel_rfl) (fun _ _ _ h => h) (fun oi ho => yields_now ho rfl fun Z hSw => ?_) hSW ?_
            · clear hSw
              go_simp
            simp only [Act.put, List.setIfInBounds_toArray, List.set_cons_zero, List.set_cons_succ]
            refine takeD (i := 15) (d := 157) (v := .bool true) rfl (by kernel_rfl) (by kernel_rfl) (by kernel_rfl) (fun _ _ _ h => h) (fun oi ho => yields_now ho rfl fun Z hSw => ?_) hSW ?_
            · clear hSw
              go_simp
            simp only [Act.put, List.setIfInBounds_toArray, List.set_cons_zero, List.set_cons_succ]
            refine takeD (i := 16) (d := 158) (v := .agg #[.int .i64 G.h, .int .i64 G.w, .slice p.a1 G.B.length p.c1, .slice p.a2 G.R.length p.c2, .slice p.a3 G.D.length p.c3]) rfl (by kernel_rfl) (by kernel_rfl) (by kernel_rfl) (fun _ _ _ h => h) (fun oi ho => yields_now ho rfl fun Z hSw => ?_) hSW ?_
            · obtain ⟨_, k0, k1, k2, k3, k4⟩ := hSw.1.xg
              go_simp
            simp only [Act.put, List.setIfInBounds_toArray, List.set_cons_zero, List.set_cons_succ]
            refine takeD (i := 18) (d := 160) (v := .agg #[.int .i64 T.h, .int .i64 T.w, .slice q.a1 T.B.length q.c1, .slice q.a2 T.R.length q.c2, .slice q.a3 T.D.length q.c3]) rfl (by kernel_rfl) (by kernel_rfl) (by kernel_rfl) (fun _ _ _ h => h) (fun oi ho => yields_now ho rfl fun Z hSw => ?_) hSW ?_
            · obtain ⟨_, k0, k1, k2, k3, k4⟩ := hSw.1.xt
              go_simp
            simp only [Act.put, List.setIfInBounds_toArray, List.set_cons_zero, List.set_cons_succ]
            refine wpAnyH_all (rs := [17]) (by kernel_rfl) (by simp) (fun i hi => ?_)
            obtain rfl := List.mem_singleton.1 hi
            refine wpOp_call rfl rfl rfl (by go_simp) (HXG _ hSW) ?_
            rintro e wr3 ⟨rfl, hbN⟩
            have hSX := hSS _ _ hSW hbN
            clear hbN hSW
            have hSW := hSX
            clear hSX
            refine ⟨_, rfl, hSW, ?_⟩
            simp only [Act.put, List.setIfInBounds_toArray, List.set_cons_zero, List.set_cons_succ]
            refine wpAnyH_all (rs := [19]) (by kernel_rfl) (by simp) (fun i hi => ?_)
            obtain rfl := List.mem_singleton.1 hi
            refine wpOp_call rfl rfl rfl (by go_simp) (HXT _ hSW) ?_
            rintro e wr4 ⟨rfl, hbN⟩
            have hSX := hSS _ _ hSW hbN
            clear hbN hSW
            have hSW := hSX
            clear hSX
            refine ⟨_, rfl, hSW, ?_⟩
            simp only [Act.put, List.setIfInBounds_toArray, List.set_cons_zero, List.set_cons_succ]
            refine takeD (i := 20) (d := 162) (v := .bool true) rfl (by kernel_rfl) (by kernel_rfl) (by kernel_rfl) (fun _ _ _ h => h) (fun oi ho => yields_now ho rfl fun Z hSw => ?_) hSW ?_
            · clear hSw
              go_simp
            simp only [Act.put, List.setIfInBounds_toArray, List.set_cons_zero, List.set_cons_succ]
            refine takeD (i := 21) (d := 163) (v := .bool true) rfl (by kernel_rfl) (by kernel_rfl) (by kernel_rfl) (fun _ _ _ h => h) (fun oi ho => yields_now ho rfl fun Z hSw => ?_) hSW ?_
            · clear hSw
              go_simp
            simp only [Act.put, List.setIfInBounds_toArray, List.set_cons_zero, List.set_cons_succ]
            refine takeD (i := 22) (d := 4) (v := .bool true) rfl (by kernel_rfl) (by kernel_rfl) (by kernel_rfl) (fun _ _ _ h => h) (fun oi ho => yields_now ho rfl fun Z hSw => ?_) hSW ?_
            · clear hSw
              go_simp
            simp only [Act.put, List.setIfInBounds_toArray, List.set_cons_zero, List.set_cons_succ]
            refine wpAnyH_done (by kernel_rfl) ?_ _
            have HFIN : Aside (Below W.heap.size W wr4) := hSW.1.bw
            clear hSS hSW HCG HCT HXG HXT HZA
            go_wp2
            go_ret
            exact ⟨rfl, HFIN.out⟩
  · obtain ⟨rfl, ha, he⟩ := hF.2 her
    have heb : ((er : Int) != 0) = true := by rw [bne_iff_ne]; omega
    have hgv : gv zeroG p = .agg #[.int .i64 0, .int .i64 0, .slice p.a1 0 p.c1, .slice p.a2 0 p.c2, .slice p.a3 0 p.c3] := rfl
    rw [hgv]
    have HBX : Aside (Below W.heap.size W (w3.alloc (.cells #[.int .i64 0, .int .i64 0, .slice p.a1 0 p.c1, .slice p.a2 0 p.c2, .slice p.a3 0 p.c3] 27))) := HB3.out.trans ((below_box w3 _).mono HB3.out.size)
    clear hF hgv ha her
    go_wp2_with fail
    go_ret
    exact ⟨rfl, HBX.out⟩
end Go.Proofs.YthjgldjjplcncabDoor.Skt
