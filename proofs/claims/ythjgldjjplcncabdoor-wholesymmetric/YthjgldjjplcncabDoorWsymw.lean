/-
  WholeSymmetric walked.
-/
import Derived.Test.YthjgldjjplcncabDoorWtop
namespace Go.Proofs.YthjgldjjplcncabDoor.Grd
open Go Go.Lib Go.RowKit

/-- A block of 256 Bools. -/
structure Arr (W : World) (b : Nat) (I : List Bool) : Prop where
  blk : W.heap[b]? = some (.cells (cellsB I).toArray 45)
  len : I.length = 256
theorem Arr.lt {W : World} {b : Nat} {I : List Bool} (h : Arr W b I) : b < W.heap.size := (Array.getElem?_eq_some_iff.1 h.blk).1
theorem Arr.at {W : World} {b : Nat} {I : List Bool} (h : Arr W b I) {j : Nat} (hj : j < 256) : W.cell? ⟨b, j, none⟩ = some (.bool (bt I j)) := by
  have hl := h.len
  simp only [World.cell?, h.blk]
  rw [List.getElem?_toArray]
  exact cellsB_at (by omega)
theorem Arr.fr {W : World} {b : Nat} {I : List Bool} (h : Arr W b I) (j : Nat) : W.frozen? ⟨b, j, none⟩ = false := frozen_of_row W b j _ _ h.blk
theorem Arr.keep {W W' : World} {b : Nat} {I : List Bool} (h : Arr W b I) (hb : Below W.heap.size W W') : Arr W' b I := ⟨(hb.block b h.lt).trans h.blk, h.len⟩
theorem Arr.set {W : World} {b : Nat} {I : List Bool} (h : Arr W b I) (j : Nat) (v : Bool) : Arr (W.setCell ⟨b, j, none⟩ (.bool v)) b (I.set j v) := by
  refine ⟨?_, by rw [List.length_set]; exact h.len⟩
  rw [heap_setCell_same W b j _ _ _ h.blk]
  rw [← cellsB_set]
  simp

/-- What lies where while a slot is held against the others: its own box, the marks. -/
structure WSt (w4 W : World) (sb b : Nat) (s : Sl) (a' : Option Addr) (c' : Nat) (Z : List Bool) : Prop where
  bw : Below w4.heap.size w4 W
  lt : sb < W.heap.size
  q2 : W.cell? ⟨sb, 2, none⟩ = some (.slice a' s.cs.length c')
  arr : Arr W b Z
  ne : sb ≠ b
  lb : w4.heap.size ≤ b
theorem WSt.keep {w4 W W' : World} {sb b : Nat} {s : Sl} {a' : Option Addr} {c' : Nat} {Z : List Bool} (h : WSt w4 W sb b s a' c' Z) (hb : Below W.heap.size W W') : WSt w4 W' sb b s a' c' Z :=
  ⟨h.bw.trans (hb.mono h.bw.size), Nat.lt_of_lt_of_le h.lt hb.size, (hb.cell (p := ⟨sb, 2, none⟩) h.lt).trans h.q2, h.arr.keep hb, h.ne, h.lb⟩
theorem WSt.put {w4 W : World} {sb b : Nat} {s : Sl} {a' : Option Addr} {c' : Nat} {Z : List Bool} (h : WSt w4 W sb b s a' c' Z) (j : Nat) (v : Bool) : WSt w4 (W.setCell ⟨b, j, none⟩ (.bool v)) sb b s a' c' (Z.set j v) := by
  have hd : Dif (fun k => k = b) W (W.setCell ⟨b, j, none⟩ (.bool v)) := (Dif.refl _ _).set b j _ rfl
  refine ⟨Below.setIn h.bw h.lb h.bw.size, ?_, (hd.cell (p := ⟨sb, 2, none⟩) h.lt h.ne).trans h.q2, h.arr.set j v, h.ne, h.lb⟩
  simpa using h.lt
theorem WSt.start {w4 wr : World} (hb : Below w4.heap.size w4 wr) (s : Sl) (a' : Option Addr) (c' : Nat) (x y : Value) (t : TypeId) (cs : Array Value) (hcs : cs = (cellsB (List.replicate 256 false)).toArray) :
    WSt w4 ((wr.alloc (.cells #[x, y, .slice a' s.cs.length c'] t)).alloc (.cells cs 45)) wr.heap.size (wr.heap.size + 1) s a' c' (List.replicate 256 false) := by
  subst hcs
  have h1 := hb.alloc hb.size (.cells #[x, y, .slice a' s.cs.length c'] t)
  have hs := hb.size
  have hbx := below_box (wr.alloc (.cells #[x, y, .slice a' s.cs.length c'] t)) (.cells (cellsB (List.replicate 256 false)).toArray 45)
  refine ⟨h1.alloc h1.size _, by rw [World.size_alloc, World.size_alloc]; omega, (hbx.cell (p := ⟨wr.heap.size, 2, none⟩) (by rw [World.size_alloc]; exact Nat.lt_succ_self _)).trans (cells_box _ _ _ _), ⟨?_, List.length_replicate⟩, by omega, by omega⟩
  have := heap_alloc_new (wr.alloc (.cells #[x, y, .slice a' s.cs.length c'] t)) (.cells (cellsB (List.replicate 256 false)).toArray 45)
  rw [World.size_alloc] at this
  exact this
theorem zero256 : (Tryd.zeroCells45 : Array Value) = (cellsB (List.replicate 256 false)).toArray := by kernel_rfl

set_option maxRecDepth 100000 in
set_option maxHeartbeats 2000000 in
theorem wholeSymmetric_walk (g : Gr) (p : Ad) (w : World) (hR : RG w g p) (hw : Wy w) :
    Calls Tryd.prog 4 #[gv g p] w fun e w' => e = .returned (.bool true) ∧ Below w.heap.size w w' := by
  have cB := topBlank 2 2 (by omega) (by omega) (w.alloc (.cells #[.int .i64 g.h, .int .i64 g.w, .slice p.a1 g.B.length p.c1, .slice p.a2 g.R.length p.c2, .slice p.a3 g.D.length p.c3] 27))
  have HW : Aside (∀ W, Below w.heap.size w W → Wy W ∧ RG W g p) := fun W hb => ⟨hw.below hw.size hb, hR.below hb⟩
  have HSY : Aside (∀ G q W, Wy W → RG W G q → Calls Tryd.prog 14 #[gv G q] W fun e w' => ∃ v, e = .returned v ∧ w'.ownsRow W.heap.size 3 1 v G.syA.length (cellsI (ints G.syA)) ∧ Below W.heap.size W w') := fun G q W h1 h2 => Sym_any G q W h1 h2
  have HSL : Aside ((blankG 2 2).syA.length = 8) := blank22_sy
  have HL : Aside (∀ W, Below w.heap.size w W → Calls Tryd.prog 10 #[gv g p] W fun e w' => ∃ v us, e = .returned v ∧ OwnL w' W.heap.size v g.sl us ∧ Below W.heap.size W w') := fun W hb => List_any g p W (HW.out W hb).1 (HW.out W hb).2
  have HPC : Aside (∀ i k : Nat, g.ok → i < g.n → k < 8 → ∀ W, Calls Tryd.prog 15 #[.int .i64 g.h, .int .i64 g.w, .int .i64 i, .int .i64 k] W fun e W' => e = .returned (.tuple #[.int .i64 (plc g.H g.W i k : Nat), .int .i64 0]) ∧ Below W.heap.size W W') := fun i k h1 h2 h3 W => place_of g h1 h2 h3 W
  have HX0 : Aside (Bx (w.alloc (.cells #[.int .i64 g.h, .int .i64 g.w, .slice p.a1 g.B.length p.c1, .slice p.a2 g.R.length p.c2, .slice p.a3 g.D.length p.c3] 27)) w.heap.size g p ∧ Below w.heap.size w (w.alloc (.cells #[.int .i64 g.h, .int .i64 g.w, .slice p.a1 g.B.length p.c1, .slice p.a2 g.R.length p.c2, .slice p.a3 g.D.length p.c3] 27))) := ⟨Bx.new w g p _, below_box w _⟩
  unfold gv at HL
  unfold gv
  clear hw hR
  generalize blankG 2 2 = G at *
  go_enter Tryd.func4, Tryd.ntmps4
  go_wp2_with fail
  refine cB.mono ?_
  rintro e w1 ⟨q, rfl, hRG, hb1⟩
  have HX1 : Aside (Bx w1 w.heap.size g p ∧ Below w.heap.size w w1) := ⟨HX0.out.1.keep hb1, HX0.out.2.trans (hb1.mono HX0.out.2.size)⟩
  have cS := HSY.out G q w1 (HW.out _ HX1.out.2).1 hRG
  rw [HSL.out] at cS
  clear cB hRG hb1 HX0
  go_wp2_with fail
  refine cS.mono ?_
  rintro e w2 ⟨v, rfl, hown, hb2⟩
  obtain ⟨ao, cap, rfl, hln, _⟩ := row_reads hown
  rw [ints_length, HSL.out]
  have HX2 : Aside (Bx w2 w.heap.size g p ∧ Below w.heap.size w w2) := ⟨HX1.out.1.keep hb2, HX1.out.2.trans (hb2.mono HX1.out.2.size)⟩
  clear cS hown hb2 HX1 hln
  obtain ⟨_, k0, k1, k2, k3, k4⟩ := HX2.out.1
  have cL := HL.out w2 HX2.out.2
  go_wp2_with fail
  refine cL.mono ?_
  rintro e w3 ⟨v, us, rfl, hO, hb3⟩
  obtain ⟨ao, cap, rfl, hRL⟩ := hO.read
  have HX3 : Aside (Bx w3 w.heap.size g p ∧ Below w.heap.size w w3) := ⟨HX2.out.1.keep hb3, HX2.out.2.trans (hb3.mono HX2.out.2.size)⟩
  have HRL : Aside (ReadsL w3 ao g.sl) := hRL
  clear cL hO hb3 HX2 hRL k0 k1 k2 k3 k4
  obtain ⟨_, k0, k1, k2, k3, k4⟩ := HX3.out.1
  have cS := HSY.out g p w3 (HW.out _ HX3.out.2).1 (HW.out _ HX3.out.2).2
  unfold gv at cS
  go_wp2_with fail
  refine cS.mono ?_
  rintro e w4 ⟨v, rfl, hown, hb4⟩
  obtain ⟨asy, cas, rfl, hln, hRS⟩ := row_reads hown
  rw [ints_length] at *
  have HX4 : Aside (Bx w4 w.heap.size g p ∧ Below w.heap.size w w4 ∧ ReadsL w4 ao g.sl ∧ ReadsI w4 asy (ints g.syA)) := ⟨HX3.out.1.keep hb4, HX3.out.2.trans (hb4.mono HX3.out.2.size), HRL.out.below hb4, hRS⟩
  have hsl := g.sl_len
  have hsy := g.syA_len
  have HFD : Aside (∀ k s, k ∈ g.syA → s ∈ g.sl → fnd (went (fun c => plc g.H g.W c k) s.cs s.cs.length) s.cs.length g.sl g.sl.length = true) := fun k s h1 h2 => Gr.syA_found h1 h2
  have HCE : Aside (∀ s j c, s ∈ g.sl → s.cs[j]? = some c → c < g.n ∧ g.n ≤ 256 ∧ 2 ≤ s.cs.length ∧ s.cs.length ≤ 257) := fun s j c h1 h2 => Gr.sl_cell h1 h2
  have HSK : Aside (∀ k, k ∈ g.syA → g.ok ∧ k < 8) := fun k h => ⟨(Gr.syA_lt h).1, (Gr.syA_lt h).2.1⟩
  clear cS hown hb4 HX3 hRS hln k0 k1 k2 k3 k4 HRL HL HSY HSL HW
  go_wp2
  go_loopg [30] g.syA.length (fun g1 iv wr => ∃ m : Nat, iv = .int .i64 (m : Int) ∧ m ≤ g.syA.length ∧ g.syA.length - m ≤ g1 ∧ Aside (Below w4.heap.size w4 wr))
  case atStart => exact ⟨0, rfl, Nat.zero_le _, Nat.le_refl _, Below.refl _ _⟩
  case round =>
    obtain ⟨m, rfl, hm, hg, HB⟩ := hrel
    by_cases hlt : m < g.syA.length
    · have hltz : (m : Int) < (g.syA.length : Int) := by omega
      have hk : g.syA[m]? = some (g.syA[m]'hlt) := List.getElem?_eq_getElem hlt
      generalize g.syA[m]'hlt = k at hk
      have HKM : Aside (k ∈ g.syA) := List.mem_of_getElem? hk
      obtain ⟨hok, hk8⟩ := HSK.out k HKM.out
      obtain ⟨by0, oy, rfl, hby, ey⟩ := (HX4.out.2.2.2.below HB.out) m (by rw [ints_length]; exact hlt)
      rw [show (ints g.syA)[m]?.getD 0 = (k : Int) by simp [ints, hk]] at ey
      have HM1 : Aside (_ ∧ _) := ⟨hlt, hg⟩
      clear hk hg hm hlt
      go_wp2
      clear ey hby
      obtain ⟨wA, hwA⟩ : ∃ wA, wA = wr := ⟨_, rfl⟩
      subst hwA
      go_loopg [36] g.sl.length (fun g2 iv wr => ∃ n : Nat, iv = .int .i64 (n : Int) ∧ n ≤ g.sl.length ∧ g.sl.length - n ≤ g2 ∧ Aside (Below w4.heap.size w4 wr))
      case atStart => exact ⟨0, rfl, Nat.zero_le _, Nat.le_refl _, HB⟩
      case round =>
        clear HB
        obtain ⟨n, rfl, hn, hg2, HB⟩ := hrel
        by_cases hln : n < g.sl.length
        · have hlnz : (n : Int) < (g.sl.length : Int) := by omega
          have hs : g.sl[n]? = some (g.sl[n]'hln) := List.getElem?_eq_getElem hln
          generalize g.sl[n]'hln = s at hs
          have HSM : Aside (s ∈ g.sl) := List.mem_of_getElem? hs
          have HN1 : Aside (_ ∧ _) := ⟨hln, hg2⟩
          obtain ⟨b0, a', c', rfl, hb0, e0, e1, e2, hRI⟩ := (HX4.out.2.2.1.below HB.out) n s hs
          have hl2 : 2 ≤ s.cs.length ∧ s.cs.length ≤ 257 := by
            obtain ⟨_, i, _, hS⟩ := Gr.mem_sl HSM.out
            have hp := g.run_pos (way s.dn) i
            have hc0 : s.cs[0]? = some i := by rw [hS.cs, Gr.run_head]
            have := HCE.out s 0 i HSM.out hc0
            exact ⟨this.2.2.1, this.2.2.2⟩
          have HRI : Aside (ReadsI wr a' (ints s.cs)) := hRI
          have HRW : Aside (∀ W, Below w4.heap.size w4 W → ReadsI W a' (ints s.cs)) := by
            obtain ⟨b0', a'', c'', e', hb0', e0', e1', e2', hRI'⟩ := HX4.out.2.2.1 n s hs
            cases e'
            have h2 := (HB.out.cell (p := ⟨b0, n * 3 + 2, none⟩) hb0').trans e2'
            rw [e2] at h2
            cases h2
            exact fun W hW => hRI'.below hW
          clear hs hRI hn hln hg2
          generalize s.num = sn at e0
          go_wp2
          have HW5 : Aside (WSt w4 ((wr.alloc (.cells #[.int .i64 (sn : Int), .bool s.dn, .slice a' s.cs.length c'] 39)).alloc (.cells Tryd.zeroCells45 45)) wr.heap.size (wr.heap.size + 1) s a' c' (went (fun c => plc g.H g.W c k) s.cs 0) ∧ ReadsI ((wr.alloc (.cells #[.int .i64 (sn : Int), .bool s.dn, .slice a' s.cs.length c'] 39)).alloc (.cells Tryd.zeroCells45 45)) a' (ints s.cs)) := by
            have hq := (below_box wr (.cells #[.int .i64 (sn : Int), .bool s.dn, .slice a' s.cs.length c'] 39)).alloc (by rw [World.size_alloc]; omega) (.cells Tryd.zeroCells45 45)
            rw [went_zero]
            exact ⟨WSt.start HB.out s a' c' _ _ _ _ zero256, HRI.out.below hq⟩
          generalize (wr.alloc (.cells #[.int .i64 (sn : Int), .bool s.dn, .slice a' s.cs.length c'] 39)).alloc (.cells Tryd.zeroCells45 45) = w5 at *
          generalize wr.heap.size + 1 = b at *
          generalize wr.heap.size = sb at *
          clear e0 e1 e2 hb0 HB HRI
          have HL2 : Aside (2 ≤ s.cs.length ∧ s.cs.length ≤ 257) := hl2
          obtain ⟨wB, hwB⟩ : ∃ wB, wB = wr := ⟨_, rfl⟩
          subst hwB
          go_loopg [43] s.cs.length (fun g3 iv wr => ∃ j : Nat, iv = .int .i64 (j : Int) ∧ j ≤ s.cs.length ∧ s.cs.length - j ≤ g3 ∧ Aside (WSt w4 wr sb b s a' c' (went (fun c => plc g.H g.W c k) s.cs j)))
          case atStart => exact ⟨0, rfl, Nat.zero_le _, Nat.le_refl _, HW5.out.1⟩
          case round =>
            clear HW5
            obtain ⟨j, rfl, hj, hg3, HC⟩ := hrel
            by_cases hlj : j < s.cs.length
            · have hljz : (j : Int) < (s.cs.length : Int) := by omega
              have hc : s.cs[j]? = some (s.cs[j]'hlj) := List.getElem?_eq_getElem hlj
              generalize s.cs[j]'hlj = c at hc
              obtain ⟨hcn, hn256, _, _⟩ := HCE.out s j c HSM.out hc
              obtain ⟨b7, o7, rfl, hb7, e7⟩ := (HRW.out wr HC.out.bw) j (by rw [ints_length]; exact hlj)
              rw [show (ints s.cs)[j]?.getD 0 = (c : Int) by simp [ints, hc]] at e7
              have cP := HPC.out c k hok hcn hk8 wr
              have hpl : plc g.H g.W c k < g.n := plc_lt hcn k
              have HST : Aside (∀ W, WSt w4 W sb b s (some ⟨b7, o7, none⟩) c' (went (fun c => plc g.H g.W c k) s.cs j) → WSt w4 (W.setCell ⟨b, plc g.H g.W c k, none⟩ (.bool true)) sb b s (some ⟨b7, o7, none⟩) c' (went (fun c => plc g.H g.W c k) s.cs (j + 1))) := fun W h => by
                rw [← went_set (fun c => plc g.H g.W c k) hc]
                exact h.put _ _
              have HJ1 : Aside (_ ∧ _) := ⟨hlj, hg3⟩
              obtain ⟨_, k0, k1, k2, k3, k4⟩ := (HX4.out.1.keep HC.out.bw)
              generalize plc g.H g.W c k = at_ at *
              clear hc hj hg3
              go_wp2_with fail
              refine cP.mono ?_
              rintro e w7 ⟨rfl, hb7s⟩
              have hC7 := HC.out.keep hb7s
              have HC7 : Aside (WSt w4 (w7.setCell ⟨b, at_, none⟩ (.bool true)) sb b s (some ⟨b7, o7, none⟩) c' (went (fun c => plc g.H g.W c k) s.cs (j + 1))) := HST.out w7 hC7
              have y0 := hC7.arr.at (show at_ < 256 by omega)
              have y1 := hC7.arr.fr at_
              have hz1 : ¬ (at_ : Int) < 0 := by omega
              have hz2 : ¬ (255 : Int) < (at_ : Int) := by omega
              have hz3 : at_ < 256 := by omega
              generalize bt (went (fun c => plc g.H g.W c k) s.cs j) at_ = z at *
              clear cP hb7s k0 k1 k2 k3 k4 e7 hC7 HST HC
              go_wp2
              go_roundg (s.cs.length - (j + 1))
              case measure =>
                have h1 := HJ1.out.1
                have h2 := HJ1.out.2
                omega
              case rel => exact ⟨j + 1, by go_num, by have := HJ1.out.1; omega, Nat.le_refl _, HC7⟩
            · have hljz : ¬ (j : Int) < (s.cs.length : Int) := by omega
              obtain rfl : j = s.cs.length := by omega
              have HFN : Aside (fnd (went (fun c => plc g.H g.W c k) s.cs s.cs.length) s.cs.length g.sl g.sl.length = true) := HFD.out k s HKM.out HSM.out
              have HZA : Aside (∀ x, x < 256 → ∃ z, bt (went (fun c => plc g.H g.W c k) s.cs s.cs.length) x = z) := fun x _ => ⟨_, rfl⟩
              generalize went (fun c => plc g.H g.W c k) s.cs s.cs.length = Z at *
              go_wp2
              obtain ⟨wC, hwC⟩ : ∃ wC, wC = wr := ⟨_, rfl⟩
              subst hwC
              go_loopg [72, 14] g.sl.length (fun g4 iv fv wr => ∃ (q : Nat) (fb : Bool), iv = .int .i64 (q : Int) ∧ fv = .bool fb ∧ q ≤ g.sl.length ∧ g.sl.length - q ≤ g4 ∧ Aside (fb = fnd Z s.cs.length g.sl q) ∧ Aside (WSt w4 wr sb b s a' c' Z))
              case atStart => exact ⟨0, false, rfl, rfl, Nat.zero_le _, Nat.le_refl _, (fnd_zero _ _ _).symm, HC⟩
              case round =>
                clear HC
                obtain ⟨q, fb, rfl, rfl, hq, hg4, HFB, HC⟩ := hrel
                by_cases hlq : q < g.sl.length
                · have hlqz : (q : Int) < (g.sl.length : Int) := by omega
                  have ho : g.sl[q]? = some (g.sl[q]'hlq) := List.getElem?_eq_getElem hlq
                  generalize g.sl[q]'hlq = o at ho
                  have HOM : Aside (o ∈ g.sl) := List.mem_of_getElem? ho
                  have HQ1 : Aside (_ ∧ _) := ⟨hlq, hg4⟩
                  have HFS : Aside (fnd Z s.cs.length g.sl (q + 1) = (fb || okO Z s.cs.length o)) := by rw [HFB.out]; exact fnd_step Z s.cs.length ho
                  obtain ⟨b1, a1, c1, e1a, hb1, u0, u1, u2, hRO⟩ := (HX4.out.2.2.1.below HC.out.bw) q o ho
                  cases e1a
                  have HRO : Aside (∀ W, Below w4.heap.size w4 W → ReadsI W a1 (ints o.cs)) := by
                    obtain ⟨b0', a'', c'', e', hb0', e0', e1', e2', hRI'⟩ := HX4.out.2.2.1 q o ho
                    cases e'
                    have h2 := (HC.out.bw.cell (p := ⟨b0, q * 3 + 2, none⟩) hb0').trans e2'
                    rw [u2] at h2
                    cases h2
                    exact fun W hW => hRI'.below hW
                  have q2 := HC.out.q2
                  have hqlt := HC.out.lt
                  have HC5 : Aside (WSt w4 (wr.alloc (.cells #[.int .i64 (o.num : Int), .bool o.dn, .slice a1 o.cs.length c1] 39)) sb b s a' c' Z ∧ (wr.alloc (.cells #[.int .i64 (o.num : Int), .bool o.dn, .slice a1 o.cs.length c1] 39)).cell? ⟨wr.heap.size, 2, none⟩ = some (.slice a1 o.cs.length c1)) := ⟨HC.out.keep (below_box wr _), cells_box _ _ _ _⟩
                  have ho2 : o.cs.length ≤ 257 := by
                    obtain ⟨_, i, _, hS⟩ := Gr.mem_sl HOM.out
                    have hc0 : o.cs[0]? = some i := by rw [hS.cs, Gr.run_head]
                    exact (HCE.out o 0 i HOM.out hc0).2.2.2
                  have hol : ((o.cs.length : Int) == (s.cs.length : Int)) = (o.cs.length == s.cs.length) := by
                    by_cases e : o.cs.length = s.cs.length
                    · rw [e]; simp
                    · rw [beq_eq_false_iff_ne.2 e, beq_eq_false_iff_ne]; omega
                  have HE0 : Aside ((o.cs.length == s.cs.length) = okC Z s.cs.length o 0) := (okC_zero _ _ _).symm
                  generalize (o.cs.length == s.cs.length) = ab at *
                  clear ho hq hg4 hlq
                  go_wp2
                  generalize wr.alloc (.cells #[.int .i64 (o.num : Int), .bool o.dn, .slice a1 o.cs.length c1] 39) = w6 at *
                  generalize wr.heap.size = ob at *
                  clear u0 u1 u2 hb1 q2 hqlt hol HC
                  obtain ⟨wD, hwD⟩ : ∃ wD, wD = wr := ⟨_, rfl⟩
                  subst hwD
                  go_loopg [86, 17] o.cs.length (fun g5 iv av wr => ∃ (j : Nat) (ab : Bool), iv = .int .i64 (j : Int) ∧ av = .bool ab ∧ j ≤ o.cs.length ∧ o.cs.length - j ≤ g5 ∧ Aside (ab = okC Z s.cs.length o j) ∧ Aside (WSt w4 wr sb b s a' c' Z))
                  case atStart => exact ⟨0, ab, rfl, rfl, Nat.zero_le _, Nat.le_refl _, HE0.out, HC5.out.1⟩
                  case round =>
                    clear HC5 HE0
                    obtain ⟨j, ab, rfl, rfl, hj, hg5, HAB, HC⟩ := hrel
                    by_cases hlj : j < o.cs.length
                    · have hljz : (j : Int) < (o.cs.length : Int) := by omega
                      have hc : o.cs[j]? = some (o.cs[j]'hlj) := List.getElem?_eq_getElem hlj
                      generalize o.cs[j]'hlj = c at hc
                      obtain ⟨hcn, hn256, _, _⟩ := HCE.out o j c HOM.out hc
                      obtain ⟨b7, o7, rfl, hb7, e7⟩ := (HRO.out wr HC.out.bw) j (by rw [ints_length]; exact hlj)
                      rw [show (ints o.cs)[j]?.getD 0 = (c : Int) by simp [ints, hc]] at e7
                      have HAS : Aside (okC Z s.cs.length o (j + 1) = (ab && bt Z c)) := by rw [HAB.out]; exact okC_step Z s.cs.length hc
                      have y0 := HC.out.arr.at (show c < 256 by omega)
                      have hz1 : (0 : Int) ≤ (c : Int) := by omega
                      have hz2 : (c : Int) < 256 := by omega
                      have hz3 : c < 256 := by omega
                      have HJ1 : Aside (_ ∧ _) := ⟨hlj, hg5⟩
                      generalize bt Z c = z at *
                      clear hc hj hg5 hcn hn256
                      cases ab with
                      | false =>
                        go_wp2
                        go_roundg (o.cs.length - (j + 1))
                        case measure =>
                          have h1 := HJ1.out.1
                          have h2 := HJ1.out.2
                          omega
                        case rel => exact ⟨j + 1, false, by go_num, rfl, by have := HJ1.out.1; omega, Nat.le_refl _, HAS.out.symm, HC⟩
                      | true =>
                        go_wp2
                        go_roundg (o.cs.length - (j + 1))
                        case measure =>
                          have h1 := HJ1.out.1
                          have h2 := HJ1.out.2
                          omega
                        case rel => exact ⟨j + 1, z, by go_num, rfl, by have := HJ1.out.1; omega, Nat.le_refl _, HAS.out.symm, HC⟩
                    · have hljz : ¬ (j : Int) < (o.cs.length : Int) := by omega
                      obtain rfl : j = o.cs.length := by omega
                      have HAE : Aside (ab = okO Z s.cs.length o) := HAB.out.trans (okC_end _ _ _)
                      clear HAB
                      cases fb with
                      | false =>
                        go_wp2
                        go_roundg (g.sl.length - (q + 1))
                        case measure =>
                          have h1 := HQ1.out.1
                          have h2 := HQ1.out.2
                          omega
                        case rel => exact ⟨q + 1, ab, by go_num, rfl, by have := HQ1.out.1; omega, Nat.le_refl _, by show _ = _; rw [HFS.out, HAE.out]; rfl, HC⟩
                      | true =>
                        go_wp2
                        go_roundg (g.sl.length - (q + 1))
                        case measure =>
                          have h1 := HQ1.out.1
                          have h2 := HQ1.out.2
                          omega
                        case rel => exact ⟨q + 1, true, by go_num, rfl, by have := HQ1.out.1; omega, Nat.le_refl _, by show _ = _; rw [HFS.out]; rfl, HC⟩
                · have hlqz : ¬ (q : Int) < (g.sl.length : Int) := by omega
                  obtain rfl : q = g.sl.length := by omega
                  obtain rfl : fb = true := HFB.out.trans HFN.out
                  have HB2 : Aside (Below w4.heap.size w4 wr) := HC.out.bw
                  clear HC
                  go_wp2
                  go_roundg (g.sl.length - (n + 1))
                  case measure =>
                    have h1 := HN1.out.1
                    have h2 := HN1.out.2
                    omega
                  case rel => exact ⟨n + 1, by go_num, by have := HN1.out.1; omega, Nat.le_refl _, HB2⟩
        · have hlnz : ¬ (n : Int) < (g.sl.length : Int) := by omega
          go_wp2
          go_roundg (g.syA.length - (m + 1))
          case measure =>
            have h1 := HM1.out.1
            have h2 := HM1.out.2
            omega
          case rel => exact ⟨m + 1, by go_num, by have := HM1.out.1; omega, Nat.le_refl _, HB⟩
    · have hltz : ¬ (m : Int) < (g.syA.length : Int) := by omega
      have HBE : Aside (Below w.heap.size w wr) := HX4.out.2.1.trans (HB.out.mono HX4.out.2.1.size)
      go_wp2
      go_ret
      exact ⟨rfl, HBE.out⟩
end Go.Proofs.YthjgldjjplcncabDoor.Grd
