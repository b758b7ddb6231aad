/-
  The program's List.
-/
import Derived.Test.YthjgldjjplcncabDoorSld
import Derived.WalkMore
namespace Go.Proofs.YthjgldjjplcncabDoor.Grd
open Go Go.Lib Go.RowKit

/-- The list behind k directions of the cell i. -/
def Gr.nbd (g : Gr) (i k : Nat) : Bool := (decide (1 ≤ k) && g.beg 0 i) || (decide (2 ≤ k) && g.beg 1 i)
def Gr.numK (g : Gr) (i k : Nat) : Nat := g.numTo i + if g.nbd i k then 1 else 0
def Gr.slK (g : Gr) (i k : Nat) : List Sl := g.slTo i ++ ((if decide (1 ≤ k) && g.beg 0 i then [⟨g.numTo (i + 1), false, g.run 0 i⟩] else []) ++ (if decide (2 ≤ k) && g.beg 1 i then [⟨g.numTo (i + 1), true, g.run 1 i⟩] else []))
theorem Gr.slK_zero (g : Gr) (i : Nat) : g.slK i 0 = g.slTo i ∧ g.numK i 0 = g.numTo i ∧ g.nbd i 0 = false := by simp [Gr.slK, Gr.numK, Gr.nbd]
theorem Gr.slK_two (g : Gr) (i : Nat) : g.slK i 2 = g.slTo (i + 1) ∧ g.numK i 2 = g.numTo (i + 1) := by simp [Gr.slK, Gr.numK, Gr.nbd, Gr.slTo, Gr.slAt, Gr.numTo]
theorem Gr.slK_no (g : Gr) (i : Nat) (dn : Bool) (h : g.beg (way dn) i = false) : g.slK i (way dn + 1) = g.slK i (way dn) ∧ g.numK i (way dn + 1) = g.numK i (way dn) ∧ g.nbd i (way dn + 1) = g.nbd i (way dn) := by
  cases dn with
  | false => simp only [way, Bool.false_eq_true, if_false] at h ⊢; simp [Gr.slK, Gr.numK, Gr.nbd, h]
  | true => simp only [way, if_true] at h ⊢; simp [Gr.slK, Gr.numK, Gr.nbd, h]
theorem Gr.slK_yes (g : Gr) (i : Nat) (dn : Bool) (h : g.beg (way dn) i = true) : g.slK i (way dn + 1) = g.slK i (way dn) ++ [⟨g.numK i (way dn + 1), dn, g.run (way dn) i⟩] ∧ g.numK i (way dn + 1) = (if g.nbd i (way dn) then g.numK i (way dn) else g.numK i (way dn) + 1) ∧ g.nbd i (way dn + 1) = true := by
  cases dn with
  | false => simp only [way, Bool.false_eq_true, if_false] at h ⊢; simp [Gr.slK, Gr.numK, Gr.nbd, Gr.numTo, h]
  | true => simp only [way, if_true] at h ⊢; cases h0 : g.beg 0 i <;> simp [Gr.slK, Gr.numK, Gr.nbd, Gr.numTo, h, h0]
theorem Gr.slK_len (g : Gr) (i k : Nat) : (g.slK i k).length ≤ 2 * i + 2 := by
  have := g.slTo_len i
  unfold Gr.slK
  simp only [List.length_append]
  have h1 : (if decide (1 ≤ k) && g.beg 0 i then [(⟨g.numTo (i + 1), false, g.run 0 i⟩ : Sl)] else []).length ≤ 1 := by split <;> simp
  have h2 : (if decide (2 ≤ k) && g.beg 1 i then [(⟨g.numTo (i + 1), true, g.run 1 i⟩ : Sl)] else []).length ≤ 1 := by split <;> simp
  omega
theorem Gr.numK_le (g : Gr) (i k : Nat) : g.numK i k ≤ i + 1 := by
  have := g.numTo_le i
  unfold Gr.numK
  split <;> omega
theorem cell3_new (w : World) (x y z : Value) (t : TypeId) : ∀ j u, [x, y, z][j]? = some u → (w.alloc (.cells #[x, y, z] t)).cell? ((⟨w.heap.size, 0, none⟩ : Addr).add j) = some u := by
  intro j u h
  rw [Addr.add_lit, cells_box]
  simpa using h
theorem row_blk {W : World} {B n z : Nat} {e : TypeId} {v : Value} {xs : List Value} (h : W.ownsRow B e z v n xs) (hn : 0 < n) : ∃ j, v.ownBlock = some j ∧ B ≤ j ∧ j < W.heap.size := by
  rcases h.2 with ⟨_, h0⟩ | ⟨g, cap, cur, rfl, hb, _⟩
  · omega
  · exact ⟨g, rfl, h.lt g rfl⟩
theorem OwnL.blocks {W : World} {B : Nat} {v : Value} {L : List Sl} {us : List Value} (h : OwnL W B v L us) : ∀ y ∈ us, ∀ j, y.ownBlock = some j → j < W.heap.size := by
  intro y hy j hj
  obtain ⟨k, hk, rfl⟩ := List.mem_iff_getElem.1 hy
  have hk2 : k < L.length := by rw [← h.len]; exact hk
  exact ((h.each k L[k] us[k] (List.getElem?_eq_getElem hk2) (List.getElem?_eq_getElem hk)).lt j hj).2

set_option maxHeartbeats 2000000 in
set_option maxRecDepth 20000 in
theorem List_ok (g : Gr) (p : Ad) (hok : g.ok) (w : World) (hw : Wy w) (hR : RG w g p) :
    Calls Tryd.prog 10 #[gv g p] w fun e w' => ∃ v us, e = .returned v ∧ OwnL w' w.heap.size v g.sl us ∧ Below w.heap.size w w' := by
  have hr := Gr.right_of hok
  have hz := hr.sz
  have cC := check_any g p (w.alloc (.cells #[.int .i64 g.h, .int .i64 g.w, .slice p.a1 g.B.length p.c1, .slice p.a2 g.R.length p.c2, .slice p.a3 g.D.length p.c3] 27)) (hw.below hw.size (below_box w _)) (hR.below (below_box w _))
  rw [show g.chk = 0 from hok] at cC
  have HQ : Aside (∀ i, i < g.n → ∀ dn W, Below w.heap.size w W → Calls Tryd.prog 26 #[gv g p, .int .i64 (i : Nat), .bool dn] W fun e w' => e = .returned (.bool (g.st i (way dn + 2)).isSome) ∧ Below W.heap.size W w') := fun i hi dn W h => isReached_any g p hz i hi dn W (hR.below h)
  have HC : Aside (∀ i, i < g.n → ∀ dn W, Below w.heap.size w W → Bx W w.heap.size g p → Calls Tryd.prog 24 #[.int .i64 (i : Nat), .bool dn, .pointer (some ⟨w.heap.size, 0, none⟩)] W fun e w' => ∃ v, e = .returned v ∧ w'.ownsRow W.heap.size 3 1 v (g.run (way dn) i).length (cellsI (ints (g.run (way dn) i))) ∧ Below W.heap.size W w') := fun i hi dn W h hX => run_any g p hz i hi dn _ W hX (hR.below h)
  have HL2 : Aside (∀ d i, (g.run d i).length ≤ 257 ∧ 1 ≤ (g.run d i).length) := fun d i => ⟨Gr.run_len256 hz d i, g.run_pos d i⟩
  have HB2 : Aside (∀ i dn, g.beg (way dn) i = ((g.st i (way dn + 2)).isNone && decide (2 ≤ (g.run (way dn) i).length))) := fun i dn => by
    unfold Gr.beg
    congr 1
    rw [Bool.eq_iff_iff, decide_eq_true_eq]
    exact (Gr.run_two hz.sw.1 (way_lt dn)).symm
  have hn := hz.n_le.2
  have HBl : Aside (g.B.length = g.n) := hr.bl
  have HS : Aside (g.sl = g.slTo g.n) := by show g.sl = _; unfold Gr.sl; rw [if_pos hok]
  obtain ⟨i0, hi0, hz0, hz1, hz2⟩ := info_parts infoSlot
  unfold gv at cC HQ
  unfold gv
  clear hr hz hok
  go_enter Tryd.func10, Tryd.ntmps10
  go_wp2_with fail
  refine cC.mono ?_
  rintro e w1 ⟨rfl, hb1⟩
  have HX1 : Aside (Bx w1 w.heap.size g p) := (Bx.new w g p 27).keep hb1
  have HB1 : Aside (Below w.heap.size w w1) := (below_box w _).trans (hb1.mono (below_box w _).size)
  obtain ⟨_, k0, k1, k2, k3, k4⟩ := HX1.out
  clear hw hR cC hb1
  go_wp2
  have hBl : g.B.length = g.n := HBl.out
  rw [hBl]
  clear hBl
  clear k0 k1 k2 k3 k4
  go_loopg [4, 5, 18] g.n (fun g1 lv nv iv wr => ∃ (i : Nat) (us : List Value), nv = .int .i64 (g.numTo i : Nat) ∧ iv = .int .i64 (i : Nat) ∧ i ≤ g.n ∧ g.n - i ≤ g1 ∧ Aside (OwnL wr w1.heap.size lv (g.slTo i) us) ∧ Aside (Below w1.heap.size w1 wr))
  case atStart => exact ⟨0, [], rfl, rfl, Nat.zero_le _, Nat.le_refl _, OwnL.nil _ _, Below.refl _ _⟩
  case round =>
    obtain ⟨i, us, rfl, rfl, hin, hg, HOL, HBk⟩ := hrel
    by_cases hlt : i < g.n
    · have hltz : (i : Int) < (g.n : Int) := by omega
      have HI : Aside (i < g.n) := hlt
      have HG : Aside _ := hg
      generalize wr = w14 at *
      clear hg
      go_wp2
      go_step3
      go_wp2
      go_step3
      go_wp2
      go_loopg [4, 5, 7, 22] 2 (fun g2 lv nv bv jv wr => ∃ (k : Nat) (us : List Value), nv = .int .i64 (g.numK i k : Nat) ∧ bv = .bool (g.nbd i k) ∧ jv = .int .i64 (k : Nat) ∧ k ≤ 2 ∧ 2 - k ≤ g2 ∧ Aside (OwnL wr w1.heap.size lv (g.slK i k) us) ∧ Aside (Below w1.heap.size w1 wr))
      case atStart =>
        obtain ⟨z1, z2, z3⟩ := g.slK_zero i
        refine ⟨0, us, ?_, ?_, rfl, by omega, by omega, ?_, HBk⟩
        · rw [z2]
        · rw [z3]
        · rw [z1]; exact HOL
      case round =>
        obtain ⟨k, us, rfl, rfl, rfl, hk, hg2, HOL2, HBj⟩ := hrel
        by_cases hlk : k < 2
        · have HBw : Aside (Below w.heap.size w wr) := HB1.out.trans (HBj.out.mono HB1.out.size)
          obtain ⟨dn, rfl⟩ : ∃ dn : Bool, k = way dn := by
            have : k = 0 ∨ k = 1 := by omega
            rcases this with rfl | rfl
            · exact ⟨false, rfl⟩
            · exact ⟨true, rfl⟩
          have cQ := HQ.out i HI.out dn wr HBw.out
          have HBE : Aside (g.beg (way dn) i = ((g.st i (way dn + 2)).isNone && decide (2 ≤ (g.run (way dn) i).length))) := HB2.out i dn
          have HX2 : Aside (Bx wr w.heap.size g p) := HX1.out.keep HBj.out
          obtain ⟨_, k0, k1, k2, k3, k4⟩ := HX2.out
          have hltw : ((way dn : Nat) : Int) < 2 := by omega
          have HNO : Aside _ := g.slK_no i dn
          have HYES : Aside _ := g.slK_yes i dn
          have HLEN : Aside _ := g.slK_len i (way dn)
          have HNUM : Aside _ := g.numK_le i (way dn)
          have hil : i < 256 := by have := HI.out; omega
          have x0 : ∀ w : World, (Instr.index 69 (.agg #[.bool false, .bool true]) (.int .i64 ((way dn : Nat) : Int))).run Tryd.prog w = .ok (.bool dn) w := fun _ => by cases dn <;> kernel_rfl
          have hwd : way dn < 2 := hlk
          have hrl := HL2.out (way dn) i
          have HCd : Aside (∀ W, Below w.heap.size w W → Bx W w.heap.size g p → Calls Tryd.prog 24 #[.int .i64 (i : Nat), .bool dn, .pointer (some ⟨w.heap.size, 0, none⟩)] W fun e w' => ∃ v, e = .returned v ∧ w'.ownsRow W.heap.size 3 1 v (g.run (way dn) i).length (cellsI (ints (g.run (way dn) i))) ∧ Below W.heap.size W w') := fun W h1 h2 => HC.out i HI.out dn W h1 h2
          generalize way dn = d at *
          cases hq : (g.st i (d + 2)).isSome with
          | true =>
            rw [hq] at cQ
            have hn1 : (g.st i (d + 2)).isNone = false := by rw [← Option.not_isSome, hq]; rfl
            obtain ⟨z1, z2, z3⟩ := HNO.out (by rw [HBE.out, hn1, Bool.false_and])
            have HZ1 : Aside (g.slK i (d + 1) = g.slK i d) := z1
            have HZ2 : Aside (g.numK i (d + 1) = g.numK i d) := z2
            have HZ3 : Aside (g.nbd i (d + 1) = g.nbd i d) := z3
            clear hq hn1 z1 z2 z3 HBE
            go_wp2_with fail
            refine cQ.mono ?_
            rintro e w3 ⟨rfl, hb3⟩
            have HBc : Aside (Below w1.heap.size w1 w3) := HBj.out.trans (hb3.mono HBj.out.size)
            have HOL3 : Aside (OwnL w3 w1.heap.size u4 (g.slK i d) us) := HOL2.out.keep hb3
            clear cQ hb3
            go_wp2
            go_roundg (2 - (d + 1))
            case measure => omega
            case rel => exact ⟨d + 1, us, by rw [HZ2.out], by rw [HZ3.out], by go_num, by omega, Nat.le_refl _, by rw [HZ1.out]; exact HOL3, HBc⟩
          | false =>
            rw [hq] at cQ
            have hn1 : (g.st i (d + 2)).isNone = true := by rw [← Option.not_isSome, hq]; rfl
            have HBE2 : Aside (g.beg d i = decide (2 ≤ (g.run d i).length)) := by show _ = _; rw [HBE.out, hn1, Bool.true_and]
            clear hq hn1 HBE
            go_wp2_with fail
            refine cQ.mono ?_
            rintro e w3 ⟨rfl, hb3⟩
            have HBc : Aside (Below w1.heap.size w1 w3) := HBj.out.trans (hb3.mono HBj.out.size)
            have HBd : Aside (Below w.heap.size w w3) := HBw.out.trans (hb3.mono HBw.out.size)
            have HOL3 : Aside (OwnL w3 w1.heap.size u4 (g.slK i d) us) := HOL2.out.keep hb3
            have HX3 : Aside (Bx w3 w.heap.size g p) := HX2.out.keep hb3
            have cR := HCd.out w3 HBd.out HX3.out
            clear cQ hb3 k0 k1 k2 k3 k4
            go_wp2_with fail
            refine cR.mono ?_
            rintro e w4 ⟨v, rfl, hrow, hb4⟩
            have HB4 : Aside (Below w1.heap.size w1 w4) := HBc.out.trans (hb4.mono HBc.out.size)
            have HOL4 : Aside (OwnL w4 w1.heap.size u4 (g.slK i d) us) := HOL3.out.keep hb4
            have HS4 : Aside (w3.heap.size ≤ w4.heap.size) := hb4.size
            have HROW : Aside (w4.ownsRow w3.heap.size 3 1 v (g.run d i).length (cellsI (ints (g.run d i)))) := hrow
            obtain ⟨ao, cap, rfl, hle, _⟩ := row_reads hrow
            rw [← hle]
            rw [← hle] at HROW
            have hl2 := hrl.1
            clear cR hb4 hrow hle
            by_cases h2 : 2 ≤ (g.run d i).length
            · have h2z : ¬ ((g.run d i).length : Int) < 2 := by omega
              obtain ⟨z1, z2, z3⟩ := HYES.out (by rw [HBE2.out]; exact decide_eq_true h2)
              have HZ1 : Aside (g.slK i (d + 1) = g.slK i d ++ [⟨g.numK i (d + 1), dn, g.run d i⟩]) := z1
              have HZ3 : Aside (g.nbd i (d + 1) = true) := z3
              have hlen := HLEN.out
              have hnum := HNUM.out
              have hs4 : w1.heap.size ≤ w4.heap.size := HB4.out.size
              have HBk3 : Aside (w1.heap.size ≤ w3.heap.size) := HBc.out.size
              have hbk := row_blk HROW.out (by omega)
              have HSOME : Aside (∃ j, (Value.slice ao (g.run d i).length cap).ownBlock = some j) := ⟨hbk.choose, hbk.choose_spec.1⟩
              have HNEW : Aside (∀ j, (Value.slice ao (g.run d i).length cap).ownBlock = some j → ∀ y ∈ us, y.ownBlock ≠ some j) := fun j hj y hy e => by
                have h1 := HOL3.out.blocks y hy j e
                have h3 := (HROW.out.lt j hj).1
                omega
              clear z1 z3
              cases hnb : g.nbd i d with
              | false =>
                rw [hnb] at z2
                have HNN : Aside (((g.numK i (d + 1) : Nat) : Int) = ((g.numK i d : Nat) : Int) + 1) := by show _ = _; rw [z2]; simp
                clear z2 hnb
                go_wp2_with (at_builtin; refine wpList_append_own _ rfl _ _ 35 rfl w1.heap.size 39 i0 (.agg #[.int .i64 0, .bool false, .slice none 0 0]) 3 40 Tryd.underlying35 hi0 hz0 hz1 hz2 rfl (by decide) _ _ _ rfl (HOL4.out.row.alloc _) ⟨w4.heap.size, 0, none⟩ 1 1 [.int .i64 (((g.numK i d : Nat) : Int) + 1), .bool dn, .slice ao (g.run d i).length cap] rfl rfl (cell3_new _ _ _ _ _) (by simp [Value.oneCell']) (by unfold maxLen; omega) (by omega) (by rw [World.size_alloc]; omega) ?_)
                intro v' wa hown' hgrow _
                have HOLa : Aside (OwnL wa w1.heap.size v' (g.slK i (d + 1)) (us ++ [.slice ao (g.run d i).length cap])) := by
                  show OwnL _ _ _ _ _
                  rw [HZ1.out]
                  refine (HOL4.out.alloc _).snoc (s := ⟨g.numK i (d + 1), dn, g.run d i⟩) ((row_base HROW.out HBk3.out).alloc _) HNEW.out HSOME.out hgrow ?_
                  rw [HNN.out]
                  exact hown'
                have HBa : Aside (Below w1.heap.size w1 wa) := Below.grown (HB4.out.alloc HB4.out.size _) hgrow (by rw [World.size_alloc]; have := HB4.out.size; omega) (fun j hj => (HOL4.out.row.lt _ hj).1)
                clear hown' hgrow
                go_wp2
                go_roundg (2 - (d + 1))
                case measure => omega
                case rel => exact ⟨d + 1, _, by rw [HNN.out], by rw [HZ3.out], by go_num, by omega, Nat.le_refl _, HOLa, HBa⟩
              | true =>
                rw [hnb] at z2
                have HNN : Aside (((g.numK i (d + 1) : Nat) : Int) = ((g.numK i d : Nat) : Int)) := by show _ = _; rw [z2]; simp
                clear z2 hnb
                go_wp2_with (at_builtin; refine wpList_append_own _ rfl _ _ 35 rfl w1.heap.size 39 i0 (.agg #[.int .i64 0, .bool false, .slice none 0 0]) 3 40 Tryd.underlying35 hi0 hz0 hz1 hz2 rfl (by decide) _ _ _ rfl (HOL4.out.row.alloc _) ⟨w4.heap.size, 0, none⟩ 1 1 [.int .i64 (((g.numK i d : Nat) : Int)), .bool dn, .slice ao (g.run d i).length cap] rfl rfl (cell3_new _ _ _ _ _) (by simp [Value.oneCell']) (by unfold maxLen; omega) (by omega) (by rw [World.size_alloc]; omega) ?_)
                intro v' wa hown' hgrow _
                have HOLa : Aside (OwnL wa w1.heap.size v' (g.slK i (d + 1)) (us ++ [.slice ao (g.run d i).length cap])) := by
                  show OwnL _ _ _ _ _
                  rw [HZ1.out]
                  refine (HOL4.out.alloc _).snoc (s := ⟨g.numK i (d + 1), dn, g.run d i⟩) ((row_base HROW.out HBk3.out).alloc _) HNEW.out HSOME.out hgrow ?_
                  rw [HNN.out]
                  exact hown'
                have HBa : Aside (Below w1.heap.size w1 wa) := Below.grown (HB4.out.alloc HB4.out.size _) hgrow (by rw [World.size_alloc]; have := HB4.out.size; omega) (fun j hj => (HOL4.out.row.lt _ hj).1)
                clear hown' hgrow
                go_wp2
                go_roundg (2 - (d + 1))
                case measure => omega
                case rel => exact ⟨d + 1, _, by rw [HNN.out], by rw [HZ3.out], by go_num, by omega, Nat.le_refl _, HOLa, HBa⟩
            · have h2z : ((g.run d i).length : Int) < 2 := by omega
              obtain ⟨z1, z2, z3⟩ := HNO.out (by rw [HBE2.out]; exact decide_eq_false h2)
              have HZ1 : Aside (g.slK i (d + 1) = g.slK i d) := z1
              have HZ2 : Aside (g.numK i (d + 1) = g.numK i d) := z2
              have HZ3 : Aside (g.nbd i (d + 1) = g.nbd i d) := z3
              clear z1 z2 z3
              go_wp2
              go_roundg (2 - (d + 1))
              case measure => omega
              case rel => exact ⟨d + 1, us, by rw [HZ2.out], by rw [HZ3.out], by go_num, by omega, Nat.le_refl _, by rw [HZ1.out]; exact HOL4, HB4⟩
        · obtain rfl : k = 2 := by omega
          obtain ⟨z1, z2⟩ := g.slK_two i
          have HZ1 : Aside (g.slK i 2 = g.slTo (i + 1)) := z1
          have HBz : Aside (Below w1.heap.size w1 wr) := HBj
          rw [z2]
          clear z1 z2
          go_wp2
          rw [Exit.noGoto_normal]
          go_wp2
          go_roundg (g.n - (i + 1))
          case measure => have := HG.out; have := HI.out; omega
          case rel => exact ⟨i + 1, us, rfl, by go_num, HI.out, Nat.le_refl _, by rw [← HZ1.out]; exact HOL2, HBz⟩
    · have hltz : ¬ (i : Int) < (g.n : Int) := by omega
      obtain rfl : i = g.n := by omega
      go_wp2
      go_ret
      refine ⟨_, rfl, ⟨us, ?_⟩, HB1.out.trans (HBk.out.mono HB1.out.size)⟩
      rw [HS.out]
      exact HOL.out.base HB1.out.size
end Go.Proofs.YthjgldjjplcncabDoor.Grd
