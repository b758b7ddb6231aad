/-
  MaskExact walked: every call but the sequences is the document's; lists stay as they are.
-/
import Derived.Test.YtlgbpimmhnncgaaDoorSmq
import Derived.Test.YtlgbpimmhnncgaaDoorOwn
import Derived.BigQuiet
import Derived.Deep.QuietTactic
import Derived.Deep.RegionWith
namespace Go.Proofs.YtlgbpimmhnncgaaDoor.Msk
open Go Go.Lib Go.RowKit

set_option maxHeartbeats 1000000 in
theorem maskExact_walk (zs : List Int) (ao : Option Addr) (cap : Nat) (m : Nat) (i : Int) (w : World) (hl : zs.length ≤ 17592186043904) (hR : ReadsI w ao zs) (hao : ao = none → cap = 0) (hm : m < 18446744073709551616) (h0 : -9223372036854775808 ≤ i) (h1 : i ≤ 9223372036854775807) (hT : Tab w) :
    Calls Tryd.prog 3 #[.slice ao zs.length cap, .int .u64 m, .int .i64 i] w fun e w' => e = .returned (.bool true) ∧ Below w.heap.size w w' := by
  obtain ⟨i0, hi, hz0, hz1, hz2⟩ := info_parts infoInt
  have cA := awake4_any w hT
  go_enter Tryd.func3, Tryd.ntmps3
  go_wp2_with fail
  refine cA.mono ?_
  rintro e w1 ⟨rfl, hb1⟩
  have HB1 : Aside (Below w.heap.size w w1) := hb1
  have hs1 := hb1.size
  have hR1 := hR.below hb1
  obtain ⟨M, hM⟩ : ∃ M, M = madeCells (Value.int .i64 0).cells ((zs.length + 1) * i0.size) := ⟨_, rfl⟩
  have hMs : M.size = (zs.length + 1) * 1 := by rw [hM, size_madeCells, hz1]
  have hmk : ∀ W : World, (Instr.makeSlice 22 (.int .i64 0) (.int .i64 ((zs.length : Int) + 1))).run Tryd.prog W = .ok (.slice (some ⟨W.heap.size, 0, none⟩) 0 (zs.length + 1)) (W.alloc (.cells M 3)) := fun W => by
    have h := run_make (P := Tryd.prog) W 22 3 i0 (.int .i64 0) Tryd.underlying22 hi hz0 .i64 .i64 0 ((zs.length : Int) + 1) (by omega) (by omega) (by rw [hz2]; omega) (by omega)
    have e1 : ((zs.length : Int) + 1).toNat = zs.length + 1 := by omega
    rw [e1, ← hM] at h
    exact h
  have o0 := World.ownsRow_made (e := 3) (size := 1) (base := w1.heap.size) w1 M (zs.length + 1) (Nat.le_refl _) (by unfold maxLen; omega) hMs
  have hb0 : Below w1.heap.size w1 (w1.alloc (.cells M 3)) := (Below.refl _ _).alloc (Nat.le_refl _) _
  have hR1a := hR1.below hb0
  have hsa : (w1.alloc (.cells M 3)).heap.size = w1.heap.size + 1 := World.size_alloc _ _
  clear hM cA hb1
  go_wp2_with (first
    | (at_builtin; refine wpList_append_readsI rfl _ _ rfl w1.heap.size i0 hi hz1 w1.heap.size (zs.length + 1) rfl o0 zs ao cap rfl hao hR1a (by omega) ?_))
  intro w2 o2 hg2
  have hb2 : Below w1.heap.size w1 w2 := Below.grown hb0 hg2 (by omega) (fun j hj => by injection hj with h; omega)
  have hz2' : w1.heap.size < w2.heap.size := (o2.lt w1.heap.size rfl).2
  clear o0 hg2 hb0 hmk hR1a hsa
  go_wp2_with (first
    | (at_builtin; refine wpList_append_own_spare _ rfl _ _ 22 rfl w1.heap.size 3 i0 1 Tryd.underlying22 hi hz1 w1.heap.size zs.length (zs.length + 1) (cellsI zs) rfl (o2.alloc _) ⟨w2.heap.size, 0, none⟩ 1 1 [.int .i64 (-777)] rfl rfl (cell_one_new _ _ _) (by simp [Value.oneCell']) (by omega) ?_))
  intro w3 o3 hg3
  have HB3 : Aside (Below w1.heap.size w1 w3) := Below.grown (hb2.alloc (by omega) _) hg3 (by simp; omega) (fun j hj => by injection hj with h; omega)
  clear o2 hg3 hb2
  have qL : ReadsI w3 (some ⟨w1.heap.size, 0, none⟩) zs := fun j hj => by
    refine ⟨_, 0, rfl, (o3.lt _ rfl).2, ?_⟩
    rw [Nat.zero_add, o3.cellAt j (by omega), List.getElem?_append_left (by rw [cellsI_length]; exact hj)]
    simp [cellsI, List.getElem?_eq_getElem hj]
  have c777 : w3.cell? ⟨w1.heap.size, zs.length, none⟩ = some (.int .i64 (-777)) := by
    rw [o3.cellAt zs.length (by omega), List.getElem?_append_right (by rw [cellsI_length]; omega), cellsI_length, Nat.sub_self]
    rfl
  have q3 := hR1.below HB3.out
  have cO1 := of_any zs _ (zs.length + 1) w3 (by omega) qL
  have cO2 := refOf_any zs ao cap w3 (by omega) q3
  have cS1 := sameInts_any zs _ ao (zs.length + 1) cap w3 (by omega) qL q3
  have hlL := (o3.lt _ rfl).2
  have HQL : Aside (∀ W, Below w3.heap.size w3 W → ReadsI W ao zs) := fun W h => q3.below h
  have hT3 := hT.below hT.size (HB1.out.trans (HB3.out.mono HB1.out.size))
  have HB3' : Aside (Below w.heap.size w w3) := HB1.out.trans (HB3.out.mono HB1.out.size)
  clear hR1 qL q3 o3 hR
  go_wp2_with fail
  refine cO1.mono ?_
  rintro e w' ⟨rfl, hw⟩
  obtain rfl := hw.symm
  clear cO1 hw
  go_wp2_with fail
  refine cO2.mono ?_
  rintro e w' ⟨rfl, hw⟩
  obtain rfl := hw.symm
  clear cO2 hw
  go_wp2_with fail
  refine cS1.mono ?_
  rintro e w4 ⟨rfl, hb4⟩
  have HB4 : Aside (Below w.heap.size w w4) := HB3'.out.trans (hb4.mono HB3'.out.size)
  have c4 : w4.cell? ⟨w1.heap.size, zs.length, none⟩ = some (.int .i64 (-777)) := (hb4.cell (p := ⟨w1.heap.size, zs.length, none⟩) hlL).trans c777
  have hT4 := hT.below hT.size HB4.out
  have cW := refList_any m hm w4
  clear cS1 hb4 c777 HQL hT3
  go_wp2_with fail
  refine cW.mono ?_
  rintro e w5 ⟨vw, rfl, hownW, hb5⟩
  have HB5 : Aside (Below w.heap.size w w5) := HB4.out.trans (hb5.mono HB4.out.size)
  have hT5 := hT.below hT.size HB5.out
  obtain ⟨aw, cw, rfl, _, qw⟩ := row_readsI hownW
  have cG := list_any m hm w5 hT5
  clear cW hb5 c4 hT4 hownW
  go_wp2_with fail
  refine cG.mono ?_
  rintro e w6 ⟨vg, rfl, hownG, hb6⟩
  have HB6 : Aside (Below w5.heap.size w5 w6) := hb6
  have HB6' : Aside (Below w.heap.size w w6) := HB5.out.trans (hb6.mono HB5.out.size)
  have hT6 := hT.below hT.size HB6'.out
  obtain ⟨ag, cg, rfl, _, qg⟩ := row_readsI hownG
  have hbl := bitsL_le m
  have cS := sameInts_any (ints (bitsL m)) ag aw cg cw w6 (by rw [ints_length]; omega) qg (qw.below hb6)
  rw [ints_length] at cS
  clear cG hb6 hT5 qg
  go_wp2_with fail
  refine cS.mono ?_
  rintro e w7 ⟨rfl, hb7⟩
  have HB7 : Aside (Below w6.heap.size w6 w7) := hb7
  have HB7' : Aside (Below w.heap.size w w7) := HB6'.out.trans (hb7.mono HB6'.out.size)
  have cC := count_any m hm w7 (hT.below hT.size HB7'.out)
  clear cS hb7
  go_wp2_with fail
  refine cC.mono ?_
  rintro e w8 ⟨rfl, hb8⟩
  have HB8 : Aside (Below w6.heap.size w6 w8) := HB7.out.trans (hb8.mono HB7.out.size)
  have HB8' : Aside (Below w.heap.size w w8) := HB7'.out.trans (hb8.mono HB7'.out.size)
  have cF1 := full_any i w8
  have cF2 := refFull_any i w8
  have cH1 := has_any m i w8 hm
  have cH2 := refHas_any m i hm w8
  have hG8 : w8.ownsRow w5.heap.size 3 1 (.slice ag (bitsL m).length cg) (bitsL m).length (nums (bitsL m)) := by
    rcases hownG with ⟨h1, h2 | ⟨g, cap, cur, e1, e2, e3, e4⟩⟩
    · exact ⟨h1, .inl h2⟩
    · exact ⟨h1, .inr ⟨g, cap, cur, e1, e2, (HB8.out.block g (Array.getElem?_eq_some_iff.1 e3).1).trans e3, e4⟩⟩
  have HW : Aside (∀ W, Below w5.heap.size w5 W → ReadsI W aw (ints (bitsL m))) := fun W h => qw.below h
  have HBb : Aside (Below w5.heap.size w5 w8) := HB6.out.trans (HB8.out.mono HB6.out.size)
  have HB5' : Aside (w.heap.size ≤ w5.heap.size) := HB5.out.size
  generalize fullN i = fl at *
  generalize (decide (0 ≤ i ∧ i < 64) && m.testBit i.toNat) = hs at *
  clear cC hb8 hownG HB7 HB7' qw hT6
  go_wp2_with (first
    | (go_at_call 14; refine cF1.mono ?_; rintro e w' ⟨rfl, hw⟩; obtain rfl := hw.symm; clear hw cF1)
    | (go_at_call 15; refine cF2.mono ?_; rintro e w' ⟨rfl, hw⟩; obtain rfl := hw.symm; clear hw cF2)
    | (go_at_call 16; refine cH1.mono ?_; rintro e w' ⟨rfl, hw⟩; obtain rfl := hw.symm; clear hw cH1)
    | (go_at_call 17; refine cH2.mono ?_; rintro e w' ⟨rfl, hw⟩; obtain rfl := hw.symm; clear hw cH2))
  have hG9 : w8.ownsRow w5.heap.size 3 1 (.slice ag (bitsL m).length cg) (bitsL m).length (cellsI (ints (bitsL m))) := by
    have e : nums (bitsL m) = cellsI (ints (bitsL m)) := by simp [nums, cellsI, ints]
    rw [← e]; exact hG8
  have hcgl : (bitsL m).length ≤ cg := by
    rcases hG8.2 with ⟨h1, h2⟩ | ⟨g, cap, cur, h1, _, _, h2, _⟩
    · omega
    · cases h1; exact h2
  clear hG8
  go_loopg [80] (bitsL m).length (fun g1 iv wr => ∃ (k : Nat), iv = .int .i64 (k : Int) ∧ k ≤ (bitsL m).length ∧ (bitsL m).length - k ≤ g1 ∧ Aside (∃ ys : List Int, ys.length = (bitsL m).length ∧ wr.ownsRow w5.heap.size 3 1 (.slice ag (bitsL m).length cg) (bitsL m).length (cellsI ys)) ∧ Aside (Below w5.heap.size w5 wr))
  case atStart => exact ⟨0, rfl, Nat.zero_le _, Nat.le_refl _, ⟨_, ints_length _, hG9⟩, HBb⟩
  case round =>
    obtain ⟨k, rfl, hk, hg, HY, HBk⟩ := hrel
    by_cases hlt : k < (bitsL m).length
    · have hltz : (k : Int) < ((bitsL m).length : Int) := by omega
      obtain ⟨ys, hyl, hy⟩ := HY.out
      have hgs : ∃ g, ag = some ⟨g, 0, none⟩ := by
        rcases hy.2 with ⟨h1, h2⟩ | ⟨g, cap, cur, h1, _⟩
        · omega
        · cases h1; exact ⟨g, rfl⟩
      obtain ⟨g, rfl⟩ := hgs
      have ck : wr.cell? ⟨g, k, none⟩ = some (.int .i64 (ys[k]?.getD 0)) := by
        rw [hy.cellAt k (by omega)]
        simp [cellsI, List.getElem?_eq_getElem (l := ys) (i := k) (by omega)]
      generalize ys[k]?.getD 0 = yk at ck
      have fk := hy.frozenAt k
      obtain ⟨hy2, hgr⟩ := hy.stored k (.int .i64 (-1))
      have hb2 : Below w5.heap.size w5 (wr.setCell ⟨g, k, none⟩ (.int .i64 (-1))) := HBk.out.grown hgr HBk.out.size (fun j hj => by
        have := (hy.lt g rfl).1
        injection hj with h; omega)
      have HN : Aside (∃ ys : List Int, ys.length = (bitsL m).length ∧ (wr.setCell ⟨g, k, none⟩ (.int .i64 (-1))).ownsRow w5.heap.size 3 1 (.slice (some ⟨g, 0, none⟩) (bitsL m).length cg) (bitsL m).length (cellsI ys)) := ⟨ys.set k (-1), by simpa using hyl, by
        have e : cellsI (ys.set k (-1)) = (cellsI ys).set k (.int .i64 (-1)) := by simp [cellsI]
        rw [e]; exact hy2⟩
      clear hy hy2 hgr HY hyl
      go_wp2
      go_roundg ((bitsL m).length - (k + 1))
      case measure => omega
      case rel => exact ⟨k + 1, by go_num, by omega, Nat.le_refl _, HN, hb2⟩
    · have hltz : ¬ (k : Int) < ((bitsL m).length : Int) := by omega
      obtain ⟨ys, hyl, hy⟩ := HY.out
      have HRw := HW.out wr HBk.out
      have HBr : Aside (Below w.heap.size w wr) := HB5.out.trans (HBk.out.mono HB5.out.size)
      have hTr := hT.below hT.size HBr.out
      have HNT : Aside (Below w5.heap.size w5 wr) := HBk
      by_cases hin : 0 ≤ i ∧ i < ((bitsL m).length : Int)
      · have hin0 := hin.1
        have hin1 := hin.2
        obtain ⟨j, rfl⟩ := Int.eq_ofNat_of_zero_le hin0
        obtain ⟨gw, ow, rfl, hgw, ew⟩ := HRw j (by rw [ints_length]; omega)
        have hjl : j < (bitsL m).length := by omega
        have e1 : (ints (bitsL m))[j]?.getD 0 = (((bitsL m)[j] : Nat) : Int) := by simp [ints, List.getElem?_eq_getElem hjl]
        rw [e1] at ew
        have hnv : nthV m (j : Int) = (((bitsL m)[j] : Nat) : Int) := nthV_in hin0 (by simp [List.getElem?_eq_getElem hjl])
        rw [← hnv] at ew
        clear e1 hnv
        go_wp2_with (at_builtin; refine wpList_append_own _ rfl _ _ 22 rfl w5.heap.size 3 i0 (.int .i64 0) 1 8 Tryd.underlying22 hi hz0 hz1 hz2 rfl (by decide) _ _ _ rfl (hy.alloc _) ⟨wr.heap.size, 0, none⟩ 1 1 [.int .i64 1] rfl rfl (cell_one_new _ _ _) (by simp [Value.oneCell']) (by unfold maxLen; omega) (by omega) (by have := HBk.out.size; simp; omega) ?_)
        intro v' wa hown' hgrow _
        have HBa : Aside (Below w5.heap.size w5 wa) := Below.grown (HBk.out.alloc HBk.out.size _) hgrow (by have := HBk.out.size; simp; omega) (fun j hj => (hy.lt _ hj).1)
        have HBa' : Aside (Below w.heap.size w wa) := HB5.out.trans (HBa.out.mono HB5.out.size)
        have hTa := hT.below hT.size HBa'.out
        obtain ⟨g', cap', rfl⟩ := ownsRow_succ hown'
        have cG := list_any m hm wa hTa
        clear hown' hgrow hy HNT HY ew hTr
        go_wp2_with fail
        refine cG.mono ?_
        rintro e wb ⟨vg, rfl, hownG, hbb⟩
        obtain ⟨ag2, cg2, rfl, _, qg⟩ := row_readsI hownG
        have HBb5 : Aside (Below w5.heap.size w5 wb) := HBa.out.trans (hbb.mono HBa.out.size)
        have HBb' : Aside (Below w.heap.size w wb) := HB5.out.trans (HBb5.out.mono HB5.out.size)
        have cS := sameInts_any (ints (bitsL m)) ag2 (some ⟨gw, ow, none⟩) cg2 cw wb (by rw [ints_length]; omega) qg (HW.out wb HBb5.out)
        rw [ints_length] at cS
        clear cG hownG hbb qg
        go_wp2_with fail
        refine cS.mono ?_
        rintro e wc ⟨rfl, hbc⟩
        have HBc' : Aside (Below w.heap.size w wc) := HBb'.out.trans (hbc.mono HBb'.out.size)
        have cN := nth_any m (j : Int) hm (by omega) (by omega) wc (hT.below hT.size HBc'.out)
        clear cS hbc
        go_wp2_with fail
        refine cN.mono ?_
        rintro e wd ⟨rfl, hbd⟩
        have HBd : Aside (Below w.heap.size w wd) := HBc'.out.trans (hbd.mono HBc'.out.size)
        clear cN hbd
        go_wp2
        go_ret
        exact ⟨rfl, HBd.out⟩
      · have hnv : nthV m i = -1 := nthV_out hin
        have hio : (0 ≤ i ∧ ¬ i < ((bitsL m).length : Int)) ∨ ¬ 0 ≤ i := by omega
        rw [show (0 ≤ i ∧ i < ((bitsL m).length : Int)) = False from by simp only [eq_iff_iff, iff_false]; exact hin] at hin
        clear hin
        have ew : True := trivial
        rcases hio with ⟨h0i, h1i⟩ | h0i
        · go_wp2_with (at_builtin; refine wpList_append_own _ rfl _ _ 22 rfl w5.heap.size 3 i0 (.int .i64 0) 1 8 Tryd.underlying22 hi hz0 hz1 hz2 rfl (by decide) _ _ _ rfl (hy.alloc _) ⟨wr.heap.size, 0, none⟩ 1 1 [.int .i64 1] rfl rfl (cell_one_new _ _ _) (by simp [Value.oneCell']) (by unfold maxLen; omega) (by omega) (by have := HBk.out.size; simp; omega) ?_)
          intro v' wa hown' hgrow _
          have HBa : Aside (Below w5.heap.size w5 wa) := Below.grown (HBk.out.alloc HBk.out.size _) hgrow (by have := HBk.out.size; simp; omega) (fun j hj => (hy.lt _ hj).1)
          have HBa' : Aside (Below w.heap.size w wa) := HB5.out.trans (HBa.out.mono HB5.out.size)
          have hTa := hT.below hT.size HBa'.out
          obtain ⟨g', cap', rfl⟩ := ownsRow_succ hown'
          have cG := list_any m hm wa hTa
          clear hown' hgrow hy HNT HY ew hTr
          go_wp2_with fail
          refine cG.mono ?_
          rintro e wb ⟨vg, rfl, hownG, hbb⟩
          obtain ⟨ag2, cg2, rfl, _, qg⟩ := row_readsI hownG
          have HBb5 : Aside (Below w5.heap.size w5 wb) := HBa.out.trans (hbb.mono HBa.out.size)
          have HBb' : Aside (Below w.heap.size w wb) := HB5.out.trans (HBb5.out.mono HB5.out.size)
          have cS := sameInts_any (ints (bitsL m)) ag2 aw cg2 cw wb (by rw [ints_length]; omega) qg (HW.out wb HBb5.out)
          rw [ints_length] at cS
          clear cG hownG hbb qg
          go_wp2_with fail
          refine cS.mono ?_
          rintro e wc ⟨rfl, hbc⟩
          have HBc' : Aside (Below w.heap.size w wc) := HBb'.out.trans (hbc.mono HBb'.out.size)
          have cN := nth_any m i hm (by omega) (by omega) wc (hT.below hT.size HBc'.out)
          clear cS hbc
          go_wp2_with fail
          refine cN.mono ?_
          rintro e wd ⟨rfl, hbd⟩
          have HBd : Aside (Below w.heap.size w wd) := HBc'.out.trans (hbd.mono HBc'.out.size)
          clear cN hbd
          go_wp2
          go_ret
          exact ⟨rfl, HBd.out⟩
        · go_wp2_with (at_builtin; refine wpList_append_own _ rfl _ _ 22 rfl w5.heap.size 3 i0 (.int .i64 0) 1 8 Tryd.underlying22 hi hz0 hz1 hz2 rfl (by decide) _ _ _ rfl (hy.alloc _) ⟨wr.heap.size, 0, none⟩ 1 1 [.int .i64 1] rfl rfl (cell_one_new _ _ _) (by simp [Value.oneCell']) (by unfold maxLen; omega) (by omega) (by have := HBk.out.size; simp; omega) ?_)
          intro v' wa hown' hgrow _
          have HBa : Aside (Below w5.heap.size w5 wa) := Below.grown (HBk.out.alloc HBk.out.size _) hgrow (by have := HBk.out.size; simp; omega) (fun j hj => (hy.lt _ hj).1)
          have HBa' : Aside (Below w.heap.size w wa) := HB5.out.trans (HBa.out.mono HB5.out.size)
          have hTa := hT.below hT.size HBa'.out
          obtain ⟨g', cap', rfl⟩ := ownsRow_succ hown'
          have cG := list_any m hm wa hTa
          clear hown' hgrow hy HNT HY ew hTr
          go_wp2_with fail
          refine cG.mono ?_
          rintro e wb ⟨vg, rfl, hownG, hbb⟩
          obtain ⟨ag2, cg2, rfl, _, qg⟩ := row_readsI hownG
          have HBb5 : Aside (Below w5.heap.size w5 wb) := HBa.out.trans (hbb.mono HBa.out.size)
          have HBb' : Aside (Below w.heap.size w wb) := HB5.out.trans (HBb5.out.mono HB5.out.size)
          have cS := sameInts_any (ints (bitsL m)) ag2 aw cg2 cw wb (by rw [ints_length]; omega) qg (HW.out wb HBb5.out)
          rw [ints_length] at cS
          clear cG hownG hbb qg
          go_wp2_with fail
          refine cS.mono ?_
          rintro e wc ⟨rfl, hbc⟩
          have HBc' : Aside (Below w.heap.size w wc) := HBb'.out.trans (hbc.mono HBb'.out.size)
          have cN := nth_any m i hm (by omega) (by omega) wc (hT.below hT.size HBc'.out)
          clear cS hbc
          go_wp2_with fail
          refine cN.mono ?_
          rintro e wd ⟨rfl, hbd⟩
          have HBd : Aside (Below w.heap.size w wd) := HBc'.out.trans (hbd.mono HBc'.out.size)
          clear cN hbd
          go_wp2
          go_ret
          exact ⟨rfl, HBd.out⟩
end Go.Proofs.YtlgbpimmhnncgaaDoor.Msk
