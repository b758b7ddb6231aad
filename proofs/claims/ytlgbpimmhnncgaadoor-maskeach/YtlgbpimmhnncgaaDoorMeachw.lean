/-
  MaskEach walked: the sequence of a mask's numbers, whole, stopped and again.
-/
import Derived.Test.YtlgbpimmhnncgaaDoorAwk4
import Derived.Test.YtlgbpimmhnncgaaDoorEls
import Derived.BigQuiet
import Derived.Deep.QuietTactic
import Derived.Deep.RegionWith
namespace Go.Proofs.YtlgbpimmhnncgaaDoor.Msk
open Go Go.Lib Go.RowKit Go.Shelf
attribute [local go_sem] Oper.semAt_some

set_option maxRecDepth 100000 in
set_option maxHeartbeats 4000000 in
theorem maskEach_walk (m : Nat) (n : Int) (w : World) (hm : m < 18446744073709551616) (h0 : -9223372036854775808 ≤ n) (h1 : n ≤ 9223372036854775807) (hT : Tab w) :
    Calls Tryd.prog 5 #[.int .u64 m, .int .i64 n] w fun e w' => e = .returned (.bool true) ∧ Below w.heap.size w w' := by
  refine (callsIn_wide (n := 3)).1 ?_
  have hro : Fence.wide.round = none := rfl
  have hw0 := hT.size
  have hbl := bitsL_le m
  have cA := awake4_any ((w.alloc (.cells #[.int .i64 n] 3)).alloc (.cells #[.bool false] 4)) (hT.below hw0 (((Below.refl w.heap.size w).alloc (Nat.le_refl _) _).alloc (by simp) _))
  refine callsIn_of_wp_marks Tryd.func5 rfl trivial ?_ hro
  simp only [Tryd.ntmps5, List.size_toArray, List.length_cons, List.length_nil, Nat.reduceAdd, Nat.reduceSub, Array.replicate_succ, Array.replicate_zero, List.push_toArray, List.append_toArray, List.nil_append, List.cons_append]
  gi_wp2_with (refine ⟨trivial, ?_⟩; gi_at_call 7; refine (callsIn_wide.2 cA).mono ?_)
  rintro e w1 ⟨rfl, hb1⟩
  have bN : Boxed w1 w.heap.size 3 (.int .i64 n) := (hb1.block _ (by simp; omega)).trans ((Boxed.new w 3 (.int .i64 n)).alloc _)
  have bR : Boxed w1 (w.heap.size + 1) 4 (.bool false) := by
    have := Boxed.new (w.alloc (.cells #[.int .i64 n] 3)) 4 (.bool false)
    rw [World.size_alloc] at this
    exact (hb1.block _ (by simp)).trans this
  have HB1 : Aside (Below w.heap.size w w1) := (((Below.refl w.heap.size w).alloc (Nat.le_refl _) _).alloc (by simp) _).trans (hb1.mono (by simp; omega))
  have hw1 : w.heap.size + 2 ≤ w1.heap.size := by have := hb1.size; simpa using this
  have hT1 := hT.below hw0 HB1.out
  clear cA hb1
  gi_wp2_with (refine ⟨trivial, ?_⟩; gi_at_call 19; refine (each_in Fence.wide _ trivial hro _ _).mono ?_; rintro e w' ⟨rfl, rfl⟩)
  have bM := (Boxed.new w1 23 (.int .u64 (m : Int))).alloc (.cells #[.slice none 0 0] 22) |>.alloc (.cells #[.slice none 0 0] 22)
  have bL := (Boxed.new (w1.alloc (.cells #[.int .u64 (m : Int)] 23)) 22 (.slice none 0 0)).alloc (.cells #[.slice none 0 0] 22)
  have bF := Boxed.new ((w1.alloc (.cells #[.int .u64 (m : Int)] 23)).alloc (.cells #[.slice none 0 0] 22)) 22 (.slice none 0 0)
  have bN0 := ((bN.alloc (.cells #[.int .u64 (m : Int)] 23)).alloc (.cells #[.slice none 0 0] 22)).alloc (.cells #[.slice none 0 0] 22)
  have bR0 := ((bR.alloc (.cells #[.int .u64 (m : Int)] 23)).alloc (.cells #[.slice none 0 0] 22)).alloc (.cells #[.slice none 0 0] 22)
  have HB0 : Aside (Below w1.heap.size w1 (((w1.alloc (.cells #[.int .u64 (m : Int)] 23)).alloc (.cells #[.slice none 0 0] 22)).alloc (.cells #[.slice none 0 0] 22))) := (((Below.refl _ w1).alloc (Nat.le_refl _) _).alloc (by simp) _).alloc (by simp; omega) _
  simp only [World.size_alloc] at bL bF
  obtain ⟨W0, hW0⟩ : ∃ W0, ((w1.alloc (.cells #[.int .u64 (m : Int)] 23)).alloc (.cells #[.slice none 0 0] 22)).alloc (.cells #[.slice none 0 0] 22) = W0 := ⟨_, rfl⟩
  have hW0s : W0.heap.size ≤ w1.heap.size + 3 ∧ w1.heap.size + 3 ≤ W0.heap.size := by rw [← hW0]; simp
  rw [hW0] at bM bL bF bN0 bR0 HB0 ⊢
  clear hW0 bN bR
  have HBW : Aside (Below w.heap.size w W0) := HB1.out.trans (HB0.out.mono HB1.out.size)
  have hT0 := hT.below hw0 HBW.out
  obtain ⟨i0, hi, hz0, hz1, hz2⟩ := info_parts infoInt
  rename Act → World → Prop => K0
  have hcommon : ∀ (D : Nat) (L : List Nat) (W : World), W0.heap.size ≤ D → L = (bitsL m).take (max n 0).toNat → (∃ v, Boxed W (w1.heap.size + 1 + 1) 22 v ∧ W.ownsRow (w1.heap.size + 2) 3 1 v L.length (nums L) ∧ True) → Below (w1.heap.size + 2) W0 W → W.heap[D]? = some (.deferred (some [])) →
      K0 { tmps := #[.int .u64 (m : Int), .int .i64 n, undef, .pointer (some ⟨w.heap.size, 0, none⟩), .pointer (some ⟨w.heap.size + 1, 0, none⟩), .func (.func 24) #[] #[.pointer (some ⟨w1.heap.size, 0, none⟩)], .pointer (some ⟨w1.heap.size + 1, 0, none⟩), .pointer (some ⟨w1.heap.size + 1 + 1, 0, none⟩), undef, undef, undef, .bool true, .bool false, .int .u64 (m : Int), .func (.func 24) #[] #[.pointer (some ⟨w1.heap.size, 0, none⟩)], .func (.func 24) #[] #[.pointer (some ⟨w1.heap.size, 0, none⟩)], undef, undef, undef, undef, undef, undef, undef, undef, undef, undef, undef, undef, undef, undef, undef, undef, undef, undef, undef, undef, undef, undef, undef, undef, undef, undef, undef, undef, undef, undef, undef, undef, undef, undef], defers := [{ target := .collected D, args := #[] }] } W := by
    rintro D L W hD hL ⟨v, bF1, hown, _⟩ hB hK
    gi_wp2_with fail
    have hBs := hB.size
    have bL1 : Boxed W (w1.heap.size + 1) 22 (.slice none 0 0) := (hB.block _ (by omega)).trans bL
    have bM1 : Boxed W w1.heap.size 23 (.int .u64 (m : Int)) := (hB.block _ (by omega)).trans bM
    have bR1 : Boxed W (w.heap.size + 1) 4 (.bool false) := (hB.block _ (by omega)).trans bR0
    have bN1 : Boxed W w.heap.size 3 (.int .i64 n) := (hB.block _ (by omega)).trans bN0
    have hTW := hT0.below (by omega) hB
    have HBW1 : Aside (Below w.heap.size w W) := HBW.out.trans (hB.mono (by omega))
    clear bM bL bN0 bR0 bF
    refine wpIn_rangeFunc_ownG hro (by omega) (gf := 24) (lb := #[.pointer (some ⟨w1.heap.size, 0, none⟩)]) rfl trivial (enters_of Tryd.func24 (by kernel_rfl) rfl)
      (each_stops _ (by omega) w1.heap.size m hm W hTW bM1.lt bM1.cell) keepsTab_t (keepsTab_b hTW.size) (Below.refl _ _) (fun _ => rfl)
      (fun pre W' => (∃ v, Boxed W' (w1.heap.size + 1) 22 v ∧ W'.ownsRow W.heap.size 3 1 v pre.length (nums pre) ∧ True) ∧ Els (fun k => k = w1.heap.size + 1) W W')
      (fun _ _ _ => False)
      (OwnFrom.and (Own.from (holdsRow_own W.heap.size (w1.heap.size + 1) 22 3 1 (fun pre : List Nat => pre.length) nums (fun _ _ => True)) _) (ownFrom_els (Nat.le_refl _)))
      (fun _ _ _ _ _ h _ _ => h.elim)
      ⟨⟨_, bL1, World.ownsRow_nil _ _ _ _, trivial⟩, Els.refl _ _⟩
      (fun x => { tmps := #[.int .u64 (m : Int), .int .i64 n, undef, .pointer (some ⟨w.heap.size, 0, none⟩), .pointer (some ⟨w.heap.size + 1, 0, none⟩), .func (.func 24) #[] #[.pointer (some ⟨w1.heap.size, 0, none⟩)], .pointer (some ⟨w1.heap.size + 1, 0, none⟩), .pointer (some ⟨w1.heap.size + 1 + 1, 0, none⟩), undef, .int .i64 (x : Int), undef, .bool true, .bool false, .int .u64 (m : Int), .func (.func 24) #[] #[.pointer (some ⟨w1.heap.size, 0, none⟩)], .func (.func 24) #[] #[.pointer (some ⟨w1.heap.size, 0, none⟩)], undef, undef, undef, undef, undef, undef, undef, undef, undef, .func (.func 24) #[] #[.pointer (some ⟨w1.heap.size, 0, none⟩)], .int .i64 (x : Int), undef, undef, undef, undef, undef, undef, undef, undef, undef, undef, undef, undef, undef, undef, undef, undef, undef, undef, undef, undef, undef, undef, undef], defers := [] }) ?assign2 ?body2 ?done2 ?stop2
    case assign2 =>
      intro l x W K hK
      gi_wp2
      exact hK
    case body2 =>
      rintro l pre x W2 ⟨⟨v, bk, hown2, _⟩, hE⟩ hlen
      have ck := bk.cell
      have hws : W.heap.size ≤ W2.heap.size := hE.size
      have hlp : pre.length < 64 := by omega
      obtain ⟨av, cv, rfl, _, _⟩ := row_readsI hown2
      gi_wp2_with (first
        | (gi_at_builtin; refine wpListIn_append_own_at _ rfl _ _ 22 rfl W.heap.size 3 i0 (.int .i64 0) 1 8 Tryd.underlying22 hi hz0 hz1 hz2 rfl (by decide) _ _ _ rfl (hown2.alloc _) ⟨W2.heap.size, 0, none⟩ 1 1 [.int .i64 (x : Int)] rfl rfl (cell_one_new _ _ _) (by simp [Value.oneCell']) (by unfold maxLen; omega) (by omega) (by simp; omega) ?_))
      intro v' w2 hown' hgrow _ _
      obtain ⟨b1, b2, b3, b4, b5⟩ := boxed_appendedLo bk (by omega) hown2 hown' hgrow
      obtain ⟨g', cap', rfl⟩ := ownsRow_succ hown'
      have c1 := b1.cell
      have f1 := b1.frozen
      clear hown' hgrow
      gi_wp2
      refine ⟨b4.from _, b5.block 0 (by omega) (by omega), ⟨_, b2, ?_, trivial⟩, hE.trans_new b5 (by intro i hi h; omega)⟩
      rw [nums_snoc, List.length_append]
      exact b3
    case stop2 =>
      rintro D2 c pre W2 _ _ h _
      exact h.elim
    case done2 =>
      rintro D2 ys W2 hD2 rfl ⟨⟨vl, bk, hown2, _⟩, hE⟩ hK2
      have hws := hE.size
      have hDl : D < W.heap.size := (Array.getElem?_eq_some_iff.1 hK).1
      have hKD := (hE.block D hDl (by omega)).trans hK
      have bF2 := hE.boxed bF1 (by omega)
      have bN2 := hE.boxed bN1 (by omega)
      have bR2 := hE.boxed bR1 (by omega)
      have hownF := hE.row hown (fun j hj h => by have := (hown.lt j hj).1; omega)
      have HBW2 : Aside (Below w.heap.size w W2) := HBW1.out.trans (hE.below (fun k hk _ => by omega) (by have := HBW1.out.size; omega))
      have cL := refList_any m hm W2
      clear hK hown bF1 bN1 bR1 hE
      gi_wp2_with fail
      refine ⟨trivial, (callsIn_wide.2 cL).mono ?_⟩
      rintro e W3 ⟨vw, rfl, hownW, hb3⟩
      clear cL
      have hs3 := hb3.size
      have bL3 : Boxed W3 (w1.heap.size + 1) 22 vl := (hb3.block _ bk.lt).trans bk
      have bF3 : Boxed W3 (w1.heap.size + 1 + 1) 22 v := (hb3.block _ bF2.lt).trans bF2
      have bN3 : Boxed W3 w.heap.size 3 (.int .i64 n) := (hb3.block _ bN2.lt).trans bN2
      have bR3 : Boxed W3 (w.heap.size + 1) 4 (.bool false) := (hb3.block _ bR2.lt).trans bR2
      obtain ⟨al, cl, rfl, _, ql⟩ := row_readsI hown2
      obtain ⟨af, cf, rfl, _, qf⟩ := row_readsI hownF
      obtain ⟨aw, cw, rfl, _, qw⟩ := row_readsI hownW
      have ql3 := ql.below hb3
      have qf3 := qf.below hb3
      have hKD3 := (hb3.block D (Array.getElem?_eq_some_iff.1 hKD).1).trans hKD
      have hKE3 := (hb3.block D2 (Array.getElem?_eq_some_iff.1 hK2).1).trans hK2
      have HBW3 : Aside (Below w.heap.size w W3) := HBW2.out.trans (hb3.mono (by have := HBW2.out.size; omega))
      have hcw : (bitsL m).length ≤ cw := by
        rcases hownW.2 with ⟨h1, h2⟩ | ⟨g, cap, cur, h1, _, _, h2, _⟩
        · omega
        · cases h1; exact h2
      clear hownW hown2 hownF ql qf hKD hK2 hb3 bk bF2 bN2 bR2
      have cl3 := bL3.cell
      have cf3 := bF3.cell
      have cn3 := bN3.cell
      have hLl : L.length ≤ (bitsL m).length := by rw [hL, List.length_take]; omega
      have hmin : min (max n 0) ((bitsL m).length : Int) = (L.length : Int) := by rw [hL, List.length_take]; omega
      have qw2 : ReadsI W3 aw (ints L) := fun j hj => by
        rw [ints_length] at hj
        obtain ⟨g, o, h1, h2, h3⟩ := qw j (by rw [ints_length]; omega)
        refine ⟨g, o, h1, h2, h3.trans ?_⟩
        have : (ints (bitsL m))[j]? = (ints L)[j]? := by
          simp only [ints, List.getElem?_map, hL]
          rw [List.getElem?_take, if_pos (by rw [hL, List.length_take] at hj; omega)]
        rw [this]
      have cS1 : ∀ W', Below W3.heap.size W3 W' → Calls Tryd.prog 10 #[.slice al (bitsL m).length cl, .slice aw (bitsL m).length cw] W' fun e w' => e = .returned (.bool true) ∧ Below W'.heap.size W' w' := fun W' h => by
        have := sameInts_any (ints (bitsL m)) al aw cl cw W' (by rw [ints_length]; omega) (ql3.below h) (qw.below h)
        rw [ints_length] at this
        exact this
      have cS2 : ∀ W', Below W3.heap.size W3 W' → Calls Tryd.prog 10 #[.slice af L.length cf, .slice aw L.length cw] W' fun e w' => e = .returned (.bool true) ∧ Below W'.heap.size W' w' := fun W' h => by
        have := sameInts_any (ints L) af aw cf cw W' (by rw [ints_length]; omega) (qf3.below h) (qw2.below h)
        rw [ints_length] at this
        exact this
      clear hL ql3 qf3 qw qw2 bN3
      have hDl3 := (Array.getElem?_eq_some_iff.1 hKD3).1
      have hDl4 := (Array.getElem?_eq_some_iff.1 hKE3).1
      have hlF := bF3.lt
      have hlN : w.heap.size < W3.heap.size := by have := bR3.lt; omega
      generalize bitsL m = M at *
      gi_wp2_with fail
      gi_cut [36] from 36 (fun _ wc => Boxed wc (w.heap.size + 1) 4 (.bool true) ∧ wc.heap[D]? = some (.deferred (some [])) ∧ wc.heap[D2]? = some (.deferred (some [])) ∧ Below w.heap.size w wc)
      case first =>
        refine wpIn_blind ?_
        refine wpIn_wide.2 ?_
        go_region_with (first
          | (go_at_call 10; refine (cS2 _ HB4.out).mono ?_; rintro e w5 ⟨rfl, hb5⟩; have HB5 : Aside (Below W3.heap.size W3 w5) := HB4.out.trans (hb5.mono HB4.out.size); have bR5 : Boxed w5 (w.heap.size + 1) 4 (.bool false) := (HB5.out.block _ bR3.lt).trans bR3; have cr5 := bR5.cell; have fr5 := bR5.frozen; clear hb5)
          | (go_at_call 10; refine (cS1 _ (Below.drew (Below.refl _ _))).mono ?_; rintro e w4 ⟨rfl, hb4⟩; have HB4 : Aside (Below W3.heap.size W3 w4) := (Below.drew (Below.refl _ _)).trans hb4; have cf4 : w4.cell? ⟨w1.heap.size + 1 + 1, 0, none⟩ = some (.slice af L.length cf) := (HB4.out.cell (p := ⟨w1.heap.size + 1 + 1, 0, none⟩) hlF).trans cf3; have cn4 : w4.cell? ⟨w.heap.size, 0, none⟩ = some (.int .i64 n) := (HB4.out.cell (p := ⟨w.heap.size, 0, none⟩) hlN).trans cn3; clear hb4))
        all_goals (gi_wp2_with fail)
        all_goals gi_meet
        all_goals exact ⟨bR5.set _, (Below.heap_setCell _ _ _ D (by show D ≠ w.heap.size + 1; omega)).trans ((HB5.out.block D hDl3).trans hKD3), (Below.heap_setCell _ _ _ D2 (by show D2 ≠ w.heap.size + 1; omega)).trans ((HB5.out.block D2 hDl4).trans hKE3), (HBW3.out.trans (HB5.out.mono (by omega))).setCell (p := ⟨w.heap.size + 1, 0, none⟩) (by show w.heap.size ≤ w.heap.size + 1; omega) _⟩
      case rest =>
        obtain ⟨bRc, hkD, hkD2, hBc⟩ := hcut
        have HBc : Aside (Below w.heap.size w wc) := hBc
        have HRz : Aside (((wc.putObj D2 (.deferred none)).putObj D (.deferred none)).cell? ⟨w.heap.size + 1, 0, none⟩ = some (.bool true)) := by
          have : Boxed ((wc.putObj D2 (.deferred none)).putObj D (.deferred none)) (w.heap.size + 1) 4 (.bool true) := (World.putObj_heap_other (by omega)).trans ((World.putObj_heap_other (by omega)).trans bRc)
          exact this.cell
        have HK5 : Aside ((wc.putObj D2 (.deferred none)).heap[D]? = some (Obj.deferred (some []))) := by
          show _ = _
          rw [World.putObj_heap_other (by omega)]; exact hkD
        have HK6 : Aside (wc.heap[D2]? = some (Obj.deferred (some []))) := hkD2
        have hDw : w.heap.size ≤ D ∧ w.heap.size ≤ D2 := by omega
        clear hkD hkD2 hBc bRc
        gi_wp2
        refine ⟨by simp, .inl ⟨_, _, rfl, run_takeDeferred HK6.out, ?_⟩⟩
        refine ⟨by simp, .inl ⟨_, _, rfl, run_takeDeferred HK5.out, ?_⟩⟩
        exact ⟨_, results_box4 rfl _ _ (w.heap.size + 1) (.bool true) (by rfl) HRz.out, rfl, (HBc.out.trans (belowK_b (w := w) (Nat.le_refl _) _ D2 _ _ hDw.2 HK6.out rfl rfl)).trans (belowK_b (w := w) (Nat.le_refl _) _ D _ _ hDw.1 HK5.out rfl rfl)⟩
  refine wpIn_rangeFunc_ownG hro (by omega) (gf := 24) (lb := #[.pointer (some ⟨w1.heap.size, 0, none⟩)]) rfl trivial (enters_of Tryd.func24 (by kernel_rfl) rfl)
    (each_stops _ (by omega) w1.heap.size m hm W0 hT0 bM.lt bM.cell) keepsTab_t (keepsTab_b hT0.size) (Below.refl _ _) (fun _ => rfl)
    (fun pre W => ((∃ v, Boxed W (w1.heap.size + 1 + 1) 22 v ∧ W.ownsRow (w1.heap.size + 2) 3 1 v pre.length (nums pre) ∧ True) ∧ (pre.length : Int) ≤ max n 0) ∧ Below (w1.heap.size + 2) W0 W)
    (fun c pre W => (∃ ini x, c = .exit 0 ∧ pre = ini ++ [x] ∧ n ≤ (ini.length : Int) ∧ (∃ v, Boxed W (w1.heap.size + 1 + 1) 22 v ∧ W.ownsRow (w1.heap.size + 2) 3 1 v ini.length (nums ini) ∧ True) ∧ (ini.length : Int) ≤ max n 0) ∧ Below (w1.heap.size + 2) W0 W)
    (OwnFrom.and (OwnFrom.and (Own.from (holdsRow_own (w1.heap.size + 2) (w1.heap.size + 1 + 1) 22 3 1 (fun pre : List Nat => pre.length) nums (fun _ _ => True)) _) (ownFrom_pure _ _)) (ownFrom_below (by omega) (by omega)))
    (fun c => OwnFrom.and (fun pre W W' row hs hg hr => by
      obtain ⟨ini, x, e1, e2, e3, e4, e5⟩ := hs
      exact ⟨ini, x, e1, e2, e3, Own.from (holdsRow_own (w1.heap.size + 2) (w1.heap.size + 1 + 1) 22 3 1 (fun _ : List Nat => ini.length) (fun _ => nums ini) (fun _ _ => True)) _ [] W W' row e4 hg hr, e5⟩) (ownFrom_below (by omega) (by omega)))
    ⟨⟨⟨_, bF, World.ownsRow_nil _ _ _ _, trivial⟩, by simp; omega⟩, Below.refl _ _⟩
    (fun x => { tmps := #[.int .u64 (m : Int), .int .i64 n, undef, .pointer (some ⟨w.heap.size, 0, none⟩), .pointer (some ⟨w.heap.size + 1, 0, none⟩), .func (.func 24) #[] #[.pointer (some ⟨w1.heap.size, 0, none⟩)], .pointer (some ⟨w1.heap.size + 1, 0, none⟩), .pointer (some ⟨w1.heap.size + 1 + 1, 0, none⟩), .int .i64 (x : Int), undef, undef, .bool true, .bool false, .int .u64 (m : Int), .func (.func 24) #[] #[.pointer (some ⟨w1.heap.size, 0, none⟩)], .func (.func 24) #[] #[.pointer (some ⟨w1.heap.size, 0, none⟩)], .int .i64 (x : Int), undef, undef, undef, undef, undef, undef, undef, undef, undef, undef, undef, undef, undef, undef, undef, undef, undef, undef, undef, undef, undef, undef, undef, undef, undef, undef, undef, undef, undef, undef, undef, undef, undef], defers := [] }) ?assign ?body ?done ?stop
  case assign =>
    intro l x W K hK
    gi_wp2
    exact hK
  case body =>
    rintro l pre x W ⟨⟨⟨v, bk, hown, _⟩, hkn⟩, hB⟩ hlen
    have ck := bk.cell
    have hws : w1.heap.size + 3 ≤ W.heap.size := by have := hB.size; omega
    have cn := Boxed.cell (W := W) ((hB.block _ (by omega)).trans bN0)
    have hlp : pre.length < 64 := by omega
    obtain ⟨av, cv, rfl, _, _⟩ := row_readsI hown
    by_cases hb : n ≤ (pre.length : Int)
    · gi_wp2
      exact ⟨KeepsFrom.refl _ _, ⟨rfl, pre, ⟨x, rfl⟩, hb, ⟨_, bk, hown⟩, hkn⟩, hB⟩
    · gi_wp2_with (first
        | (gi_at_builtin; refine wpListIn_append_own_at _ rfl _ _ 22 rfl (w1.heap.size + 2) 3 i0 (.int .i64 0) 1 8 Tryd.underlying22 hi hz0 hz1 hz2 rfl (by decide) _ _ _ rfl (hown.alloc _) ⟨W.heap.size, 0, none⟩ 1 1 [.int .i64 (x : Int)] rfl rfl (cell_one_new _ _ _) (by simp [Value.oneCell']) (by unfold maxLen; omega) (by omega) (by simp; omega) ?_))
      intro v' w2 hown' hgrow _ _
      obtain ⟨b1, b2, b3, b4, b5⟩ := bk.appended (by decide) hown (by omega) (by omega) hown' hgrow
      obtain ⟨g', cap', rfl⟩ := ownsRow_succ hown'
      have c1 := b1.cell
      have f1 := b1.frozen
      clear hown' hgrow
      gi_wp2
      refine ⟨b4.from _, keepsTab_below b5 (by omega), ⟨⟨_, b2, ?_, trivial⟩, ?_⟩, hB.trans b5⟩
      · rw [nums_snoc, List.length_append]
        exact b3
      · rw [snoc_len]; omega
  case stop =>
    rintro D c pre W hD ⟨tl, htl⟩ ⟨⟨ini, x, rfl, rfl, hni, hv, hkn⟩, hB⟩ hK
    have hc := hcommon D ini W hD (by rw [← htl, List.append_assoc, show (max n 0).toNat = ini.length by omega, List.take_left']; rfl) hv hB hK
    gi_wp2
    exact hc
  case done =>
    rintro D ys W hD rfl ⟨⟨hv, hkn⟩, hB⟩ hK
    exact hcommon D _ W hD (by rw [List.take_of_length_le (by omega)]) hv hB hK
end Go.Proofs.YtlgbpimmhnncgaaDoor.Msk
