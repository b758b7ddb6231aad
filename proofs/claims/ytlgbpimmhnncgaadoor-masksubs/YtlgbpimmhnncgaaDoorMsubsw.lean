/-
  MaskSubs walked: the first subsets of a word are the document's, each greater than the one ahead, and all of them where there are no more.
-/
import Derived.Test.YtlgbpimmhnncgaaDoorRsub
import Derived.Test.YtlgbpimmhnncgaaDoorEls
import Derived.BigQuiet
import Derived.Deep.QuietTactic
import Derived.Deep.RegionWith
namespace Go.Proofs.YtlgbpimmhnncgaaDoor.Msk
open Go Go.Lib Go.RowKit Go.Shelf
attribute [local go_sem] Oper.semAt_some

theorem sub_and (m k : Nat) (hm : m < 18446744073709551616) : bits BinOp.andNot IntKind.u64 (subK m k : Int) (m : Int) = 0 := by
  rw [Go.u64_andNot_nat _ _ (subK_lt m k) hm]
  have : subK m k &&& (18446744073709551615 - m) = 0 := by
    apply Nat.eq_of_testBit_eq
    intro j
    have e2 := Nat.testBit_two_pow_sub_succ (x := m) (n := 64) hm j
    rw [show 2 ^ 64 - (m + 1) = 18446744073709551615 - m by omega] at e2
    rw [Nat.testBit_and, e2, Nat.zero_testBit]
    cases hb : (subK m k).testBit j with
    | false => rfl
    | true =>
      have := dep_sub 64 m k j hb
      rw [this]
      simp
  rw [this]
  rfl
theorem subsT_prefix (m : Nat) (pre : List Nat) (x : Nat) (h : pre ++ [x] <+: subsL m) : x = subK m pre.length := by
  obtain ⟨t, ht⟩ := h
  have hl : pre.length < (subsL m).length := by rw [← ht]; simp
  have h1 : (subsL m)[pre.length]? = some x := by rw [← ht, List.append_assoc, List.getElem?_append_right (Nat.le_refl _)]; simp
  have h2 : (subsL m)[pre.length]? = some (subK m pre.length) := by
    unfold subsL
    rw [subsL_length] at hl
    rw [List.getElem?_map, List.getElem?_range hl]
    rfl
  rw [h1] at h2
  exact Option.some.inj h2

/-- What the loop keeps. -/
def SubI (m kb lb B0 : Nat) (W0 : World) (pre : List Nat) (W : World) : Prop :=
  (Boxed W kb 3 (.int .i64 (pre.length : Int)) ∧ Boxed W lb 23 (.int .u64 (subK m (pre.length - 1) : Int)) ∧ pre = subsT m pre.length ∧ pre.length ≤ 129) ∧ Below B0 W0 W
/-- How the loop is left: with a number that is none of the sequence's, or with the hundred and thirtieth. -/
def SubX (m kb lb B0 : Nat) (W0 : World) (c : Code) (pre : List Nat) (W : World) : Prop :=
  ¬ pre <+: subsL m ∨ (c = .exit 0 ∧ pre.length = 130 ∧ Boxed W kb 3 (.int .i64 130) ∧ Boxed W lb 23 (.int .u64 (subK m 129 : Int)) ∧ Below B0 W0 W)
theorem subI_own {m kb lb B0 : Nat} {W0 : World} {B : Nat} (h1 : B0 ≤ W0.heap.size) (h2 : B0 ≤ B) : OwnFrom B (SubI m kb lb B0 W0) :=
  OwnFrom.and (OwnFrom.and (Own.from (boxed_own kb 3 (fun pre : List Nat => .int .i64 (pre.length : Int))) _) (OwnFrom.and (Own.from (boxed_own lb 23 (fun pre : List Nat => .int .u64 (subK m (pre.length - 1) : Int))) _) (ownFrom_pure _ _))) (ownFrom_below h1 h2)
theorem subX_own {m kb lb B0 : Nat} {W0 : World} {B : Nat} (h1 : B0 ≤ W0.heap.size) (h2 : B0 ≤ B) (c : Code) : OwnFrom B (SubX m kb lb B0 W0 c) := by
  rintro pre W W' row (h | ⟨e1, e2, e3, e4, e5⟩) hg hr
  · exact .inl h
  · exact .inr ⟨e1, e2, Own.from (boxed_own kb 3 (fun _ : List Nat => .int .i64 130)) B [] W W' row e3 hg hr, Own.from (boxed_own lb 23 (fun _ : List Nat => .int .u64 (subK m 129 : Int))) B [] W W' row e4 hg hr, ownFrom_below (β := Unit) h1 h2 () W W' row e5 hg hr⟩

set_option maxRecDepth 100000 in
set_option maxHeartbeats 2000000 in
theorem maskSubs_walk (m : Nat) (w : World) (hm : m < 18446744073709551616) (hT : Tab w) :
    Calls Tryd.prog 6 #[.int .u64 m] w fun e w' => e = .returned (.bool true) ∧ Below w.heap.size w w' := by
  refine (callsIn_wide (n := 3)).1 ?_
  have hro : Fence.wide.round = none := rfl
  have hw0 := hT.size
  have hbl := bitsL_le m
  have cA := awake4_any ((w.alloc (.cells #[.int .u64 (m : Int)] 23)).alloc (.cells #[.bool false] 4)) (hT.below hw0 (((Below.refl w.heap.size w).alloc (Nat.le_refl _) _).alloc (by simp) _))
  refine callsIn_of_wp_marks Tryd.func6 rfl trivial ?_ hro
  simp only [Tryd.ntmps6, List.size_toArray, List.length_cons, List.length_nil, Nat.reduceAdd, Nat.reduceSub, Array.replicate_succ, Array.replicate_zero, List.push_toArray, List.append_toArray, List.nil_append, List.cons_append]
  gi_wp2_with (refine ⟨trivial, ?_⟩; gi_at_call 7; refine (callsIn_wide.2 cA).mono ?_)
  rintro e w1 ⟨rfl, hb1⟩
  have bN : Boxed w1 w.heap.size 23 (.int .u64 (m : Int)) := (hb1.block _ (by simp; omega)).trans ((Boxed.new w 23 (.int .u64 (m : Int))).alloc _)
  have bR : Boxed w1 (w.heap.size + 1) 4 (.bool false) := by
    have := Boxed.new (w.alloc (.cells #[.int .u64 (m : Int)] 23)) 4 (.bool false)
    rw [World.size_alloc] at this
    exact (hb1.block _ (by simp)).trans this
  have HB1 : Aside (Below w.heap.size w w1) := (((Below.refl w.heap.size w).alloc (Nat.le_refl _) _).alloc (by simp) _).trans (hb1.mono (by simp; omega))
  have hw1 : w.heap.size + 2 ≤ w1.heap.size := by have := hb1.size; simpa using this
  have hT1 := hT.below hw0 HB1.out
  have cS := refSub_any m 130 hm (by omega) w1
  obtain ⟨M, hM⟩ : ∃ M, M = min 130 (2 ^ (bitsL m).length) := ⟨_, rfl⟩
  rw [← hM] at cS
  have HM : Aside (M = min 130 (2 ^ (bitsL m).length)) := hM
  have hM130 : M ≤ 130 := by omega
  clear hM
  have cN := bN.cell
  clear cA hb1
  gi_wp2_with fail
  refine ⟨trivial, (callsIn_wide.2 cS).mono ?_⟩
  rintro e w2 ⟨v, rfl, hown, hb2⟩
  have HB2 : Aside (Below w.heap.size w w2) := HB1.out.trans (hb2.mono HB1.out.size)
  have hw2 : w1.heap.size ≤ w2.heap.size := hb2.size
  have bN2 : Boxed w2 w.heap.size 23 (.int .u64 (m : Int)) := (hb2.block _ bN.lt).trans bN
  have bR2 : Boxed w2 (w.heap.size + 1) 4 (.bool false) := (hb2.block _ bR.lt).trans bR
  have hT2 := hT.below hw0 HB2.out
  have cN2 := bN2.cell
  have hshape : ∃ g cap, v = .slice g M cap := by
    rcases hown.2 with ⟨rfl, h0⟩ | ⟨g, cap, cur, rfl, _⟩
    · exact ⟨none, 0, by rw [h0]⟩
    · exact ⟨_, cap, rfl⟩
  obtain ⟨aw, cw, rfl⟩ := hshape
  clear bN bR cN cS hb2
  have cN3 : (((w2.alloc (.cells #[.slice aw M cw] 38)).alloc (.cells #[.int .i64 0] 3)).alloc (.cells #[.int .u64 0] 23)).cell? ⟨w.heap.size, 0, none⟩ = some (.int .u64 (m : Int)) := (((bN2.alloc _).alloc _).alloc _).cell
  gi_wp2_with (refine ⟨trivial, ?_⟩; gi_at_call 21; refine (sub_in Fence.wide _ trivial hro _ _).mono ?_; rintro e w' ⟨rfl, rfl⟩)
  have HRW : Aside (∀ W, Below w2.heap.size w2 W → ∀ k, k < M → ∃ g, aw = some ⟨g, 0, none⟩ ∧ W.cell? ⟨g, k, none⟩ = some (.int .u64 (subK m k : Int))) := fun W hW k hk => by
    rcases hown.2 with ⟨_, h0⟩ | ⟨g, cap, cur, hg, _⟩
    · omega
    · cases hg
      refine ⟨g, rfl, ?_⟩
      have := hown.cells (g := g) rfl k (.int .u64 (subK m k : Int)) (by simp [wrds, subsT, hk])
      rw [show (⟨g, 0, none⟩ : Addr).add k = ⟨g, k, none⟩ by unfold Addr.add; split <;> simp_all] at this
      exact (hW.cell (p := ⟨g, k, none⟩) (hown.lt g rfl).2).trans this
  have hcw : M ≤ cw := by
    rcases hown.2 with ⟨h1, h2⟩ | ⟨g, cap, cur, h1, _, _, h2, _⟩
    · omega
    · cases h1; exact h2
  clear cN2 cN3 hown
  have bW := ((Boxed.new w2 38 (.slice aw M cw)).alloc (.cells #[.int .i64 0] 3)).alloc (.cells #[.int .u64 0] 23) |>.alloc (.cells #[.int .u64 (m : Int)] 23)
  have bK := ((Boxed.new (w2.alloc (.cells #[.slice aw M cw] 38)) 3 (.int .i64 0)).alloc (.cells #[.int .u64 0] 23)).alloc (.cells #[.int .u64 (m : Int)] 23)
  have bL := (Boxed.new ((w2.alloc (.cells #[.slice aw M cw] 38)).alloc (.cells #[.int .i64 0] 3)) 23 (.int .u64 0)).alloc (.cells #[.int .u64 (m : Int)] 23)
  have bM := Boxed.new (((w2.alloc (.cells #[.slice aw M cw] 38)).alloc (.cells #[.int .i64 0] 3)).alloc (.cells #[.int .u64 0] 23)) 23 (.int .u64 (m : Int))
  have bN3 := (((bN2.alloc (.cells #[.slice aw M cw] 38)).alloc (.cells #[.int .i64 0] 3)).alloc (.cells #[.int .u64 0] 23)).alloc (.cells #[.int .u64 (m : Int)] 23)
  have bR3 := (((bR2.alloc (.cells #[.slice aw M cw] 38)).alloc (.cells #[.int .i64 0] 3)).alloc (.cells #[.int .u64 0] 23)).alloc (.cells #[.int .u64 (m : Int)] 23)
  have HB0 : Aside (Below w2.heap.size w2 ((((w2.alloc (.cells #[.slice aw M cw] 38)).alloc (.cells #[.int .i64 0] 3)).alloc (.cells #[.int .u64 0] 23)).alloc (.cells #[.int .u64 (m : Int)] 23))) := ((((Below.refl _ w2).alloc (Nat.le_refl _) _).alloc (by simp) _).alloc (by simp; omega) _).alloc (by simp; omega) _
  simp only [World.size_alloc] at bK bL bM
  obtain ⟨W0, hW0⟩ : ∃ W0, ((((w2.alloc (.cells #[.slice aw M cw] 38)).alloc (.cells #[.int .i64 0] 3)).alloc (.cells #[.int .u64 0] 23)).alloc (.cells #[.int .u64 (m : Int)] 23)) = W0 := ⟨_, rfl⟩
  have hW0s : W0.heap.size ≤ w2.heap.size + 4 ∧ w2.heap.size + 4 ≤ W0.heap.size := by rw [← hW0]; simp
  rw [hW0] at bW bK bL bM bN3 bR3 HB0 ⊢
  clear hW0 bN2 bR2
  have HBW : Aside (Below w.heap.size w W0) := HB2.out.trans (HB0.out.mono HB2.out.size)
  have hT0 := hT.below hw0 HBW.out
  have h00 : subK m 0 = 0 := dep_zero 64 m
  rename Act → World → Prop => K0
  have hcommon : ∀ (D k : Nat) (la : Nat) (W : World), W0.heap.size ≤ D → k = M → (7 < (bitsL m).length ∧ k = 130 ∨ (bitsL m).length ≤ 7 ∧ k = 2 ^ (bitsL m).length ∧ la = m) → Boxed W (w2.heap.size + 1) 3 (.int .i64 (k : Int)) → Boxed W (w2.heap.size + 1 + 1) 23 (.int .u64 (la : Int)) → Below (w2.heap.size + 1) W0 W → W.heap[D]? = some (.deferred (some [])) →
      K0 { tmps := #[.int .u64 (m : Int), .pointer (some ⟨w.heap.size, 0, none⟩), .pointer (some ⟨w.heap.size + 1, 0, none⟩), .pointer (some ⟨w2.heap.size, 0, none⟩), .pointer (some ⟨w2.heap.size + 1, 0, none⟩), .pointer (some ⟨w2.heap.size + 1 + 1, 0, none⟩), undef, undef, .bool true, .bool false, .int .u64 (m : Int), .slice aw M cw, .int .u64 (m : Int), .func (.func 26) #[] #[.pointer (some ⟨w2.heap.size + 1 + 1 + 1, 0, none⟩)], undef, undef, undef, undef, undef, undef, undef, undef, undef, undef, undef, undef, undef, undef, undef, undef, undef, undef, undef, undef, undef, undef, undef, undef, undef, undef, undef, undef, undef, undef, undef, undef, undef, undef, undef, undef, undef, undef, undef, undef, undef, undef, undef, undef, undef, undef, undef, undef, undef, undef, undef, undef, undef, undef, undef, undef, undef, undef, undef, undef, undef, undef], defers := [{ target := .collected D, args := #[] }] } W := by
    rintro D k la W hD rfl hres bk bl hB hK
    have hBs := hB.size
    have bW1 : Boxed W w2.heap.size 38 (.slice aw k cw) := (hB.block _ (by omega)).trans bW
    have bN1 : Boxed W w.heap.size 23 (.int .u64 (m : Int)) := (hB.block _ (by omega)).trans bN3
    have bR1 : Boxed W (w.heap.size + 1) 4 (.bool false) := (hB.block _ (by omega)).trans bR3
    have hTW := hT0.below (by omega) hB
    have HBW1 : Aside (Below w.heap.size w W) := HBW.out.trans (hB.mono (by omega))
    have cC := count_any m hm W hTW
    have cn1 := bN1.cell
    clear bW bK bL bM bN3 bR3 HRW HM
    gi_wp2_with fail
    refine ⟨trivial, (callsIn_wide.2 cC).mono ?_⟩
    rintro e W3 ⟨rfl, hb3⟩
    have hs3 := hb3.size
    have bW3 : Boxed W3 w2.heap.size 38 (.slice aw k cw) := (hb3.block _ bW1.lt).trans bW1
    have bN3 : Boxed W3 w.heap.size 23 (.int .u64 (m : Int)) := (hb3.block _ bN1.lt).trans bN1
    have bR3 : Boxed W3 (w.heap.size + 1) 4 (.bool false) := (hb3.block _ bR1.lt).trans bR1
    have bK3 : Boxed W3 (w2.heap.size + 1) 3 (.int .i64 (k : Int)) := (hb3.block _ bk.lt).trans bk
    have bL3 : Boxed W3 (w2.heap.size + 1 + 1) 23 (.int .u64 (la : Int)) := (hb3.block _ bl.lt).trans bl
    have hK3 := (hb3.block D (Array.getElem?_eq_some_iff.1 hK).1).trans hK
    have HBW3 : Aside (Below w.heap.size w W3) := HBW1.out.trans (hb3.mono (by have := HBW1.out.size; omega))
    have c1 := bW3.cell
    have c2 := bN3.cell
    have c3 := bK3.cell
    have c4 := bL3.cell
    have c5 := bR3.cell
    have f5 := bR3.frozen
    clear cC hb3 bW1 bN1 bR1 bk bl hK
    gi_wp2_with fail
    have HRES : Aside (7 < (bitsL m).length ∧ k = 130 ∨ (bitsL m).length ≤ 7 ∧ k = 2 ^ (bitsL m).length ∧ la = m) := hres
    clear hres
    generalize (bitsL m).length = nb at *
    gi_cut [49] from 49 (fun _ wc => Boxed wc (w.heap.size + 1) 4 (.bool true) ∧ wc.heap[D]? = some (.deferred (some [])) ∧ Below w.heap.size w wc)
    case first =>
      have s5 := bR3.set (.bool true)
      have HR : Aside (Boxed (W3.setCell ⟨w.heap.size + 1, 0, none⟩ (.bool true)) (w.heap.size + 1) 4 (.bool true) ∧ (W3.setCell ⟨w.heap.size + 1, 0, none⟩ (.bool true)).heap[D]? = some (.deferred (some [])) ∧ Below w.heap.size w (W3.setCell ⟨w.heap.size + 1, 0, none⟩ (.bool true))) :=
        ⟨s5, (Below.heap_setCell _ _ _ D (by show D ≠ w.heap.size + 1; omega)).trans hK3, HBW3.out.setCell (p := ⟨w.heap.size + 1, 0, none⟩) (by show w.heap.size ≤ w.heap.size + 1; omega) _⟩
      clear s5 bR3 bW3 bN3 bK3 bL3
      refine wpIn_blind ?_
      refine wpIn_wide.2 ?_
      rcases HRES.out with ⟨h7, rfl⟩ | ⟨h7, hkk, rfl⟩
      · have h7z : (nb : Int) > 7 := by omega
        go_region
        all_goals (gi_wp2_with fail)
        all_goals gi_meet
        all_goals exact ⟨HR.out.1, HR.out.2.1, Below.drew HR.out.2.2⟩
      · have h7z : ¬ (nb : Int) > 7 := by omega
        have h7y : (nb : Int) ≤ 7 := by omega
        have hsh : IntKind.i64.wrap ((2 : Int) ^ nb) = (k : Int) := by
          rw [← pow_cast, ← hkk, IntKind.wrap_i64]
          have : 2 ^ nb ≤ 2 ^ 7 := Nat.pow_le_pow_right (by decide) h7
          omega
        clear hkk
        go_region
        all_goals (gi_wp2_with fail)
        all_goals gi_meet
        all_goals exact ⟨HR.out.1, HR.out.2.1, Below.drew HR.out.2.2⟩
    case rest =>
      obtain ⟨bRc, hkD, hBc⟩ := hcut
      have HBc : Aside (Below w.heap.size w wc) := hBc
      have HRz : Aside ((wc.putObj D (.deferred none)).cell? ⟨w.heap.size + 1, 0, none⟩ = some (.bool true)) := by
        have : Boxed (wc.putObj D (.deferred none)) (w.heap.size + 1) 4 (.bool true) := (World.putObj_heap_other (by omega)).trans bRc
        exact this.cell
      have HK6 : Aside (wc.heap[D]? = some (Obj.deferred (some []))) := hkD
      have hDw : w.heap.size ≤ D := by omega
      clear hkD hBc bRc
      gi_wp2
      refine ⟨by simp, .inl ⟨_, _, rfl, run_takeDeferred HK6.out, ?_⟩⟩
      exact ⟨_, results_box4 rfl _ _ (w.heap.size + 1) (.bool true) (by rfl) HRz.out, rfl, HBc.out.trans (belowK_b (w := w) (Nat.le_refl _) _ D _ _ hDw HK6.out rfl rfl)⟩
  refine wpIn_rangeFunc_ownG hro (by omega) (gf := 26) (lb := #[.pointer (some ⟨w2.heap.size + 1 + 1 + 1, 0, none⟩)]) rfl trivial (enters_of Tryd.func26 (by kernel_rfl) rfl)
    (sub_stops _ (by omega) (w2.heap.size + 1 + 1 + 1) m hm W0 bM.lt bM.cell) keepsBox_t (keepsBox_b bM.lt) (Below.refl _ _) (fun _ => rfl)
    (SubI m (w2.heap.size + 1) (w2.heap.size + 1 + 1) (w2.heap.size + 1) W0) (SubX m (w2.heap.size + 1) (w2.heap.size + 1 + 1) (w2.heap.size + 1) W0)
    (subI_own (by omega) (by omega)) (fun c => subX_own (by omega) (by omega) c)
    ⟨⟨bK, by simpa [h00] using bL, by simp [subsT], by simp⟩, Below.refl _ _⟩
    (fun x => { tmps := #[.int .u64 (m : Int), .pointer (some ⟨w.heap.size, 0, none⟩), .pointer (some ⟨w.heap.size + 1, 0, none⟩), .pointer (some ⟨w2.heap.size, 0, none⟩), .pointer (some ⟨w2.heap.size + 1, 0, none⟩), .pointer (some ⟨w2.heap.size + 1 + 1, 0, none⟩), .int .u64 (x : Int), undef, .bool true, .bool false, .int .u64 (m : Int), .slice aw M cw, .int .u64 (m : Int), .func (.func 26) #[] #[.pointer (some ⟨w2.heap.size + 1 + 1 + 1, 0, none⟩)], .int .u64 (x : Int), undef, undef, undef, undef, undef, undef, undef, undef, undef, undef, undef, undef, undef, undef, undef, undef, undef, undef, undef, undef, undef, undef, undef, undef, undef, undef, undef, undef, undef, undef, undef, undef, undef, undef, undef, undef, undef, undef, undef, undef, undef, undef, undef, undef, undef, undef, undef, undef, undef, undef, undef, undef, undef, undef, undef, undef, undef, undef, undef, undef, undef], defers := [] }) ?assign ?body ?done ?stop
  case assign =>
    intro l x W K hK
    gi_wp2
    exact hK
  case body =>
    rintro l pre x W ⟨⟨bk, bl, hpre, hk9⟩, hB⟩ hlen
    rw [subsL_length] at hlen
    have hkM : pre.length < M := by have := HM.out; omega
    have HBx : Aside (Below w2.heap.size w2 W) := HB0.out.trans (hB.mono (by omega))
    obtain ⟨g, rfl, cg⟩ := HRW.out W HBx.out pre.length hkM
    have ck := bk.cell
    have fk := bk.frozen
    have cl := bl.cell
    have fl := bl.frozen
    have cw := Boxed.cell (W := W) ((hB.block _ (by omega)).trans bW)
    have cm := Boxed.cell (W := W) ((hB.block _ (by omega)).trans bN3)
    have bRx : Boxed W (w.heap.size + 1) 4 (.bool false) := (hB.block _ (by omega)).trans bR3
    have cr := bRx.cell
    have fr := bRx.frozen
    have hge : ¬ (pre.length : Int) ≥ (M : Int) := by omega
    have hsl := subK_lt m pre.length
    by_cases hx : x = subK m pre.length
    · subst hx
      have hand := sub_and m pre.length hm
      have hmono : 0 < pre.length → subK m (pre.length - 1) < subK m pre.length := fun h0 => dep_mono 64 m _ _ (by omega) (by rw [← cnt_bits]; exact hlen)
      have HPN : Aside (pre ++ [subK m pre.length] = subsT m (pre ++ [subK m pre.length]).length) := by
        show _ = _
        rw [List.length_append, List.length_singleton, subsT_succ, ← hpre]
      have HLN : Aside ((pre ++ [subK m pre.length]).length = pre.length + 1) := by show _ = _; simp
      have HS : Aside (subK m pre.length = subK m ((pre ++ [subK m pre.length]).length - 1)) := by show _ = _; rw [HLN.out, Nat.add_sub_cancel]
      have s1 := bl.set (.int .u64 (subK m pre.length : Int))
      have s2 := bk.other (B' := w2.heap.size + 1 + 1) (by omega) (.int .u64 (subK m pre.length : Int))
      have ck2 := s2.cell
      have fk2 := s2.frozen
      have s3 := s2.set (.int .i64 ((pre.length : Int) + 1))
      have s4 := s1.other (B' := w2.heap.size + 1) (by omega) (.int .i64 ((pre.length : Int) + 1))
      have ck3 := s3.cell
      have HKp : Aside (KeepsBox (w2.heap.size + 1 + 1 + 1) W ((W.setCell ⟨w2.heap.size + 1 + 1, 0, none⟩ (.int .u64 (subK m pre.length : Int))).setCell ⟨w2.heap.size + 1, 0, none⟩ (.int .i64 ((pre.length : Int) + 1)))) := by
        show _ = _
        rw [Below.heap_setCell _ _ _ _ (by show w2.heap.size + 1 + 1 + 1 ≠ w2.heap.size + 1; omega), Below.heap_setCell _ _ _ _ (by show w2.heap.size + 1 + 1 + 1 ≠ w2.heap.size + 1 + 1; omega)]
      have HBn : Aside (Below (w2.heap.size + 1) W0 ((W.setCell ⟨w2.heap.size + 1 + 1, 0, none⟩ (.int .u64 (subK m pre.length : Int))).setCell ⟨w2.heap.size + 1, 0, none⟩ (.int .i64 ((pre.length : Int) + 1)))) := (hB.setCell (p := ⟨w2.heap.size + 1 + 1, 0, none⟩) (by show w2.heap.size + 1 ≤ w2.heap.size + 1 + 1; omega) _).setCell (p := ⟨w2.heap.size + 1, 0, none⟩) (Nat.le_refl _) _
      have H129 : Aside (pre.length + 1 = 130 → subK m pre.length = subK m 129) := fun h => by rw [show pre.length = 129 by omega]
      clear hpre
      generalize subK m pre.length = S at *
      generalize subK m (pre.length - 1) = T at *
      have HIn : Aside (pre.length + 1 ≤ 129 → SubI m (w2.heap.size + 1) (w2.heap.size + 1 + 1) (w2.heap.size + 1) W0 (pre ++ [S]) ((W.setCell ⟨w2.heap.size + 1 + 1, 0, none⟩ (.int .u64 (S : Int))).setCell ⟨w2.heap.size + 1, 0, none⟩ (.int .i64 ((pre.length : Int) + 1)))) := fun h => by
        refine ⟨⟨?_, ?_, HPN.out, by rw [HLN.out]; exact h⟩, HBn.out⟩
        · rw [HLN.out]; exact s3
        · rw [← HS.out]; exact s4
      have HXn : Aside (pre.length + 1 = 130 → SubX m (w2.heap.size + 1) (w2.heap.size + 1 + 1) (w2.heap.size + 1) W0 (.exit 0) (pre ++ [S]) ((W.setCell ⟨w2.heap.size + 1 + 1, 0, none⟩ (.int .u64 (S : Int))).setCell ⟨w2.heap.size + 1, 0, none⟩ (.int .i64 ((pre.length : Int) + 1)))) := fun h => by
        refine .inr ⟨rfl, by rw [HLN.out]; exact h, ?_, ?_, HBn.out⟩
        · have e : ((pre.length : Int) + 1) = 130 := by omega
          rw [e] at s3 ⊢
          exact s3
        · rw [← H129.out h]; exact s4
      generalize pre ++ [S] = pre2 at *
      generalize pre.length = k at *
      clear s1 s2 s3 s4 bk bl HPN HLN HS H129
      by_cases hk0 : 0 < k
      · have hT := hmono hk0
        have hle : ¬ (S : Int) ≤ (T : Int) := by omega
        have hkz : (k : Int) > 0 := by omega
        by_cases h130 : k + 1 = 130
        · obtain rfl : k = 129 := by omega
          gi_wp2
          exact ⟨((KeepsOthers.setCell _ _ _).trans (KeepsOthers.setCell _ _ _)).from _, HXn.out (by first | rfl | trivial)⟩
        · have hne : ((k : Int) + 1 == 130) = false := by rw [beq_eq_false_iff_ne]; omega
          gi_wp2
          exact ⟨((KeepsOthers.setCell _ _ _).trans (KeepsOthers.setCell _ _ _)).from _, HKp.out, HIn.out (by omega)⟩
      · obtain rfl : k = 0 := by omega
        gi_wp2
        exact ⟨((KeepsOthers.setCell _ _ _).trans (KeepsOthers.setCell _ _ _)).from _, HKp.out, HIn.out (by omega)⟩
    · have hne : ((x : Int) == (subK m pre.length : Int)) = false := by rw [beq_eq_false_iff_ne]; omega
      have HX : Aside (¬ pre ++ [x] <+: subsL m) := fun h => hx (subsT_prefix m pre x h)
      clear hpre
      gi_wp2
      exact ⟨(KeepsOthers.setCell _ _ _).from _, .inl HX.out⟩
  case stop =>
    rintro D c pre W hD hSp hX hK
    rcases hX with h | ⟨rfl, hlen, bk, bl, hB⟩
    · exact absurd hSp h
    · have h130 : 130 ≤ 2 ^ (bitsL m).length := by
        obtain ⟨t, ht⟩ := hSp
        rw [← subsL_length, ← ht, List.length_append]; omega
      have h7 : 7 < (bitsL m).length := by
        rcases Nat.lt_or_ge 7 (bitsL m).length with h | h
        · exact h
        · have : 2 ^ (bitsL m).length ≤ 2 ^ 7 := Nat.pow_le_pow_right (by decide) h
          omega
      have hc := hcommon D 130 (subK m 129) W hD (by have := HM.out; omega) (.inl ⟨h7, rfl⟩) bk bl hB hK
      gi_wp2
      exact hc
  case done =>
    rintro D ys W hD rfl ⟨⟨bk, bl, _, h9⟩, hB⟩ hK
    rw [subsL_length] at bk bl h9
    have h7 : (bitsL m).length ≤ 7 := by
      rcases Nat.lt_or_ge 7 (bitsL m).length with h | h
      · have : 2 ^ 8 ≤ 2 ^ (bitsL m).length := Nat.pow_le_pow_right (by decide) h
        omega
      · exact h
    have hp := Nat.two_pow_pos (bitsL m).length
    exact hcommon D _ _ W hD (by have := HM.out; omega) (.inr ⟨h7, rfl, (subK_eq_last hm (by omega)).2 (by omega)⟩) bk bl hB hK
end Go.Proofs.YtlgbpimmhnncgaaDoor.Msk
