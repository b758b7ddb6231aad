/-
  The document's list of a word's first subsets walked.
-/
import Derived.Test.YtlgbpimmhnncgaaDoorMsub
import Derived.Test.YtlgbpimmhnncgaaDoorAwk4
namespace Go.Proofs.YtlgbpimmhnncgaaDoor.Msk
open Go Go.Lib Go.RowKit

/-- The first subsets. -/
def subsT (m k : Nat) : List Nat := (List.range k).map (subK m)
theorem subsT_length (m k : Nat) : (subsT m k).length = k := by simp [subsT]
theorem subsT_succ (m k : Nat) : subsT m (k + 1) = subsT m k ++ [subK m k] := by simp [subsT, List.range_succ]

theorem ownsRow_lower {w : World} {B B' : Nat} {e : TypeId} {v : Value} {n : Nat} {xs : List Value} (h : w.ownsRow B e 1 v n xs) (hB : B' ≤ B) : w.ownsRow B' e 1 v n xs :=
  ⟨h.1, h.2.imp id fun ⟨g, cap, cur, h1, h2, h3⟩ => ⟨g, cap, cur, h1, Nat.le_trans hB h2, h3⟩⟩

set_option maxHeartbeats 2000000 in
theorem refSub_core (m most N : Nat) (hm : m < 18446744073709551616) (hmo : most ≤ 1048576) (w : World) (HN : Aside (N = 2 ^ (bitsL m).length)) :
    Calls Tryd.prog 20 #[.int .u64 m, .int .i64 (most : Int)] w fun e w' => ∃ v, e = .returned v ∧ w'.ownsRow w.heap.size 23 1 v (min most N) (wrds (subsT m (min most N))) ∧ Below w.heap.size w w' := by
  obtain ⟨i0, hi, hz0, hz1, hz2⟩ := info_parts infoU64
  have cL := refList_any m hm w
  have hbl := bitsL_le m
  have hp := Nat.two_pow_pos (bitsL m).length
  rw [← HN.out] at hp
  go_enter Tryd.func20, Tryd.ntmps20
  go_wp2_with fail
  refine cL.mono ?_
  rintro e w1 ⟨v, rfl, hown, hb1⟩
  obtain ⟨al, cl, rfl, _, ql⟩ := row_readsI hown
  have HB1 : Aside (Below w.heap.size w w1) := hb1
  have hs1 := hb1.size
  have HQ : Aside (ReadsI w1 al (ints (bitsL m))) := ql
  have HSB : Aside (∀ j k, sumL ((bitsL m).take j) k < 18446744073709551616) := fun j k => by
    have h1 := sumL_le ((bitsL m).take j) ((bitsL m).drop j) k
    rw [List.take_append_drop, sum_subK] at h1
    have := subK_lt m k
    omega
  have HSS : Aside (∀ j k, (h : j < (bitsL m).length) → sumL ((bitsL m).take (j + 1)) k = sumL ((bitsL m).take j) k + k / 2 ^ j % 2 * 2 ^ (bitsL m)[j]) := fun j k h => by
    rw [List.take_succ_eq_append_getElem h, sumL_snoc, List.length_take, Nat.min_eq_left (by omega)]
  have HSK : Aside (∀ k, sumL (bitsL m) k = subK m k) := fun k => sum_subK m k
  have HI : Aside (∀ j, (h : j < (bitsL m).length) → (bitsL m)[j] < 64) := fun j h => (mem_bitsL.1 (List.getElem_mem h)).1
  clear hown hb1 ql cL
  generalize bitsL m = L at *
  go_wp2_with fail
  go_loopg [6, 7] most (fun g1 ov kv wr => ∃ (k : Nat), kv = .int .i64 (k : Int) ∧ k ≤ most ∧ k ≤ N ∧ most - k ≤ g1 ∧ wr.ownsRow w1.heap.size 23 1 ov k (wrds (subsT m k)) ∧ Aside (Below w1.heap.size w1 wr))
  case atStart => exact ⟨0, rfl, Nat.zero_le _, Nat.zero_le _, by omega, World.ownsRow_nil _ _ _ _, Below.refl _ _⟩
  case round =>
    obtain ⟨k, rfl, hk, hkN, hg, hownk, HBk⟩ := hrel
    by_cases hlt : k < most
    · have hltz : (k : Int) < (most : Int) := by omega
      go_wp2_with fail
      go_loopg [8, 9, 10] L.length (fun g1 nv rv iv wr => ∃ (j : Nat), iv = .int .i64 (j : Int) ∧ j ≤ L.length ∧ L.length - j ≤ g1 ∧ nv = .int .u64 (sumL (L.take j) k : Int) ∧ rv = .int .i64 ((k / 2 ^ j : Nat) : Int) ∧ Aside (wr.ownsRow w1.heap.size 23 1 u6 k (wrds (subsT m k))) ∧ Aside (Below w1.heap.size w1 wr))
      case atStart => exact ⟨0, rfl, Nat.zero_le _, by omega, rfl, by simp, hownk, HBk⟩
      case round =>
        obtain ⟨j, rfl, hj, hgj, rfl, rfl, HOj, HBj⟩ := hrel
        by_cases hjt : j < L.length
        · have hjz : (j : Int) < (L.length : Int) := by omega
          obtain ⟨g, o, rfl, _, e1⟩ := (HQ.out.below HBj.out) j (by rw [ints_length]; exact hjt)
          have e1' : (ints L)[j]?.getD 0 = ((L[j] : Nat) : Int) := by simp [ints, List.getElem?_eq_getElem hjt]
          rw [e1'] at e1
          clear e1'
          have HSj : Aside (sumL (L.take (j + 1)) k = sumL (L.take j) k + k / 2 ^ j % 2 * 2 ^ L[j]) := HSS.out j k hjt
          have hlt1 := HSB.out (j + 1) k
          rw [HSj.out] at hlt1
          have hlt0 := HSB.out j k
          have HQJ : Aside (k / 2 ^ (j + 1) = k / 2 ^ j / 2) := by show _ = _; rw [Nat.pow_succ, Nat.div_div_eq_div_mul]
          have hkq : k / 2 ^ j ≤ 1048576 := Nat.le_trans (Nat.div_le_self _ _) (by omega)
          have cB := refBit_any L[j] (HI.out j hjt) wr
          generalize 2 ^ L[j] = p at *
          generalize L[j] = z at *
          generalize sumL (L.take j) k = S at *
          generalize k / 2 ^ j = q at *
          have eq : IntKind.i64.wrap ((q : Int).tdiv 2) = ((q / 2 : Nat) : Int) := by
            rw [Int.tdiv_eq_ediv_of_nonneg (by omega), IntKind.wrap_i64]; omega
          by_cases ho : q % 2 = 1
          · have er : ((q : Int).tmod 2 == 1) = true := by rw [Int.tmod_eq_emod_of_nonneg (by omega), beq_iff_eq]; omega
            rw [ho, Nat.one_mul] at hlt1
            have es : IntKind.u64.wrap ((S : Int) + (p : Int)) = ((S + p : Nat) : Int) := by rw [IntKind.wrap_u64]; omega
            go_wp2_with (go_at_call 23; refine cB.mono ?_; rintro e w' ⟨rfl, hw⟩; obtain rfl := hw.symm)
            go_roundg (L.length - (j + 1))
            case measure => omega
            case rel => exact ⟨j + 1, by go_num, by omega, Nat.le_refl _, by rw [HSj.out, ho, Nat.one_mul, Int.natCast_add], by rw [HQJ.out]; go_num, HOj, HBj⟩
          · have er : ((q : Int).tmod 2 == 1) = false := by rw [Int.tmod_eq_emod_of_nonneg (by omega), beq_eq_false_iff_ne]; omega
            have ho' : q % 2 = 0 := by omega
            go_wp2
            go_roundg (L.length - (j + 1))
            case measure => omega
            case rel => exact ⟨j + 1, by go_num, by omega, Nat.le_refl _, by rw [HSj.out, ho', Nat.zero_mul, Nat.add_zero], by rw [HQJ.out]; go_num, HOj, HBj⟩
        · have hjz : ¬ (j : Int) < (L.length : Int) := by omega
          obtain rfl : j = L.length := by omega
          rw [List.take_length, HSK.out, ← HN.out]
          have hsl := subK_lt m k
          have HSU : Aside (subsT m (k + 1) = subsT m k ++ [subK m k]) := subsT_succ m k
          have HSl : Aside ((subsT m k).length = k) := subsT_length m k
          by_cases hkn : k < N
          · have hq0 : k / N = 0 := Nat.div_eq_of_lt hkn
            rw [hq0]
            have hownj := HOj.out
            have hws := HBj.out.size
            have HLW : Aside (wrds (subsT m (k + 1)) = wrds (subsT m k) ++ [.int .u64 (subK m k : Int)]) := by show _ = _; rw [HSU.out, wrds_snoc]
            generalize subK m k = S at *
            go_wp2_with (at_builtin; refine wpList_append_own _ rfl _ _ 38 rfl w1.heap.size 23 i0 (.int .u64 0) 1 8 Tryd.underlying38 hi hz0 hz1 hz2 rfl (by decide) _ _ _ rfl (hownj.alloc _) ⟨wr.heap.size, 0, none⟩ 1 1 [.int .u64 (S : Int)] rfl rfl (cell_one_new _ _ _) (by simp [Value.oneCell']) (by unfold maxLen; omega) (by omega) (by simp; omega) ?_)
            intro v' w5 hown' hgrow _
            have hB5 : Below w1.heap.size w1 w5 := Below.grown (HBj.out.alloc hws _) hgrow (by simp; omega) (fun j hj => (hownj.lt _ hj).1)
            obtain ⟨g', cap', rfl⟩ := ownsRow_succ hown'
            have hown3 : w5.ownsRow w1.heap.size 23 1 (.slice (some ⟨g', 0, none⟩) (k + 1) cap') (k + 1) (wrds (subsT m (k + 1))) := by
              rw [HLW.out]; exact hown'
            clear hown' hgrow hownj
            go_wp2
            go_roundg (most - (k + 1))
            case measure => omega
            case rel => exact ⟨k + 1, by go_num, by omega, by omega, Nat.le_refl _, hown3, hB5⟩
          · obtain rfl : k = N := by omega
            rw [Nat.div_self hp]
            go_wp2
            go_ret
            refine ⟨_, rfl, ?_, HB1.out.trans (HBj.out.mono HB1.out.size)⟩
            exact ownsRow_lower HOj.out hs1
    · have hltz : ¬ (k : Int) < (most : Int) := by omega
      obtain rfl : k = most := by omega
      go_wp2
      go_ret
      refine ⟨_, rfl, ?_, HB1.out.trans (HBk.out.mono HB1.out.size)⟩
      exact ownsRow_lower hownk hs1
theorem refSub_any (m most : Nat) (hm : m < 18446744073709551616) (hmo : most ≤ 1048576) (w : World) :
    Calls Tryd.prog 20 #[.int .u64 m, .int .i64 (most : Int)] w fun e w' => ∃ v, e = .returned v ∧ w'.ownsRow w.heap.size 23 1 v (min most (2 ^ (bitsL m).length)) (wrds (subsT m (min most (2 ^ (bitsL m).length)))) ∧ Below w.heap.size w w' :=
  refSub_core m most _ hm hmo w rfl
end Go.Proofs.YtlgbpimmhnncgaaDoor.Msk
