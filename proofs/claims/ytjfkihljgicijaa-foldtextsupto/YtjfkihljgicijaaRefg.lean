/-
  The document's Words walked: the same words, in a new list, for every text of up to 16777216 bytes.
-/
import Derived.Test.YtjfkihljgicijaaWrd
import Derived.Test.YtjfkihljgicijaaRefw
import Derived.Test.YtjfkihljgicijaaRefc
namespace Go.Proofs.Ytjfkihljgicijaa.Utf
open Go Go.Lib Go.RowKit

theorem rune_bd (s : ByteArray) (pos : Nat) : (Utf8.decode s pos).1 ≤ 1114111 := by
  rw [decode_at]
  unfold decodeN
  repeat' split
  all_goals (simp only; omega)

set_option maxHeartbeats 2000000 in
theorem refWords_any (s : ByteArray) (w : World) (hs : s.size ≤ 16777216) :
    Calls Try.prog 19 #[.string s] w fun e w' => ∃ v, e = .returned v ∧ w'.ownsRow w.heap.size 9 1 v (wordsP s).length ((wordsT s).map Value.string) ∧ Below w.heap.size w w' := by
  obtain ⟨i0, hi, hz0, hz1, hz2⟩ := info_parts infoStr
  go_enter Try.func19, Try.ntmps19
  go_wp2
  go_loopw [3, 4, 5] (fun v sv av wr => ∃ (pre : List (Nat × Nat)) (pos b : Nat) (st : Option Nat), av = .int .i64 (pos : Int) ∧ sv = .int .i64 (stI st) ∧ wr.ownsRow w.heap.size 9 1 v pre.length ((wtx s pre).map Value.string) ∧ Below w.heap.size w wr ∧ Hid (pre ++ wordsFrom s b pos st = wordsP s) ∧ s.size ≤ pos + b ∧ pos ≤ s.size ∧ pre.length ≤ pos ∧ (∀ a, st = some a → a ≤ pos))
    (fun _ _ av _ => s.size - (RowKit.intOf av).toNat)
  case atStart => exact ⟨[], 0, s.size, none, rfl, rfl, World.ownsRow_nil _ _ _ _, Below.refl _ _, rfl, by omega, Nat.zero_le _, Nat.le_refl _, fun _ h => by cases h⟩
  case round =>
    obtain ⟨pre, pos, b, st, rfl, rfl, hown, hB, HP, hb, hps, hpl, hst⟩ := hrel
    by_cases hp : pos < s.size
    · have hwd := decode_fits s pos hp
      obtain ⟨b, rfl⟩ : ∃ f', b = f' + 1 := ⟨b - 1, by omega⟩
      have cN := fun w => refNext_any s pos w (by omega)
      rw [nextR_in hp, nextW_in hp] at cN
      have hrb := rune_bd s pos
      have cC := fun W => refClass_any ((Utf8.decode s pos).1 : Int) W (by omega) (by omega)
      have HS := @wordsFrom_step s b pos st hp
      have HQ := @wordsFrom_blank s b pos st hp
      have hc3 := @cls_3 ((Utf8.decode s pos).1 : Int)
      generalize hc : (Utf8.decode s pos).1 = c at *
      generalize hd : (Utf8.decode s pos).2 = d at *
      clear hc hd
      have hz := hB.size
      by_cases hBl : isB (c : Int)
      · rw [hc3.2 hBl] at cC
        rw [HQ hBl] at HP
        clear HS HQ hc3
        cases st with
        | none =>
          have HP2 : Hid (pre ++ wordsFrom s b (pos + d) none = wordsP s) := HP
          simp only [stI]
          clear HP
          go_wp2_with (first
            | (go_at_call 33; refine (cN _).mono ?_; rintro e w' ⟨rfl, hw⟩; obtain rfl := hw.symm)
            | (go_at_call 10; refine (cC _).mono ?_; rintro e w' ⟨rfl, hw⟩; obtain rfl := hw.symm))
          go_roundw
          case rel => exact ⟨_, pos + d, b, none, by go_num, rfl, hown, hB, HP2, by omega, by omega, by omega, fun _ h => by cases h⟩
          case measure => simp [RowKit.intOf]; omega
        | some a =>
          have hap := hst a rfl
          have HP2 : Hid ((pre ++ [(a, pos)]) ++ wordsFrom s b (pos + d) none = wordsP s) := by
            have := HP.out
            show _ = _
            rw [List.append_assoc]; exact this
          have hsl := fun w z hz => slice_mid w s a pos z hz hap (by omega)
          have HX : Hid ((wtx s (pre ++ [(a, pos)])).map Value.string = (wtx s pre).map Value.string ++ [.string (s.extract a pos)]) := wtx_snoc s pre a pos
          simp only [stI]
          generalize s.extract a pos = X at *
          clear HP
          go_wp2_with (first
            | (go_at_call 33; refine (cN _).mono ?_; rintro e w' ⟨rfl, hw⟩; obtain rfl := hw.symm)
            | (go_at_call 10; refine (cC _).mono ?_; rintro e w' ⟨rfl, hw⟩; obtain rfl := hw.symm)
            | (rw [hsl _ _ rfl])
            | (at_builtin; refine wpList_append_own _ rfl _ _ 27 rfl w.heap.size 9 i0 (.string ⟨#[]⟩) 1 16 Try.underlying27 hi hz0 hz1 hz2 rfl (by decide) _ _ _ rfl (hown.alloc _) ⟨wr.heap.size, 0, none⟩ 1 1 [.string X] rfl rfl (cell_one_new _ _ _) (by simp [Value.oneCell']) (by unfold maxLen; omega) (by omega) (by simp; omega) ?_))
          intro v' w1 hown' hgrow _
          have hB3 : Below w.heap.size w w1 := Below.grown (hB.alloc (by omega) _) hgrow (by simp; omega) (fun j hj => (hown.lt _ hj).1)
          have hown3 : w1.ownsRow w.heap.size 9 1 v' (pre ++ [(a, pos)]).length ((wtx s (pre ++ [(a, pos)])).map Value.string) := by
            rw [HX.out, List.length_append]; exact hown'
          obtain ⟨g', cap', rfl⟩ := ownsRow_succ hown'
          clear hown' hgrow hown hB
          go_wp2
          go_roundw
          case rel => exact ⟨_, pos + d, b, none, by go_num, rfl, hown3, hB3, HP2, by omega, by omega, by simp; omega, fun _ h => by cases h⟩
          case measure => simp [RowKit.intOf]; omega
      · have hq : (cls (c : Int) == 3) = false := by rw [beq_eq_false_iff_ne]; exact fun h => hBl (hc3.1 h)
        rw [HS hBl] at HP
        clear HS HQ hc3
        generalize cls (c : Int) = C at *
        cases st with
        | none =>
          have HP2 : Hid (pre ++ wordsFrom s b (pos + d) (some pos) = wordsP s) := HP
          simp only [stI]
          clear HP
          go_wp2_with (first
            | (go_at_call 33; refine (cN _).mono ?_; rintro e w' ⟨rfl, hw⟩; obtain rfl := hw.symm)
            | (go_at_call 10; refine (cC _).mono ?_; rintro e w' ⟨rfl, hw⟩; obtain rfl := hw.symm))
          go_roundw
          case rel => exact ⟨_, pos + d, b, some pos, by go_num, rfl, hown, hB, HP2, by omega, by omega, by omega, fun a h => by cases h; omega⟩
          case measure => simp [RowKit.intOf]; omega
        | some a =>
          have hap := hst a rfl
          have HP2 : Hid (pre ++ wordsFrom s b (pos + d) (some a) = wordsP s) := HP
          simp only [stI]
          clear HP
          go_wp2_with (first
            | (go_at_call 33; refine (cN _).mono ?_; rintro e w' ⟨rfl, hw⟩; obtain rfl := hw.symm)
            | (go_at_call 10; refine (cC _).mono ?_; rintro e w' ⟨rfl, hw⟩; obtain rfl := hw.symm))
          go_roundw
          case rel => exact ⟨_, pos + d, b, some a, by go_num, rfl, hown, hB, HP2, by omega, by omega, by omega, fun a h => by cases h; omega⟩
          case measure => simp [RowKit.intOf]; omega
    · rw [wordsFrom_end s b pos st hp] at HP
      have hz := hB.size
      cases st with
      | none =>
        have HE : Hid (pre = wordsP s) := by
          have := HP.out
          rw [wEnd, List.append_nil] at this
          exact this
        simp only [stI]
        clear HP
        go_wp2
        go_ret
        refine ⟨_, rfl, ?_, hB⟩
        unfold wordsT
        rw [← HE.out]; exact hown
      | some a =>
        have hap := hst a rfl
        have HE : Hid (pre ++ [(a, s.size)] = wordsP s) := HP
        have HX : Hid ((wtx s (pre ++ [(a, s.size)])).map Value.string = (wtx s pre).map Value.string ++ [.string (s.extract a s.size)]) := wtx_snoc s pre a s.size
        simp only [stI]
        clear HP
        go_wp2_with (first
            | (at_builtin; refine wpList_append_own _ rfl _ _ 27 rfl w.heap.size 9 i0 (.string ⟨#[]⟩) 1 16 Try.underlying27 hi hz0 hz1 hz2 rfl (by decide) _ _ _ rfl (hown.alloc _) ⟨wr.heap.size, 0, none⟩ 1 1 [.string (s.extract a s.size)] rfl rfl (cell_one_new _ _ _) (by simp [Value.oneCell']) (by unfold maxLen; omega) (by omega) (by simp; omega) ?_))
        intro v' w1 hown' hgrow _
        have hB3 : Below w.heap.size w w1 := Below.grown (hB.alloc (by omega) _) hgrow (by simp; omega) (fun j hj => (hown.lt _ hj).1)
        have hown3 : w1.ownsRow w.heap.size 9 1 v' (wordsP s).length ((wordsT s).map Value.string) := by
          unfold wordsT
          rw [← HE.out, HX.out, List.length_append]; exact hown'
        obtain ⟨g', cap', rfl⟩ := ownsRow_succ hown'
        clear hown' hgrow hown hB
        go_wp2
        go_ret
        exact ⟨_, rfl, hown3, hB3⟩
end Go.Proofs.Ytjfkihljgicijaa.Utf
