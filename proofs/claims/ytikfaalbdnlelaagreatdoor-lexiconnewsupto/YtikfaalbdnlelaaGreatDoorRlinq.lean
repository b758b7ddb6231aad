/-
  The document's Lines walked: the same lines, in a new list, for every text of up to 16777216 bytes.
-/
import Derived.Test.YtikfaalbdnlelaaGreatDoorGli
import Derived.Shelf.Unicode.DecodeSlow
namespace Go.Proofs.YtikfaalbdnlelaaGreatDoor.Utf
open Go Go.Lib Go.RowKit
set_option maxRecDepth 100000

theorem mid_list (s : ByteArray) (a b : Nat) : (s.extract a b).data.toList = (s.data.toList.drop a).take (b - a) := by
  rw [← Lib.toList_data, Lib.extract_toList]
theorem byte_at (s : ByteArray) (i : Nat) (h : i < s.size) : s.data.toList[i]? = some (s[i]'h) := by
  rw [List.getElem?_eq_getElem (by rw [← Lib.size_eq]; exact h)]; rfl
theorem u8_ne {x : UInt8} {n : Nat} (hn : n < 256) (h : ¬ x.toNat = n) : x ≠ UInt8.ofNat n := by
  intro e
  apply h
  rw [e, UInt8.toNat_ofNat']; omega
theorem u8_eq {x : UInt8} {n : Nat} (h : x.toNat = n) : x = UInt8.ofNat n := by
  rw [← h]; simp

theorem slice_mid (w : World) (s : ByteArray) (a b : Nat) (z : Int) (hz : z = (b : Int)) (h1 : a ≤ b) (h2 : b ≤ s.size) :
    (Instr.slice 9 (.string s) (some (.int .i64 (a : Int))) (some (.int .i64 z)) none).run Tryz.prog w = .ok (.string (s.extract a b)) w := by
  subst hz
  have := run_slice_string (P := Tryz.prog) w 9 s .i64 .i64 (a : Int) (b : Int) Tryz.underlying9 (by omega) (by omega) (by omega)
  rw [Int.toNat_natCast, Int.toNat_natCast] at this
  exact this

set_option maxHeartbeats 2000000 in
theorem refLines_any (s : ByteArray) (w : World) (hs : s.size ≤ 16777216) :
    Calls Tryz.prog 17 #[.string s] w fun e w' => ∃ v, e = .returned v ∧ w'.ownsRow w.heap.size 9 1 v (lines s.data.toList).length ((txts (lines s.data.toList)).map Value.string) ∧ Below w.heap.size w w' := by
  obtain ⟨i0, hi, hz0, hz1, hz2⟩ := info_parts infoStr
  have hLs := Lib.size_eq s
  go_enter Tryz.func17, Tryz.ntmps17
  have HLs : Hid (s.size = s.data.toList.length) := hLs
  clear hLs
  go_wp2
  go_loopw [3, 4, 5] (fun v fv iv wr => ∃ (fr i : Nat) (pre : List (List UInt8)) (f : Nat), fv = .int .i64 (fr : Int) ∧ iv = .int .i64 (i : Int) ∧ fr ≤ i ∧ i ≤ s.size ∧ Hid (∀ j, fr ≤ j → j < i → s.data.toList[j]? ≠ some 10) ∧ wr.ownsRow w.heap.size 9 1 v pre.length ((txts pre).map Value.string) ∧ Below w.heap.size w wr ∧ Hid (pre ++ linesL f (s.data.toList.drop fr) = lines s.data.toList) ∧ s.size ≤ fr + f ∧ pre.length ≤ fr)
    (fun _ _ iv _ => s.size - (RowKit.intOf iv).toNat)
  case atStart => exact ⟨0, 0, [], s.size, rfl, rfl, Nat.le_refl _, Nat.zero_le _, fun j _ h => by omega, World.ownsRow_nil _ _ _ _, Below.refl _ _, by show _ = _; unfold lines; rw [← HLs.out]; rfl, by omega, Nat.le_refl _⟩
  case round =>
    obtain ⟨fr, i, pre, f, rfl, rfl, hfi, his, HN, hown, hB, HL, hf, hpl⟩ := hrel
    by_cases hlt : i < s.size
    · have hbi := byte_at s i hlt
      obtain ⟨x, hx⟩ : ∃ x, s[i]'hlt = x := ⟨_, rfl⟩
      rw [hx] at hbi
      have lx := x.toNat_lt
      by_cases hx10 : x.toNat = 10
      · have hq : ((x.toNat : Int) == 10) = true := by rw [beq_iff_eq]; omega
        have hxe : x = 10 := u8_eq hx10
        rw [hxe] at hbi
        obtain ⟨f, rfl⟩ : ∃ g, f = g + 1 := ⟨f - 1, by omega⟩
        have hidx : Lib.indexByte (s.data.toList.drop fr) 10 = ((i - fr : Nat) : Int) := by
          apply index_first
          · intro j hj
            rw [List.getElem?_drop]
            exact HN.out (fr + j) (by omega) (by omega)
          · rw [List.getElem?_drop, show fr + (i - fr) = i by omega]; exact hbi
        have hnil : s.data.toList.drop fr ≠ [] := by
          intro e
          have := congrArg List.length e
          rw [List.length_drop, ← HLs.out, List.length_nil] at this
          omega
        have hstep := linesL_step (f := f) hnil hidx
        rw [List.drop_drop, show fr + (i - fr + 1) = i + 1 by omega] at hstep
        have hlen : ((s.data.toList.drop fr).take (i - fr)).length = i - fr := by rw [List.length_take, List.length_drop, ← HLs.out]; omega
        have HN2 : Hid (∀ j, i + 1 ≤ j → j < i + 1 → s.data.toList[j]? ≠ some 10) := fun j h1 h2 => by omega
        -- which end
        have key : ∃ to : Nat, fr ≤ to ∧ to ≤ i ∧ Lib.trimSuffix ((s.data.toList.drop fr).take (i - fr)) [13] = (s.extract fr to).data.toList ∧
            ((to = i ∧ (fr = i ∨ (∃ h : i - 1 < s.size, fr < i ∧ ((s[i - 1]'h).toNat : Int) ≠ 13))) ∨ (to + 1 = i ∧ fr < i ∧ ∃ h : i - 1 < s.size, ((s[i - 1]'h).toNat : Int) = 13)) := by
          by_cases h1 : fr = i
          · refine ⟨i, hfi, Nat.le_refl _, ?_, .inl ⟨rfl, .inl h1⟩⟩
            rw [mid_list, trim_no (fun m hm => by rw [hlen] at hm; omega)]
          · have h2 : i - 1 < s.size := by omega
            have hb1 := byte_at s (i - 1) h2
            by_cases h3 : (s[i - 1]'h2).toNat = 13
            · refine ⟨i - 1, by omega, by omega, ?_, .inr ⟨by omega, by omega, h2, by omega⟩⟩
              rw [u8_eq h3] at hb1
              rw [mid_list, trim_yes (m := i - fr - 1) (by rw [hlen]; omega) (by rw [List.getElem?_take, if_pos (by omega), List.getElem?_drop, show fr + (i - fr - 1) = i - 1 by omega]; exact hb1), List.take_take, show min (i - fr - 1) (i - fr) = i - 1 - fr by omega]
            · refine ⟨i, hfi, Nat.le_refl _, ?_, .inl ⟨rfl, .inr ⟨h2, by omega, by omega⟩⟩⟩
              rw [mid_list, trim_no]
              intro m hm hc
              rw [hlen] at hm
              rw [List.getElem?_take, if_pos (by omega), List.getElem?_drop, show fr + m = i - 1 by omega, hb1] at hc
              exact u8_ne (by omega) h3 (Option.some.inj hc)
        obtain ⟨to, hto1, hto2, htr, hways⟩ := key
        rw [htr] at hstep
        have HL2 : Hid ((pre ++ [(s.extract fr to).data.toList]) ++ linesL f (s.data.toList.drop (i + 1)) = lines s.data.toList) := by
          have := HL.out
          rw [hstep] at this
          show _ = _
          rw [List.append_assoc]; exact this
        clear HL hstep htr hnil hidx hlen HN hbi hx10
        have HX : Hid (txt (s.extract fr to).data.toList = s.extract fr to) := txt_self _
        rcases hways with ⟨rfl, hfe | ⟨h2, hfl, h13⟩⟩ | ⟨hte, hfl, h2, h13⟩
        · subst hfe
          obtain ⟨X, hX⟩ : ∃ X, X = (s.extract fr fr).data.toList := ⟨_, rfl⟩
          rw [← hX] at HL2 HX
          have HX : Hid (txt X = ByteArray.empty) := by
            show _ = _
            rw [hX, mid_list, Nat.sub_self, List.take_zero]; rfl
          clear hX
          go_wp2_with (at_builtin; refine wpList_append_own _ rfl _ _ 22 rfl w.heap.size 9 i0 (.string ⟨#[]⟩) 1 16 Tryz.underlying22 hi hz0 hz1 hz2 rfl (by decide) _ _ _ rfl (hown.alloc _) ⟨wr.heap.size, 0, none⟩ 1 1 [.string (ByteArray.empty)] rfl rfl (cell_one_new _ _ _) (by simp [Value.oneCell']) (by unfold maxLen; omega) (by omega) (by have := hB.size; simp; omega) ?_)
          intro v' w3 hown' hgrow _
          have hB3 : Below w.heap.size w w3 := Below.grown (hB.alloc (by have := hB.size; omega) _) hgrow (by have := hB.size; simp; omega) (fun j hj => (hown.lt _ hj).1)
          have hown3 : w3.ownsRow w.heap.size 9 1 v' (pre ++ [X]).length ((txts (pre ++ [X])).map Value.string) := by
            rw [txts_map, List.length_append, HX.out]; exact hown'
          obtain ⟨g', cap', rfl⟩ := ownsRow_succ hown'
          clear hown' hgrow hown hB
          go_wp2
          go_roundw
          case rel => exact ⟨fr + 1, fr + 1, _, f, by go_num, by go_num, Nat.le_refl _, by omega, HN2, hown3, hB3, HL2, by omega, by rw [List.length_append]; simp; omega⟩
          case measure => simp [RowKit.intOf]; omega
        · have hq13 : ((((s[to - 1]'h2).toNat : Nat) : Int) == 13) = false := by rw [beq_eq_false_iff_ne]; exact h13
          have hs1 := Utf8W.get!_of_lt s (to - 1) h2
          obtain ⟨k, rfl⟩ : ∃ k, to = k + 1 := ⟨to - 1, by omega⟩
          obtain ⟨y, hy⟩ : ∃ y, s[k]'(by omega) = y := ⟨_, rfl⟩
          have hq13' : ((y.toNat : Int) == 13) = false := by rw [← hy]; exact hq13
          have ly := y.toNat_lt
          obtain ⟨X, hX⟩ : ∃ X, X = (s.extract fr (k + 1)).data.toList := ⟨_, rfl⟩
          rw [← hX] at HL2 HX
          clear hX hs1 hq13 h13
          have hsl : ∀ w, (Instr.slice 9 (.string s) (some (.int .i64 (fr : Int))) (some (.int .i64 ((k : Int) + 1))) none).run Tryz.prog w = .ok (.string (s.extract fr (k + 1))) w := fun w => slice_mid w s fr (k + 1) _ rfl (by omega) (by omega)
          go_wp2_with (at_builtin; refine wpList_append_own _ rfl _ _ 22 rfl w.heap.size 9 i0 (.string ⟨#[]⟩) 1 16 Tryz.underlying22 hi hz0 hz1 hz2 rfl (by decide) _ _ _ rfl (hown.alloc _) ⟨wr.heap.size, 0, none⟩ 1 1 [.string (s.extract fr (k + 1))] rfl rfl (cell_one_new _ _ _) (by simp [Value.oneCell']) (by unfold maxLen; omega) (by omega) (by have := hB.size; simp; omega) ?_)
          intro v' w3 hown' hgrow _
          have hB3 : Below w.heap.size w w3 := Below.grown (hB.alloc (by have := hB.size; omega) _) hgrow (by have := hB.size; simp; omega) (fun j hj => (hown.lt _ hj).1)
          have hown3 : w3.ownsRow w.heap.size 9 1 v' (pre ++ [X]).length ((txts (pre ++ [X])).map Value.string) := by
            rw [txts_map, List.length_append, HX.out]; exact hown'
          obtain ⟨g', cap', rfl⟩ := ownsRow_succ hown'
          clear hown' hgrow hown hB
          go_wp2
          go_roundw
          case rel => exact ⟨k + 1 + 1, k + 1 + 1, _, f, by go_num, by go_num, Nat.le_refl _, by omega, HN2, hown3, hB3, HL2, by omega, by rw [List.length_append]; simp; omega⟩
          case measure => simp [RowKit.intOf]; omega
        · obtain rfl := hte
          have hq13 : ((((s[to + 1 - 1]'h2).toNat : Nat) : Int) == 13) = true := by rw [beq_iff_eq]; exact h13
          obtain ⟨y, hy⟩ : ∃ y, s[to]'(by omega) = y := ⟨_, rfl⟩
          have hq13' : ((y.toNat : Int) == 13) = true := by rw [← hy]; exact hq13
          have ly := y.toNat_lt
          obtain ⟨X, hX⟩ : ∃ X, X = (s.extract fr to).data.toList := ⟨_, rfl⟩
          rw [← hX] at HL2 HX
          clear hX hq13 h13
          have hsl : ∀ w, (Instr.slice 9 (.string s) (some (.int .i64 (fr : Int))) (some (.int .i64 (to : Int))) none).run Tryz.prog w = .ok (.string (s.extract fr to)) w := fun w => slice_mid w s fr to _ rfl (by omega) (by omega)
          go_wp2_with (at_builtin; refine wpList_append_own _ rfl _ _ 22 rfl w.heap.size 9 i0 (.string ⟨#[]⟩) 1 16 Tryz.underlying22 hi hz0 hz1 hz2 rfl (by decide) _ _ _ rfl (hown.alloc _) ⟨wr.heap.size, 0, none⟩ 1 1 [.string (s.extract fr to)] rfl rfl (cell_one_new _ _ _) (by simp [Value.oneCell']) (by unfold maxLen; omega) (by omega) (by have := hB.size; simp; omega) ?_)
          intro v' w3 hown' hgrow _
          have hB3 : Below w.heap.size w w3 := Below.grown (hB.alloc (by have := hB.size; omega) _) hgrow (by have := hB.size; simp; omega) (fun j hj => (hown.lt _ hj).1)
          have hown3 : w3.ownsRow w.heap.size 9 1 v' (pre ++ [X]).length ((txts (pre ++ [X])).map Value.string) := by
            rw [txts_map, List.length_append, HX.out]; exact hown'
          obtain ⟨g', cap', rfl⟩ := ownsRow_succ hown'
          clear hown' hgrow hown hB
          go_wp2
          go_roundw
          case rel => exact ⟨to + 1 + 1, to + 1 + 1, _, f, by go_num, by go_num, Nat.le_refl _, by omega, HN2, hown3, hB3, HL2, by omega, by rw [List.length_append]; simp; omega⟩
          case measure => simp [RowKit.intOf]; omega
      · have hq : ((x.toNat : Int) == 10) = false := by rw [beq_eq_false_iff_ne]; omega
        have hq2 : ((x.toNat : Int) != 10) = true := by rw [bne_iff_ne]; omega
        have HN2 : Hid (∀ j, fr ≤ j → j < i + 1 → s.data.toList[j]? ≠ some 10) := fun j h1 h2 => by
          by_cases e : j = i
          · subst e
            rw [hbi]
            intro q
            exact u8_ne (by omega) hx10 (Option.some.inj q)
          · exact HN.out j h1 (by omega)
        clear HN hbi hx10
        go_wp2
        go_roundw
        case rel => exact ⟨fr, i + 1, pre, f, rfl, by go_num, by omega, by omega, HN2, hown, hB, HL, hf, hpl⟩
        case measure => simp [RowKit.intOf]; omega
    · by_cases hfs : fr < s.size
      · obtain ⟨f, rfl⟩ : ∃ g, f = g + 1 := ⟨f - 1, by omega⟩
        have hnil : s.data.toList.drop fr ≠ [] := by
          intro e
          have := congrArg List.length e
          rw [List.length_drop, ← HLs.out, List.length_nil] at this
          omega
        have hnv : Lib.indexByte (s.data.toList.drop fr) 10 = -1 := by
          apply index_never
          intro j hj
          rw [List.length_drop, ← HLs.out] at hj
          rw [List.getElem?_drop]
          exact HN.out (fr + j) (by omega) (by omega)
        have HE : Hid (pre ++ [(s.extract fr s.size).data.toList] = lines s.data.toList) := by
          have := HL.out
          rw [linesL_last hnil hnv] at this
          show _ = _
          rw [tail_list]; exact this
        have HX : Hid (txt (s.extract fr s.size).data.toList = s.extract fr s.size) := txt_self _
        obtain ⟨X, hX⟩ : ∃ X, X = (s.extract fr s.size).data.toList := ⟨_, rfl⟩
        rw [← hX] at HE HX
        clear hX hnv hnil HL HN
        go_wp2_with (at_builtin; refine wpList_append_own _ rfl _ _ 22 rfl w.heap.size 9 i0 (.string ⟨#[]⟩) 1 16 Tryz.underlying22 hi hz0 hz1 hz2 rfl (by decide) _ _ _ rfl (hown.alloc _) ⟨wr.heap.size, 0, none⟩ 1 1 [.string (s.extract fr s.size)] rfl rfl (cell_one_new _ _ _) (by simp [Value.oneCell']) (by unfold maxLen; omega) (by omega) (by have := hB.size; simp; omega) ?_)
        intro v' w3 hown' hgrow _
        have hB3 : Below w.heap.size w w3 := Below.grown (hB.alloc (by have := hB.size; omega) _) hgrow (by have := hB.size; simp; omega) (fun j hj => (hown.lt _ hj).1)
        have hown3 : w3.ownsRow w.heap.size 9 1 v' (pre ++ [X]).length ((txts (pre ++ [X])).map Value.string) := by
          rw [txts_map, List.length_append, HX.out]; exact hown'
        obtain ⟨g', cap', rfl⟩ := ownsRow_succ hown'
        clear hown' hgrow hown hB
        go_wp2
        go_ret
        exact ⟨_, rfl, HE.out ▸ hown3, hB3⟩
      · have HE : Hid (pre = lines s.data.toList) := by
          have := HL.out
          rw [List.drop_of_length_le (by rw [← HLs.out]; omega), linesL_nil, List.append_nil] at this
          exact this
        clear HL HN
        go_wp2
        go_ret
        exact ⟨_, rfl, HE.out ▸ hown, hB⟩
end Go.Proofs.YtikfaalbdnlelaaGreatDoor.Utf
