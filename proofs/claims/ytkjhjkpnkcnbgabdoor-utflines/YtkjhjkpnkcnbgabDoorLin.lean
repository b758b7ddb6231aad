/-
  The program's Lines walked: the lines of the text, in a new list, for every text of up to 16777216 bytes.
-/
import Derived.Test.YtkjhjkpnkcnbgabDoorLinm
import Derived.Test.YtkjhjkpnkcnbgabDoorSamet
import Derived.Test.YtkjhjkpnkcnbgabDoorSct
import Derived.Shelf.Strings.Search2
import Derived.Maps.AppendAt
import Derived.RangeFuncBox
namespace Go.Proofs.YtkjhjkpnkcnbgabDoor.Utf
open Go Go.Lib Go.RowKit Go.Shelf

theorem infoStr : (Tryd.prog.info? 9).map (fun i => (i.zero, i.size, i.bytes)) = some (some (.string ⟨#[]⟩), 1, 16) := by kernel_rfl

set_option maxHeartbeats 1000000 in
theorem liteCut_any (s : ByteArray) (w : World) (hs : s.size ≤ 16777216) :
    Calls Tryd.prog 13 #[.string s, .string ⟨#[10]⟩] w fun e w' =>
      ((Lib.indexByte s.data.toList 10 = -1 ∧ e = .returned (.tuple #[.string s, .string ⟨#[]⟩, .bool false])) ∨
       (∃ i : Nat, Lib.indexByte s.data.toList 10 = (i : Int) ∧ i < s.size ∧ e = .returned (.tuple #[.string (s.extract 0 i), .string (s.extract (i + 1) s.size), .bool true]))) ∧ Below w.heap.size w w' := by
  have cI := Tryd.stringslite_Index_one s 10 w
  rcases index_cases s.data.toList with h | ⟨i, hi, hl⟩
  · rw [h] at cI
    have H : Hid (Lib.indexByte s.data.toList 10 = -1) := h
    clear h
    go_enter Tryd.func13, Tryd.ntmps13
    go_wp2_with fail
    refine cI.mono ?_
    rintro e w1 ⟨rfl, rfl⟩
    go_wp2
    go_ret3
    exact ⟨.inl ⟨H.out, rfl⟩, Below.refl _ _⟩
  · rw [hi] at cI
    have H : Hid (Lib.indexByte s.data.toList 10 = (i : Int)) := hi
    have hl2 : i < s.size := by rw [Lib.size_eq]; exact hl
    clear hi hl
    go_enter Tryd.func13, Tryd.ntmps13
    go_wp2_with fail
    refine cI.mono ?_
    rintro e w1 ⟨rfl, rfl⟩
    go_wp2
    go_quiet (fail)
    go_wp2
    go_ret3
    exact ⟨.inr ⟨i, H.out, hl2, rfl⟩, below_drewN (Below.refl _ _) _⟩

set_option maxHeartbeats 1000000 in
theorem cutNl_any (s : ByteArray) (w : World) (hs : s.size ≤ 16777216) :
    Calls Tryd.prog 10 #[.string s, .string ⟨#[10]⟩] w fun e w' =>
      ((Lib.indexByte s.data.toList 10 = -1 ∧ e = .returned (.tuple #[.string s, .string ⟨#[]⟩, .bool false])) ∨
       (∃ i : Nat, Lib.indexByte s.data.toList 10 = (i : Int) ∧ i < s.size ∧ e = .returned (.tuple #[.string (s.extract 0 i), .string (s.extract (i + 1) s.size), .bool true]))) ∧ Below w.heap.size w w' := by
  have cL := liteCut_any s w hs
  go_enter Tryd.func10, Tryd.ntmps10
  go_wp2_with fail
  refine cL.mono ?_
  rintro e w1 ⟨⟨h, rfl⟩ | ⟨i, hi, hl, rfl⟩, hb⟩
  · have H : Hid (Lib.indexByte s.data.toList 10 = -1) := h
    clear h
    go_wp2
    go_ret3
    exact ⟨.inl ⟨H.out, rfl⟩, hb⟩
  · have H : Hid (Lib.indexByte s.data.toList 10 = (i : Int)) := hi
    clear hi
    go_wp2
    go_ret3
    exact ⟨.inr ⟨i, H.out, hl, rfl⟩, hb⟩

theorem empty_size : (⟨#[]⟩ : ByteArray).size = 0 := rfl
theorem head_list (s : ByteArray) (i : Nat) : (s.extract 0 i).data.toList = s.data.toList.take i := by
  rw [← Lib.toList_data, Lib.extract_toList]; simp
theorem tail_list (s : ByteArray) (i : Nat) : (s.extract i s.size).data.toList = s.data.toList.drop i := by
  rw [← Lib.toList_data, Lib.extract_toList]
  rw [List.take_of_length_le (by rw [List.length_drop, ← Lib.size_eq]; omega)]
theorem txts_map (ls : List (List UInt8)) (l : List UInt8) : (txts (ls ++ [l])).map Value.string = (txts ls).map Value.string ++ [.string (txt l)] := by rw [txts_snoc]; simp
theorem ownsRow_under {W W' : World} {B : Nat} {e : TypeId} {sz : Nat} {v : Value} {n : Nat} {xs : List Value} (h : W.ownsRow B e sz v n xs) (hb : Below W.heap.size W W') : W'.ownsRow B e sz v n xs := by
  refine ⟨h.1, ?_⟩
  rcases h.2 with hn | ⟨g, cap, cur, hv, hbg, hg, rest⟩
  · exact .inl hn
  · exact .inr ⟨g, cap, cur, hv, hbg, (hb.block g (Array.getElem?_eq_some_iff.1 hg).1).trans hg, rest⟩

set_option maxHeartbeats 2000000 in
theorem lines_any (s : ByteArray) (w : World) (hs : s.size ≤ 16777216) :
    Calls Tryd.prog 5 #[.string s] w fun e w' => ∃ v, e = .returned v ∧ w'.ownsRow w.heap.size 9 1 v (lines s.data.toList).length ((txts (lines s.data.toList)).map Value.string) ∧ Below w.heap.size w w' := by
  obtain ⟨i0, hi, hz0, hz1, hz2⟩ := info_parts infoStr
  go_enter Tryd.func5, Tryd.ntmps5
  go_wp2
  go_loopw [0, 3] (fun tv v wr => ∃ (t : ByteArray) (pre : List (List UInt8)) (f : Nat), tv = .string t ∧ wr.ownsRow w.heap.size 9 1 v pre.length ((txts pre).map Value.string) ∧ Below w.heap.size w wr ∧ Hid (pre ++ linesL f t.data.toList = lines s.data.toList) ∧ t.size ≤ f ∧ pre.length + t.size ≤ s.size)
    (fun tv _ _ => match tv with | .string t => t.size | _ => 0)
  case atStart => exact ⟨s, [], s.size, rfl, World.ownsRow_nil _ _ _ _, Below.refl _ _, by show _ = _; unfold lines; rw [← Lib.size_eq]; rfl, Nat.le_refl _, by simp⟩
  case round =>
    obtain ⟨t, pre, f, rfl, hown, hB, HL, hf, hpl⟩ := hrel
    by_cases ht : t.size = 0
    · have htl : t.data.toList = [] := List.eq_nil_of_length_eq_zero (by rw [← Lib.size_eq]; exact ht)
      have HE : Hid (pre = lines s.data.toList) := by
        have := HL.out
        rw [htl, linesL_nil, List.append_nil] at this
        exact this
      have hne : t.toList = [] := by rw [Lib.toList_data]; exact htl
      clear HL
      go_wp2
      go_ret
      exact ⟨_, rfl, HE.out ▸ hown, hB⟩
    · have htl : t.data.toList ≠ [] := by
        intro e
        apply ht
        rw [Lib.size_eq, e]; rfl
      have hne1 : t.toList.isEmpty = false := by rw [Lib.toList_data]; simpa using htl
      have hne2 : (t.toList == []) = false := by rw [Lib.toList_data]; simpa using htl
      obtain ⟨f, rfl⟩ : ∃ g, f = g + 1 := ⟨f - 1, by omega⟩
      have cC := fun w => cutNl_any t w (by omega)
      have HS := @linesL_step f
      have HA := @linesL_last f t.data.toList htl
      go_wp2_with fail
      refine (cC _).mono ?_
      rintro e w2 ⟨⟨h, rfl⟩ | ⟨i, hi', hl, rfl⟩, hb2⟩
      all_goals
        have hown2 := ownsRow_under hown hb2
        have hB2 := hB.trans (hb2.mono hB.size)
        clear hown hB hb2 cC hne1 hne2
      · obtain ⟨T, hT⟩ : ∃ T, T = t := ⟨_, rfl⟩
        obtain ⟨X, hX⟩ : ∃ X, X = t.data.toList := ⟨_, rfl⟩
        have HX : Hid (txt X = T) := by show _ = _; rw [hX, hT, txt_self]
        have HL2 : Hid ((pre ++ [X]) ++ linesL 0 [] = lines s.data.toList) := by
          have := HL.out
          rw [HA h] at this
          show _ = _
          rw [hX, linesL_nil, List.append_nil, this]
        have HTs : Hid (T.size = t.size) := by show _ = _; rw [hT]
        rw [← hT] at ht hpl hf ⊢
        clear HL HS HA h htl hX hT
        go_wp2_with (at_builtin; refine wpList_append_own _ rfl _ _ 22 rfl w.heap.size 9 i0 (.string ⟨#[]⟩) 1 16 Tryd.underlying22 hi hz0 hz1 hz2 rfl (by decide) _ _ _ rfl (hown2.alloc _) ⟨w2.heap.size, 0, none⟩ 1 1 [.string T] rfl rfl (cell_one_new _ _ _) (by simp [Value.oneCell']) (by unfold maxLen; omega) (by omega) (by have := hB2.size; simp; omega) ?_)
        intro v' w3 hown' hgrow _
        have hB3 : Below w.heap.size w w3 := Below.grown (hB2.alloc (by have := hB2.size; omega) _) hgrow (by have := hB2.size; simp; omega) (fun j hj => (hown2.lt _ hj).1)
        have hown3 : w3.ownsRow w.heap.size 9 1 v' (pre ++ [X]).length ((txts (pre ++ [X])).map Value.string) := by
          rw [txts_map, List.length_append, HX.out]; exact hown'
        obtain ⟨g', cap', rfl⟩ := ownsRow_succ hown'
        clear hown' hgrow hown2 hB2
        go_wp2
        go_roundw
        case rel => exact ⟨⟨#[]⟩, _, 0, rfl, hown3, hB3, HL2, Nat.le_refl _, by rw [List.length_append, List.length_singleton, empty_size]; omega⟩
        case measure =>
          show (⟨#[]⟩ : ByteArray).size < t.size
          rw [empty_size, ← HTs.out]; omega
      · have cT := fun w => Tryd.strings_TrimSuffix (t.extract 0 i) ⟨#[13]⟩ w (by rw [ByteArray.size_extract]; omega)
        have hsi : (t.extract (i + 1) t.size).size = t.size - (i + 1) := by rw [ByteArray.size_extract]; omega
        have HL2 : Hid ((pre ++ [Lib.trimSuffix (t.data.toList.take i) [13]]) ++ linesL f (t.extract (i + 1) t.size).data.toList = lines s.data.toList) := by
          have := HL.out
          rw [HS htl hi'] at this
          show _ = _
          rw [tail_list, List.append_assoc]; exact this
        rw [head_list] at cT
        clear HL HS HA htl
        obtain ⟨X, hX⟩ : ∃ X, X = Lib.trimSuffix (t.data.toList.take i) [13] := ⟨_, rfl⟩
        obtain ⟨T, hT⟩ : ∃ T : ByteArray, T = ⟨(Lib.trimSuffix (t.data.toList.take i) [13]).toArray⟩ := ⟨_, rfl⟩
        have HX : Hid (txt X = T) := by show _ = _; rw [hX, hT]; rfl
        have cT' : ∀ w, Calls Tryd.prog 11 #[.string (t.extract 0 i), .string ⟨#[13]⟩] w fun e w' => e = .returned (.string T) ∧ w' = w := by
          intro w; rw [hT]; exact cT w
        rw [← hX] at HL2
        have HI : Hid (Lib.indexByte t.data.toList 10 = (i : Int)) := hi'
        clear cT hX hT hi'
        generalize t.extract 0 i = Y at *
        generalize t.extract (i + 1) t.size = Z at *
        go_wp2_with fail
        refine (cT' _).mono ?_
        rintro e w9 ⟨rfl, rfl⟩
        clear cT'
        go_wp2_with (at_builtin; refine wpList_append_own _ rfl _ _ 22 rfl w.heap.size 9 i0 (.string ⟨#[]⟩) 1 16 Tryd.underlying22 hi hz0 hz1 hz2 rfl (by decide) _ _ _ rfl (hown2.alloc _) ⟨w9.heap.size, 0, none⟩ 1 1 [.string T] rfl rfl (cell_one_new _ _ _) (by simp [Value.oneCell']) (by unfold maxLen; omega) (by omega) (by have := hB2.size; simp; omega) ?_)
        intro v' w3 hown' hgrow _
        have hB3 : Below w.heap.size w w3 := Below.grown (hB2.alloc (by have := hB2.size; omega) _) hgrow (by have := hB2.size; simp; omega) (fun j hj => (hown2.lt _ hj).1)
        have hown3 : w3.ownsRow w.heap.size 9 1 v' (pre ++ [X]).length ((txts (pre ++ [X])).map Value.string) := by
          rw [txts_map, List.length_append, HX.out]; exact hown'
        obtain ⟨g', cap', rfl⟩ := ownsRow_succ hown'
        clear hown' hgrow hown2 hB2
        go_wp2
        go_roundw
        case rel => exact ⟨Z, _, f, rfl, hown3, hB3, HL2, by omega, by rw [List.length_append]; simp; omega⟩
        case measure => simp; omega
end Go.Proofs.YtkjhjkpnkcnbgabDoor.Utf
