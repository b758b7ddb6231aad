/-
  Plain facts on the lines of a text: cut at each byte 10, one byte 13 at the end of such a line let go.
-/
import Derived.Lib.IndexLaws
import Derived.Lib.Strings
import Derived.Lib.Bytealg
import Derived.Test.YtcocbjipikeebaaGreatDoorRds
import Derived.WalkKit
import Derived.Lib.Walk
import Derived.LoopTactic
import Derived.BigQuiet
import Derived.Deep.QuietTactic
import Derived.WalkSmall
import Derived.Test.YtcocbjipikeebaaGreatDoorSct
import Derived.Shelf.Strings.Search2
import Derived.Maps.AppendAt
import Derived.RangeFuncBox
namespace Go.Proofs.YtcocbjipikeebaaGreatDoor.Utf
open Go Go.Lib

/-- The lines of a text. -/
def linesL : Nat → List UInt8 → List (List UInt8)
  | 0, _ => []
  | f + 1, l => if l = [] then [] else if Lib.indexByte l 10 < 0 then [l] else Lib.trimSuffix (l.take (Lib.indexByte l 10).toNat) [13] :: linesL f (l.drop ((Lib.indexByte l 10).toNat + 1))
def lines (l : List UInt8) : List (List UInt8) := linesL l.length l
theorem linesL_nil (f : Nat) : linesL f [] = [] := by cases f <;> simp [linesL]
theorem linesL_last {f : Nat} {l : List UInt8} (h : l ≠ []) (hi : Lib.indexByte l 10 = -1) : linesL (f + 1) l = [l] := by
  rw [linesL, if_neg h, if_pos (by omega)]
theorem linesL_step {f i : Nat} {l : List UInt8} (h : l ≠ []) (hi : Lib.indexByte l 10 = (i : Int)) : linesL (f + 1) l = Lib.trimSuffix (l.take i) [13] :: linesL f (l.drop (i + 1)) := by
  rw [linesL, if_neg h, if_neg (by omega), hi, Int.toNat_natCast]
theorem index_cases (l : List UInt8) : Lib.indexByte l 10 = -1 ∨ ∃ i : Nat, Lib.indexByte l 10 = (i : Int) ∧ i < l.length := by
  have h := Lib.indexByte_ge l 10
  by_cases h1 : Lib.indexByte l 10 = -1
  · exact .inl h1
  · obtain ⟨i, hi⟩ := Int.eq_ofNat_of_zero_le (by omega : 0 ≤ Lib.indexByte l 10)
    have h2 := (Lib.indexByte_some hi).1
    exact .inr ⟨i, hi, (List.getElem?_eq_some_iff.1 h2).1⟩
theorem index_first {l : List UInt8} {k : Nat} (h : ∀ j, j < k → l[j]? ≠ some 10) (hk : l[k]? = some 10) : Lib.indexByte l 10 = (k : Int) := by
  rcases index_cases l with h1 | ⟨i, hi, _⟩
  · exact absurd hk (Lib.indexByte_none h1 k)
  · have h2 := Lib.indexByte_some hi
    have : i = k := by
      rcases Nat.lt_trichotomy i k with q | q | q
      · exact absurd h2.1 (h i q)
      · exact q
      · exact absurd hk (h2.2 k q)
    rw [hi, this]
theorem index_never {l : List UInt8} (h : ∀ j, j < l.length → l[j]? ≠ some 10) : Lib.indexByte l 10 = -1 := by
  rcases index_cases l with h1 | ⟨i, hi, hl⟩
  · exact h1
  · exact absurd (Lib.indexByte_some hi).1 (h i hl)
theorem trim_yes {l : List UInt8} {m : Nat} (hl : l.length = m + 1) (h : l[m]? = some 13) : Lib.trimSuffix l [13] = l.take m := by
  have hs : Lib.hasSuffix l [13] = true := by
    unfold Lib.hasSuffix
    rw [List.isSuffixOf_iff_suffix]
    refine ⟨l.take m, ?_⟩
    apply List.ext_getElem?
    intro i
    rcases Nat.lt_trichotomy i m with q | q | q
    · rw [List.getElem?_append_left (by rw [List.length_take]; omega), List.getElem?_take, if_pos q]
    · subst q
      rw [List.getElem?_append_right (by rw [List.length_take]; omega), List.length_take, h]
      simp [hl]
    · rw [List.getElem?_eq_none (by simp; omega), List.getElem?_eq_none (by omega)]
  unfold Lib.trimSuffix
  rw [if_pos hs, hl]; rfl
theorem trim_no {l : List UInt8} (h : ∀ m, l.length = m + 1 → l[m]? ≠ some 13) : Lib.trimSuffix l [13] = l := by
  have hs : ¬ Lib.hasSuffix l [13] = true := by
    unfold Lib.hasSuffix
    rw [List.isSuffixOf_iff_suffix]
    rintro ⟨t, rfl⟩
    refine h t.length (by simp) ?_
    rw [List.getElem?_append_right (Nat.le_refl _)]; simp
  unfold Lib.trimSuffix
  rw [if_neg hs]
theorem linesL_fuel : ∀ (f g : Nat) (l : List UInt8), l.length ≤ f → l.length ≤ g → linesL f l = linesL g l
  | 0, g, l, h, _ => by
    have : l = [] := List.eq_nil_of_length_eq_zero (by omega)
    subst this; rw [linesL_nil, linesL_nil]
  | f + 1, 0, l, _, h => by
    have : l = [] := List.eq_nil_of_length_eq_zero (by omega)
    subst this; rw [linesL_nil, linesL_nil]
  | f + 1, g + 1, l, h1, h2 => by
    by_cases hn : l = []
    · subst hn; rw [linesL_nil, linesL_nil]
    · rcases index_cases l with h3 | ⟨i, hi, hl⟩
      · rw [linesL_last hn h3, linesL_last hn h3]
      · rw [linesL_step hn hi, linesL_step hn hi, linesL_fuel f g _ (by rw [List.length_drop]; omega) (by rw [List.length_drop]; omega)]
theorem linesL_len : ∀ (f : Nat) (l : List UInt8), (linesL f l).length ≤ l.length
  | 0, l => by simp [linesL]
  | f + 1, l => by
    by_cases hn : l = []
    · subst hn; rw [linesL_nil]; simp
    · have hl0 : 0 < l.length := List.length_pos_iff.2 hn
      rcases index_cases l with h3 | ⟨i, hi, hl⟩
      · rw [linesL_last hn h3, List.length_singleton]; omega
      · have ih := linesL_len f (l.drop (i + 1))
        rw [List.length_drop] at ih
        rw [linesL_step hn hi, List.length_cons]
        omega
theorem lines_len (l : List UInt8) : (lines l).length ≤ l.length := linesL_len _ _
/-- Lists of bytes as texts. -/
def txt (l : List UInt8) : ByteArray := ⟨l.toArray⟩
def txts (ls : List (List UInt8)) : List ByteArray := ls.map txt
theorem txts_snoc (ls : List (List UInt8)) (l : List UInt8) : txts (ls ++ [l]) = txts ls ++ [txt l] := by simp [txts]
theorem txts_length (ls : List (List UInt8)) : (txts ls).length = ls.length := by simp [txts]
theorem txt_self (s : ByteArray) : txt s.data.toList = s := by cases s; simp [txt]
theorem txt_list (l : List UInt8) : (txt l).data.toList = l := by simp [txt]
theorem txt_size (l : List UInt8) : (txt l).size = l.length := by simp [txt, ByteArray.size]
end Go.Proofs.YtcocbjipikeebaaGreatDoor.Utf
/-
  The document's comparisons of lists walked: of two lists that hold the same they tell true, wherever these lie.
-/
namespace Go.Proofs.YtcocbjipikeebaaGreatDoor.Utf
open Go Go.Lib Go.RowKit

end Go.Proofs.YtcocbjipikeebaaGreatDoor.Utf
/-
  The program's Lines walked: the lines of the text, in a new list, for every text of up to 16777216 bytes.
-/
namespace Go.Proofs.YtcocbjipikeebaaGreatDoor.Utf
open Go Go.Lib Go.RowKit Go.Shelf

theorem infoStr : (Tryz.prog.info? 9).map (fun i => (i.zero, i.size, i.bytes)) = some (some (.string ⟨#[]⟩), 1, 16) := by kernel_rfl

set_option maxHeartbeats 1000000 in
theorem liteCut_any (s : ByteArray) (w : World) (hs : s.size ≤ 16777216) :
    Calls Tryz.prog 97 #[.string s, .string ⟨#[10]⟩] w fun e w' =>
      ((Lib.indexByte s.data.toList 10 = -1 ∧ e = .returned (.tuple #[.string s, .string ⟨#[]⟩, .bool false])) ∨
       (∃ i : Nat, Lib.indexByte s.data.toList 10 = (i : Int) ∧ i < s.size ∧ e = .returned (.tuple #[.string (s.extract 0 i), .string (s.extract (i + 1) s.size), .bool true]))) ∧ Below w.heap.size w w' := by
  have cI := Tryz.stringslite_Index_one s 10 w
  rcases index_cases s.data.toList with h | ⟨i, hi, hl⟩
  · rw [h] at cI
    have H : Hid (Lib.indexByte s.data.toList 10 = -1) := h
    clear h
    go_enter Tryz.func97, Tryz.ntmps97
    go_wp2_with fail
    refine cI.mono ?_
    rintro e w1 ⟨rfl, rfl⟩
    go_wp2
    go_ret3
    exact ⟨.inl ⟨H.out, rfl⟩, Below.refl _ _⟩
  · rw [hi] at cI
    have H : Hid (Lib.indexByte s.data.toList 10 = (i : Int)) := hi
    have hl2 : i < s.size := by rw [Lib.size_eq]; exact hl
    clear hi hl
    go_enter Tryz.func97, Tryz.ntmps97
    go_wp2_with fail
    refine cI.mono ?_
    rintro e w1 ⟨rfl, rfl⟩
    go_wp2
    go_quiet (fail)
    go_wp2
    go_ret3
    exact ⟨.inr ⟨i, H.out, hl2, rfl⟩, below_drewN (Below.refl _ _) _⟩

set_option maxHeartbeats 1000000 in
theorem cutNl_any (s : ByteArray) (w : World) (hs : s.size ≤ 16777216) :
    Calls Tryz.prog 70 #[.string s, .string ⟨#[10]⟩] w fun e w' =>
      ((Lib.indexByte s.data.toList 10 = -1 ∧ e = .returned (.tuple #[.string s, .string ⟨#[]⟩, .bool false])) ∨
       (∃ i : Nat, Lib.indexByte s.data.toList 10 = (i : Int) ∧ i < s.size ∧ e = .returned (.tuple #[.string (s.extract 0 i), .string (s.extract (i + 1) s.size), .bool true]))) ∧ Below w.heap.size w w' := by
  have cL := liteCut_any s w hs
  go_enter Tryz.func70, Tryz.ntmps70
  go_wp2_with fail
  refine cL.mono ?_
  rintro e w1 ⟨⟨h, rfl⟩ | ⟨i, hi, hl, rfl⟩, hb⟩
  · have H : Hid (Lib.indexByte s.data.toList 10 = -1) := h
    clear h
    go_wp2
    go_ret3
    exact ⟨.inl ⟨H.out, rfl⟩, hb⟩
  · have H : Hid (Lib.indexByte s.data.toList 10 = (i : Int)) := hi
    clear hi
    go_wp2
    go_ret3
    exact ⟨.inr ⟨i, H.out, hl, rfl⟩, hb⟩

theorem empty_size : (⟨#[]⟩ : ByteArray).size = 0 := rfl
theorem head_list (s : ByteArray) (i : Nat) : (s.extract 0 i).data.toList = s.data.toList.take i := by
  rw [← Lib.toList_data, Lib.extract_toList]; simp
theorem tail_list (s : ByteArray) (i : Nat) : (s.extract i s.size).data.toList = s.data.toList.drop i := by
  rw [← Lib.toList_data, Lib.extract_toList]
  rw [List.take_of_length_le (by rw [List.length_drop, ← Lib.size_eq]; omega)]
theorem txts_map (ls : List (List UInt8)) (l : List UInt8) : (txts (ls ++ [l])).map Value.string = (txts ls).map Value.string ++ [.string (txt l)] := by rw [txts_snoc]; simp
theorem ownsRow_under {W W' : World} {B : Nat} {e : TypeId} {sz : Nat} {v : Value} {n : Nat} {xs : List Value} (h : W.ownsRow B e sz v n xs) (hb : Below W.heap.size W W') : W'.ownsRow B e sz v n xs := by
  refine ⟨h.1, ?_⟩
  rcases h.2 with hn | ⟨g, cap, cur, hv, hbg, hg, rest⟩
  · exact .inl hn
  · exact .inr ⟨g, cap, cur, hv, hbg, (hb.block g (Array.getElem?_eq_some_iff.1 hg).1).trans hg, rest⟩

set_option maxHeartbeats 2000000 in
theorem lines_any (s : ByteArray) (w : World) (hs : s.size ≤ 16777216) :
    Calls Tryz.prog 40 #[.string s] w fun e w' => ∃ v, e = .returned v ∧ w'.ownsRow w.heap.size 9 1 v (lines s.data.toList).length ((txts (lines s.data.toList)).map Value.string) ∧ Below w.heap.size w w' := by
  obtain ⟨i0, hi, hz0, hz1, hz2⟩ := info_parts infoStr
  go_enter Tryz.func40, Tryz.ntmps40
  go_wp2
  go_loopw [0, 3] (fun tv v wr => ∃ (t : ByteArray) (pre : List (List UInt8)) (f : Nat), tv = .string t ∧ wr.ownsRow w.heap.size 9 1 v pre.length ((txts pre).map Value.string) ∧ Below w.heap.size w wr ∧ Hid (pre ++ linesL f t.data.toList = lines s.data.toList) ∧ t.size ≤ f ∧ pre.length + t.size ≤ s.size)
    (fun tv _ _ => match tv with | .string t => t.size | _ => 0)
  case atStart => exact ⟨s, [], s.size, rfl, World.ownsRow_nil _ _ _ _, Below.refl _ _, by show _ = _; unfold lines; rw [← Lib.size_eq]; rfl, Nat.le_refl _, by simp⟩
  case round =>
    obtain ⟨t, pre, f, rfl, hown, hB, HL, hf, hpl⟩ := hrel
    by_cases ht : t.size = 0
    · have htl : t.data.toList = [] := List.eq_nil_of_length_eq_zero (by rw [← Lib.size_eq]; exact ht)
      have HE : Hid (pre = lines s.data.toList) := by
        have := HL.out
        rw [htl, linesL_nil, List.append_nil] at this
        exact this
      have hne : t.toList = [] := by rw [Lib.toList_data]; exact htl
      clear HL
      go_wp2
      go_ret
      exact ⟨_, rfl, HE.out ▸ hown, hB⟩
    · have htl : t.data.toList ≠ [] := by
        intro e
        apply ht
        rw [Lib.size_eq, e]; rfl
      have hne1 : t.toList.isEmpty = false := by rw [Lib.toList_data]; simpa using htl
      have hne2 : (t.toList == []) = false := by rw [Lib.toList_data]; simpa using htl
      obtain ⟨f, rfl⟩ : ∃ g, f = g + 1 := ⟨f - 1, by omega⟩
      have cC := fun w => cutNl_any t w (by omega)
      have HS := @linesL_step f
      have HA := @linesL_last f t.data.toList htl
      go_wp2_with fail
      refine (cC _).mono ?_
      rintro e w2 ⟨⟨h, rfl⟩ | ⟨i, hi', hl, rfl⟩, hb2⟩
      all_goals
        have hown2 := ownsRow_under hown hb2
        have hB2 := hB.trans (hb2.mono hB.size)
        clear hown hB hb2 cC hne1 hne2
      · obtain ⟨T, hT⟩ : ∃ T, T = t := ⟨_, rfl⟩
        obtain ⟨X, hX⟩ : ∃ X, X = t.data.toList := ⟨_, rfl⟩
        have HX : Hid (txt X = T) := by show _ = _; rw [hX, hT, txt_self]
        have HL2 : Hid ((pre ++ [X]) ++ linesL 0 [] = lines s.data.toList) := by
          have := HL.out
          rw [HA h] at this
          show _ = _
          rw [hX, linesL_nil, List.append_nil, this]
        have HTs : Hid (T.size = t.size) := by show _ = _; rw [hT]
        rw [← hT] at ht hpl hf ⊢
        clear HL HS HA h htl hX hT
        go_wp2_with (at_builtin; refine wpList_append_own _ rfl _ _ 22 rfl w.heap.size 9 i0 (.string ⟨#[]⟩) 1 16 Tryz.underlying22 hi hz0 hz1 hz2 rfl (by decide) _ _ _ rfl (hown2.alloc _) ⟨w2.heap.size, 0, none⟩ 1 1 [.string T] rfl rfl (cell_one_new _ _ _) (by simp [Value.oneCell']) (by unfold maxLen; omega) (by omega) (by have := hB2.size; simp; omega) ?_)
        intro v' w3 hown' hgrow _
        have hB3 : Below w.heap.size w w3 := Below.grown (hB2.alloc (by have := hB2.size; omega) _) hgrow (by have := hB2.size; simp; omega) (fun j hj => (hown2.lt _ hj).1)
        have hown3 : w3.ownsRow w.heap.size 9 1 v' (pre ++ [X]).length ((txts (pre ++ [X])).map Value.string) := by
          rw [txts_map, List.length_append, HX.out]; exact hown'
        obtain ⟨g', cap', rfl⟩ := ownsRow_succ hown'
        clear hown' hgrow hown2 hB2
        go_wp2
        go_roundw
        case rel => exact ⟨⟨#[]⟩, _, 0, rfl, hown3, hB3, HL2, Nat.le_refl _, by rw [List.length_append, List.length_singleton, empty_size]; omega⟩
        case measure =>
          show (⟨#[]⟩ : ByteArray).size < t.size
          rw [empty_size, ← HTs.out]; omega
      · have cT := fun w => Tryz.strings_TrimSuffix (t.extract 0 i) ⟨#[13]⟩ w (by rw [ByteArray.size_extract]; omega)
        have hsi : (t.extract (i + 1) t.size).size = t.size - (i + 1) := by rw [ByteArray.size_extract]; omega
        have HL2 : Hid ((pre ++ [Lib.trimSuffix (t.data.toList.take i) [13]]) ++ linesL f (t.extract (i + 1) t.size).data.toList = lines s.data.toList) := by
          have := HL.out
          rw [HS htl hi'] at this
          show _ = _
          rw [tail_list, List.append_assoc]; exact this
        rw [head_list] at cT
        clear HL HS HA htl
        obtain ⟨X, hX⟩ : ∃ X, X = Lib.trimSuffix (t.data.toList.take i) [13] := ⟨_, rfl⟩
        obtain ⟨T, hT⟩ : ∃ T : ByteArray, T = ⟨(Lib.trimSuffix (t.data.toList.take i) [13]).toArray⟩ := ⟨_, rfl⟩
        have HX : Hid (txt X = T) := by show _ = _; rw [hX, hT]; rfl
        have cT' : ∀ w, Calls Tryz.prog 71 #[.string (t.extract 0 i), .string ⟨#[13]⟩] w fun e w' => e = .returned (.string T) ∧ w' = w := by
          intro w; rw [hT]; exact cT w
        rw [← hX] at HL2
        have HI : Hid (Lib.indexByte t.data.toList 10 = (i : Int)) := hi'
        clear cT hX hT hi'
        generalize t.extract 0 i = Y at *
        generalize t.extract (i + 1) t.size = Z at *
        go_wp2_with fail
        refine (cT' _).mono ?_
        rintro e w9 ⟨rfl, rfl⟩
        clear cT'
        go_wp2_with (at_builtin; refine wpList_append_own _ rfl _ _ 22 rfl w.heap.size 9 i0 (.string ⟨#[]⟩) 1 16 Tryz.underlying22 hi hz0 hz1 hz2 rfl (by decide) _ _ _ rfl (hown2.alloc _) ⟨w9.heap.size, 0, none⟩ 1 1 [.string T] rfl rfl (cell_one_new _ _ _) (by simp [Value.oneCell']) (by unfold maxLen; omega) (by omega) (by have := hB2.size; simp; omega) ?_)
        intro v' w3 hown' hgrow _
        have hB3 : Below w.heap.size w w3 := Below.grown (hB2.alloc (by have := hB2.size; omega) _) hgrow (by have := hB2.size; simp; omega) (fun j hj => (hown2.lt _ hj).1)
        have hown3 : w3.ownsRow w.heap.size 9 1 v' (pre ++ [X]).length ((txts (pre ++ [X])).map Value.string) := by
          rw [txts_map, List.length_append, HX.out]; exact hown'
        obtain ⟨g', cap', rfl⟩ := ownsRow_succ hown'
        clear hown' hgrow hown2 hB2
        go_wp2
        go_roundw
        case rel => exact ⟨Z, _, f, rfl, hown3, hB3, HL2, by omega, by rw [List.length_append]; simp; omega⟩
        case measure => simp; omega
end Go.Proofs.YtcocbjipikeebaaGreatDoor.Utf
