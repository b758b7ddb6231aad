/-
  The program's New walked: the alphabet of the texts, or the number of the first that may not be, for every list.
-/
import Derived.Test.YtcocbjipikeebaaDoorNwpq
import Derived.Test.YtcocbjipikeebaaDoorNamq
import Derived.Test.YtcocbjipikeebaaDoorCln
import Derived.Test.YtcocbjipikeebaaDoorGutf
import Derived.Deep.DeepCutAuto
namespace Go.Proofs.YtcocbjipikeebaaDoor.Utf
open Go Go.Lib Go.RowKit

/-- A slice value whose cells, from any place of their memory on, read as the list. -/
def ReadsO (W : World) (ao : Option Addr) (xs : List Value) : Prop := ∀ j (hj : j < xs.length), ∃ g o, ao = some ⟨g, o, none⟩ ∧ g < W.heap.size ∧ W.cell? ⟨g, o + j, none⟩ = some xs[j]
theorem ReadsO.below {W W' : World} {ao : Option Addr} {xs : List Value} (h : ReadsO W ao xs) (hb : Below W.heap.size W W') : ReadsO W' ao xs := fun j hj => by
  obtain ⟨g, o, h1, h2, h3⟩ := h j hj
  exact ⟨g, o, h1, Nat.lt_of_lt_of_le h2 hb.size, (hb.cell (p := ⟨g, o + j, none⟩) h2).trans h3⟩
theorem Reads.any {W : World} {ao : Option Addr} {xs : List Value} (h : Reads W ao xs) : ReadsO W ao xs := fun j hj => by
  obtain ⟨g, h1, h2, h3⟩ := h j hj
  exact ⟨g, 0, h1, h2, by rw [Nat.zero_add]; exact h3⟩

open Classical in
/-- What New tells from a number on. -/
noncomputable def newAt (L : List ByteArray) : Nat → Nat → Nat × Int
  | 0, _ => (0, 0)
  | f + 1, i => if h : i < L.length then (if nameP L[i] then (if L[i] ∈ L.take i then (i, 31) else newAt L f (i + 1)) else (i, 30)) else (0, 0)
open Classical in
/-- What New tells: a number and an error. -/
noncomputable def newR (L : List ByteArray) : Nat × Int := if L.length = 0 ∨ 40 < L.length then (0, 32) else newAt L L.length 0

theorem newAt_bad {L : List ByteArray} {f i : Nat} (h : i < L.length) (hn : ¬ nameP L[i]) : newAt L (f + 1) i = (i, 30) := by
  rw [newAt, dif_pos h, if_neg hn]
theorem newAt_twice {L : List ByteArray} {f i : Nat} (h : i < L.length) (hn : nameP L[i]) (ht : L[i] ∈ L.take i) : newAt L (f + 1) i = (i, 31) := by
  rw [newAt, dif_pos h, if_pos hn, if_pos ht]
theorem newAt_next {L : List ByteArray} {f i : Nat} (h : i < L.length) (hn : nameP L[i]) (ht : ¬ L[i] ∈ L.take i) : newAt L (f + 1) i = newAt L f (i + 1) := by
  rw [newAt, dif_pos h, if_pos hn, if_neg ht]
theorem newAt_end {L : List ByteArray} {f i : Nat} (h : ¬ i < L.length) : newAt L f i = (0, 0) := by
  cases f with
  | zero => rfl
  | succ f => rw [newAt, dif_neg h]
theorem newR_many {L : List ByteArray} (h : L.length = 0 ∨ 40 < L.length) : newR L = (0, 32) := by unfold newR; rw [if_pos h]
theorem newR_few {L : List ByteArray} (h1 : 1 ≤ L.length) (h2 : L.length ≤ 40) : newR L = newAt L L.length 0 := by unfold newR; rw [if_neg (by omega)]

theorem newAt_good (L : List ByteArray) : ∀ (f i : Nat), L.length ≤ i + f → (newAt L f i).2 = 0 → ∀ j (h : j < L.length), i ≤ j → nameP L[j] ∧ L[j] ∉ L.take j
  | 0, i, hf, _, j, h, hij => by omega
  | f + 1, i, hf, h0, j, h, hij => by
    have hi : i < L.length := by omega
    by_cases hn : nameP L[i]
    · by_cases ht : L[i] ∈ L.take i
      · rw [newAt_twice hi hn ht] at h0; cases h0
      · by_cases hj : j = i
        · subst hj; exact ⟨hn, ht⟩
        · rw [newAt_next hi hn ht] at h0
          exact newAt_good L f (i + 1) (by omega) h0 j h (by omega)
    · rw [newAt_bad hi hn] at h0; cases h0
theorem new_good {L : List ByteArray} (h : (newR L).2 = 0) : 1 ≤ L.length ∧ L.length ≤ 40 ∧ (∀ s ∈ L, nameP s) ∧ L.Nodup := by
  have h1 : ¬ (L.length = 0 ∨ 40 < L.length) := fun hc => by rw [newR_many hc] at h; cases h
  rw [newR_few (by omega) (by omega)] at h
  have hg := newAt_good L L.length 0 (by omega) h
  refine ⟨by omega, by omega, fun s hs => ?_, ?_⟩
  · obtain ⟨j, hj, rfl⟩ := List.getElem_of_mem hs
    exact (hg j hj (Nat.zero_le _)).1
  · unfold List.Nodup
    rw [List.pairwise_iff_getElem]
    intro i j hi hj hij e
    refine (hg j hj (Nat.zero_le _)).2 ?_
    rw [← e]
    exact List.mem_take_iff_getElem.2 ⟨i, by omega, rfl⟩
theorem decode_four (s : ByteArray) (pos : Nat) (h : pos < s.size) : (Utf8.decode s pos).2 ≤ 4 := by
  rw [decode_at]
  exact (decodeN_fits _ _ _ _ _ (by omega)).2.2
theorem pairs_cover (s : ByteArray) : ∀ (f pos : Nat), s.size ≤ pos + f → s.size ≤ pos + 4 * (pairsFrom s f pos).length
  | 0, pos, h => by omega
  | f + 1, pos, h => by
    by_cases hp : pos < s.size
    · have h1 := decode_fits s pos hp
      have h2 := decode_four s pos hp
      have h3 := pairs_cover s f (pos + (Utf8.decode s pos).2) (by omega)
      rw [pairsFrom_step hp, List.length_cons]
      omega
    · omega
theorem name_len {s : ByteArray} (h : nameP s) : 1 ≤ s.size ∧ s.size ≤ 12 := by
  have h1 := pairs_cover s s.size 0 (by omega)
  have h2 := h.2.1
  have h3 := h.1
  unfold pairs at h2 h3
  refine ⟨?_, by omega⟩
  by_cases h0 : s.size = 0
  · rw [pairsFrom_end s _ 0 (by omega)] at h3
    simp at h3
  · omega
theorem name_size {s : ByteArray} (h : nameP s) : s.size ≤ 16777216 := by
  have := (name_len h).2
  omega
open Classical in
theorem isName_yes {s : ByteArray} (h : nameP s) (w : World) : Calls Tryd.prog 21 #[.string s] w fun e W' => e = .returned (.bool true) ∧ Below w.heap.size w W' := by
  have := isName_any s w
  rwa [decide_eq_true h] at this
open Classical in
theorem isName_no {s : ByteArray} (h : ¬ nameP s) (w : World) : Calls Tryd.prog 21 #[.string s] w fun e W' => e = .returned (.bool false) ∧ Below w.heap.size w W' := by
  have := isName_any s w
  rwa [decide_eq_false h] at this
open Classical in
theorem contains_yes {zs : List ByteArray} {v : ByteArray} (h : v ∈ zs) (a1 : Option Addr) (c1 : Nat) (w : World) (hl : zs.length ≤ 16777216) (h1 : Reads w a1 (zs.map Value.string)) :
    Calls Tryd.prog 22 #[.slice a1 zs.length c1, .string v] w fun e w' => e = .returned (.bool true) ∧ Below w.heap.size w w' := by
  have := contains_any zs v a1 c1 w hl h1
  rwa [decide_eq_true h] at this
open Classical in
theorem contains_no {zs : List ByteArray} {v : ByteArray} (h : v ∉ zs) (a1 : Option Addr) (c1 : Nat) (w : World) (hl : zs.length ≤ 16777216) (h1 : Reads w a1 (zs.map Value.string)) :
    Calls Tryd.prog 22 #[.slice a1 zs.length c1, .string v] w fun e w' => e = .returned (.bool false) ∧ Below w.heap.size w w' := by
  have := contains_any zs v a1 c1 w hl h1
  rwa [decide_eq_false h] at this

theorem take_snoc_str (L : List ByteArray) {k : Nat} (h : k < L.length) : (L.take (k + 1)).map Value.string = (L.take k).map Value.string ++ [Value.string L[k]] := by
  rw [List.take_succ_eq_append_getElem h, List.map_append]; rfl
theorem range_snoc (k : Nat) : ((List.range (k + 1)).map fun r : Nat => Value.int .i64 (r : Int)) = ((List.range k).map fun r : Nat => Value.int .i64 (r : Int)) ++ [Value.int .i64 (k : Int)] := by
  rw [List.range_succ, List.map_append]; rfl

set_option maxHeartbeats 4000000 in
set_option maxRecDepth 100000 in
theorem new_any (L : List ByteArray) (ao : Option Addr) (cap : Nat) (w : World) (hlen : L.length ≤ 4611686018427387904) (hR : ReadsO w ao (L.map Value.string)) :
    Calls Tryd.prog 8 #[.slice ao L.length cap] w fun e w' => (∃ v, e = .returned (.tuple #[v, .int .i64 ((newR L).1 : Int), .int .i64 (newR L).2]) ∧ ((newR L).2 ≠ 0 → v = .pointer none) ∧ ((newR L).2 = 0 → ∃ b rk, v = .pointer (some ⟨b, 0, none⟩) ∧ AlphaFrom w' w.heap.size b L rk ∧ Ranked L rk)) ∧ Below w.heap.size w w' := by
  obtain ⟨i0, hi, hz0, hz1, hz2⟩ := info_parts infoInt'
  obtain ⟨j0, hj, hy0, hy1, hy2⟩ := info_parts infoStr'
  go_enter Tryd.func8, Tryd.ntmps8
  by_cases h0 : L.length = 0
  · have HX : Hid (newR L = (0, 32)) := newR_many (.inl h0)
    have hb : ((L.length : Int) == 0) = true := by rw [beq_iff_eq]; omega
    go_wp2
    go_ret3
    rw [HX.out]
    exact ⟨⟨_, rfl, fun _ => rfl, fun h => by cases h⟩, Below.refl _ _⟩
  · have hb : ((L.length : Int) == 0) = false := by rw [beq_eq_false_iff_ne]; omega
    by_cases h40 : 40 < L.length
    · have HX : Hid (newR L = (0, 32)) := newR_many (.inr h40)
      have h40z : (40 : Int) < (L.length : Int) := by omega
      go_wp2
      go_ret3
      rw [HX.out]
      exact ⟨⟨_, rfl, fun _ => rfl, fun h => by cases h⟩, Below.refl _ _⟩
    · have h40z : ¬ (40 : Int) < (L.length : Int) := by omega
      have hRR : Hid (newR L = newAt L L.length 0) := newR_few (by omega) (by omega)
      have HN0 := NewSt.start w
      go_wp2
      go_loopg [20] L.length (fun g1 vi wr => ∃ (k : Nat) (v1 v2 : Value), vi = .int .i64 (k : Int) ∧ k ≤ L.length ∧ L.length - k ≤ g1 ∧ Aside (NewSt w wr ((L.take k).map Value.string) ((List.range k).map fun r : Nat => Value.int .i64 (r : Int)) v1 v2) ∧ Aside (newAt L (L.length - k) k = newR L ∧ ∀ s ∈ L.take k, nameP s))
      case atStart => exact ⟨0, _, _, rfl, Nat.zero_le _, Nat.le_refl _, HN0, ⟨hRR.out.symm, fun s h => by simp at h⟩⟩
      case round =>
        clear HN0
        obtain ⟨k, v1, v2, rfl, hk, hg1, HS, HE⟩ := hrel
        by_cases hlt : k < L.length
        · have hltz : (k : Int) < (L.length : Int) := by omega
          have hz2' : w.heap.size + 2 ≤ wr.heap.size := HS.out.size
          obtain ⟨ga, oa, rfl, hga, ec⟩ := hR k (by simpa using hlt)
          rw [List.getElem_map] at ec
          have hgb : ga < w.heap.size := hga
          have ec' : wr.cell? ⟨ga, oa + k, none⟩ = some (.string L[k]) := (HS.out.below.cell (p := ⟨ga, oa + k, none⟩) hgb).trans ec
          have HK : Aside (∃ f, L.length - k = f + 1) := ⟨L.length - k - 1, by omega⟩
          have hr1 := HS.out.r1
          have htl : ((L.take k).map Value.string).length = k := by rw [List.length_map, List.length_take]; omega
          have htl2 : (L.take k).length = k := by rw [List.length_take]; omega
          rw [htl] at hr1
          obtain ⟨a1, cp1, rfl, q1⟩ := row_reads hr1
          have cb := HS.out.box.cell
          have c0 := HS.out.c0
          by_cases hn : nameP L[k]
          · have cN := fun W => isName_yes hn W
            have hsz := name_size hn
            by_cases ht : L[k] ∈ L.take k
            · have HV : Aside (newR L = (k, 31)) := by
                obtain ⟨f, hf⟩ := HK.out
                have := HE.out.1
                rw [hf, newAt_twice hlt hn ht] at this
                exact this.symm
              have cC := fun W (hb : Below wr.heap.size wr W) => contains_yes ht a1 cp1 W (by omega) (q1.below hb)
              rw [htl2] at cC
              clear hn ht hR ec HE HK hr1 q1 htl htl2
              generalize L[k] = X at *
              go_wp2_with (first
                | (go_at_call 21; refine (cN _).mono ?_; rintro e w1 ⟨rfl, hb1⟩; have cb1 := (hb1.cell (p := ⟨w.heap.size + 1, 0, none⟩) (by show w.heap.size + 1 < wr.heap.size; omega)).trans cb; have c01 := (hb1.cell (p := ⟨w.heap.size, 0, none⟩) (by show w.heap.size < wr.heap.size; omega)).trans c0; have HB1 : Aside (Below wr.heap.size wr w1) := hb1; clear hb1)
                | (go_at_call 22; refine (cC _ HB1.out).mono ?_; rintro e w2 ⟨rfl, hb2⟩; have HB2 : Aside (Below w.heap.size w w2) := HS.out.below.trans ((HB1.out.trans (hb2.mono HB1.out.size)).mono (by omega)); clear hb2))
              go_ret3
              rw [HV.out]
              exact ⟨⟨_, rfl, fun _ => rfl, fun h => by cases h⟩, HB2.out⟩
            · have HV : Aside (newAt L (L.length - (k + 1)) (k + 1) = newR L ∧ ∀ s ∈ L.take (k + 1), nameP s) := by
                obtain ⟨f, hf⟩ := HK.out
                have := HE.out.1
                rw [hf, newAt_next hlt hn ht] at this
                refine ⟨by rw [show L.length - (k + 1) = f by omega]; exact this, fun s hs => ?_⟩
                rw [List.take_succ_eq_append_getElem hlt] at hs
                rcases List.mem_append.1 hs with h | h
                · exact HE.out.2 s h
                · rw [List.mem_singleton.1 h]; exact hn
              have HT1 := take_snoc_str L hlt
              have HT : Aside ((L.take (k + 1)).map Value.string = (L.take k).map Value.string ++ [Value.string L[k]]) := HT1
              have cC := fun W (hb : Below wr.heap.size wr W) => contains_no ht a1 cp1 W (by omega) (q1.below hb)
              rw [htl2] at cC
              clear hn ht hR ec HE HK hr1 q1 htl2 HT1
              have HTL : Aside (((L.take k).map Value.string).length = k) := htl
              clear htl
              generalize L[k] = X at *
              generalize (L.take k).map Value.string = X1 at *
              have cL := fun W => clone_any X W (by omega)
              go_wp2_with (first
                | (go_at_call 21; refine (cN _).mono ?_; rintro e w1 ⟨rfl, hb1⟩; have cb1 := (hb1.cell (p := ⟨w.heap.size + 1, 0, none⟩) (by show w.heap.size + 1 < wr.heap.size; omega)).trans cb; have c01 := (hb1.cell (p := ⟨w.heap.size, 0, none⟩) (by show w.heap.size < wr.heap.size; omega)).trans c0; have HB1 : Aside (Below wr.heap.size wr w1) := hb1; clear hb1)
                | (go_at_call 22; refine (cC _ HB1.out).mono ?_; rintro e w2 ⟨rfl, hb2⟩; have HB2 : Aside (Below wr.heap.size wr w2) := HB1.out.trans (hb2.mono HB1.out.size); clear hb2))
              have HS2 : Aside (NewSt w w2 X1 ((List.range k).map fun r : Nat => Value.int .i64 (r : Int)) (.slice a1 k cp1) v2) := HS.out.keeps HB2.out
              clear HS HB1 HB2 cb cb1 c0 c01 cC cN ec'
              have cb := HS2.out.box.cell
              have c0 := HS2.out.c0
              have hz3 := HS2.out.size
              go_upto_region 11 with fail
              go_cut [44] from 36 to 46 (fun _ wd => ∃ v1', Aside (NewSt w wd (X1 ++ [.string X]) ((List.range k).map fun r : Nat => Value.int .i64 (r : Int)) v1' v2))
              case first =>
                refine wp_blind ?_
                (first | (go_region_law (first
                  | (refine step_own rfl (.tmp 40) (.tmp 43) 22 rfl (w.heap.size + 2) 9 j0 (.string ⟨#[]⟩) 1 16 Tryd.underlying22 hj hy0 hy1 hy2 rfl (by decide) (.slice a1 k cp1) X1.length X1 (by first | (simp [Act.eval]; done) | (simp [Act.eval, Act.put]; done)) (HS3.out.r1.alloc _) ⟨w3.heap.size, 0, none⟩ 1 1 [.string X] (by first | (simp [Act.eval]; done) | (simp [Act.eval, Act.put]; done)) rfl (cell_one_new w3 _ _) (by simp [Value.oneCell']) (by unfold maxLen; have := HTL.out; omega) (by have := HTL.out; omega) (by simp; omega) ?_; intro v' w4 p1 hg4; obtain ⟨gq, capq, rfl⟩ := ownsRow_succ p1; have st := (HS3.out.alloc _).step1 hg4 p1; have cb4 := st.2.2.1; have c04 := st.1; have f04 := st.2.1; have HS4 : Aside _ := st.2.2.2; clear p1 hg4 st)
                  | (go_simp; go_wp2_with (go_at_call 23; refine (cL _).mono ?_; rintro e w3 ⟨rfl, hb3⟩; have HS3 : Aside (NewSt w w3 X1 ((List.range k).map fun r : Nat => Value.int .i64 (r : Int)) (.slice a1 k cp1) v2) := HS2.out.drew.keeps hb3; have cb3 := HS3.out.box.cell; have c03 := HS3.out.c0; have hz4 := HS3.out.size; have cbA := (HS3.out.alloc (.cells #[.string X] 9)).box.cell; have c0A := (HS3.out.alloc (.cells #[.string X] 9)).c0; clear hb3)))) | fail)
                all_goals (try go_simp)
                all_goals (go_wp2_with fail)
                all_goals go_meet
                all_goals exact ⟨_, HS4⟩
              case rest =>
                obtain ⟨v1', HS5⟩ := hcut
                clear HS2 cb c0 hz3 cL
                have cb := HS5.out.box.cell
                have c1 := HS5.out.c1
                have hz3 := HS5.out.size
                have hrl : ((List.range k).map fun r : Nat => Value.int .i64 (r : Int)).length = k := by rw [List.length_map, List.length_range]
                have HRL : Aside (((List.range k).map fun r : Nat => Value.int .i64 (r : Int)).length = k) := hrl
                have HRS : Aside (((List.range (k + 1)).map fun r : Nat => Value.int .i64 (r : Int)) = ((List.range k).map fun r : Nat => Value.int .i64 (r : Int)) ++ [Value.int .i64 (k : Int)]) := range_snoc k
                clear hrl
                generalize ((List.range k).map fun r : Nat => Value.int .i64 (r : Int)) = X2 at *
                rename World => w5
                go_upto_region 12 with fail
                have cbA := (HS5.out.alloc (.cells #[.int .i64 (k : Int)] 3)).box.cell
                have c1A := (HS5.out.alloc (.cells #[.int .i64 (k : Int)] 3)).c1
                (first | (go_region_law (first
                    | (refine step_own rfl (.tmp 51) (.tmp 53) 42 rfl (w.heap.size + 2) 3 i0 (.int .i64 0) 1 8 Tryd.underlying42 hi hz0 hz1 hz2 rfl (by decide) v2 X2.length X2 (by first | (simp [Act.eval]; done) | (simp [Act.eval, Act.put]; done)) (HS5.out.drew.r2.alloc _) ⟨w5.heap.size, 0, none⟩ 1 1 [.int .i64 (k : Int)] (by first | (simp [Act.eval]; done) | (simp [Act.eval, Act.put]; done)) rfl (cell_one_new w5.drew _ _) (by simp [Value.oneCell']) (by unfold maxLen; have := HRL.out; omega) (by have := HRL.out; omega) (by simp; omega) ?_; intro v' w6 p1 hg6; obtain ⟨gq, capq, rfl⟩ := ownsRow_succ p1; have st := (HS5.out.drew.alloc _).step2 hg6 p1; have cb6 := st.2.2.1; have c16 := st.1; have f16 := st.2.1; have HS6 : Aside _ := st.2.2.2; clear p1 hg6 st))) | fail)
                all_goals (try go_simp)
                all_goals (go_wp2)
                all_goals (go_roundg (L.length - (k + 1)))
                all_goals first
                  | omega
                  | exact ⟨k + 1, v1', _, by go_num, by omega, Nat.le_refl _, by rw [HT.out, HRS.out]; exact HS6, HV⟩
          · have HV : Aside (newR L = (k, 30)) := by
              obtain ⟨f, hf⟩ := HK.out
              have := HE.out.1
              rw [hf, newAt_bad hlt hn] at this
              exact this.symm
            have cN := fun W => isName_no hn W
            clear hn hR ec HE HK
            generalize L[k] = X at *
            go_wp2_with (go_at_call 21; refine (cN _).mono ?_; rintro e w1 ⟨rfl, hb1⟩; have HB1 : Aside (Below w.heap.size w w1) := HS.out.below.trans (hb1.mono (by omega)); clear hb1)
            go_ret3
            rw [HV.out]
            exact ⟨⟨_, rfl, fun _ => rfl, fun h => by cases h⟩, HB1.out⟩
        · have hltz : ¬ (k : Int) < (L.length : Int) := by omega
          obtain rfl : k = L.length := by omega
          have HV : Aside (newR L = (0, 0)) := by
            have := HE.out.1
            rw [newAt_end (by omega)] at this
            exact this.symm
          have HNm : Aside (∀ s ∈ L, nameP s) := by
            have := HE.out.2
            rw [List.take_length] at this
            exact this
          have hNS := HS.out
          rw [List.take_length] at hNS
          have cS := sorted_any L (by omega) (by omega) (fun s h => name_size (HNm.out s h)) w wr v1 v2 hNS
          have cb := hNS.box.cell
          have c1 := hNS.c1
          clear hNS HS HE hltz hlt hg1 hR
          go_wp2_with fail
          refine cS.mono ?_
          rintro e w1 ⟨rfl, hbx, hbl, rk, hA, hRk⟩
          have cb1 := hbx.cell
          have HZ : Aside (AlphaFrom w1 w.heap.size w.heap.size L rk ∧ Ranked L rk ∧ Below w.heap.size w w1) := ⟨hA, hRk, hbl⟩
          clear cS hbx hbl hA hRk
          go_wp2
          go_ret3
          rw [HV.out]
          exact ⟨⟨_, rfl, fun h => absurd rfl h, fun _ => ⟨_, rk, rfl, HZ.out.1, HZ.out.2.1⟩⟩, HZ.out.2.2⟩
end Go.Proofs.YtcocbjipikeebaaDoor.Utf
