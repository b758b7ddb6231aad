/-
  The law on words walked: for every text of up to 1048576 bytes it answers true.
-/
import Derived.Test.YtjfkihljgicijaaIni
import Derived.Test.YtjfkihljgicijaaWrdk
import Derived.Test.YtjfkihljgicijaaSamet
namespace Go.Proofs.Ytjfkihljgicijaa.Utf
open Go Go.Lib Go.RowKit

/-- The letters of words, one behind the other. -/
def foldL (p : Bool) (l : List ByteArray) : List UInt8 := l.flatMap fun w => (foldS p w).data.toList
theorem foldL_next (p : Bool) {ts : List ByteArray} {k : Nat} (h : k < ts.length) : foldL p (ts.take (k + 1)) = foldL p (ts.take k) ++ (foldS p ts[k]).data.toList := by
  unfold foldL
  exact flatMap_take (fun w => (foldS p w).data.toList) h
theorem foldL_bound {p : Bool} {ts : List ByteArray} {L : List UInt8} {k : Nat} (hL : foldL p ts = L) (_h : k < ts.length) : (foldL p (ts.take (k + 1))).length ≤ L.length := by
  have : ts = ts.take (k + 1) ++ ts.drop (k + 1) := (List.take_append_drop _ _).symm
  have e : foldL p ts = foldL p (ts.take (k + 1)) ++ foldL p (ts.drop (k + 1)) := by
    conv => lhs; rw [this]
    exact List.flatMap_append
  rw [← hL, e, List.length_append]
  omega
theorem joinB_next {ts : List ByteArray} {k : Nat} (h : k < ts.length) : joinB (ts.take (k + 1)) = (if 0 < k then joinB (ts.take k) ++ [32] else []) ++ ts[k].data.toList := by
  rw [List.take_succ_eq_append_getElem h]
  split
  · rename_i h0
    rw [joinB_snoc _ (by intro e; have := congrArg List.length e; rw [List.length_take, List.length_nil] at this; omega), List.append_assoc]
    rfl
  · have : k = 0 := by omega
    subst this
    rw [List.take_zero, List.nil_append, joinB_one]
    rfl
theorem joinB_bound {ts : List ByteArray} {n k : Nat} (hL : (spaced ts).length ≤ n) (_h : k < ts.length) : (joinB (ts.take (k + 1))).length ≤ n := by
  have : ts = ts.take (k + 1) ++ ts.drop (k + 1) := (List.take_append_drop _ _).symm
  rw [this, spaced_append, List.length_append] at hL
  unfold joinB
  rw [List.length_drop]
  omega

set_option maxHeartbeats 4000000 in
theorem foldWords_walk (s : ByteArray) (p : Bool) (w : World) (hs : s.size ≤ 1048576) :
    Calls Try.prog 7 #[.string s, .bool p] w fun e w' => e = .returned (.bool true) ∧ Below w.heap.size w w' := by
  have cA := awake2_any w
  have hwl := words_len s
  have hws := word_size s
  have hcl := words_clean s
  have hsp := words_spaced s
  have hfw : foldL p (wordsT s) = _ := words_fold p s
  have hfz := foldS_size p s
  have cW := fun w => words_any s w (by omega)
  have cF := fun w => fold_any s p w (by omega)
  rw [← wordsT_len] at cW hwl
  generalize wordsT s = ts at *
  generalize foldS p s = FS at *
  go_enter Try.func7, Try.ntmps7
  go_wp2_with fail
  refine cA.mono ?_
  rintro e w1 ⟨rfl, hb1⟩
  go_wp2_with fail
  refine (cW _).mono ?_
  rintro e w2 ⟨v, rfl, hown, hb2⟩
  obtain ⟨ao, cap, rfl, hcell⟩ := row_cells hown
  have hb12 := hb1.trans (hb2.mono hb1.size)
  clear hown cA hb2
  go_wp2_with fail
  go_loopw [6, 7, 18] (fun jv lv iv wr => ∃ (k : Nat) (J T : ByteArray), iv = .int .i64 (k : Int) ∧ jv = .string J ∧ lv = .string T ∧ k ≤ ts.length ∧ Hid (J.data.toList = joinB (ts.take k)) ∧ Hid (T.data.toList = foldL p (ts.take k)) ∧ J.size ≤ 1048577 ∧ T.size ≤ 8388608 ∧ Below w2.heap.size w2 wr)
    (fun _ _ iv _ => ts.length - (RowKit.intOf iv).toNat)
  case atStart => exact ⟨0, ⟨#[]⟩, ⟨#[]⟩, rfl, rfl, rfl, Nat.zero_le _, rfl, rfl, Nat.zero_le _, Nat.zero_le _, Below.refl _ _⟩
  case round =>
    obtain ⟨k, J, T, rfl, rfl, rfl, hk, HJ, HT, hJz, hTz, hB⟩ := hrel
    by_cases hlt : k < ts.length
    · obtain ⟨g, cur, rfl, hgb, hg, hc⟩ := hcell k hlt
      have hgl := (Array.getElem?_eq_some_iff.1 hg).1
      have hc' : wr.cell? ⟨g, k, none⟩ = some (.string ts[k]) := (hB.cell (p := ⟨g, k, none⟩) hgl).trans hc
      have hts := hws ts[k] (List.getElem_mem hlt)
      have hcw := hcl ts[k] (List.getElem_mem hlt)
      have hj1 := joinB_next hlt
      have hj2 := joinB_bound hsp hlt
      have hf1 := foldL_next p hlt
      have hf2 := foldL_bound hfw hlt
      rw [ba_len] at hf2
      generalize ts[k] = X at *
      have cX := fun w => fold_any X p w (by omega)
      generalize foldS p X = FX at *
      have hTn : (T ++ FX).data.toList = foldL p (ts.take (k + 1)) := by rw [hf1, ba_append, HT.out]
      have hTs : (T ++ FX).size ≤ 8388608 := by rw [← ba_len, hTn]; omega
      have HTn : Hid ((T ++ FX).data.toList = foldL p (ts.take (k + 1))) := hTn
      have hTl : T.size + FX.size ≤ 8388608 := by rw [ByteArray.size_append] at hTs; exact hTs
      obtain ⟨J1, hJ1, hJ1s⟩ : ∃ J1 : ByteArray, (if 0 < k then J ++ ⟨#[32]⟩ else J) = J1 ∧ (J1 ++ X).data.toList = joinB (ts.take (k + 1)) := by
        refine ⟨_, rfl, ?_⟩
        rw [hj1, ba_append]
        split
        · rw [ba_append, HJ.out, List.append_assoc]
        · rw [HJ.out]
          have : k = 0 := by omega
          subst this
          rfl
      have hJs : (J1 ++ X).size ≤ 1048577 := by rw [← ba_len, hJ1s]; omega
      have HJn : Hid ((J1 ++ X).data.toList = joinB (ts.take (k + 1))) := hJ1s
      have hJl : J1.size + X.size ≤ 1048577 := by rw [ByteArray.size_append] at hJs; exact hJs
      have hX0 := hcw.1
      have hXp := hcw.2
      have hXl : X.data.toList ≠ [] := by
        intro e
        have := ba_len X
        rw [e] at this
        simp at this
        omega
      have hne1 : X.toList.isEmpty = false := by rw [Lib.toList_data]; simpa using hXl
      have hne2 : (X.toList == []) = false := by rw [Lib.toList_data]; simpa using hXl
      clear hcell hws hcl hc hj1 hj2 hf1 hf2 hTn hJ1s hfw hsp hcw hXl HJ HT hg
      generalize hTT : T ++ FX = T2 at *
      generalize hJJ : J1 ++ X = J2 at *
      have hinner : True := trivial
      clear hinner
      have hcase : (0 < k ∧ J ++ ⟨#[32]⟩ = J1 ∧ J.size + 1 ≤ 1048578) ∨ (¬ 0 < k ∧ J = J1) := by
        by_cases h0 : 0 < k
        · rw [if_pos h0] at hJ1; exact .inl ⟨h0, hJ1, by omega⟩
        · rw [if_neg h0] at hJ1; exact .inr ⟨h0, hJ1⟩
      clear hJ1
      rcases hcase with ⟨h0, hJ1, hJz1⟩ | ⟨h0, hJ1⟩
      · have h0i : (0 : Int) < (k : Int) := by omega
        go_wp2_with fail
        refine (cX _).mono ?_
        rintro e w3 ⟨rfl, hb3⟩
        have hB3 := hB.trans (hb3.mono hB.size)
        clear hc' cX hb3 hB
        go_wp2_with fail
        go_loopw [11] (fun _ wq => ∃ (pre : List (Nat × Nat)) (pos b : Nat), wq.heap[w3.heap.size]? = some (.stringIter X pos) ∧ Below w2.heap.size w2 wq ∧ Hid (pre ++ pairsFrom X b pos = pairs X) ∧ X.size ≤ pos + b) (fun _ wq => X.size - wq.iterPos w3.heap.size)
        case atStart => exact ⟨[], 0, X.size, World.iter_heap w3 X 0, hB3.alloc hB3.size _, rfl, by omega⟩
        case round =>
          obtain ⟨pre, pos, b, hk2, hBq, HP, hb⟩ := hrel
          rename World => wq
          have hpos0 := iterPos_of hk2
          by_cases hp : pos < X.size
          · have hnx : ∀ ty, (Instr.next (.pointer (some ⟨w3.heap.size, 0, none⟩)) true ty).run Try.prog wq = _ := fun ty => run_next_any_at wq _ X pos ty hk2 hp
            have hwd := Lib.decode_width_pos X pos hp
            obtain ⟨b, rfl⟩ : ∃ f', b = f' + 1 := ⟨b - 1, by omega⟩
            have hit2 := Lib.iterAt_heap wq w3.heap.size X pos (pos + (Utf8.decode X pos).2) hk2
            have hB2 := Lib.below_iterAt hBq (k := w3.heap.size) hB3.size X (pos + (Utf8.decode X pos).2)
            obtain ⟨W1, hW1⟩ : ∃ W1, W1 = wq.iterAt w3.heap.size X (pos + (Utf8.decode X pos).2) := ⟨_, rfl⟩
            rw [← hW1] at hnx hit2 hB2
            have HP2 : Hid ((pre ++ [(pos, (Utf8.decode X pos).1)]) ++ pairsFrom X b (pos + (Utf8.decode X pos).2) = pairs X) := by
              have := HP.out
              rw [pairsFrom_step hp] at this
              show _ = _
              rw [← this]; simp
            have hmem : (pos, (Utf8.decode X pos).1) ∈ pairs X := by rw [← HP2.out]; simp
            have hnb := hXp _ hmem
            dsimp only at hnb
            have hq : (cls ((Utf8.decode X pos).1 : Int) == 3) = false := by rw [beq_eq_false_iff_ne]; exact fun h => hnb (cls_3.1 h)
            have c1 := fun w => class_any ((Utf8.decode X pos).1 : Int) w
            clear hW1 hk2 hBq HP hXp hmem hnb
            generalize hc : (Utf8.decode X pos).1 = c at *
            generalize hd : (Utf8.decode X pos).2 = d at *
            generalize cls (c : Int) = C at *
            clear hc hd
            go_wp2_with (go_at_call 9; refine (c1 _).mono ?_; rintro e w' ⟨rfl, hw⟩; obtain rfl := hw.symm)
            go_roundw
            case rel => exact ⟨_, _, b, hit2, hB2, HP2, by omega⟩
            case measure => rw [iterPos_of hit2, hpos0]; omega
          · have hnx : ∀ ty, (Instr.next (.pointer (some ⟨w3.heap.size, 0, none⟩)) true ty).run Try.prog wq = _ := fun ty => run_next_end_at wq _ X pos ty hk2 hp
            clear hXp
            go_wp2
            go_roundw
            case rel => exact ⟨k + 1, J2, T2, by go_num, rfl, rfl, by omega, HJn, HTn, hJs, hTs, hBq⟩
            case measure => simp [RowKit.intOf]; omega
      · subst hJ1
        have h0i : ¬ (0 : Int) < (k : Int) := by omega
        go_wp2_with fail
        refine (cX _).mono ?_
        rintro e w3 ⟨rfl, hb3⟩
        have hB3 := hB.trans (hb3.mono hB.size)
        clear hc' cX hb3 hB
        go_wp2_with fail
        go_loopw [11] (fun _ wq => ∃ (pre : List (Nat × Nat)) (pos b : Nat), wq.heap[w3.heap.size]? = some (.stringIter X pos) ∧ Below w2.heap.size w2 wq ∧ Hid (pre ++ pairsFrom X b pos = pairs X) ∧ X.size ≤ pos + b) (fun _ wq => X.size - wq.iterPos w3.heap.size)
        case atStart => exact ⟨[], 0, X.size, World.iter_heap w3 X 0, hB3.alloc hB3.size _, rfl, by omega⟩
        case round =>
          obtain ⟨pre, pos, b, hk2, hBq, HP, hb⟩ := hrel
          rename World => wq
          have hpos0 := iterPos_of hk2
          by_cases hp : pos < X.size
          · have hnx : ∀ ty, (Instr.next (.pointer (some ⟨w3.heap.size, 0, none⟩)) true ty).run Try.prog wq = _ := fun ty => run_next_any_at wq _ X pos ty hk2 hp
            have hwd := Lib.decode_width_pos X pos hp
            obtain ⟨b, rfl⟩ : ∃ f', b = f' + 1 := ⟨b - 1, by omega⟩
            have hit2 := Lib.iterAt_heap wq w3.heap.size X pos (pos + (Utf8.decode X pos).2) hk2
            have hB2 := Lib.below_iterAt hBq (k := w3.heap.size) hB3.size X (pos + (Utf8.decode X pos).2)
            obtain ⟨W1, hW1⟩ : ∃ W1, W1 = wq.iterAt w3.heap.size X (pos + (Utf8.decode X pos).2) := ⟨_, rfl⟩
            rw [← hW1] at hnx hit2 hB2
            have HP2 : Hid ((pre ++ [(pos, (Utf8.decode X pos).1)]) ++ pairsFrom X b (pos + (Utf8.decode X pos).2) = pairs X) := by
              have := HP.out
              rw [pairsFrom_step hp] at this
              show _ = _
              rw [← this]; simp
            have hmem : (pos, (Utf8.decode X pos).1) ∈ pairs X := by rw [← HP2.out]; simp
            have hnb := hXp _ hmem
            dsimp only at hnb
            have hq : (cls ((Utf8.decode X pos).1 : Int) == 3) = false := by rw [beq_eq_false_iff_ne]; exact fun h => hnb (cls_3.1 h)
            have c1 := fun w => class_any ((Utf8.decode X pos).1 : Int) w
            clear hW1 hk2 hBq HP hXp hmem hnb
            generalize hc : (Utf8.decode X pos).1 = c at *
            generalize hd : (Utf8.decode X pos).2 = d at *
            generalize cls (c : Int) = C at *
            clear hc hd
            go_wp2_with (go_at_call 9; refine (c1 _).mono ?_; rintro e w' ⟨rfl, hw⟩; obtain rfl := hw.symm)
            go_roundw
            case rel => exact ⟨_, _, b, hit2, hB2, HP2, by omega⟩
            case measure => rw [iterPos_of hit2, hpos0]; omega
          · have hnx : ∀ ty, (Instr.next (.pointer (some ⟨w3.heap.size, 0, none⟩)) true ty).run Try.prog wq = _ := fun ty => run_next_end_at wq _ X pos ty hk2 hp
            clear hXp
            go_wp2
            go_roundw
            case rel => exact ⟨k + 1, J2, T2, by go_num, rfl, rfl, by omega, HJn, HTn, hJs, hTs, hBq⟩
            case measure => simp [RowKit.intOf]; omega
    · obtain rfl : k = ts.length := by omega
      rw [List.take_length] at HJ HT
      have hJe : J = ⟨(joinB ts).toArray⟩ := ba_ext (by rw [HJ.out])
      have hJw : wordsT J = ts := by rw [hJe]; exact join_words ts hcl
      have hTe : T = FS := ba_ext (by rw [HT.out, hfw])
      have cJ := fun w => words_any J w (by omega)
      rw [← wordsT_len, hJw] at cJ
      have hrd : Reads w2 ao (ts.map Value.string) := fun j hj => by
        obtain ⟨g, cur, a, _, b, c⟩ := hcell j (by simpa using hj)
        refine ⟨g, a, (Array.getElem?_eq_some_iff.1 b).1, ?_⟩
        rw [c]; simp
      have cS := fun a1 a2 c1 c2 w => sameTexts_eq ts a1 a2 c1 c2 w (by omega)
      subst hTe
      clear hcell hws hcl hfw hsp HJ HT hJe hJw
      go_wp2_with fail
      refine (cJ _).mono ?_
      rintro e w4 ⟨v, rfl, hown4, hb4⟩
      obtain ⟨ao4, cap4, rfl, hcell4⟩ := row_cells hown4
      have hrd4 : Reads w4 ao4 (ts.map Value.string) := fun j hj => by
        obtain ⟨g, cur, a, _, b, c⟩ := hcell4 j (by simpa using hj)
        refine ⟨g, a, (Array.getElem?_eq_some_iff.1 b).1, ?_⟩
        rw [c]; simp
      have hB4 := hB.trans (hb4.mono hB.size)
      clear hcell4 hown4
      go_wp2_with fail
      refine (cS _ _ _ _ _ hrd4 (hrd.below hB4)).mono ?_
      rintro e w5 ⟨rfl, hb5⟩
      have hB5 := hB4.trans (hb5.mono hB4.size)
      clear hrd4 hrd
      go_wp2_with fail
      refine (cF _).mono ?_
      rintro e w6 ⟨rfl, hb6⟩
      have hB6 := hB5.trans (hb6.mono hB5.size)
      go_wp2
      go_ret
      exact ⟨rfl, hb12.trans (hB6.mono hb12.size)⟩
end Go.Proofs.Ytjfkihljgicijaa.Utf
