/-
  The law on capitals walked: for every rune that an int32 can be it answers true.
-/
import Derived.Test.YtjfkihljgicijaaAwk2
namespace Go.Proofs.Ytjfkihljgicijaa.Utf
open Go Go.Lib Go.RowKit

theorem pl_self {x : Int} (h : plR x = [wr x]) : pl x = Utf8.encode x := by
  unfold pl
  rw [h, encR_one]
theorem pl_pos (c : Int) : 0 < (pl c).size := by
  have h := plR_len c
  rw [← ba_len, pl_list]
  cases hl : plR c with
  | nil => rw [hl] at h; simp at h
  | cons x r =>
    have h1 := (enc_size x).1
    rw [encR_cons, List.length_append, encB_size]
    omega
/-- The runes of a capital letter's plain form, as going through the text gives them. -/
theorem pl_runes {c : Int} (hc : isL c) (hu : up c = c) {x : Nat × Nat} (hx : x ∈ pairs (pl c)) : cls (x.2 : Int) = 1 ∧ up (x.2 : Int) = x.2 ∧ pl (x.2 : Int) = Utf8.encode (x.2 : Int) := by
  have hm : (pairs (pl c)).map (fun x => x.2) = plR c := written_self fun x hx => (plR_plain hc hu x hx).2.2.2
  have : x.2 ∈ plR c := by rw [← hm]; exact List.mem_map_of_mem hx
  obtain ⟨a, b, d, e⟩ := plR_plain hc hu _ this
  exact ⟨cls_1.2 a, b, pl_self (by rw [d, e])⟩

set_option maxHeartbeats 2000000 in
theorem foldCapitals_walk (r : Int) (w : World) (h0 : -2147483648 ≤ r) (h1 : r ≤ 2147483647) :
    Calls Try.prog 5 #[.int .i32 r] w fun e w' => e = .returned (.bool true) ∧ Below w.heap.size w w' := by
  have cA := awake2_any w
  have hcs := up_cases r
  have hcb : -2147483648 ≤ up r ∧ up r ≤ 2147483647 := by unfold up32 up1 at hcs; omega
  have c1 := fun w => upper_any r w h0 h1
  have c2 := fun w => upper_any (up r) w hcb.1 hcb.2
  have c3 := fun w => class_any (up r) w
  have c4 := fun w => class_any r w
  have hu := up_up r
  rw [up_up] at c2
  rw [up_cls] at c3
  have cP := fun w => plain_any (up r) w
  have hl := fun h => (up_letter r).2 h
  have hr := fun h => @pl_runes (up r) (hl h) hu
  have hp0 := pl_pos (up r)
  have hz := pl_size (up r)
  clear hcs hcb hu hl
  generalize up r = U at *
  generalize pl U = P at *
  by_cases hL : isL r
  · have hr' := @hr hL
    rw [cls_1.2 hL] at c3 c4
    clear hr hL
    have hq : ((P.size : Int) > 0) := by omega
    go_enter Try.func5, Try.ntmps5
    go_wp2_with fail
    refine cA.mono ?_
    rintro e w1 ⟨rfl, hb1⟩
    go_wp2_with fail
    refine (c1 _).mono ?_
    rintro e w2 ⟨rfl, hw⟩
    obtain rfl := hw.symm
    go_wp2_with fail
    refine (c2 _).mono ?_
    rintro e w2 ⟨rfl, hw⟩
    obtain rfl := hw.symm
    go_wp2_with fail
    refine (c3 _).mono ?_
    rintro e w2 ⟨rfl, hw⟩
    obtain rfl := hw.symm
    go_wp2_with fail
    refine (c4 _).mono ?_
    rintro e w2 ⟨rfl, hw⟩
    obtain rfl := hw.symm
    go_wp2_with fail
    refine (c3 _).mono ?_
    rintro e w2 ⟨rfl, hw⟩
    obtain rfl := hw.symm
    go_wp2_with fail
    refine (cP _).mono ?_
    rintro e w2 ⟨rfl, hw⟩
    obtain rfl := hw.symm
    clear c1 c2 c3 c4 cP cA
    go_wp2
    go_loopw [6] (fun _ w' => ∃ (pre : List (Nat × Nat)) (pos b : Nat), w'.heap[w1.heap.size]? = some (.stringIter P pos) ∧ Below w.heap.size w w' ∧ Hid (pre ++ pairsFrom P b pos = pairs P) ∧ P.size ≤ pos + b) (fun _ w' => P.size - w'.iterPos w1.heap.size)
    case atStart => exact ⟨[], 0, P.size, World.iter_heap w1 P 0, hb1.alloc hb1.size _, rfl, by omega⟩
    case round =>
      obtain ⟨pre, pos, b, hk, hB, HP, hb⟩ := hrel
      have hpos0 := iterPos_of hk
      by_cases hp : pos < P.size
      · have hnx : ∀ ty, (Instr.next (.pointer (some ⟨w1.heap.size, 0, none⟩)) true ty).run Try.prog wr = _ := fun ty => run_next_any_at wr _ P pos ty hk hp
        have hwd := Lib.decode_width_pos P pos hp
        obtain ⟨b, rfl⟩ : ∃ f', b = f' + 1 := ⟨b - 1, by omega⟩
        have hit2 := Lib.iterAt_heap wr w1.heap.size P pos (pos + (Utf8.decode P pos).2) hk
        have hB2 := Lib.below_iterAt hB (k := w1.heap.size) hb1.size P (pos + (Utf8.decode P pos).2)
        obtain ⟨W1, hW1⟩ : ∃ W1, W1 = wr.iterAt w1.heap.size P (pos + (Utf8.decode P pos).2) := ⟨_, rfl⟩
        rw [← hW1] at hnx hit2 hB2
        have HP2 : Hid ((pre ++ [(pos, (Utf8.decode P pos).1)]) ++ pairsFrom P b (pos + (Utf8.decode P pos).2) = pairs P) := by
          have := HP.out
          rw [pairsFrom_step hp] at this
          show _ = _
          rw [← this]; simp
        have hmem : (pos, (Utf8.decode P pos).1) ∈ pairs P := by rw [← HP2.out]; simp
        obtain ⟨e1, e2, e3⟩ := hr' hmem
        dsimp only at e1 e2 e3
        have hcb : ((Utf8.decode P pos).1 : Int) ≤ 1119 := by have := cls_1.1 e1; unfold isL at this; omega
        have c1 := fun w => class_any ((Utf8.decode P pos).1 : Int) w
        have c2 := fun w => upper_any ((Utf8.decode P pos).1 : Int) w (by omega) (by omega)
        have c3 := fun w => plain_any ((Utf8.decode P pos).1 : Int) w
        have c4 := fun w => encode_any ((Utf8.decode P pos).1 : Int) w
        rw [e1] at c1
        rw [e2] at c2
        rw [e3] at c3
        clear hW1 hk hB HP hr' e1 e2 e3 hmem
        generalize hc : (Utf8.decode P pos).1 = c at *
        generalize hd : (Utf8.decode P pos).2 = d at *
        generalize Utf8.encode (c : Int) = E at *
        clear hc hd
        go_wp2_with (first
          | (go_at_call 9; refine (c1 _).mono ?_; rintro e w' ⟨rfl, hw⟩; obtain rfl := hw.symm)
          | (go_at_call 11; refine (c2 _).mono ?_; rintro e w' ⟨rfl, hw⟩; obtain rfl := hw.symm)
          | (go_at_call 13; refine (c3 _).mono ?_; rintro e w' ⟨rfl, hw⟩; obtain rfl := hw.symm)
          | (go_at_call 22; refine (c4 _).mono ?_; rintro e w' ⟨rfl, hw⟩; obtain rfl := hw.symm))
        go_roundw
        case rel => exact ⟨_, _, b, hit2, hB2, HP2, by omega⟩
        case measure => rw [iterPos_of hit2, hpos0]; omega
      · have hnx : ∀ ty, (Instr.next (.pointer (some ⟨w1.heap.size, 0, none⟩)) true ty).run Try.prog wr = _ := fun ty => run_next_end_at wr _ P pos ty hk hp
        clear hr'
        go_wp2
        go_ret
        exact ⟨rfl, hB⟩
  · have hq : (cls r == 1) = false := by rw [beq_eq_false_iff_ne]; exact fun h => hL (cls_1.1 h)
    generalize cls r = C at *
    clear hr hL
    go_enter Try.func5, Try.ntmps5
    go_wp2_with fail
    refine cA.mono ?_
    rintro e w1 ⟨rfl, hb1⟩
    go_wp2_with fail
    refine (c1 _).mono ?_
    rintro e w2 ⟨rfl, hw⟩
    obtain rfl := hw.symm
    go_wp2_with fail
    refine (c2 _).mono ?_
    rintro e w2 ⟨rfl, hw⟩
    obtain rfl := hw.symm
    go_wp2_with fail
    refine (c3 _).mono ?_
    rintro e w2 ⟨rfl, hw⟩
    obtain rfl := hw.symm
    go_wp2_with fail
    refine (c4 _).mono ?_
    rintro e w2 ⟨rfl, hw⟩
    obtain rfl := hw.symm
    go_wp2_with fail
    refine (c3 _).mono ?_
    rintro e w2 ⟨rfl, hw⟩
    obtain rfl := hw.symm
    go_wp2
    go_ret
    exact ⟨rfl, hb1⟩
end Go.Proofs.Ytjfkihljgicijaa.Utf
