/-
  What the program's calls on texts come to: Valid and the document's Encode, for every text, place and number, in every world that holds the two tables of unicode/utf8.
-/
import Derived.Test.YtiemndjcebhgcaaDoorUtfa
import Derived.WalkKit
import Derived.Lib.Walk
import Derived.Lib.RuneCountTail
import Derived.Laws.RangeString
import Derived.Laws.RangeAny
import Derived.LoopTactic
import Derived.Lib.OthersKept
import Derived.WalkSmall
import Derived.Laws.BytesArg
import Derived.Laws.IdiomStrings
import Derived.Deep.DeepFit
namespace Go.Proofs.YtiemndjcebhgcaaDoor.Utf
open Go Go.Lib Go.RowKit


set_option maxHeartbeats 400000 in
theorem one_any (s : ByteArray) (p : Int) (w : World) (hT : Lib.Utf8Tabs 0 1 w) :
    Calls Tryd.prog 15 #[.string s, .int .i64 p] w fun e w' => e = .returned (.bool (nextW s p == 1)) ∧ Below w.heap.size w w' := by
  have c := next_any s p w hT
  generalize nextR s p = R at *
  generalize nextW s p = K at *
  go_enter Tryd.func15, Tryd.ntmps15
  go_wp2_with fail
  refine c.mono ?_
  rintro e w' ⟨rfl, hb⟩
  go_wp2
  go_ret
  exact ⟨rfl, hb⟩


set_option maxHeartbeats 1000000 in
theorem valid_any (s : ByteArray) (w : World) (hT : Lib.Utf8Tabs 0 1 w) :
    Calls Tryd.prog 6 #[.string s] w fun e w' => e = .returned (.bool (validB s)) ∧ Below w.heap.size w w' := by
  have hz := tabs_size hT
  go_enter Tryd.func6, Tryd.ntmps6
  go_wp2
  go_loopw [3] (fun _ w' => ∃ (pos b : Nat), w'.heap[w.heap.size]? = some (.stringIter s pos) ∧ Below w.heap.size w w' ∧ validFrom s b pos = validB s ∧ s.size ≤ pos + b) (fun _ w' => s.size - w'.iterPos w.heap.size)
  case atStart => exact ⟨0, s.size, World.iter_heap w s 0, (Below.refl _ _).alloc (Nat.le_refl _) _, rfl, by omega⟩
  case round =>
    obtain ⟨pos, b, hk, hB, hv, hb⟩ := hrel
    have hpos0 := iterPos_of hk
    by_cases hp : pos < s.size
    · have hnx : ∀ ty, (Instr.next (.pointer (some ⟨w.heap.size, 0, none⟩)) true ty).run Tryd.prog wr = _ := fun ty => run_next_any_at wr _ s pos ty hk hp
      have hwd := Lib.decode_width_pos s pos hp
      obtain ⟨b, rfl⟩ : ∃ f', b = f' + 1 := ⟨b - 1, by omega⟩
      have hit2 := Lib.iterAt_heap wr w.heap.size s pos (pos + (Utf8.decode s pos).2) hk
      have hB2 := Lib.below_iterAt hB (k := w.heap.size) (Nat.le_refl _) s (pos + (Utf8.decode s pos).2)
      obtain ⟨W1, hW1⟩ : ∃ W1, W1 = wr.iterAt w.heap.size s (pos + (Utf8.decode s pos).2) := ⟨_, rfl⟩
      rw [← hW1] at hnx hit2 hB2
      have hT1 := tabs_below hB2 hz hT
      have hlt : w.heap.size < W1.heap.size := (Array.getElem?_eq_some_iff.1 hit2).1
      have HW := nextW_in hp
      have HR := validFrom_step (fuel := b) hp
      have HQ := validFrom_bad (fuel := b) hp
      clear hW1 hk hB
      generalize hc : (Utf8.decode s pos).1 = c at *
      generalize hd : (Utf8.decode s pos).2 = d at *
      by_cases h1 : c = 65533
      · have h1b : ((c : Int) == 65533) = true := by rw [beq_iff_eq]; omega
        by_cases h2 : d = 1
        · have h2b : (nextW s pos == 1) = true := by rw [HW, beq_iff_eq]; omega
          have HV : Hid (validB s = false) := hv ▸ HQ h1 h2
          clear hc hd HQ HR hv HW
          go_wp2_with fail
          refine (one_any s pos W1 hT1).mono ?_
          rintro e w' ⟨rfl, hb1⟩
          rw [h2b]
          go_wp2
          go_ret
          rw [HV.out]
          exact ⟨rfl, hB2.trans (hb1.mono (by omega))⟩
        · have h2b : (nextW s pos == 1) = false := by rw [HW, beq_eq_false_iff_ne]; omega
          have HV : Hid (validFrom s b (pos + d) = validB s) := (HR (by omega)).symm.trans hv
          clear hc hd HQ HR hv HW
          go_wp2_with fail
          refine (one_any s pos W1 hT1).mono ?_
          rintro e w' ⟨rfl, hb1⟩
          rw [h2b]
          have hit3 := (hb1.block _ hlt).trans hit2
          go_wp2
          go_roundw
          case rel => exact ⟨_, b, hit3, hB2.trans (hb1.mono (by omega)), HV.out, by omega⟩
          case measure => rw [iterPos_of hit3, hpos0]; omega
      · have h1b : ((c : Int) == 65533) = false := by rw [beq_eq_false_iff_ne]; omega
        have HV : Hid (validFrom s b (pos + d) = validB s) := (HR (by omega)).symm.trans hv
        clear hc hd HQ HR hv HW
        go_wp2
        go_roundw
        case rel => exact ⟨_, b, hit2, hB2, HV.out, by omega⟩
        case measure => rw [iterPos_of hit2, hpos0]; omega
    · have hnx : ∀ ty, (Instr.next (.pointer (some ⟨w.heap.size, 0, none⟩)) true ty).run Tryd.prog wr = _ := fun ty => run_next_end_at wr _ s pos ty hk hp
      have HV : Hid (validB s = true) := hv.symm.trans (validFrom_end s b pos hp)
      clear hv
      go_wp2
      go_ret
      rw [HV.out]
      exact ⟨rfl, hB⟩

theorem enc_bad {r : Int} (h : ¬ ((0 ≤ r ∧ r < 55296) ∨ (57344 ≤ r ∧ r ≤ 1114111))) : Utf8.encode r = ⟨#[239, 191, 189]⟩ := by
  have e := wr_bad h
  rw [enc3 (by omega) (by omega), e]
  rfl

theorem ret_str {a b : ByteArray} (h : a = b) : Ending.returned (.string a) = .returned (.string b) := by rw [h]
theorem encZ1 {r : Int} (h0 : 0 ≤ r) (h : r < 128) : Utf8.encode r = ⟨#[UInt8.ofNat r.toNat]⟩ := by
  have e := wr_valid (r := r) (by omega)
  rw [enc1 (by omega), e]
theorem encZ2 {r : Int} (h0 : 128 ≤ r) (h : r < 2048) : Utf8.encode r = ⟨#[UInt8.ofNat (192 + r / 64).toNat, UInt8.ofNat (128 + r % 64).toNat]⟩ := by
  have e := wr_valid (r := r) (by omega)
  rw [enc2 (by omega) (by omega), e, show (192 + r / 64).toNat = 192 + r.toNat / 64 by omega, show (128 + r % 64).toNat = 128 + r.toNat % 64 by omega]
theorem encZ3 {r : Int} (h0 : (2048 ≤ r ∧ r < 55296) ∨ (57344 ≤ r ∧ r < 65536)) : Utf8.encode r = ⟨#[UInt8.ofNat (224 + r / 4096).toNat, UInt8.ofNat (128 + r / 64 % 64).toNat, UInt8.ofNat (128 + r % 64).toNat]⟩ := by
  have e := wr_valid (r := r) (by omega)
  rw [enc3 (by omega) (by omega), e, show (224 + r / 4096).toNat = 224 + r.toNat / 4096 by omega, show (128 + r / 64 % 64).toNat = 128 + r.toNat / 64 % 64 by omega, show (128 + r % 64).toNat = 128 + r.toNat % 64 by omega]
theorem encZ4 {r : Int} (h0 : 65536 ≤ r) (h : r ≤ 1114111) : Utf8.encode r = ⟨#[UInt8.ofNat (240 + r / 262144).toNat, UInt8.ofNat (128 + r / 4096 % 64).toNat, UInt8.ofNat (128 + r / 64 % 64).toNat, UInt8.ofNat (128 + r % 64).toNat]⟩ := by
  have e := wr_valid (r := r) (by omega)
  rw [enc4 (by omega), e, show (240 + r / 262144).toNat = 240 + r.toNat / 262144 by omega, show (128 + r / 4096 % 64).toNat = 128 + r.toNat / 4096 % 64 by omega, show (128 + r / 64 % 64).toNat = 128 + r.toNat / 64 % 64 by omega, show (128 + r % 64).toNat = 128 + r.toNat % 64 by omega]
/-- A new slice of bytes, as a string. -/
theorem cv_new (w : World) (n : Nat) (xs : List Int) (hn : xs.length = n) :
    (convert 30 9 (.slice (some ⟨w.heap.size, 0, none⟩) n n)).run Tryd.prog (w.alloc (.cells (xs.map (Value.int .u8)).toArray 5)) = .ok (.string ⟨(xs.map fun n => UInt8.ofNat n.toNat).toArray⟩) (w.alloc (.cells (xs.map (Value.int .u8)).toArray 5)) := by
  refine run_convert_bytes_arg _ 30 5 Tryd.underlying30 Tryd.underlying5 w.heap.size 0 n n xs hn (fun i hi => ?_) 9 Tryd.underlying9
  rw [Nat.zero_add, World.cell?_alloc_mark w (xs.map (Value.int .u8)).toArray 5 (0, 0) i]
  simp [List.getElem?_eq_getElem (show i < xs.length by omega)]

end Go.Proofs.YtiemndjcebhgcaaDoor.Utf
