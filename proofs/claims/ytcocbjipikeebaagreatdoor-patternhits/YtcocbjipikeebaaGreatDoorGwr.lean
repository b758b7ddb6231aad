/-
  Plain facts on the words of a text: the longest pieces without a blank, by their two ends.
-/
import Derived.Test.YtcocbjipikeebaaGreatDoorGutf
import Derived.Test.YtcocbjipikeebaaGreatDoorFldwq
import Derived.Maps.AppendAt
import Derived.RangeFuncBox
namespace Go.Proofs.YtcocbjipikeebaaGreatDoor.Utf
open Go Go.Lib

/-- What a word under way becomes at the text's end, and at a blank. -/
def wEnd (s : ByteArray) (st : Option Nat) : List (Nat × Nat) := match st with | none => [] | some a => [(a, s.size)]
def wCut (st : Option Nat) (pos : Nat) : List (Nat × Nat) := match st with | none => [] | some a => [(a, pos)]
/-- The words' ends from a place on; st: where the word under way begins. -/
def wordsFrom (s : ByteArray) : Nat → Nat → Option Nat → List (Nat × Nat)
  | 0, _, st => wEnd s st
  | f + 1, pos, st => if pos < s.size then
      (if isB ((Utf8.decode s pos).1 : Int) then wCut st pos ++ wordsFrom s f (pos + (Utf8.decode s pos).2) none
       else wordsFrom s f (pos + (Utf8.decode s pos).2) (some (st.getD pos)))
    else wEnd s st
def wordsP (s : ByteArray) : List (Nat × Nat) := wordsFrom s s.size 0 none
theorem wordsFrom_end (s : ByteArray) (f pos : Nat) (st : Option Nat) (h : ¬ pos < s.size) : wordsFrom s f pos st = wEnd s st := by
  cases f with
  | zero => rfl
  | succ f => rw [wordsFrom, if_neg h]
theorem wordsFrom_blank {s : ByteArray} {f pos : Nat} {st : Option Nat} (h : pos < s.size) (hb : isB ((Utf8.decode s pos).1 : Int)) : wordsFrom s (f + 1) pos st = wCut st pos ++ wordsFrom s f (pos + (Utf8.decode s pos).2) none := by
  rw [wordsFrom, if_pos h, if_pos hb]
theorem wordsFrom_step {s : ByteArray} {f pos : Nat} {st : Option Nat} (h : pos < s.size) (hb : ¬ isB ((Utf8.decode s pos).1 : Int)) : wordsFrom s (f + 1) pos st = wordsFrom s f (pos + (Utf8.decode s pos).2) (some (st.getD pos)) := by
  rw [wordsFrom, if_pos h, if_neg hb]
/-- The words as texts. -/
def wtx (s : ByteArray) (l : List (Nat × Nat)) : List ByteArray := l.map fun x => s.extract x.1 x.2
theorem wtx_append (s : ByteArray) (a b : List (Nat × Nat)) : wtx s (a ++ b) = wtx s a ++ wtx s b := by simp [wtx]
theorem wtx_length (s : ByteArray) (a : List (Nat × Nat)) : (wtx s a).length = a.length := by simp [wtx]
def wordsT (s : ByteArray) : List ByteArray := wtx s (wordsP s)
theorem wtx_snoc (s : ByteArray) (a : List (Nat × Nat)) (x y : Nat) : (wtx s (a ++ [(x, y)])).map Value.string = (wtx s a).map Value.string ++ [.string (s.extract x y)] := by simp [wtx]
/-- Where a word begins, as the program keeps it. -/
def stI (st : Option Nat) : Int := match st with | none => -1 | some a => (a : Int)
end Go.Proofs.YtcocbjipikeebaaGreatDoor.Utf
/-
  The program's Words: the words of the text, from the left, in a new list, for every text of up to 16777216 bytes.
-/
namespace Go.Proofs.YtcocbjipikeebaaGreatDoor.Utf
open Go Go.Lib Go.RowKit

theorem infoStr : (Tryz.prog.info? 9).map (fun i => (i.zero, i.size, i.bytes)) = some (some (.string ⟨#[]⟩), 1, 16) := by kernel_rfl
theorem slice_mid (w : World) (s : ByteArray) (a b : Nat) (z : Int) (hz : z = (b : Int)) (h1 : a ≤ b) (h2 : b ≤ s.size) :
    (Instr.slice 9 (.string s) (some (.int .i64 (a : Int))) (some (.int .i64 z)) none).run Tryz.prog w = .ok (.string (s.extract a b)) w := by
  subst hz
  have := run_slice_string (P := Tryz.prog) w 9 s .i64 .i64 (a : Int) (b : Int) Tryz.underlying9 (by omega) (by omega) (by omega)
  rw [Int.toNat_natCast, Int.toNat_natCast] at this
  exact this

set_option maxRecDepth 100000 in
set_option maxHeartbeats 2000000 in
theorem words_any (s : ByteArray) (w : World) (hs : s.size ≤ 16777216) :
    Calls Tryz.prog 101 #[.string s] w fun e w' => ∃ v, e = .returned v ∧ w'.ownsRow (w.heap.size + 1) 9 1 v (wordsP s).length ((wordsT s).map Value.string) ∧ Below w.heap.size w w' := by
  obtain ⟨i0, hi, hz0, hz1, hz2⟩ := info_parts infoStr
  go_enter Tryz.func101, Tryz.ntmps101
  go_wp2
  go_loopw [3, 4] (fun v sv wr => ∃ (pre : List (Nat × Nat)) (pos b : Nat) (st : Option Nat), wr.heap[w.heap.size]? = some (.stringIter s pos) ∧ sv = .int .i64 (stI st) ∧ wr.ownsRow (w.heap.size + 1) 9 1 v pre.length ((wtx s pre).map Value.string) ∧ Below w.heap.size w wr ∧ Hid (pre ++ wordsFrom s b pos st = wordsP s) ∧ s.size ≤ pos + b ∧ pos ≤ s.size ∧ pre.length ≤ pos ∧ (∀ a, st = some a → a ≤ pos))
    (fun _ _ wr => s.size - wr.iterPos w.heap.size)
  case atStart => exact ⟨[], 0, s.size, none, World.iter_heap w s 0, rfl, World.ownsRow_nil _ _ _ _, (Below.refl _ _).alloc (Nat.le_refl _) _, rfl, by omega, Nat.zero_le _, Nat.le_refl _, fun _ h => by cases h⟩
  case round =>
    obtain ⟨pre, pos, b, st, hk, rfl, hown, hB, HP, hb, hps, hpl, hst⟩ := hrel
    have hpos0 := iterPos_of hk
    by_cases hp : pos < s.size
    · have hnx : ∀ ty, (Instr.next (.pointer (some ⟨w.heap.size, 0, none⟩)) true ty).run Tryz.prog wr = _ := fun ty => run_next_any_at wr _ s pos ty hk hp
      have hwd := decode_fits s pos hp
      obtain ⟨b, rfl⟩ : ∃ f', b = f' + 1 := ⟨b - 1, by omega⟩
      have hit2 := Lib.iterAt_heap wr w.heap.size s pos (pos + (Utf8.decode s pos).2) hk
      have hB2 := Lib.below_iterAt hB (k := w.heap.size) (Nat.le_refl _) s (pos + (Utf8.decode s pos).2)
      have hown2 := ownsRow_iterAt hown (k := w.heap.size) (by omega) s (pos + (Utf8.decode s pos).2)
      obtain ⟨W1, hW1⟩ : ∃ W1, W1 = wr.iterAt w.heap.size s (pos + (Utf8.decode s pos).2) := ⟨_, rfl⟩
      rw [← hW1] at hnx hit2 hB2 hown2
      have hlt : w.heap.size < W1.heap.size := (Array.getElem?_eq_some_iff.1 hit2).1
      have cC := fun W => class_any ((Utf8.decode s pos).1 : Int) W
      have HS := @wordsFrom_step s b pos st hp
      have HQ := @wordsFrom_blank s b pos st hp
      have hc3 := @cls_3 ((Utf8.decode s pos).1 : Int)
      clear hW1 hk hown hB
      generalize hc : (Utf8.decode s pos).1 = c at *
      generalize hd : (Utf8.decode s pos).2 = d at *
      clear hc hd
      by_cases hBl : isB (c : Int)
      · rw [hc3.2 hBl] at cC
        rw [HQ hBl] at HP
        clear HS HQ hc3
        cases st with
        | none =>
          have HP2 : Hid (pre ++ wordsFrom s b (pos + d) none = wordsP s) := HP
          simp only [stI]
          clear HP
          go_wp2_with (go_at_call 58; refine (cC _).mono ?_; rintro e w' ⟨rfl, hw⟩; obtain rfl := hw.symm)
          go_roundw
          case rel => exact ⟨_, _, b, none, hit2, rfl, hown2, hB2, HP2, by omega, by omega, by omega, fun _ h => by cases h⟩
          case measure => rw [iterPos_of hit2, hpos0]; omega
        | some a =>
          have hap := hst a rfl
          have HP2 : Hid ((pre ++ [(a, pos)]) ++ wordsFrom s b (pos + d) none = wordsP s) := by
            have := HP.out
            show _ = _
            rw [List.append_assoc]; exact this
          have hsl := fun w z hz => slice_mid w s a pos z hz hap (by omega)
          have HX : Hid ((wtx s (pre ++ [(a, pos)])).map Value.string = (wtx s pre).map Value.string ++ [.string (s.extract a pos)]) := wtx_snoc s pre a pos
          simp only [stI]
          generalize s.extract a pos = X at *
          clear HP
          go_wp2_with (first
            | (go_at_call 58; refine (cC _).mono ?_; rintro e w' ⟨rfl, hw⟩; obtain rfl := hw.symm)
            | (rw [hsl _ _ rfl])
            | (at_builtin; refine wpList_append_own _ rfl _ _ 22 rfl (w.heap.size + 1) 9 i0 (.string ⟨#[]⟩) 1 16 Tryz.underlying22 hi hz0 hz1 hz2 rfl (by decide) _ _ _ rfl (hown2.alloc _) ⟨W1.heap.size, 0, none⟩ 1 1 [.string X] rfl rfl (cell_one_new _ _ _) (by simp [Value.oneCell']) (by unfold maxLen; omega) (by omega) (by simp; omega) ?_))
          intro v' w1 hown' hgrow _
          have hit3 : w1.heap[w.heap.size]? = some (.stringIter s (pos + d)) := by
            rw [hgrow.block w.heap.size (by simp; omega) (fun h => by have := (hown2.lt _ h.symm).1; omega), Below.heap_alloc _ _ _ hlt]; exact hit2
          have hB3 : Below w.heap.size w w1 := Below.grown (hB2.alloc (by omega) _) hgrow (by simp; omega) (fun j hj => by have := (hown2.lt _ hj).1; omega)
          have hown3 : w1.ownsRow (w.heap.size + 1) 9 1 v' (pre ++ [(a, pos)]).length ((wtx s (pre ++ [(a, pos)])).map Value.string) := by
            rw [HX.out, List.length_append]; exact hown'
          obtain ⟨g', cap', rfl⟩ := ownsRow_succ hown'
          clear hown' hgrow hown2 hB2 hit2
          go_wp2
          go_roundw
          case rel => exact ⟨_, _, b, none, hit3, rfl, hown3, hB3, HP2, by omega, by omega, by simp; omega, fun _ h => by cases h⟩
          case measure => rw [iterPos_of hit3, hpos0]; omega
      · have hq : (cls (c : Int) == 3) = false := by rw [beq_eq_false_iff_ne]; exact fun h => hBl (hc3.1 h)
        rw [HS hBl] at HP
        clear HS HQ hc3
        generalize cls (c : Int) = C at *
        cases st with
        | none =>
          have HP2 : Hid (pre ++ wordsFrom s b (pos + d) (some pos) = wordsP s) := HP
          simp only [stI]
          clear HP
          go_wp2_with (go_at_call 58; refine (cC _).mono ?_; rintro e w' ⟨rfl, hw⟩; obtain rfl := hw.symm)
          go_roundw
          case rel => exact ⟨_, _, b, some pos, hit2, rfl, hown2, hB2, HP2, by omega, by omega, by omega, fun a h => by cases h; omega⟩
          case measure => rw [iterPos_of hit2, hpos0]; omega
        | some a =>
          have hap := hst a rfl
          have HP2 : Hid (pre ++ wordsFrom s b (pos + d) (some a) = wordsP s) := HP
          simp only [stI]
          clear HP
          go_wp2_with (go_at_call 58; refine (cC _).mono ?_; rintro e w' ⟨rfl, hw⟩; obtain rfl := hw.symm)
          go_roundw
          case rel => exact ⟨_, _, b, some a, hit2, rfl, hown2, hB2, HP2, by omega, by omega, by omega, fun a h => by cases h; omega⟩
          case measure => rw [iterPos_of hit2, hpos0]; omega
    · have hnx : ∀ ty, (Instr.next (.pointer (some ⟨w.heap.size, 0, none⟩)) true ty).run Tryz.prog wr = _ := fun ty => run_next_end_at wr _ s pos ty hk hp
      rw [wordsFrom_end s b pos st hp] at HP
      have hlt : w.heap.size < wr.heap.size := (Array.getElem?_eq_some_iff.1 hk).1
      cases st with
      | none =>
        have HE : Hid (pre = wordsP s) := by
          have := HP.out
          rw [wEnd, List.append_nil] at this
          exact this
        simp only [stI]
        clear HP
        go_wp2
        go_ret
        refine ⟨_, rfl, ?_, hB⟩
        unfold wordsT
        rw [← HE.out]; exact hown
      | some a =>
        have hap := hst a rfl
        have HE : Hid (pre ++ [(a, s.size)] = wordsP s) := HP
        have HX : Hid ((wtx s (pre ++ [(a, s.size)])).map Value.string = (wtx s pre).map Value.string ++ [.string (s.extract a s.size)]) := wtx_snoc s pre a s.size
        simp only [stI]
        clear HP
        go_wp2_with (first
            | (at_builtin; refine wpList_append_own _ rfl _ _ 22 rfl (w.heap.size + 1) 9 i0 (.string ⟨#[]⟩) 1 16 Tryz.underlying22 hi hz0 hz1 hz2 rfl (by decide) _ _ _ rfl (hown.alloc _) ⟨wr.heap.size, 0, none⟩ 1 1 [.string (s.extract a s.size)] rfl rfl (cell_one_new _ _ _) (by simp [Value.oneCell']) (by unfold maxLen; omega) (by omega) (by simp; omega) ?_))
        intro v' w1 hown' hgrow _
        have hB3 : Below w.heap.size w w1 := Below.grown (hB.alloc (by omega) _) hgrow (by simp; omega) (fun j hj => by have := (hown.lt _ hj).1; omega)
        have hown3 : w1.ownsRow (w.heap.size + 1) 9 1 v' (wordsP s).length ((wordsT s).map Value.string) := by
          unfold wordsT
          rw [← HE.out, HX.out, List.length_append]; exact hown'
        obtain ⟨g', cap', rfl⟩ := ownsRow_succ hown'
        clear hown' hgrow hown hB
        go_wp2
        go_ret
        exact ⟨_, rfl, hown3, hB3⟩
end Go.Proofs.YtcocbjipikeebaaGreatDoor.Utf
