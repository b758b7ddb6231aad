/-
  The program's sequence of places and runes: All's value gives just the pairs of the text, for every loop body, whether it goes through or stops.
-/
import Derived.Test.YtcocbjipikeebaaDoorProg
import Derived.Test.YtcocbjipikeebaaDoorGutf
import Derived.RangeFuncNested
import Derived.RangeFuncBound
import Derived.RangeFuncCalls
import Derived.RangeFuncLeaves
import Derived.Shelf.Abstract
import Derived.Shelf.RegionOpen
import Derived.WalkKit
import Derived.OwnWalkIn
import Derived.TacticsInMore
import Derived.LoopNIn
import Derived.LoopIn
import Derived.Lib.OthersKept
import Derived.WalkSmall
namespace Go.Proofs.YtcocbjipikeebaaDoor.Utf
open Go Go.Lib Go.RowKit Go.Shelf
attribute [local go_sem] Oper.semAt_some

set_option maxHeartbeats 400000 in
theorem all_in (F : Fence) (n : Nat) (hf : F.fn 42) (hro : F.round = none) (s : ByteArray) (w : World) :
    CallsIn F n Tryd.prog 42 #[.string s] w fun e w' => e = .returned (.func (.func 60) #[] #[.pointer (some ⟨w.heap.size, 0, none⟩)]) ∧ w' = w.alloc (.cells #[.string s] 9) := by
  refine callsIn_of_wp Tryd.func42 rfl hf ?_ hro
  simp only [Tryd.ntmps42, List.size_toArray, List.length_cons, List.length_nil, Nat.reduceAdd, Nat.reduceSub, Array.replicate_succ, Array.replicate_zero, List.push_toArray, List.append_toArray, List.nil_append, List.cons_append]
  gi_wp2
  go_ret
  exact ⟨rfl, rfl⟩

theorem iterAt_put (w : World) (k : Nat) (s : ByteArray) (p : Nat) : w.iterAt k s p = w.putObj k (.stringIter s p) := rfl

set_option maxRecDepth 100000 in
set_option maxHeartbeats 2000000 in
theorem all1_in (F : Fence) (n : Nat) (hf : F.fn 60) (hro : F.round = none) (hn : 1 ≤ n) (l Bs : Nat) (s : ByteArray) (J Jx : List (Nat × Nat) → World → Prop) (W : World) (hJ : AbidesFrom W.heap.size J)
    (hY : ∀ pre x W1, J pre W1 → pre.length < (pairs s).length → YieldAt F (n - 1) Tryd.prog l #[.int .i64 (x.1 : Int), .int .i32 (x.2 : Int)] W1 fun e W' =>
      (e = .returned (.bool true) ∧ J (pre ++ [x]) W' ∧ KeepsWalks W1 W') ∨ (e = .returned (.bool false) ∧ Jx (pre ++ [x]) W'))
    (hBs : W.cell? ⟨Bs, 0, none⟩ = some (.string s)) (h0 : J [] W) :
    CallsIn F n Tryd.prog 60 #[.func (.yield l) #[] #[], .pointer (some ⟨Bs, 0, none⟩)] W fun e W' => (∃ v, e = .returned v) ∧
      ((∃ ys, ys = pairs s ∧ J ys W') ∨ (∃ pre, pre <+: pairs s ∧ Jx pre W')) := by
  refine callsIn_of_wp Tryd.func60 rfl hf ?_ hro
  simp only [Tryd.ntmps60, List.size_toArray, List.length_cons, List.length_nil, Nat.reduceAdd, Nat.reduceSub, Array.replicate_succ, Array.replicate_zero, List.push_toArray, List.append_toArray, List.nil_append, List.cons_append]
  gi_wp2
  gi_loopw [3] (fun _ wr => ∃ (pre : List (Nat × Nat)) (pos b : Nat), wr.heap[W.heap.size]? = some (.stringIter s pos) ∧ J pre wr ∧ Hid (pre ++ pairsFrom s b pos = pairs s) ∧ s.size ≤ pos + b)
    (fun _ wr => s.size - wr.iterPos W.heap.size)
  case atStart => exact ⟨[], 0, s.size, World.iter_heap W s 0, hJ [] W _ none h0 (World.grownBy_alloc W _ _) (fun r e => by cases e), rfl, by omega⟩
  case round =>
    obtain ⟨pre, pos, b, hk, hj, HP, hb⟩ := hrel
    have hpos0 := iterPos_of hk
    by_cases hp : pos < s.size
    · have hnx : ∀ ty, (Instr.next (.pointer (some ⟨W.heap.size, 0, none⟩)) true ty).run Tryd.prog wr = _ := fun ty => run_next_any_at wr _ s pos ty hk hp
      have hwd := Lib.decode_width_pos s pos hp
      obtain ⟨b, rfl⟩ : ∃ f', b = f' + 1 := ⟨b - 1, by omega⟩
      have hit2 := Lib.iterAt_heap wr W.heap.size s pos (pos + (Utf8.decode s pos).2) hk
      have hj2 : J pre (wr.iterAt W.heap.size s (pos + (Utf8.decode s pos).2)) := hJ pre wr _ (some W.heap.size) hj (by rw [iterAt_put]; exact grownBy_putObj' _ _ _) (fun r e => by cases e; exact ⟨Nat.le_refl _, _, hk, rfl⟩)
      obtain ⟨W1, hW1⟩ : ∃ W1, W1 = wr.iterAt W.heap.size s (pos + (Utf8.decode s pos).2) := ⟨_, rfl⟩
      rw [← hW1] at hnx hit2 hj2
      have HP2 : Hid ((pre ++ [(pos, (Utf8.decode s pos).1)]) ++ pairsFrom s b (pos + (Utf8.decode s pos).2) = pairs s) := by
        have := HP.out
        rw [pairsFrom_step hp] at this
        show _ = _
        rw [← this]; simp
      have hlen : pre.length < (pairs s).length := by rw [← HP2.out]; simp
      obtain ⟨fn, tmps, assign, body, hy, hR⟩ := hY pre (pos, (Utf8.decode s pos).1) W1 hj2 hlen
      dsimp only at hy
      clear hW1 hk hj HP hY hJ
      gi_wp2
      refine hR.mono ?_
      rintro e W3 (⟨rfl, hJ3, hk3⟩ | ⟨rfl, hJx3⟩)
      · have hit3 := hk3.same _ _ hit2 rfl
        gi_wp2
        go_roundw
        case rel => exact ⟨_, _, b, hit3, hJ3, HP2, by omega⟩
        case measure => rw [iterPos_of hit3, hpos0]; omega
      · gi_wp2
        refine bodyPost_ret (results_none rfl _ _ _) rfl ?_
        exact ⟨⟨_, rfl⟩, .inr ⟨_, ⟨_, HP2.out⟩, hJx3⟩⟩
    · have hnx : ∀ ty, (Instr.next (.pointer (some ⟨W.heap.size, 0, none⟩)) true ty).run Tryd.prog wr = _ := fun ty => run_next_end_at wr _ s pos ty hk hp
      gi_wp2
      go_end0
      refine ⟨⟨_, rfl⟩, .inl ⟨pre, ?_, hj⟩⟩
      have := HP.out
      rw [pairsFrom_end s b pos hp, List.append_nil] at this
      exact this

theorem all_stops (F : Fence) (n : Nat) (hf : F.fn 60) (hro : F.round = none) (hn : 1 ≤ n) (Bs : Nat) (s : ByteArray) (w : World) (hBs : Bs < w.heap.size) (hc : w.cell? ⟨Bs, 0, none⟩ = some (.string s)) :
    SeqStopsK F n Tryd.prog 60 #[.pointer (some ⟨Bs, 0, none⟩)] (fun x : Nat × Nat => #[Value.int .i64 (x.1 : Int), Value.int .i32 (x.2 : Int)]) KeepsWalks (fun ys => ys = pairs s) (fun pre => pre <+: pairs s) (pairs s).length w :=
  fun l J Jx W hW hJ _ hY h0 => all1_in F n hf hro hn l Bs s J Jx W hJ hY ((hW.cell (p := ⟨Bs, 0, none⟩) hBs).trans hc) h0
end Go.Proofs.YtcocbjipikeebaaDoor.Utf
