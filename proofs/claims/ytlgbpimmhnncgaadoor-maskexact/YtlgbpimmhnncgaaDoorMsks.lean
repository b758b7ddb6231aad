/-
  The program's sequence of a mask's numbers: Each's value gives just the numbers, rising, for every loop body, whether it goes through or stops.
-/
import Derived.Test.YtlgbpimmhnncgaaDoorMska
import Derived.RangeFuncNested
import Derived.RangeFuncBound
import Derived.RangeFuncCalls
import Derived.RangeFuncLeaves
import Derived.RangeFuncWrites
import Derived.RangeFuncBox
import Derived.Shelf.Abstract
import Derived.Shelf.RegionOpen
import Derived.OwnWalkIn
import Derived.TacticsInMore
import Derived.LoopNIn
import Derived.LoopIn
import Derived.Sort.LoopGhostIn
import Derived.Lib.OthersKept
namespace Go.Proofs.YtlgbpimmhnncgaaDoor.Msk
open Go Go.Lib Go.RowKit Go.Shelf
attribute [local go_sem] Oper.semAt_some

/-- What a loop's body must keep: the library's table. -/
def KeepsTab (A B : World) : Prop := B.heap[0]? = A.heap[0]?
theorem keepsTab_t {A B C : World} (h : KeepsTab A B) (k : KeepsTab B C) : KeepsTab A C := by
  unfold KeepsTab at *
  exact k.trans h
theorem keepsTab_b {w : World} (hw : 0 < w.heap.size) (W : World) (l : Nat) (o o' : Obj) (hl : w.heap.size ≤ l) (_ : W.heap[l]? = some o) (_ : o.isCells = false) (_ : o.isWalk = false) : KeepsTab W (W.putObj l o') :=
  World.putObj_heap_other (by omega)
theorem Tab.keeps {A B : World} (h : Tab A) (k : KeepsTab A B) : Tab B := h.of k

theorem each_in (F : Fence) (n : Nat) (hf : F.fn 19) (hro : F.round = none) (m : Int) (w : World) :
    CallsIn F n Tryd.prog 19 #[.int .u64 m] w fun e w' => e = .returned (.func (.func 24) #[] #[.pointer (some ⟨w.heap.size, 0, none⟩)]) ∧ w' = w.alloc (.cells #[.int .u64 m] 23) := by
  refine callsIn_of_wp Tryd.func19 rfl hf ?_ hro
  simp only [Tryd.ntmps19, List.size_toArray, List.length_cons, List.length_nil, Nat.reduceAdd, Nat.reduceSub, Array.replicate_succ, Array.replicate_zero, List.push_toArray, List.append_toArray, List.nil_append, List.cons_append]
  gi_wp2
  go_ret
  exact ⟨rfl, rfl⟩

theorem and_less (x : Nat) (hx : x < 18446744073709551616) (h0 : x ≠ 0) : bits BinOp.and IntKind.u64 (x : Int) ((x : Int) - 1) = ((x &&& (x - 1) : Nat) : Int) := by
  have e : (x : Int) - 1 = ((x - 1 : Nat) : Int) := by omega
  rw [e, bits_and_u64_nat x _ hx (by omega)]

set_option maxRecDepth 100000 in
set_option maxHeartbeats 2000000 in
theorem each1_in (n : Nat) (hn : 1 ≤ n) (l Bs : Nat) (m : Nat) (hm : m < 18446744073709551616) (J Jx : List Nat → World → Prop) (W : World) (hT : Tab W)
    (hY : ∀ (pre : List Nat) (x : Nat) (W1 : World), J pre W1 → pre.length < (bitsL m).length → YieldAt Fence.wide (n - 1) Tryd.prog l #[.int .i64 (x : Int)] W1 fun e W' =>
      (e = .returned (.bool true) ∧ J (pre ++ [x]) W' ∧ KeepsTab W1 W') ∨ (e = .returned (.bool false) ∧ Jx (pre ++ [x]) W'))
    (hBs : W.cell? ⟨Bs, 0, none⟩ = some (.int .u64 m)) (h0 : J [] W) :
    CallsIn Fence.wide n Tryd.prog 24 #[.func (.yield l) #[] #[], .pointer (some ⟨Bs, 0, none⟩)] W fun e W' => (∃ v, e = .returned v) ∧
      ((∃ ys, ys = bitsL m ∧ J ys W') ∨ (∃ pre, pre <+: bitsL m ∧ Jx pre W')) := by
  have hro : Fence.wide.round = none := rfl
  refine callsIn_of_wp Tryd.func24 rfl trivial ?_ hro
  simp only [Tryd.ntmps24, List.size_toArray, List.length_cons, List.length_nil, Nat.reduceAdd, Nat.reduceSub, Array.replicate_succ, Array.replicate_zero, List.push_toArray, List.append_toArray, List.nil_append, List.cons_append]
  gi_wp2
  gi_loopg [3] (bitsL m).length (fun g1 rv wr => ∃ (pre : List Nat) (r : Nat), rv = .int .u64 (r : Int) ∧ r < 18446744073709551616 ∧ (bitsL r).length ≤ g1 ∧ J pre wr ∧ Tab wr ∧ Aside (pre ++ bitsL r = bitsL m))
  case atStart => exact ⟨[], m, rfl, hm, Nat.le_refl _, h0, hT, rfl⟩
  case round =>
    obtain ⟨pre, r, rfl, hr, hg, hj, hTr, HP⟩ := hrel
    by_cases hr0 : r = 0
    · subst hr0
      gi_wp2
      go_end0
      refine ⟨⟨_, rfl⟩, .inl ⟨pre, ?_, hj⟩⟩
      have := HP.out
      rw [bitsL_zero, List.append_nil] at this
      exact this
    · have hrb : ((r : Int) == 0) = false := by rw [beq_eq_false_iff_ne]; omega
      have cT := tz_any r hr hr0 wr hTr
      have hst := bitsL_step r hr0 hr
      have ea := and_less r hr hr0
      have hrl := rest_lt hr
      have HP2 : Aside ((pre ++ [ctz 64 r]) ++ bitsL (r &&& (r - 1)) = bitsL m) := by
        show _ = _
        rw [← HP.out, hst]; simp
      have hlen : pre.length < (bitsL m).length := by rw [← HP2.out]; simp
      have hg2 : (bitsL (r &&& (r - 1))).length + 1 ≤ (bitsL r).length := by rw [hst]; simp
      obtain ⟨fn, tmps, assign, body, hy, hR⟩ := hY pre (ctz 64 r) wr hj hlen
      generalize r &&& (r - 1) = q at *
      generalize ctz 64 r = z at *
      clear hst HP hY hlen
      gi_wp2_with (refine ⟨trivial, ?_⟩; gi_at_call 25; refine (callsIn_wide.2 cT).mono ?_; rintro e w' ⟨rfl, hw⟩; obtain rfl := hw.symm)
      refine hR.mono ?_
      rintro e W3 (⟨rfl, hJ3, hk3⟩ | ⟨rfl, hJx3⟩)
      · have hT3 := hTr.keeps hk3
        gi_wp2
        go_roundg (bitsL q).length
        case measure => omega
        case rel => exact ⟨_, q, rfl, hrl, Nat.le_refl _, hJ3, hT3, HP2⟩
      · gi_wp2
        refine bodyPost_ret (results_none rfl _ _ _) rfl ?_
        exact ⟨⟨_, rfl⟩, .inr ⟨_, ⟨_, HP2.out⟩, hJx3⟩⟩

theorem each_stops (n : Nat) (hn : 1 ≤ n) (Bs : Nat) (m : Nat) (hm : m < 18446744073709551616) (w : World) (hT : Tab w) (hBs : Bs < w.heap.size) (hc : w.cell? ⟨Bs, 0, none⟩ = some (.int .u64 m)) :
    SeqStopsK Fence.wide n Tryd.prog 24 #[.pointer (some ⟨Bs, 0, none⟩)] (fun x : Nat => #[Value.int .i64 (x : Int)]) KeepsTab (fun ys => ys = bitsL m) (fun pre => pre <+: bitsL m) (bitsL m).length w :=
  fun l J Jx W hW _ _ hY h0 => each1_in n hn l Bs m hm J Jx W (hT.below hT.size hW) hY ((hW.cell (p := ⟨Bs, 0, none⟩) hBs).trans hc) h0
end Go.Proofs.YtlgbpimmhnncgaaDoor.Msk
