/-
  Subsets walked: the document's list of a word's first subsets, and the program's sequence of them.
-/
import Derived.Test.YtlgbpimmhnncgaaDoorMskc
namespace Go.Proofs.YtlgbpimmhnncgaaDoor.Msk
open Go Go.Lib Go.RowKit Go.Shelf
attribute [local go_sem] Oper.semAt_some

theorem sub_in (F : Fence) (n : Nat) (hf : F.fn 21) (hro : F.round = none) (m : Int) (w : World) :
    CallsIn F n Tryd.prog 21 #[.int .u64 m] w fun e w' => e = .returned (.func (.func 26) #[] #[.pointer (some ⟨w.heap.size, 0, none⟩)]) ∧ w' = w.alloc (.cells #[.int .u64 m] 23) := by
  refine callsIn_of_wp Tryd.func21 rfl hf ?_ hro
  simp only [Tryd.ntmps21, List.size_toArray, List.length_cons, List.length_nil, Nat.reduceAdd, Nat.reduceSub, Array.replicate_succ, Array.replicate_zero, List.push_toArray, List.append_toArray, List.nil_append, List.cons_append]
  gi_wp2
  go_ret
  exact ⟨rfl, rfl⟩

/-- All subsets of a word, rising. -/
def subsL (m : Nat) : List Nat := (List.range (2 ^ (bitsL m).length)).map (subK m)
theorem subsL_length (m : Nat) : (subsL m).length = 2 ^ (bitsL m).length := by simp [subsL]
theorem subK_lt (m k : Nat) : subK m k < 18446744073709551616 := dep_lt 64 m k
theorem subK_next {m k : Nat} (hm : m < 18446744073709551616) (hk : k + 1 < 2 ^ (bitsL m).length) : aft 64 (subK m k) m = subK m (k + 1) := by
  rw [cnt_bits] at hk
  exact dep_next 64 m k hm hk
theorem subsL_take (m k : Nat) (h : k ≤ 2 ^ (bitsL m).length) : (subsL m).take k = (List.range k).map (subK m) := by
  unfold subsL
  rw [← List.map_take, List.take_range, Nat.min_eq_left h]

set_option maxRecDepth 100000 in
set_option maxHeartbeats 2000000 in
theorem sub1_in (n : Nat) (hn : 1 ≤ n) (l Bs : Nat) (m : Nat) (hm : m < 18446744073709551616) (J Jx : List Nat → World → Prop) (W : World)
    (hY : ∀ (pre : List Nat) (x : Nat) (W1 : World), J pre W1 → pre.length < (subsL m).length → YieldAt Fence.wide (n - 1) Tryd.prog l #[.int .u64 (x : Int)] W1 fun e W' =>
      (e = .returned (.bool true) ∧ J (pre ++ [x]) W' ∧ W'.heap[Bs]? = W1.heap[Bs]?) ∨ (e = .returned (.bool false) ∧ Jx (pre ++ [x]) W'))
    (hBs : W.cell? ⟨Bs, 0, none⟩ = some (.int .u64 m)) (h0 : J [] W) :
    CallsIn Fence.wide n Tryd.prog 26 #[.func (.yield l) #[] #[], .pointer (some ⟨Bs, 0, none⟩)] W fun e W' => (∃ v, e = .returned v) ∧
      ((∃ ys, ys = subsL m ∧ J ys W') ∨ (∃ pre, pre <+: subsL m ∧ Jx pre W')) := by
  have hro : Fence.wide.round = none := rfl
  refine callsIn_of_wp Tryd.func26 rfl trivial ?_ hro
  simp only [Tryd.ntmps26, List.size_toArray, List.length_cons, List.length_nil, Nat.reduceAdd, Nat.reduceSub, Array.replicate_succ, Array.replicate_zero, List.push_toArray, List.append_toArray, List.nil_append, List.cons_append]
  gi_wp2
  have hp := Nat.two_pow_pos (bitsL m).length
  have HN : Aside ((subsL m).length = 2 ^ (bitsL m).length) := subsL_length m
  have HS : Aside (∀ k, k + 1 < 2 ^ (bitsL m).length → aft 64 (subK m k) m = subK m (k + 1)) := fun k hk => subK_next hm hk
  have HE : Aside (∀ k, k < 2 ^ (bitsL m).length → (subK m k = m ↔ k + 1 = 2 ^ (bitsL m).length)) := fun k hk => subK_eq_last hm hk
  have HT : Aside (∀ k, k ≤ 2 ^ (bitsL m).length → (subsL m).take k = (List.range k).map (subK m)) := fun k hk => subsL_take m k hk
  have h00 : subK m 0 = 0 := dep_zero 64 m
  generalize 2 ^ (bitsL m).length = N at *
  gi_loopg [3] N (fun g1 rv wr => ∃ (k : Nat), rv = .int .u64 (subK m k : Int) ∧ k < N ∧ N - k ≤ g1 ∧ J ((List.range k).map (subK m)) wr ∧ wr.cell? ⟨Bs, 0, none⟩ = some (.int .u64 m))
  case atStart => exact ⟨0, by rw [h00]; rfl, hp, by omega, h0, hBs⟩
  case round =>
    obtain ⟨k, rfl, hk, hg, hj, hcr⟩ := hrel
    have hsl := subK_lt m k
    obtain ⟨fn, tmps, assign, body, hy, hR⟩ := hY _ (subK m k) wr hj (by rw [HN.out]; simpa using hk)
    have HL : Aside ((List.range k).map (subK m) ++ [subK m k] = (List.range (k + 1)).map (subK m)) := by show _ = _; rw [List.range_succ, List.map_append]; rfl
    have hEk := HE.out k hk
    have hSk := HS.out k
    have cA := fun W => after_any (subK m k) m hsl hm W
    clear h00
    have HJ : Aside (∀ j, j = k + 1 → (subsL m).take j = (List.range j).map (subK m)) := fun j hjk => HT.out j (by omega)
    generalize hsk : subK m k = s at *
    have HSK : Aside (subK m k = s) := hsk
    clear hsk
    gi_wp2
    refine hR.mono ?_
    rintro e W3 (⟨rfl, hJ3, hk3⟩ | ⟨rfl, hJx3⟩)
    · have hc3 : W3.cell? ⟨Bs, 0, none⟩ = some (.int .u64 m) := by
        simp only [World.cell?] at hcr ⊢
        rw [hk3]; exact hcr
      by_cases hlast : k + 1 = N
      · obtain rfl := hEk.2 hlast
        clear hEk hSk cA
        gi_wp2
        refine bodyPost_ret (results_none rfl _ _ _) rfl ?_
        refine ⟨⟨_, rfl⟩, .inl ⟨_, ?_, hJ3⟩⟩
        rw [HL.out, ← HJ.out (k + 1) rfl, List.take_of_length_le (by rw [HN.out]; omega)]
      · have hne : ((s : Int) == (m : Int)) = false := by
          rw [beq_eq_false_iff_ne]
          intro e
          exact hlast (hEk.1 (by omega))
        have hnx := hSk (by omega)
        rw [hnx] at cA
        clear hEk hSk hnx
        gi_wp2_with (refine ⟨trivial, ?_⟩; gi_at_call 27; refine (callsIn_wide.2 (cA _)).mono ?_; rintro e w' ⟨rfl, hw⟩; obtain rfl := hw.symm)
        go_roundg (N - (k + 1))
        case measure => omega
        case rel => exact ⟨k + 1, rfl, by omega, Nat.le_refl _, by rw [← HL.out]; exact hJ3, hc3⟩
    · gi_wp2
      go_end0
      refine ⟨⟨_, rfl⟩, .inr ⟨_, ?_, hJx3⟩⟩
      rw [HL.out, ← HJ.out (k + 1) rfl]
      exact List.take_prefix _ _

/-- What a loop's body must keep: the sequence's box. -/
def KeepsBox (Bs : Nat) (A B : World) : Prop := B.heap[Bs]? = A.heap[Bs]?
theorem keepsBox_t {Bs : Nat} {A B C : World} (h : KeepsBox Bs A B) (k : KeepsBox Bs B C) : KeepsBox Bs A C := by
  unfold KeepsBox at *
  exact k.trans h
theorem keepsBox_b {Bs : Nat} {w : World} (hw : Bs < w.heap.size) (W : World) (l : Nat) (o o' : Obj) (hl : w.heap.size ≤ l) (_ : W.heap[l]? = some o) (_ : o.isCells = false) (_ : o.isWalk = false) : KeepsBox Bs W (W.putObj l o') :=
  World.putObj_heap_other (by omega)
theorem sub_stops (n : Nat) (hn : 1 ≤ n) (Bs : Nat) (m : Nat) (hm : m < 18446744073709551616) (w : World) (hBs : Bs < w.heap.size) (hc : w.cell? ⟨Bs, 0, none⟩ = some (.int .u64 m)) :
    SeqStopsK Fence.wide n Tryd.prog 26 #[.pointer (some ⟨Bs, 0, none⟩)] (fun x : Nat => #[Value.int .u64 (x : Int)]) (KeepsBox Bs) (fun ys => ys = subsL m) (fun pre => pre <+: subsL m) (subsL m).length w :=
  fun l J Jx W hW _ _ hY h0 => sub1_in n hn l Bs m hm J Jx W hY ((hW.cell (p := ⟨Bs, 0, none⟩) hBs).trans hc) h0
end Go.Proofs.YtlgbpimmhnncgaaDoor.Msk
