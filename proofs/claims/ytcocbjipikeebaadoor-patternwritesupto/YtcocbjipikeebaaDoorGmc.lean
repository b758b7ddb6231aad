/-
  The program's sequence of a mask's numbers: Each's value gives just the numbers, rising, for every loop body, whether it goes through or stops.
-/
import Derived.Test.YtcocbjipikeebaaDoorGms
import Derived.RangeFuncNested
import Derived.RangeFuncBound
import Derived.RangeFuncCalls
import Derived.RangeFuncLeaves
import Derived.RangeFuncWrites
import Derived.RangeFuncBox
import Derived.Shelf.Abstract
import Derived.Shelf.RegionOpen
import Derived.OwnWalkIn
import Derived.TacticsInMore
import Derived.LoopNIn
import Derived.LoopIn
import Derived.Sort.LoopGhostIn
import Derived.Lib.OthersKept
import Derived.Sort.CutIn
import Derived.Maps.OwnIn
import Derived.Laws.MakeOwn
namespace Go.Proofs.YtcocbjipikeebaaDoor.Msk
open Go Go.Lib Go.RowKit Go.Shelf
attribute [local go_sem] Oper.semAt_some

/-- What a loop's body must keep: the library's table. -/
def KeepsTab (A B : World) : Prop := B.heap[0]? = A.heap[0]?
theorem keepsTab_t {A B C : World} (h : KeepsTab A B) (k : KeepsTab B C) : KeepsTab A C := by
  unfold KeepsTab at *
  exact k.trans h
theorem keepsTab_b {w : World} (hw : 0 < w.heap.size) (W : World) (l : Nat) (o o' : Obj) (hl : w.heap.size ≤ l) (_ : W.heap[l]? = some o) (_ : o.isCells = false) (_ : o.isWalk = false) : KeepsTab W (W.putObj l o') :=
  World.putObj_heap_other (by omega)
theorem Tab.keeps {A B : World} (h : Tab A) (k : KeepsTab A B) : Tab B := h.of k

theorem each_in (F : Fence) (n : Nat) (hf : F.fn 58) (hro : F.round = none) (m : Int) (w : World) :
    CallsIn F n Tryd.prog 58 #[.int .u64 m] w fun e w' => e = .returned (.func (.func 71) #[] #[.pointer (some ⟨w.heap.size, 0, none⟩)]) ∧ w' = w.alloc (.cells #[.int .u64 m] 39) := by
  refine callsIn_of_wp Tryd.func58 rfl hf ?_ hro
  simp only [Tryd.ntmps58, List.size_toArray, List.length_cons, List.length_nil, Nat.reduceAdd, Nat.reduceSub, Array.replicate_succ, Array.replicate_zero, List.push_toArray, List.append_toArray, List.nil_append, List.cons_append]
  gi_wp2
  go_ret
  exact ⟨rfl, rfl⟩

theorem and_less (x : Nat) (hx : x < 18446744073709551616) (h0 : x ≠ 0) : bits BinOp.and IntKind.u64 (x : Int) ((x : Int) - 1) = ((x &&& (x - 1) : Nat) : Int) := by
  have e : (x : Int) - 1 = ((x - 1 : Nat) : Int) := by omega
  rw [e, bits_and_u64_nat x _ hx (by omega)]

set_option maxRecDepth 100000 in
set_option maxHeartbeats 2000000 in
theorem each1_in (n : Nat) (hn : 1 ≤ n) (l Bs : Nat) (m : Nat) (hm : m < 18446744073709551616) (J Jx : List Nat → World → Prop) (W : World) (hT : Tab W)
    (hY : ∀ (pre : List Nat) (x : Nat) (W1 : World), J pre W1 → pre.length < (bitsL m).length → YieldAt Fence.wide (n - 1) Tryd.prog l #[.int .i64 (x : Int)] W1 fun e W' =>
      (e = .returned (.bool true) ∧ J (pre ++ [x]) W' ∧ KeepsTab W1 W') ∨ (e = .returned (.bool false) ∧ Jx (pre ++ [x]) W'))
    (hBs : W.cell? ⟨Bs, 0, none⟩ = some (.int .u64 m)) (h0 : J [] W) :
    CallsIn Fence.wide n Tryd.prog 71 #[.func (.yield l) #[] #[], .pointer (some ⟨Bs, 0, none⟩)] W fun e W' => (∃ v, e = .returned v) ∧
      ((∃ ys, ys = bitsL m ∧ J ys W') ∨ (∃ pre, pre <+: bitsL m ∧ Jx pre W')) := by
  have hro : Fence.wide.round = none := rfl
  refine callsIn_of_wp Tryd.func71 rfl trivial ?_ hro
  simp only [Tryd.ntmps71, List.size_toArray, List.length_cons, List.length_nil, Nat.reduceAdd, Nat.reduceSub, Array.replicate_succ, Array.replicate_zero, List.push_toArray, List.append_toArray, List.nil_append, List.cons_append]
  gi_wp2
  gi_loopg [3] (bitsL m).length (fun g1 rv wr => ∃ (pre : List Nat) (r : Nat), rv = .int .u64 (r : Int) ∧ r < 18446744073709551616 ∧ (bitsL r).length ≤ g1 ∧ J pre wr ∧ Tab wr ∧ Aside (pre ++ bitsL r = bitsL m))
  case atStart => exact ⟨[], m, rfl, hm, Nat.le_refl _, h0, hT, rfl⟩
  case round =>
    obtain ⟨pre, r, rfl, hr, hg, hj, hTr, HP⟩ := hrel
    by_cases hr0 : r = 0
    · subst hr0
      gi_wp2
      go_end0
      refine ⟨⟨_, rfl⟩, .inl ⟨pre, ?_, hj⟩⟩
      have := HP.out
      rw [bitsL_zero, List.append_nil] at this
      exact this
    · have hrb : ((r : Int) == 0) = false := by rw [beq_eq_false_iff_ne]; omega
      have cT := tz_any r hr hr0 wr hTr
      have hst := bitsL_step r hr0 hr
      have ea := and_less r hr hr0
      have hrl := rest_lt hr
      have HP2 : Aside ((pre ++ [ctz 64 r]) ++ bitsL (r &&& (r - 1)) = bitsL m) := by
        show _ = _
        rw [← HP.out, hst]; simp
      have hlen : pre.length < (bitsL m).length := by rw [← HP2.out]; simp
      have hg2 : (bitsL (r &&& (r - 1))).length + 1 ≤ (bitsL r).length := by rw [hst]; simp
      obtain ⟨fn, tmps, assign, body, hy, hR⟩ := hY pre (ctz 64 r) wr hj hlen
      generalize r &&& (r - 1) = q at *
      generalize ctz 64 r = z at *
      clear hst HP hY hlen
      gi_wp2_with (refine ⟨trivial, ?_⟩; gi_at_call 72; refine (callsIn_wide.2 cT).mono ?_; rintro e w' ⟨rfl, hw⟩; obtain rfl := hw.symm)
      refine hR.mono ?_
      rintro e W3 (⟨rfl, hJ3, hk3⟩ | ⟨rfl, hJx3⟩)
      · have hT3 := hTr.keeps hk3
        gi_wp2
        go_roundg (bitsL q).length
        case measure => omega
        case rel => exact ⟨_, q, rfl, hrl, Nat.le_refl _, hJ3, hT3, HP2⟩
      · gi_wp2
        refine bodyPost_ret (results_none rfl _ _ _) rfl ?_
        exact ⟨⟨_, rfl⟩, .inr ⟨_, ⟨_, HP2.out⟩, hJx3⟩⟩

theorem each_stops (n : Nat) (hn : 1 ≤ n) (Bs : Nat) (m : Nat) (hm : m < 18446744073709551616) (w : World) (hT : Tab w) (hBs : Bs < w.heap.size) (hc : w.cell? ⟨Bs, 0, none⟩ = some (.int .u64 m)) :
    SeqStopsK Fence.wide n Tryd.prog 71 #[.pointer (some ⟨Bs, 0, none⟩)] (fun x : Nat => #[Value.int .i64 (x : Int)]) KeepsTab (fun ys => ys = bitsL m) (fun pre => pre <+: bitsL m) (bitsL m).length w :=
  fun l J Jx W hW _ _ hY h0 => each1_in n hn l Bs m hm J Jx W (hT.below hT.size hW) hY ((hW.cell (p := ⟨Bs, 0, none⟩) hBs).trans hc) h0
end Go.Proofs.YtcocbjipikeebaaDoor.Msk
/-
  The program's calls that go through the sequence: Count, List, Nth, for every word and number.
-/
namespace Go.Proofs.YtcocbjipikeebaaDoor.Msk
open Go Go.Lib Go.RowKit Go.Shelf
attribute [local go_sem] Oper.semAt_some

theorem keepsTab_set (W : World) (B : Nat) (v : Value) (hB : 0 < B) : KeepsTab W (W.setCell ⟨B, 0, none⟩ v) := Below.heap_setCell _ _ _ 0 (by show 0 ≠ B; omega)
theorem keepsTab_below {B : Nat} {W W' : World} (h : Below B W W') (hB : 0 < B) : KeepsTab W W' := h.block 0 hB
theorem snoc_len (pre : List Nat) (x : Nat) : ((pre ++ [x]).length : Int) = (pre.length : Int) + 1 := by simp
theorem results_box3 {fn : Func} {p : Tmp} (h : fn.results = #[.cell p 3]) (tmps : Array Value) (w : World) (g : Nat) (v : Value)
    (hp : tmps.getD p undef = .pointer (some ⟨g, 0, none⟩)) (hg : w.cell? ⟨g, 0, none⟩ = some v) :
    (results fn tmps).run Tryd.prog w = .ok v w := by
  have hp' : tmps[p]?.getD undef = .pointer (some ⟨g, 0, none⟩) := by simpa using hp
  simp only [results, h]
  simp [hp', asAddr]
  go_simp
theorem results_box4 {fn : Func} {p : Tmp} (h : fn.results = #[.cell p 4]) (tmps : Array Value) (w : World) (g : Nat) (v : Value)
    (hp : tmps.getD p undef = .pointer (some ⟨g, 0, none⟩)) (hg : w.cell? ⟨g, 0, none⟩ = some v) :
    (results fn tmps).run Tryd.prog w = .ok v w := by
  have hp' : tmps[p]?.getD undef = .pointer (some ⟨g, 0, none⟩) := by simpa using hp
  simp only [results, h]
  simp [hp', asAddr]
  go_simp

set_option maxRecDepth 100000 in
set_option maxHeartbeats 2000000 in
theorem count_any (m : Nat) (hm : m < 18446744073709551616) (w : World) (hT : Tab w) :
    Calls Tryd.prog 39 #[.int .u64 m] w fun e w' => e = .returned (.int .i64 ((bitsL m).length : Int)) ∧ Below w.heap.size w w' := by
  refine (callsIn_wide (n := 3)).1 ?_
  have hro : Fence.wide.round = none := rfl
  have hw0 := hT.size
  have hbl := bitsL_le m
  refine callsIn_of_wp_marks Tryd.func39 rfl trivial ?_ hro
  simp only [Tryd.ntmps39, List.size_toArray, List.length_cons, List.length_nil, Nat.reduceAdd, Nat.reduceSub, Array.replicate_succ, Array.replicate_zero, List.push_toArray, List.append_toArray, List.nil_append, List.cons_append]
  gi_wp2_with (refine ⟨trivial, ?_⟩; gi_at_call 58; refine (each_in Fence.wide _ trivial hro _ _).mono ?_; rintro e w' ⟨rfl, rfl⟩)
  have bN := (Boxed.new w 3 (.int .i64 0)).alloc (.cells #[.int .u64 (m : Int)] 39)
  have bM := Boxed.new (w.alloc (.cells #[.int .i64 0] 3)) 39 (.int .u64 (m : Int))
  have hB0 : Below w.heap.size w ((w.alloc (.cells #[.int .i64 0] 3)).alloc (.cells #[.int .u64 (m : Int)] 39)) := ((Below.refl _ w).alloc (Nat.le_refl _) _).alloc (by simp) _
  rw [World.size_alloc] at bM
  obtain ⟨W0, hW0⟩ : ∃ W0, (w.alloc (.cells #[.int .i64 0] 3)).alloc (.cells #[.int .u64 (m : Int)] 39) = W0 := ⟨_, rfl⟩
  rw [hW0] at bN bM hB0 ⊢
  clear hW0
  have hT0 := hT.below hw0 hB0
  refine wpIn_rangeFunc_ownG hro (by omega) (gf := 71) (lb := #[.pointer (some ⟨w.heap.size + 1, 0, none⟩)]) rfl trivial (enters_of Tryd.func71 (by kernel_rfl) rfl)
    (each_stops _ (by omega) (w.heap.size + 1) m hm W0 hT0 bM.lt bM.cell) keepsTab_t (keepsTab_b hT0.size) (Below.refl _ _) (fun _ => rfl)
    (fun pre W => Boxed W w.heap.size 3 (.int .i64 (pre.length : Int)) ∧ Below w.heap.size w W)
    (fun _ _ _ => False)
    (OwnFrom.and (Own.from (boxed_own w.heap.size 3 (fun pre : List Nat => .int .i64 (pre.length : Int))) _) (ownFrom_below (Nat.le_refl _) hB0.size))
    (fun _ _ _ _ _ h _ _ => h.elim)
    ⟨bN, hB0⟩
    (fun x => { tmps := #[.int .u64 (m : Int), undef, .int .i64 0, .pointer (some ⟨w.heap.size, 0, none⟩), .int .u64 (m : Int), .func (.func 71) #[] #[.pointer (some ⟨w.heap.size + 1, 0, none⟩)], .int .i64 (x : Int), undef, undef, undef], defers := [] }) ?assign ?body ?done ?stop
  case assign =>
    intro l x W K hK
    gi_wp2
    simpa using hK
  case body =>
    rintro l pre x W ⟨bk, hB⟩ hlen
    have ck := bk.cell
    have fk := bk.frozen
    have hlp : pre.length < 64 := by omega
    gi_wp2
    refine ⟨(KeepsOthers.setCell _ _ _).from _, keepsTab_set _ _ _ hw0, ?_, hB.setCell (p := ⟨w.heap.size, 0, none⟩) (Nat.le_refl _) _⟩
    rw [snoc_len]
    exact bk.set _
  case stop =>
    rintro D c pre W _ _ h _
    exact h.elim
  case done =>
    rintro D ys W hD rfl ⟨bk, hB⟩ hK
    have ck := bk.cell
    gi_wp2
    refine ⟨by simp, .inl ⟨_, _, rfl, run_takeDeferred hK, ?_⟩⟩
    exact ⟨_, results_tmp rfl _ _ _, rfl, hB.trans (belowK_b (w := w) (Nat.le_refl _) _ D _ _ (by have := hB0.size; omega) hK rfl rfl)⟩

/-- The k-th number; -1 where there is none. -/
def nthV (m : Nat) (k : Int) : Int := if 0 ≤ k then (match (bitsL m)[k.toNat]? with | some i => (i : Int) | none => -1) else -1
theorem nthV_out {m : Nat} {k : Int} (h : ¬ (0 ≤ k ∧ k < ((bitsL m).length : Int))) : nthV m k = -1 := by
  unfold nthV
  by_cases h0 : 0 ≤ k
  · rw [if_pos h0, List.getElem?_eq_none (by omega)]
  · rw [if_neg h0]
theorem nthV_in {m i : Nat} {k : Int} (h0 : 0 ≤ k) (h : (bitsL m)[k.toNat]? = some i) : nthV m k = (i : Int) := by
  unfold nthV
  rw [if_pos h0, h]

set_option maxRecDepth 100000 in
set_option maxHeartbeats 2000000 in
theorem nth_any (m : Nat) (k : Int) (hm : m < 18446744073709551616) (hk0 : -9223372036854775808 ≤ k) (hk1 : k ≤ 9223372036854775807) (w : World) (hT : Tab w) :
    Calls Tryd.prog 40 #[.int .u64 m, .int .i64 k] w fun e w' => e = .returned (.int .i64 (nthV m k)) ∧ Below w.heap.size w w' := by
  refine (callsIn_wide (n := 3)).1 ?_
  have hro : Fence.wide.round = none := rfl
  have hw0 := hT.size
  have hbl := bitsL_le m
  refine callsIn_of_wp_marks Tryd.func40 rfl trivial ?_ hro
  simp only [Tryd.ntmps40, List.size_toArray, List.length_cons, List.length_nil, Nat.reduceAdd, Nat.reduceSub, Array.replicate_succ, Array.replicate_zero, List.push_toArray, List.append_toArray, List.nil_append, List.cons_append]
  by_cases h0 : 0 ≤ k
  · gi_wp2_with (refine ⟨trivial, ?_⟩; gi_at_call 58; refine (each_in Fence.wide _ trivial hro _ _).mono ?_; rintro e w' ⟨rfl, rfl⟩)
    have bK := ((Boxed.new w 3 (.int .i64 k)).alloc (.cells #[.int .i64 0] 3)).alloc (.cells #[.int .u64 (m : Int)] 39)
    have bR := (Boxed.new (w.alloc (.cells #[.int .i64 k] 3)) 3 (.int .i64 0)).alloc (.cells #[.int .u64 (m : Int)] 39)
    have bM := Boxed.new ((w.alloc (.cells #[.int .i64 k] 3)).alloc (.cells #[.int .i64 0] 3)) 39 (.int .u64 (m : Int))
    have hB0 : Below w.heap.size w (((w.alloc (.cells #[.int .i64 k] 3)).alloc (.cells #[.int .i64 0] 3)).alloc (.cells #[.int .u64 (m : Int)] 39)) := (((Below.refl _ w).alloc (Nat.le_refl _) _).alloc (by simp) _).alloc (by simp; omega) _
    simp only [World.size_alloc] at bM bR
    obtain ⟨W0, hW0⟩ : ∃ W0, ((w.alloc (.cells #[.int .i64 k] 3)).alloc (.cells #[.int .i64 0] 3)).alloc (.cells #[.int .u64 (m : Int)] 39) = W0 := ⟨_, rfl⟩
    rw [hW0] at bK bR bM hB0 ⊢
    clear hW0
    have hT0 := hT.below hw0 hB0
    have HB0 : Aside (w.heap.size ≤ W0.heap.size) := hB0.size
    refine wpIn_rangeFunc_ownG hro (by omega) (gf := 71) (lb := #[.pointer (some ⟨w.heap.size + 1 + 1, 0, none⟩)]) rfl trivial (enters_of Tryd.func71 (by kernel_rfl) rfl)
      (each_stops _ (by omega) (w.heap.size + 1 + 1) m hm W0 hT0 bM.lt bM.cell) keepsTab_t (keepsTab_b hT0.size) (Below.refl _ _) (fun _ => rfl)
      (fun pre W => (Boxed W w.heap.size 3 (.int .i64 (k - (pre.length : Int))) ∧ Boxed W (w.heap.size + 1) 3 (.int .i64 0) ∧ (pre.length : Int) ≤ k) ∧ Below w.heap.size w W)
      (fun c pre W => (∃ ini x, c = .ret ∧ pre = ini ++ [x] ∧ (ini.length : Int) = k ∧ Boxed W (w.heap.size + 1) 3 (.int .i64 ((x : Nat) : Int))) ∧ Below w.heap.size w W)
      (OwnFrom.and (OwnFrom.and (Own.from (boxed_own w.heap.size 3 (fun pre : List Nat => .int .i64 (k - (pre.length : Int)))) _) (OwnFrom.and (Own.from (boxed_own (w.heap.size + 1) 3 (fun _ : List Nat => .int .i64 0)) _) (ownFrom_pure _ _))) (ownFrom_below (Nat.le_refl _) hB0.size))
      (fun c => OwnFrom.and (fun pre W W' row hs hg hr => by
        obtain ⟨ini, x, e1, e2, e3, e4⟩ := hs
        exact ⟨ini, x, e1, e2, e3, Own.from (boxed_own (w.heap.size + 1) 3 (fun _ : List Nat => .int .i64 (x : Int))) _ [] W W' row e4 hg hr⟩) (ownFrom_below (Nat.le_refl _) hB0.size))
      ⟨⟨by simpa using bK, bR, by simpa using h0⟩, hB0⟩
      (fun x => { tmps := #[.int .u64 (m : Int), .int .i64 k, undef, .pointer (some ⟨w.heap.size, 0, none⟩), .pointer (some ⟨w.heap.size + 1, 0, none⟩), .int .i64 (x : Int), .int .i64 k, .bool (decide (k < 0)), .int .u64 (m : Int), .func (.func 71) #[] #[.pointer (some ⟨w.heap.size + 1 + 1, 0, none⟩)], .int .i64 (x : Int), undef, undef, undef, undef, undef], defers := [] }) ?assign ?body ?done ?stop
    case assign =>
      intro l x W K hK
      gi_wp2
      exact hK
    case body =>
      rintro l pre x W ⟨⟨bk, br, hle⟩, hB⟩ hlen
      have ck := bk.cell
      have fk := bk.frozen
      have cr := br.cell
      have fr := br.frozen
      have hlp : pre.length < 64 := by omega
      by_cases he : k - (pre.length : Int) = 0
      · have s1 := br.set (.int .i64 (x : Int))
        rw [he] at ck
        gi_wp2
        exact ⟨(KeepsOthers.setCell _ _ _).from _, ⟨pre, x, rfl, rfl, by omega, s1⟩, hB.setCell (p := ⟨w.heap.size + 1, 0, none⟩) (by show w.heap.size ≤ w.heap.size + 1; omega) _⟩
      · have heb : (k - (pre.length : Int) == 0) = false := by rw [beq_eq_false_iff_ne]; exact he
        have s1 := bk.set (.int .i64 (k - (pre.length : Int) - 1))
        have s2 := br.other (B' := w.heap.size) (by omega) (.int .i64 (k - (pre.length : Int) - 1))
        gi_wp2
        refine ⟨(KeepsOthers.setCell _ _ _).from _, keepsTab_set _ _ _ hw0, ⟨?_, s2, ?_⟩, hB.setCell (p := ⟨w.heap.size, 0, none⟩) (Nat.le_refl _) _⟩
        · rw [snoc_len, show k - ((pre.length : Int) + 1) = k - (pre.length : Int) - 1 by omega]
          exact s1
        · rw [snoc_len]; omega
    case stop =>
      rintro D c pre W hD ⟨tl, htl⟩ ⟨⟨ini, x, rfl, rfl, hik, br⟩, hB⟩ hK
      have hN : nthV m k = (x : Int) := nthV_in h0 (by rw [← htl, List.append_assoc, List.getElem?_append_right (by omega), show k.toNat - ini.length = 0 by omega]; rfl)
      rw [← hN] at br
      have HRz : Aside ((W.putObj D (.deferred none)).cell? ⟨w.heap.size + 1, 0, none⟩ = some (.int .i64 (nthV m k))) := by
        have : Boxed (W.putObj D (.deferred none)) (w.heap.size + 1) 3 (.int .i64 (nthV m k)) := (World.putObj_heap_other (by have := bR.lt; omega)).trans br
        exact this.cell
      have HB : Aside (Below w.heap.size w W) := hB
      clear htl hN br
      gi_wp2
      refine ⟨by simp, .inl ⟨_, _, rfl, run_takeDeferred hK, ?_⟩⟩
      exact ⟨_, results_box3 rfl _ _ (w.heap.size + 1) _ (by rfl) HRz.out, rfl, HB.out.trans (belowK_b (w := w) (Nat.le_refl _) _ D _ _ (by have := HB0.out; omega) hK rfl rfl)⟩
    case done =>
      rintro D ys W hD rfl ⟨⟨bk, br, hle⟩, hB⟩ hK
      have hN : nthV m k = -1 := nthV_out (by omega)
      have cr := br.cell
      have fr := br.frozen
      have hDl : w.heap.size + 1 < W0.heap.size := bR.lt
      have hKz : (W.setCell ⟨w.heap.size + 1, 0, none⟩ (.int .i64 (-1))).heap[D]? = some (.deferred (some [])) := by
        rw [Below.heap_setCell _ _ _ D (by show D ≠ w.heap.size + 1; omega)]
        exact hK
      have HRz : Aside (((W.setCell ⟨w.heap.size + 1, 0, none⟩ (.int .i64 (-1))).putObj D (.deferred none)).cell? ⟨w.heap.size + 1, 0, none⟩ = some (.int .i64 (nthV m k))) := by
        have : Boxed ((W.setCell ⟨w.heap.size + 1, 0, none⟩ (.int .i64 (-1))).putObj D (.deferred none)) (w.heap.size + 1) 3 (.int .i64 (nthV m k)) := (World.putObj_heap_other (by omega)).trans (by rw [hN]; exact br.set _)
        exact this.cell
      have HB : Aside (Below w.heap.size w (W.setCell ⟨w.heap.size + 1, 0, none⟩ (.int .i64 (-1)))) := hB.setCell (p := ⟨w.heap.size + 1, 0, none⟩) (by show w.heap.size ≤ w.heap.size + 1; omega) _
      clear hN bk hle
      gi_wp2
      refine ⟨by simp, .inl ⟨_, _, rfl, run_takeDeferred hKz, ?_⟩⟩
      exact ⟨_, results_box3 rfl _ _ (w.heap.size + 1) _ (by rfl) HRz.out, rfl, HB.out.trans (belowK_b (w := w) (Nat.le_refl _) _ D _ _ (by omega) hKz rfl rfl)⟩
  · have hN : nthV m k = -1 := nthV_out (by omega)
    have bR := Boxed.new (w.alloc (.cells #[.int .i64 k] 3)) 3 (.int .i64 (-1))
    have hB0 : Below w.heap.size w ((w.alloc (.cells #[.int .i64 k] 3)).alloc (.cells #[.int .i64 (-1)] 3)) := ((Below.refl _ w).alloc (Nat.le_refl _) _).alloc (by simp) _
    rw [World.size_alloc] at bR
    rw [hN]
    clear hN
    gi_wp2
    exact ⟨_, results_box3 rfl _ _ (w.heap.size + 1) _ (by rfl) bR.cell, rfl, hB0⟩
end Go.Proofs.YtcocbjipikeebaaDoor.Msk
