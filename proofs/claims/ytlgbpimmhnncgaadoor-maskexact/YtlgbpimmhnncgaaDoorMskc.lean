/-
  The program's calls that go through the sequence: Count, List, Nth, for every word and number.
-/
import Derived.Test.YtlgbpimmhnncgaaDoorMsks
import Derived.Test.YtlgbpimmhnncgaaDoorMskr
import Derived.Sort.CutIn
import Derived.Maps.OwnIn
import Derived.Laws.MakeOwn
namespace Go.Proofs.YtlgbpimmhnncgaaDoor.Msk
open Go Go.Lib Go.RowKit Go.Shelf
attribute [local go_sem] Oper.semAt_some

theorem keepsTab_set (W : World) (B : Nat) (v : Value) (hB : 0 < B) : KeepsTab W (W.setCell ⟨B, 0, none⟩ v) := Below.heap_setCell _ _ _ 0 (by show 0 ≠ B; omega)
theorem keepsTab_below {B : Nat} {W W' : World} (h : Below B W W') (hB : 0 < B) : KeepsTab W W' := h.block 0 hB
theorem snoc_len (pre : List Nat) (x : Nat) : ((pre ++ [x]).length : Int) = (pre.length : Int) + 1 := by simp
theorem results_box3 {fn : Func} {p : Tmp} (h : fn.results = #[.cell p 3]) (tmps : Array Value) (w : World) (g : Nat) (v : Value)
    (hp : tmps.getD p undef = .pointer (some ⟨g, 0, none⟩)) (hg : w.cell? ⟨g, 0, none⟩ = some v) :
    (results fn tmps).run Tryd.prog w = .ok v w := by
  have hp' : tmps[p]?.getD undef = .pointer (some ⟨g, 0, none⟩) := by simpa using hp
  simp only [results, h]
  simp [hp', asAddr]
  go_simp
theorem results_box4 {fn : Func} {p : Tmp} (h : fn.results = #[.cell p 4]) (tmps : Array Value) (w : World) (g : Nat) (v : Value)
    (hp : tmps.getD p undef = .pointer (some ⟨g, 0, none⟩)) (hg : w.cell? ⟨g, 0, none⟩ = some v) :
    (results fn tmps).run Tryd.prog w = .ok v w := by
  have hp' : tmps[p]?.getD undef = .pointer (some ⟨g, 0, none⟩) := by simpa using hp
  simp only [results, h]
  simp [hp', asAddr]
  go_simp

set_option maxRecDepth 100000 in
set_option maxHeartbeats 2000000 in
theorem count_any (m : Nat) (hm : m < 18446744073709551616) (w : World) (hT : Tab w) :
    Calls Tryd.prog 13 #[.int .u64 m] w fun e w' => e = .returned (.int .i64 ((bitsL m).length : Int)) ∧ Below w.heap.size w w' := by
  refine (callsIn_wide (n := 3)).1 ?_
  have hro : Fence.wide.round = none := rfl
  have hw0 := hT.size
  have hbl := bitsL_le m
  refine callsIn_of_wp_marks Tryd.func13 rfl trivial ?_ hro
  simp only [Tryd.ntmps13, List.size_toArray, List.length_cons, List.length_nil, Nat.reduceAdd, Nat.reduceSub, Array.replicate_succ, Array.replicate_zero, List.push_toArray, List.append_toArray, List.nil_append, List.cons_append]
  gi_wp2_with (refine ⟨trivial, ?_⟩; gi_at_call 19; refine (each_in Fence.wide _ trivial hro _ _).mono ?_; rintro e w' ⟨rfl, rfl⟩)
  have bN := (Boxed.new w 3 (.int .i64 0)).alloc (.cells #[.int .u64 (m : Int)] 23)
  have bM := Boxed.new (w.alloc (.cells #[.int .i64 0] 3)) 23 (.int .u64 (m : Int))
  have hB0 : Below w.heap.size w ((w.alloc (.cells #[.int .i64 0] 3)).alloc (.cells #[.int .u64 (m : Int)] 23)) := ((Below.refl _ w).alloc (Nat.le_refl _) _).alloc (by simp) _
  rw [World.size_alloc] at bM
  obtain ⟨W0, hW0⟩ : ∃ W0, (w.alloc (.cells #[.int .i64 0] 3)).alloc (.cells #[.int .u64 (m : Int)] 23) = W0 := ⟨_, rfl⟩
  rw [hW0] at bN bM hB0 ⊢
  clear hW0
  have hT0 := hT.below hw0 hB0
  refine wpIn_rangeFunc_ownG hro (by omega) (gf := 24) (lb := #[.pointer (some ⟨w.heap.size + 1, 0, none⟩)]) rfl trivial (enters_of Tryd.func24 (by kernel_rfl) rfl)
    (each_stops _ (by omega) (w.heap.size + 1) m hm W0 hT0 bM.lt bM.cell) keepsTab_t (keepsTab_b hT0.size) (Below.refl _ _) (fun _ => rfl)
    (fun pre W => Boxed W w.heap.size 3 (.int .i64 (pre.length : Int)) ∧ Below w.heap.size w W)
    (fun _ _ _ => False)
    (OwnFrom.and (Own.from (boxed_own w.heap.size 3 (fun pre : List Nat => .int .i64 (pre.length : Int))) _) (ownFrom_below (Nat.le_refl _) hB0.size))
    (fun _ _ _ _ _ h _ _ => h.elim)
    ⟨bN, hB0⟩
    (fun x => { tmps := #[.int .u64 (m : Int), undef, .int .i64 0, .pointer (some ⟨w.heap.size, 0, none⟩), .int .u64 (m : Int), .func (.func 24) #[] #[.pointer (some ⟨w.heap.size + 1, 0, none⟩)], .int .i64 (x : Int), undef, undef, undef], defers := [] }) ?assign ?body ?done ?stop
  case assign =>
    intro l x W K hK
    gi_wp2
    simpa using hK
  case body =>
    rintro l pre x W ⟨bk, hB⟩ hlen
    have ck := bk.cell
    have fk := bk.frozen
    have hlp : pre.length < 64 := by omega
    gi_wp2
    refine ⟨(KeepsOthers.setCell _ _ _).from _, keepsTab_set _ _ _ hw0, ?_, hB.setCell (p := ⟨w.heap.size, 0, none⟩) (Nat.le_refl _) _⟩
    rw [snoc_len]
    exact bk.set _
  case stop =>
    rintro D c pre W _ _ h _
    exact h.elim
  case done =>
    rintro D ys W hD rfl ⟨bk, hB⟩ hK
    have ck := bk.cell
    gi_wp2
    refine ⟨by simp, .inl ⟨_, _, rfl, run_takeDeferred hK, ?_⟩⟩
    exact ⟨_, results_tmp rfl _ _ _, rfl, hB.trans (belowK_b (w := w) (Nat.le_refl _) _ D _ _ (by have := hB0.size; omega) hK rfl rfl)⟩

set_option maxRecDepth 100000 in
set_option maxHeartbeats 2000000 in
theorem list_any (m : Nat) (hm : m < 18446744073709551616) (w : World) (hT : Tab w) :
    Calls Tryd.prog 12 #[.int .u64 m] w fun e w' => ∃ v, e = .returned v ∧ w'.ownsRow w.heap.size 3 1 v (bitsL m).length (nums (bitsL m)) ∧ Below w.heap.size w w' := by
  obtain ⟨i0, hi, hz0, hz1, hz2⟩ := info_parts infoInt
  refine (callsIn_wide (n := 3)).1 ?_
  have hro : Fence.wide.round = none := rfl
  have hw0 := hT.size
  have hbl := bitsL_le m
  obtain ⟨M, hM⟩ : ∃ M, M = madeCells (Value.int .i64 0).cells (64 * i0.size) := ⟨_, rfl⟩
  have hMs : M.size = 64 * 1 := by rw [hM, size_madeCells, hz1]
  have hmk : ∀ W : World, (Instr.makeSlice 22 (.int .i64 0) (.int .i64 64)).run Tryd.prog W = .ok (.slice (some ⟨W.heap.size, 0, none⟩) 0 64) (W.alloc (.cells M 3)) := fun W => by
    have h := run_make (P := Tryd.prog) W 22 3 i0 (.int .i64 0) Tryd.underlying22 hi hz0 .i64 .i64 0 64 (by omega) (by omega) (by rw [hz2]; omega) (by omega)
    rw [show (64 : Int).toNat = 64 from rfl, ← hM] at h
    exact h
  have o0 := World.ownsRow_made (e := 3) (size := 1) (base := w.heap.size) w M 64 (Nat.le_refl _) (by unfold maxLen; omega) hMs
  clear hM
  refine callsIn_of_wp_marks Tryd.func12 rfl trivial ?_ hro
  simp only [Tryd.ntmps12, List.size_toArray, List.length_cons, List.length_nil, Nat.reduceAdd, Nat.reduceSub, Array.replicate_succ, Array.replicate_zero, List.push_toArray, List.append_toArray, List.nil_append, List.cons_append]
  gi_wp2_with (refine ⟨trivial, ?_⟩; gi_at_call 19; refine (each_in Fence.wide _ trivial hro _ _).mono ?_; rintro e w' ⟨rfl, rfl⟩)
  have bN := (Boxed.new (w.alloc (.cells M 3)) 22 (.slice (some ⟨w.heap.size, 0, none⟩) 0 64)).alloc (.cells #[.int .u64 (m : Int)] 23)
  have bM := Boxed.new ((w.alloc (.cells M 3)).alloc (.cells #[.slice (some ⟨w.heap.size, 0, none⟩) 0 64] 22)) 23 (.int .u64 (m : Int))
  have oN := (o0.alloc (.cells #[.slice (some ⟨w.heap.size, 0, none⟩) 0 64] 22)).alloc (.cells #[.int .u64 (m : Int)] 23)
  have hB0 : Below w.heap.size w (((w.alloc (.cells M 3)).alloc (.cells #[.slice (some ⟨w.heap.size, 0, none⟩) 0 64] 22)).alloc (.cells #[.int .u64 (m : Int)] 23)) := (((Below.refl _ w).alloc (Nat.le_refl _) _).alloc (by simp) _).alloc (by simp; omega) _
  simp only [World.size_alloc] at bM bN
  obtain ⟨W0, hW0⟩ : ∃ W0, ((w.alloc (.cells M 3)).alloc (.cells #[.slice (some ⟨w.heap.size, 0, none⟩) 0 64] 22)).alloc (.cells #[.int .u64 (m : Int)] 23) = W0 := ⟨_, rfl⟩
  rw [hW0] at bN bM oN hB0 ⊢
  clear hW0 o0 hmk
  have hT0 := hT.below hw0 hB0
  refine wpIn_rangeFunc_ownG hro (by omega) (gf := 24) (lb := #[.pointer (some ⟨w.heap.size + 1 + 1, 0, none⟩)]) rfl trivial (enters_of Tryd.func24 (by kernel_rfl) rfl)
    (each_stops _ (by omega) (w.heap.size + 1 + 1) m hm W0 hT0 bM.lt bM.cell) keepsTab_t (keepsTab_b hT0.size) (Below.refl _ _) (fun _ => rfl)
    (fun pre W => (∃ v, Boxed W (w.heap.size + 1) 22 v ∧ W.ownsRow w.heap.size 3 1 v pre.length (nums pre) ∧ True) ∧ Below w.heap.size w W)
    (fun _ _ _ => False)
    (OwnFrom.and (Own.from (holdsRow_own w.heap.size (w.heap.size + 1) 22 3 1 (fun pre : List Nat => pre.length) nums (fun _ _ => True)) _) (ownFrom_below (Nat.le_refl _) hB0.size))
    (fun _ _ _ _ _ h _ _ => h.elim)
    ⟨⟨_, bN, oN, trivial⟩, hB0⟩
    (fun x => { tmps := #[.int .u64 (m : Int), undef, .slice none 0 0, .pointer (some ⟨w.heap.size + 1, 0, none⟩), .int .i64 (x : Int), .slice (some ⟨w.heap.size, 0, none⟩) 0 64, .int .u64 (m : Int), .func (.func 24) #[] #[.pointer (some ⟨w.heap.size + 1 + 1, 0, none⟩)], .int .i64 (x : Int), undef, undef, undef, undef, undef], defers := [] }) ?assign ?body ?done ?stop
  case assign =>
    intro l x W K hK
    gi_wp2
    exact hK
  case body =>
    rintro l pre x W ⟨⟨v, bk, hown, _⟩, hB⟩ hlen
    have ck := bk.cell
    have hlp : pre.length < 64 := by omega
    have hws := hB.size
    gi_wp2_with (first
      | (gi_at_builtin; refine wpListIn_append_own_at _ rfl _ _ 22 rfl w.heap.size 3 i0 (.int .i64 0) 1 8 Tryd.underlying22 hi hz0 hz1 hz2 rfl (by decide) _ _ _ rfl (hown.alloc _) ⟨W.heap.size, 0, none⟩ 1 1 [.int .i64 (x : Int)] rfl rfl (cell_one_new _ _ _) (by simp [Value.oneCell']) (by unfold maxLen; omega) (by omega) (by simp; omega) ?_))
    intro v' w1 hown' hgrow _ _
    obtain ⟨b1, b2, b3, b4, b5⟩ := bk.appended (by decide) hown hws (by omega) hown' hgrow
    obtain ⟨g', cap', rfl⟩ := ownsRow_succ hown'
    have c1 := b1.cell
    have f1 := b1.frozen
    clear hown' hgrow
    gi_wp2
    refine ⟨b4.from _, keepsTab_below b5 hw0, ⟨_, b2, ?_, trivial⟩, hB.trans b5⟩
    rw [nums_snoc, List.length_append]
    exact b3
  case stop =>
    rintro D c pre W _ _ h _
    exact h.elim
  case done =>
    rintro D ys W hD rfl ⟨⟨v, bk, hown, _⟩, hB⟩ hK
    have ck := bk.cell
    gi_wp2
    refine ⟨by simp, .inl ⟨_, _, rfl, run_takeDeferred hK, ?_⟩⟩
    exact ⟨_, results_tmp rfl _ _ _, _, rfl, ownsRow_putObj hown _ hK rfl, hB.trans (belowK_b (w := w) (Nat.le_refl _) _ D _ _ (by have := hB0.size; omega) hK rfl rfl)⟩

/-- The k-th number; -1 where there is none. -/
def nthV (m : Nat) (k : Int) : Int := if 0 ≤ k then (match (bitsL m)[k.toNat]? with | some i => (i : Int) | none => -1) else -1
theorem nthV_out {m : Nat} {k : Int} (h : ¬ (0 ≤ k ∧ k < ((bitsL m).length : Int))) : nthV m k = -1 := by
  unfold nthV
  by_cases h0 : 0 ≤ k
  · rw [if_pos h0, List.getElem?_eq_none (by omega)]
  · rw [if_neg h0]
theorem nthV_in {m i : Nat} {k : Int} (h0 : 0 ≤ k) (h : (bitsL m)[k.toNat]? = some i) : nthV m k = (i : Int) := by
  unfold nthV
  rw [if_pos h0, h]

set_option maxRecDepth 100000 in
set_option maxHeartbeats 2000000 in
theorem nth_any (m : Nat) (k : Int) (hm : m < 18446744073709551616) (hk0 : -9223372036854775808 ≤ k) (hk1 : k ≤ 9223372036854775807) (w : World) (hT : Tab w) :
    Calls Tryd.prog 18 #[.int .u64 m, .int .i64 k] w fun e w' => e = .returned (.int .i64 (nthV m k)) ∧ Below w.heap.size w w' := by
  refine (callsIn_wide (n := 3)).1 ?_
  have hro : Fence.wide.round = none := rfl
  have hw0 := hT.size
  have hbl := bitsL_le m
  refine callsIn_of_wp_marks Tryd.func18 rfl trivial ?_ hro
  simp only [Tryd.ntmps18, List.size_toArray, List.length_cons, List.length_nil, Nat.reduceAdd, Nat.reduceSub, Array.replicate_succ, Array.replicate_zero, List.push_toArray, List.append_toArray, List.nil_append, List.cons_append]
  by_cases h0 : 0 ≤ k
  · gi_wp2_with (refine ⟨trivial, ?_⟩; gi_at_call 19; refine (each_in Fence.wide _ trivial hro _ _).mono ?_; rintro e w' ⟨rfl, rfl⟩)
    have bK := ((Boxed.new w 3 (.int .i64 k)).alloc (.cells #[.int .i64 0] 3)).alloc (.cells #[.int .u64 (m : Int)] 23)
    have bR := (Boxed.new (w.alloc (.cells #[.int .i64 k] 3)) 3 (.int .i64 0)).alloc (.cells #[.int .u64 (m : Int)] 23)
    have bM := Boxed.new ((w.alloc (.cells #[.int .i64 k] 3)).alloc (.cells #[.int .i64 0] 3)) 23 (.int .u64 (m : Int))
    have hB0 : Below w.heap.size w (((w.alloc (.cells #[.int .i64 k] 3)).alloc (.cells #[.int .i64 0] 3)).alloc (.cells #[.int .u64 (m : Int)] 23)) := (((Below.refl _ w).alloc (Nat.le_refl _) _).alloc (by simp) _).alloc (by simp; omega) _
    simp only [World.size_alloc] at bM bR
    obtain ⟨W0, hW0⟩ : ∃ W0, ((w.alloc (.cells #[.int .i64 k] 3)).alloc (.cells #[.int .i64 0] 3)).alloc (.cells #[.int .u64 (m : Int)] 23) = W0 := ⟨_, rfl⟩
    rw [hW0] at bK bR bM hB0 ⊢
    clear hW0
    have hT0 := hT.below hw0 hB0
    have HB0 : Aside (w.heap.size ≤ W0.heap.size) := hB0.size
    refine wpIn_rangeFunc_ownG hro (by omega) (gf := 24) (lb := #[.pointer (some ⟨w.heap.size + 1 + 1, 0, none⟩)]) rfl trivial (enters_of Tryd.func24 (by kernel_rfl) rfl)
      (each_stops _ (by omega) (w.heap.size + 1 + 1) m hm W0 hT0 bM.lt bM.cell) keepsTab_t (keepsTab_b hT0.size) (Below.refl _ _) (fun _ => rfl)
      (fun pre W => (Boxed W w.heap.size 3 (.int .i64 (k - (pre.length : Int))) ∧ Boxed W (w.heap.size + 1) 3 (.int .i64 0) ∧ (pre.length : Int) ≤ k) ∧ Below w.heap.size w W)
      (fun c pre W => (∃ ini x, c = .ret ∧ pre = ini ++ [x] ∧ (ini.length : Int) = k ∧ Boxed W (w.heap.size + 1) 3 (.int .i64 ((x : Nat) : Int))) ∧ Below w.heap.size w W)
      (OwnFrom.and (OwnFrom.and (Own.from (boxed_own w.heap.size 3 (fun pre : List Nat => .int .i64 (k - (pre.length : Int)))) _) (OwnFrom.and (Own.from (boxed_own (w.heap.size + 1) 3 (fun _ : List Nat => .int .i64 0)) _) (ownFrom_pure _ _))) (ownFrom_below (Nat.le_refl _) hB0.size))
      (fun c => OwnFrom.and (fun pre W W' row hs hg hr => by
        obtain ⟨ini, x, e1, e2, e3, e4⟩ := hs
        exact ⟨ini, x, e1, e2, e3, Own.from (boxed_own (w.heap.size + 1) 3 (fun _ : List Nat => .int .i64 (x : Int))) _ [] W W' row e4 hg hr⟩) (ownFrom_below (Nat.le_refl _) hB0.size))
      ⟨⟨by simpa using bK, bR, by simpa using h0⟩, hB0⟩
      (fun x => { tmps := #[.int .u64 (m : Int), .int .i64 k, undef, .pointer (some ⟨w.heap.size, 0, none⟩), .pointer (some ⟨w.heap.size + 1, 0, none⟩), .int .i64 (x : Int), .int .i64 k, .bool (decide (k < 0)), .int .u64 (m : Int), .func (.func 24) #[] #[.pointer (some ⟨w.heap.size + 1 + 1, 0, none⟩)], .int .i64 (x : Int), undef, undef, undef, undef, undef], defers := [] }) ?assign ?body ?done ?stop
    case assign =>
      intro l x W K hK
      gi_wp2
      exact hK
    case body =>
      rintro l pre x W ⟨⟨bk, br, hle⟩, hB⟩ hlen
      have ck := bk.cell
      have fk := bk.frozen
      have cr := br.cell
      have fr := br.frozen
      have hlp : pre.length < 64 := by omega
      by_cases he : k - (pre.length : Int) = 0
      · have s1 := br.set (.int .i64 (x : Int))
        rw [he] at ck
        gi_wp2
        exact ⟨(KeepsOthers.setCell _ _ _).from _, ⟨pre, x, rfl, rfl, by omega, s1⟩, hB.setCell (p := ⟨w.heap.size + 1, 0, none⟩) (by show w.heap.size ≤ w.heap.size + 1; omega) _⟩
      · have heb : (k - (pre.length : Int) == 0) = false := by rw [beq_eq_false_iff_ne]; exact he
        have s1 := bk.set (.int .i64 (k - (pre.length : Int) - 1))
        have s2 := br.other (B' := w.heap.size) (by omega) (.int .i64 (k - (pre.length : Int) - 1))
        gi_wp2
        refine ⟨(KeepsOthers.setCell _ _ _).from _, keepsTab_set _ _ _ hw0, ⟨?_, s2, ?_⟩, hB.setCell (p := ⟨w.heap.size, 0, none⟩) (Nat.le_refl _) _⟩
        · rw [snoc_len, show k - ((pre.length : Int) + 1) = k - (pre.length : Int) - 1 by omega]
          exact s1
        · rw [snoc_len]; omega
    case stop =>
      rintro D c pre W hD ⟨tl, htl⟩ ⟨⟨ini, x, rfl, rfl, hik, br⟩, hB⟩ hK
      have hN : nthV m k = (x : Int) := nthV_in h0 (by rw [← htl, List.append_assoc, List.getElem?_append_right (by omega), show k.toNat - ini.length = 0 by omega]; rfl)
      rw [← hN] at br
      have HRz : Aside ((W.putObj D (.deferred none)).cell? ⟨w.heap.size + 1, 0, none⟩ = some (.int .i64 (nthV m k))) := by
        have : Boxed (W.putObj D (.deferred none)) (w.heap.size + 1) 3 (.int .i64 (nthV m k)) := (World.putObj_heap_other (by have := bR.lt; omega)).trans br
        exact this.cell
      have HB : Aside (Below w.heap.size w W) := hB
      clear htl hN br
      gi_wp2
      refine ⟨by simp, .inl ⟨_, _, rfl, run_takeDeferred hK, ?_⟩⟩
      exact ⟨_, results_box3 rfl _ _ (w.heap.size + 1) _ (by rfl) HRz.out, rfl, HB.out.trans (belowK_b (w := w) (Nat.le_refl _) _ D _ _ (by have := HB0.out; omega) hK rfl rfl)⟩
    case done =>
      rintro D ys W hD rfl ⟨⟨bk, br, hle⟩, hB⟩ hK
      have hN : nthV m k = -1 := nthV_out (by omega)
      have cr := br.cell
      have fr := br.frozen
      have hDl : w.heap.size + 1 < W0.heap.size := bR.lt
      have hKz : (W.setCell ⟨w.heap.size + 1, 0, none⟩ (.int .i64 (-1))).heap[D]? = some (.deferred (some [])) := by
        rw [Below.heap_setCell _ _ _ D (by show D ≠ w.heap.size + 1; omega)]
        exact hK
      have HRz : Aside (((W.setCell ⟨w.heap.size + 1, 0, none⟩ (.int .i64 (-1))).putObj D (.deferred none)).cell? ⟨w.heap.size + 1, 0, none⟩ = some (.int .i64 (nthV m k))) := by
        have : Boxed ((W.setCell ⟨w.heap.size + 1, 0, none⟩ (.int .i64 (-1))).putObj D (.deferred none)) (w.heap.size + 1) 3 (.int .i64 (nthV m k)) := (World.putObj_heap_other (by omega)).trans (by rw [hN]; exact br.set _)
        exact this.cell
      have HB : Aside (Below w.heap.size w (W.setCell ⟨w.heap.size + 1, 0, none⟩ (.int .i64 (-1)))) := hB.setCell (p := ⟨w.heap.size + 1, 0, none⟩) (by show w.heap.size ≤ w.heap.size + 1; omega) _
      clear hN bk hle
      gi_wp2
      refine ⟨by simp, .inl ⟨_, _, rfl, run_takeDeferred hKz, ?_⟩⟩
      exact ⟨_, results_box3 rfl _ _ (w.heap.size + 1) _ (by rfl) HRz.out, rfl, HB.out.trans (belowK_b (w := w) (Nat.le_refl _) _ D _ _ (by omega) hKz rfl rfl)⟩
  · have hN : nthV m k = -1 := nthV_out (by omega)
    have bR := Boxed.new (w.alloc (.cells #[.int .i64 k] 3)) 3 (.int .i64 (-1))
    have hB0 : Below w.heap.size w ((w.alloc (.cells #[.int .i64 k] 3)).alloc (.cells #[.int .i64 (-1)] 3)) := ((Below.refl _ w).alloc (Nat.le_refl _) _).alloc (by simp) _
    rw [World.size_alloc] at bR
    rw [hN]
    clear hN
    gi_wp2
    exact ⟨_, results_box3 rfl _ _ (w.heap.size + 1) _ (by rfl) bR.cell, rfl, hB0⟩
end Go.Proofs.YtlgbpimmhnncgaaDoor.Msk
