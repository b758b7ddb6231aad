/-
  strings.Builder at this program's numbers: Grow of a builder that holds nothing yet.
-/
import Derived.Test.YtcocbjipikeebaaDoorGbl
import Derived.Test.YtcocbjipikeebaaDoorGpb
import Derived.Lib.MakeNoZero
import Derived.Lib.Builder
import Derived.Test.YtcocbjipikeebaaDoorGxc
import Derived.Test.YtcocbjipikeebaaDoorGps
import Derived.Test.YtcocbjipikeebaaDoorGmc
import Derived.Test.YtcocbjipikeebaaDoorGal
import Derived.Test.YtcocbjipikeebaaDoorGpd
namespace Go.Proofs.YtcocbjipikeebaaDoor.Utf
open Go Go.Lib Go.RowKit Go.Shelf

theorem neB5' : (52 : TypeId) ≠ 5 := by decide
theorem sizeByte' : (Tryd.prog.info? 5).map (fun i => i.size) = some 1 := by kernel_rfl

set_option maxHeartbeats 2000000 in
set_option maxRecDepth 100000 in
theorem grow_new (B b n : Nat) (w : World) (hB : B ≤ b) (hbk : w.heap[b]? = some (.cells #[.pointer (some ⟨b, 0, none⟩), .slice none 0 0] 52 (0, 0))) (hBw : B ≤ w.heap.size) (hn : n ≤ 140737488355328) :
    Calls Tryd.prog 76 #[.pointer (some ⟨b, 0, none⟩), .int .i64 n] w fun e w' => e = .returned (.tuple #[]) ∧ Lib.BuilderAt 52 5 B b (.pointer (some ⟨b, 0, none⟩)) [] w' ∧ Below B w w' := by
  obtain ⟨cs, hrun, hle, hmax⟩ := Lib.run_makeNoZero (P := Tryd.prog) w.drew #[3] 50 5 Tryd.underlying50 n (by omega)
  have hlt : b < w.heap.size := by
    rcases Nat.lt_or_ge b w.heap.size with h' | h'
    · exact h'
    · simp [Array.getElem?_eq_none h'] at hbk
  have hcall : (callFunc 79 #[.int .i64 (n : Int)]).run Tryd.prog w.drew = .ok (.value (.slice (some ⟨w.drew.heap.size, 0, none⟩) n cs.size)) (w.drew.drew.drew.alloc (.cells cs 5)) := by
    rw [run_callFunc_extern Tryd.func79 (by kernel_rfl) (by kernel_rfl) (by kernel_rfl) (e := Extern.BytealgMakeNoZero.makeNoZero #[3] #[50]) (by kernel_rfl), hrun]
    rfl
  have c1 : w.drew.cell? ⟨b, 1, none⟩ = some (.slice none 0 0) := by
    have : w.drew.heap[b]? = _ := hbk
    rw [Lib.cell_of_heap this]; rfl
  have c2 : (w.alloc (.cells cs 5)).cell? ⟨b, 1, none⟩ = some (.slice none 0 0) := by
    have : (w.alloc (.cells cs 5)).heap[b]? = _ := (Lib.alloc_old w _ b hlt).trans hbk
    rw [Lib.cell_of_heap this]; rfl
  have f2 : (w.alloc (.cells cs 5)).frozen? ⟨b, 1, none⟩ = false := Lib.frozen_of_heap ((Lib.alloc_old w _ b hlt).trans hbk) 1
  have hcopy : ∀ W : World, (Builtin.copy_ #[50, 50] 3 #[.slice (some ⟨w.heap.size, 0, none⟩) 0 cs.size, .slice none 0 0]).run Tryd.prog W = .ok (goInt 0) W :=
    fun W => run_copy_none W 50 50 3 5 _ _ 0 cs.size 0 0 Tryd.underlying50 sizeByte' rfl
  have hfin := Lib.grown_fresh (T := 52) (e := 5) (cs := cs) hB hbk hBw (hmax (by unfold maxLen; omega)) neB5'
  have mixed : Tryd.prog.follows .mixedOrders = true := by kernel_rfl
  rw [World.setCell_alloc_past (hn := hlt)] at hfin
  clear hmax hle hrun hbk
  go_enter Tryd.func76, Tryd.ntmps76
  go_wp2
  go_region_o
  all_goals (go_wp2; go_end0; exact ⟨rfl, hfin⟩)

set_option maxHeartbeats 400000 in
set_option maxRecDepth 100000 in
theorem copyCheck_new (B b : Nat) (w : World) (h : Lib.BuilderAtF 52 5 B b (.pointer none) [] w) :
    Calls Tryd.prog 38 #[.pointer (some ⟨b, 0, none⟩)] w fun e w' => e = .returned (.tuple #[]) ∧ w' = w.setCell ⟨b, 0, none⟩ (.pointer (some ⟨b, 0, none⟩)) := by
  obtain ⟨j, hj, hjs⟩ := Option.map_eq_some_iff.1 sizeBuilder
  have c0 := h.cell0
  have hs := h.shape
  have hf := h.frozen0
  clear h
  go_enter Tryd.func38, Tryd.ntmps38
  go_wp2
  rw [Lib.run_to_unsafe w ⟨b, 0, none⟩ Tryd.underlying49 Tryd.underlying93 hj (by rw [hjs]; decide) hs (Nat.zero_lt_succ 1)]
  simp only [Result.andThen]
  rw [Oper.upon_value]
  go_wp2
  rw [run_callFunc_extern Tryd.func57 (by kernel_rfl) (by kernel_rfl) (by kernel_rfl) (e := Extern.AbiNoEscape.same) (by kernel_rfl)]
  rw [Lib.run_noEscape]
  simp only [Result.andThen]
  rw [Oper.upon_value]
  go_wp2
  rw [Lib.run_from_unsafe w ⟨b, 0, none⟩ Tryd.underlying93 Tryd.underlying49 hj hs liesBuilder]
  simp only [Result.andThen]
  rw [Oper.upon_value]
  go_wp2
  go_end0
  exact ⟨rfl, rfl⟩

set_option maxHeartbeats 2000000 in
set_option maxRecDepth 100000 in
theorem Grow_new (B b n : Nat) (w : World) (hB : B ≤ b) (hbk : w.heap[b]? = some (.cells #[.pointer none, .slice none 0 0] 52 (0, 0))) (hBw : B ≤ w.heap.size) (h1 : 1 ≤ n) (hn : n ≤ 140737488355328) :
    Calls Tryd.prog 73 #[.pointer (some ⟨b, 0, none⟩), .int .i64 n] w fun e w' => e = .returned (.tuple #[]) ∧ Lib.IsBuilderF 52 5 B b [] w' ∧ Below B w w' := by
  have hlt : b < w.heap.size := by
    rcases Nat.lt_or_ge b w.heap.size with h' | h'
    · exact h'
    · simp [Array.getElem?_eq_none h'] at hbk
  have hA : Lib.BuilderAtF 52 5 B b (.pointer none) [] w := ⟨hB, _, hbk, World.ownsRowF_nil _ _ _ _, by simp [Value.ownBlock]⟩
  have cc := copyCheck_new B b w hA
  have hb1 : (w.setCell ⟨b, 0, none⟩ (.pointer (some ⟨b, 0, none⟩))).heap[b]? = some (.cells #[.pointer (some ⟨b, 0, none⟩), .slice none 0 0] 52 (0, 0)) := heap_setCell_same w b 0 _ _ _ hbk
  have c1 : (w.setCell ⟨b, 0, none⟩ (.pointer (some ⟨b, 0, none⟩))).cell? ⟨b, 1, none⟩ = some (.slice none 0 0) := by rw [Lib.cell_of_heap hb1]; rfl
  have c1d : (w.setCell ⟨b, 0, none⟩ (.pointer (some ⟨b, 0, none⟩))).drew.cell? ⟨b, 1, none⟩ = some (.slice none 0 0) := c1
  have cg := grow_new B b n (w.setCell ⟨b, 0, none⟩ (.pointer (some ⟨b, 0, none⟩))).drew hB hb1 (by simpa using hBw) hn
  have hbl : Below B w (w.setCell ⟨b, 0, none⟩ (.pointer (some ⟨b, 0, none⟩))).drew := ((Below.refl B w).setCell (p := ⟨b, 0, none⟩) hB _).drew
  have mixed : Tryd.prog.follows .mixedOrders = true := by kernel_rfl
  clear hA hbk hb1
  obtain ⟨W1, hW1⟩ : ∃ W1, w.setCell ⟨b, 0, none⟩ (.pointer (some ⟨b, 0, none⟩)) = W1 := ⟨_, rfl⟩
  rw [hW1] at cc c1 c1d cg hbl
  clear hW1
  go_enter Tryd.func73, Tryd.ntmps73
  go_wp2_with fail
  refine cc.mono ?_
  rintro e w1 ⟨rfl, hw⟩
  obtain rfl := hw.symm
  go_wp2
  go_region_o
  all_goals (go_wp2_with fail; refine cg.mono ?_; rintro e w2 ⟨rfl, h2, hb2⟩; go_wp2; go_end0; exact ⟨rfl, .inr (Lib.BuilderAtF.of h2), hbl.trans hb2⟩)
end Go.Proofs.YtcocbjipikeebaaDoor.Utf
/-
  strings.Join at this program's numbers, of up to 64 short texts with a comma between.
-/
namespace Go.Proofs.YtcocbjipikeebaaDoor.Utf
open Go Go.Lib Go.RowKit Go.Shelf

/-- A text's bytes. -/
def bts (x : ByteArray) : List UInt8 := x.data.toList
/-- Texts, a comma between. -/
def jnL : List ByteArray → List UInt8
  | [] => []
  | x :: r => bts x ++ r.flatMap (fun y => 44 :: bts y)
theorem ba_bts (x : ByteArray) : (⟨(bts x).toArray⟩ : ByteArray) = x := by cases x; simp [bts]
theorem bts_len (x : ByteArray) : (bts x).length = x.size := by cases x; simp [bts, ByteArray.size]
theorem flat_next (t : List ByteArray) {k : Nat} (h : k < t.length) : (t.take (k + 1)).flatMap (fun y => 44 :: bts y) = (t.take k).flatMap (fun y => 44 :: bts y) ++ 44 :: bts t[k] := by
  rw [List.take_succ_eq_append_getElem h, List.flatMap_append]; simp
theorem flat_len : ∀ (t : List ByteArray), (∀ x ∈ t, x.size ≤ 12) → (t.flatMap (fun y => 44 :: bts y)).length ≤ 13 * t.length
  | [], _ => Nat.zero_le _
  | x :: t, h => by
    have h1 := h x (by simp)
    have h2 := flat_len t (fun y hy => h y (by simp [hy]))
    rw [List.flatMap_cons, List.length_append, List.length_cons, bts_len, List.length_cons]
    omega
theorem strCells_bts (x : ByteArray) : Lib.strCells x = Lib.byteCells (bts x) := strCells_bytes x

set_option maxRecDepth 100000 in
set_option maxHeartbeats 4000000 in
theorem join7_any {W : World} (xs : List ByteArray) (h12 : ∀ x ∈ xs, x.size ≤ 12) (h64 : xs.length ≤ 64) (ao : Option Addr) (cap : Nat) (hcap : xs.length ≤ cap) (hR : ReadsO W ao (xs.map Value.string)) :
    Calls Tryd.prog 59 #[.slice ao xs.length cap, .string ⟨#[44]⟩] W fun e w' => e = .returned (.string ⟨(jnL xs).toArray⟩) ∧ Below W.heap.size W w' := by
  have h1s : (⟨#[44]⟩ : ByteArray).size = 1 := rfl
  cases xs with
  | nil =>
    clear hR h12
    go_enter Tryd.func59, Tryd.ntmps59
    go_wp2
    go_ret
    exact ⟨rfl, Below.refl _ _⟩
  | cons x r =>
    cases r with
    | nil =>
      obtain ⟨g, o, rfl, hg, hc⟩ := hR 0 (by simp)
      simp only [List.map_cons, List.map_nil, List.getElem_cons_zero, Nat.add_zero] at hc
      have HX : Aside ((⟨(jnL [x]).toArray⟩ : ByteArray) = x) := by
        have h1 : jnL [x] = bts x := by simp [jnL]
        show _ = _
        rw [h1, ba_bts]
      clear hR h12
      go_enter Tryd.func59, Tryd.ntmps59
      go_wp2
      go_ret
      rw [HX.out]
      exact ⟨rfl, Below.refl _ _⟩
    | cons y r =>
      obtain ⟨t, ht⟩ : ∃ t, t = y :: r := ⟨_, rfl⟩
      rw [← ht] at h12 h64 hcap hR ⊢
      obtain ⟨N, hN⟩ : ∃ N, N = t.length := ⟨_, rfl⟩
      have hN1 : 1 ≤ N := by rw [hN, ht]; simp
      obtain ⟨M, hM⟩ : ∃ M, M = N + 1 := ⟨_, rfl⟩
      have hNL : (x :: t).length = M := by rw [hM, hN]; rfl
      rw [hNL] at h64 hcap ⊢
      have hq : ¬ ((9223372036854775807 : Int).tdiv (N : Int) ≤ 1) := by
        rw [Int.tdiv_eq_ediv_of_nonneg (by omega)]
        have : (2 : Int) ≤ 9223372036854775807 / (N : Int) := by
          rw [Int.le_ediv_iff_mul_le (by omega)]
          omega
        omega
      have hM1 : (M : Int) - 1 = (N : Int) := by omega
      obtain ⟨g, o, rfl, hg, hc0⟩ := hR 0 (by simp)
      simp only [List.map_cons, List.getElem_cons_zero, Nat.add_zero] at hc0
      have HR : Aside (∀ k, k < M → ∃ X : ByteArray, X.size ≤ 12 ∧ W.cell? ⟨g, o + k, none⟩ = some (.string X) ∧ (x :: t)[k]? = some X) := fun k hk => by
        have hk2 : k < (x :: t).length := by omega
        obtain ⟨g', o', e1, _, e2⟩ := hR k (by rw [List.length_map]; exact hk2)
        injection e1 with e1
        injection e1 with e3 e4
        subst e3
        subst e4
        refine ⟨(x :: t)[k], h12 _ (List.getElem_mem hk2), ?_, List.getElem?_eq_getElem hk2⟩
        rw [e2, List.getElem_map]
      have hx12 := h12 x (by simp)
      have HJ : Aside (jnL (x :: t) = bts x ++ t.flatMap (fun y => 44 :: bts y)) := rfl
      have HFL : Aside (∀ k, ((t.take k).flatMap (fun y => 44 :: bts y)).length ≤ 13 * (t.take k).length) := fun k => flat_len _ (fun y hy => h12 y (by simp [List.mem_of_mem_take hy]))
      have HFN : Aside (∀ k X, k < N → (x :: t)[k + 1]? = some X → (t.take (k + 1)).flatMap (fun y => 44 :: bts y) = (t.take k).flatMap (fun y => 44 :: bts y) ++ 44 :: bts X) := fun k X hk hX => by
        have hk2 : k < t.length := by omega
        rw [flat_next t hk2]
        rw [List.getElem?_cons_succ, List.getElem?_eq_getElem hk2] at hX
        injection hX with hX
        rw [hX]
      have HTN : Aside (t.length = N) := hN.symm
      have HM : Aside (M = N + 1) := hM
      clear hR h12 ht hN hM hNL
      go_enter Tryd.func59, Tryd.ntmps59
      go_wp2
      go_loopg [5, 41] M (fun g1 vn vi wr => ∃ (k n : Nat), vi = .int .i64 (k : Int) ∧ vn = .int .i64 (n : Int) ∧ k ≤ M ∧ M - k ≤ g1 ∧ Aside (n ≤ N + 12 * k ∧ N ≤ n) ∧ wr = W)
      case atStart => exact ⟨0, N, rfl, by go_num, Nat.zero_le _, Nat.le_refl _, ⟨Nat.le_refl _, Nat.le_refl _⟩, rfl⟩
      case round =>
        obtain ⟨k, n, rfl, rfl, hk, hg1, HN, hww⟩ := hrel
        obtain rfl := hww.symm
        by_cases hlt : k < M
        · have hltz : (k : Int) < (M : Int) := by omega
          obtain ⟨X, hX, hcX, -⟩ := HR.out k hlt
          have hnn := HN.out
          have hgt : ¬ ((9223372036854775807 : Int) - (n : Int) < (X.size : Int)) := by omega
          obtain ⟨n2, hn2⟩ : ∃ n2, n2 = n + X.size := ⟨_, rfl⟩
          have hn2z : (n : Int) + (X.size : Int) = (n2 : Int) := by omega
          have HN2 : Aside (n2 ≤ N + 12 * (k + 1) ∧ N ≤ n2) := by constructor <;> omega
          have hn2b : n2 ≤ 100000 := by omega
          clear hn2 hnn
          go_wp2
          go_roundg (M - (k + 1))
          case measure => omega
          case rel => exact ⟨k + 1, n2, by go_num, by go_num, by omega, Nat.le_refl _, HN2, rfl⟩
        · have hltz : ¬ (k : Int) < (M : Int) := by omega
          obtain rfl : k = M := by omega
          obtain ⟨hn1, hn2⟩ := HN.out
          have hI0 := heap_box W (.cells #[.pointer none, .slice none 0 0] 52)
          have cG := Grow_new W.heap.size W.heap.size n (W.alloc (.cells #[.pointer none, .slice none 0 0] 52)) (Nat.le_refl _) hI0 (by simp) (by omega) (by omega)
          have HB0 : Aside (Below W.heap.size W (W.alloc (.cells #[.pointer none, .slice none 0 0] 52))) := below_box' W _
          clear hI0 hn1 hn2
          go_wp2_with fail
          refine cG.mono ?_
          rintro e w1 ⟨rfl, hI1, hb1⟩
          have HB1 : Aside (Below W.heap.size W w1) := HB0.out.trans hb1
          have hc1 : w1.cell? ⟨g, o, none⟩ = some (.string x) := (HB1.out.cell (p := ⟨g, o, none⟩) hg).trans hc0
          have cW := writeString_any W.heap.size W.heap.size [] x w1 hI1 (by simp; omega) HB1.out.size
          clear cG hI1 hb1
          go_wp2_with fail
          refine cW.mono ?_
          rintro e w2 ⟨rfl, hI2, hb2, _⟩
          rw [List.nil_append, strCells_bts] at hI2
          have HB2 : Aside (Below W.heap.size W w2) := HB1.out.trans hb2
          have HI2 : Aside (Lib.IsBuilderF 52 5 W.heap.size W.heap.size (Lib.byteCells (bts x ++ (t.take 0).flatMap (fun y => 44 :: bts y))) w2) := by
            show Lib.IsBuilderF _ _ _ _ _ _
            rw [List.take_zero, List.flatMap_nil, List.append_nil]
            exact .inr hI2
          clear cW hI2 hb2 hc1
          go_wp2
          go_loopg [65] N (fun g1 vi wr => ∃ k : Nat, vi = .int .i64 (k : Int) ∧ k ≤ N ∧ N - k ≤ g1 ∧ Aside (Lib.IsBuilderF 52 5 W.heap.size W.heap.size (Lib.byteCells (bts x ++ (t.take k).flatMap (fun y => 44 :: bts y))) wr) ∧ Aside (Below W.heap.size W wr))
          case atStart => exact ⟨0, rfl, Nat.zero_le _, Nat.le_refl _, HI2, HB2⟩
          case round =>
            obtain ⟨k, rfl, hk, hg1, HI, HB⟩ := hrel
            by_cases hlt : k < N
            · have hltz : (k : Int) < (N : Int) := by omega
              obtain ⟨X, hX, hcX, hXat⟩ := HR.out (k + 1) (by have := HM.out; omega)
              have hcX1 : wr.cell? ⟨g, o + 1 + k, none⟩ = some (.string X) := by
                rw [show o + 1 + k = o + (k + 1) by omega]
                exact (HB.out.cell (p := ⟨g, o + (k + 1), none⟩) hg).trans hcX
              have hlen : (Lib.byteCells (bts x ++ (t.take k).flatMap (fun y => 44 :: bts y))).length ≤ 12 + 13 * 64 := by
                rw [Lib.byteCells_length, List.length_append, bts_len]
                have h1 := HFL.out k
                rw [List.length_take] at h1
                have h2 := HM.out
                omega
              have cW := writeString_any W.heap.size W.heap.size _ ⟨#[44]⟩ wr HI.out (by rw [h1s]; omega) HB.out.size
              have HX : Aside (Lib.byteCells (bts x ++ (t.take (k + 1)).flatMap (fun y => 44 :: bts y)) = Lib.byteCells (bts x ++ (t.take k).flatMap (fun y => 44 :: bts y)) ++ Lib.strCells ⟨#[44]⟩ ++ Lib.strCells X) := by
                show _ = _
                rw [HFN.out k X hlt hXat, ← List.append_assoc, show (44 :: bts X) = bts ⟨#[44]⟩ ++ bts X from rfl, ← List.append_assoc, byteCells_append, byteCells_append, strCells_bts, strCells_bts]
              generalize Lib.byteCells (bts x ++ (t.take k).flatMap (fun y => 44 :: bts y)) = BC at *
              clear hXat hcX
              go_wp2_with fail
              refine cW.mono ?_
              rintro e w3 ⟨rfl, hI3, hb3, _⟩
              have HB3 : Aside (Below W.heap.size W w3) := HB.out.trans hb3
              have cW2 := writeString_any W.heap.size W.heap.size _ X w3 (.inr hI3) (by rw [List.length_append, Lib.strCells_length, h1s]; omega) HB3.out.size
              clear cW hI3 hb3
              go_wp2_with fail
              refine cW2.mono ?_
              rintro e w4 ⟨rfl, hI4, hb4, _⟩
              have HB4 : Aside (Below W.heap.size W w4) := HB3.out.trans hb4
              have HI4 : Aside (Lib.IsBuilderF 52 5 W.heap.size W.heap.size (Lib.byteCells (bts x ++ (t.take (k + 1)).flatMap (fun y => 44 :: bts y))) w4) := by
                show Lib.IsBuilderF _ _ _ _ _ _
                rw [HX.out]
                exact .inr hI4
              clear cW2 hI4 hb4 hcX1
              go_wp2
              go_roundg (N - (k + 1))
              case measure => omega
              case rel => exact ⟨k + 1, by go_num, by omega, Nat.le_refl _, HI4, HB4⟩
            · have hltz : ¬ (k : Int) < (N : Int) := by omega
              obtain rfl : k = N := by omega
              have hI := HI.out
              rw [List.take_of_length_le (by have := HTN.out; omega), ← HJ.out] at hI
              have cS := string_any W.heap.size W.heap.size _ wr hI HB.out.size
              clear hI
              go_wp2_with fail
              refine cS.mono ?_
              rintro e w5 ⟨rfl, hb5, _⟩
              have HB5 : Aside (Below W.heap.size W w5) := HB.out.trans hb5
              go_wp2
              go_ret
              exact ⟨rfl, HB5.out⟩
end Go.Proofs.YtcocbjipikeebaaDoor.Utf
/-
  What is printed of masks: mathematics.
-/
namespace Go.Proofs.YtcocbjipikeebaaDoor.Pts
open Go Go.Lib Go.RowKit Utf Msk

/-- All of an alphabet's letters. -/
def allN (L : List ByteArray) : Nat := fullN (L.length : Int)
theorem allN_lt (L : List ByteArray) : allN L < 18446744073709551616 := by
  have h1 : 2 ^ (min (L.length : Int) 64).toNat ≤ 2 ^ 64 := Nat.pow_le_pow_right (by decide) (by omega)
  have h2 := Nat.two_pow_pos (min (L.length : Int) 64).toNat
  show fullN _ < _
  unfold fullN
  omega
/-- The texts of a mask's letters. -/
def lets (L : List ByteArray) (m : Nat) : List ByteArray := (bitsL m).map fun i : Nat => nameAt L (i : Int)
theorem nameAt_size {L : List ByteArray} (h : ∀ x ∈ L, x.size ≤ 12) (i : Int) : (nameAt L i).size ≤ 12 := by
  unfold nameAt
  split
  · cases hq : L[i.toNat]? with
    | none => exact Nat.zero_le _
    | some x => exact h x (List.mem_of_getElem? hq)
  · exact Nat.zero_le _
theorem lets_size {L : List ByteArray} (h : ∀ x ∈ L, x.size ≤ 12) (m : Nat) : ∀ x ∈ lets L m, x.size ≤ 12 := fun x hx => by
  obtain ⟨i, _, rfl⟩ := List.mem_map.1 hx
  exact nameAt_size h _
theorem lets_len (L : List ByteArray) (m : Nat) : (lets L m).length ≤ 64 := by
  unfold lets
  rw [List.length_map]
  exact bitsL_le m
theorem jnL_len {xs : List ByteArray} (h : ∀ x ∈ xs, x.size ≤ 12) : (jnL xs).length ≤ 13 * xs.length := by
  cases xs with
  | nil => exact Nat.zero_le _
  | cons x r =>
    have h1 := h x (by simp)
    have h2 := flat_len r (fun y hy => h y (by simp [hy]))
    unfold jnL
    rw [List.length_append, bts_len, List.length_cons]
    omega
/-- Every letter is one rune. -/
def plainL (L : List ByteArray) : Prop := ∀ x ∈ L, Lib.runeCount x = 1
instance (L : List ByteArray) : Decidable (plainL L) := inferInstanceAs (Decidable (∀ x ∈ L, Lib.runeCount x = 1))
/-- What is printed of a mask. -/
def elT (L : List ByteArray) (m : Nat) : List UInt8 :=
  if m = allN L then [63]
  else if (bitsL m).length = 1 ∧ plainL L then bts (nameAt L (nthV m 0))
  else if 0 < (bitsL m).length ∧ 2 * (bitsL m).length ≤ L.length then 91 :: (jnL (lets L m) ++ [93])
  else 91 :: 94 :: (jnL (lets L (notN (allN L) m)) ++ [93])
theorem elT_len {L : List ByteArray} (h : ∀ x ∈ L, x.size ≤ 12) (m : Nat) : (elT L m).length ≤ 1000 := by
  have h1 := jnL_len (lets_size h m)
  have h2 := lets_len L m
  have h3 := jnL_len (lets_size h (notN (allN L) m))
  have h4 := lets_len L (notN (allN L) m)
  unfold elT
  split
  · simp
  · split
    · rw [bts_len]; have := nameAt_size h (nthV m 0); omega
    · split <;> simp <;> omega
/-- What is printed of masks. -/
def txtL (L : List ByteArray) (ms : List Nat) : List UInt8 := ms.flatMap (elT L)
theorem txtL_len {L : List ByteArray} (h : ∀ x ∈ L, x.size ≤ 12) : ∀ ms : List Nat, (txtL L ms).length ≤ 1000 * ms.length
  | [] => Nat.zero_le _
  | m :: ms => by
    have h1 := elT_len h m
    have h2 := txtL_len h ms
    unfold txtL at h2 ⊢
    rw [List.flatMap_cons, List.length_append, List.length_cons]
    omega
theorem txtL_next (L : List ByteArray) (ms : List Nat) {k : Nat} (h : k < ms.length) : txtL L (ms.take (k + 1)) = txtL L (ms.take k) ++ elT L ms[k] := by
  unfold txtL
  rw [List.take_succ_eq_append_getElem h, List.flatMap_append]
  simp
/-- A mask that has letters of the alphabet alone. -/
def fineM (L : List ByteArray) (m : Nat) : Prop := allN L ≠ 0 ∧ notN m (allN L) = 0
/-- What Print answers. -/
def PrintQ (W : World) (L : List ByteArray) (ms : List Nat) (e : Ending) (w' : World) : Prop :=
  ((∃ i, ∃ h : i < ms.length, (∀ x ∈ ms.take i, fineM L x) ∧ ¬ fineM L ms[i] ∧ e = .returned (.tuple #[.string ⟨#[]⟩, .int .i64 (i : Nat), .int .i64 100])) ∨
    ((∀ x ∈ ms, fineM L x) ∧ ((32 < ms.length ∧ e = .returned (.tuple #[.string ⟨#[]⟩, .int .i64 32, .int .i64 34])) ∨ (ms.length ≤ 32 ∧ e = .returned (.tuple #[.string ⟨(txtL L ms).toArray⟩, .int .i64 0, .int .i64 0]))))) ∧ Below W.heap.size W w'
theorem cat_one (l r : List UInt8) : ((⟨l.toArray⟩ : ByteArray) ++ ⟨r.toArray⟩) = ⟨(l ++ r).toArray⟩ := by
  apply ByteArray.ext
  simp
end Go.Proofs.YtcocbjipikeebaaDoor.Pts
/-
  pattern.list: a mask's letters, a comma between.
-/
namespace Go.Proofs.YtcocbjipikeebaaDoor.Pts
open Go Go.Lib Go.RowKit Go.Shelf Utf Msk
attribute [local go_sem] Oper.semAt_some

theorem keeps_of_below {B : Nat} {w w' : World} (h : Below B w w') (hB : w.heap.size ≤ B) : KeepsOthers w w' := ⟨h.size, fun k o hk _ => by
  have hlt : k < w.heap.size := (Array.getElem?_eq_some_iff.1 hk).1
  rw [h.block k (by omega)]
  exact hk⟩
theorem infoS9 : (Tryd.prog.info? 9).map (fun i => (i.zero, i.size, i.bytes)) = some (some (.string ⟨#[]⟩), 1, 16) := by kernel_rfl
theorem neNames : (22 : TypeId) ≠ 9 := by decide
theorem neAlph : (30 : TypeId) ≠ 9 := by decide
def letV (L : List ByteArray) (pre : List Nat) : List Value := pre.map fun i : Nat => .string (nameAt L (i : Int))
theorem letV_snoc (L : List ByteArray) (pre : List Nat) (x : Nat) : letV L (pre ++ [x]) = letV L pre ++ [.string (nameAt L (x : Int))] := by unfold letV; rw [List.map_append]; rfl
theorem letV_lets (L : List ByteArray) (m : Nat) : letV L (bitsL m) = (lets L m).map Value.string := by unfold letV lets; rw [List.map_map]; rfl
theorem wpOp_callL {P : Program} {ops : Array Oper} {Q : Exit → Act → World → Prop} {i d : Nat} {o : Oper} {K : Act → World → Prop} {a : Act} {w : World} {f : FuncId} {args : Array Value} {R : Ending → World → Prop} (q : ops[i]? = some o) (hw : Region.wanted o (yielded ops a.tmps) = true) (hd : o.dst = some d) (h : (execOp a.eval o).run P w = .ok (.enter f args) w) (hc : Calls P f args w R) (hK : ∀ e w', R e w' → ∃ v, e = .returned v ∧ K (a.put (some d) v) w') : wpOp P ops Q i K a w := by
  unfold wpOp
  simp only [q]
  rw [if_pos hw]
  refine .inl ?_
  unfold Oper.wp
  rw [h, Oper.upon_enter]
  refine hc.mono ?_
  intro e w' hR
  obtain ⟨v, rfl, hk⟩ := hK e w' hR
  rw [hd]
  exact hk

theorem row_reads7 {W : World} {B n : Nat} {e : TypeId} {v : Value} {xs : List Value} (h : W.ownsRow B e 1 v n xs) : ∃ ao cap, n ≤ cap ∧ v = .slice ao n cap ∧ ReadsO W ao xs := by
  have hl : xs.length = n * 1 := h.1
  rcases h.2 with ⟨rfl, h0⟩ | ⟨g, cap, cur, rfl, hbg, hg, hnc, _⟩
  · refine ⟨none, 0, by omega, by rw [h0], fun j hj => by omega⟩
  · refine ⟨some ⟨g, 0, none⟩, cap, hnc, rfl, fun j hj => ⟨g, 0, rfl, (Array.getElem?_eq_some_iff.1 hg).1, ?_⟩⟩
    rw [Nat.zero_add, h.cellAt j (by omega), List.getElem?_eq_getElem hj]

set_option maxHeartbeats 1000000 in
theorem name7_any {W : World} {b : Nat} {L : List ByteArray} {rk : List Nat} (h : IsAlpha W b L rk) (k : Nat) :
    Calls Tryd.prog 37 #[.pointer (some ⟨b, 0, none⟩), .int .i64 (k : Int)] W fun e w' => e = .returned (.string (nameAt L (k : Int))) ∧ Below W.heap.size W w' := by
  have cS := size_any h
  obtain ⟨⟨a1, c1, a2, c2, g1, g2, _⟩, h4, h5, _⟩ := h
  obtain ⟨e1, e2⟩ := cells_two g1
  clear g1
  go_enter Tryd.func37, Tryd.ntmps37
  have hi : ¬ (k : Int) < 0 := by omega
  by_cases hk : k < L.length
  · have hkz : (k : Int) < (L.length : Int) := by omega
    obtain ⟨g, rfl, _, ec⟩ := g2 k (by simpa using hk)
    rw [List.getElem_map] at ec
    have HX : Hid (nameAt L (k : Int) = L[k]) := by show _ = _; unfold nameAt; rw [if_pos (by omega), Int.toNat_natCast, List.getElem?_eq_getElem hk]; rfl
    clear g2
    generalize L[k] = X at *
    go_wp2_with (go_at_call 16; refine cS.mono ?_; rintro e w' ⟨rfl, hw⟩; obtain rfl := hw.symm)
    (try go_quiet (fail))
    go_wp2
    go_ret
    rw [HX.out]
    exact ⟨rfl, by first | exact Below.refl _ _ | exact below_drewN (Below.refl _ _) _⟩
  · have hkz : ¬ (k : Int) < (L.length : Int) := by omega
    have HX : Hid (nameAt L (k : Int) = ⟨#[]⟩) := by show _ = _; unfold nameAt; rw [if_pos (by omega), Int.toNat_natCast, List.getElem?_eq_none (by omega)]; rfl
    go_wp2_with (go_at_call 16; refine cS.mono ?_; rintro e w' ⟨rfl, hw⟩; obtain rfl := hw.symm)
    go_ret
    rw [HX.out]
    exact ⟨rfl, Below.refl _ _⟩

set_option maxRecDepth 100000 in
set_option maxHeartbeats 4000000 in
theorem list7_any {w : World} {al : Nat} {L : List ByteArray} {rk : List Nat} (hA : IsAlpha w al L rk) (h12 : ∀ x ∈ L, x.size ≤ 12) (m : Nat) (hm : m < 18446744073709551616) (hT : Tab w) :
    Calls Tryd.prog 41 #[.pointer (some ⟨al, 0, none⟩), .int .u64 m] w fun e w' => e = .returned (.string ⟨(jnL (lets L m)).toArray⟩) ∧ Below w.heap.size w w' := by
  obtain ⟨i0, hi0, hz0, hz1, hz2⟩ := info_parts infoS9
  refine (callsIn_wide (n := 3)).1 ?_
  have hro : Fence.wide.round = none := rfl
  have hw0 := hT.size
  have hbl := bitsL_le m
  refine callsIn_of_wp_marks Tryd.func41 rfl trivial ?_ hro
  simp only [Tryd.ntmps41, List.size_toArray, List.length_cons, List.length_nil, Nat.reduceAdd, Nat.reduceSub, Array.replicate_succ, Array.replicate_zero, List.push_toArray, List.append_toArray, List.nil_append, List.cons_append]
  gi_wp2_with (refine ⟨trivial, ?_⟩; gi_at_call 58; refine (each_in Fence.wide _ trivial hro _ _).mono ?_; rintro e w' ⟨rfl, rfl⟩)
  have bA := ((Boxed.new w 30 (.pointer (some ⟨al, 0, none⟩))).alloc (.cells #[.slice none 0 0] 22)).alloc (.cells #[.int .u64 (m : Int)] 39)
  have bN := (Boxed.new (w.alloc (.cells #[.pointer (some ⟨al, 0, none⟩)] 30)) 22 (.slice none 0 0)).alloc (.cells #[.int .u64 (m : Int)] 39)
  have bM := Boxed.new ((w.alloc (.cells #[.pointer (some ⟨al, 0, none⟩)] 30)).alloc (.cells #[.slice none 0 0] 22)) 39 (.int .u64 (m : Int))
  have hB0 : Below w.heap.size w (((w.alloc (.cells #[.pointer (some ⟨al, 0, none⟩)] 30)).alloc (.cells #[.slice none 0 0] 22)).alloc (.cells #[.int .u64 (m : Int)] 39)) := (((Below.refl _ w).alloc (Nat.le_refl _) _).alloc (by simp) _).alloc (by simp; omega) _
  simp only [World.size_alloc] at bM bN bA
  obtain ⟨W0, hW0⟩ : ∃ W0, ((w.alloc (.cells #[.pointer (some ⟨al, 0, none⟩)] 30)).alloc (.cells #[.slice none 0 0] 22)).alloc (.cells #[.int .u64 (m : Int)] 39) = W0 := ⟨_, rfl⟩
  rw [hW0] at bM bN bA hB0 ⊢
  clear hW0
  have hT0 := hT.below hw0 hB0
  refine wpIn_rangeFunc_ownG hro (by omega) (gf := 71) (lb := #[.pointer (some ⟨w.heap.size + 1 + 1, 0, none⟩)]) rfl trivial (enters_of Tryd.func71 (by kernel_rfl) rfl)
    (each_stops _ (by omega) (w.heap.size + 1 + 1) m hm W0 hT0 bM.lt bM.cell) keepsTab_t (keepsTab_b hT0.size) (Below.refl _ _) (fun _ => rfl)
    (fun pre W => (Boxed W w.heap.size 30 (.pointer (some ⟨al, 0, none⟩)) ∧ ∃ v, Boxed W (w.heap.size + 1) 22 v ∧ W.ownsRow w.heap.size 9 1 v pre.length (letV L pre) ∧ True) ∧ Below w.heap.size w W)
    (fun _ _ _ => False)
    (OwnFrom.and (OwnFrom.and (Own.from (boxed_own w.heap.size 30 (fun _ : List Nat => .pointer (some ⟨al, 0, none⟩))) _) (Own.from (holdsRow_own w.heap.size (w.heap.size + 1) 22 9 1 (fun pre : List Nat => pre.length) (letV L) (fun _ _ => True)) _)) (ownFrom_below (Nat.le_refl _) hB0.size))
    (fun _ _ _ _ _ h _ _ => h.elim)
    ⟨⟨bA, _, bN, World.ownsRow_nil _ _ _ _, trivial⟩, hB0⟩
    (fun x => { tmps := #[.pointer (some ⟨al, 0, none⟩), .int .u64 (m : Int), .pointer (some ⟨w.heap.size, 0, none⟩), undef, .string ⟨#[]⟩, .pointer (some ⟨w.heap.size + 1, 0, none⟩), .int .i64 (x : Int), .int .u64 (m : Int), .func (.func 71) #[] #[.pointer (some ⟨w.heap.size + 1 + 1, 0, none⟩)], .int .i64 (x : Int), undef, undef, undef, undef, undef, undef, undef, undef], defers := [] }) ?assign ?body ?done ?stop
  case assign =>
    intro l x W K hK
    gi_wp2
    exact hK
  case body =>
    rintro l pre x W ⟨⟨ba, v, bk, hown, _⟩, hB⟩ hlen
    have hlp : pre.length < 64 := by omega
    have hws := hB.size
    have hba : Below w.heap.size w W.drew := Below.drew hB
    have cN := name7_any (W := W.drew) (hA.below hba) x
    have hS0 : W.drew.cell? ⟨w.heap.size, 0, none⟩ = some (.pointer (some ⟨al, 0, none⟩)) := ba.cell
    have ck : W.drew.cell? ⟨w.heap.size + 1, 0, none⟩ = some v := bk.cell
    have hF : ∀ w1, Below W.drew.heap.size W.drew w1 → w1.cell? ⟨w.heap.size, 0, none⟩ = some (.pointer (some ⟨al, 0, none⟩)) ∧ w1.cell? ⟨w.heap.size + 1, 0, none⟩ = some v ∧ Boxed w1 (w.heap.size + 1) 22 v ∧ Boxed w1 w.heap.size 30 (.pointer (some ⟨al, 0, none⟩)) ∧ w1.ownsRow w.heap.size 9 1 v pre.length (letV L pre) ∧ w.heap.size ≤ w1.heap.size := fun w1 hb1 => by
      have x1 : Boxed w1 w.heap.size 30 (.pointer (some ⟨al, 0, none⟩)) := (hb1.block w.heap.size ba.lt).trans ba
      have x2 : Boxed w1 (w.heap.size + 1) 22 v := (hb1.block (w.heap.size + 1) bk.lt).trans bk
      exact ⟨x1.cell, x2.cell, x2, x1, row_keepsU (w := W.drew) hown hb1, Nat.le_trans hws hb1.size⟩
    gi_wp2
    refine wpIn_region_round (S := fun Z => Z.cell? ⟨w.heap.size, 0, none⟩ = some (.pointer (some ⟨al, 0, none⟩))) (by kernel_rfl) (by kernel_rfl) (fun h => by obtain ⟨_, _, h⟩ := h; exact h.elim) ?_
    refine (show wpAnyH _ .any _ _ _ 7 (Array.replicate 7 false) _ W.drew from ?_)
    refine takeD (i := 1) (d := 11) (v := .pointer (some ⟨al, 0, none⟩)) rfl (by kernel_rfl) (by kernel_rfl) (by kernel_rfl) (fun _ _ _ h => h) (fun oi ho => yields_now ho rfl fun Z hSw => ?_) hS0 ?_
    · go_simp
    simp only [Act.put, List.setIfInBounds_toArray, List.set_cons_zero, List.set_cons_succ]
    refine takeD (i := 2) (d := 12) (v := .int .i64 (x : Int)) rfl (by kernel_rfl) (by kernel_rfl) (by kernel_rfl) (fun _ _ _ h => h) (fun oi ho => yields_now ho rfl fun Z hSw => ?_) hS0 ?_
    · go_simp
    simp only [Act.put, List.setIfInBounds_toArray, List.set_cons_zero, List.set_cons_succ]
    refine wpAnyH_all (rs := [0, 3]) (by kernel_rfl) (by simp) (fun i hi => ?_)
    simp only [List.mem_cons, List.not_mem_nil, or_false] at hi
    rcases hi with rfl | rfl
    · refine wpOpV (w' := W.drew) (v := v) rfl rfl rfl (by go_simp) ?_
      refine ⟨hS0, ?_⟩
      simp only [Act.put, List.setIfInBounds_toArray, List.set_cons_zero, List.set_cons_succ]
      refine wpAnyH_all (rs := [3]) (by kernel_rfl) (by simp) (fun i hi => ?_)
      obtain rfl := List.mem_singleton.1 hi
      refine wpOp_callL rfl rfl rfl (by go_simp) cN ?_
      rintro e w1 ⟨rfl, hb1⟩
      obtain ⟨hS1, ck1, bk1, ba1, hown1, hws1⟩ := hF w1 hb1
      refine ⟨_, rfl, hS1, ?_⟩
      simp only [Act.put, List.setIfInBounds_toArray, List.set_cons_zero, List.set_cons_succ]
      refine wpAnyH_all (rs := [4]) (by kernel_rfl) (by simp) (fun i hi => ?_)
      obtain rfl := List.mem_singleton.1 hi
      refine wpOpV (w' := w1.alloc (.cells #[.string (nameAt L (x : Int))] 9)) (v := .slice (some ⟨w1.heap.size, 0, none⟩) 1 1) rfl rfl rfl (by go_simp) ?_
      refine ⟨((ba1.alloc _).cell), ?_⟩
      simp only [Act.put, List.setIfInBounds_toArray, List.set_cons_zero, List.set_cons_succ]
      refine wpAnyH_all (rs := [5]) (by kernel_rfl) (by simp) (fun i hi => ?_)
      obtain rfl := List.mem_singleton.1 hi
      refine wpOpA rfl rfl rfl _ _ 22 rfl w.heap.size 9 i0 (.string ⟨#[]⟩) 1 16 Tryd.underlying22 hi0 hz0 hz1 hz2 rfl (by decide) v _ _ rfl (hown1.alloc _) ⟨w1.heap.size, 0, none⟩ 1 1 [.string (nameAt L (x : Int))] rfl rfl (cell_one_new _ _ _) (by simp [Value.oneCell']) (by unfold maxLen; omega) (by omega) (by rw [World.size_alloc]; omega) ?_
      intro v' w2 hown' hgrow _
      obtain ⟨b1, b2, b3, b4, b5⟩ := bk1.appended neNames hown1 hws1 (Nat.le_succ _) hown' hgrow
      have ba2 := (ba1.alloc (.cells #[.string (nameAt L (x : Int))] 9)).kept hgrow (ba1.not_row neAlph hown1)
      have ba3 := ba2.other (B' := w.heap.size + 1) (by omega) v'
      obtain ⟨g', cap', rfl⟩ := ownsRow_succ hown'
      have c1 := b1.cell
      have f1 := b1.frozen
      refine ⟨ba2.cell, ?_⟩
      simp only [Act.put, List.setIfInBounds_toArray, List.set_cons_zero, List.set_cons_succ]
      refine wpAnyH_all (rs := [6]) (by kernel_rfl) (by simp) (fun i hi => ?_)
      obtain rfl := List.mem_singleton.1 hi
      refine wpOp_skip (w' := w2.setCell ⟨w.heap.size + 1, 0, none⟩ (.slice (some ⟨g', 0, none⟩) (pre.length + 1) cap')) rfl rfl rfl (by go_simp) ⟨ba3.cell, wpAnyH_done (by kernel_rfl) ?_ _⟩
      have HF : Aside (_ ∧ _ ∧ _ ∧ _ ∧ _) := ⟨b2, b3, b4, b5, ba3⟩
      clear b1 b2 b3 b4 b5 ba2 ba3 c1 f1 hown' hgrow
      gi_wp2
      obtain ⟨b2, b3, b4, b5, ba3⟩ := HF.out
      refine ⟨((KeepsOthers.drew W).trans ((keeps_of_below hb1 (Nat.le_refl _)).trans b4)).from _, keepsTab_below (B := w.heap.size) ((Below.drew (Below.refl _ W)).trans (hb1.mono hws) |>.trans b5) hw0, ⟨ba3, _, b2, ?_, trivial⟩, ((Below.drew hB).trans (hb1.mono hws)).trans b5⟩
      rw [letV_snoc, List.length_append]
      exact b3
    · refine wpOp_callL rfl rfl rfl (by go_simp) cN ?_
      rintro e w1 ⟨rfl, hb1⟩
      obtain ⟨hS1, ck1, bk1, ba1, hown1, hws1⟩ := hF w1 hb1
      refine ⟨_, rfl, hS1, ?_⟩
      simp only [Act.put, List.setIfInBounds_toArray, List.set_cons_zero, List.set_cons_succ]
      refine wpAnyH_all (rs := [0, 4]) (by kernel_rfl) (by simp) (fun i hi => ?_)
      simp only [List.mem_cons, List.not_mem_nil, or_false] at hi
      rcases hi with rfl | rfl
      · refine wpOpV (w' := w1) (v := v) rfl rfl rfl (by go_simp) ?_
        refine ⟨hS1, ?_⟩
        simp only [Act.put, List.setIfInBounds_toArray, List.set_cons_zero, List.set_cons_succ]
        refine wpAnyH_all (rs := [4]) (by kernel_rfl) (by simp) (fun i hi => ?_)
        obtain rfl := List.mem_singleton.1 hi
        refine wpOpV (w' := w1.alloc (.cells #[.string (nameAt L (x : Int))] 9)) (v := .slice (some ⟨w1.heap.size, 0, none⟩) 1 1) rfl rfl rfl (by go_simp) ?_
        refine ⟨((ba1.alloc _).cell), ?_⟩
        simp only [Act.put, List.setIfInBounds_toArray, List.set_cons_zero, List.set_cons_succ]
        refine wpAnyH_all (rs := [5]) (by kernel_rfl) (by simp) (fun i hi => ?_)
        obtain rfl := List.mem_singleton.1 hi
        refine wpOpA rfl rfl rfl _ _ 22 rfl w.heap.size 9 i0 (.string ⟨#[]⟩) 1 16 Tryd.underlying22 hi0 hz0 hz1 hz2 rfl (by decide) v _ _ rfl (hown1.alloc _) ⟨w1.heap.size, 0, none⟩ 1 1 [.string (nameAt L (x : Int))] rfl rfl (cell_one_new _ _ _) (by simp [Value.oneCell']) (by unfold maxLen; omega) (by omega) (by rw [World.size_alloc]; omega) ?_
        intro v' w2 hown' hgrow _
        obtain ⟨b1, b2, b3, b4, b5⟩ := bk1.appended neNames hown1 hws1 (Nat.le_succ _) hown' hgrow
        have ba2 := (ba1.alloc (.cells #[.string (nameAt L (x : Int))] 9)).kept hgrow (ba1.not_row neAlph hown1)
        have ba3 := ba2.other (B' := w.heap.size + 1) (by omega) v'
        obtain ⟨g', cap', rfl⟩ := ownsRow_succ hown'
        have c1 := b1.cell
        have f1 := b1.frozen
        refine ⟨ba2.cell, ?_⟩
        simp only [Act.put, List.setIfInBounds_toArray, List.set_cons_zero, List.set_cons_succ]
        refine wpAnyH_all (rs := [6]) (by kernel_rfl) (by simp) (fun i hi => ?_)
        obtain rfl := List.mem_singleton.1 hi
        refine wpOp_skip (w' := w2.setCell ⟨w.heap.size + 1, 0, none⟩ (.slice (some ⟨g', 0, none⟩) (pre.length + 1) cap')) rfl rfl rfl (by go_simp) ⟨ba3.cell, wpAnyH_done (by kernel_rfl) ?_ _⟩
        have HF : Aside (_ ∧ _ ∧ _ ∧ _ ∧ _) := ⟨b2, b3, b4, b5, ba3⟩
        clear b1 b2 b3 b4 b5 ba2 ba3 c1 f1 hown' hgrow
        gi_wp2
        obtain ⟨b2, b3, b4, b5, ba3⟩ := HF.out
        refine ⟨((KeepsOthers.drew W).trans ((keeps_of_below hb1 (Nat.le_refl _)).trans b4)).from _, keepsTab_below (B := w.heap.size) ((Below.drew (Below.refl _ W)).trans (hb1.mono hws) |>.trans b5) hw0, ⟨ba3, _, b2, ?_, trivial⟩, ((Below.drew hB).trans (hb1.mono hws)).trans b5⟩
        rw [letV_snoc, List.length_append]
        exact b3
      · refine wpOpV (w' := w1.alloc (.cells #[.string (nameAt L (x : Int))] 9)) (v := .slice (some ⟨w1.heap.size, 0, none⟩) 1 1) rfl rfl rfl (by go_simp) ?_
        refine ⟨((ba1.alloc _).cell), ?_⟩
        simp only [Act.put, List.setIfInBounds_toArray, List.set_cons_zero, List.set_cons_succ]
        refine wpAnyH_all (rs := [0]) (by kernel_rfl) (by simp) (fun i hi => ?_)
        obtain rfl := List.mem_singleton.1 hi
        have ckA := (bk1.alloc (.cells #[.string (nameAt L (x : Int))] 9)).cell
        refine wpOpV (w' := w1.alloc (.cells #[.string (nameAt L (x : Int))] 9)) (v := v) rfl rfl rfl (by go_simp) ?_
        refine ⟨(ba1.alloc _).cell, ?_⟩
        simp only [Act.put, List.setIfInBounds_toArray, List.set_cons_zero, List.set_cons_succ]
        refine wpAnyH_all (rs := [5]) (by kernel_rfl) (by simp) (fun i hi => ?_)
        obtain rfl := List.mem_singleton.1 hi
        refine wpOpA rfl rfl rfl _ _ 22 rfl w.heap.size 9 i0 (.string ⟨#[]⟩) 1 16 Tryd.underlying22 hi0 hz0 hz1 hz2 rfl (by decide) v _ _ rfl (hown1.alloc _) ⟨w1.heap.size, 0, none⟩ 1 1 [.string (nameAt L (x : Int))] rfl rfl (cell_one_new _ _ _) (by simp [Value.oneCell']) (by unfold maxLen; omega) (by omega) (by rw [World.size_alloc]; omega) ?_
        intro v' w2 hown' hgrow _
        obtain ⟨b1, b2, b3, b4, b5⟩ := bk1.appended neNames hown1 hws1 (Nat.le_succ _) hown' hgrow
        have ba2 := (ba1.alloc (.cells #[.string (nameAt L (x : Int))] 9)).kept hgrow (ba1.not_row neAlph hown1)
        have ba3 := ba2.other (B' := w.heap.size + 1) (by omega) v'
        obtain ⟨g', cap', rfl⟩ := ownsRow_succ hown'
        have c1 := b1.cell
        have f1 := b1.frozen
        refine ⟨ba2.cell, ?_⟩
        simp only [Act.put, List.setIfInBounds_toArray, List.set_cons_zero, List.set_cons_succ]
        refine wpAnyH_all (rs := [6]) (by kernel_rfl) (by simp) (fun i hi => ?_)
        obtain rfl := List.mem_singleton.1 hi
        refine wpOp_skip (w' := w2.setCell ⟨w.heap.size + 1, 0, none⟩ (.slice (some ⟨g', 0, none⟩) (pre.length + 1) cap')) rfl rfl rfl (by go_simp) ⟨ba3.cell, wpAnyH_done (by kernel_rfl) ?_ _⟩
        have HF : Aside (_ ∧ _ ∧ _ ∧ _ ∧ _) := ⟨b2, b3, b4, b5, ba3⟩
        clear b1 b2 b3 b4 b5 ba2 ba3 c1 f1 hown' hgrow
        gi_wp2
        obtain ⟨b2, b3, b4, b5, ba3⟩ := HF.out
        refine ⟨((KeepsOthers.drew W).trans ((keeps_of_below hb1 (Nat.le_refl _)).trans b4)).from _, keepsTab_below (B := w.heap.size) ((Below.drew (Below.refl _ W)).trans (hb1.mono hws) |>.trans b5) hw0, ⟨ba3, _, b2, ?_, trivial⟩, ((Below.drew hB).trans (hb1.mono hws)).trans b5⟩
        rw [letV_snoc, List.length_append]
        exact b3
  case stop =>
    rintro D c pre W _ _ h _
    exact h.elim
  case done =>
    rintro D ys W hD rfl ⟨⟨ba, v, bk, hown, _⟩, hB⟩ hK
    have ck := bk.cell
    have hws := hB.size
    have HB : Aside (Below w.heap.size w W) := hB
    obtain ⟨ao, cap, hcap, hvv, hRd⟩ : ∃ ao cap, (lets L m).length ≤ cap ∧ v = .slice ao (lets L m).length cap ∧ ReadsO W ao ((lets L m).map Value.string) := by
      have hll : (bitsL m).length = (lets L m).length := by unfold lets; rw [List.length_map]
      rw [letV_lets, hll] at hown
      exact row_reads7 hown
    have cJ := join7_any (lets L m) (lets_size h12 m) (lets_len L m) ao cap hcap hRd
    have hDl : w.heap.size + 1 < W0.heap.size := bN.lt
    subst hvv
    clear hown hRd bk ba
    obtain ⟨J, hJ⟩ : ∃ J, jnL (lets L m) = J := ⟨_, rfl⟩
    have HJ : Aside (jnL (lets L m) = J) := hJ
    rw [hJ] at cJ
    clear hJ
    generalize (lets L m).length = n at *
    gi_wp2_with fail
    refine ⟨trivial, (callsIn_wide.2 cJ).mono ?_⟩
    rintro e w5 ⟨rfl, hb5⟩
    have hK5 : w5.heap[D]? = some (.deferred (some [])) := (hb5.block D (Array.getElem?_eq_some_iff.1 hK).1).trans hK
    have hB5 : Below w.heap.size w w5 := HB.out.trans (hb5.mono hws)
    gi_wp2
    refine ⟨by simp, .inl ⟨_, _, rfl, run_takeDeferred hK5, ?_⟩⟩
    exact ⟨_, results_tmp rfl _ _ _, by rw [HJ.out]; rfl, hB5.trans (belowK_b (w := w) (Nat.le_refl _) _ D _ _ (by have := hB0.size; omega) hK5 rfl rfl)⟩
end Go.Proofs.YtcocbjipikeebaaDoor.Pts
