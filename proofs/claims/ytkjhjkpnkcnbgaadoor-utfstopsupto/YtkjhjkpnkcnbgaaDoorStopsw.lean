/-
  The law on stopping the sequence walked: for every text of up to 1048576 bytes and every number it answers true, in every world that holds the two tables.
-/
import Derived.Test.YtkjhjkpnkcnbgaaDoorSeq
import Derived.Sort.CutIn
import Derived.Test.YtkjhjkpnkcnbgaaDoorPlc
import Derived.Test.YtkjhjkpnkcnbgaaDoorRds
import Derived.Test.YtkjhjkpnkcnbgaaDoorUtfa
import Derived.BigQuiet
import Derived.Deep.QuietTactic
import Derived.Deep.RegionWith
namespace Go.Proofs.YtkjhjkpnkcnbgaaDoor.Utf
open Go Go.Lib Go.RowKit Go.Shelf
attribute [local go_sem] Oper.semAt_some

/-- The last place of what has come, -1 where nothing has. -/
def lastP (l : List (Nat × Nat)) : Int := match l.getLast? with | some x => (x.1 : Int) | none => -1
theorem lastP_snoc (l : List (Nat × Nat)) (x : Nat × Nat) : lastP (l ++ [x]) = (x.1 : Int) := by simp [lastP]

theorem reads_row {W : World} {B : Nat} {e : TypeId} {v : Value} {xs : List Value} {n : Nat} (h : W.ownsRow B e 1 v n xs) : ∃ ao cap, v = .slice ao n cap ∧ Reads W ao xs := by
  have hh := h
  rcases h.2 with ⟨rfl, h0⟩ | ⟨g, cap, cur, rfl, hb, _⟩
  · have hx := h.1
    exact ⟨none, 0, by rw [h0], fun j hj => by omega⟩
  · refine ⟨_, cap, rfl, fun j hj => ⟨g, rfl, (hh.lt g rfl).2, ?_⟩⟩
    have := hh.cells (g := g) rfl j xs[j] (by simp [hj])
    rw [show (⟨g, 0, none⟩ : Addr).add j = ⟨g, j, none⟩ by unfold Addr.add; split <;> simp_all] at this
    exact this

theorem wpIn_blind {F : Fence} {rm : Nat} {P : Program} {c : Code} {K : Act → World → Prop} {Q' : Exit → Act → World → Prop} {a : Act} {w : World} (h : c.wpIn F rm P (Exit.then K (fun _ _ _ => False)) a w) : c.wpIn F rm P (Exit.then K Q') a w := by
  refine wpIn_mono h ?_
  intro e a' w' hq
  cases e with
  | normal => exact hq
  | exit id => exact hq.elim
  | goto l => exact hq.elim
  | ret => exact hq.elim
  | panic ch => exact hq.elim
  | outgrown => exact hq.elim

set_option maxRecDepth 100000 in
set_option maxHeartbeats 4000000 in
theorem stops_walk (s : ByteArray) (n : Int) (w : World) (hs : s.size ≤ 1048576) (h0 : -9223372036854775808 ≤ n) (h1 : n ≤ 9223372036854775807) (hT : Lib.Utf8Tabs 0 1 w) :
    Calls Tryd.prog 6 #[.string s, .int .i64 n] w fun e w' => e = .returned (.bool true) ∧ Below w.heap.size w w' := by
  refine (callsIn_wide (n := 3)).1 ?_
  have hro : Fence.wide.round = none := rfl
  have hpl := pairs_le s
  have hms : s.size ≤ maxLen := by unfold maxLen; omega
  have hTa : Lib.Utf8Tabs 0 1 (w.alloc (.cells #[.int .i64 n] 3)) := tabs_below ((Below.refl w.heap.size w).alloc (Nat.le_refl _) _) (tabs_size hT) hT
  have cA := awake_any _ hTa
  refine callsIn_of_wp_marks Tryd.func6 rfl trivial ?_ hro
  simp only [Tryd.ntmps6, List.size_toArray, List.length_cons, List.length_nil, Nat.reduceAdd, Nat.reduceSub, Array.replicate_succ, Array.replicate_zero, List.push_toArray, List.append_toArray, List.nil_append, List.cons_append]
  gi_wp2_with (refine ⟨trivial, ?_⟩; gi_at_call 9; refine (callsIn_wide.2 cA).mono ?_)
  rintro e w1 ⟨rfl, b1⟩
  clear cA
  have hN1 : w1.cell? ⟨w.heap.size, 0, none⟩ = some (.int .i64 n) := by
    rw [b1.cell (p := ⟨w.heap.size, 0, none⟩) (by simp)]
    exact (Boxed.new w 3 (.int .i64 n)).cell
  have hw1 : w.heap.size + 1 ≤ w1.heap.size := by have := b1.size; simpa using this
  have hB1 : Below w.heap.size w w1 := ((Below.refl w.heap.size w).alloc (Nat.le_refl _) _).trans (b1.mono (by simp))
  clear b1
  gi_wp2_with (refine ⟨trivial, ?_⟩; gi_at_call 30; refine (all_in Fence.wide _ trivial hro _ _).mono ?_; rintro e w' ⟨rfl, rfl⟩)
  have bS := ((Boxed.new w1 9 (.string s)).alloc (.cells #[.int .i64 0] 3)).alloc (.cells #[.int .i64 (-1)] 3)
  have bK := (Boxed.new (w1.alloc (.cells #[.string s] 9)) 3 (.int .i64 0)).alloc (.cells #[.int .i64 (-1)] 3)
  have bL := Boxed.new ((w1.alloc (.cells #[.string s] 9)).alloc (.cells #[.int .i64 0] 3)) 3 (.int .i64 (-1))
  simp only [World.size_alloc] at bK bL
  have hB0 : Below (w1.heap.size + 1) (w1.alloc (.cells #[.string s] 9)) (((w1.alloc (.cells #[.string s] 9)).alloc (.cells #[.int .i64 0] 3)).alloc (.cells #[.int .i64 (-1)] 3)) := ((Below.refl _ _).alloc (by simp) _).alloc (by simp) _
  obtain ⟨W0, hW0⟩ : ∃ W0, (((w1.alloc (.cells #[.string s] 9)).alloc (.cells #[.int .i64 0] 3)).alloc (.cells #[.int .i64 (-1)] 3)) = W0 := ⟨_, rfl⟩
  have hW0s : W0.heap.size = w1.heap.size + 3 := by rw [← hW0]; simp
  rw [hW0] at bS bK bL hB0 ⊢
  clear hW0
  have HW0s : Hid (W0.heap.size = w1.heap.size + 3) := hW0s
  refine wpIn_rangeFunc_ownG hro (by omega) (gf := 40) (lb := #[.pointer (some ⟨w1.heap.size, 0, none⟩)]) rfl trivial (enters_of Tryd.func40 (by kernel_rfl) rfl)
    (all_stops Fence.wide _ trivial hro (by omega) w1.heap.size s W0 bS.lt bS.cell) walksK_t walksK_b (Below.refl _ _) (fun _ => rfl)
    (fun pre W => (Boxed W (w1.heap.size + 1) 3 (.int .i64 (pre.length : Int)) ∧ Boxed W (w1.heap.size + 1 + 1) 3 (.int .i64 (lastP pre)) ∧ (pre.length : Int) ≤ max n 0) ∧ Below (w1.heap.size + 1) (w1.alloc (.cells #[.string s] 9)) W)
    (fun c pre W => (∃ ini x, c = .exit 0 ∧ pre = ini ++ [x] ∧ n ≤ (ini.length : Int) ∧ Boxed W (w1.heap.size + 1) 3 (.int .i64 (ini.length : Int)) ∧ Boxed W (w1.heap.size + 1 + 1) 3 (.int .i64 (lastP ini)) ∧ (ini.length : Int) ≤ max n 0) ∧ Below (w1.heap.size + 1) (w1.alloc (.cells #[.string s] 9)) W)
    (OwnFrom.and (OwnFrom.and (Own.from (boxed_own (w1.heap.size + 1) 3 (fun pre : List (Nat × Nat) => .int .i64 (pre.length : Int))) _) (OwnFrom.and (Own.from (boxed_own (w1.heap.size + 1 + 1) 3 (fun pre : List (Nat × Nat) => .int .i64 (lastP pre))) _) (ownFrom_pure _ _))) (ownFrom_below (by simp) (by omega)))
    (fun c => OwnFrom.and (fun pre W W' row hs hg hr => by
      obtain ⟨ini, x, e1, e2, e3, e4, e5, e6⟩ := hs
      exact ⟨ini, x, e1, e2, e3, Own.from (boxed_own (w1.heap.size + 1) 3 (fun _ : List (Nat × Nat) => .int .i64 (ini.length : Int))) _ [] W W' row e4 hg hr, Own.from (boxed_own (w1.heap.size + 1 + 1) 3 (fun _ : List (Nat × Nat) => .int .i64 (lastP ini))) _ [] W W' row e5 hg hr, e6⟩) (ownFrom_below (by simp) (by omega)))
    ⟨⟨bK, bL, by simp; omega⟩, hB0⟩
    (fun x => { tmps := #[.string s, .int .i64 n, undef, .pointer (some ⟨w.heap.size, 0, none⟩), .bool false, .func (.func 40) #[] #[.pointer (some ⟨w1.heap.size, 0, none⟩)], .pointer (some ⟨w1.heap.size + 1, 0, none⟩), .pointer (some ⟨w1.heap.size + 1 + 1, 0, none⟩), .int .i64 (x.1 : Int), undef, undef, .bool true, .bool false, .string s, .func (.func 40) #[] #[.pointer (some ⟨w1.heap.size, 0, none⟩)], .func (.func 40) #[] #[.pointer (some ⟨w1.heap.size, 0, none⟩)], .int .i64 (x.1 : Int), .int .i32 (x.2 : Int), undef, undef, undef, undef, undef, undef, undef, undef, undef, undef, undef, undef, undef, undef, undef, undef, undef, undef, undef, undef, undef, undef, undef, undef, undef, undef, undef, undef, undef, undef, undef, undef, undef, undef, undef, undef, undef], defers := [] }) ?assign ?body ?done ?stop
  case assign =>
    intro l x W K hK
    gi_wp2
    exact hK
  case body =>
    rintro l pre x W ⟨⟨bk, bl, hkn⟩, hB⟩ hlen
    have hNc : W.cell? ⟨w.heap.size, 0, none⟩ = some (.int .i64 n) := by
      rw [hB.cell (p := ⟨w.heap.size, 0, none⟩) (by show w.heap.size < w1.heap.size + 1; omega), Below.cell (B := w1.heap.size) ((Below.refl _ w1).alloc (Nat.le_refl _) _) (p := ⟨w.heap.size, 0, none⟩) (by show w.heap.size < w1.heap.size; omega)]
      exact hN1
    have ck := bk.cell
    have cl := bl.cell
    have fk := bk.frozen
    have fl := bl.frozen
    have hlp : pre.length ≤ 1048576 := by omega
    by_cases hb : n ≤ (pre.length : Int)
    · gi_wp2
      exact ⟨KeepsFrom.refl _ _, ⟨pre, x, rfl, rfl, hb, bk, bl, hkn⟩, hB⟩
    · have s1 := bl.set (.int .i64 (x.1 : Int))
      have s2 := bk.other (B' := w1.heap.size + 1 + 1) (by omega) (.int .i64 (x.1 : Int))
      have ck2 := s2.cell
      have fk2 := s2.frozen
      gi_wp2
      refine ⟨((KeepsOthers.setCell _ _ _).trans (KeepsOthers.setCell _ _ _)).from _, ((KeepsOthers.setCell _ _ _).trans (KeepsOthers.setCell _ _ _)).walks, ⟨?_, ?_, ?_⟩, ?_⟩
      · have := s2.set (.int .i64 ((pre.length : Int) + 1))
        rw [show ((pre ++ [x]).length : Int) = (pre.length : Int) + 1 by simp]
        exact this
      · have := s1.other (B' := w1.heap.size + 1) (by omega) (.int .i64 ((pre.length : Int) + 1))
        rw [lastP_snoc]
        exact this
      · simp; omega
      · exact (hB.setCell (p := ⟨w1.heap.size + 1 + 1, 0, none⟩) (by show w1.heap.size + 1 ≤ w1.heap.size + 1 + 1; omega) _).setCell (p := ⟨w1.heap.size + 1, 0, none⟩) (Nat.le_refl _) _
  case done =>
    rintro D ys W hD rfl ⟨⟨bk, bl, hkn⟩, hB⟩ hK
    obtain ⟨kk, lst, bk, bl, hmin, hle, hlast⟩ : ∃ (kk : Nat) (lst : Int), Boxed W (w1.heap.size + 1) 3 (.int .i64 (kk : Int)) ∧ Boxed W (w1.heap.size + 1 + 1) 3 (.int .i64 lst) ∧ min (max n 0) ((Lib.runeCount s : Nat) : Int) = (kk : Int) ∧ kk ≤ 1048576 ∧ (∀ j, kk = j + 1 → ∃ h : j < (pairs s).length, lst = (((pairs s)[j]'h).1 : Int)) := by
      refine ⟨_, _, bk, bl, by rw [← pairs_length]; omega, by omega, fun j hj => ?_⟩
      refine ⟨by omega, ?_⟩
      unfold lastP
      rw [List.getLast?_eq_getElem?, show (pairs s).length - 1 = j by omega, List.getElem?_eq_getElem (by omega)]
    clear hkn
    have hNW : W.cell? ⟨w.heap.size, 0, none⟩ = some (.int .i64 n) := by
      rw [hB.cell (p := ⟨w.heap.size, 0, none⟩) (by show w.heap.size < w1.heap.size + 1; omega), Below.cell (B := w1.heap.size) ((Below.refl _ w1).alloc (Nat.le_refl _) _) (p := ⟨w.heap.size, 0, none⟩) (by show w.heap.size < w1.heap.size; omega)]
      exact hN1
    have hWlt : w.heap.size < W.heap.size := by have := hB.size; simp at this; omega
    clear bK bL bS hB0 hN1
    have hf15 : Fence.wide.fn 15 := trivial
    have hmx : Tryd.prog.follows .mixedOrders = true := by kernel_rfl
    gi_upto_region 11 with fail
    gi_cut [9] from 11 (fun s9 wc => s9 = .int .i64 (kk : Int) ∧ Below W.heap.size W wc)
    case first =>
      refine wpIn_blind ?_
      (first | gi_region_with_o (gi_at_call 15; refine (callsIn_wide.2 (count_any s _ hms)).mono ?_; rintro e w' ⟨rfl, bC⟩; have hN' : w'.cell? ⟨w.heap.size, 0, none⟩ = some (.int .i64 n) := (bC.cell (p := ⟨w.heap.size, 0, none⟩) (by exact hWlt)).trans hNW) | fail)
      all_goals (gi_wp2_with fail)
      all_goals gi_meet
      all_goals exact ⟨rfl, (Below.drew (Below.refl _ W)).trans bC⟩
    case rest =>
      obtain ⟨rfl, hBc⟩ := hcut
      have hK := (hBc.block D (Array.getElem?_eq_some_iff.1 hK).1).trans hK
      have bk := (hBc.block _ bk.lt).trans bk
      have bl := (hBc.block _ bl.lt).trans bl
      have hBx := hB.trans (hBc.mono (by have := hB.size; simpa using this))
      have bk : Boxed wc (w1.heap.size + 1) 3 (.int .i64 (kk : Int)) := bk
      have bl : Boxed wc (w1.heap.size + 1 + 1) 3 (.int .i64 lst) := bl
      have ck := bk.cell
      have cl := bl.cell
      have hf13 : Fence.wide.fn 13 := trivial
      gi_upto_region 12 with fail
      rename World => Wa
      obtain ⟨K, hKK⟩ : ∃ K : Int, K = (kk : Int) := ⟨_, rfl⟩
      rw [← hKK] at ck ⊢
      have HKK : Hid (K = (kk : Int)) := hKK
      clear hKK
      gi_cut [45] from 11 (fun s45 wd => s45 = .bool false ∧ Below Wa.heap.size Wa wd)
      case first =>
        refine wpIn_blind ?_
        rcases kk with _ | j
        · refine wpIn_wide.2 ?_
          have c0 : K = 0 := HKK.out
          clear HKK
          subst c0
          have hg : decide ((0:Int) > 0) = false := rfl
          clear bk bl hlast hmin
          go_quiet (fail)
          gi_wp2_with fail
          gi_meet
          exact ⟨rfl, below_drewN (Below.refl _ _) _⟩
        · obtain ⟨hj, rfl⟩ := hlast j rfl
          refine wpIn_wide.2 ?_
          have hbk : w1.heap.size + 1 < Wa.heap.size := bk.lt
          have hbl : w1.heap.size + 1 + 1 < Wa.heap.size := bl.lt
          obtain ⟨L, hL⟩ : ∃ L : Int, L = (((pairs s)[j]'hj).1 : Int) := ⟨_, rfl⟩
          have hKK : K = ((j + 1 : Nat) : Int) := HKK.out
          rw [← hL] at cl
          obtain ⟨J, hJ⟩ : ∃ J : Int, K - 1 = J := ⟨_, rfl⟩
          obtain ⟨N, hN⟩ : ∃ N, N = (pairs s).length := ⟨_, rfl⟩
          have hK1 : 0 < K := by omega
          have hK5 : K ≤ 1048576 := by omega
          have hJ0 : 0 ≤ J := by omega
          have hJ1 : J < (N : Int) := by omega
          have hJ2 : J.toNat = j := by omega
          have hjN : j < N := by omega
          have hwr : IntKind.i64.wrap J = J := by rw [IntKind.wrap_i64]; omega
          have hJ5 : J ≤ 1048576 := by omega
          have HN : Hid (N = (pairs s).length) := hN
          have hp16 : s.size ≤ 16777216 := by omega
          have HL : Hid (L = (((pairs s)[j]'hj).1 : Int)) := hL
          clear bk bl hlast hmin hle hKK hL hN
          (go_region_with (go_at_call 13; refine (places_any s _ hp16).mono ?_; rintro e w' ⟨v, rfl, hown, bC⟩; rw [← HN.out] at hown; obtain ⟨ao, cap, rfl, hr⟩ := reads_row hown; obtain ⟨g, rfl, hg1, hg2⟩ := hr j (by rw [plc_length]; exact hj); have ck' : w'.cell? ⟨w1.heap.size + 1, 0, none⟩ = some (.int .i64 K) := (bC.cell (p := ⟨w1.heap.size + 1, 0, none⟩) (by exact hbk)).trans ck; have cl' : w'.cell? ⟨w1.heap.size + 1 + 1, 0, none⟩ = some (.int .i64 L) := (bC.cell (p := ⟨w1.heap.size + 1 + 1, 0, none⟩) (by exact hbl)).trans cl; have cg : w'.cell? ⟨g, j, none⟩ = some (.int .i64 L) := (by rw [hg2, HL.out]; simp [plc]); clear hg2 hr hown))
          all_goals (try go_simp)
          all_goals (gi_wp2_with fail)
          all_goals gi_meet
          all_goals exact ⟨rfl, (Below.drew (Below.refl _ Wa)).trans bC⟩
      case rest =>
        obtain ⟨rfl, hBd⟩ := hcut
        have hKd := (hBd.block D (Array.getElem?_eq_some_iff.1 hK).1).trans hK
        have hDd : D < wc.heap.size := (Array.getElem?_eq_some_iff.1 hKd).1
        have hBy := hBx.trans (hBd.mono (by have := hBx.size; simpa using this))
        clear bk bl hlast hmin hle hK hBc hB hNW hBx hBd ck cl
        have hws : w1.heap.size + 1 ≤ wc.heap.size := by have := hBy.size; simpa using this
        have hSc : wc.cell? ⟨w1.heap.size, 0, none⟩ = some (.string s) := by
          rw [hBy.cell (p := ⟨w1.heap.size, 0, none⟩) (by show w1.heap.size < w1.heap.size + 1; omega)]
          exact (Boxed.new w1 9 (.string s)).cell
        have hSa : (wc.alloc (.cells #[.int .i64 0] 3)).cell? ⟨w1.heap.size, 0, none⟩ = some (.string s) := by
          rw [Below.cell (B := wc.heap.size) ((Below.refl _ wc).alloc (Nat.le_refl _) _) (p := ⟨w1.heap.size, 0, none⟩) (by show w1.heap.size < wc.heap.size; omega)]
          exact hSc
        gi_wp2_with fail
        have bA := Boxed.new wc 3 (.int .i64 0)
        have hBA : Below wc.heap.size wc (wc.alloc (.cells #[.int .i64 0] 3)) := (Below.refl _ _).alloc (Nat.le_refl _) _
        have hAs : (wc.alloc (.cells #[.int .i64 0] 3)).heap.size = wc.heap.size + 1 := by simp
        have hAl : w1.heap.size < (wc.alloc (.cells #[.int .i64 0] 3)).heap.size := by omega
        obtain ⟨W2, hW2⟩ : ∃ W2, wc.alloc (.cells #[.int .i64 0] 3) = W2 := ⟨_, rfl⟩
        rw [hW2] at bA hBA hAs hAl hSa ⊢
        clear hW2
        have HAs : Hid (W2.heap.size = wc.heap.size + 1) := hAs
        refine wpIn_rangeFunc_ownG hro (by omega) (gf := 40) (lb := #[.pointer (some ⟨w1.heap.size, 0, none⟩)]) rfl trivial (enters_of Tryd.func40 (by kernel_rfl) rfl)
          (all_stops Fence.wide _ trivial hro (by omega) w1.heap.size s W2 hAl hSa) walksK_t walksK_b (Below.refl _ _) (fun _ => rfl)
          (fun pre W => Boxed W wc.heap.size 3 (.int .i64 (pre.length : Int)) ∧ Below wc.heap.size wc W)
          (fun _ _ _ => False)
          (OwnFrom.and (Own.from (boxed_own wc.heap.size 3 (fun pre : List (Nat × Nat) => .int .i64 (pre.length : Int))) _) (ownFrom_below (Nat.le_refl _) (by omega)))
          (fun _ _ _ _ _ h _ _ => h.elim)
          ⟨bA, hBA⟩
          (fun x => { tmps := #[.string s, .int .i64 n, undef, .pointer (some ⟨w.heap.size, 0, none⟩), .bool false, .func (.func 40) #[] #[.pointer (some ⟨w1.heap.size, 0, none⟩)], .pointer (some ⟨w1.heap.size + 1, 0, none⟩), .pointer (some ⟨w1.heap.size + 1 + 1, 0, none⟩), undef, .int .i64 K, .pointer (some ⟨wc.heap.size, 0, none⟩), u11, u12, u13, u14, u15, u16, u17, u18, u19, u20, u21, u22, u23, u24, u25, u26, u27, u28, u29, u30, u31, u32, u33, u34, u35, u36, u37, u38, u39, u40, u41, u42, u43, u44, .bool false, .func (.func 40) #[] #[.pointer (some ⟨w1.heap.size, 0, none⟩)], .int .i64 (x.1 : Int), .int .i32 (x.2 : Int), u49, u50, u51, u52, u53, u54], defers := [] }) ?assign2 ?body2 ?done2 ?stop2
        case assign2 =>
          intro l x W K hK
          gi_wp2
          exact hK
        case body2 =>
          rintro l pre x W ⟨bk, hB⟩ hlen
          have ck := bk.cell
          have fk := bk.frozen
          have hlp : pre.length ≤ 1048576 := by omega
          gi_wp2
          refine ⟨(KeepsOthers.setCell _ _ _).from _, (KeepsOthers.setCell _ _ _).walks, ?_, hB.setCell (p := ⟨wc.heap.size, 0, none⟩) (Nat.le_refl _) _⟩
          have := bk.set (.int .i64 ((pre.length : Int) + 1))
          rw [show ((pre ++ [x]).length : Int) = (pre.length : Int) + 1 by simp]
          exact this
        case stop2 =>
          rintro D c pre W _ _ h _
          exact h.elim
        case done2 =>
          rintro D2 ys W hD2 rfl ⟨bk, hB⟩ hK2
          have hpc : ((pairs s).length : Int) = ((Lib.runeCount s : Nat) : Int) := by rw [← pairs_length]
          have hKe := (hB.block D hDd).trans hKd
          have hWb : wc.heap.size < W.heap.size := bk.lt
          rw [hpc] at bk
          have ck := bk.cell
          clear hpc
          gi_upto_region 17 with fail
          rename World => Wb
          gi_cut [4] from 11 (fun s4 we => s4 = .bool true ∧ Below Wb.heap.size Wb we)
          case first =>
            refine wpIn_blind ?_
            (first | gi_region_with_o (gi_at_call 15; refine (callsIn_wide.2 (count_any s _ hms)).mono ?_; rintro e w' ⟨rfl, bC⟩; have ck' : w'.cell? ⟨wc.heap.size, 0, none⟩ = some (.int .i64 ((Lib.runeCount s : Nat) : Int)) := (bC.cell (p := ⟨wc.heap.size, 0, none⟩) (by exact hWb)).trans ck) | fail)
            all_goals (gi_wp2_with fail)
            all_goals gi_meet
            all_goals exact ⟨rfl, (Below.drew (Below.refl _ Wb)).trans bC⟩
          case rest =>
            obtain ⟨rfl, hBe⟩ := hcut
            rename World => We
            have hKf := (hBe.block D (Array.getElem?_eq_some_iff.1 hKe).1).trans hKe
            have hKf2 := (hBe.block D2 (Array.getElem?_eq_some_iff.1 hK2).1).trans hK2
            have k1 : Below w.heap.size w1 wc := (((Below.refl w1.heap.size w1).alloc (Nat.le_refl _) _).trans (hBy.mono (by omega))).mono (by omega)
            have k2 : Below w.heap.size wc Wb := hB.mono (by omega)
            have k3 : Below w.heap.size Wb We := hBe.mono (by omega)
            have hBz : Below w.heap.size w We := ((hB1.trans k1).trans k2).trans k3
            gi_wp2
            refine ⟨by simp, .inl ⟨_, _, rfl, run_takeDeferred hKf2, ?_⟩⟩
            have hK5 : (We.putObj D2 (.deferred none)).heap[D]? = some (Obj.deferred (some [])) := by
              rw [World.putObj_heap_other (by omega)]; exact hKf
            refine ⟨by simp, .inl ⟨_, _, rfl, run_takeDeferred hK5, ?_⟩⟩
            exact ⟨_, results_tmp rfl _ _ _, rfl, (hBz.trans (belowK_b (w := w) (Nat.le_refl _) _ D2 _ _ (by omega) hKf2 rfl rfl)).trans (belowK_b (w := w) (Nat.le_refl _) _ D _ _ (by omega) hK5 rfl rfl)⟩
  case stop =>
    rintro D c pre W hD ⟨tl, htl⟩ ⟨⟨ini, x, rfl, rfl, hni, bk, bl, hkn⟩, hB⟩ hK
    obtain ⟨kk, lst, bk, bl, hmin, hle, hlast⟩ : ∃ (kk : Nat) (lst : Int), Boxed W (w1.heap.size + 1) 3 (.int .i64 (kk : Int)) ∧ Boxed W (w1.heap.size + 1 + 1) 3 (.int .i64 lst) ∧ min (max n 0) ((Lib.runeCount s : Nat) : Int) = (kk : Int) ∧ kk ≤ 1048576 ∧ (∀ j, kk = j + 1 → ∃ h : j < (pairs s).length, lst = (((pairs s)[j]'h).1 : Int)) := by
      have hlen := congrArg List.length htl
      rw [List.length_append, List.length_append, List.length_singleton] at hlen
      refine ⟨_, _, bk, bl, by rw [← pairs_length]; omega, by omega, fun j hj => ?_⟩
      have hjl : j < (pairs s).length := by omega
      refine ⟨hjl, ?_⟩
      unfold lastP
      have e : (pairs s)[j]? = ini[j]? := by
        rw [← htl, List.append_assoc, List.getElem?_append_left (by omega)]
      rw [List.getElem?_eq_getElem hjl] at e
      rw [List.getLast?_eq_getElem?, show ini.length - 1 = j by omega, ← e]
    clear hkn hni htl
    have hNW : W.cell? ⟨w.heap.size, 0, none⟩ = some (.int .i64 n) := by
      rw [hB.cell (p := ⟨w.heap.size, 0, none⟩) (by show w.heap.size < w1.heap.size + 1; omega), Below.cell (B := w1.heap.size) ((Below.refl _ w1).alloc (Nat.le_refl _) _) (p := ⟨w.heap.size, 0, none⟩) (by show w.heap.size < w1.heap.size; omega)]
      exact hN1
    have hWlt : w.heap.size < W.heap.size := by have := hB.size; simp at this; omega
    clear bK bL bS hB0 hN1
    have hf15 : Fence.wide.fn 15 := trivial
    have hmx : Tryd.prog.follows .mixedOrders = true := by kernel_rfl
    gi_upto_region 11 with fail
    gi_cut [9] from 11 (fun s9 wc => s9 = .int .i64 (kk : Int) ∧ Below W.heap.size W wc)
    case first =>
      refine wpIn_blind ?_
      (first | gi_region_with_o (gi_at_call 15; refine (callsIn_wide.2 (count_any s _ hms)).mono ?_; rintro e w' ⟨rfl, bC⟩; have hN' : w'.cell? ⟨w.heap.size, 0, none⟩ = some (.int .i64 n) := (bC.cell (p := ⟨w.heap.size, 0, none⟩) (by exact hWlt)).trans hNW) | fail)
      all_goals (gi_wp2_with fail)
      all_goals gi_meet
      all_goals exact ⟨rfl, (Below.drew (Below.refl _ W)).trans bC⟩
    case rest =>
      obtain ⟨rfl, hBc⟩ := hcut
      have hK := (hBc.block D (Array.getElem?_eq_some_iff.1 hK).1).trans hK
      have bk := (hBc.block _ bk.lt).trans bk
      have bl := (hBc.block _ bl.lt).trans bl
      have hBx := hB.trans (hBc.mono (by have := hB.size; simpa using this))
      have bk : Boxed wc (w1.heap.size + 1) 3 (.int .i64 (kk : Int)) := bk
      have bl : Boxed wc (w1.heap.size + 1 + 1) 3 (.int .i64 lst) := bl
      have ck := bk.cell
      have cl := bl.cell
      have hf13 : Fence.wide.fn 13 := trivial
      gi_upto_region 12 with fail
      rename World => Wa
      obtain ⟨K, hKK⟩ : ∃ K : Int, K = (kk : Int) := ⟨_, rfl⟩
      rw [← hKK] at ck ⊢
      have HKK : Hid (K = (kk : Int)) := hKK
      clear hKK
      gi_cut [45] from 11 (fun s45 wd => s45 = .bool false ∧ Below Wa.heap.size Wa wd)
      case first =>
        refine wpIn_blind ?_
        rcases kk with _ | j
        · refine wpIn_wide.2 ?_
          have c0 : K = 0 := HKK.out
          clear HKK
          subst c0
          have hg : decide ((0:Int) > 0) = false := rfl
          clear bk bl hlast hmin
          go_quiet (fail)
          gi_wp2_with fail
          gi_meet
          exact ⟨rfl, below_drewN (Below.refl _ _) _⟩
        · obtain ⟨hj, rfl⟩ := hlast j rfl
          refine wpIn_wide.2 ?_
          have hbk : w1.heap.size + 1 < Wa.heap.size := bk.lt
          have hbl : w1.heap.size + 1 + 1 < Wa.heap.size := bl.lt
          obtain ⟨L, hL⟩ : ∃ L : Int, L = (((pairs s)[j]'hj).1 : Int) := ⟨_, rfl⟩
          have hKK : K = ((j + 1 : Nat) : Int) := HKK.out
          rw [← hL] at cl
          obtain ⟨J, hJ⟩ : ∃ J : Int, K - 1 = J := ⟨_, rfl⟩
          obtain ⟨N, hN⟩ : ∃ N, N = (pairs s).length := ⟨_, rfl⟩
          have hK1 : 0 < K := by omega
          have hK5 : K ≤ 1048576 := by omega
          have hJ0 : 0 ≤ J := by omega
          have hJ1 : J < (N : Int) := by omega
          have hJ2 : J.toNat = j := by omega
          have hjN : j < N := by omega
          have hwr : IntKind.i64.wrap J = J := by rw [IntKind.wrap_i64]; omega
          have hJ5 : J ≤ 1048576 := by omega
          have HN : Hid (N = (pairs s).length) := hN
          have hp16 : s.size ≤ 16777216 := by omega
          have HL : Hid (L = (((pairs s)[j]'hj).1 : Int)) := hL
          clear bk bl hlast hmin hle hKK hL hN
          (go_region_with (go_at_call 13; refine (places_any s _ hp16).mono ?_; rintro e w' ⟨v, rfl, hown, bC⟩; rw [← HN.out] at hown; obtain ⟨ao, cap, rfl, hr⟩ := reads_row hown; obtain ⟨g, rfl, hg1, hg2⟩ := hr j (by rw [plc_length]; exact hj); have ck' : w'.cell? ⟨w1.heap.size + 1, 0, none⟩ = some (.int .i64 K) := (bC.cell (p := ⟨w1.heap.size + 1, 0, none⟩) (by exact hbk)).trans ck; have cl' : w'.cell? ⟨w1.heap.size + 1 + 1, 0, none⟩ = some (.int .i64 L) := (bC.cell (p := ⟨w1.heap.size + 1 + 1, 0, none⟩) (by exact hbl)).trans cl; have cg : w'.cell? ⟨g, j, none⟩ = some (.int .i64 L) := (by rw [hg2, HL.out]; simp [plc]); clear hg2 hr hown))
          all_goals (try go_simp)
          all_goals (gi_wp2_with fail)
          all_goals gi_meet
          all_goals exact ⟨rfl, (Below.drew (Below.refl _ Wa)).trans bC⟩
      case rest =>
        obtain ⟨rfl, hBd⟩ := hcut
        have hKd := (hBd.block D (Array.getElem?_eq_some_iff.1 hK).1).trans hK
        have hDd : D < wc.heap.size := (Array.getElem?_eq_some_iff.1 hKd).1
        have hBy := hBx.trans (hBd.mono (by have := hBx.size; simpa using this))
        clear bk bl hlast hmin hle hK hBc hB hNW hBx hBd ck cl
        have hws : w1.heap.size + 1 ≤ wc.heap.size := by have := hBy.size; simpa using this
        have hSc : wc.cell? ⟨w1.heap.size, 0, none⟩ = some (.string s) := by
          rw [hBy.cell (p := ⟨w1.heap.size, 0, none⟩) (by show w1.heap.size < w1.heap.size + 1; omega)]
          exact (Boxed.new w1 9 (.string s)).cell
        have hSa : (wc.alloc (.cells #[.int .i64 0] 3)).cell? ⟨w1.heap.size, 0, none⟩ = some (.string s) := by
          rw [Below.cell (B := wc.heap.size) ((Below.refl _ wc).alloc (Nat.le_refl _) _) (p := ⟨w1.heap.size, 0, none⟩) (by show w1.heap.size < wc.heap.size; omega)]
          exact hSc
        gi_wp2_with fail
        have bA := Boxed.new wc 3 (.int .i64 0)
        have hBA : Below wc.heap.size wc (wc.alloc (.cells #[.int .i64 0] 3)) := (Below.refl _ _).alloc (Nat.le_refl _) _
        have hAs : (wc.alloc (.cells #[.int .i64 0] 3)).heap.size = wc.heap.size + 1 := by simp
        have hAl : w1.heap.size < (wc.alloc (.cells #[.int .i64 0] 3)).heap.size := by omega
        obtain ⟨W2, hW2⟩ : ∃ W2, wc.alloc (.cells #[.int .i64 0] 3) = W2 := ⟨_, rfl⟩
        rw [hW2] at bA hBA hAs hAl hSa ⊢
        clear hW2
        have HAs : Hid (W2.heap.size = wc.heap.size + 1) := hAs
        refine wpIn_rangeFunc_ownG hro (by omega) (gf := 40) (lb := #[.pointer (some ⟨w1.heap.size, 0, none⟩)]) rfl trivial (enters_of Tryd.func40 (by kernel_rfl) rfl)
          (all_stops Fence.wide _ trivial hro (by omega) w1.heap.size s W2 hAl hSa) walksK_t walksK_b (Below.refl _ _) (fun _ => rfl)
          (fun pre W => Boxed W wc.heap.size 3 (.int .i64 (pre.length : Int)) ∧ Below wc.heap.size wc W)
          (fun _ _ _ => False)
          (OwnFrom.and (Own.from (boxed_own wc.heap.size 3 (fun pre : List (Nat × Nat) => .int .i64 (pre.length : Int))) _) (ownFrom_below (Nat.le_refl _) (by omega)))
          (fun _ _ _ _ _ h _ _ => h.elim)
          ⟨bA, hBA⟩
          (fun x => { tmps := #[.string s, .int .i64 n, undef, .pointer (some ⟨w.heap.size, 0, none⟩), .bool false, .func (.func 40) #[] #[.pointer (some ⟨w1.heap.size, 0, none⟩)], .pointer (some ⟨w1.heap.size + 1, 0, none⟩), .pointer (some ⟨w1.heap.size + 1 + 1, 0, none⟩), undef, .int .i64 K, .pointer (some ⟨wc.heap.size, 0, none⟩), u11, u12, u13, u14, u15, u16, u17, u18, u19, u20, u21, u22, u23, u24, u25, u26, u27, u28, u29, u30, u31, u32, u33, u34, u35, u36, u37, u38, u39, u40, u41, u42, u43, u44, .bool false, .func (.func 40) #[] #[.pointer (some ⟨w1.heap.size, 0, none⟩)], .int .i64 (x.1 : Int), .int .i32 (x.2 : Int), u49, u50, u51, u52, u53, u54], defers := [] }) ?assign2 ?body2 ?done2 ?stop2
        case assign2 =>
          intro l x W K hK
          gi_wp2
          exact hK
        case body2 =>
          rintro l pre x W ⟨bk, hB⟩ hlen
          have ck := bk.cell
          have fk := bk.frozen
          have hlp : pre.length ≤ 1048576 := by omega
          gi_wp2
          refine ⟨(KeepsOthers.setCell _ _ _).from _, (KeepsOthers.setCell _ _ _).walks, ?_, hB.setCell (p := ⟨wc.heap.size, 0, none⟩) (Nat.le_refl _) _⟩
          have := bk.set (.int .i64 ((pre.length : Int) + 1))
          rw [show ((pre ++ [x]).length : Int) = (pre.length : Int) + 1 by simp]
          exact this
        case stop2 =>
          rintro D c pre W _ _ h _
          exact h.elim
        case done2 =>
          rintro D2 ys W hD2 rfl ⟨bk, hB⟩ hK2
          have hpc : ((pairs s).length : Int) = ((Lib.runeCount s : Nat) : Int) := by rw [← pairs_length]
          have hKe := (hB.block D hDd).trans hKd
          have hWb : wc.heap.size < W.heap.size := bk.lt
          rw [hpc] at bk
          have ck := bk.cell
          clear hpc
          gi_upto_region 17 with fail
          rename World => Wb
          gi_cut [4] from 11 (fun s4 we => s4 = .bool true ∧ Below Wb.heap.size Wb we)
          case first =>
            refine wpIn_blind ?_
            (first | gi_region_with_o (gi_at_call 15; refine (callsIn_wide.2 (count_any s _ hms)).mono ?_; rintro e w' ⟨rfl, bC⟩; have ck' : w'.cell? ⟨wc.heap.size, 0, none⟩ = some (.int .i64 ((Lib.runeCount s : Nat) : Int)) := (bC.cell (p := ⟨wc.heap.size, 0, none⟩) (by exact hWb)).trans ck) | fail)
            all_goals (gi_wp2_with fail)
            all_goals gi_meet
            all_goals exact ⟨rfl, (Below.drew (Below.refl _ Wb)).trans bC⟩
          case rest =>
            obtain ⟨rfl, hBe⟩ := hcut
            rename World => We
            have hKf := (hBe.block D (Array.getElem?_eq_some_iff.1 hKe).1).trans hKe
            have hKf2 := (hBe.block D2 (Array.getElem?_eq_some_iff.1 hK2).1).trans hK2
            have k1 : Below w.heap.size w1 wc := (((Below.refl w1.heap.size w1).alloc (Nat.le_refl _) _).trans (hBy.mono (by omega))).mono (by omega)
            have k2 : Below w.heap.size wc Wb := hB.mono (by omega)
            have k3 : Below w.heap.size Wb We := hBe.mono (by omega)
            have hBz : Below w.heap.size w We := ((hB1.trans k1).trans k2).trans k3
            gi_wp2
            refine ⟨by simp, .inl ⟨_, _, rfl, run_takeDeferred hKf2, ?_⟩⟩
            have hK5 : (We.putObj D2 (.deferred none)).heap[D]? = some (Obj.deferred (some [])) := by
              rw [World.putObj_heap_other (by omega)]; exact hKf
            refine ⟨by simp, .inl ⟨_, _, rfl, run_takeDeferred hK5, ?_⟩⟩
            exact ⟨_, results_tmp rfl _ _ _, rfl, (hBz.trans (belowK_b (w := w) (Nat.le_refl _) _ D2 _ _ (by omega) hKf2 rfl rfl)).trans (belowK_b (w := w) (Nat.le_refl _) _ D _ _ (by omega) hK5 rfl rfl)⟩
end Go.Proofs.YtkjhjkpnkcnbgaaDoor.Utf
