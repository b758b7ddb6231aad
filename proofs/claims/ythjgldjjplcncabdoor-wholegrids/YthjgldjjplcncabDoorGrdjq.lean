/-
  Lists of bools compared (slices.Equal, the document's sameBools), and grids (Same, the program's and the document's), of any kind.
-/
import Derived.Test.YthjgldjjplcncabDoorGrdgq
namespace Go.Proofs.YthjgldjjplcncabDoor.Grd
open Go Go.Lib Go.RowKit

theorem bt_ext {xs ys : List Bool} (hl : xs.length = ys.length) (h : ∀ j, j < xs.length → bt xs j = bt ys j) : xs = ys := by
  apply List.ext_getElem hl
  intro i h1 h2
  have := h i h1
  rwa [bt_in h1, bt_in h2] at this

set_option maxHeartbeats 1000000 in
theorem equal_any (xs ys : List Bool) (a1 a2 : Option Addr) (c1 c2 : Nat) (w : World) (hl : xs.length ≤ 4611686018427387904) (h1 : ReadsB w a1 xs) (h2 : ReadsB w a2 ys) :
    Calls Tryd.prog 46 #[.slice a1 xs.length c1, .slice a2 ys.length c2] w fun e w' => e = .returned (.bool (decide (xs = ys))) ∧ ∃ n, w' = w.drewN n := by
  by_cases hlen : xs.length = ys.length
  · rw [← hlen]
    have HNE : Aside (∀ k, k < xs.length → bt xs k ≠ bt ys k → decide (xs = ys) = false) := fun k _ h => decide_eq_false fun e => h (by rw [e])
    have HEQ : Aside ((∀ j, j < xs.length → bt xs j = bt ys j) → decide (xs = ys) = true) := fun h => decide_eq_true (bt_ext hlen h)
    generalize decide (xs = ys) = ans at *
    have h2' : ∀ i (_ : i < xs.length), ∃ b off, a2 = some ⟨b, off, none⟩ ∧ b < w.heap.size ∧ w.cell? ⟨b, off + i, none⟩ = some (.bool (bt ys i)) := fun i hi => h2 i (by omega)
    clear h2 hlen
    go_enter Tryd.func46, Tryd.ntmps46
    go_wp2
    go_loopg [13] xs.length (fun g1 iv wr => ∃ k n : Nat, iv = .int .i64 (k : Int) ∧ k ≤ xs.length ∧ xs.length - k ≤ g1 ∧ Aside (∀ j, j < k → bt xs j = bt ys j) ∧ wr = w.drewN n)
    case atStart => exact ⟨0, 0, rfl, Nat.zero_le _, Nat.le_refl _, fun j hj => absurd hj (Nat.not_lt_zero j), rfl⟩
    case round =>
      obtain ⟨k, n, rfl, hk, hg, HD, rfl⟩ := hrel
      by_cases hlt : k < xs.length
      · have hltz : (k : Int) < (xs.length : Int) := by omega
        obtain ⟨g1, o1, rfl, _, e1⟩ := h1 k hlt
        obtain ⟨g2, o2, rfl, _, e2⟩ := h2' k hlt
        clear h1 h2'
        have HX := HNE.out k hlt
        have HS : Aside (bt xs k = bt ys k → ∀ j, j < k + 1 → bt xs j = bt ys j) := fun h j hj => by
          by_cases e : j = k
          · subst e; exact h
          · exact HD.out j (by omega)
        generalize bt xs k = x at *
        generalize bt ys k = y at *
        have HX' : Aside (x ≠ y → ans = false) := HX
        clear HX HD
        cases x <;> cases y
        · go_wp2
          go_quiet (fail)
          go_wp2
          go_roundg (xs.length - (k + 1))
          case measure => omega
          case rel => exact ⟨k + 1, _, by go_num, by omega, Nat.le_refl _, HS.out (by simp), rfl⟩
        · go_wp2
          go_quiet (fail)
          go_wp2
          go_ret
          exact ⟨by rw [HX'.out (by simp)]; rfl, _, World.drewN_drewN _ _ _⟩
        · go_wp2
          go_quiet (fail)
          go_wp2
          go_ret
          exact ⟨by rw [HX'.out (by simp)]; rfl, _, World.drewN_drewN _ _ _⟩
        · go_wp2
          go_quiet (fail)
          go_wp2
          go_roundg (xs.length - (k + 1))
          case measure => omega
          case rel => exact ⟨k + 1, _, by go_num, by omega, Nat.le_refl _, HS.out (by simp), rfl⟩
      · have hltz : ¬ (k : Int) < (xs.length : Int) := by omega
        have HT : Aside (ans = true) := HEQ.out fun j hj => HD.out j (by omega)
        go_wp2
        go_ret
        exact ⟨by rw [HT.out]; rfl, n, rfl⟩
  · have hlz : ¬ (xs.length : Int) = (ys.length : Int) := by omega
    rw [decide_eq_false (fun h => hlen (by rw [h]))]
    go_enter Tryd.func46, Tryd.ntmps46
    go_wp2
    go_ret
    exact ⟨rfl, 0, rfl⟩

set_option maxHeartbeats 1000000 in
theorem sameBools_any (xs ys : List Bool) (a1 a2 : Option Addr) (c1 c2 : Nat) (w : World) (hl : xs.length ≤ 4611686018427387904) (h1 : ReadsB w a1 xs) (h2 : ReadsB w a2 ys) :
    Calls Tryd.prog 23 #[.slice a1 xs.length c1, .slice a2 ys.length c2] w fun e w' => e = .returned (.bool (decide (xs = ys))) ∧ ∃ n, w' = w.drewN n := by
  by_cases hlen : xs.length = ys.length
  · rw [← hlen]
    have HNE : Aside (∀ k, k < xs.length → bt xs k ≠ bt ys k → decide (xs = ys) = false) := fun k _ h => decide_eq_false fun e => h (by rw [e])
    have HEQ : Aside ((∀ j, j < xs.length → bt xs j = bt ys j) → decide (xs = ys) = true) := fun h => decide_eq_true (bt_ext hlen h)
    generalize decide (xs = ys) = ans at *
    have h2' : ∀ i (_ : i < xs.length), ∃ b off, a2 = some ⟨b, off, none⟩ ∧ b < w.heap.size ∧ w.cell? ⟨b, off + i, none⟩ = some (.bool (bt ys i)) := fun i hi => h2 i (by omega)
    clear h2 hlen
    go_enter Tryd.func23, Tryd.ntmps23
    go_wp2
    go_loopg [5] xs.length (fun g1 iv wr => ∃ k n : Nat, iv = .int .i64 (k : Int) ∧ k ≤ xs.length ∧ xs.length - k ≤ g1 ∧ Aside (∀ j, j < k → bt xs j = bt ys j) ∧ wr = w.drewN n)
    case atStart => exact ⟨0, 0, rfl, Nat.zero_le _, Nat.le_refl _, fun j hj => absurd hj (Nat.not_lt_zero j), rfl⟩
    case round =>
      obtain ⟨k, n, rfl, hk, hg, HD, rfl⟩ := hrel
      by_cases hlt : k < xs.length
      · have hltz : (k : Int) < (xs.length : Int) := by omega
        obtain ⟨g1, o1, rfl, _, e1⟩ := h1 k hlt
        obtain ⟨g2, o2, rfl, _, e2⟩ := h2' k hlt
        clear h1 h2'
        have HX := HNE.out k hlt
        have HS : Aside (bt xs k = bt ys k → ∀ j, j < k + 1 → bt xs j = bt ys j) := fun h j hj => by
          by_cases e : j = k
          · subst e; exact h
          · exact HD.out j (by omega)
        generalize bt xs k = x at *
        generalize bt ys k = y at *
        have HX' : Aside (x ≠ y → ans = false) := HX
        clear HX HD
        cases x <;> cases y
        · go_wp2
          go_quiet (fail)
          go_wp2
          go_roundg (xs.length - (k + 1))
          case measure => omega
          case rel => exact ⟨k + 1, _, by go_num, by omega, Nat.le_refl _, HS.out (by simp), rfl⟩
        · go_wp2
          go_quiet (fail)
          go_wp2
          go_ret
          exact ⟨by rw [HX'.out (by simp)]; rfl, _, World.drewN_drewN _ _ _⟩
        · go_wp2
          go_quiet (fail)
          go_wp2
          go_ret
          exact ⟨by rw [HX'.out (by simp)]; rfl, _, World.drewN_drewN _ _ _⟩
        · go_wp2
          go_quiet (fail)
          go_wp2
          go_roundg (xs.length - (k + 1))
          case measure => omega
          case rel => exact ⟨k + 1, _, by go_num, by omega, Nat.le_refl _, HS.out (by simp), rfl⟩
      · have hltz : ¬ (k : Int) < (xs.length : Int) := by omega
        have HT : Aside (ans = true) := HEQ.out fun j hj => HD.out j (by omega)
        go_wp2
        go_ret
        exact ⟨by rw [HT.out]; rfl, n, rfl⟩
  · have hlz : ¬ (xs.length : Int) = (ys.length : Int) := by omega
    rw [decide_eq_false (fun h => hlen (by rw [h]))]
    go_enter Tryd.func23, Tryd.ntmps23
    go_wp2
    go_ret
    exact ⟨rfl, 0, rfl⟩

/-- Are the two grids the same? -/
def Gr.same (a b : Gr) : Bool := decide (a.h = b.h) && (decide (a.w = b.w) && (decide (a.B = b.B) && (decide (a.R = b.R) && decide (a.D = b.D))))
theorem Gr.same_refl (a : Gr) : a.same a = true := by simp [Gr.same]
theorem Gr.same_iff {a b : Gr} : a.same b = true ↔ a = b := by
  unfold Gr.same
  simp only [Bool.and_eq_true, decide_eq_true_eq]
  constructor
  · rintro ⟨h1, h2, h3, h4, h5⟩
    cases a
    cases b
    simp_all
  · rintro rfl
    exact ⟨rfl, rfl, rfl, rfl, rfl⟩
theorem Gr.same_comm (a b : Gr) : a.same b = b.same a := by
  rw [Bool.eq_iff_iff, Gr.same_iff, Gr.same_iff]
  exact ⟨Eq.symm, Eq.symm⟩
/-- Lists that are no longer than any can be. -/
def Gr.lenOk (g : Gr) : Prop := g.B.length ≤ 140737488355328 ∧ g.R.length ≤ 140737488355328 ∧ g.D.length ≤ 140737488355328

set_option maxHeartbeats 2000000 in
theorem same_any (a b : Gr) (p q : Ad) (w : World) (hl : a.lenOk) (hR : RG w a p) (hS : RG w b q) :
    Calls Tryd.prog 31 #[gv a p, gv b q] w fun e w' => e = .returned (.bool (a.same b)) ∧ Below w.heap.size w w' := by
  have H1 : Aside (∀ W, Below w.heap.size w W → Calls Tryd.prog 46 #[.slice p.a1 a.B.length p.c1, .slice q.a1 b.B.length q.c1] W fun e w' => e = .returned (.bool (decide (a.B = b.B))) ∧ ∃ n, w' = W.drewN n) := fun W h => equal_any _ _ _ _ _ _ W (Nat.le_trans hl.1 (by omega)) (hR.b.below h) (hS.b.below h)
  have H2 : Aside (∀ W, Below w.heap.size w W → Calls Tryd.prog 46 #[.slice p.a2 a.R.length p.c2, .slice q.a2 b.R.length q.c2] W fun e w' => e = .returned (.bool (decide (a.R = b.R))) ∧ ∃ n, w' = W.drewN n) := fun W h => equal_any _ _ _ _ _ _ W (Nat.le_trans hl.2.1 (by omega)) (hR.r.below h) (hS.r.below h)
  have H3 : Aside (∀ W, Below w.heap.size w W → Calls Tryd.prog 46 #[.slice p.a3 a.D.length p.c3, .slice q.a3 b.D.length q.c3] W fun e w' => e = .returned (.bool (decide (a.D = b.D))) ∧ ∃ n, w' = W.drewN n) := fun W h => equal_any _ _ _ _ _ _ W (Nat.le_trans hl.2.2 (by omega)) (hR.d.below h) (hS.d.below h)
  unfold gv Gr.same
  clear hR hS hl
  generalize decide (a.B = b.B) = x1 at *
  generalize decide (a.R = b.R) = x2 at *
  generalize decide (a.D = b.D) = x3 at *
  have HB0 : Aside (∀ o1 o2, Below w.heap.size w ((w.alloc o1).alloc o2)) := fun o1 o2 => (below_box w _).alloc (below_box w _).size _
  by_cases e1 : a.h = b.h
  · by_cases e2 : a.w = b.w
    · rw [decide_eq_true e1, decide_eq_true e2, Bool.true_and, Bool.true_and]
      cases x1 with
      | false =>
        go_enter Tryd.func31, Tryd.ntmps31
        go_wp2_with fail
        refine (H1.out _ (HB0.out _ _)).mono ?_
        rintro e w1 ⟨rfl, n1, rfl⟩
        go_wp2
        go_ret
        exact ⟨rfl, below_drewN (HB0.out _ _) _⟩
      | true =>
        cases x2 with
        | false =>
          go_enter Tryd.func31, Tryd.ntmps31
          go_wp2_with fail
          refine (H1.out _ (HB0.out _ _)).mono ?_
          rintro e w1 ⟨rfl, n1, rfl⟩
          go_wp2_with fail
          refine (H2.out _ (below_drewN (HB0.out _ _) _)).mono ?_
          rintro e w1 ⟨rfl, n2, rfl⟩
          go_wp2
          go_ret
          exact ⟨rfl, below_drewN (HB0.out _ _) _⟩
        | true =>
          go_enter Tryd.func31, Tryd.ntmps31
          go_wp2_with fail
          refine (H1.out _ (HB0.out _ _)).mono ?_
          rintro e w1 ⟨rfl, n1, rfl⟩
          go_wp2_with fail
          refine (H2.out _ (below_drewN (HB0.out _ _) _)).mono ?_
          rintro e w1 ⟨rfl, n2, rfl⟩
          go_wp2_with fail
          refine (H3.out _ (below_drewN (HB0.out _ _) _)).mono ?_
          rintro e w1 ⟨rfl, n3, rfl⟩
          go_wp2
          go_ret
          exact ⟨rfl, below_drewN (HB0.out _ _) _⟩
    · rw [decide_eq_true e1, decide_eq_false e2, Bool.true_and, Bool.false_and]
      go_enter Tryd.func31, Tryd.ntmps31
      go_wp2
      go_ret
      exact ⟨rfl, HB0.out _ _⟩
  · rw [decide_eq_false e1, Bool.false_and]
    go_enter Tryd.func31, Tryd.ntmps31
    go_wp2
    go_ret
    exact ⟨rfl, HB0.out _ _⟩

set_option maxHeartbeats 2000000 in
theorem refSame_any (a b : Gr) (p q : Ad) (w : World) (hl : a.lenOk) (hR : RG w a p) (hS : RG w b q) :
    Calls Tryd.prog 9 #[gv a p, gv b q] w fun e w' => e = .returned (.bool (a.same b)) ∧ Below w.heap.size w w' := by
  have H1 : Aside (∀ W, Below w.heap.size w W → Calls Tryd.prog 23 #[.slice p.a1 a.B.length p.c1, .slice q.a1 b.B.length q.c1] W fun e w' => e = .returned (.bool (decide (a.B = b.B))) ∧ ∃ n, w' = W.drewN n) := fun W h => sameBools_any _ _ _ _ _ _ W (Nat.le_trans hl.1 (by omega)) (hR.b.below h) (hS.b.below h)
  have H2 : Aside (∀ W, Below w.heap.size w W → Calls Tryd.prog 23 #[.slice p.a2 a.R.length p.c2, .slice q.a2 b.R.length q.c2] W fun e w' => e = .returned (.bool (decide (a.R = b.R))) ∧ ∃ n, w' = W.drewN n) := fun W h => sameBools_any _ _ _ _ _ _ W (Nat.le_trans hl.2.1 (by omega)) (hR.r.below h) (hS.r.below h)
  have H3 : Aside (∀ W, Below w.heap.size w W → Calls Tryd.prog 23 #[.slice p.a3 a.D.length p.c3, .slice q.a3 b.D.length q.c3] W fun e w' => e = .returned (.bool (decide (a.D = b.D))) ∧ ∃ n, w' = W.drewN n) := fun W h => sameBools_any _ _ _ _ _ _ W (Nat.le_trans hl.2.2 (by omega)) (hR.d.below h) (hS.d.below h)
  unfold gv Gr.same
  clear hR hS hl
  generalize decide (a.B = b.B) = x1 at *
  generalize decide (a.R = b.R) = x2 at *
  generalize decide (a.D = b.D) = x3 at *
  have HB0 : Aside (∀ o1 o2, Below w.heap.size w ((w.alloc o1).alloc o2)) := fun o1 o2 => (below_box w _).alloc (below_box w _).size _
  by_cases e1 : a.h = b.h
  · by_cases e2 : a.w = b.w
    · rw [decide_eq_true e1, decide_eq_true e2, Bool.true_and, Bool.true_and]
      cases x1 with
      | false =>
        go_enter Tryd.func9, Tryd.ntmps9
        go_wp2_with fail
        refine (H1.out _ (HB0.out _ _)).mono ?_
        rintro e w1 ⟨rfl, n1, rfl⟩
        go_wp2
        go_ret
        exact ⟨rfl, below_drewN (HB0.out _ _) _⟩
      | true =>
        cases x2 with
        | false =>
          go_enter Tryd.func9, Tryd.ntmps9
          go_wp2_with fail
          refine (H1.out _ (HB0.out _ _)).mono ?_
          rintro e w1 ⟨rfl, n1, rfl⟩
          go_wp2_with fail
          refine (H2.out _ (below_drewN (HB0.out _ _) _)).mono ?_
          rintro e w1 ⟨rfl, n2, rfl⟩
          go_wp2
          go_ret
          exact ⟨rfl, below_drewN (HB0.out _ _) _⟩
        | true =>
          go_enter Tryd.func9, Tryd.ntmps9
          go_wp2_with fail
          refine (H1.out _ (HB0.out _ _)).mono ?_
          rintro e w1 ⟨rfl, n1, rfl⟩
          go_wp2_with fail
          refine (H2.out _ (below_drewN (HB0.out _ _) _)).mono ?_
          rintro e w1 ⟨rfl, n2, rfl⟩
          go_wp2_with fail
          refine (H3.out _ (below_drewN (HB0.out _ _) _)).mono ?_
          rintro e w1 ⟨rfl, n3, rfl⟩
          go_wp2
          go_ret
          exact ⟨rfl, below_drewN (HB0.out _ _) _⟩
    · rw [decide_eq_true e1, decide_eq_false e2, Bool.true_and, Bool.false_and]
      go_enter Tryd.func9, Tryd.ntmps9
      go_wp2
      go_ret
      exact ⟨rfl, HB0.out _ _⟩
  · rw [decide_eq_false e1, Bool.false_and]
    go_enter Tryd.func9, Tryd.ntmps9
    go_wp2
    go_ret
    exact ⟨rfl, HB0.out _ _⟩
end Go.Proofs.YthjgldjjplcncabDoor.Grd
