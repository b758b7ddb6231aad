/-
  Of no program: a turned grid has as many slots, crossings and lone cells; mirrored along the diagonal, across is down.
-/
import Derived.Test.YthjgldjjplcncabDoorGsf
import Derived.Test.YthjgldjjplcncabDoorGtn
namespace Go.Proofs.YthjgldjjplcncabDoor.Grd

def b2 (b : Bool) : Nat := if b then 1 else 0
def sumN : Nat → (Nat → Nat) → Nat
  | 0, _ => 0
  | m + 1, f => sumN m f + f m
theorem sumN_congr {m : Nat} {f f' : Nat → Nat} (h : ∀ i, i < m → f i = f' i) : sumN m f = sumN m f' := by
  induction m with
  | zero => rfl
  | succ m ih => simp only [sumN]; rw [ih (fun i hi => h i (by omega)), h m (by omega)]
theorem sumN_add (m : Nat) (f f' : Nat → Nat) : sumN m (fun i => f i + f' i) = sumN m f + sumN m f' := by
  induction m with
  | zero => rfl
  | succ m ih => simp only [sumN]; rw [ih]; omega
theorem sumN_front (m : Nat) (f : Nat → Nat) : sumN (m + 1) f = f 0 + sumN m (fun i => f (i + 1)) := by
  induction m with
  | zero => simp [sumN]
  | succ m ih =>
    rw [sumN, ih]
    simp only [sumN]
    omega
theorem sumN_rev (m : Nat) (f : Nat → Nat) : sumN m (fun i => f (m - 1 - i)) = sumN m f := by
  induction m with
  | zero => rfl
  | succ m ih =>
    rw [sumN_front]
    simp only [sumN]
    rw [← ih, Nat.add_comm]
    congr 1
    exact sumN_congr fun i hi => by congr 1; omega
theorem sumN_zero (m : Nat) : sumN m (fun _ => 0) = 0 := by
  induction m with
  | zero => rfl
  | succ m ih => simp only [sumN, ih]
theorem sumN_swap (a b : Nat) (f : Nat → Nat → Nat) : sumN a (fun i => sumN b (f i)) = sumN b (fun j => sumN a (fun i => f i j)) := by
  induction a with
  | zero => simp only [sumN]; rw [sumN_zero]
  | succ a ih =>
    simp only [sumN]
    rw [ih, sumN_add]
theorem sumN_app (a b : Nat) (f : Nat → Nat) : sumN (a + b) f = sumN a f + sumN b (fun i => f (a + i)) := by
  induction b with
  | zero => rfl
  | succ b ih =>
    show sumN (a + b + 1) f = _
    simp only [sumN]
    rw [ih]
    omega
theorem sumN_mul (a b : Nat) (f : Nat → Nat) : sumN (a * b) f = sumN a (fun r => sumN b (fun c => f (r * b + c))) := by
  induction a with
  | zero => simp [sumN]
  | succ a ih =>
    rw [Nat.succ_mul, sumN_app, ih]
    rfl
/-- As many begin as end. -/
theorem begin_end {m : Nat} {f : Nat → Bool} (h : ∀ i, m ≤ i + 1 → f i = false) : sumN m (fun c => b2 (f c && !(decide (0 < c) && f (c - 1)))) = sumN m (fun c => b2 ((decide (0 < c) && f (c - 1)) && !f c)) := by
  have e1 : sumN m (fun c => b2 (f c)) = sumN m (fun c => b2 (f c && !(decide (0 < c) && f (c - 1)))) + sumN m (fun c => b2 (f c && (decide (0 < c) && f (c - 1)))) := by
    rw [← sumN_add]
    exact sumN_congr fun i _ => by cases f i <;> cases (decide (0 < i) && f (i - 1)) <;> rfl
  have e2 : sumN m (fun c => b2 (decide (0 < c) && f (c - 1))) = sumN m (fun c => b2 ((decide (0 < c) && f (c - 1)) && !f c)) + sumN m (fun c => b2 (f c && (decide (0 < c) && f (c - 1)))) := by
    rw [← sumN_add]
    exact sumN_congr fun i _ => by cases f i <;> cases (decide (0 < i) && f (i - 1)) <;> rfl
  have e3 : sumN m (fun c => b2 (f c)) = sumN m (fun c => b2 (decide (0 < c) && f (c - 1))) := by
    cases m with
    | zero => rfl
    | succ m =>
      rw [sumN_front m (fun c => b2 (decide (0 < c) && f (c - 1)))]
      simp only [sumN]
      rw [h m (by omega)]
      simp [b2]
  omega

/-- A step to the right, to the left, down, up. -/
def Fg.E (G : Fg) (r c : Nat) : Bool := decide (r < G.H ∧ c + 1 < G.W) && (!G.R r c && !G.B r c && !G.B r (c + 1))
def Fg.El (G : Fg) (r c : Nat) : Bool := decide (0 < c) && G.E r (c - 1)
def Fg.S (G : Fg) (r c : Nat) : Bool := decide (r + 1 < G.H ∧ c < G.W) && (!G.D r c && !G.B r c && !G.B (r + 1) c)
def Fg.Su (G : Fg) (r c : Nat) : Bool := decide (0 < r) && G.S (r - 1) c
/-- Cells counted by what steps they have. -/
def Fg.cnt (G : Fg) (f : Bool → Bool → Bool → Bool → Bool → Bool) : Nat := sumN G.H fun r => sumN G.W fun c => b2 (f (G.B r c) (G.E r c) (G.El r c) (G.S r c) (G.Su r c))
theorem Fg.q_E {G : Fg} {r c : Nat} (hr : r < G.W) (hc : c < G.H) : G.q.E r c = G.Su (G.H - 1 - c) r := by
  unfold Fg.E Fg.Su Fg.S Fg.q
  dsimp only
  by_cases h : c + 1 < G.H
  · have e1 : G.H - 1 - c - 1 = G.H - 2 - c := by omega
    have e2 : G.H - 1 - (c + 1) = G.H - 2 - c := by omega
    have e3 : G.H - 2 - c + 1 = G.H - 1 - c := by omega
    have h1 : 0 < G.H - 1 - c := by omega
    have h2 : G.H - 1 - c < G.H := by omega
    simp only [hr, hc, h, e1, e2, e3, h1, h2, and_self, decide_true, Bool.true_and]
    cases G.D (G.H - 2 - c) r <;> cases G.B (G.H - 1 - c) r <;> cases G.B (G.H - 2 - c) r <;> rfl
  · have h1 : ¬ 0 < G.H - 1 - c := by omega
    simp [h, h1]
theorem Fg.q_El {G : Fg} {r c : Nat} (hr : r < G.W) (hc : c < G.H) : G.q.El r c = G.S (G.H - 1 - c) r := by
  unfold Fg.El
  by_cases h : 0 < c
  · rw [Fg.q_E hr (by omega)]
    unfold Fg.Su
    have e1 : G.H - 1 - (c - 1) - 1 = G.H - 1 - c := by omega
    have h1 : 0 < G.H - 1 - (c - 1) := by omega
    simp [h, h1, e1]
  · have h1 : ¬ G.H - 1 - c + 1 < G.H := by omega
    unfold Fg.S
    simp [h, h1]
theorem Fg.q_S {G : Fg} {r c : Nat} (hr : r < G.W) (hc : c < G.H) : G.q.S r c = G.E (G.H - 1 - c) r := by
  unfold Fg.S Fg.E Fg.q
  dsimp only
  have h2 : G.H - 1 - c < G.H := by omega
  by_cases h : r + 1 < G.W
  · simp only [hr, hc, h, h2, and_self, decide_true, Bool.true_and]
  · simp [h]
theorem Fg.q_Su {G : Fg} {r c : Nat} (hr : r < G.W) (hc : c < G.H) : G.q.Su r c = G.El (G.H - 1 - c) r := by
  unfold Fg.Su Fg.El
  by_cases h : 0 < r
  · rw [Fg.q_S (by omega) hc]
  · simp [h]
theorem Fg.q_B {G : Fg} {r c : Nat} (hr : r < G.W) (hc : c < G.H) : G.q.B r c = G.B (G.H - 1 - c) r := by
  unfold Fg.q
  dsimp only
  simp [hr, hc]
theorem Fg.m_E {G : Fg} {r c : Nat} (hr : r < G.H) (hc : c < G.W) : G.m.E r c = G.El r (G.W - 1 - c) := by
  unfold Fg.El Fg.E Fg.m
  dsimp only
  by_cases h : c + 1 < G.W
  · have e1 : G.W - 1 - c - 1 = G.W - 2 - c := by omega
    have e2 : G.W - 1 - (c + 1) = G.W - 2 - c := by omega
    have e3 : G.W - 2 - c + 1 = G.W - 1 - c := by omega
    have h1 : 0 < G.W - 1 - c := by omega
    have h2 : G.W - 1 - c < G.W := by omega
    simp only [hr, hc, h, e1, e2, e3, h1, h2, and_self, decide_true, Bool.true_and]
    cases G.R r (G.W - 2 - c) <;> cases G.B r (G.W - 1 - c) <;> cases G.B r (G.W - 2 - c) <;> rfl
  · have h1 : ¬ 0 < G.W - 1 - c := by omega
    simp [h, h1]
theorem Fg.m_El {G : Fg} {r c : Nat} (hr : r < G.H) (hc : c < G.W) : G.m.El r c = G.E r (G.W - 1 - c) := by
  show (decide (0 < c) && G.m.E r (c - 1)) = _
  by_cases h : 0 < c
  · rw [Fg.m_E hr (by omega)]
    unfold Fg.El
    have e1 : G.W - 1 - (c - 1) - 1 = G.W - 1 - c := by omega
    have h1 : 0 < G.W - 1 - (c - 1) := by omega
    simp [h, h1, e1]
  · have h1 : ¬ G.W - 1 - c + 1 < G.W := by omega
    unfold Fg.E
    simp [h, h1]
theorem Fg.m_S {G : Fg} {r c : Nat} (hc : c < G.W) : G.m.S r c = G.S r (G.W - 1 - c) := by
  unfold Fg.S Fg.m
  dsimp only
  have h2 : G.W - 1 - c < G.W := by omega
  by_cases h : r + 1 < G.H
  · have h3 : r < G.H := by omega
    simp only [hc, h, h2, h3, and_self, decide_true, Bool.true_and]
  · simp [h]
theorem Fg.m_Su {G : Fg} {r c : Nat} (hc : c < G.W) : G.m.Su r c = G.Su r (G.W - 1 - c) := by
  unfold Fg.Su
  rw [Fg.m_S hc]
theorem Fg.m_B {G : Fg} {r c : Nat} (hr : r < G.H) (hc : c < G.W) : G.m.B r c = G.B r (G.W - 1 - c) := by
  unfold Fg.m
  dsimp only
  simp [hr, hc]
theorem Fg.cnt_q (G : Fg) (f : Bool → Bool → Bool → Bool → Bool → Bool) : G.q.cnt f = G.cnt fun b e el s su => f b su s e el := by
  unfold Fg.cnt
  show sumN G.W _ = _
  rw [sumN_swap G.H G.W]
  refine sumN_congr fun r hr => ?_
  show sumN G.H _ = _
  rw [← sumN_rev G.H (fun i => b2 (f (G.B i r) (G.Su i r) (G.S i r) (G.E i r) (G.El i r)))]
  refine sumN_congr fun c hc => ?_
  rw [Fg.q_B hr hc, Fg.q_E hr hc, Fg.q_El hr hc, Fg.q_S hr hc, Fg.q_Su hr hc]
theorem Fg.cnt_m (G : Fg) (f : Bool → Bool → Bool → Bool → Bool → Bool) : G.m.cnt f = G.cnt fun b e el s su => f b el e s su := by
  unfold Fg.cnt
  show sumN G.H _ = _
  refine sumN_congr fun r hr => ?_
  show sumN G.W _ = _
  rw [← sumN_rev G.W (fun i => b2 (f (G.B r i) (G.El r i) (G.E r i) (G.S r i) (G.Su r i)))]
  refine sumN_congr fun c hc => ?_
  rw [Fg.m_B hr hc, Fg.m_E hr hc, Fg.m_El hr hc, Fg.m_S hc, Fg.m_Su hc]
def Fg.nX (G : Fg) : Nat := G.cnt fun _ e el s su => (e || el) && (s || su)
def Fg.nL (G : Fg) : Nat := G.cnt fun b e el s su => !b && !(e || el) && !(s || su)
def Fg.nA (G : Fg) : Nat := G.cnt fun _ e el _ _ => e && !el
def Fg.nD (G : Fg) : Nat := G.cnt fun _ _ _ s su => s && !su
theorem Fg.nA_end (G : Fg) : (G.cnt fun _ e el _ _ => el && !e) = G.nA := by
  unfold Fg.nA Fg.cnt
  refine sumN_congr fun r _ => ?_
  exact (begin_end (f := G.E r) fun i hi => by unfold Fg.E; rw [decide_eq_false (by omega)]; rfl).symm
theorem Fg.nD_end (G : Fg) : (G.cnt fun _ _ _ s su => su && !s) = G.nD := by
  unfold Fg.nD Fg.cnt
  rw [sumN_swap G.H G.W, sumN_swap G.H G.W]
  refine sumN_congr fun c _ => ?_
  exact (begin_end (f := fun r => G.S r c) fun i hi => by show G.S i c = false; unfold Fg.S; rw [decide_eq_false (by omega)]; rfl).symm
theorem Fg.cnt_congr (G : Fg) {f f' : Bool → Bool → Bool → Bool → Bool → Bool} (h : ∀ b e el s su, f b e el s su = f' b e el s su) : G.cnt f = G.cnt f' := by
  unfold Fg.cnt
  exact sumN_congr fun r _ => sumN_congr fun c _ => by rw [h]
theorem Fg.all_q (G : Fg) : G.q.nX = G.nX ∧ G.q.nL = G.nL ∧ G.q.nA = G.nD ∧ G.q.nD = G.nA := by
  refine ⟨?_, ?_, ?_, ?_⟩
  · unfold Fg.nX; rw [Fg.cnt_q]; exact Fg.cnt_congr _ fun b e el s su => by cases e <;> cases el <;> cases s <;> cases su <;> rfl
  · unfold Fg.nL; rw [Fg.cnt_q]; exact Fg.cnt_congr _ fun b e el s su => by cases b <;> cases e <;> cases el <;> cases s <;> cases su <;> rfl
  · unfold Fg.nA; rw [Fg.cnt_q]; exact G.nD_end
  · unfold Fg.nD; rw [Fg.cnt_q]; rfl
theorem Fg.all_m (G : Fg) : G.m.nX = G.nX ∧ G.m.nL = G.nL ∧ G.m.nA = G.nA ∧ G.m.nD = G.nD := by
  refine ⟨?_, ?_, ?_, ?_⟩
  · unfold Fg.nX; rw [Fg.cnt_m]; exact Fg.cnt_congr _ fun b e el s su => by cases e <;> cases el <;> rfl
  · unfold Fg.nL; rw [Fg.cnt_m]; exact Fg.cnt_congr _ fun b e el s su => by cases b <;> cases e <;> cases el <;> rfl
  · unfold Fg.nA; rw [Fg.cnt_m]; exact G.nA_end
  · unfold Fg.nD; rw [Fg.cnt_m]
theorem Fg.all_qs (G : Fg) : ∀ n, (G.qs n).nX = G.nX ∧ (G.qs n).nL = G.nL ∧ (G.qs n).nA + (G.qs n).nD = G.nA + G.nD
  | 0 => ⟨rfl, rfl, rfl⟩
  | n + 1 => by
    obtain ⟨h1, h2, h3⟩ := Fg.all_qs G n
    obtain ⟨k1, k2, k3, k4⟩ := Fg.all_q (G.qs n)
    show (G.qs n).q.nX = _ ∧ (G.qs n).q.nL = _ ∧ (G.qs n).q.nA + (G.qs n).q.nD = _
    rw [k1, k2, k3, k4]
    exact ⟨h1, h2, by omega⟩
theorem Fg.all_turn (G : Fg) (k : Nat) : (G.turn k).nX = G.nX ∧ (G.turn k).nL = G.nL ∧ (G.turn k).nA + (G.turn k).nD = G.nA + G.nD := by
  unfold Fg.turn
  obtain ⟨h1, h2, h3⟩ := Fg.all_qs (if 3 < k then G.m else G) (k % 4)
  rw [h1, h2, h3]
  by_cases h : 3 < k
  · rw [if_pos h]
    obtain ⟨k1, k2, k3, k4⟩ := G.all_m
    rw [k1, k2, k3, k4]
    exact ⟨rfl, rfl, rfl⟩
  · rw [if_neg h]; exact ⟨rfl, rfl, rfl⟩
theorem Fg.turn_seven (G : Fg) : (G.turn 7).nA = G.nD ∧ (G.turn 7).nD = G.nA := by
  show G.m.q.q.q.nA = _ ∧ G.m.q.q.q.nD = _
  obtain ⟨_, _, a3, a4⟩ := Fg.all_q G.m.q.q
  obtain ⟨_, _, b3, b4⟩ := Fg.all_q G.m.q
  obtain ⟨_, _, c3, c4⟩ := Fg.all_q G.m
  obtain ⟨_, _, d3, d4⟩ := Fg.all_m G
  rw [a3, a4, b3, b4, c3, c4, d3, d4]
  exact ⟨rfl, rfl⟩
end Go.Proofs.YthjgldjjplcncabDoor.Grd
/-
  Of no program: a grid's slots, crossings and lone cells as counts over its rows and columns.
-/
namespace Go.Proofs.YthjgldjjplcncabDoor.Grd

theorem Gr.fg_E {g : Gr} {r c : Nat} (hr : r < g.H) (hc : c < g.W) : (g.st (r * g.W + c) 0).isSome = g.fg.E r c := by
  have hn : r * g.W + c < g.n := Grd.at_lt hr hc
  have e1 : (r * g.W + c) % g.W = c := at_mod hc
  unfold Gr.st Gr.opn
  rw [decide_eq_true hn, Bool.true_and, e1]
  unfold Fg.E Gr.fg
  dsimp only
  by_cases h : c + 1 < g.W
  · have h2 : c < g.W - 1 := by omega
    simp only [hr, hc, h, h2, and_self, decide_true, Bool.true_and, true_and]
    rw [show r * g.W + (c + 1) = r * g.W + c + 1 by omega]
    cases bt g.B (r * g.W + c) <;> cases bt g.R (r * g.W + c) <;> cases bt g.B (r * g.W + c + 1) <;> rfl
  · have h2 : ¬ c < g.W - 1 := by omega
    simp only [h, h2, and_false, decide_false, Bool.false_and, false_and, if_false]
    cases bt g.B (r * g.W + c) <;> rfl
theorem Gr.fg_S {g : Gr} {r c : Nat} (hr : r < g.H) (hc : c < g.W) : (g.st (r * g.W + c) 1).isSome = g.fg.S r c := by
  have hn : r * g.W + c < g.n := Grd.at_lt hr hc
  have e1 : (r * g.W + c) / g.W = r := at_div hc
  unfold Gr.st Gr.opn
  rw [decide_eq_true hn, Bool.true_and, e1]
  unfold Fg.S Gr.fg
  dsimp only
  by_cases h : r + 1 < g.H
  · have h2 : r < g.H - 1 := by omega
    simp only [hr, hc, h, h2, and_self, decide_true, Bool.true_and, true_and]
    rw [show (r + 1) * g.W + c = r * g.W + c + g.W by rw [Nat.succ_mul]; omega]
    cases bt g.B (r * g.W + c) <;> cases bt g.D (r * g.W + c) <;> cases bt g.B (r * g.W + c + g.W) <;> rfl
  · have h2 : ¬ r < g.H - 1 := by omega
    simp only [h, h2, false_and, decide_false, Bool.false_and, if_false]
    cases bt g.B (r * g.W + c) <;> rfl
theorem Gr.fg_El {g : Gr} {r c : Nat} (hr : r < g.H) (hc : c < g.W) : (g.st (r * g.W + c) 2).isSome = g.fg.El r c := by
  have hW : 0 < g.W := by omega
  unfold Fg.El
  by_cases h : 0 < c
  · rw [decide_eq_true h, Bool.true_and, ← Gr.fg_E hr (show c - 1 < g.W by omega)]
    exact (Gr.back_iff hW (d := 0) (by omega) (by show r * g.W + (c - 1) + 1 = _; omega)).symm
  · obtain rfl : c = 0 := by omega
    simp only [Nat.lt_irrefl, decide_false, Bool.false_and]
    cases hs : g.st (r * g.W + 0) 2 with
    | none => rfl
    | some j =>
      have ho := Gr.st_opn hs
      rw [Gr.st2 ho, Nat.add_zero, Nat.mul_mod_left] at hs
      simp at hs
theorem Gr.fg_Su {g : Gr} {r c : Nat} (hr : r < g.H) (hc : c < g.W) : (g.st (r * g.W + c) 3).isSome = g.fg.Su r c := by
  have hW : 0 < g.W := by omega
  unfold Fg.Su
  by_cases h : 0 < r
  · rw [decide_eq_true h, Bool.true_and, ← Gr.fg_S (show r - 1 < g.H by omega) hc]
    refine (Gr.back_iff hW (d := 1) (by omega) ?_).symm
    show (r - 1) * g.W + c + g.W = _
    obtain ⟨q, rfl⟩ : ∃ q, r = q + 1 := ⟨r - 1, by omega⟩
    rw [Nat.add_sub_cancel, Nat.succ_mul]
    omega
  · obtain rfl : r = 0 := by omega
    simp only [Nat.lt_irrefl, decide_false, Bool.false_and]
    rw [Gr.back_none (d := 1) (by omega) (by show 0 * g.W + c < g.W; omega)]
    rfl
theorem Gr.cnt_st {g : Gr} (f : Bool → Bool → Bool → Bool → Bool → Bool) : sumN g.n (fun i => b2 (f (bt g.B i) (g.st i 0).isSome (g.st i 2).isSome (g.st i 1).isSome (g.st i 3).isSome)) = g.fg.cnt f := by
  unfold Gr.n Fg.cnt
  rw [sumN_mul]
  show _ = sumN g.H _
  refine sumN_congr fun r hr => ?_
  show _ = sumN g.W _
  refine sumN_congr fun c hc => ?_
  rw [Gr.fg_E hr hc, Gr.fg_El hr hc, Gr.fg_S hr hc, Gr.fg_Su hr hc]
  congr 2
  unfold Gr.fg
  simp [hr, hc]
theorem filter_sum (p : Nat → Bool) (m : Nat) : ((List.range m).filter p).length = sumN m (fun i => b2 (p i)) := by
  induction m with
  | zero => rfl
  | succ m ih =>
    rw [List.range_succ, List.filter_append, List.length_append, ih]
    simp only [sumN]
    congr 1
    cases h : p m <;> simp [h, b2]
theorem Gr.crK_fg {g : Gr} (hok : g.ok) : g.crK g.n = g.fg.nX := by
  unfold Gr.crK Fg.nX
  rw [filter_sum, ← Gr.cnt_st]
  refine sumN_congr fun i _ => ?_
  unfold Gr.isX
  rw [Gr.seat_steps hok, Gr.seat_steps hok]
  rfl
theorem Gr.loK_fg {g : Gr} (hok : g.ok) : (g.loK g.n).length = g.fg.nL := by
  unfold Gr.loK Fg.nL
  rw [filter_sum, ← Gr.cnt_st]
  refine sumN_congr fun i _ => ?_
  unfold Gr.isLone
  rw [Gr.seat_steps hok, Gr.seat_steps hok]
  rfl
/-- The slots across, and those down, among the first k. -/
def upL (dn : Bool) (L : List Sl) : Nat := (L.filter fun s => s.dn == dn).length
theorem Gr.slTo_up (g : Gr) (dn : Bool) (i : Nat) : upL dn (g.slTo i) = sumN i (fun i => b2 (g.beg (way dn) i)) := by
  induction i with
  | zero => rfl
  | succ i ih =>
    unfold upL at ih ⊢
    simp only [Gr.slTo, sumN, List.filter_append, List.length_append]
    rw [ih]
    congr 1
    unfold Gr.slAt
    cases dn with
    | false => cases h0 : g.beg 0 i <;> cases h1 : g.beg 1 i <;> simp [way, b2, h0]
    | true => cases h0 : g.beg 0 i <;> cases h1 : g.beg 1 i <;> simp [way, b2, h1]
theorem Gr.up_fg {g : Gr} (hok : g.ok) : upL false g.sl = g.fg.nA ∧ upL true g.sl = g.fg.nD := by
  have e : g.sl = g.slTo g.n := by unfold Gr.sl; rw [if_pos hok]
  rw [e, Gr.slTo_up, Gr.slTo_up]
  unfold Fg.nA Fg.nD
  rw [← Gr.cnt_st, ← Gr.cnt_st]
  constructor
  · refine sumN_congr fun i _ => ?_
    unfold Gr.beg
    show b2 ((g.st i 2).isNone && (g.st i 0).isSome) = _
    cases g.st i 2 <;> cases g.st i 0 <;> rfl
  · refine sumN_congr fun i _ => ?_
    unfold Gr.beg
    show b2 ((g.st i 3).isNone && (g.st i 1).isSome) = _
    cases g.st i 3 <;> cases g.st i 1 <;> rfl
theorem up_len (L : List Sl) : L.length = upL false L + upL true L := by
  unfold upL
  induction L with
  | nil => rfl
  | cons s r ih => cases hd : s.dn <;> simp [hd, ih] <;> omega
theorem Gr.ok_of_right {g : Gr} (hr : g.Right) : g.ok := by
  refine Gr.chk_ok ⟨⟨?_, ?_⟩, ?_, ?_⟩ ⟨hr.bl, hr.rl, hr.dl⟩ ?_
  · have := hr.sh; omega
  · have := hr.sh; omega
  · have := hr.sw; omega
  · have := hr.sw; omega
  · rintro ⟨i, hi, h | h⟩
    · exact hr.nr i hi h
    · exact hr.nd i hi h
theorem Gr.turn_fg (g : Gr) (k : Nat) : (g.turn k).fg = g.fg.turn k := Fg.gr_fg (Fg.norm_turn g.fg_norm k)
/-- A TURNED GRID HAS AS MANY. -/
theorem Gr.turn_counts {g : Gr} (hok : g.ok) (k : Nat) : (g.turn k).sl.length = g.sl.length ∧ (g.turn k).crK (g.turn k).m = g.crK g.m ∧ ((g.turn k).loK (g.turn k).m).length = (g.loK g.m).length := by
  have hT := Gr.ok_of_right (Gr.turn_right (Gr.right_of hok) k)
  have m1 : g.m = g.n := if_pos hok
  have m2 : (g.turn k).m = (g.turn k).n := if_pos hT
  obtain ⟨h1, h2, h3⟩ := Fg.all_turn g.fg k
  refine ⟨?_, ?_, ?_⟩
  · rw [up_len, up_len, (Gr.up_fg hok).1, (Gr.up_fg hok).2, (Gr.up_fg hT).1, (Gr.up_fg hT).2, Gr.turn_fg]
    exact h3
  · rw [m1, m2, Gr.crK_fg hok, Gr.crK_fg hT, Gr.turn_fg]; exact h1
  · rw [m1, m2, Gr.loK_fg hok, Gr.loK_fg hT, Gr.turn_fg]; exact h2
/-- Mirrored along the diagonal, across is down. -/
theorem Gr.turn_seven {g : Gr} (hok : g.ok) : upL false (g.turn 7).sl = upL true g.sl ∧ upL true (g.turn 7).sl = upL false g.sl := by
  have hT := Gr.ok_of_right (Gr.turn_right (Gr.right_of hok) 7)
  obtain ⟨h1, h2⟩ := Fg.turn_seven g.fg
  rw [(Gr.up_fg hok).1, (Gr.up_fg hok).2, (Gr.up_fg hT).1, (Gr.up_fg hT).2, Gr.turn_fg]
  exact ⟨h1, h2⟩
end Go.Proofs.YthjgldjjplcncabDoor.Grd
