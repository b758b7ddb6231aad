/-
  Of no program: a turned grid has as many slots of each length, as many parts and as many open cells.
-/
import Derived.Test.YthjgldjjplcncabDoorWtmq
import Derived.Test.YthjgldjjplcncabDoorGge
namespace Go.Proofs.YthjgldjjplcncabDoor.Grd

/-- In a row: a run of just L cells begins here. -/
def jst (e : Nat → Bool) (c L : Nat) : Bool := !(decide (0 < c) && e (c - 1)) && (((List.range (L - 1)).all fun t => e (c + t)) && !e (c + (L - 1)))
theorem jst_in {e : Nat → Bool} {m c L : Nat} (h : ∀ i, m ≤ i + 1 → e i = false) (hL : 2 ≤ L) (hj : jst e c L = true) : c + L ≤ m := by
  unfold jst at hj
  simp only [Bool.and_eq_true] at hj
  have h1 := List.all_eq_true.1 hj.2.1 (L - 2) (List.mem_range.2 (by omega))
  by_cases hm : m ≤ c + (L - 2) + 1
  · rw [h _ hm] at h1; cases h1
  · omega
def rv (m : Nat) (e : Nat → Bool) : Nat → Bool := fun c => decide (c + 1 < m) && e (m - 2 - c)
theorem rv_out (m : Nat) (e : Nat → Bool) : ∀ i, m ≤ i + 1 → rv m e i = false := fun i h => by unfold rv; rw [decide_eq_false (by omega)]; rfl
theorem rv_in {m : Nat} {e : Nat → Bool} {c : Nat} (h : c + 1 < m) : rv m e c = e (m - 2 - c) := by unfold rv; rw [decide_eq_true h, Bool.true_and]
theorem jst_rv {e : Nat → Bool} {m c L : Nat} (h : ∀ i, m ≤ i + 1 → e i = false) (hL : 2 ≤ L) (hc : c + L ≤ m) : jst (rv m e) c L = jst e (m - L - c) L := by
  have hA : (decide (0 < c) && rv m e (c - 1)) = e (m - L - c + (L - 1)) := by
    by_cases h0 : 0 < c
    · rw [decide_eq_true h0, Bool.true_and, rv_in (by omega)]
      congr 1
      omega
    · rw [decide_eq_false h0, Bool.false_and, h _ (by omega)]
  have hC : rv m e (c + (L - 1)) = (decide (0 < m - L - c) && e (m - L - c - 1)) := by
    by_cases h0 : 0 < m - L - c
    · rw [decide_eq_true h0, Bool.true_and, rv_in (by omega)]
      congr 1
      omega
    · rw [decide_eq_false h0, Bool.false_and, rv_out _ _ _ (by omega)]
  have hB : ((List.range (L - 1)).all fun t => rv m e (c + t)) = ((List.range (L - 1)).all fun t => e (m - L - c + t)) := by
    rw [Bool.eq_iff_iff, List.all_eq_true, List.all_eq_true]
    constructor
    · intro ha t ht
      have ht' := List.mem_range.1 ht
      have := ha (L - 2 - t) (List.mem_range.2 (by omega))
      rw [rv_in (by omega)] at this
      rw [← this]
      congr 1
      omega
    · intro ha t ht
      have ht' := List.mem_range.1 ht
      have := ha (L - 2 - t) (List.mem_range.2 (by omega))
      rw [rv_in (by omega), ← this]
      congr 1
      omega
  unfold jst
  rw [hA, hB, hC]
  cases e (m - L - c + (L - 1)) <;> cases ((List.range (L - 1)).all fun t => e (m - L - c + t)) <;> cases (decide (0 < m - L - c) && e (m - L - c - 1)) <;> rfl
theorem jst_sum {e : Nat → Bool} {m L : Nat} (h : ∀ i, m ≤ i + 1 → e i = false) (hL : 2 ≤ L) : sumN m (fun c => b2 (jst e c L)) = sumN (m + 1 - L) (fun c => b2 (jst e c L)) := by
  have hz : ∀ c, m < c + L → b2 (jst e c L) = 0 := fun c hc => by
    cases hj : jst e c L with
    | false => rfl
    | true => have := jst_in h hL hj; omega
  by_cases hm : L ≤ m
  · have e1 : m = (m + 1 - L) + (L - 1) := by omega
    have h2 := sumN_app (m + 1 - L) (L - 1) (fun c => b2 (jst e c L))
    rw [← e1] at h2
    rw [h2, sumN_congr (m := L - 1) (f' := fun _ => 0) (fun i hi => hz _ (by omega)), sumN_zero]
    rfl
  · rw [show m + 1 - L = 0 by omega, sumN_congr (m := m) (f' := fun _ => 0) (fun i hi => hz _ (by omega)), sumN_zero]
    rfl
theorem sum_rv {e : Nat → Bool} {m L : Nat} (h : ∀ i, m ≤ i + 1 → e i = false) (hL : 2 ≤ L) : sumN m (fun c => b2 (jst (rv m e) c L)) = sumN m (fun c => b2 (jst e c L)) := by
  rw [jst_sum (rv_out m e) hL, jst_sum h hL, ← sumN_rev (m + 1 - L) (fun c => b2 (jst e c L))]
  refine sumN_congr fun c hc => ?_
  rw [jst_rv h hL (by omega), show m + 1 - L - 1 - c = m - L - c by omega]
/-- Slots of just L cells. -/
def Fg.nl (G : Fg) (L : Nat) : Nat := sumN G.H (fun r => sumN G.W (fun c => b2 (jst (G.E r) c L))) + sumN G.W (fun c => sumN G.H (fun r => b2 (jst (fun x => G.S x c) r L)))
theorem Fg.E_out (G : Fg) (r : Nat) : ∀ i, G.W ≤ i + 1 → G.E r i = false := fun i h => by unfold Fg.E; rw [decide_eq_false (by omega)]; rfl
theorem Fg.S_out (G : Fg) (c : Nat) : ∀ i, G.H ≤ i + 1 → G.S i c = false := fun i h => by unfold Fg.S; rw [decide_eq_false (by omega)]; rfl
theorem Fg.nl_m (G : Fg) {L : Nat} (hL : 2 ≤ L) : G.m.nl L = G.nl L := by
  unfold Fg.nl
  congr 1
  · show sumN G.H (fun r => sumN G.W (fun c => b2 (jst (G.m.E r) c L))) = _
    refine sumN_congr fun r hr => ?_
    rw [show G.m.E r = rv G.W (G.E r) from ?_]
    · exact sum_rv (G.E_out r) hL
    · funext c
      by_cases hc : c + 1 < G.W
      · rw [rv_in hc, Fg.m_E hr (by omega)]
        unfold Fg.El
        rw [decide_eq_true (by omega), Bool.true_and]
        congr 1
        omega
      · rw [rv_out _ _ _ (by omega)]
        exact G.m.E_out r c (by show G.W ≤ c + 1; omega)
  · show sumN G.W (fun c => sumN G.H (fun r => b2 (jst (fun x => G.m.S x c) r L))) = _
    rw [← sumN_rev G.W (fun c => sumN G.H (fun r => b2 (jst (fun x => G.S x c) r L)))]
    refine sumN_congr fun c hc => sumN_congr fun r _ => ?_
    rw [show (fun x => G.m.S x c) = fun x => G.S x (G.W - 1 - c) from funext fun x => Fg.m_S hc]
theorem Fg.nl_q (G : Fg) {L : Nat} (hL : 2 ≤ L) : G.q.nl L = G.nl L := by
  unfold Fg.nl
  rw [Nat.add_comm]
  congr 1
  · show sumN G.H (fun c => sumN G.W (fun r => b2 (jst (fun x => G.q.S x c) r L))) = _
    rw [← sumN_rev G.H (fun r => sumN G.W (fun c => b2 (jst (G.E r) c L)))]
    refine sumN_congr fun c hc => sumN_congr fun r _ => ?_
    rw [show (fun x => G.q.S x c) = G.E (G.H - 1 - c) from ?_]
    funext x
    by_cases hx : x < G.W
    · exact Fg.q_S hx hc
    · rw [G.E_out _ x (by omega)]
      exact G.q.S_out c x (by show G.W ≤ x + 1; omega)
  · show sumN G.W (fun r => sumN G.H (fun c => b2 (jst (G.q.E r) c L))) = _
    refine sumN_congr fun r hr => ?_
    rw [show G.q.E r = rv G.H (fun x => G.S x r) from ?_]
    · exact sum_rv (G.S_out r) hL
    · funext c
      by_cases hc : c + 1 < G.H
      · rw [rv_in hc, Fg.q_E hr (by omega)]
        unfold Fg.Su
        rw [decide_eq_true (by omega), Bool.true_and]
        congr 1
        omega
      · rw [rv_out _ _ _ (by omega)]
        exact G.q.E_out r c (by show G.H ≤ c + 1; omega)
theorem Fg.nl_qs (G : Fg) {L : Nat} (hL : 2 ≤ L) : ∀ n, (G.qs n).nl L = G.nl L
  | 0 => rfl
  | n + 1 => ((G.qs n).nl_q hL).trans (Fg.nl_qs G hL n)
theorem Fg.nl_turn (G : Fg) {L : Nat} (hL : 2 ≤ L) (k : Nat) : (G.turn k).nl L = G.nl L := by
  unfold Fg.turn
  rw [Fg.nl_qs _ hL]
  by_cases h : 3 < k
  · rw [if_pos h, Fg.nl_m _ hL]
  · rw [if_neg h]

theorem run_len0 {g : Gr} (hW : 0 < g.W) {r : Nat} (hr : r < g.H) : ∀ (n c : Nat), c < g.W → ((g.run 0 (r * g.W + c)).length == n + 1) = (((List.range n).all fun t => g.fg.E r (c + t)) && !g.fg.E r (c + n))
  | 0, c, hc => by
    have hE := Gr.fg_E hr hc
    cases hs : g.st (r * g.W + c) 0 with
    | none =>
      rw [hs] at hE
      rw [Gr.run_none hs, show g.fg.E r (c + 0) = g.fg.E r c from rfl, ← hE]
      rfl
    | some j =>
      rw [hs] at hE
      rw [Gr.run_some hW (by omega) hs, show g.fg.E r (c + 0) = g.fg.E r c from rfl, ← hE]
      have := g.run_pos 0 j
      simp
      intro e
      rw [e] at this
      simp at this
  | n + 1, c, hc => by
    have hE := Gr.fg_E hr hc
    cases hs : g.st (r * g.W + c) 0 with
    | none =>
      rw [hs] at hE
      have hf : ((List.range (n + 1)).all fun t => g.fg.E r (c + t)) = false := by
        rw [Bool.eq_false_iff]
        intro ha
        have := List.all_eq_true.1 ha 0 (List.mem_range.2 (by omega))
        rw [Nat.add_zero, ← hE] at this
        cases this
      rw [Gr.run_none hs, hf]
      simp
    | some j =>
      rw [hs] at hE
      have hj : j = r * g.W + (c + 1) := by
        have ho := Gr.st_opn hs
        rw [Gr.st0 ho] at hs
        obtain ⟨_, rfl⟩ := if_some hs
        omega
      have hc1 : c + 1 < g.W := by
        have := Fg.ex_in (G := g.fg) (d := 0) (by omega) (show g.fg.E r c = true from hE.symm)
        exact this.2.2.1 rfl
      rw [Gr.run_some hW (by omega) hs, hj]
      have ih := run_len0 hW hr n (c + 1) hc1
      have e1 : ((r * g.W + c) :: g.run 0 (r * g.W + (c + 1))).length = (g.run 0 (r * g.W + (c + 1))).length + 1 := rfl
      rw [e1]
      have e2 : ((g.run 0 (r * g.W + (c + 1))).length + 1 == n + 1 + 1) = ((g.run 0 (r * g.W + (c + 1))).length == n + 1) := by
        rw [Bool.eq_iff_iff, beq_iff_eq, beq_iff_eq]
        omega
      rw [e2, ih, List.range_succ_eq_map, List.all_cons, List.all_map, show g.fg.E r (c + 0) = g.fg.E r c from rfl, ← hE]
      simp only [Option.isSome_some, Bool.true_and]
      congr 1
      · congr 1
        funext t
        show g.fg.E r (c + 1 + t) = g.fg.E r (c + (t + 1))
        congr 1
        omega
      · congr 2
        omega
theorem run_len1 {g : Gr} (hW : 0 < g.W) {c : Nat} (hc : c < g.W) : ∀ (n r : Nat), r < g.H → ((g.run 1 (r * g.W + c)).length == n + 1) = (((List.range n).all fun t => g.fg.S (r + t) c) && !g.fg.S (r + n) c)
  | 0, r, hr => by
    have hE := Gr.fg_S hr hc
    cases hs : g.st (r * g.W + c) 1 with
    | none =>
      rw [hs] at hE
      rw [Gr.run_none hs, show g.fg.S (r + 0) c = g.fg.S r c from rfl, ← hE]
      rfl
    | some j =>
      rw [hs] at hE
      rw [Gr.run_some hW (by omega) hs, show g.fg.S (r + 0) c = g.fg.S r c from rfl, ← hE]
      have := g.run_pos 1 j
      simp
      intro e
      rw [e] at this
      simp at this
  | n + 1, r, hr => by
    have hE := Gr.fg_S hr hc
    cases hs : g.st (r * g.W + c) 1 with
    | none =>
      rw [hs] at hE
      have hf : ((List.range (n + 1)).all fun t => g.fg.S (r + t) c) = false := by
        rw [Bool.eq_false_iff]
        intro ha
        have := List.all_eq_true.1 ha 0 (List.mem_range.2 (by omega))
        rw [Nat.add_zero, ← hE] at this
        cases this
      rw [Gr.run_none hs, hf]
      simp
    | some j =>
      rw [hs] at hE
      have hj : j = (r + 1) * g.W + c := by
        have ho := Gr.st_opn hs
        rw [Gr.st1 ho] at hs
        obtain ⟨_, rfl⟩ := if_some hs
        rw [Nat.succ_mul]
        omega
      have hr1 : r + 1 < g.H := by
        have := Fg.ex_in (G := g.fg) (d := 1) (by omega) (show g.fg.S r c = true from hE.symm)
        exact this.2.2.2.1 rfl
      rw [Gr.run_some hW (by omega) hs, hj]
      have ih := run_len1 hW hc n (r + 1) hr1
      have e1 : ((r * g.W + c) :: g.run 1 ((r + 1) * g.W + c)).length = (g.run 1 ((r + 1) * g.W + c)).length + 1 := rfl
      rw [e1]
      have e2 : ((g.run 1 ((r + 1) * g.W + c)).length + 1 == n + 1 + 1) = ((g.run 1 ((r + 1) * g.W + c)).length == n + 1) := by
        rw [Bool.eq_iff_iff, beq_iff_eq, beq_iff_eq]
        omega
      rw [e2, ih, List.range_succ_eq_map, List.all_cons, List.all_map, show g.fg.S (r + 0) c = g.fg.S r c from rfl, ← hE]
      simp only [Option.isSome_some, Bool.true_and]
      congr 1
      · congr 1
        funext t
        show g.fg.S (r + 1 + t) c = g.fg.S (r + (t + 1)) c
        rw [show r + 1 + t = r + (t + 1) by omega]
      · rw [show r + 1 + n = r + (n + 1) by omega]
/-- The slots of just n cells. -/
def cntL (L : List Sl) (n : Nat) : Nat := (L.filter fun s => s.cs.length == n).length
theorem Gr.slTo_cnt (g : Gr) (n i : Nat) : cntL (g.slTo i) n = sumN i (fun i => b2 (g.beg 0 i && ((g.run 0 i).length == n)) + b2 (g.beg 1 i && ((g.run 1 i).length == n))) := by
  induction i with
  | zero => rfl
  | succ i ih =>
    unfold cntL at ih ⊢
    simp only [Gr.slTo, sumN, List.filter_append, List.length_append]
    rw [ih]
    congr 1
    unfold Gr.slAt
    cases h0 : g.beg 0 i <;> cases h1 : g.beg 1 i <;> cases h2 : ((g.run 0 i).length == n) <;> cases h3 : ((g.run 1 i).length == n) <;> simp [b2, h2, h3]
theorem Gr.cnt_nl {g : Gr} (hok : g.ok) {n : Nat} (hn : 2 ≤ n) : cntL g.sl n = g.fg.nl n := by
  have hR := Gr.right_of hok
  have hW : 0 < g.W := by have := hR.sw.1; omega
  obtain ⟨m, rfl⟩ : ∃ m, n = m + 1 := ⟨n - 1, by omega⟩
  have e : g.sl = g.slTo g.n := by unfold Gr.sl; rw [if_pos hok]
  rw [e, Gr.slTo_cnt, sumN_add]
  unfold Fg.nl Gr.n
  congr 1
  · rw [sumN_mul]
    show _ = sumN g.H _
    refine sumN_congr fun r hr => ?_
    show _ = sumN g.W _
    refine sumN_congr fun c hc => ?_
    congr 1
    unfold Gr.beg jst
    rw [run_len0 hW hr m c hc, Nat.add_sub_cancel]
    have h1 := Gr.fg_El hr hc
    have h2 := Gr.fg_E hr hc
    have h3 : (g.st (r * g.W + c) (0 + 2)).isNone = !(decide (0 < c) && g.fg.E r (c - 1)) := by
      show _ = !g.fg.El r c
      rw [← h1]
      cases g.st (r * g.W + c) 2 <;> rfl
    rw [h3, h2]
    cases hE : g.fg.E r c with
    | true => rw [Bool.and_true]
    | false =>
      have hf : ((List.range m).all fun t => g.fg.E r (c + t)) = false := by
        rw [Bool.eq_false_iff]
        intro ha
        have := List.all_eq_true.1 ha 0 (List.mem_range.2 (by omega))
        rw [Nat.add_zero, hE] at this
        cases this
      rw [hf]
      simp
  · rw [sumN_mul, sumN_swap]
    show _ = sumN g.W _
    refine sumN_congr fun c hc => ?_
    show _ = sumN g.H _
    refine sumN_congr fun r hr => ?_
    congr 1
    unfold Gr.beg jst
    rw [run_len1 hW hc m r hr, Nat.add_sub_cancel]
    have h1 := Gr.fg_Su hr hc
    have h2 := Gr.fg_S hr hc
    have h3 : (g.st (r * g.W + c) (1 + 2)).isNone = !(decide (0 < r) && g.fg.S (r - 1) c) := by
      show _ = !g.fg.Su r c
      rw [← h1]
      cases g.st (r * g.W + c) 3 <;> rfl
    rw [h3, h2]
    cases hE : g.fg.S r c with
    | true => rw [Bool.and_true]
    | false =>
      have hf : ((List.range m).all fun t => g.fg.S (r + t) c) = false := by
        rw [Bool.eq_false_iff]
        intro ha
        have := List.all_eq_true.1 ha 0 (List.mem_range.2 (by omega))
        rw [Nat.add_zero, hE] at this
        cases this
      rw [hf]
      simp
/-- A slot has two cells at least, and sixteen at most. -/
theorem Gr.sl_len16 {g : Gr} {s : Sl} (hs : s ∈ g.sl) : 2 ≤ s.cs.length ∧ s.cs.length ≤ 16 := by
  obtain ⟨hok, i, hi, hS⟩ := Gr.mem_sl hs
  have hR := Gr.right_of hok
  have hW : 0 < g.W := by have := hR.sw.1; omega
  have h2 := hS.two hW
  refine ⟨h2, ?_⟩
  obtain ⟨hr, hc⟩ := div_in (h := g.H) (w := g.W) hi
  have hb := at_back g.W i
  have hw := way_lt s.dn
  rw [hS.cs] at h2 ⊢
  generalize way s.dn = d at *
  obtain ⟨m, hm⟩ : ∃ m, (g.run d i).length = m + 1 := ⟨(g.run d i).length - 1, by omega⟩
  have : d = 0 ∨ d = 1 := by omega
  rcases this with rfl | rfl
  · have h := run_len0 hW hr m (i % g.W) hc
    rw [hb, hm] at h
    simp only [beq_self_eq_true] at h
    have ha := (Bool.and_eq_true _ _ ▸ h.symm : _ ∧ _).1
    have h1 := List.all_eq_true.1 ha (m - 1) (List.mem_range.2 (by omega))
    have h3 := (Fg.ex_in (G := g.fg) (d := 0) (by omega) (show g.fg.E _ _ = true from h1)).2.2.1 rfl
    have h4 : i % g.W + (m - 1) + 1 < g.W := h3
    have h5 := hR.sw.2.1
    generalize i % g.W = x at *
    generalize g.W = y at *
    omega
  · have h := run_len1 hW hc m (i / g.W) hr
    rw [hb, hm] at h
    simp only [beq_self_eq_true] at h
    have ha := (Bool.and_eq_true _ _ ▸ h.symm : _ ∧ _).1
    have h1 := List.all_eq_true.1 ha (m - 1) (List.mem_range.2 (by omega))
    have h3 := (Fg.ex_in (G := g.fg) (d := 1) (by omega) (show g.fg.S _ _ = true from h1)).2.2.2.1 rfl
    have h4 : i / g.W + (m - 1) + 1 < g.H := h3
    have h5 := hR.sh.2.1
    clear hb h1 h3 ha h
    generalize i / g.W = x at *
    generalize g.H = y at *
    omega
/-- AS MANY SLOTS OF EACH LENGTH. -/
theorem Gr.turn_lens {g : Gr} (hok : g.ok) (k n : Nat) : cntL (g.turn k).sl n = cntL g.sl n := by
  have hT := Gr.ok_of_right (Gr.turn_right (Gr.right_of hok) k)
  by_cases hn : 2 ≤ n
  · rw [Gr.cnt_nl hok hn, Gr.cnt_nl hT hn, Gr.turn_fg, Fg.nl_turn _ hn]
  · have hz : ∀ G : Gr, cntL G.sl n = 0 := fun G => by
      unfold cntL
      rw [List.length_eq_zero_iff, List.filter_eq_nil_iff]
      intro s hs h
      have := (Gr.sl_len16 hs).1
      have := beq_iff_eq.1 h
      omega
    rw [hz, hz]

theorem uns_sumk (l : List Bool) : ∀ k, k ≤ l.length → uns (l.take k) = sumN k (fun i => b2 (!bt l i))
  | 0, _ => rfl
  | k + 1, h => by
    rw [uns_take (by omega), uns_sumk l k (by omega)]
    simp only [sumN]
    cases bt l k <;> rfl
theorem uns_sum (l : List Bool) : uns l = sumN l.length (fun i => b2 (!bt l i)) := by
  rw [← uns_sumk l l.length (Nat.le_refl _), List.take_length]
theorem Fg.cnt_b (G : Fg) (k : Nat) : (G.turn k).cnt (fun b _ _ _ _ => !b) = G.cnt (fun b _ _ _ _ => !b) := by
  have hq : ∀ (F : Fg) n, (F.qs n).cnt (fun b _ _ _ _ => !b) = F.cnt (fun b _ _ _ _ => !b) := fun F n => by
    induction n with
    | zero => rfl
    | succ n ih =>
      show (F.qs n).q.cnt _ = _
      rw [Fg.cnt_q, ← ih]
  unfold Fg.turn
  rw [hq]
  by_cases h : 3 < k
  · rw [if_pos h, Fg.cnt_m]
  · rw [if_neg h]
/-- AS MANY OPEN CELLS. -/
theorem Gr.turn_cnt {g : Gr} (hok : g.ok) (k : Nat) : (g.turn k).cnt = g.cnt := by
  have hT := Gr.ok_of_right (Gr.turn_right (Gr.right_of hok) k)
  have h : ∀ G : Gr, G.ok → G.cnt = G.fg.cnt (fun b _ _ _ _ => !b) := fun G hG => by
    unfold Gr.cnt
    rw [if_pos hG, uns_sum, (Gr.right_of hG).bl, ← Gr.cnt_st]
  rw [h _ hT, h _ hok, Gr.turn_fg, Fg.cnt_b]

theorem td_onto (k : Nat) {d : Nat} (hd : d < 4) : ∃ e, e < 4 ∧ td k e = d := by
  unfold td
  by_cases h : 3 < k
  · refine ⟨(6 - (d + 4 - k % 4) % 4) % 4, Nat.mod_lt _ (by omega), ?_⟩
    rw [if_pos h]; omega
  · refine ⟨(d + 4 - k % 4) % 4, Nat.mod_lt _ (by omega), ?_⟩
    rw [if_neg h]; omega
theorem Gr.reach_turn {g : Gr} (k : Nat) {i j : Nat} (h : g.Reach i j) : (g.turn k).Reach (plc g.H g.W i k) (plc g.H g.W j k) := by
  induction h with
  | refl => exact .refl _
  | snoc _ hn ih =>
    obtain ⟨d, hs⟩ := Gr.mem_near.1 hn
    have hi := (Gr.opn_iff.1 (Gr.st_opn hs)).1
    refine .snoc ih (Gr.mem_near.2 ⟨td k d, ?_⟩)
    rw [Gr.st_turn hi (Gr.st_way hs) k, hs]
    rfl
theorem Gr.turn_reach {g : Gr} (hW : 0 < g.W) (k : Nat) (hk : k < 8) {i j : Nat} (hi : i < g.n) (hj : j < g.n) (h : (g.turn k).Reach (plc g.H g.W i k) (plc g.H g.W j k)) : g.Reach i j := by
  have := h.closed (S := fun x => ∃ y, y < g.n ∧ x = plc g.H g.W y k ∧ g.Reach i y) ⟨i, hi, rfl, .refl i⟩ (by
    rintro a b ⟨y, hy, rfl, hr⟩ hb
    obtain ⟨d, hs⟩ := Gr.mem_near.1 hb
    obtain ⟨e, he, rfl⟩ := td_onto k (Gr.st_way hs)
    rw [Gr.st_turn hy he k] at hs
    obtain ⟨z, hz, rfl⟩ := Option.map_eq_some_iff.1 hs
    exact ⟨z, (Gr.opn_iff.1 (Gr.st_to hW hz)).1, rfl, .snoc hr (Gr.mem_near.2 ⟨e, hz⟩)⟩)
  obtain ⟨y, hy, e, hr⟩ := this
  rw [plc_inj hj hy hk e]
  exact hr
theorem sumN_less {N x : Nat} {q : Nat → Bool} (hx : x < N) (hq : q x = true) : sumN N (fun i => b2 (q i)) = sumN N (fun i => b2 (q i && !(i == x))) + 1 := by
  induction N with
  | zero => omega
  | succ N ih =>
    simp only [sumN]
    by_cases e : x = N
    · subst e
      rw [hq]
      have : sumN x (fun i => b2 (q i)) = sumN x (fun i => b2 (q i && !(i == x))) := sumN_congr fun i hi => by
        rw [show (i == x) = false from beq_eq_false_iff_ne.2 (by omega)]
        simp
      rw [this]
      simp [b2]
    · rw [ih (by omega), show (N == x) = false from beq_eq_false_iff_ne.2 (fun h => e h.symm)]
      simp
      omega
theorem sumN_inj (p : Nat → Bool) (f : Nat → Nat) (N : Nat) : ∀ (m : Nat) (q : Nat → Bool), (∀ i, i < m → p i = true → f i < N ∧ q (f i) = true) → (∀ i j, i < m → j < m → p i = true → p j = true → f i = f j → i = j) → sumN m (fun i => b2 (p i)) ≤ sumN N (fun i => b2 (q i))
  | 0, q, _, _ => Nat.zero_le _
  | m + 1, q, h1, h2 => by
    simp only [sumN]
    cases hp : p m with
    | false =>
      have := sumN_inj p f N m q (fun i hi => h1 i (by omega)) (fun i j hi hj => h2 i j (by omega) (by omega))
      simpa [b2] using this
    | true =>
      obtain ⟨a1, a2⟩ := h1 m (by omega) hp
      have := sumN_inj p f N m (fun i => q i && !(i == f m)) (fun i hi hpi => by
        obtain ⟨b1, b2⟩ := h1 i (by omega) hpi
        refine ⟨b1, ?_⟩
        have hne : (f i == f m) = false := beq_eq_false_iff_ne.2 fun e => by have := h2 i m (by omega) (by omega) hpi hp e; omega
        rw [b2, hne]
        rfl) (fun i j hi hj => h2 i j (by omega) (by omega))
      rw [sumN_less a1 a2]
      show _ + 1 ≤ _
      omega
theorem Gr.count_le {g : Gr} (hok : g.ok) {k : Nat} (hk : k < 8) : g.count ≤ (g.turn k).count := by
  have hR := Gr.right_of hok
  have hTR := Gr.turn_right hR k
  have hW : 0 < g.W := by have := hR.sw.1; omega
  have hTW : 0 < (g.turn k).W := by have := hTR.sw.1; omega
  have hTn : (g.turn k).n = g.n := by
    show (g.fg.turn k).gr.n = _
    rw [Fg.gr_n, (Fg.turn_hw g.fg k).1, (Fg.turn_hw g.fg k).2]
    by_cases e : k % 2 = 1
    · rw [if_pos e, if_pos e]; exact Nat.mul_comm _ _
    · rw [if_neg e, if_neg e]; rfl
  have hB : ∀ i, g.opn i = true → (g.turn k).opn (plc g.H g.W i k) = true := fun i hi => by
    obtain ⟨h1, h2⟩ := Gr.opn_iff.1 hi
    refine Gr.opn_iff.2 ⟨by rw [hTn]; exact plc_lt h1 k, ?_⟩
    have hP := Gr.of_pl h1
    have hgo := (Fg.go_turn hP hP k)
    have hb := hgo.2.2.1
    have hO : (g.turn k).fg.Of ((g.pl i).turn k) := by rw [Gr.turn_fg]; exact hgo.1
    rw [← Gr.turn_fg] at hb
    have e1 : (g.turn k).fg.B ((g.pl i).turn k).r ((g.pl i).turn k).c = bt (g.turn k).B (plc g.H g.W i k) := by
      have h3 : ((g.pl i).turn k).w = (g.turn k).W := hO.2.1
      show (decide _ && bt _ (_ * (g.turn k).W + _)) = _
      rw [decide_eq_true ⟨hO.2.2.1, hO.2.2.2⟩, Bool.true_and, ← h3]
      rfl
    have e2 : g.fg.B (g.pl i).r (g.pl i).c = bt g.B i := by
      show (decide _ && bt _ (i / g.W * g.W + i % g.W)) = _
      rw [decide_eq_true ⟨hP.2.2.1, hP.2.2.2⟩, Bool.true_and, at_back]
    rw [← e1, hb, e2]
    exact h2
  have hF : ∀ i, g.first i = true → ∃ r, (g.turn k).first r = true ∧ (g.turn k).Reach r (plc g.H g.W i k) := fun i hi => by
    obtain ⟨r, _, h1, h2⟩ := Gr.has_first hTW _ (hB i (Gr.first_iff.1 hi).1)
    exact ⟨r, h1, h2⟩
  have hlt : ∀ (G : Gr) i, G.first i = true → i < G.n := fun G i h => (Gr.opn_iff.1 (Gr.first_iff.1 h).1).1
  obtain ⟨f, hf⟩ : ∃ f : Nat → Nat, ∀ i, g.first i = true → (g.turn k).first (f i) = true ∧ (g.turn k).Reach (f i) (plc g.H g.W i k) :=
    ⟨fun i => open Classical in if h : g.first i = true then Classical.choose (hF i h) else 0, fun i hi => by
      simp only [dif_pos hi]
      exact Classical.choose_spec (hF i hi)⟩
  unfold Gr.count Gr.ahead
  rw [filter_sum, filter_sum]
  refine sumN_inj g.first f (g.turn k).n g.n (g.turn k).first (fun i _ hp => ⟨hlt _ _ (hf i hp).1, (hf i hp).1⟩) ?_
  intro i j hi hj hpi hpj e
  have h1 := (hf i hpi).2
  have h2 := (hf j hpj).2
  rw [← e] at h2
  exact Gr.first_unique hW hpi hpj (Gr.turn_reach hW k hk hi hj ((h1.symm hTW).trans h2))
/-- AS MANY PARTS. -/
theorem Gr.turn_count {g : Gr} (hok : g.ok) {k : Nat} (hk : k < 8) : (g.turn k).count = g.count := by
  have hT := Gr.ok_of_right (Gr.turn_right (Gr.right_of hok) k)
  have h1 := Gr.count_le hok hk
  have h2 := Gr.count_le hT (bck_lt k hk)
  rw [Gr.turn_back (Gr.right_of hok) hk] at h2
  omega
end Go.Proofs.YthjgldjjplcncabDoor.Grd
