/-
  Symmetries and the least turned grid (layer 6), as mathematics.
-/
import Derived.Test.YthjgldjjplcncabDoorGtn
namespace Go.Proofs.YthjgldjjplcncabDoor.Grd

/-- Closed under doing one behind the other. -/
def closedL (l : List Bool) : Bool := (List.range 8).all fun a => (List.range 8).all fun b => !(bt l a && bt l b) || bt l (thn a b)
theorem closed_count : ∀ b1 b2 b3 b4 b5 b6 b7 : Bool, closedL [true, b1, b2, b3, b4, b5, b6, b7] = true →
    (let n := ([true, b1, b2, b3, b4, b5, b6, b7].filter id).length; n = 1 ∨ n = 2 ∨ n = 4 ∨ n = 8) := by decide +kernel

theorem Gr.sym_thn {g : Gr} {a b : Nat} (ha : a < 8) (hb : b < 8) (h1 : g.turn a = g) (h2 : g.turn b = g) : g.turn (thn a b) = g := by
  rw [← Gr.turn_turn ha hb, h1, h2]

/-- The first place at which two lists differ decides. -/
def ltL : List Nat → List Nat → Bool
  | [], _ => false
  | _ :: _, [] => false
  | a :: l, b :: l' => if a = b then ltL l l' else decide (a < b)
theorem ltL_irr : ∀ l, ltL l l = false
  | [] => rfl
  | a :: l => by unfold ltL; rw [if_pos rfl]; exact ltL_irr l
theorem ltL_trans : ∀ {l1 l2 l3 : List Nat}, ltL l1 l2 = true → ltL l2 l3 = true → ltL l1 l3 = true
  | [], _, _, h, _ => by unfold ltL at h; cases h
  | _ :: _, [], _, h, _ => by unfold ltL at h; cases h
  | _ :: _, _ :: _, [], _, h => by unfold ltL at h; cases h
  | a :: l1, b :: l2, c :: l3, h1, h2 => by
    unfold ltL at h1 h2 ⊢
    by_cases e1 : a = b
    · subst e1
      rw [if_pos rfl] at h1
      by_cases e2 : a = c
      · subst e2
        rw [if_pos rfl] at h2 ⊢
        exact ltL_trans h1 h2
      · rw [if_neg e2] at h2 ⊢
        exact h2
    · rw [if_neg e1] at h1
      have h1' := of_decide_eq_true h1
      by_cases e2 : b = c
      · subst e2
        rw [if_neg e1]
        exact h1
      · rw [if_neg e2] at h2
        have h2' := of_decide_eq_true h2
        rw [if_neg (by omega)]
        exact decide_eq_true (by omega)
theorem ltL_tot : ∀ {l l' : List Nat}, l.length = l'.length → ltL l l' = false → ltL l' l = false → l = l'
  | [], [], _, _, _ => rfl
  | a :: l, b :: l', hl, h1, h2 => by
    unfold ltL at h1 h2
    by_cases e : a = b
    · subst e
      rw [if_pos rfl] at h1 h2
      rw [ltL_tot (by simpa using hl) h1 h2]
    · rw [if_neg e] at h1
      rw [if_neg (fun h => e h.symm)] at h2
      have h1' := of_decide_eq_false h1
      have h2' := of_decide_eq_false h2
      omega
/-- What two grids are held against each other by. -/
def zo (l : List Bool) : List Nat := l.map fun b => if b then 0 else 1
def Gr.key (g : Gr) : List Nat := g.H :: g.W :: zo (g.B ++ g.R ++ g.D)
def Gr.less (a b : Gr) : Bool := ltL a.key b.key
theorem zo_inj : ∀ {l l' : List Bool}, zo l = zo l' → l = l'
  | [], [], _ => rfl
  | [], _ :: _, h => by cases h
  | _ :: _, [], h => by cases h
  | a :: l, b :: l', h => by
    unfold zo at h
    simp only [List.map_cons, List.cons.injEq] at h
    have h2 : l = l' := zo_inj h.2
    have h1 : a = b := by
      have := h.1
      revert this
      cases a <;> cases b <;> simp
    rw [h1, h2]
theorem Gr.less_irr (g : Gr) : g.less g = false := ltL_irr _
theorem Gr.less_trans {a b c : Gr} (h1 : a.less b = true) (h2 : b.less c = true) : a.less c = true := ltL_trans h1 h2
theorem Gr.less_tot {a b : Gr} (ha : a.Right) (hb : b.Right) (h1 : a.less b = false) (h2 : b.less a = false) : a = b := by
  have hk : a.H = b.H ∧ a.W = b.W := by
    unfold Gr.less Gr.key ltL at h1 h2
    by_cases e : a.H = b.H
    · rw [if_pos e] at h1
      rw [if_pos e.symm] at h2
      unfold ltL at h1 h2
      by_cases e2 : a.W = b.W
      · exact ⟨e, e2⟩
      · rw [if_neg e2] at h1
        rw [if_neg (fun h => e2 h.symm)] at h2
        have h1' := of_decide_eq_false h1
        have h2' := of_decide_eq_false h2
        omega
    · rw [if_neg e] at h1
      rw [if_neg (fun h => e h.symm)] at h2
      have h1' := of_decide_eq_false h1
      have h2' := of_decide_eq_false h2
      omega
  have hn : a.n = b.n := by unfold Gr.n; rw [hk.1, hk.2]
  have hkey : a.key = b.key := ltL_tot (by unfold Gr.key zo; simp only [List.length_cons, List.length_map, List.length_append, ha.bl, ha.rl, ha.dl, hb.bl, hb.rl, hb.dl, hn]) h1 h2
  unfold Gr.key at hkey
  simp only [List.cons.injEq] at hkey
  have hz := zo_inj hkey.2.2
  obtain ⟨hz1, hz2⟩ := List.append_inj hz (by rw [List.length_append, List.length_append, ha.bl, ha.rl, hb.bl, hb.rl, hn])
  obtain ⟨hz3, hz4⟩ := List.append_inj hz1 (by rw [ha.bl, hb.bl, hn])
  refine Gr.ext' ?_ ?_ hz3 hz4 hz2
  · rw [← ha.sh.2.2, ← hb.sh.2.2, hk.1]
  · rw [← ha.sw.2.2, ← hb.sw.2.2, hk.2]
/-- The least of the first m turned grids, by the least turn. -/
def Gr.Least (g : Gr) (m at' : Nat) : Prop := at' < m ∧ (∀ k, k < m → (g.turn k).less (g.turn at') = false) ∧ (∀ k, k < at' → g.turn k ≠ g.turn at')
theorem Gr.least_one (g : Gr) : g.Least 1 0 := ⟨by omega, fun k hk => by rw [show k = 0 by omega]; exact Gr.less_irr _, fun k hk => absurd hk (Nat.not_lt_zero k)⟩
theorem Gr.least_keep {g : Gr} {m a : Nat} (h : g.Least m a) (hn : (g.turn m).less (g.turn a) = false) : g.Least (m + 1) a := by
  refine ⟨by have := h.1; omega, fun k hk => ?_, h.2.2⟩
  by_cases e : k = m
  · subst e; exact hn
  · exact h.2.1 k (by omega)
theorem Gr.least_new {g : Gr} {m a : Nat} (h : g.Least m a) (hn : (g.turn m).less (g.turn a) = true) : g.Least (m + 1) m := by
  refine ⟨by omega, fun k hk => ?_, fun k hk e => ?_⟩
  · by_cases e : k = m
    · subst e; exact Gr.less_irr _
    · cases hl : (g.turn k).less (g.turn m) with
      | false => rfl
      | true =>
        have := h.2.1 k (by omega)
        rw [Gr.less_trans hl hn] at this
        cases this
  · have := h.2.1 k hk
    rw [e, hn] at this
    cases this
/-- TURNED GRIDS HAVE ONE LEAST. -/
theorem Gr.least_turn {g : Gr} (hr : g.Right) {k a b : Nat} (hk : k < 8) (ha : g.Least 8 a) (hb : (g.turn k).Least 8 b) : (g.turn k).turn b = g.turn a := by
  refine Gr.less_tot (Gr.turn_right (Gr.turn_right hr k) b) (Gr.turn_right hr a) ?_ ?_
  · rw [Gr.turn_turn hk hb.1]
    exact ha.2.1 _ (thn_lt k hk b hb.1)
  · have e : g.turn a = (g.turn k).turn (thn (bck k) a) := by
      have h1 := bck_lt k hk
      rw [Gr.turn_turn hk (thn_lt _ h1 _ ha.1), ← thn_assoc k hk _ h1 a ha.1, (thn_zero k hk).2.2.1, (thn_zero a ha.1).2.1]
    rw [e]
    exact hb.2.1 _ (thn_lt _ (bck_lt k hk) _ ha.1)
/-- The least is its own, by the turn 0. -/
theorem Gr.least_self {g : Gr} (hr : g.Right) {a b : Nat} (ha : g.Least 8 a) (hb : (g.turn a).Least 8 b) : b = 0 := by
  have e := Gr.least_turn hr ha.1 ha hb
  by_cases h : b = 0
  · exact h
  · exact absurd (by rw [Gr.turn_zero (Gr.turn_right hr a), e]) (hb.2.2 0 (by omega))
end Go.Proofs.YthjgldjjplcncabDoor.Grd
