/-
  Of no program: there are as many seats as the slots have cells.
-/
import Derived.Test.YtilokjcbkhhifaaDoorSlg
namespace Go.Proofs.YtilokjcbkhhifaaDoor.Grd

/-- How many of the first m cells have a seat. -/
def cntS (f : Nat → Option (Nat × Nat)) (m : Nat) : Nat := ((List.range m).filter fun i => (f i).isSome).length
theorem cntS_succ (f : Nat → Option (Nat × Nat)) (m : Nat) : cntS f (m + 1) = cntS f m + (if (f m).isSome then 1 else 0) := by
  unfold cntS
  rw [List.range_succ, List.filter_append, List.length_append]
  congr 1
  cases h : (f m).isSome <;> simp [h]
theorem cntS_le (f : Nat → Option (Nat × Nat)) (m : Nat) : cntS f m ≤ m := by
  unfold cntS
  exact Nat.le_trans (List.length_filter_le _ _) (by rw [List.length_range]; exact Nat.le_refl _)
theorem cntS_congr {f f' : Nat → Option (Nat × Nat)} {m : Nat} (h : ∀ i, i < m → (f i).isSome = (f' i).isSome) : cntS f m = cntS f' m := by
  induction m with
  | zero => rfl
  | succ m ih => rw [cntS_succ, cntS_succ, ih (fun i hi => h i (by omega)), h m (by omega)]
theorem cntS_one {f f' : Nat → Option (Nat × Nat)} {c : Nat} (hc : f c = none) (hc' : (f' c).isSome = true) (h : ∀ i, i ≠ c → f' i = f i) : ∀ {m}, c < m → cntS f' m = cntS f m + 1 := by
  intro m
  induction m with
  | zero => intro hm; omega
  | succ m ih =>
    intro hm
    rw [cntS_succ, cntS_succ]
    by_cases e : c = m
    · subst e
      rw [cntS_congr (f := f') (f' := f) (fun i hi => by rw [h i (by omega)]), hc, hc']
      simp
    · rw [ih (by omega), h m (fun h => e h.symm)]
      omega
theorem cntS_none (m : Nat) : cntS (fun _ => none) m = 0 := by
  induction m with
  | zero => rfl
  | succ m ih => rw [cntS_succ, ih]; rfl
/-- How many cells the first slots of a direction have; and of both. -/
def totK (dn : Bool) (L : List Sl) : Nat → Nat
  | 0 => 0
  | k + 1 => totK dn L k + (match L[k]? with | some s => if s.dn = dn then s.cs.length else 0 | none => 0)
def sumK (L : List Sl) : Nat → Nat
  | 0 => 0
  | k + 1 => sumK L k + (match L[k]? with | some s => s.cs.length | none => 0)
theorem sumK_tot (L : List Sl) (k : Nat) : sumK L k = totK false L k + totK true L k := by
  induction k with
  | zero => rfl
  | succ k ih =>
    simp only [sumK, totK, ih]
    cases L[k]? with
    | none => simp
    | some s => cases hd : s.dn <;> simp [hd] <;> omega
theorem Gr.cnt_seatK {g : Gr} (dn : Bool) : ∀ k, k ≤ g.sl.length → cntS (g.seatK dn k 0) g.n = totK dn g.sl k := by
  intro k
  induction k with
  | zero =>
    intro _
    rw [show g.seatK dn 0 0 = fun _ => none from funext fun i => g.seatK_zero dn i, cntS_none]
    rfl
  | succ k ih =>
    intro hk
    have hs : g.sl[k]? = some (g.sl[k]'(by omega)) := List.getElem?_eq_getElem _
    generalize g.sl[k]'(by omega) = s at hs
    simp only [totK, hs]
    rw [← ih (by omega), cntS_congr (fun i _ => by rw [Gr.seatK_next hs i])]
    by_cases hd : s.dn = dn
    · rw [if_pos hd]
      subst hd
      have hstep : ∀ a, a ≤ s.cs.length → cntS (g.seatK s.dn k a) g.n = cntS (g.seatK s.dn k 0) g.n + a := by
        intro a
        induction a with
        | zero => intro _; rfl
        | succ a iha =>
          intro ha
          have hc : s.cs[a]? = some (s.cs[a]'(by omega)) := List.getElem?_eq_getElem _
          generalize s.cs[a]'(by omega) = c at hc
          have hat : At g.sl s.dn c k a := ⟨s, hs, rfl, hc⟩
          have h1 : g.seatK s.dn k a c = none := by
            unfold Gr.seatK
            rw [Gr.seat_iff.2 hat]
            simp [upTo]
          have h2 : (g.seatK s.dn k (a + 1) c).isSome = true := by rw [Gr.seatK_step hs hc c, if_pos rfl]; rfl
          rw [cntS_one h1 h2 (fun i hi => by rw [Gr.seatK_step hs hc i, if_neg hi]) (Gr.at_lt hat).1, iha (by omega)]
          omega
      exact hstep _ (Nat.le_refl _)
    · rw [if_neg hd]
      rfl
/-- As many seats as cells. -/
theorem Gr.seats_cells (g : Gr) : sumK g.sl g.sl.length = cntS (g.seat false) g.n + cntS (g.seat true) g.n := by
  rw [sumK_tot, ← Gr.cnt_seatK false _ (Nat.le_refl _), ← Gr.cnt_seatK true _ (Nat.le_refl _)]
  rw [show g.seatK false g.sl.length 0 = g.seat false from funext fun i => g.seatK_all false i, show g.seatK true g.sl.length 0 = g.seat true from funext fun i => g.seatK_all true i]
theorem sumK_le {L : List Sl} (h : ∀ (k : Nat) (s : Sl), L[k]? = some s → s.cs.length ≤ 257) : ∀ k, sumK L k ≤ 257 * k := by
  intro k
  induction k with
  | zero => exact Nat.le_refl _
  | succ k ih =>
    simp only [sumK]
    cases hk : L[k]? with
    | none => simp only; omega
    | some s => have := h k s hk; simp only; omega
end Go.Proofs.YtilokjcbkhhifaaDoor.Grd
