/-
  Of no program: a grid's slots, crossings and lone cells as counts over its rows and columns.
-/
import Derived.Test.YthjgldjjplcncabDoorStm
namespace Go.Proofs.YthjgldjjplcncabDoor.Grd

theorem Gr.fg_E {g : Gr} {r c : Nat} (hr : r < g.H) (hc : c < g.W) : (g.st (r * g.W + c) 0).isSome = g.fg.E r c := by
  have hn : r * g.W + c < g.n := Grd.at_lt hr hc
  have e1 : (r * g.W + c) % g.W = c := at_mod hc
  unfold Gr.st Gr.opn
  rw [decide_eq_true hn, Bool.true_and, e1]
  unfold Fg.E Gr.fg
  dsimp only
  by_cases h : c + 1 < g.W
  · have h2 : c < g.W - 1 := by omega
    simp only [hr, hc, h, h2, and_self, decide_true, Bool.true_and, true_and]
    rw [show r * g.W + (c + 1) = r * g.W + c + 1 by omega]
    cases bt g.B (r * g.W + c) <;> cases bt g.R (r * g.W + c) <;> cases bt g.B (r * g.W + c + 1) <;> rfl
  · have h2 : ¬ c < g.W - 1 := by omega
    simp only [h, h2, and_false, decide_false, Bool.false_and, false_and, if_false]
    cases bt g.B (r * g.W + c) <;> rfl
theorem Gr.fg_S {g : Gr} {r c : Nat} (hr : r < g.H) (hc : c < g.W) : (g.st (r * g.W + c) 1).isSome = g.fg.S r c := by
  have hn : r * g.W + c < g.n := Grd.at_lt hr hc
  have e1 : (r * g.W + c) / g.W = r := at_div hc
  unfold Gr.st Gr.opn
  rw [decide_eq_true hn, Bool.true_and, e1]
  unfold Fg.S Gr.fg
  dsimp only
  by_cases h : r + 1 < g.H
  · have h2 : r < g.H - 1 := by omega
    simp only [hr, hc, h, h2, and_self, decide_true, Bool.true_and, true_and]
    rw [show (r + 1) * g.W + c = r * g.W + c + g.W by rw [Nat.succ_mul]; omega]
    cases bt g.B (r * g.W + c) <;> cases bt g.D (r * g.W + c) <;> cases bt g.B (r * g.W + c + g.W) <;> rfl
  · have h2 : ¬ r < g.H - 1 := by omega
    simp only [h, h2, false_and, decide_false, Bool.false_and, if_false]
    cases bt g.B (r * g.W + c) <;> rfl
theorem Gr.fg_El {g : Gr} {r c : Nat} (hr : r < g.H) (hc : c < g.W) : (g.st (r * g.W + c) 2).isSome = g.fg.El r c := by
  have hW : 0 < g.W := by omega
  unfold Fg.El
  by_cases h : 0 < c
  · rw [decide_eq_true h, Bool.true_and, ← Gr.fg_E hr (show c - 1 < g.W by omega)]
    exact (Gr.back_iff hW (d := 0) (by omega) (by show r * g.W + (c - 1) + 1 = _; omega)).symm
  · obtain rfl : c = 0 := by omega
    simp only [Nat.lt_irrefl, decide_false, Bool.false_and]
    cases hs : g.st (r * g.W + 0) 2 with
    | none => rfl
    | some j =>
      have ho := Gr.st_opn hs
      rw [Gr.st2 ho, Nat.add_zero, Nat.mul_mod_left] at hs
      simp at hs
theorem Gr.fg_Su {g : Gr} {r c : Nat} (hr : r < g.H) (hc : c < g.W) : (g.st (r * g.W + c) 3).isSome = g.fg.Su r c := by
  have hW : 0 < g.W := by omega
  unfold Fg.Su
  by_cases h : 0 < r
  · rw [decide_eq_true h, Bool.true_and, ← Gr.fg_S (show r - 1 < g.H by omega) hc]
    refine (Gr.back_iff hW (d := 1) (by omega) ?_).symm
    show (r - 1) * g.W + c + g.W = _
    obtain ⟨q, rfl⟩ : ∃ q, r = q + 1 := ⟨r - 1, by omega⟩
    rw [Nat.add_sub_cancel, Nat.succ_mul]
    omega
  · obtain rfl : r = 0 := by omega
    simp only [Nat.lt_irrefl, decide_false, Bool.false_and]
    rw [Gr.back_none (d := 1) (by omega) (by show 0 * g.W + c < g.W; omega)]
    rfl
theorem Gr.cnt_st {g : Gr} (f : Bool → Bool → Bool → Bool → Bool → Bool) : sumN g.n (fun i => b2 (f (bt g.B i) (g.st i 0).isSome (g.st i 2).isSome (g.st i 1).isSome (g.st i 3).isSome)) = g.fg.cnt f := by
  unfold Gr.n Fg.cnt
  rw [sumN_mul]
  show _ = sumN g.H _
  refine sumN_congr fun r hr => ?_
  show _ = sumN g.W _
  refine sumN_congr fun c hc => ?_
  rw [Gr.fg_E hr hc, Gr.fg_El hr hc, Gr.fg_S hr hc, Gr.fg_Su hr hc]
  congr 2
  unfold Gr.fg
  simp [hr, hc]
theorem filter_sum (p : Nat → Bool) (m : Nat) : ((List.range m).filter p).length = sumN m (fun i => b2 (p i)) := by
  induction m with
  | zero => rfl
  | succ m ih =>
    rw [List.range_succ, List.filter_append, List.length_append, ih]
    simp only [sumN]
    congr 1
    cases h : p m <;> simp [h, b2]
theorem Gr.crK_fg {g : Gr} (hok : g.ok) : g.crK g.n = g.fg.nX := by
  unfold Gr.crK Fg.nX
  rw [filter_sum, ← Gr.cnt_st]
  refine sumN_congr fun i _ => ?_
  unfold Gr.isX
  rw [Gr.seat_steps hok, Gr.seat_steps hok]
  rfl
theorem Gr.loK_fg {g : Gr} (hok : g.ok) : (g.loK g.n).length = g.fg.nL := by
  unfold Gr.loK Fg.nL
  rw [filter_sum, ← Gr.cnt_st]
  refine sumN_congr fun i _ => ?_
  unfold Gr.isLone
  rw [Gr.seat_steps hok, Gr.seat_steps hok]
  rfl
/-- The slots across, and those down, among the first k. -/
def upL (dn : Bool) (L : List Sl) : Nat := (L.filter fun s => s.dn == dn).length
theorem Gr.slTo_up (g : Gr) (dn : Bool) (i : Nat) : upL dn (g.slTo i) = sumN i (fun i => b2 (g.beg (way dn) i)) := by
  induction i with
  | zero => rfl
  | succ i ih =>
    unfold upL at ih ⊢
    simp only [Gr.slTo, sumN, List.filter_append, List.length_append]
    rw [ih]
    congr 1
    unfold Gr.slAt
    cases dn with
    | false => cases h0 : g.beg 0 i <;> cases h1 : g.beg 1 i <;> simp [way, b2, h0]
    | true => cases h0 : g.beg 0 i <;> cases h1 : g.beg 1 i <;> simp [way, b2, h1]
theorem Gr.up_fg {g : Gr} (hok : g.ok) : upL false g.sl = g.fg.nA ∧ upL true g.sl = g.fg.nD := by
  have e : g.sl = g.slTo g.n := by unfold Gr.sl; rw [if_pos hok]
  rw [e, Gr.slTo_up, Gr.slTo_up]
  unfold Fg.nA Fg.nD
  rw [← Gr.cnt_st, ← Gr.cnt_st]
  constructor
  · refine sumN_congr fun i _ => ?_
    unfold Gr.beg
    show b2 ((g.st i 2).isNone && (g.st i 0).isSome) = _
    cases g.st i 2 <;> cases g.st i 0 <;> rfl
  · refine sumN_congr fun i _ => ?_
    unfold Gr.beg
    show b2 ((g.st i 3).isNone && (g.st i 1).isSome) = _
    cases g.st i 3 <;> cases g.st i 1 <;> rfl
theorem up_len (L : List Sl) : L.length = upL false L + upL true L := by
  unfold upL
  induction L with
  | nil => rfl
  | cons s r ih => cases hd : s.dn <;> simp [hd, ih] <;> omega
theorem Gr.ok_of_right {g : Gr} (hr : g.Right) : g.ok := by
  refine Gr.chk_ok ⟨⟨?_, ?_⟩, ?_, ?_⟩ ⟨hr.bl, hr.rl, hr.dl⟩ ?_
  · have := hr.sh; omega
  · have := hr.sh; omega
  · have := hr.sw; omega
  · have := hr.sw; omega
  · rintro ⟨i, hi, h | h⟩
    · exact hr.nr i hi h
    · exact hr.nd i hi h
theorem Gr.turn_fg (g : Gr) (k : Nat) : (g.turn k).fg = g.fg.turn k := Fg.gr_fg (Fg.norm_turn g.fg_norm k)
/-- A TURNED GRID HAS AS MANY. -/
theorem Gr.turn_counts {g : Gr} (hok : g.ok) (k : Nat) : (g.turn k).sl.length = g.sl.length ∧ (g.turn k).crK (g.turn k).m = g.crK g.m ∧ ((g.turn k).loK (g.turn k).m).length = (g.loK g.m).length := by
  have hT := Gr.ok_of_right (Gr.turn_right (Gr.right_of hok) k)
  have m1 : g.m = g.n := if_pos hok
  have m2 : (g.turn k).m = (g.turn k).n := if_pos hT
  obtain ⟨h1, h2, h3⟩ := Fg.all_turn g.fg k
  refine ⟨?_, ?_, ?_⟩
  · rw [up_len, up_len, (Gr.up_fg hok).1, (Gr.up_fg hok).2, (Gr.up_fg hT).1, (Gr.up_fg hT).2, Gr.turn_fg]
    exact h3
  · rw [m1, m2, Gr.crK_fg hok, Gr.crK_fg hT, Gr.turn_fg]; exact h1
  · rw [m1, m2, Gr.loK_fg hok, Gr.loK_fg hT, Gr.turn_fg]; exact h2
/-- Mirrored along the diagonal, across is down. -/
theorem Gr.turn_seven {g : Gr} (hok : g.ok) : upL false (g.turn 7).sl = upL true g.sl ∧ upL true (g.turn 7).sl = upL false g.sl := by
  have hT := Gr.ok_of_right (Gr.turn_right (Gr.right_of hok) 7)
  obtain ⟨h1, h2⟩ := Fg.turn_seven g.fg
  rw [(Gr.up_fg hok).1, (Gr.up_fg hok).2, (Gr.up_fg hT).1, (Gr.up_fg hT).2, Gr.turn_fg]
  exact ⟨h1, h2⟩
end Go.Proofs.YthjgldjjplcncabDoor.Grd
