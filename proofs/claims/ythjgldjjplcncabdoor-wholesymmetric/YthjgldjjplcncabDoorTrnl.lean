/-
  A grid turned, laid cell by cell (layer 6), as mathematics: the end is the turned grid.
-/
import Derived.Test.YthjgldjjplcncabDoorTrnk
namespace Go.Proofs.YthjgldjjplcncabDoor.Grd

theorem Gr.turn_sides (g : Gr) (k : Nat) : (g.fg.turn k).H = g.th k ∧ (g.fg.turn k).W = g.tw k := Fg.turn_hw g.fg k
theorem Gr.fg_b {g : Gr} {i : Nat} (hi : i < g.n) : g.fg.B (g.cel i).r (g.cel i).c = bt g.B i := by
  obtain ⟨h1, h2⟩ := div_in (h := g.H) (w := g.W) hi
  exact band_t ⟨h1, h2⟩ (by show bt g.B (i / g.W * g.W + i % g.W) = _; rw [at_back])
/-- The bar between a cell and the one at its right. -/
theorem Gr.bar_right {g : Gr} (_hr : g.Right) {i : Nat} (hi : i < g.n) (hc : i % g.W + 1 < g.W) : (g.cel i).By (g.cel (i + 1)) ∧ g.fg.bar (g.cel i) (g.cel (i + 1)) = bt g.R i := by
  obtain ⟨h1, h2⟩ := div_in (h := g.H) (w := g.W) hi
  obtain ⟨e1, e2⟩ := succ_mod (i := i) (W := g.W) (by omega)
  have er : (g.cel i).r = (g.cel (i + 1)).r := e2.symm
  refine ⟨.inl ⟨er, .inl e1.symm⟩, ?_⟩
  unfold Fg.bar
  rw [if_pos er]
  have em : min (g.cel i).c (g.cel (i + 1)).c = i % g.W := by
    show min (i % g.W) ((i + 1) % g.W) = _
    rw [e1]; omega
  rw [em]
  exact band_t (show i / g.W < g.H ∧ i % g.W + 1 < g.W from ⟨h1, hc⟩) (by show bt g.R (i / g.W * g.W + i % g.W) = _; rw [at_back])
theorem Gr.bar_below {g : Gr} (hr : g.Right) {i : Nat} (hi : i < g.n) (hc : i / g.W + 1 < g.H) : (g.cel i).By (g.cel (i + g.W)) ∧ g.fg.bar (g.cel i) (g.cel (i + g.W)) = bt g.D i := by
  obtain ⟨h1, h2⟩ := div_in (h := g.H) (w := g.W) hi
  have hw := hr.sw.1
  have e1 : (i + g.W) % g.W = i % g.W := Nat.add_mod_right _ _
  have e2 : (i + g.W) / g.W = i / g.W + 1 := Nat.add_div_right _ (by omega)
  have ec : (g.cel i).c = (g.cel (i + g.W)).c := e1.symm
  refine ⟨.inr ⟨ec, .inl e2.symm⟩, ?_⟩
  unfold Fg.bar
  have hn : ¬ (g.cel i).r = (g.cel (i + g.W)).r := by
    show ¬ i / g.W = (i + g.W) / g.W
    rw [e2]; omega
  rw [if_neg hn]
  have em : min (g.cel i).r (g.cel (i + g.W)).r = i / g.W := by
    show min (i / g.W) ((i + g.W) / g.W) = _
    rw [e2]; omega
  rw [em]
  exact band_t (show i / g.W + 1 < g.H ∧ i % g.W < g.W from ⟨hc, h2⟩) (by show bt g.D (i / g.W * g.W + i % g.W) = _; rw [at_back])
theorem min_row {w r c c' : Nat} : min (r * w + c) (r * w + c') = r * w + min c c' := by omega
theorem min_col {w r r' c : Nat} : min (r * w + c) (r' * w + c) = min r r' * w + c := by
  by_cases h : r ≤ r'
  · have := Nat.mul_le_mul_right w h
    rw [Nat.min_eq_left h]; omega
  · have h' : r' ≤ r := by omega
    have := Nat.mul_le_mul_right w h'
    rw [Nat.min_eq_right h']; omega
/-- The bar between two cells side by side, at its place in the turned grid. -/
theorem Gr.bar_at {g : Gr} {x y k : Nat} (hx : x < g.n) (hy : y < g.n) (hb : (g.cel x).By (g.cel y)) :
    (g.to k x / g.tw k = g.to k y / g.tw k → (g.fg.turn k).R (min (g.to k x) (g.to k y) / g.tw k) (min (g.to k x) (g.to k y) % g.tw k) = g.fg.bar (g.cel x) (g.cel y)) ∧
    (¬ g.to k x / g.tw k = g.to k y / g.tw k → (g.fg.turn k).D (min (g.to k x) (g.to k y) / g.tw k) (min (g.to k x) (g.to k y) % g.tw k) = g.fg.bar (g.cel x) (g.cel y)) := by
  obtain ⟨_, _, _, h4⟩ := Fg.go_turn (Gr.cel_of hx) (Gr.cel_of hy) k
  obtain ⟨hby, hbar⟩ := h4 hb
  have c1 := Gr.turn_c hx k
  have c2 := Gr.turn_c hy k
  rw [Gr.to_div hx, Gr.to_div hy, g.to_eq k x, g.to_eq k y]
  rw [← hbar]
  unfold Fg.bar
  generalize (g.cel x).turn k = P at *
  generalize (g.cel y).turn k = Q at *
  constructor
  · intro e
    rw [if_pos e, ← e, min_row, at_div (by omega), at_mod (by omega)]
  · intro e
    rcases hby with ⟨e', _⟩ | ⟨e', _⟩
    · exact absurd e' e
    · rw [if_neg e, ← e', min_col, at_div (by omega), at_mod (by omega)]
theorem Fg.bar_comm {G : Fg} {P Q : Pl} (h : P.r = Q.r ∨ P.c = Q.c) : G.bar Q P = G.bar P Q := by
  unfold Fg.bar
  by_cases e : P.r = Q.r
  · rw [if_pos e, if_pos e.symm, e, Nat.min_comm]
  · rcases h with h | h
    · exact absurd h e
    · rw [if_neg e, if_neg (fun h => e h.symm), h, Nat.min_comm]
/-- Cells whose turned ones stand side by side stand side by side; a bar between them is one of the grid's. -/
theorem Gr.bar_from {g : Gr} (hr : g.Right) {x y k : Nat} (hk : k < 8) (hx : x < g.n) (hy : y < g.n) (hb : ((g.cel x).turn k).By ((g.cel y).turn k)) (hbar : (g.fg.turn k).bar ((g.cel x).turn k) ((g.cel y).turn k) = true) :
    g.Em k g.n (g.to k x) (g.to k y) ∨ g.Em k g.n (g.to k y) (g.to k x) := by
  have o1 := (Fg.go_turn (Gr.cel_of hx) (Gr.cel_of hy) k).1
  have o2 := (Fg.go_turn (Gr.cel_of hx) (Gr.cel_of hy) k).2.1
  obtain ⟨_, _, _, h4⟩ := Fg.go_turn o1 o2 (bck k)
  obtain ⟨hby, hbr⟩ := h4 hb
  rw [Fg.turn_back g.fg_norm hk, Pl.turn_back (Fg.Of.inn (Gr.cel_of hx)) hk, Pl.turn_back (Fg.Of.inn (Gr.cel_of hy)) hk] at hbr
  rw [Pl.turn_back (Fg.Of.inn (Gr.cel_of hx)) hk, Pl.turn_back (Fg.Of.inn (Gr.cel_of hy)) hk] at hby
  rw [hbar] at hbr
  have hw := hr.sw.1
  have bx := at_back g.W x
  have b2 := at_back g.W y
  obtain ⟨x1, x2⟩ := div_in (h := g.H) (w := g.W) hx
  obtain ⟨y1, y2⟩ := div_in (h := g.H) (w := g.W) hy
  rcases hby with ⟨e, hc | hc⟩ | ⟨e, hc | hc⟩
  · have e' : x / g.W = y / g.W := e
    have hc' : x % g.W + 1 = y % g.W := hc
    have he : y = x + 1 := by rw [← e'] at b2; omega
    subst he
    obtain ⟨_, h2⟩ := Gr.bar_right hr hx (by omega)
    exact .inl ⟨x, hx, rfl, .inl ⟨h2.symm.trans hbr, rfl⟩⟩
  · have e' : x / g.W = y / g.W := e
    have hc' : y % g.W + 1 = x % g.W := hc
    have he : x = y + 1 := by rw [← e'] at b2; omega
    subst he
    obtain ⟨_, h2⟩ := Gr.bar_right hr hy (by omega)
    refine .inr ⟨y, hy, rfl, .inl ⟨h2.symm.trans ?_, rfl⟩⟩
    rw [Fg.bar_comm (.inl e)]; exact hbr
  · have e' : x % g.W = y % g.W := e
    have hc' : x / g.W + 1 = y / g.W := hc
    have he : y = x + g.W := by rw [← hc', Nat.succ_mul] at b2; omega
    subst he
    obtain ⟨_, h2⟩ := Gr.bar_below hr hx (by omega)
    exact .inl ⟨x, hx, rfl, .inr ⟨h2.symm.trans hbr, rfl⟩⟩
  · have e' : x % g.W = y % g.W := e
    have hc' : y / g.W + 1 = x / g.W := hc
    have he : x = y + g.W := by rw [← hc', Nat.succ_mul] at bx; omega
    subst he
    obtain ⟨_, h2⟩ := Gr.bar_below hr hy (by omega)
    refine .inr ⟨y, hy, rfl, .inr ⟨h2.symm.trans ?_, rfl⟩⟩
    rw [Fg.bar_comm (.inr e)]; exact hbr
theorem Gr.stg_r {g : Gr} (hr : g.Right) {k : Nat} (hk : k < 8) {Bs Rs Ds : List Bool} (h : g.Stg k g.n Bs Rs Ds) {j : Nat} (hj : j < g.n) : bt Rs j = (g.fg.turn k).R (j / g.tw k) (j % g.tw k) := by
  apply Bool.eq_iff_iff.2
  rw [h.r j hj]
  have hnorm := Fg.norm_turn g.fg_norm k
  constructor
  · rintro ⟨x, y, ⟨i, hi, rfl, hc⟩, hs, rfl⟩
    rcases hc with ⟨hb, rfl⟩ | ⟨hb, rfl⟩
    · obtain ⟨q1, q2⟩ := Gr.right_in hr hi hb
      obtain ⟨b1, b2⟩ := Gr.bar_right hr hi q1
      rw [(Gr.bar_at hi q2 b1).1 hs, b2, hb]
    · obtain ⟨q1, q2⟩ := Gr.below_in hr hi hb
      obtain ⟨b1, b2⟩ := Gr.bar_below hr hi q1
      rw [(Gr.bar_at hi q2 b1).1 hs, b2, hb]
  · intro ht
    obtain ⟨n1, n2⟩ := hnorm.r _ _ ht
    rw [(g.turn_sides k).1] at n1
    rw [(g.turn_sides k).2] at n2
    have hj' : j < g.th k * g.tw k := by rw [g.th_tw]; exact hj
    have hjr := right_lt hj' (show j % g.tw k < g.tw k - 1 by omega)
    rw [g.th_tw] at hjr
    obtain ⟨s1, s2⟩ := succ_mod (i := j) (W := g.tw k) (by omega)
    obtain ⟨x, hx, ex⟩ := Gr.from hj hk
    obtain ⟨y, hy, ey⟩ := Gr.from hjr hk
    have x1 := Gr.to_div hx k
    have x2 := Gr.to_mod hx k
    have y1 := Gr.to_div hy k
    have y2 := Gr.to_mod hy k
    rw [ex] at x1 x2
    rw [ey] at y1 y2
    rw [s2] at y1
    rw [s1] at y2
    have hby : ((g.cel x).turn k).By ((g.cel y).turn k) := .inl ⟨by omega, .inl (by omega)⟩
    have hbar : (g.fg.turn k).bar ((g.cel x).turn k) ((g.cel y).turn k) = true := by
      unfold Fg.bar
      rw [if_pos (by omega), ← x1, ← x2, ← y2, Nat.min_eq_left (by omega)]
      exact ht
    rcases Gr.bar_from hr hk hx hy hby hbar with he | he
    · rw [ex, ey] at he
      exact ⟨j, j + 1, he, s2.symm, by omega⟩
    · rw [ex, ey] at he
      exact ⟨j + 1, j, he, s2, by omega⟩
theorem Gr.stg_d {g : Gr} (hr : g.Right) {k : Nat} (hk : k < 8) {Bs Rs Ds : List Bool} (h : g.Stg k g.n Bs Rs Ds) {j : Nat} (hj : j < g.n) : bt Ds j = (g.fg.turn k).D (j / g.tw k) (j % g.tw k) := by
  apply Bool.eq_iff_iff.2
  rw [h.d j hj]
  have hnorm := Fg.norm_turn g.fg_norm k
  have hw : 0 < g.tw k := by
    have a := hr.sh.1
    have b := hr.sw.1
    unfold Gr.tw
    by_cases e : k % 2 = 1
    · rw [if_pos e]; omega
    · rw [if_neg e]; omega
  constructor
  · rintro ⟨x, y, ⟨i, hi, rfl, hc⟩, hs, rfl⟩
    rcases hc with ⟨hb, rfl⟩ | ⟨hb, rfl⟩
    · obtain ⟨q1, q2⟩ := Gr.right_in hr hi hb
      obtain ⟨b1, b2⟩ := Gr.bar_right hr hi q1
      rw [(Gr.bar_at hi q2 b1).2 hs, b2, hb]
    · obtain ⟨q1, q2⟩ := Gr.below_in hr hi hb
      obtain ⟨b1, b2⟩ := Gr.bar_below hr hi q1
      rw [(Gr.bar_at hi q2 b1).2 hs, b2, hb]
  · intro ht
    obtain ⟨n1, n2⟩ := hnorm.d _ _ ht
    rw [(g.turn_sides k).1] at n1
    rw [(g.turn_sides k).2] at n2
    have hjr := down_lt (i := j) (W := g.tw k) (H := g.th k) (by omega) hw
    rw [g.th_tw] at hjr
    have s1 : (j + g.tw k) % g.tw k = j % g.tw k := Nat.add_mod_right _ _
    have s2 : (j + g.tw k) / g.tw k = j / g.tw k + 1 := Nat.add_div_right _ hw
    obtain ⟨x, hx, ex⟩ := Gr.from hj hk
    obtain ⟨y, hy, ey⟩ := Gr.from hjr hk
    have x1 := Gr.to_div hx k
    have x2 := Gr.to_mod hx k
    have y1 := Gr.to_div hy k
    have y2 := Gr.to_mod hy k
    rw [ex] at x1 x2
    rw [ey] at y1 y2
    rw [s2] at y1
    rw [s1] at y2
    have hby : ((g.cel x).turn k).By ((g.cel y).turn k) := .inr ⟨by omega, .inl (by omega)⟩
    have hbar : (g.fg.turn k).bar ((g.cel x).turn k) ((g.cel y).turn k) = true := by
      unfold Fg.bar
      rw [if_neg (by omega), ← x1, ← x2, ← y1, Nat.min_eq_left (by omega)]
      exact ht
    rcases Gr.bar_from hr hk hx hy hby hbar with he | he
    · rw [ex, ey] at he
      exact ⟨j, j + g.tw k, he, by omega, by omega⟩
    · rw [ex, ey] at he
      exact ⟨j + g.tw k, j, he, by omega, by omega⟩
theorem Gr.stg_b {g : Gr} {k : Nat} (hk : k < 8) {Bs Rs Ds : List Bool} (h : g.Stg k g.n Bs Rs Ds) {j : Nat} (hj : j < g.n) : bt Bs j = (g.fg.turn k).B (j / g.tw k) (j % g.tw k) := by
  apply Bool.eq_iff_iff.2
  rw [h.b j hj]
  have key : ∀ x, x < g.n → (g.fg.turn k).B (g.to k x / g.tw k) (g.to k x % g.tw k) = bt g.B x := fun x hx => by
    rw [Gr.to_div hx, Gr.to_mod hx, (Fg.go_turn (Gr.cel_of hx) (Gr.cel_of hx) k).2.2.1, Gr.fg_b hx]
  constructor
  · rintro ⟨i, hi, rfl, hb⟩
    rw [key i hi, hb]
  · intro ht
    obtain ⟨x, hx, rfl⟩ := Gr.from hj hk
    rw [key x hx] at ht
    exact ⟨x, hx, rfl, ht⟩
theorem Gr.turn_n (g : Gr) (k : Nat) : (g.turn k).n = g.n := by
  show (g.fg.turn k).gr.n = _
  rw [Fg.gr_n, (g.turn_sides k).1, (g.turn_sides k).2, g.th_tw]
/-- ALL CELLS LAID: the turned grid. -/
theorem Gr.stg_end {g : Gr} (hr : g.Right) {k : Nat} (hk : k < 8) {Bs Rs Ds : List Bool} (h : g.Stg k g.n Bs Rs Ds) : Bs = (g.turn k).B ∧ Rs = (g.turn k).R ∧ Ds = (g.turn k).D := by
  have hN : (g.fg.turn k).H * (g.fg.turn k).W = g.n := by rw [(g.turn_sides k).1, (g.turn_sides k).2, g.th_tw]
  refine ⟨(list_map (h.bl.trans hN.symm) fun i hi => ?_).symm, (list_map (h.rl.trans hN.symm) fun i hi => ?_).symm, (list_map (h.dl.trans hN.symm) fun i hi => ?_).symm⟩
  · rw [(g.turn_sides k).2]; exact (Gr.stg_b hk h (by omega)).symm
  · rw [(g.turn_sides k).2]; exact (Gr.stg_r hr hk h (by omega)).symm
  · rw [(g.turn_sides k).2]; exact (Gr.stg_d hr hk h (by omega)).symm
theorem Gr.turn_hw (g : Gr) (k : Nat) : (g.turn k).h = (g.th k : Nat) ∧ (g.turn k).w = (g.tw k : Nat) := by
  show ((g.fg.turn k).H : Int) = _ ∧ ((g.fg.turn k).W : Int) = _
  rw [(g.turn_sides k).1, (g.turn_sides k).2]
  exact ⟨rfl, rfl⟩
end Go.Proofs.YthjgldjjplcncabDoor.Grd
