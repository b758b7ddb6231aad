/-
  Grids as lists and as functions (layer 6), as mathematics: there and back; a turned grid is right.
-/
import Derived.Test.YthjgldjjplcncabDoorTrnp
namespace Go.Proofs.YthjgldjjplcncabDoor.Grd

theorem at_lt {h w r c : Nat} (hr : r < h) (hc : c < w) : r * w + c < h * w :=
  Nat.lt_of_lt_of_le (Nat.add_lt_add_left hc _) (by rw [← Nat.succ_mul]; exact Nat.mul_le_mul_right _ hr)
theorem at_div {w r c : Nat} (hc : c < w) : (r * w + c) / w = r := by
  rw [Nat.mul_comm, Nat.mul_add_div (by omega), Nat.div_eq_of_lt hc, Nat.add_zero]
theorem at_mod {w r c : Nat} (hc : c < w) : (r * w + c) % w = c := by
  rw [Nat.mul_comm, Nat.mul_add_mod, Nat.mod_eq_of_lt hc]
theorem at_back (w i : Nat) : i / w * w + i % w = i := by rw [Nat.mul_comm]; exact Nat.div_add_mod i w
theorem div_in {h w i : Nat} (hi : i < h * w) : i / w < h ∧ i % w < w := by
  have hw : 0 < w := by
    rcases Nat.eq_zero_or_pos w with e | e
    · subst e; omega
    · exact e
  exact ⟨(Nat.div_lt_iff_lt_mul hw).2 hi, Nat.mod_lt _ hw⟩

/-- A grid's functions. -/
def Gr.fg (g : Gr) : Fg where
  H := g.H
  W := g.W
  B := fun r c => decide (r < g.H ∧ c < g.W) && bt g.B (r * g.W + c)
  R := fun r c => decide (r < g.H ∧ c + 1 < g.W) && bt g.R (r * g.W + c)
  D := fun r c => decide (r + 1 < g.H ∧ c < g.W) && bt g.D (r * g.W + c)
/-- A grid of functions. -/
def Fg.gr (G : Fg) : Gr where
  h := G.H
  w := G.W
  B := (List.range (G.H * G.W)).map fun i => G.B (i / G.W) (i % G.W)
  R := (List.range (G.H * G.W)).map fun i => G.R (i / G.W) (i % G.W)
  D := (List.range (G.H * G.W)).map fun i => G.D (i / G.W) (i % G.W)
theorem Gr.fg_norm (g : Gr) : g.fg.Norm := by
  constructor <;> intro r c h <;> simp [Gr.fg] at h ⊢ <;> omega
theorem Fg.gr_H (G : Fg) : G.gr.H = G.H := Int.toNat_natCast _
theorem Fg.gr_W (G : Fg) : G.gr.W = G.W := Int.toNat_natCast _
theorem Fg.gr_n (G : Fg) : G.gr.n = G.H * G.W := by unfold Gr.n; rw [G.gr_H, G.gr_W]
theorem bt_map {n : Nat} {f : Nat → Bool} {i : Nat} (h : i < n) : bt ((List.range n).map f) i = f i := by
  unfold bt
  rw [List.getElem?_map, List.getElem?_range h]
  rfl
theorem Fg.gr_fg {G : Fg} (hG : G.Norm) : G.gr.fg = G := by
  refine Fg.ext G.gr_H G.gr_W ?_ ?_ ?_
  · funext r c
    refine band_n (fun h => by rw [G.gr_H, G.gr_W]; exact hG.b r c h) fun h => ?_
    rw [G.gr_H, G.gr_W] at h
    rw [G.gr_W]
    show bt ((List.range (G.H * G.W)).map _) _ = _
    rw [bt_map (at_lt h.1 h.2), at_div h.2, at_mod h.2]
  · funext r c
    refine band_n (fun h => by rw [G.gr_H, G.gr_W]; exact hG.r r c h) fun h => ?_
    rw [G.gr_H, G.gr_W] at h
    have h2 : c < G.W := by omega
    rw [G.gr_W]
    show bt ((List.range (G.H * G.W)).map _) _ = _
    rw [bt_map (at_lt h.1 h2), at_div h2, at_mod h2]
  · funext r c
    refine band_n (fun h => by rw [G.gr_H, G.gr_W]; exact hG.d r c h) fun h => ?_
    rw [G.gr_H, G.gr_W] at h
    have h1 : r < G.H := by omega
    rw [G.gr_W]
    show bt ((List.range (G.H * G.W)).map _) _ = _
    rw [bt_map (at_lt h1 h.2), at_div h.2, at_mod h.2]
theorem list_map {l : List Bool} {n : Nat} {f : Nat → Bool} (hl : l.length = n) (h : ∀ i, i < n → f i = bt l i) : (List.range n).map f = l := by
  apply List.ext_getElem
  · simpa using hl.symm
  · intro i h1 h2
    have hi : i < n := by omega
    rw [List.getElem_map, List.getElem_range, h i hi, bt_in h2]
theorem Gr.ext' {g g' : Gr} (h1 : g.h = g'.h) (h2 : g.w = g'.w) (h3 : g.B = g'.B) (h4 : g.R = g'.R) (h5 : g.D = g'.D) : g = g' := by
  cases g; cases g'
  simp only at h1 h2 h3 h4 h5
  subst h1; subst h2; subst h3; subst h4; subst h5
  rfl
/-- There and back. -/
theorem Gr.fg_gr {g : Gr} (hr : g.Right) : g.fg.gr = g := by
  refine Gr.ext' hr.sh.2.2 hr.sw.2.2 ?_ ?_ ?_
  · refine list_map hr.bl fun i hi => ?_
    obtain ⟨h1, h2⟩ := div_in (h := g.H) (w := g.W) hi
    exact band_t ⟨h1, h2⟩ (by show bt g.B (i / g.W * g.W + i % g.W) = _; rw [at_back])
  · refine list_map hr.rl fun i hi => ?_
    obtain ⟨h1, h2⟩ := div_in (h := g.H) (w := g.W) hi
    refine band_n (fun h => ⟨h1, ?_⟩) fun _ => by show bt g.R (i / g.W * g.W + i % g.W) = _; rw [at_back]
    have hn := hr.nr i hi
    unfold Gr.badR at hn
    have : ¬ i % g.W = g.W - 1 := fun e => hn ⟨h, .inr (.inl e)⟩
    show i % g.W + 1 < g.W
    omega
  · refine list_map hr.dl fun i hi => ?_
    obtain ⟨h1, h2⟩ := div_in (h := g.H) (w := g.W) hi
    refine band_n (fun h => ⟨?_, h2⟩) fun _ => by show bt g.D (i / g.W * g.W + i % g.W) = _; rw [at_back]
    have hn := hr.nd i hi
    unfold Gr.badD at hn
    have : ¬ i / g.W = g.H - 1 := fun e => hn ⟨h, .inr (.inl e)⟩
    show i / g.W + 1 < g.H
    clear h hn hi
    generalize i / g.W = x at *
    omega

/-- No bar stands at a block. -/
structure Fg.Bars (G : Fg) : Prop where
  r : ∀ r c, G.R r c = true → G.B r c = false ∧ G.B r (c + 1) = false
  d : ∀ r c, G.D r c = true → G.B r c = false ∧ G.B (r + 1) c = false
theorem band_true {p : Prop} [Decidable p] {x : Bool} (h : (decide p && x) = true) : p ∧ x = true := by
  rw [Bool.and_eq_true] at h
  exact ⟨of_decide_eq_true h.1, h.2⟩
theorem band_false {p : Prop} [Decidable p] {x : Bool} (h : x = false) : (decide p && x) = false := by rw [h, Bool.and_false]
theorem Fg.bars_q {G : Fg} (hG : G.Bars) : G.q.Bars := by
  constructor
  · intro r c h
    obtain ⟨hp, hx⟩ := band_true h
    obtain ⟨h1, h2⟩ := hG.d _ _ hx
    refine ⟨band_false ?_, band_false ?_⟩
    · rw [show G.H - 1 - c = G.H - 2 - c + 1 by omega]; exact h2
    · rw [show G.H - 1 - (c + 1) = G.H - 2 - c by omega]; exact h1
  · intro r c h
    obtain ⟨hp, hx⟩ := band_true h
    obtain ⟨h1, h2⟩ := hG.r _ _ hx
    exact ⟨band_false h1, band_false h2⟩
theorem Fg.bars_m {G : Fg} (hG : G.Bars) : G.m.Bars := by
  constructor
  · intro r c h
    obtain ⟨hp, hx⟩ := band_true h
    obtain ⟨h1, h2⟩ := hG.r _ _ hx
    refine ⟨band_false ?_, band_false ?_⟩
    · rw [show G.W - 1 - c = G.W - 2 - c + 1 by omega]; exact h2
    · rw [show G.W - 1 - (c + 1) = G.W - 2 - c by omega]; exact h1
  · intro r c h
    obtain ⟨hp, hx⟩ := band_true h
    obtain ⟨h1, h2⟩ := hG.d _ _ hx
    exact ⟨band_false h1, band_false h2⟩
theorem Fg.bars_qs {G : Fg} (hG : G.Bars) : ∀ n, (G.qs n).Bars
  | 0 => hG
  | n + 1 => Fg.bars_q (Fg.bars_qs hG n)
theorem Fg.bars_turn {G : Fg} (hG : G.Bars) (k : Nat) : (G.turn k).Bars := by
  unfold Fg.turn
  by_cases h : 3 < k
  · rw [if_pos h]; exact Fg.bars_qs (Fg.bars_m hG) _
  · rw [if_neg h]; exact Fg.bars_qs hG _
theorem Fg.qs_hw (G : Fg) : ∀ n, (G.qs n).H = (if n % 2 = 1 then G.W else G.H) ∧ (G.qs n).W = (if n % 2 = 1 then G.H else G.W)
  | 0 => ⟨rfl, rfl⟩
  | n + 1 => by
    obtain ⟨h1, h2⟩ := Fg.qs_hw G n
    show (G.qs n).W = _ ∧ (G.qs n).H = _
    rw [h1, h2]
    by_cases e : n % 2 = 1
    · have e' : ¬ (n + 1) % 2 = 1 := by omega
      simp only [e, e', if_true, if_false, and_self]
    · have e' : (n + 1) % 2 = 1 := by omega
      simp only [e, e', if_true, if_false, and_self]
theorem Fg.turn_hw (G : Fg) (k : Nat) : (G.turn k).H = (if k % 2 = 1 then G.W else G.H) ∧ (G.turn k).W = (if k % 2 = 1 then G.H else G.W) := by
  have e : k % 4 % 2 = k % 2 := by omega
  have h := Fg.qs_hw (if 3 < k then G.m else G) (k % 4)
  rw [e] at h
  unfold Fg.turn
  by_cases hk : 3 < k
  · simp only [if_pos hk] at h ⊢; exact h
  · simp only [if_neg hk] at h ⊢; exact h
theorem Gr.fg_bars {g : Gr} (hr : g.Right) : g.fg.Bars := by
  constructor
  · intro r c h
    obtain ⟨hp, hx⟩ := band_true h
    have hn := hr.nr _ (show r * g.W + c < g.n from at_lt hp.1 (by omega))
    unfold Gr.badR at hn
    refine ⟨band_false ?_, band_false ?_⟩
    · exact Bool.eq_false_iff.2 fun e => hn ⟨hx, .inl e⟩
    · exact Bool.eq_false_iff.2 fun e => hn ⟨hx, .inr (.inr e)⟩
  · intro r c h
    obtain ⟨hp, hx⟩ := band_true h
    have hn := hr.nd _ (show r * g.W + c < g.n from at_lt (by omega) hp.2)
    unfold Gr.badD at hn
    refine ⟨band_false ?_, band_false ?_⟩
    · exact Bool.eq_false_iff.2 fun e => hn ⟨hx, .inl e⟩
    · refine Bool.eq_false_iff.2 fun e => hn ⟨hx, .inr (.inr ?_)⟩
      rw [show r * g.W + c + g.W = (r + 1) * g.W + c by rw [Nat.succ_mul]; omega]; exact e
/-- Functions that are right make a right grid. -/
theorem Fg.gr_right {G : Fg} (hG : G.Norm) (hB : G.Bars) (hH : 1 ≤ G.H ∧ G.H ≤ 16) (hW : 1 ≤ G.W ∧ G.W ≤ 16) : G.gr.Right where
  sh := by rw [G.gr_H]; exact ⟨hH.1, hH.2, rfl⟩
  sw := by rw [G.gr_W]; exact ⟨hW.1, hW.2, rfl⟩
  bl := by rw [G.gr_n]; show (List.map _ _).length = _; simp
  rl := by rw [G.gr_n]; show (List.map _ _).length = _; simp
  dl := by rw [G.gr_n]; show (List.map _ _).length = _; simp
  nr := fun i hi hb => by
    rw [G.gr_n] at hi
    unfold Gr.badR at hb
    rw [G.gr_W] at hb
    obtain ⟨h1, h2⟩ := hb
    have h1' : G.R (i / G.W) (i % G.W) = true := (bt_map hi).symm.trans h1
    have hin := hG.r _ _ h1'
    obtain ⟨b1, b2⟩ := hB.r _ _ h1'
    have hi' : i + 1 < G.H * G.W := by
      have := at_lt (h := G.H) (w := G.W) hin.1 hin.2
      have e := at_back G.W i
      omega
    rcases h2 with h2 | h2 | h2
    · rw [(bt_map hi).symm.trans h2] at b1; cases b1
    · omega
    · have e1 : (i + 1) / G.W = i / G.W := by
        have e := at_div (w := G.W) (r := i / G.W) (c := i % G.W + 1) hin.2
        rwa [← Nat.add_assoc, at_back] at e
      have e2 : (i + 1) % G.W = i % G.W + 1 := by
        have e := at_mod (w := G.W) (r := i / G.W) (c := i % G.W + 1) hin.2
        rwa [← Nat.add_assoc, at_back] at e
      have h3 : G.B ((i + 1) / G.W) ((i + 1) % G.W) = true := (bt_map hi').symm.trans h2
      rw [e1, e2, b2] at h3; cases h3
  nd := fun i hi hb => by
    rw [G.gr_n] at hi
    unfold Gr.badD at hb
    rw [G.gr_W, G.gr_H] at hb
    obtain ⟨h1, h2⟩ := hb
    have h1' : G.D (i / G.W) (i % G.W) = true := (bt_map hi).symm.trans h1
    have hin := hG.d _ _ h1'
    obtain ⟨b1, b2⟩ := hB.d _ _ h1'
    have e0 : (i / G.W + 1) * G.W + i % G.W = i + G.W := by
      have e := at_back G.W i
      rw [Nat.succ_mul]; omega
    have hi' : i + G.W < G.H * G.W := by
      have := at_lt (h := G.H) (w := G.W) hin.1 hin.2
      omega
    rcases h2 with h2 | h2 | h2
    · rw [(bt_map hi).symm.trans h2] at b1; cases b1
    · omega
    · have e1 : (i + G.W) / G.W = i / G.W + 1 := by rw [← e0]; exact at_div hin.2
      have e2 : (i + G.W) % G.W = i % G.W := by rw [← e0]; exact at_mod hin.2
      have h3 : G.B ((i + G.W) / G.W) ((i + G.W) % G.W) = true := (bt_map hi').symm.trans h2
      rw [e1, e2, b2] at h3; cases h3
/-- A GRID TURNED. -/
def Gr.turn (g : Gr) (k : Nat) : Gr := (g.fg.turn k).gr
theorem Gr.turn_right {g : Gr} (hr : g.Right) (k : Nat) : (g.turn k).Right := by
  obtain ⟨h1, h2⟩ := Fg.turn_hw g.fg k
  have a := hr.sh
  have b := hr.sw
  refine Fg.gr_right (Fg.norm_turn g.fg_norm k) (Fg.bars_turn (Gr.fg_bars hr) k) ?_ ?_
  · rw [h1]
    by_cases e : k % 2 = 1
    · rw [if_pos e]; exact ⟨b.1, b.2.1⟩
    · rw [if_neg e]; exact ⟨a.1, a.2.1⟩
  · rw [h2]
    by_cases e : k % 2 = 1
    · rw [if_pos e]; exact ⟨a.1, a.2.1⟩
    · rw [if_neg e]; exact ⟨b.1, b.2.1⟩
theorem Gr.turn_turn {g : Gr} {a b : Nat} (ha : a < 8) (hb : b < 8) : (g.turn a).turn b = g.turn (thn a b) := by
  unfold Gr.turn
  rw [Fg.gr_fg (Fg.norm_turn g.fg_norm a), Fg.turn_turn g.fg_norm ha hb]
theorem Gr.turn_zero {g : Gr} (hr : g.Right) : g.turn 0 = g := Gr.fg_gr hr
theorem Gr.turn_back {g : Gr} (hr : g.Right) {a : Nat} (ha : a < 8) : (g.turn a).turn (bck a) = g := by
  rw [Gr.turn_turn ha (bck_lt a ha), (thn_zero a ha).2.2.1, Gr.turn_zero hr]
end Go.Proofs.YthjgldjjplcncabDoor.Grd
