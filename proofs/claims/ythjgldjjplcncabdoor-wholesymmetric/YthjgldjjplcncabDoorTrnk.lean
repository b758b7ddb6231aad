/-
  A grid turned, laid cell by cell (layer 6), as mathematics: what lies in the three lists behind each cell, and that the end is the turned grid.
-/
import Derived.Test.YthjgldjjplcncabDoorTrna
namespace Go.Proofs.YthjgldjjplcncabDoor.Grd

/-- The columns behind a turn. -/
def Gr.tw (g : Gr) (k : Nat) : Nat := if k % 2 = 1 then g.H else g.W
def Gr.th (g : Gr) (k : Nat) : Nat := if k % 2 = 1 then g.W else g.H
theorem Gr.th_tw (g : Gr) (k : Nat) : g.th k * g.tw k = g.n := by
  unfold Gr.th Gr.tw Gr.n
  by_cases e : k % 2 = 1
  · rw [if_pos e, if_pos e, Nat.mul_comm]
  · rw [if_neg e, if_neg e]
/-- Where a cell goes. -/
def Gr.to (g : Gr) (k i : Nat) : Nat := plc g.H g.W i k
theorem Gr.to_lt {g : Gr} {i : Nat} (hi : i < g.n) (k : Nat) : g.to k i < g.n := plc_lt hi k
/-- A cell by its number. -/
def Gr.cel (g : Gr) (i : Nat) : Pl := ⟨g.H, g.W, i / g.W, i % g.W⟩
theorem Gr.cel_of {g : Gr} {i : Nat} (hi : i < g.n) : g.fg.Of (g.cel i) := ⟨rfl, rfl, (div_in (h := g.H) (w := g.W) hi).1, (div_in (h := g.H) (w := g.W) hi).2⟩
theorem Gr.cel_turn (g : Gr) (k i : Nat) : (g.cel i).turn k = tpl g.H g.W i k := rfl
theorem Gr.turn_w (g : Gr) (k i : Nat) : ((g.cel i).turn k).w = g.tw k := (Pl.turn_hw (g.cel i) k).2
theorem Gr.turn_h (g : Gr) (k i : Nat) : ((g.cel i).turn k).h = g.th k := (Pl.turn_hw (g.cel i) k).1
theorem Gr.to_eq (g : Gr) (k i : Nat) : g.to k i = ((g.cel i).turn k).r * g.tw k + ((g.cel i).turn k).c := by
  rw [← g.turn_w k i]; rfl
theorem Gr.turn_c {g : Gr} {i : Nat} (hi : i < g.n) (k : Nat) : ((g.cel i).turn k).c < g.tw k := by
  rw [← g.turn_w k i]; exact (Pl.in_turn (Fg.Of.inn (Gr.cel_of hi)) k).2
theorem Gr.turn_r {g : Gr} {i : Nat} (hi : i < g.n) (k : Nat) : ((g.cel i).turn k).r < g.th k := by
  rw [← g.turn_h k i]; exact (Pl.in_turn (Fg.Of.inn (Gr.cel_of hi)) k).1
theorem Gr.to_div {g : Gr} {i : Nat} (hi : i < g.n) (k : Nat) : g.to k i / g.tw k = ((g.cel i).turn k).r := by
  rw [g.to_eq]; exact at_div (Gr.turn_c hi k)
theorem Gr.to_mod {g : Gr} {i : Nat} (hi : i < g.n) (k : Nat) : g.to k i % g.tw k = ((g.cel i).turn k).c := by
  rw [g.to_eq]; exact at_mod (Gr.turn_c hi k)
theorem Gr.to_inj {g : Gr} {i j k : Nat} (hi : i < g.n) (hj : j < g.n) (hk : k < 8) (h : g.to k i = g.to k j) : i = j := plc_inj hi hj hk h
/-- Each cell of the turned grid comes from one. -/
theorem Gr.from {g : Gr} {j k : Nat} (hj : j < g.n) (hk : k < 8) : ∃ i, i < g.n ∧ g.to k i = j := by
  have hj' : j < g.th k * g.tw k := by rw [g.th_tw]; exact hj
  obtain ⟨h1, h2⟩ := div_in hj'
  have hin : (Pl.mk (g.th k) (g.tw k) (j / g.tw k) (j % g.tw k)).In := ⟨h1, h2⟩
  have hb := bck_lt k hk
  obtain ⟨e1, e2⟩ := Pl.turn_hw (Pl.mk (g.th k) (g.tw k) (j / g.tw k) (j % g.tw k)) (bck k)
  have hpar : bck k % 2 = k % 2 := by
    unfold bck
    by_cases h : k < 4
    · rw [if_pos h]; omega
    · rw [if_neg h]
  have eh : ((Pl.mk (g.th k) (g.tw k) (j / g.tw k) (j % g.tw k)).turn (bck k)).h = g.H := by
    rw [e1, hpar]
    unfold Gr.th Gr.tw
    by_cases e : k % 2 = 1
    · simp only [if_pos e]
    · simp only [if_neg e]
  have ew : ((Pl.mk (g.th k) (g.tw k) (j / g.tw k) (j % g.tw k)).turn (bck k)).w = g.W := by
    rw [e2, hpar]
    unfold Gr.th Gr.tw
    by_cases e : k % 2 = 1
    · simp only [if_pos e]
    · simp only [if_neg e]
  have hQ := Pl.in_turn hin (bck k)
  have hback : ((Pl.mk (g.th k) (g.tw k) (j / g.tw k) (j % g.tw k)).turn (bck k)).turn k = Pl.mk (g.th k) (g.tw k) (j / g.tw k) (j % g.tw k) := by
    rw [Pl.turn_turn hin hb hk, (thn_zero k hk).2.2.2]; rfl
  generalize (Pl.mk (g.th k) (g.tw k) (j / g.tw k) (j % g.tw k)).turn (bck k) = Q at *
  obtain ⟨q1, q2⟩ := hQ
  rw [eh] at q1
  rw [ew] at q2
  refine ⟨Q.r * g.W + Q.c, at_lt q1 q2, ?_⟩
  have eQ : g.cel (Q.r * g.W + Q.c) = Q := Pl.ext eh.symm ew.symm (at_div q2) (at_mod q2)
  rw [g.to_eq, eQ, hback]
  exact at_back _ _

/-- The lists hold these blocks and these bars. -/
structure Sg (n w : Nat) (C : Nat → Prop) (E : Nat → Nat → Prop) (Bs Rs Ds : List Bool) : Prop where
  bl : Bs.length = n
  rl : Rs.length = n
  dl : Ds.length = n
  b : ∀ j, j < n → (bt Bs j = true ↔ C j)
  r : ∀ j, j < n → (bt Rs j = true ↔ ∃ x y, E x y ∧ x / w = y / w ∧ min x y = j)
  d : ∀ j, j < n → (bt Ds j = true ↔ ∃ x y, E x y ∧ ¬ x / w = y / w ∧ min x y = j)
theorem bt_set_eq {l : List Bool} {i : Nat} (h : i < l.length) (v : Bool) : bt (l.set i v) i = v := by simp [bt, h]
theorem bt_set_ne {l : List Bool} {i j : Nat} (h : i ≠ j) (v : Bool) : bt (l.set i v) j = bt l j := by simp [bt, h]
theorem Sg.congr {n w : Nat} {C C' : Nat → Prop} {E E' : Nat → Nat → Prop} {Bs Rs Ds : List Bool} (h : Sg n w C E Bs Rs Ds) (hC : ∀ j, C j ↔ C' j) (hE : ∀ x y, E x y ↔ E' x y) : Sg n w C' E' Bs Rs Ds :=
  ⟨h.bl, h.rl, h.dl, fun j hj => (h.b j hj).trans (hC j), fun j hj => (h.r j hj).trans ⟨fun ⟨x, y, a, b⟩ => ⟨x, y, (hE x y).1 a, b⟩, fun ⟨x, y, a, b⟩ => ⟨x, y, (hE x y).2 a, b⟩⟩, fun j hj => (h.d j hj).trans ⟨fun ⟨x, y, a, b⟩ => ⟨x, y, (hE x y).1 a, b⟩, fun ⟨x, y, a, b⟩ => ⟨x, y, (hE x y).2 a, b⟩⟩⟩
theorem Sg.block {n w : Nat} {C : Nat → Prop} {E : Nat → Nat → Prop} {Bs Rs Ds : List Bool} (h : Sg n w C E Bs Rs Ds) {a : Nat} (ha : a < n) (hn : ¬ C a) (v : Bool) : Sg n w (fun j => C j ∨ (j = a ∧ v = true)) E (Bs.set a v) Rs Ds := by
  refine ⟨by rw [List.length_set]; exact h.bl, h.rl, h.dl, fun j hj => ?_, h.r, h.d⟩
  by_cases e : a = j
  · subst e
    rw [bt_set_eq (by rw [h.bl]; exact ha)]
    constructor
    · intro hv; exact .inr ⟨rfl, hv⟩
    · rintro (hc | ⟨_, hv⟩)
      · exact absurd hc hn
      · exact hv
  · rw [bt_set_ne e, h.b j hj]
    constructor
    · intro hc; exact .inl hc
    · rintro (hc | ⟨he, _⟩)
      · exact hc
      · exact absurd he.symm e
def setR (w a b : Nat) (l : List Bool) : List Bool := if a / w = b / w then l.set (min a b) true else l
def setD (w a b : Nat) (l : List Bool) : List Bool := if a / w = b / w then l else l.set (min a b) true
theorem Sg.bar {n w : Nat} {C : Nat → Prop} {E : Nat → Nat → Prop} {Bs Rs Ds : List Bool} (h : Sg n w C E Bs Rs Ds) {a b : Nat} (ha : a < n) (hb : b < n) : Sg n w C (fun x y => E x y ∨ (x = a ∧ y = b)) Bs (setR w a b Rs) (setD w a b Ds) := by
  have hm : min a b < n := by omega
  unfold setR setD
  by_cases e : a / w = b / w
  · rw [if_pos e, if_pos e]
    refine ⟨h.bl, by rw [List.length_set]; exact h.rl, h.dl, h.b, fun j hj => ?_, fun j hj => ?_⟩
    · by_cases ej : min a b = j
      · constructor
        · intro _; exact ⟨a, b, .inr ⟨rfl, rfl⟩, e, ej⟩
        · intro _; rw [← ej, bt_set_eq (by rw [h.rl]; exact hm)]
      · rw [bt_set_ne ej, h.r j hj]
        constructor
        · rintro ⟨x, y, h1, h2⟩; exact ⟨x, y, .inl h1, h2⟩
        · rintro ⟨x, y, h1 | ⟨rfl, rfl⟩, h2⟩
          · exact ⟨x, y, h1, h2⟩
          · exact absurd h2.2 ej
    · rw [h.d j hj]
      constructor
      · rintro ⟨x, y, h1, h2⟩; exact ⟨x, y, .inl h1, h2⟩
      · rintro ⟨x, y, h1 | ⟨rfl, rfl⟩, h2⟩
        · exact ⟨x, y, h1, h2⟩
        · exact absurd e h2.1
  · rw [if_neg e, if_neg e]
    refine ⟨h.bl, h.rl, by rw [List.length_set]; exact h.dl, h.b, fun j hj => ?_, fun j hj => ?_⟩
    · rw [h.r j hj]
      constructor
      · rintro ⟨x, y, h1, h2⟩; exact ⟨x, y, .inl h1, h2⟩
      · rintro ⟨x, y, h1 | ⟨rfl, rfl⟩, h2⟩
        · exact ⟨x, y, h1, h2⟩
        · exact absurd h2.1 e
    · by_cases ej : min a b = j
      · constructor
        · intro _; exact ⟨a, b, .inr ⟨rfl, rfl⟩, e, ej⟩
        · intro _; rw [← ej, bt_set_eq (by rw [h.dl]; exact hm)]
      · rw [bt_set_ne ej, h.d j hj]
        constructor
        · rintro ⟨x, y, h1, h2⟩; exact ⟨x, y, .inl h1, h2⟩
        · rintro ⟨x, y, h1 | ⟨rfl, rfl⟩, h2⟩
          · exact ⟨x, y, h1, h2⟩
          · exact absurd h2.2 ej

/-- The blocks and bars of the first m cells, turned. -/
def Gr.Cm (g : Gr) (k m : Nat) (j : Nat) : Prop := ∃ i, i < m ∧ g.to k i = j ∧ bt g.B i = true
def Gr.Em (g : Gr) (k m : Nat) (x y : Nat) : Prop := ∃ i, i < m ∧ x = g.to k i ∧ ((bt g.R i = true ∧ y = g.to k (i + 1)) ∨ (bt g.D i = true ∧ y = g.to k (i + g.W)))
def Gr.Stg (g : Gr) (k m : Nat) (Bs Rs Ds : List Bool) : Prop := Sg g.n (g.tw k) (g.Cm k m) (g.Em k m) Bs Rs Ds
theorem bt_rep (n j : Nat) : bt (List.replicate n false) j = false := by
  unfold bt
  by_cases h : j < n
  · rw [List.getElem?_replicate]; simp [h]
  · rw [List.getElem?_replicate]; simp [h]
theorem Gr.stg_zero (g : Gr) (k : Nat) : g.Stg k 0 (List.replicate g.n false) (List.replicate g.n false) (List.replicate g.n false) := by
  refine ⟨by simp, by simp, by simp, fun j _ => ?_, fun j _ => ?_, fun j _ => ?_⟩
  · rw [bt_rep]
    exact ⟨fun h => (Bool.false_ne_true h).elim, fun ⟨i, hi, _⟩ => absurd hi (Nat.not_lt_zero i)⟩
  · rw [bt_rep]
    exact ⟨fun h => (Bool.false_ne_true h).elim, fun ⟨x, y, ⟨i, hi, _⟩, _⟩ => absurd hi (Nat.not_lt_zero i)⟩
  · rw [bt_rep]
    exact ⟨fun h => (Bool.false_ne_true h).elim, fun ⟨x, y, ⟨i, hi, _⟩, _⟩ => absurd hi (Nat.not_lt_zero i)⟩
theorem Gr.right_in {g : Gr} (hr : g.Right) {i : Nat} (hi : i < g.n) (h : bt g.R i = true) : i % g.W + 1 < g.W ∧ i + 1 < g.n := by
  have hn := hr.nr i hi
  unfold Gr.badR at hn
  have h1 : ¬ i % g.W = g.W - 1 := fun e => hn ⟨h, .inr (.inl e)⟩
  have h2 : i % g.W < g.W := Nat.mod_lt _ (by have := hr.sw.1; omega)
  exact ⟨by omega, right_lt (H := g.H) (W := g.W) hi (by omega)⟩
theorem Gr.below_in {g : Gr} (hr : g.Right) {i : Nat} (hi : i < g.n) (h : bt g.D i = true) : i / g.W + 1 < g.H ∧ i + g.W < g.n := by
  have hn := hr.nd i hi
  unfold Gr.badD at hn
  have h1 : ¬ i / g.W = g.H - 1 := fun e => hn ⟨h, .inr (.inl e)⟩
  have h2 : i / g.W < g.H := row_lt hi
  have hs := hr.sh.1
  have h3 : i / g.W < g.H - 1 := by omega
  exact ⟨by omega, down_lt (H := g.H) (W := g.W) h3 (by have := hr.sw.1; omega)⟩
def ifR (c : Bool) (w a b : Nat) (l : List Bool) : List Bool := if c then setR w a b l else l
def ifD (c : Bool) (w a b : Nat) (l : List Bool) : List Bool := if c then setD w a b l else l
theorem Sg.ifbar {n w : Nat} {C : Nat → Prop} {E : Nat → Nat → Prop} {Bs Rs Ds : List Bool} (h : Sg n w C E Bs Rs Ds) (c : Bool) {a b : Nat} (ha : c = true → a < n ∧ b < n) : Sg n w C (fun x y => E x y ∨ (c = true ∧ x = a ∧ y = b)) Bs (ifR c w a b Rs) (ifD c w a b Ds) := by
  cases c with
  | true => exact (h.bar (ha rfl).1 (ha rfl).2).congr (fun _ => Iff.rfl) fun x y => by simp
  | false => exact h.congr (fun _ => Iff.rfl) fun x y => by simp
/-- ONE CELL MORE. -/
theorem Gr.stg_next {g : Gr} (hr : g.Right) {k m : Nat} (hk : k < 8) (hm : m < g.n) {Bs Rs Ds : List Bool} (h : g.Stg k m Bs Rs Ds) :
    g.Stg k (m + 1) (Bs.set (g.to k m) (bt g.B m)) (ifR (bt g.D m) (g.tw k) (g.to k m) (g.to k (m + g.W)) (ifR (bt g.R m) (g.tw k) (g.to k m) (g.to k (m + 1)) Rs)) (ifD (bt g.D m) (g.tw k) (g.to k m) (g.to k (m + g.W)) (ifD (bt g.R m) (g.tw k) (g.to k m) (g.to k (m + 1)) Ds)) := by
  have hnc : ¬ g.Cm k m (g.to k m) := fun ⟨i, hi, he, _⟩ => by
    have := Gr.to_inj (by omega) hm hk he
    omega
  have h1 := Sg.block h (Gr.to_lt hm k) hnc (bt g.B m)
  have h2 := h1.ifbar (bt g.R m) (a := g.to k m) (b := g.to k (m + 1)) (fun e => ⟨Gr.to_lt hm k, Gr.to_lt (Gr.right_in hr hm e).2 k⟩)
  have h3 := h2.ifbar (bt g.D m) (a := g.to k m) (b := g.to k (m + g.W)) (fun e => ⟨Gr.to_lt hm k, Gr.to_lt (Gr.below_in hr hm e).2 k⟩)
  refine h3.congr (fun j => ?_) (fun x y => ?_)
  · constructor
    · rintro (⟨i, hi, he, hb⟩ | ⟨he, hb⟩)
      · exact ⟨i, by omega, he, hb⟩
      · exact ⟨m, by omega, he.symm, hb⟩
    · rintro ⟨i, hi, he, hb⟩
      by_cases e : i = m
      · subst e; exact .inr ⟨he.symm, hb⟩
      · exact .inl ⟨i, by omega, he, hb⟩
  · constructor
    · rintro ((⟨i, hi, he⟩ | ⟨hb, hx, hy⟩) | ⟨hb, hx, hy⟩)
      · exact ⟨i, by omega, he⟩
      · exact ⟨m, by omega, hx, .inl ⟨hb, hy⟩⟩
      · exact ⟨m, by omega, hx, .inr ⟨hb, hy⟩⟩
    · rintro ⟨i, hi, hx, hc⟩
      by_cases e : i = m
      · subst e
        rcases hc with ⟨hb, hy⟩ | ⟨hb, hy⟩
        · exact .inl (.inr ⟨hb, hx, hy⟩)
        · exact .inr ⟨hb, hx, hy⟩
      · exact .inl (.inl ⟨i, by omega, hx, hc⟩)
end Go.Proofs.YthjgldjjplcncabDoor.Grd
