/-
  Of no program: the seats of cells.
-/
import Derived.Test.YthjgldjjplcncabDoorSlm
namespace Go.Proofs.YthjgldjjplcncabDoor.Grd

/-- A number's place in a list, counted from k on. -/
def ixOf (i : Nat) : List Nat → Nat → Option Nat
  | [], _ => none
  | c :: r, k => if c = i then some k else ixOf i r (k + 1)
/-- The seat of a cell: the first slot of the direction that has it, and the place there. -/
def seatL (dn : Bool) (i : Nat) : List Sl → Nat → Option (Nat × Nat)
  | [], _ => none
  | s :: r, k => match (if s.dn = dn then ixOf i s.cs 0 else none) with
    | some a => some (k, a)
    | none => seatL dn i r (k + 1)
/-- The cell stands in the slot n, at the place a. -/
def At (L : List Sl) (dn : Bool) (i n a : Nat) : Prop := ∃ s, L[n]? = some s ∧ s.dn = dn ∧ s.cs[a]? = some i
theorem ixOf_some {i : Nat} : ∀ {l : List Nat} {k a : Nat}, ixOf i l k = some a → ∃ m, a = k + m ∧ l[m]? = some i
  | [], _, _, h => by cases h
  | c :: r, k, a, h => by
    unfold ixOf at h
    by_cases hc : c = i
    · rw [if_pos hc] at h
      cases h
      exact ⟨0, rfl, by simp [hc]⟩
    · rw [if_neg hc] at h
      obtain ⟨m, h1, h2⟩ := ixOf_some h
      exact ⟨m + 1, by omega, by simpa using h2⟩
theorem ixOf_none {i : Nat} : ∀ {l : List Nat} {k : Nat}, ixOf i l k = none → ∀ m : Nat, l[m]? ≠ some i
  | [], _, _, m => by simp
  | c :: r, k, h, m => by
    unfold ixOf at h
    by_cases hc : c = i
    · rw [if_pos hc] at h; cases h
    · rw [if_neg hc] at h
      cases m with
      | zero => simpa using hc
      | succ m => simpa using ixOf_none h m
theorem seatL_some {dn : Bool} {i : Nat} : ∀ {L : List Sl} {k n a : Nat}, seatL dn i L k = some (n, a) → ∃ m, n = k + m ∧ At L dn i m a
  | [], _, _, _, h => by cases h
  | s :: r, k, n, a, h => by
    unfold seatL at h
    by_cases hd : s.dn = dn
    · rw [if_pos hd] at h
      cases hx : ixOf i s.cs 0 with
      | some b =>
        rw [hx] at h
        cases h
        obtain ⟨m, h1, h2⟩ := ixOf_some hx
        exact ⟨0, rfl, s, rfl, hd, by rw [h1, Nat.zero_add]; exact h2⟩
      | none =>
        rw [hx] at h
        obtain ⟨m, h1, t, h2, h3⟩ := seatL_some h
        exact ⟨m + 1, by omega, t, by simpa using h2, h3⟩
    · rw [if_neg hd] at h
      obtain ⟨m, h1, t, h2, h3⟩ := seatL_some h
      exact ⟨m + 1, by omega, t, by simpa using h2, h3⟩
theorem seatL_none {dn : Bool} {i : Nat} : ∀ {L : List Sl} {k : Nat}, seatL dn i L k = none → ∀ n a, ¬ At L dn i n a
  | [], _, _, n, a => by rintro ⟨s, h, _⟩; simp at h
  | s :: r, k, h, n, a => by
    rintro ⟨t, h1, h2, h3⟩
    unfold seatL at h
    cases n with
    | zero =>
      simp only [List.getElem?_cons_zero, Option.some.injEq] at h1
      subst h1
      rw [if_pos h2] at h
      cases hx : ixOf i s.cs 0 with
      | some b => rw [hx] at h; cases h
      | none => exact ixOf_none hx a h3
    | succ n =>
      have h' : seatL dn i r (k + 1) = none := by
        revert h
        split
        · intro h; cases h
        · exact id
      exact seatL_none h' n a ⟨t, by simpa using h1, h2, h3⟩

theorem Gr.run_same {g : Gr} (hW : 0 < g.W) {d : Nat} (hd : d < 2) : ∀ (a a' b b' i : Nat), (g.run d b)[a]? = some i → (g.run d b')[a']? = some i → g.st b (d + 2) = none → g.st b' (d + 2) = none → a = a' ∧ b = b' := by
  have back : ∀ (a b i : Nat), (g.run d b)[a + 1]? = some i → ∃ c, (g.run d b)[a]? = some c ∧ g.st i (d + 2) = some c := fun a b i h => by
    have hl := (List.getElem?_eq_some_iff.1 h).1
    have hk : a < (g.run d b).length := by omega
    have e : (g.run d b)[a]? = some ((g.run d b)[a]'hk) := List.getElem?_eq_getElem hk
    refine ⟨_, e, ?_⟩
    have := Gr.st_back hW ((Gr.run_chain hW hd e).trans h)
    rwa [Nat.mod_eq_of_lt (by omega)] at this
  intro a
  induction a with
  | zero =>
    intro a' b b' i h h' n n'
    rw [Gr.run_head] at h
    cases h
    cases a' with
    | zero => rw [Gr.run_head] at h'; cases h'; exact ⟨rfl, rfl⟩
    | succ a' =>
      obtain ⟨c, _, hc⟩ := back a' b' b h'
      rw [n] at hc; cases hc
  | succ a ih =>
    intro a' b b' i h h' n n'
    obtain ⟨c, hc1, hc2⟩ := back a b i h
    cases a' with
    | zero =>
      rw [Gr.run_head] at h'
      cases h'
      rw [n'] at hc2; cases hc2
    | succ a' =>
      obtain ⟨c', hc1', hc2'⟩ := back a' b' i h'
      rw [hc2] at hc2'
      cases hc2'
      obtain ⟨e1, e2⟩ := ih a' b b' c hc1 hc1' n n'
      exact ⟨by omega, e2⟩
theorem Gr.sl_two (g : Gr) (i : Nat) (hi : i ≤ g.n) : (g.slTo i).Pairwise fun s t => ¬ (s.dn = t.dn ∧ s.cs[0]? = t.cs[0]?) := by
  induction i with
  | zero => exact List.Pairwise.nil
  | succ i ih =>
    simp only [Gr.slTo]
    rw [List.pairwise_append]
    refine ⟨ih (by omega), ?_, ?_⟩
    · unfold Gr.slAt
      cases g.beg 0 i <;> cases g.beg 1 i <;> simp
    · intro s hs t ht ⟨_, e⟩
      obtain ⟨k, hk, hsl, _⟩ := Gr.mem_slTo (by omega) hs
      obtain ⟨htl, _⟩ := Gr.mem_slAt (by omega) ht
      rw [hsl.first.1, htl.first.1] at e
      cases e
      omega
/-- A cell has one seat of a direction at most. -/
theorem Gr.at_unique {g : Gr} {dn : Bool} {i n a n' a' : Nat} (h : At g.sl dn i n a) (h' : At g.sl dn i n' a') : n = n' ∧ a = a' := by
  obtain ⟨s, h1, rfl, h3⟩ := h
  obtain ⟨t, h1', h2', h3'⟩ := h'
  obtain ⟨hok, b, hb, hs⟩ := Gr.mem_sl (List.mem_of_getElem? h1)
  obtain ⟨_, b', hb', ht⟩ := Gr.mem_sl (List.mem_of_getElem? h1')
  have hW := (Gr.right_of hok).sw.1
  rw [hs.cs] at h3
  rw [ht.cs, h2'] at h3'
  have f := hs.first
  have f' := ht.first
  rw [h2'] at f'
  obtain ⟨e1, e2⟩ := Gr.run_same hW (way_lt _) a a' b b' i h3 h3' f.2 f'.2
  refine ⟨?_, e1⟩
  have hp := g.sl_two g.n (Nat.le_refl _)
  have e : g.sl = g.slTo g.n := by unfold Gr.sl; rw [if_pos hok]
  rw [← e, List.pairwise_iff_getElem] at hp
  obtain ⟨l1, rfl⟩ := List.getElem?_eq_some_iff.1 h1
  obtain ⟨l2, rfl⟩ := List.getElem?_eq_some_iff.1 h1'
  have k1 : g.sl[n].cs[0]? = g.sl[n'].cs[0]? := by rw [f.1, f'.1, e2]
  rcases Nat.lt_trichotomy n n' with hl | hl | hl
  · exact absurd ⟨h2'.symm, k1⟩ (hp n n' l1 l2 hl)
  · exact hl
  · exact absurd ⟨h2', k1.symm⟩ (hp n' n l2 l1 hl)
/-- The seat of a cell. -/
def Gr.seat (g : Gr) (dn : Bool) (i : Nat) : Option (Nat × Nat) := seatL dn i g.sl 0
theorem Gr.seat_iff {g : Gr} {dn : Bool} {i n a : Nat} : g.seat dn i = some (n, a) ↔ At g.sl dn i n a := by
  constructor
  · intro h
    obtain ⟨m, h1, h2⟩ := seatL_some h
    rw [h1, Nat.zero_add]
    exact h2
  · intro h
    cases hx : g.seat dn i with
    | none => exact absurd h (seatL_none hx n a)
    | some p =>
      obtain ⟨x, y⟩ := p
      obtain ⟨m, h1, h2⟩ := seatL_some hx
      obtain ⟨e1, e2⟩ := Gr.at_unique h h2
      rw [h1, Nat.zero_add, ← e1, ← e2]
theorem Gr.sl_end {g : Gr} (hok : g.ok) {d : Bool} {b : Nat} (hb : b < g.n) (hs : g.beg (way d) b = true) : ∃ n, At g.sl d b n 0 := by
  have hm : ∀ i, b < i → ∃ s, s ∈ g.slTo i ∧ s.dn = d ∧ s.cs = g.run (way d) b := by
    intro i
    induction i with
    | zero => intro h; omega
    | succ i ih =>
      intro h
      simp only [Gr.slTo, List.mem_append]
      by_cases hi : b < i
      · obtain ⟨s, h1, h2⟩ := ih hi
        exact ⟨s, .inl h1, h2⟩
      · obtain rfl : b = i := by omega
        cases d with
        | false =>
          simp only [way, Bool.false_eq_true, if_false] at hs ⊢
          exact ⟨⟨g.numTo (b + 1), false, g.run 0 b⟩, .inr (by unfold Gr.slAt; rw [if_pos hs]; simp), rfl, rfl⟩
        | true =>
          simp only [way, if_true] at hs ⊢
          exact ⟨⟨g.numTo (b + 1), true, g.run 1 b⟩, .inr (by unfold Gr.slAt; rw [if_pos hs]; simp), rfl, rfl⟩
  obtain ⟨s, h1, h2, h3⟩ := hm g.n hb
  have e : g.sl = g.slTo g.n := by unfold Gr.sl; rw [if_pos hok]
  rw [← e] at h1
  obtain ⟨n, hn, rfl⟩ := List.mem_iff_getElem.1 h1
  exact ⟨n, g.sl[n], List.getElem?_eq_getElem hn, h2, by rw [h3, Gr.run_head]⟩
/-- A cell that a step of a direction leaves or reaches has a seat there. -/
theorem Gr.at_exists {g : Gr} (hok : g.ok) (d : Bool) : ∀ i, ((g.st i (way d)).isSome = true ∨ (g.st i (way d + 2)).isSome = true) → ∃ n a, At g.sl d i n a := by
  have hW := (Gr.right_of hok).sw.1
  have hd := way_lt d
  intro i
  induction i using Nat.strongRecOn with
  | _ i ih =>
    intro h
    cases hb : g.st i (way d + 2) with
    | some j =>
      have hs := Gr.st_back hW hb
      rw [show (way d + 2 + 2) % 4 = way d by omega] at hs
      have hlt := (Gr.st_up hW hd hs).1
      obtain ⟨n, a, s, h1, h2, h3⟩ := ih j hlt (.inl (by rw [hs]; rfl))
      refine ⟨n, a + 1, s, h1, h2, ?_⟩
      obtain ⟨_, b, _, hsl⟩ := Gr.mem_sl (List.mem_of_getElem? h1)
      rw [hsl.cs, h2] at h3 ⊢
      rw [← Gr.run_chain hW hd h3, hs]
    | none =>
      rw [hb] at h
      have h1 : (g.st i (way d)).isSome = true := by simpa using h
      obtain ⟨j, hj⟩ := Option.isSome_iff_exists.1 h1
      obtain ⟨n, hn⟩ := Gr.sl_end hok (Gr.opn_iff.1 (Gr.st_opn hj)).1 (d := d) (by unfold Gr.beg; rw [hb, h1]; rfl)
      exact ⟨n, 0, hn⟩
theorem Gr.at_steps {g : Gr} {d : Bool} {i n a : Nat} (h : At g.sl d i n a) : (g.st i (way d)).isSome = true ∨ (g.st i (way d + 2)).isSome = true := by
  obtain ⟨s, h1, rfl, h3⟩ := h
  obtain ⟨hok, b, hb, hs⟩ := Gr.mem_sl (List.mem_of_getElem? h1)
  have hW := (Gr.right_of hok).sw.1
  rw [hs.cs] at h3
  cases a with
  | zero =>
    left
    rw [Gr.run_head] at h3
    cases h3
    have := hs.beg
    unfold Gr.beg at this
    simp only [Bool.and_eq_true] at this
    exact this.2
  | succ a =>
    right
    have hl := (List.getElem?_eq_some_iff.1 h3).1
    have hk : a < (g.run (way s.dn) b).length := by omega
    have e : (g.run (way s.dn) b)[a]? = some ((g.run (way s.dn) b)[a]'hk) := List.getElem?_eq_getElem hk
    have := Gr.st_back hW ((Gr.run_chain hW (way_lt _) e).trans h3)
    rw [Nat.mod_eq_of_lt (by have := way_lt s.dn; omega)] at this
    rw [this]; rfl
theorem Gr.seat_steps {g : Gr} (hok : g.ok) (d : Bool) (i : Nat) : (g.seat d i).isSome = ((g.st i (way d)).isSome || (g.st i (way d + 2)).isSome) := by
  rw [Bool.eq_iff_iff, Bool.or_eq_true]
  constructor
  · intro h
    obtain ⟨⟨n, a⟩, hp⟩ := Option.isSome_iff_exists.1 h
    exact Gr.at_steps (Gr.seat_iff.1 hp)
  · intro h
    obtain ⟨n, a, hp⟩ := Gr.at_exists hok d i h
    rw [Gr.seat_iff.2 hp]; rfl
theorem Gr.at_lt {g : Gr} {d : Bool} {i n a : Nat} (h : At g.sl d i n a) : i < g.n ∧ n < g.sl.length ∧ a < 257 := by
  obtain ⟨s, h1, rfl, h3⟩ := h
  obtain ⟨hok, b, hb, hs⟩ := Gr.mem_sl (List.mem_of_getElem? h1)
  have hW := (Gr.right_of hok).sw.1
  rw [hs.cs] at h3
  refine ⟨Gr.run_lt hW (way_lt _) hb a i h3, (List.getElem?_eq_some_iff.1 h1).1, ?_⟩
  have hl := (List.getElem?_eq_some_iff.1 h3).1
  have := g.run_len (way s.dn) b
  have := (Gr.right_of hok).n_le
  omega
/-- A seat as two numbers. -/
def seatV : Option (Nat × Nat) → Int × Int
  | some (x, y) => ((x : Int), (y : Int))
  | none => (-1, 0)
def upTo (n a : Nat) : Option (Nat × Nat) → Option (Nat × Nat)
  | some (x, y) => if x < n ∨ (x = n ∧ y < a) then some (x, y) else none
  | none => none
/-- The seats of the slots ahead of n, and of n's cells ahead of a. -/
def Gr.seatK (g : Gr) (dn : Bool) (n a i : Nat) : Option (Nat × Nat) := upTo n a (g.seat dn i)
theorem Gr.seatK_zero (g : Gr) (dn : Bool) (i : Nat) : g.seatK dn 0 0 i = none := by
  unfold Gr.seatK
  cases g.seat dn i with
  | none => rfl
  | some p => simp [upTo]
theorem Gr.seatK_all (g : Gr) (dn : Bool) (i : Nat) : g.seatK dn g.sl.length 0 i = g.seat dn i := by
  unfold Gr.seatK
  cases h : g.seat dn i with
  | none => rfl
  | some p =>
    have := Gr.at_lt (Gr.seat_iff.1 (show g.seat dn i = some (p.1, p.2) from h))
    simp [upTo, this.2.1]
theorem Gr.seatK_next {g : Gr} {dn : Bool} {n : Nat} {s : Sl} (h : g.sl[n]? = some s) (i : Nat) : g.seatK dn (n + 1) 0 i = g.seatK dn n (if s.dn = dn then s.cs.length else 0) i := by
  unfold Gr.seatK
  cases hx : g.seat dn i with
  | none => rfl
  | some p =>
    obtain ⟨x, y⟩ := p
    obtain ⟨t, h1, h2, h3⟩ := Gr.seat_iff.1 hx
    have hl := (List.getElem?_eq_some_iff.1 h3).1
    simp only [upTo]
    by_cases hn : x = n
    · subst hn
      rw [h] at h1
      cases h1
      rw [if_pos h2, if_pos (.inl (by omega)), if_pos (.inr ⟨rfl, hl⟩)]
    · by_cases hl2 : x < n
      · rw [if_pos (.inl (by omega)), if_pos (.inl hl2)]
      · rw [if_neg (by omega), if_neg (by omega)]
theorem Gr.seatK_step {g : Gr} {n a c : Nat} {s : Sl} (h : g.sl[n]? = some s) (hc : s.cs[a]? = some c) (i : Nat) : g.seatK s.dn n (a + 1) i = if i = c then some (n, a) else g.seatK s.dn n a i := by
  unfold Gr.seatK
  by_cases hi : i = c
  · subst hi
    rw [if_pos rfl, Gr.seat_iff.2 ⟨s, h, rfl, hc⟩]
    simp [upTo]
  · rw [if_neg hi]
    cases hx : g.seat s.dn i with
    | none => rfl
    | some p =>
      obtain ⟨x, y⟩ := p
      obtain ⟨t, h1, h2, h3⟩ := Gr.seat_iff.1 hx
      have hne : ¬ (x = n ∧ y = a) := by
        rintro ⟨rfl, rfl⟩
        rw [h] at h1
        cases h1
        rw [hc] at h3
        cases h3
        exact hi rfl
      simp only [upTo]
      by_cases hk : x < n ∨ (x = n ∧ y < a)
      · rw [if_pos (by omega), if_pos hk]
      · rw [if_neg (by omega), if_neg hk]
theorem Gr.sl_cs {g : Gr} {k : Nat} {s : Sl} (h : g.sl[k]? = some s) : s.cs.length ≤ 257 := by
  obtain ⟨hok, i, hi, hs⟩ := Gr.mem_sl (List.mem_of_getElem? h)
  rw [hs.cs]
  have := g.run_len (way s.dn) i
  have := (Gr.right_of hok).n_le
  omega
end Go.Proofs.YthjgldjjplcncabDoor.Grd
