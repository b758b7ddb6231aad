/-
  Of no program: the runs and the slots of a grid, as lists.
-/
import Derived.Test.YthjgldjjplcncabDoorGrdm
namespace Go.Proofs.YthjgldjjplcncabDoor.Grd

theorem Gr.st_up {g : Gr} (hW : 0 < g.W) {d i j : Nat} (hd : d < 2) (h : g.st i d = some j) : i < j ∧ j < g.n ∧ i < g.n := by
  have ho := Gr.st_opn h
  have hj := (Gr.opn_iff.1 (Gr.st_to hW h)).1
  have hi := (Gr.opn_iff.1 ho).1
  have : d = 0 ∨ d = 1 := by omega
  rcases this with rfl | rfl
  · rw [Gr.st0 ho] at h
    obtain ⟨_, rfl⟩ := if_some h
    omega
  · rw [Gr.st1 ho] at h
    obtain ⟨_, rfl⟩ := if_some h
    omega
theorem Gr.st_none {g : Gr} {d i : Nat} (h : g.n ≤ i) : g.st i d = none := by
  unfold Gr.st
  rw [if_neg (fun h2 => by have := (Gr.opn_iff.1 h2).1; omega)]

/-- The run from a cell on. -/
def Gr.runF (g : Gr) (d : Nat) : Nat → Nat → List Nat
  | 0, i => [i]
  | f + 1, i => i :: (match g.st i d with | some j => g.runF d f j | none => [])
def Gr.run (g : Gr) (d i : Nat) : List Nat := g.runF d (g.n - i) i
theorem Gr.runF_enough {g : Gr} (hW : 0 < g.W) {d : Nat} (hd : d < 2) : ∀ f i, g.n - i ≤ f → g.runF d f i = g.runF d (g.n - i) i := by
  intro f
  induction f using Nat.strongRecOn with
  | _ f ih =>
    intro i hf
    cases f with
    | zero => rw [show g.n - i = 0 by omega]
    | succ f =>
      cases hm : g.n - i with
      | zero =>
        have : g.st i d = none := Gr.st_none (by omega)
        simp only [Gr.runF, this]
      | succ m =>
        simp only [Gr.runF]
        cases hs : g.st i d with
        | none => rfl
        | some j =>
          have := Gr.st_up hW hd hs
          simp only
          rw [ih f (by omega) j (by omega), ih m (by omega) j (by omega)]
theorem Gr.run_some {g : Gr} (hW : 0 < g.W) {d i j : Nat} (hd : d < 2) (h : g.st i d = some j) : g.run d i = i :: g.run d j := by
  have hu := Gr.st_up hW hd h
  unfold Gr.run
  obtain ⟨m, hm⟩ : ∃ m, g.n - i = m + 1 := ⟨g.n - i - 1, by omega⟩
  rw [hm]
  simp only [Gr.runF, h]
  rw [Gr.runF_enough hW hd m j (by omega)]
theorem Gr.run_none {g : Gr} {d i : Nat} (h : g.st i d = none) : g.run d i = [i] := by
  unfold Gr.run
  cases g.n - i with
  | zero => rfl
  | succ m => simp only [Gr.runF, h]
theorem Gr.run_pos (g : Gr) (d i : Nat) : 1 ≤ (g.run d i).length := by
  unfold Gr.run
  cases g.n - i <;> simp [Gr.runF]
theorem Gr.run_head (g : Gr) (d i : Nat) : (g.run d i)[0]? = some i := by
  unfold Gr.run
  cases g.n - i <;> simp [Gr.runF]
theorem Gr.runF_len (g : Gr) (d : Nat) : ∀ f i, (g.runF d f i).length ≤ f + 1 := by
  intro f
  induction f with
  | zero => intro i; simp [Gr.runF]
  | succ f ih =>
    intro i
    simp only [Gr.runF, List.length_cons]
    cases g.st i d with
    | none => simp
    | some j => have := ih j; simp only; omega
theorem Gr.run_len (g : Gr) (d i : Nat) : (g.run d i).length ≤ g.n + 1 := by
  have := g.runF_len d (g.n - i) i
  unfold Gr.run
  omega
theorem Gr.run_two {g : Gr} (hW : 0 < g.W) {d i : Nat} (hd : d < 2) : 2 ≤ (g.run d i).length ↔ (g.st i d).isSome = true := by
  cases h : g.st i d with
  | none => rw [Gr.run_none h]; simp
  | some j => rw [Gr.run_some hW hd h]; have := g.run_pos d j; simp; omega
/-- Each cell of a run is reached from the one ahead of it; from the last one no step leads on. -/
theorem Gr.runF_chain {g : Gr} (hW : 0 < g.W) {d : Nat} (hd : d < 2) : ∀ f i, g.n - i ≤ f → ∀ k c, (g.runF d f i)[k]? = some c → g.st c d = (g.runF d f i)[k + 1]? := by
  intro f
  induction f with
  | zero =>
    intro i hf k c h
    cases k with
    | zero =>
      simp only [Gr.runF, List.getElem?_cons_zero, Option.some.injEq] at h
      subst h
      rw [Gr.st_none (by omega)]
      simp [Gr.runF]
    | succ k => simp [Gr.runF] at h
  | succ f ih =>
    intro i hf k c h
    cases hs : g.st i d with
    | none =>
      simp only [Gr.runF, hs] at h ⊢
      cases k with
      | zero =>
        simp at h
        subst h
        simp [hs]
      | succ k => simp at h
    | some j =>
      have hu := Gr.st_up hW hd hs
      simp only [Gr.runF, hs] at h ⊢
      cases k with
      | zero =>
        simp at h
        subst h
        rw [hs]
        cases f with
        | zero => simp [Gr.runF]
        | succ f => simp [Gr.runF]
      | succ k =>
        rw [List.getElem?_cons_succ] at h ⊢
        exact ih j (by omega) k c h
theorem Gr.run_chain {g : Gr} (hW : 0 < g.W) {d i k c : Nat} (hd : d < 2) (h : (g.run d i)[k]? = some c) : g.st c d = (g.run d i)[k + 1]? := Gr.runF_chain hW hd (g.n - i) i (Nat.le_refl _) k c h
theorem Gr.run_lt {g : Gr} (hW : 0 < g.W) {d i : Nat} (hd : d < 2) (hi : i < g.n) : ∀ (k c : Nat), (g.run d i)[k]? = some c → c < g.n := by
  intro k
  induction k with
  | zero => intro c h; rw [Gr.run_head] at h; cases h; exact hi
  | succ k _ =>
    intro c h
    have hl := (List.getElem?_eq_some_iff.1 h).1
    have hk : k < (g.run d i).length := by omega
    have e : (g.run d i)[k]? = some ((g.run d i)[k]'hk) := List.getElem?_eq_getElem hk
    exact (Gr.st_up hW hd ((Gr.run_chain hW hd e).trans h)).2.1

/-- A slot: its number, its direction, its cells. -/
structure Sl where
  num : Nat
  dn : Bool
  cs : List Nat
def way (dn : Bool) : Nat := if dn then 1 else 0
theorem way_lt (dn : Bool) : way dn < 2 := by cases dn <;> simp [way]
/-- Does a slot of this direction begin here? -/
def Gr.beg (g : Gr) (d i : Nat) : Bool := (g.st i (d + 2)).isNone && (g.st i d).isSome
def Gr.numTo (g : Gr) : Nat → Nat
  | 0 => 0
  | i + 1 => g.numTo i + if g.beg 0 i || g.beg 1 i then 1 else 0
def Gr.slAt (g : Gr) (i num : Nat) : List Sl := (if g.beg 0 i then [⟨num, false, g.run 0 i⟩] else []) ++ (if g.beg 1 i then [⟨num, true, g.run 1 i⟩] else [])
def Gr.slTo (g : Gr) : Nat → List Sl
  | 0 => []
  | i + 1 => g.slTo i ++ g.slAt i (g.numTo (i + 1))
/-- The list of a grid's slots. -/
def Gr.sl (g : Gr) : List Sl := if g.ok then g.slTo g.n else []
theorem Gr.numTo_le (g : Gr) (i : Nat) : g.numTo i ≤ i := by
  induction i with
  | zero => exact Nat.le_refl _
  | succ i ih => simp only [Gr.numTo]; split <;> omega
theorem Gr.slAt_len (g : Gr) (i num : Nat) : (g.slAt i num).length ≤ 2 := by
  unfold Gr.slAt
  cases g.beg 0 i <;> cases g.beg 1 i <;> simp
theorem Gr.slTo_len (g : Gr) (i : Nat) : (g.slTo i).length ≤ 2 * i := by
  induction i with
  | zero => simp [Gr.slTo]
  | succ i ih => have := g.slAt_len i (g.numTo (i + 1)); simp only [Gr.slTo, List.length_append]; omega

/-- A slot as the list has it: it begins at i, and i begins it. -/
structure Gr.IsSl (g : Gr) (s : Sl) (i : Nat) : Prop where
  lt : i < g.n
  beg : g.beg (way s.dn) i = true
  cs : s.cs = g.run (way s.dn) i
theorem Gr.mem_slAt {g : Gr} {i num : Nat} {s : Sl} (hi : i < g.n) (h : s ∈ g.slAt i num) : g.IsSl s i ∧ s.num = num := by
  unfold Gr.slAt at h
  rcases List.mem_append.1 h with h | h
  · by_cases hb : g.beg 0 i = true
    · rw [if_pos hb] at h
      obtain rfl := List.mem_singleton.1 h
      exact ⟨⟨hi, hb, rfl⟩, rfl⟩
    · rw [if_neg hb] at h; cases h
  · by_cases hb : g.beg 1 i = true
    · rw [if_pos hb] at h
      obtain rfl := List.mem_singleton.1 h
      exact ⟨⟨hi, hb, rfl⟩, rfl⟩
    · rw [if_neg hb] at h; cases h
theorem Gr.mem_slTo {g : Gr} {s : Sl} : ∀ {i}, i ≤ g.n → s ∈ g.slTo i → ∃ k, k < i ∧ g.IsSl s k ∧ s.num = g.numTo (k + 1) := by
  intro i
  induction i with
  | zero => intro _ h; cases h
  | succ i ih =>
    intro hi h
    simp only [Gr.slTo] at h
    rcases List.mem_append.1 h with h | h
    · obtain ⟨k, h1, h2⟩ := ih (by omega) h
      exact ⟨k, by omega, h2⟩
    · obtain ⟨h1, h2⟩ := Gr.mem_slAt (by omega) h
      exact ⟨i, by omega, h1, h2⟩
theorem Gr.mem_sl {g : Gr} {s : Sl} (h : s ∈ g.sl) : g.ok ∧ ∃ k, k < g.n ∧ g.IsSl s k := by
  unfold Gr.sl at h
  by_cases ho : g.ok
  · rw [if_pos ho] at h
    obtain ⟨k, h1, h2, _⟩ := Gr.mem_slTo (Nat.le_refl _) h
    exact ⟨ho, k, h1, h2⟩
  · rw [if_neg ho] at h; cases h
theorem Gr.IsSl.two {g : Gr} (hW : 0 < g.W) {s : Sl} {i : Nat} (h : g.IsSl s i) : 2 ≤ s.cs.length := by
  rw [h.cs, Gr.run_two hW (way_lt _)]
  have := h.beg
  unfold Gr.beg at this
  simp only [Bool.and_eq_true] at this
  exact this.2
theorem Gr.IsSl.first {g : Gr} {s : Sl} {i : Nat} (h : g.IsSl s i) : s.cs[0]? = some i ∧ g.st i (way s.dn + 2) = none := by
  refine ⟨by rw [h.cs, Gr.run_head], ?_⟩
  have := h.beg
  unfold Gr.beg at this
  simp only [Bool.and_eq_true, Option.isNone_iff_eq_none] at this
  exact this.1
/-- Numbers never fall, and rise by one at most. -/
def NumsOk : Nat → List Sl → Nat → Prop
  | a, [], b => a = b
  | a, s :: r, b => a ≤ s.num ∧ s.num ≤ a + 1 ∧ NumsOk s.num r b
theorem NumsOk.append {L M : List Sl} : ∀ {a b c : Nat}, NumsOk a L b → NumsOk b M c → NumsOk a (L ++ M) c := by
  induction L with
  | nil => intro a b c h k; simp only [NumsOk] at h; subst h; exact k
  | cons s r ih => intro a b c h k; exact ⟨h.1, h.2.1, ih h.2.2 k⟩
theorem Gr.nums_slTo (g : Gr) (i : Nat) : NumsOk 1 (g.slTo i) (max 1 (g.numTo i)) := by
  induction i with
  | zero => simp [Gr.slTo, Gr.numTo, NumsOk]
  | succ i ih =>
    refine ih.append ?_
    unfold Gr.slAt
    simp only [Gr.numTo]
    cases g.beg 0 i <;> cases g.beg 1 i <;> simp [NumsOk] <;> omega
/-- The number ahead of the slot k, or a. -/
def lvl (a : Nat) (L : List Sl) (k : Nat) : Nat := if k = 0 then a else ((L[k - 1]?).map Sl.num).getD a
theorem NumsOk.at {L : List Sl} : ∀ {a b : Nat}, NumsOk a L b → ∀ k s, L[k]? = some s → lvl a L k ≤ s.num ∧ s.num ≤ lvl a L k + 1 := by
  induction L with
  | nil => intro a b _ k s h; simp at h
  | cons x r ih =>
    intro a b h k s hk
    cases k with
    | zero => simp at hk; subst hk; exact ⟨h.1, h.2.1⟩
    | succ k =>
      have := ih h.2.2 k s (by simpa using hk)
      have hl := (List.getElem?_eq_some_iff.1 hk).1
      have e : lvl a (x :: r) (k + 1) = lvl x.num r k := by
        unfold lvl
        cases k with
        | zero => simp
        | succ m =>
          simp only [List.length_cons] at hl
          simp only [Nat.add_one_ne_zero, if_false, Nat.add_sub_cancel, List.getElem?_cons_succ]
          rw [List.getElem?_eq_getElem (l := r) (i := m) (by omega)]
          rfl
      rw [e]
      exact this
theorem lvl_succ {a : Nat} {L : List Sl} {k : Nat} {s : Sl} (h : L[k]? = some s) : lvl a L (k + 1) = s.num := by
  unfold lvl
  simp [h]
theorem Gr.nums_sl {g : Gr} {k : Nat} {s : Sl} (h : g.sl[k]? = some s) : lvl 1 g.sl k ≤ s.num ∧ s.num ≤ lvl 1 g.sl k + 1 := by
  unfold Gr.sl at h ⊢
  by_cases ho : g.ok
  · rw [if_pos ho] at h ⊢
    exact (g.nums_slTo g.n).at k s h
  · rw [if_neg ho] at h; simp at h
theorem Gr.sl_len (g : Gr) : g.sl.length ≤ 512 := by
  unfold Gr.sl
  by_cases ho : g.ok
  · rw [if_pos ho]
    have := g.slTo_len g.n
    have := (Gr.right_of ho).n_le
    omega
  · rw [if_neg ho]; simp
end Go.Proofs.YthjgldjjplcncabDoor.Grd
