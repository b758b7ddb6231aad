/-
  Of no program: the runs and the slots of a grid, as lists.
-/
import Derived.Test.YthjgldjjplcncabDoorGrdm
import Derived.Test.YthjgldjjplcncabDoorGge
import Derived.Test.YthjgldjjplcncabDoorGrdgq
import Derived.WalkMore
namespace Go.Proofs.YthjgldjjplcncabDoor.Grd

theorem Gr.st_up {g : Gr} (hW : 0 < g.W) {d i j : Nat} (hd : d < 2) (h : g.st i d = some j) : i < j ∧ j < g.n ∧ i < g.n := by
  have ho := Gr.st_opn h
  have hj := (Gr.opn_iff.1 (Gr.st_to hW h)).1
  have hi := (Gr.opn_iff.1 ho).1
  have : d = 0 ∨ d = 1 := by omega
  rcases this with rfl | rfl
  · rw [Gr.st0 ho] at h
    obtain ⟨_, rfl⟩ := if_some h
    omega
  · rw [Gr.st1 ho] at h
    obtain ⟨_, rfl⟩ := if_some h
    omega
theorem Gr.st_none {g : Gr} {d i : Nat} (h : g.n ≤ i) : g.st i d = none := by
  unfold Gr.st
  rw [if_neg (fun h2 => by have := (Gr.opn_iff.1 h2).1; omega)]

/-- The run from a cell on. -/
def Gr.runF (g : Gr) (d : Nat) : Nat → Nat → List Nat
  | 0, i => [i]
  | f + 1, i => i :: (match g.st i d with | some j => g.runF d f j | none => [])
def Gr.run (g : Gr) (d i : Nat) : List Nat := g.runF d (g.n - i) i
theorem Gr.runF_enough {g : Gr} (hW : 0 < g.W) {d : Nat} (hd : d < 2) : ∀ f i, g.n - i ≤ f → g.runF d f i = g.runF d (g.n - i) i := by
  intro f
  induction f using Nat.strongRecOn with
  | _ f ih =>
    intro i hf
    cases f with
    | zero => rw [show g.n - i = 0 by omega]
    | succ f =>
      cases hm : g.n - i with
      | zero =>
        have : g.st i d = none := Gr.st_none (by omega)
        simp only [Gr.runF, this]
      | succ m =>
        simp only [Gr.runF]
        cases hs : g.st i d with
        | none => rfl
        | some j =>
          have := Gr.st_up hW hd hs
          simp only
          rw [ih f (by omega) j (by omega), ih m (by omega) j (by omega)]
theorem Gr.run_some {g : Gr} (hW : 0 < g.W) {d i j : Nat} (hd : d < 2) (h : g.st i d = some j) : g.run d i = i :: g.run d j := by
  have hu := Gr.st_up hW hd h
  unfold Gr.run
  obtain ⟨m, hm⟩ : ∃ m, g.n - i = m + 1 := ⟨g.n - i - 1, by omega⟩
  rw [hm]
  simp only [Gr.runF, h]
  rw [Gr.runF_enough hW hd m j (by omega)]
theorem Gr.run_none {g : Gr} {d i : Nat} (h : g.st i d = none) : g.run d i = [i] := by
  unfold Gr.run
  cases g.n - i with
  | zero => rfl
  | succ m => simp only [Gr.runF, h]
theorem Gr.run_pos (g : Gr) (d i : Nat) : 1 ≤ (g.run d i).length := by
  unfold Gr.run
  cases g.n - i <;> simp [Gr.runF]
theorem Gr.run_head (g : Gr) (d i : Nat) : (g.run d i)[0]? = some i := by
  unfold Gr.run
  cases g.n - i <;> simp [Gr.runF]
theorem Gr.runF_len (g : Gr) (d : Nat) : ∀ f i, (g.runF d f i).length ≤ f + 1 := by
  intro f
  induction f with
  | zero => intro i; simp [Gr.runF]
  | succ f ih =>
    intro i
    simp only [Gr.runF, List.length_cons]
    cases g.st i d with
    | none => simp
    | some j => have := ih j; simp only; omega
theorem Gr.run_len (g : Gr) (d i : Nat) : (g.run d i).length ≤ g.n + 1 := by
  have := g.runF_len d (g.n - i) i
  unfold Gr.run
  omega
theorem Gr.run_two {g : Gr} (hW : 0 < g.W) {d i : Nat} (hd : d < 2) : 2 ≤ (g.run d i).length ↔ (g.st i d).isSome = true := by
  cases h : g.st i d with
  | none => rw [Gr.run_none h]; simp
  | some j => rw [Gr.run_some hW hd h]; have := g.run_pos d j; simp; omega
/-- Each cell of a run is reached from the one ahead of it; from the last one no step leads on. -/
theorem Gr.runF_chain {g : Gr} (hW : 0 < g.W) {d : Nat} (hd : d < 2) : ∀ f i, g.n - i ≤ f → ∀ k c, (g.runF d f i)[k]? = some c → g.st c d = (g.runF d f i)[k + 1]? := by
  intro f
  induction f with
  | zero =>
    intro i hf k c h
    cases k with
    | zero =>
      simp only [Gr.runF, List.getElem?_cons_zero, Option.some.injEq] at h
      subst h
      rw [Gr.st_none (by omega)]
      simp [Gr.runF]
    | succ k => simp [Gr.runF] at h
  | succ f ih =>
    intro i hf k c h
    cases hs : g.st i d with
    | none =>
      simp only [Gr.runF, hs] at h ⊢
      cases k with
      | zero =>
        simp at h
        subst h
        simp [hs]
      | succ k => simp at h
    | some j =>
      have hu := Gr.st_up hW hd hs
      simp only [Gr.runF, hs] at h ⊢
      cases k with
      | zero =>
        simp at h
        subst h
        rw [hs]
        cases f with
        | zero => simp [Gr.runF]
        | succ f => simp [Gr.runF]
      | succ k =>
        rw [List.getElem?_cons_succ] at h ⊢
        exact ih j (by omega) k c h
theorem Gr.run_chain {g : Gr} (hW : 0 < g.W) {d i k c : Nat} (hd : d < 2) (h : (g.run d i)[k]? = some c) : g.st c d = (g.run d i)[k + 1]? := Gr.runF_chain hW hd (g.n - i) i (Nat.le_refl _) k c h
theorem Gr.run_lt {g : Gr} (hW : 0 < g.W) {d i : Nat} (hd : d < 2) (hi : i < g.n) : ∀ (k c : Nat), (g.run d i)[k]? = some c → c < g.n := by
  intro k
  induction k with
  | zero => intro c h; rw [Gr.run_head] at h; cases h; exact hi
  | succ k _ =>
    intro c h
    have hl := (List.getElem?_eq_some_iff.1 h).1
    have hk : k < (g.run d i).length := by omega
    have e : (g.run d i)[k]? = some ((g.run d i)[k]'hk) := List.getElem?_eq_getElem hk
    exact (Gr.st_up hW hd ((Gr.run_chain hW hd e).trans h)).2.1

/-- A slot: its number, its direction, its cells. -/
structure Sl where
  num : Nat
  dn : Bool
  cs : List Nat
def way (dn : Bool) : Nat := if dn then 1 else 0
theorem way_lt (dn : Bool) : way dn < 2 := by cases dn <;> simp [way]
/-- Does a slot of this direction begin here? -/
def Gr.beg (g : Gr) (d i : Nat) : Bool := (g.st i (d + 2)).isNone && (g.st i d).isSome
def Gr.numTo (g : Gr) : Nat → Nat
  | 0 => 0
  | i + 1 => g.numTo i + if g.beg 0 i || g.beg 1 i then 1 else 0
def Gr.slAt (g : Gr) (i num : Nat) : List Sl := (if g.beg 0 i then [⟨num, false, g.run 0 i⟩] else []) ++ (if g.beg 1 i then [⟨num, true, g.run 1 i⟩] else [])
def Gr.slTo (g : Gr) : Nat → List Sl
  | 0 => []
  | i + 1 => g.slTo i ++ g.slAt i (g.numTo (i + 1))
/-- The list of a grid's slots. -/
def Gr.sl (g : Gr) : List Sl := if g.ok then g.slTo g.n else []
theorem Gr.numTo_le (g : Gr) (i : Nat) : g.numTo i ≤ i := by
  induction i with
  | zero => exact Nat.le_refl _
  | succ i ih => simp only [Gr.numTo]; split <;> omega
theorem Gr.slAt_len (g : Gr) (i num : Nat) : (g.slAt i num).length ≤ 2 := by
  unfold Gr.slAt
  cases g.beg 0 i <;> cases g.beg 1 i <;> simp
theorem Gr.slTo_len (g : Gr) (i : Nat) : (g.slTo i).length ≤ 2 * i := by
  induction i with
  | zero => simp [Gr.slTo]
  | succ i ih => have := g.slAt_len i (g.numTo (i + 1)); simp only [Gr.slTo, List.length_append]; omega

/-- A slot as the list has it: it begins at i, and i begins it. -/
structure Gr.IsSl (g : Gr) (s : Sl) (i : Nat) : Prop where
  lt : i < g.n
  beg : g.beg (way s.dn) i = true
  cs : s.cs = g.run (way s.dn) i
theorem Gr.mem_slAt {g : Gr} {i num : Nat} {s : Sl} (hi : i < g.n) (h : s ∈ g.slAt i num) : g.IsSl s i ∧ s.num = num := by
  unfold Gr.slAt at h
  rcases List.mem_append.1 h with h | h
  · by_cases hb : g.beg 0 i = true
    · rw [if_pos hb] at h
      obtain rfl := List.mem_singleton.1 h
      exact ⟨⟨hi, hb, rfl⟩, rfl⟩
    · rw [if_neg hb] at h; cases h
  · by_cases hb : g.beg 1 i = true
    · rw [if_pos hb] at h
      obtain rfl := List.mem_singleton.1 h
      exact ⟨⟨hi, hb, rfl⟩, rfl⟩
    · rw [if_neg hb] at h; cases h
theorem Gr.mem_slTo {g : Gr} {s : Sl} : ∀ {i}, i ≤ g.n → s ∈ g.slTo i → ∃ k, k < i ∧ g.IsSl s k ∧ s.num = g.numTo (k + 1) := by
  intro i
  induction i with
  | zero => intro _ h; cases h
  | succ i ih =>
    intro hi h
    simp only [Gr.slTo] at h
    rcases List.mem_append.1 h with h | h
    · obtain ⟨k, h1, h2⟩ := ih (by omega) h
      exact ⟨k, by omega, h2⟩
    · obtain ⟨h1, h2⟩ := Gr.mem_slAt (by omega) h
      exact ⟨i, by omega, h1, h2⟩
theorem Gr.mem_sl {g : Gr} {s : Sl} (h : s ∈ g.sl) : g.ok ∧ ∃ k, k < g.n ∧ g.IsSl s k := by
  unfold Gr.sl at h
  by_cases ho : g.ok
  · rw [if_pos ho] at h
    obtain ⟨k, h1, h2, _⟩ := Gr.mem_slTo (Nat.le_refl _) h
    exact ⟨ho, k, h1, h2⟩
  · rw [if_neg ho] at h; cases h
theorem Gr.IsSl.two {g : Gr} (hW : 0 < g.W) {s : Sl} {i : Nat} (h : g.IsSl s i) : 2 ≤ s.cs.length := by
  rw [h.cs, Gr.run_two hW (way_lt _)]
  have := h.beg
  unfold Gr.beg at this
  simp only [Bool.and_eq_true] at this
  exact this.2
theorem Gr.IsSl.first {g : Gr} {s : Sl} {i : Nat} (h : g.IsSl s i) : s.cs[0]? = some i ∧ g.st i (way s.dn + 2) = none := by
  refine ⟨by rw [h.cs, Gr.run_head], ?_⟩
  have := h.beg
  unfold Gr.beg at this
  simp only [Bool.and_eq_true, Option.isNone_iff_eq_none] at this
  exact this.1
/-- Numbers never fall, and rise by one at most. -/
def NumsOk : Nat → List Sl → Nat → Prop
  | a, [], b => a = b
  | a, s :: r, b => a ≤ s.num ∧ s.num ≤ a + 1 ∧ NumsOk s.num r b
theorem NumsOk.append {L M : List Sl} : ∀ {a b c : Nat}, NumsOk a L b → NumsOk b M c → NumsOk a (L ++ M) c := by
  induction L with
  | nil => intro a b c h k; simp only [NumsOk] at h; subst h; exact k
  | cons s r ih => intro a b c h k; exact ⟨h.1, h.2.1, ih h.2.2 k⟩
theorem Gr.nums_slTo (g : Gr) (i : Nat) : NumsOk 1 (g.slTo i) (max 1 (g.numTo i)) := by
  induction i with
  | zero => simp [Gr.slTo, Gr.numTo, NumsOk]
  | succ i ih =>
    refine ih.append ?_
    unfold Gr.slAt
    simp only [Gr.numTo]
    cases g.beg 0 i <;> cases g.beg 1 i <;> simp [NumsOk] <;> omega
/-- The number ahead of the slot k, or a. -/
def lvl (a : Nat) (L : List Sl) (k : Nat) : Nat := if k = 0 then a else ((L[k - 1]?).map Sl.num).getD a
theorem NumsOk.at {L : List Sl} : ∀ {a b : Nat}, NumsOk a L b → ∀ k s, L[k]? = some s → lvl a L k ≤ s.num ∧ s.num ≤ lvl a L k + 1 := by
  induction L with
  | nil => intro a b _ k s h; simp at h
  | cons x r ih =>
    intro a b h k s hk
    cases k with
    | zero => simp at hk; subst hk; exact ⟨h.1, h.2.1⟩
    | succ k =>
      have := ih h.2.2 k s (by simpa using hk)
      have hl := (List.getElem?_eq_some_iff.1 hk).1
      have e : lvl a (x :: r) (k + 1) = lvl x.num r k := by
        unfold lvl
        cases k with
        | zero => simp
        | succ m =>
          simp only [List.length_cons] at hl
          simp only [Nat.add_one_ne_zero, if_false, Nat.add_sub_cancel, List.getElem?_cons_succ]
          rw [List.getElem?_eq_getElem (l := r) (i := m) (by omega)]
          rfl
      rw [e]
      exact this
theorem lvl_succ {a : Nat} {L : List Sl} {k : Nat} {s : Sl} (h : L[k]? = some s) : lvl a L (k + 1) = s.num := by
  unfold lvl
  simp [h]
theorem Gr.nums_sl {g : Gr} {k : Nat} {s : Sl} (h : g.sl[k]? = some s) : lvl 1 g.sl k ≤ s.num ∧ s.num ≤ lvl 1 g.sl k + 1 := by
  unfold Gr.sl at h ⊢
  by_cases ho : g.ok
  · rw [if_pos ho] at h ⊢
    exact (g.nums_slTo g.n).at k s h
  · rw [if_neg ho] at h; simp at h
theorem Gr.sl_len (g : Gr) : g.sl.length ≤ 512 := by
  unfold Gr.sl
  by_cases ho : g.ok
  · rw [if_pos ho]
    have := g.slTo_len g.n
    have := (Gr.right_of ho).n_le
    omega
  · rw [if_neg ho]; simp
end Go.Proofs.YthjgldjjplcncabDoor.Grd
/-
  The program's onward and isReached, of a right grid.
-/
namespace Go.Proofs.YthjgldjjplcncabDoor.Grd
open Go Go.Lib Go.RowKit

set_option maxHeartbeats 1000000 in
theorem onward_edge (H W q m b1 o1 c1 b2 o2 c2 b3 o3 c3 L i : Nat) (r d dn : Bool) (w : World)
    (hH : H ≤ 16) (hW : W ≤ 16) (hH0 : 1 ≤ H) (hL : L ≤ 256) (hi : i < L) (hW0 : ¬ W = 0) (hq : (i : Int) / (W : Int) = q) (hm : (i : Int) % (W : Int) = m)
    (hE : if dn then q + 1 = H else m + 1 = W)
    (e2 : w.cell? ⟨b2, o2 + i, none⟩ = some (.bool r)) (e3 : w.cell? ⟨b3, o3 + i, none⟩ = some (.bool d)) (l2 : b2 < w.heap.size) (l3 : b3 < w.heap.size) :
    Calls Tryd.prog 25 #[.agg #[.int .i64 H, .int .i64 W, .slice (some ⟨b1, o1, none⟩) L c1, .slice (some ⟨b2, o2, none⟩) L c2, .slice (some ⟨b3, o3, none⟩) L c3], .int .i64 i, .bool dn] w fun e w' => e = .returned (.tuple #[.int .i64 0, .bool false]) ∧ Below w.heap.size w w' := by
  cases dn with
  | false =>
    simp only [Bool.false_eq_true, if_false] at hE
    have hE2 : (m : Int) = (W : Int) - 1 := by omega
    go_enter Tryd.func25, Tryd.ntmps25
    go_wp2
    go_quiet (fail)
    go_wp2
    all_goals (go_ret2; refine ⟨by first | (exfalso; omega) | rfl, below_drewN ((Below.refl _ _).alloc (Nat.le_refl _) _) _⟩)
  | true =>
    simp only [if_true] at hE
    have hE2 : (q : Int) = (H : Int) - 1 := by omega
    go_enter Tryd.func25, Tryd.ntmps25
    go_wp2
    go_quiet (fail)
    go_wp2
    go_quiet (fail)
    go_wp2
    all_goals (go_ret2; refine ⟨by first | (exfalso; omega) | rfl, below_drewN ((Below.refl _ _).alloc (Nat.le_refl _) _) _⟩)

set_option maxHeartbeats 1000000 in
theorem onward_inA (H W m b1 o1 c1 b2 o2 c2 L i j : Nat) (x y r : Bool) (v3 : Value) (w : World)
    (hW : W ≤ 16) (hL : L ≤ 256) (hi : i < L) (hj : j < L) (hW0 : ¬ W = 0) (hm : (i : Int) % (W : Int) = m)
    (he : ((m : Int) == (W : Int) - 1) = false) (hE4 : (i : Int) + 1 = (j : Int))
    (e1 : w.cell? ⟨b1, o1 + i, none⟩ = some (.bool x)) (e4 : w.cell? ⟨b1, o1 + j, none⟩ = some (.bool y)) (l1 : b1 < w.heap.size)
    (e2 : w.cell? ⟨b2, o2 + i, none⟩ = some (.bool r)) (l2 : b2 < w.heap.size)  :
    Calls Tryd.prog 25 #[.agg #[.int .i64 H, .int .i64 W, .slice (some ⟨b1, o1, none⟩) L c1, .slice (some ⟨b2, o2, none⟩) L c2, v3], .int .i64 i, .bool false] w fun e w' => e = .returned (.tuple #[.int .i64 (if r || x || y then 0 else (j : Int)), .bool (!(r || x || y))]) ∧ Below w.heap.size w w' := by
    go_enter Tryd.func25, Tryd.ntmps25
    go_wp2
    go_quiet (fail)
    cases r with
    | true =>
      go_wp2
      go_ret2
      exact ⟨rfl, below_drewN ((Below.refl _ _).alloc (Nat.le_refl _) _) _⟩
    | false =>
      cases x with
      | true =>
        go_wp2
        go_ret2
        exact ⟨rfl, below_drewN ((Below.refl _ _).alloc (Nat.le_refl _) _) _⟩
      | false =>
        cases y with
        | true =>
          go_wp2
          go_ret2
          exact ⟨rfl, below_drewN ((Below.refl _ _).alloc (Nat.le_refl _) _) _⟩
        | false =>
          go_wp2
          go_ret2
          exact ⟨rfl, below_drewN ((Below.refl _ _).alloc (Nat.le_refl _) _) _⟩

set_option maxHeartbeats 1000000 in
theorem onward_inD (H W q m b1 o1 c1 b2 o2 c2 b3 o3 c3 L i j : Nat) (x y r d em : Bool) (w : World)
    (hW : W ≤ 16) (hL : L ≤ 256) (hi : i < L) (hj : j < L) (hW0 : ¬ W = 0) (hq : (i : Int) / (W : Int) = q) (hm : (i : Int) % (W : Int) = m) (hH : H ≤ 16) (hqH : q < H)
    (he : ((q : Int) == (H : Int) - 1) = false) (hem : ((m : Int) == (W : Int) - 1) = em) (hE4 : (i : Int) + (W : Int) = (j : Int))
    (e1 : w.cell? ⟨b1, o1 + i, none⟩ = some (.bool x)) (e4 : w.cell? ⟨b1, o1 + j, none⟩ = some (.bool y)) (l1 : b1 < w.heap.size)
    (e2 : w.cell? ⟨b2, o2 + i, none⟩ = some (.bool r)) (l2 : b2 < w.heap.size) (e3 : w.cell? ⟨b3, o3 + i, none⟩ = some (.bool d)) (l3 : b3 < w.heap.size) :
    Calls Tryd.prog 25 #[.agg #[.int .i64 H, .int .i64 W, .slice (some ⟨b1, o1, none⟩) L c1, .slice (some ⟨b2, o2, none⟩) L c2, .slice (some ⟨b3, o3, none⟩) L c3], .int .i64 i, .bool true] w fun e w' => e = .returned (.tuple #[.int .i64 (if d || x || y then 0 else (j : Int)), .bool (!(d || x || y))]) ∧ Below w.heap.size w w' := by
    go_enter Tryd.func25, Tryd.ntmps25
    go_wp2
    go_quiet (fail)
    go_wp2
    go_quiet (fail)
    cases d with
    | true =>
      go_wp2
      go_ret2
      exact ⟨rfl, below_drewN ((Below.refl _ _).alloc (Nat.le_refl _) _) _⟩
    | false =>
      cases x with
      | true =>
        go_wp2
        go_ret2
        exact ⟨rfl, below_drewN ((Below.refl _ _).alloc (Nat.le_refl _) _) _⟩
      | false =>
        cases y with
        | true =>
          go_wp2
          go_ret2
          exact ⟨rfl, below_drewN ((Below.refl _ _).alloc (Nat.le_refl _) _) _⟩
        | false =>
          go_wp2
          go_ret2
          exact ⟨rfl, below_drewN ((Below.refl _ _).alloc (Nat.le_refl _) _) _⟩

theorem Gr.st_shut {g : Gr} {i d : Nat} (h : bt g.B i = true) : g.st i d = none := by
  unfold Gr.st
  rw [if_neg (fun h2 => by rw [(Gr.opn_iff.1 h2).2] at h; cases h)]
theorem onward_any (g : Gr) (p : Ad) (hz : Sz g) (i : Nat) (hi : i < g.n) (dn : Bool) (w : World) (hR : RG w g p) :
    Calls Tryd.prog 25 #[gv g p, .int .i64 i, .bool dn] w fun e w' => e = .returned (opt (g.st i (way dn))) ∧ Below w.heap.size w w' := by
  obtain ⟨h1, h2, h3⟩ := hz.sh
  obtain ⟨h4, h5, h6⟩ := hz.sw
  have hn := hz.n_le
  obtain ⟨b1, o1, c1, b2, o2, c2, b3, o3, c3, rfl, hA⟩ := hR.open hz
  unfold gv
  dsimp only
  rw [← h3, ← h6, hz.bl, hz.rl, hz.dl]
  have hq := row_lt hi
  have hm := Nat.mod_lt i h4
  by_cases hed : if dn then i / g.W + 1 = g.H else i % g.W + 1 = g.W
  · have e : g.st i (way dn) = none := by
      by_cases ho : g.opn i = true
      · cases dn with
        | false =>
          simp only [Bool.false_eq_true, if_false] at hed
          show g.st i 0 = none
          rw [Gr.st0 ho, if_neg (fun h => by have := h.1; omega)]
        | true =>
          simp only [if_true] at hed
          show g.st i 1 = none
          rw [Gr.st1 ho, if_neg (fun h => by have := h.1; generalize i / g.W = q at *; omega)]
      · unfold Gr.st; rw [if_neg ho]
    rw [e]
    exact onward_edge g.H g.W (i / g.W) (i % g.W) b1 o1 c1 b2 o2 c2 b3 o3 c3 g.n i (bt g.R i) (bt g.D i) dn w h2 h5 h1 hn.2 hi (by omega) (int_div _ _) (int_mod _ _) hed (hA.e2 i hi) (hA.e3 i hi) hA.l2 hA.l3
  · obtain ⟨j, hj, hE⟩ : ∃ j, j < g.n ∧ (if dn then i / g.W + 1 < g.H ∧ i + g.W = j else i % g.W + 1 < g.W ∧ i + 1 = j) := by
      cases dn with
      | false =>
        simp only [Bool.false_eq_true, if_false] at hed ⊢
        exact ⟨i + 1, right_lt hi (by omega), by omega, rfl⟩
      | true =>
        simp only [if_true] at hed ⊢
        exact ⟨i + g.W, down_lt (by generalize i / g.W = q at *; omega) h4, by generalize i / g.W = q at *; omega, rfl⟩
    have hc : Calls Tryd.prog 25 #[.agg #[.int .i64 g.H, .int .i64 g.W, .slice (some ⟨b1, o1, none⟩) g.n c1, .slice (some ⟨b2, o2, none⟩) g.n c2, .slice (some ⟨b3, o3, none⟩) g.n c3], .int .i64 i, .bool dn] w fun e w' => e = .returned (.tuple #[.int .i64 (if (if dn then bt g.D i else bt g.R i) || bt g.B i || bt g.B j then 0 else (j : Int)), .bool (!((if dn then bt g.D i else bt g.R i) || bt g.B i || bt g.B j))]) ∧ Below w.heap.size w w' := by
      cases dn with
      | false =>
        simp only [Bool.false_eq_true, if_false] at hE ⊢
        exact onward_inA g.H g.W (i % g.W) b1 o1 c1 b2 o2 c2 g.n i j (bt g.B i) (bt g.B j) (bt g.R i) _ w h5 hn.2 hi hj (by omega) (int_mod _ _) (by rw [beq_eq_false_iff_ne]; omega) (by omega) (hA.e1 i hi) (hA.e1 j hj) hA.l1 (hA.e2 i hi) hA.l2
      | true =>
        simp only [if_true] at hE ⊢
        exact onward_inD g.H g.W (i / g.W) (i % g.W) b1 o1 c1 b2 o2 c2 b3 o3 c3 g.n i j (bt g.B i) (bt g.B j) (bt g.R i) (bt g.D i) _ w h5 hn.2 hi hj (by omega) (int_div _ _) (int_mod _ _) h2 hq (by rw [beq_eq_false_iff_ne]; generalize i / g.W = q at *; omega) rfl (by omega) (hA.e1 i hi) (hA.e1 j hj) hA.l1 (hA.e2 i hi) hA.l2 (hA.e3 i hi) hA.l3
    refine hc.mono ?_
    rintro e w' ⟨rfl, hb⟩
    refine ⟨?_, hb⟩
    by_cases ho : bt g.B i = true
    · rw [Gr.st_shut ho, ho]
      simp [opt]
    · have ho' : bt g.B i = false := by simpa using ho
      have hop : g.opn i = true := Gr.opn_iff.2 ⟨hi, ho'⟩
      rw [ho']
      cases dn with
      | false =>
        simp only [Bool.false_eq_true, if_false] at hE ⊢
        obtain ⟨hE1, rfl⟩ := hE
        show _ = Ending.returned (opt (g.st i 0))
        rw [Gr.st0 hop]
        have hE2 : i % g.W < g.W - 1 := by omega
        cases bt g.R i <;> cases bt g.B (i + 1) <;> simp [opt, hE2]
      | true =>
        simp only [if_true] at hE ⊢
        obtain ⟨hE1, rfl⟩ := hE
        show _ = Ending.returned (opt (g.st i 1))
        rw [Gr.st1 hop]
        have hE2 : i / g.W < g.H - 1 := by generalize i / g.W = q at *; omega
        cases bt g.D i <;> cases bt g.B (i + g.W) <;> simp [opt, hE2]
end Go.Proofs.YthjgldjjplcncabDoor.Grd
/-
  The program's isReached, and the closure that gathers a run.
-/
namespace Go.Proofs.YthjgldjjplcncabDoor.Grd
open Go Go.Lib Go.RowKit

/-- A step leads to a cell just if one leads back from it. -/
theorem Gr.back_iff {g : Gr} (hW : 0 < g.W) {d b i : Nat} (hd : d < 2) (hb : b + (if d = 0 then 1 else g.W) = i) : (g.st b d).isSome = (g.st i (d + 2)).isSome := by
  have : d = 0 ∨ d = 1 := by omega
  rw [Bool.eq_iff_iff, Option.isSome_iff_exists, Option.isSome_iff_exists]
  constructor
  · rintro ⟨j, hj⟩
    refine ⟨b, ?_⟩
    have e : j = i := by
      have ho := Gr.st_opn hj
      rcases this with rfl | rfl
      · rw [Gr.st0 ho] at hj
        obtain ⟨_, rfl⟩ := if_some hj
        simpa using hb
      · rw [Gr.st1 ho] at hj
        obtain ⟨_, rfl⟩ := if_some hj
        simpa using hb
    subst e
    have := Gr.st_back hW hj
    rwa [Nat.mod_eq_of_lt (by omega)] at this
  · rintro ⟨j, hj⟩
    have e : j = b := by
      have ho := Gr.st_opn hj
      rcases this with rfl | rfl
      · rw [Gr.st2 ho] at hj
        obtain ⟨_, rfl⟩ := if_some hj
        simp at hb
        omega
      · rw [Gr.st3 ho] at hj
        obtain ⟨_, rfl⟩ := if_some hj
        simp at hb
        omega
    subst e
    have h2 := Gr.st_back hW hj
    rw [show (d + 2 + 2) % 4 = d by omega] at h2
    exact ⟨i, h2⟩
theorem Gr.back_none {g : Gr} {d i : Nat} (hd : d < 2) (hb : i < (if d = 0 then 1 else g.W)) : g.st i (d + 2) = none := by
  have : d = 0 ∨ d = 1 := by omega
  by_cases ho : g.opn i = true
  · rcases this with rfl | rfl
    · simp at hb
      subst hb
      rw [Gr.st2 ho, if_neg (fun h => by have := h.1; simp at this)]
    · simp at hb
      rw [Gr.st3 ho, if_neg (fun h => by have := h.1; rw [Nat.div_eq_of_lt hb] at this; omega)]
  · unfold Gr.st; rw [if_neg ho]

set_option maxHeartbeats 1000000 in
theorem isReached_any (g : Gr) (p : Ad) (hz : Sz g) (i : Nat) (hi : i < g.n) (dn : Bool) (w : World) (hR : RG w g p) :
    Calls Tryd.prog 26 #[gv g p, .int .i64 i, .bool dn] w fun e w' => e = .returned (.bool (g.st i (way dn + 2)).isSome) ∧ Below w.heap.size w w' := by
  obtain ⟨h4, h5, h6⟩ := hz.sw
  have hn := hz.n_le
  have HO : Aside (∀ b, b < g.n → ∀ W, Below w.heap.size w W → Calls Tryd.prog 25 #[gv g p, .int .i64 (b : Nat), .bool dn] W fun e w' => e = .returned (opt (g.st b (way dn))) ∧ Below W.heap.size W w') := fun b hb W h => onward_any g p hz b hb dn W (hR.below h)
  have HS : Aside (∀ b, b + (if way dn = 0 then 1 else g.W) = i → (g.st b (way dn)).isSome = (g.st i (way dn + 2)).isSome) := fun b hb => Gr.back_iff h4 (way_lt dn) hb
  have HN : Aside (i < (if way dn = 0 then 1 else g.W) → g.st i (way dn + 2) = none) := fun hb => Gr.back_none (way_lt dn) hb
  have hiz : (i : Int) < 256 := by omega
  unfold gv opt at HO
  unfold gv
  rw [← h6] at HO ⊢
  clear hR hz h6
  cases dn with
  | false =>
    simp only [way, Bool.false_eq_true, if_false, if_true] at HO HS HN ⊢
    by_cases hlt : i < 1
    · rw [HN.out hlt]
      clear HO HS HN
      have hltz : (i : Int) - 1 < 0 := by omega
      go_enter Tryd.func26, Tryd.ntmps26
      go_wp2
      go_ret
      exact ⟨rfl, below_box w _⟩
    · obtain ⟨b, hb⟩ : ∃ b, b + 1 = i := ⟨i - 1, by omega⟩
      have cO := HO.out b (by omega) (w.alloc (.cells #[.int .i64 g.h, .int .i64 (g.W : Int), .slice p.a1 g.B.length p.c1, .slice p.a2 g.R.length p.c2, .slice p.a3 g.D.length p.c3] 27)) (below_box w _)
      rw [← HS.out b hb]
      have e : (i : Int) - 1 = (b : Int) := by omega
      have hb0 : ¬ (b : Int) < 0 := by omega
      have hb1 : (b : Int) < 256 := by omega
      clear HO HS HN hlt hb
      generalize g.st b 0 = o at *
      generalize (b : Int) = bz at *
      go_enter Tryd.func26, Tryd.ntmps26
      go_wp2_with fail
      refine cO.mono ?_
      rintro e w1 ⟨rfl, hb1⟩
      go_wp2
      go_ret
      exact ⟨rfl, (below_box w _).trans (hb1.mono (below_box w _).size)⟩
  | true =>
    simp only [way, if_true] at HO HS HN ⊢
    by_cases hlt : i < g.W
    · rw [HN.out (by simpa using hlt)]
      clear HO HS HN
      have hltz : (i : Int) - (g.W : Int) < 0 := by omega
      go_enter Tryd.func26, Tryd.ntmps26
      go_wp2
      go_ret
      exact ⟨rfl, below_box w _⟩
    · obtain ⟨b, hb⟩ : ∃ b, b + g.W = i := ⟨i - g.W, by omega⟩
      have cO := HO.out b (by omega) (w.alloc (.cells #[.int .i64 g.h, .int .i64 (g.W : Int), .slice p.a1 g.B.length p.c1, .slice p.a2 g.R.length p.c2, .slice p.a3 g.D.length p.c3] 27)) (below_box w _)
      rw [← HS.out b (by simpa using hb)]
      have e : (i : Int) - (g.W : Int) = (b : Int) := by omega
      have hb0 : ¬ (b : Int) < 0 := by omega
      have hb1 : (b : Int) < 256 := by omega
      clear HO HS HN hlt hb
      generalize g.st b 1 = o at *
      generalize (b : Int) = bz at *
      go_enter Tryd.func26, Tryd.ntmps26
      go_wp2_with fail
      refine cO.mono ?_
      rintro e w1 ⟨rfl, hb1⟩
      go_wp2
      go_ret
      exact ⟨rfl, (below_box w _).trans (hb1.mono (below_box w _).size)⟩
end Go.Proofs.YthjgldjjplcncabDoor.Grd
/-
  The closure that gathers a run.
-/
namespace Go.Proofs.YthjgldjjplcncabDoor.Grd
open Go Go.Lib Go.RowKit

/-- What is left of a run behind a cell from which this step leads. -/
def Gr.rest (g : Gr) (d : Nat) (o : Option Nat) : List Nat := match o with | some j => g.run d j | none => []
def Gr.left (g : Gr) (o : Option Nat) : Nat := match o with | some j => g.n - j | none => 0
theorem Gr.run_rest {g : Gr} (hW : 0 < g.W) {d i : Nat} (hd : d < 2) : g.run d i = i :: g.rest d (g.st i d) := by
  cases h : g.st i d with
  | none => exact Gr.run_none h
  | some j => exact Gr.run_some hW hd h
theorem Gr.run_len256 {g : Gr} (hz : Sz g) (d i : Nat) : (g.run d i).length ≤ 257 := Nat.le_trans (g.run_len d i) (by have := hz.n_le.2; omega)

set_option maxHeartbeats 1000000 in
theorem run_any (g : Gr) (p : Ad) (hz : Sz g) (i : Nat) (hi : i < g.n) (dn : Bool) (gb : Nat) (w : World) (hX : Bx w gb g p) (hR : RG w g p) :
    Calls Tryd.prog 24 #[.int .i64 i, .bool dn, .pointer (some ⟨gb, 0, none⟩)] w fun e w' => ∃ v, e = .returned v ∧ w'.ownsRow w.heap.size 3 1 v (g.run (way dn) i).length (cellsI (ints (g.run (way dn) i))) ∧ Below w.heap.size w w' := by
  obtain ⟨i0, hi0, hz0, hz1, hz2⟩ := info_parts infoInt
  have HO : Aside (∀ b, b < g.n → ∀ W, Below w.heap.size w W → Calls Tryd.prog 25 #[gv g p, .int .i64 (b : Nat), .bool dn] W fun e w' => e = .returned (opt (g.st b (way dn))) ∧ Below W.heap.size W w') := fun b hb W h => onward_any g p hz b hb dn W (hR.below h)
  have HX : Aside (Bx w gb g p) := hX
  have hgb := hX.lt
  have hn := hz.n_le.2
  have HI : Aside (i < g.n) := hi
  have hi2 : i < 256 := by omega
  have HU : Aside (∀ b j, g.st b (way dn) = some j → b < j ∧ j < g.n) := fun b j h => by have := Gr.st_up hz.sw.1 (way_lt dn) h; omega
  have HRR : Aside (∀ b, g.run (way dn) b = b :: g.rest (way dn) (g.st b (way dn))) := fun b => Gr.run_rest hz.sw.1 (way_lt dn)
  have HL : Aside ((g.run (way dn) i).length ≤ 257) := Gr.run_len256 hz _ _
  clear hX hR hz hi
  unfold gv opt at HO
  have cO := HO.out i HI.out (w.alloc (Obj.cells #[Value.int IntKind.i64 (i : Int)] 3)) (below_box w _)
  obtain ⟨_, k0, k1, k2, k3, k4⟩ := HX.out
  go_enter Tryd.func24, Tryd.ntmps24
  go_wp2_with fail
  refine cO.mono ?_
  rintro e w1 ⟨rfl, hb1⟩
  have HB1 : Aside (Below w.heap.size w w1) := (below_box w _).trans (hb1.mono (below_box w _).size)
  have HOW : Aside (w1.ownsRow w.heap.size 3 1 (.slice (some ⟨w.heap.size, 0, none⟩) 1 1) 1 (cellsI (ints [i]))) :=
    row_keeps (W := w.alloc (.cells #[.int .i64 (i : Int)] 3)) ⟨rfl, .inr ⟨w.heap.size, 1, _, rfl, Nat.le_refl _, heap_alloc_new w _, Nat.le_refl _, by unfold maxLen; omega, rfl, rfl⟩⟩ hb1
  have HRi : Aside (g.run (way dn) i = [i] ++ g.rest (way dn) (g.st i (way dn))) := HRR.out i
  have HUi : Aside (∀ j, g.st i (way dn) = some j → j < g.n) := fun j h => (HU.out i j h).2
  clear cO hb1 k0 k1 k2 k3 k4
  have hle : g.left (g.st i (way dn)) ≤ g.n := by unfold Gr.left; split <;> omega
  generalize g.st i (way dn) = o0 at *
  go_wp2
  go_loopg [6, 7, 8] g.n (fun g1 cv jv ov wr => ∃ (L : List Nat) (o : Option Nat), jv = .int .i64 ((o.getD 0 : Nat) : Int) ∧ ov = .bool o.isSome ∧ g.left o ≤ g1 ∧ Aside (wr.ownsRow w.heap.size 3 1 cv L.length (cellsI (ints L))) ∧ Aside (g.run (way dn) i = L ++ g.rest (way dn) o) ∧ Aside (∀ j, o = some j → j < g.n) ∧ Aside (Below w.heap.size w wr))
  case atStart => exact ⟨[i], o0, rfl, rfl, hle, HOW, HRi, HUi, HB1⟩
  case round =>
    obtain ⟨L, o, rfl, rfl, hg, HO6, HRL, HUj, HBk⟩ := hrel
    cases o with
    | none =>
      simp only [Option.getD_none, Option.isSome_none]
      clear HOW HRi HUi hle hg
      go_wp2
      go_ret
      refine ⟨_, rfl, ?_, HBk.out⟩
      rw [HRL.out]
      simp only [Gr.rest, List.append_nil]
      exact HO6.out
    | some j =>
      have hj : j < g.n := HUj.out j rfl
      have hj2 : j < 256 := by omega
      have hzr := HBk.out.size
      have hLL : L.length ≤ 257 := by have := HL.out; rw [HRL.out, List.length_append] at this; omega
      simp only [Option.getD_some, Option.isSome_some]
      obtain ⟨_, k0, k1, k2, k3, k4⟩ := HX.out.below HBk.out HX.out.lt HBk.out.size
      have HLg : Aside (g.left (some j) = g.n - j) := rfl
      clear HOW HRi HUi hle
      go_wp2_with (at_builtin; refine wpList_append_own _ rfl _ _ 37 rfl w.heap.size 3 i0 (.int .i64 0) 1 8 Tryd.underlying37 hi0 hz0 hz1 hz2 rfl (by decide) _ _ _ rfl (HO6.out.alloc _) ⟨wr.heap.size, 0, none⟩ 1 1 [.int .i64 (j : Int)] rfl rfl (cell_one_new _ _ _) (by simp [Value.oneCell']) (by unfold maxLen; omega) (by omega) (by simp; omega) ?_)
      intro v' wa hown' hgrow _
      have HBa : Aside (Below w.heap.size w wa) := Below.grown (HBk.out.alloc hzr _) hgrow (by simp; omega) (fun j hj => (HO6.out.lt _ hj).1)
      have HOWa : Aside (wa.ownsRow w.heap.size 3 1 v' (L ++ [j]).length (cellsI (ints (L ++ [j])))) := by
        show wa.ownsRow _ _ _ _ _ _
        simp only [List.length_append, List.length_cons, List.length_nil, ints_snoc, cellsI_snoc]
        exact hown'
      have HRa : Aside (g.run (way dn) i = (L ++ [j]) ++ g.rest (way dn) (g.st j (way dn))) := by
        show _ = _
        rw [HRL.out, List.append_assoc]
        show L ++ g.run (way dn) j = _
        rw [HRR.out j]
        rfl
      have cO2 := HO.out j hj wa HBa.out
      have HUa : Aside (∀ k, g.st j (way dn) = some k → j < k ∧ k < g.n) := fun k h => HU.out j k h
      clear hown' hgrow k0 k1 k2 k3 k4
      obtain ⟨_, k0, k1, k2, k3, k4⟩ := HX.out.below HBa.out HX.out.lt HBa.out.size
      generalize g.st j (way dn) = o2 at *
      go_wp2_with fail
      refine cO2.mono ?_
      rintro e w3 ⟨rfl, hb3⟩
      have HBc : Aside (Below w.heap.size w w3) := HBa.out.trans (hb3.mono HBa.out.size)
      have HOWc : Aside (w3.ownsRow w.heap.size 3 1 v' (L ++ [j]).length (cellsI (ints (L ++ [j])))) := row_keeps HOWa.out hb3
      have hlt2 : g.left o2 < g.n - j := by
        cases o2 with
        | none => show 0 < g.n - j; omega
        | some k => have := HUa.out k rfl; show g.n - k < g.n - j; omega
      clear cO2 hb3 k0 k1 k2 k3 k4
      go_wp2
      go_roundg (g.left o2)
      case measure => have := HLg.out; omega
      case rel => exact ⟨L ++ [j], o2, rfl, rfl, Nat.le_refl _, HOWc, HRa, fun k h => (HUa.out k h).2, HBc⟩
end Go.Proofs.YthjgldjjplcncabDoor.Grd
/-
  A list of slots in memory of the call's own.
-/
namespace Go.Proofs.YthjgldjjplcncabDoor.Grd
open Go Go.Lib Go.RowKit

theorem infoSlot : (Tryd.prog.info? 39).map (fun i => (i.zero, i.size, i.bytes)) = some (some (.agg #[.int .i64 0, .bool false, .slice none 0 0]), 3, 40) := by kernel_rfl
theorem infoSeat : (Tryd.prog.info? 77).map (fun i => (i.zero, i.size, i.bytes)) = some (some (.agg #[.int .i64 0, .int .i64 0]), 2, 16) := by kernel_rfl
/-- The cells of a list of slots: the slots' lists lie elsewhere. -/
def slCells : List Sl → List Value → List Value
  | s :: r, u :: us => .int .i64 (s.num : Int) :: .bool s.dn :: u :: slCells r us
  | _, _ => []
theorem slCells_length : ∀ (L : List Sl) (us : List Value), us.length = L.length → (slCells L us).length = L.length * 3
  | [], [], _ => rfl
  | s :: r, u :: us, h => by
    simp only [slCells, List.length_cons] at h ⊢
    rw [slCells_length r us (by omega)]
    omega
theorem slCells_snoc (s : Sl) (u : Value) : ∀ (L : List Sl) (us : List Value), us.length = L.length → slCells (L ++ [s]) (us ++ [u]) = slCells L us ++ [.int .i64 (s.num : Int), .bool s.dn, u]
  | [], [], _ => rfl
  | _ :: r, _ :: us, h => by
    simp only [slCells, List.cons_append]
    rw [slCells_snoc s u r us (by simpa using h)]
theorem slCells_at : ∀ (L : List Sl) (us : List Value) (k : Nat) (s : Sl) (u : Value), L[k]? = some s → us[k]? = some u → (slCells L us)[3 * k]? = some (.int .i64 (s.num : Int)) ∧ (slCells L us)[3 * k + 1]? = some (.bool s.dn) ∧ (slCells L us)[3 * k + 2]? = some u
  | [], _, k, s, u, h, _ => by simp at h
  | _ :: _, [], k, s, u, _, h => by simp at h
  | x :: r, y :: us, 0, s, u, h, h2 => by
    simp only [List.getElem?_cons_zero, Option.some.injEq] at h h2
    subst h h2
    simp [slCells]
  | x :: r, y :: us, k + 1, s, u, h, h2 => by
    have := slCells_at r us k s u (by simpa using h) (by simpa using h2)
    simp only [slCells]
    refine ⟨?_, ?_, ?_⟩
    · rw [show 3 * (k + 1) = 3 * k + 1 + 1 + 1 by omega]; simpa using this.1
    · rw [show 3 * (k + 1) + 1 = 3 * k + 1 + 1 + 1 + 1 by omega]; simpa using this.2.1
    · rw [show 3 * (k + 1) + 2 = 3 * k + 2 + 1 + 1 + 1 by omega]; simpa using this.2.2
/-- A list of slots, in memory from B on; the slots' lists, no two in one block. -/
structure OwnL (W : World) (B : Nat) (v : Value) (L : List Sl) (us : List Value) : Prop where
  row : W.ownsRow B 39 3 v L.length (slCells L us)
  len : us.length = L.length
  each : ∀ (k : Nat) (s : Sl) (u : Value), L[k]? = some s → us[k]? = some u → W.ownsRow B 3 1 u s.cs.length (cellsI (ints s.cs))
  two : (us.map Value.ownBlock).Nodup
theorem row_keeps3 {W W' : World} {B n z : Nat} {e : TypeId} {v : Value} {xs : List Value} (h : W.ownsRow B e z v n xs) (hb : Below W.heap.size W W') : W'.ownsRow B e z v n xs := by
  rcases h with ⟨h1, h2 | ⟨g, cap, cur, e1, e2, e3, e4⟩⟩
  · exact ⟨h1, .inl h2⟩
  · exact ⟨h1, .inr ⟨g, cap, cur, e1, e2, (hb.block g (Array.getElem?_eq_some_iff.1 e3).1).trans e3, e4⟩⟩
theorem row_base3 {W : World} {B B' n z : Nat} {e : TypeId} {v : Value} {xs : List Value} (h : W.ownsRow B e z v n xs) (hb : B' ≤ B) : W.ownsRow B' e z v n xs := by
  rcases h with ⟨h1, h2 | ⟨g, cap, cur, e1, e2, e3, e4⟩⟩
  · exact ⟨h1, .inl h2⟩
  · exact ⟨h1, .inr ⟨g, cap, cur, e1, Nat.le_trans hb e2, e3, e4⟩⟩
theorem OwnL.keep {W W' : World} {B : Nat} {v : Value} {L : List Sl} {us : List Value} (h : OwnL W B v L us) (hb : Below W.heap.size W W') : OwnL W' B v L us :=
  ⟨row_keeps3 h.row hb, h.len, fun k s u h1 h2 => row_keeps3 (h.each k s u h1 h2) hb, h.two⟩
theorem OwnL.alloc {W : World} {B : Nat} {v : Value} {L : List Sl} {us : List Value} (h : OwnL W B v L us) (o : Obj) : OwnL (W.alloc o) B v L us := h.keep ((Below.refl _ _).alloc (Nat.le_refl _) o)
theorem OwnL.base {W : World} {B B' : Nat} {v : Value} {L : List Sl} {us : List Value} (h : OwnL W B v L us) (hb : B' ≤ B) : OwnL W B' v L us :=
  ⟨row_base3 h.row hb, h.len, fun k s u h1 h2 => row_base3 (h.each k s u h1 h2) hb, h.two⟩
theorem OwnL.nil (W : World) (B : Nat) : OwnL W B (.slice none 0 0) [] [] := ⟨World.ownsRow_nil _ _ _ _, rfl, fun k s u h => by simp at h, List.nodup_nil⟩
theorem slot_apart {W : World} {B B' n m j : Nat} {v u : Value} {xs ys : List Value} (h1 : W.ownsRow B 39 3 v n xs) (h2 : W.ownsRow B' 3 1 u m ys) (e1 : u.ownBlock = some j) : v.ownBlock ≠ some j := by
  intro e2
  rcases h1.2 with ⟨rfl, _⟩ | ⟨g, cap, cur, rfl, _, k1, _⟩
  · cases e2
  · rcases h2.2 with ⟨rfl, _⟩ | ⟨g', cap', cur', rfl, _, k2, _⟩
    · cases e1
    · cases e1
      cases e2
      rw [k1] at k2
      cases k2
theorem row_grown {W W' : World} {B n z : Nat} {e : TypeId} {v : Value} {xs : List Value} {b : Option Nat} (h : W.ownsRow B e z v n xs) (hg : W.grownBy W' b) (hne : ∀ j, v.ownBlock = some j → b ≠ some j) : W'.ownsRow B e z v n xs := by
  rcases h with ⟨h1, h2 | ⟨g, cap, cur, e1, e2, e3, e4⟩⟩
  · exact ⟨h1, .inl h2⟩
  · refine ⟨h1, .inr ⟨g, cap, cur, e1, e2, (hg.block g (Array.getElem?_eq_some_iff.1 e3).1 fun h => ?_).trans e3, e4⟩⟩
    subst e1
    exact hne g rfl h.symm
/-- One slot more. -/
theorem OwnL.snoc {W w1 : World} {B : Nat} {v v' u : Value} {L : List Sl} {us : List Value} {s : Sl} (h : OwnL W B v L us)
    (hx : W.ownsRow B 3 1 u s.cs.length (cellsI (ints s.cs))) (hnew : ∀ j, u.ownBlock = some j → ∀ y ∈ us, y.ownBlock ≠ some j) (hsome : ∃ j, u.ownBlock = some j)
    (hg : W.grownBy w1 v.ownBlock) (hr : w1.ownsRow B 39 3 v' (L.length + 1) (slCells L us ++ [.int .i64 (s.num : Int), .bool s.dn, u])) : OwnL w1 B v' (L ++ [s]) (us ++ [u]) := by
  refine ⟨by rw [List.length_append, slCells_snoc s u L us h.len]; exact hr, by rw [List.length_append, List.length_append, h.len]; rfl, fun k t y h1 h2 => ?_, ?_⟩
  · by_cases e : k < L.length
    · rw [List.getElem?_append_left e] at h1
      rw [List.getElem?_append_left (by rw [h.len]; exact e)] at h2
      have hy := h.each k t y h1 h2
      exact row_grown hy hg fun j hj => slot_apart h.row hy hj
    · have hk : k = L.length := by have := (List.getElem?_eq_some_iff.1 h1).1; simp at this; omega
      subst hk
      rw [List.getElem?_append_right (Nat.le_refl _), Nat.sub_self] at h1
      rw [List.getElem?_append_right (by rw [h.len]; exact Nat.le_refl _), h.len, Nat.sub_self] at h2
      simp at h1 h2
      subst h1 h2
      exact row_grown hx hg fun j hj => slot_apart h.row hx hj
  · rw [List.map_append, List.nodup_append]
    refine ⟨h.two, by simp, fun a ha b hb => ?_⟩
    obtain ⟨y, hy, rfl⟩ := List.mem_map.1 ha
    obtain ⟨j, hj⟩ := hsome
    simp at hb
    subst hb
    intro e
    exact hnew j hj y hy (e.trans hj)
end Go.Proofs.YthjgldjjplcncabDoor.Grd
/-
  The program's List.
-/
namespace Go.Proofs.YthjgldjjplcncabDoor.Grd
open Go Go.Lib Go.RowKit

/-- The list behind k directions of the cell i. -/
def Gr.nbd (g : Gr) (i k : Nat) : Bool := (decide (1 ≤ k) && g.beg 0 i) || (decide (2 ≤ k) && g.beg 1 i)
def Gr.numK (g : Gr) (i k : Nat) : Nat := g.numTo i + if g.nbd i k then 1 else 0
def Gr.slK (g : Gr) (i k : Nat) : List Sl := g.slTo i ++ ((if decide (1 ≤ k) && g.beg 0 i then [⟨g.numTo (i + 1), false, g.run 0 i⟩] else []) ++ (if decide (2 ≤ k) && g.beg 1 i then [⟨g.numTo (i + 1), true, g.run 1 i⟩] else []))
theorem Gr.slK_zero (g : Gr) (i : Nat) : g.slK i 0 = g.slTo i ∧ g.numK i 0 = g.numTo i ∧ g.nbd i 0 = false := by simp [Gr.slK, Gr.numK, Gr.nbd]
theorem Gr.slK_two (g : Gr) (i : Nat) : g.slK i 2 = g.slTo (i + 1) ∧ g.numK i 2 = g.numTo (i + 1) := by simp [Gr.slK, Gr.numK, Gr.nbd, Gr.slTo, Gr.slAt, Gr.numTo]
theorem Gr.slK_no (g : Gr) (i : Nat) (dn : Bool) (h : g.beg (way dn) i = false) : g.slK i (way dn + 1) = g.slK i (way dn) ∧ g.numK i (way dn + 1) = g.numK i (way dn) ∧ g.nbd i (way dn + 1) = g.nbd i (way dn) := by
  cases dn with
  | false => simp only [way, Bool.false_eq_true, if_false] at h ⊢; simp [Gr.slK, Gr.numK, Gr.nbd, h]
  | true => simp only [way, if_true] at h ⊢; simp [Gr.slK, Gr.numK, Gr.nbd, h]
theorem Gr.slK_yes (g : Gr) (i : Nat) (dn : Bool) (h : g.beg (way dn) i = true) : g.slK i (way dn + 1) = g.slK i (way dn) ++ [⟨g.numK i (way dn + 1), dn, g.run (way dn) i⟩] ∧ g.numK i (way dn + 1) = (if g.nbd i (way dn) then g.numK i (way dn) else g.numK i (way dn) + 1) ∧ g.nbd i (way dn + 1) = true := by
  cases dn with
  | false => simp only [way, Bool.false_eq_true, if_false] at h ⊢; simp [Gr.slK, Gr.numK, Gr.nbd, Gr.numTo, h]
  | true => simp only [way, if_true] at h ⊢; cases h0 : g.beg 0 i <;> simp [Gr.slK, Gr.numK, Gr.nbd, Gr.numTo, h, h0]
theorem Gr.slK_len (g : Gr) (i k : Nat) : (g.slK i k).length ≤ 2 * i + 2 := by
  have := g.slTo_len i
  unfold Gr.slK
  simp only [List.length_append]
  have h1 : (if decide (1 ≤ k) && g.beg 0 i then [(⟨g.numTo (i + 1), false, g.run 0 i⟩ : Sl)] else []).length ≤ 1 := by split <;> simp
  have h2 : (if decide (2 ≤ k) && g.beg 1 i then [(⟨g.numTo (i + 1), true, g.run 1 i⟩ : Sl)] else []).length ≤ 1 := by split <;> simp
  omega
theorem Gr.numK_le (g : Gr) (i k : Nat) : g.numK i k ≤ i + 1 := by
  have := g.numTo_le i
  unfold Gr.numK
  split <;> omega
theorem cell3_new (w : World) (x y z : Value) (t : TypeId) : ∀ j u, [x, y, z][j]? = some u → (w.alloc (.cells #[x, y, z] t)).cell? ((⟨w.heap.size, 0, none⟩ : Addr).add j) = some u := by
  intro j u h
  rw [Addr.add_lit, cells_box]
  simpa using h
theorem row_blk {W : World} {B n z : Nat} {e : TypeId} {v : Value} {xs : List Value} (h : W.ownsRow B e z v n xs) (hn : 0 < n) : ∃ j, v.ownBlock = some j ∧ B ≤ j ∧ j < W.heap.size := by
  rcases h.2 with ⟨_, h0⟩ | ⟨g, cap, cur, rfl, hb, _⟩
  · omega
  · exact ⟨g, rfl, h.lt g rfl⟩
theorem OwnL.blocks {W : World} {B : Nat} {v : Value} {L : List Sl} {us : List Value} (h : OwnL W B v L us) : ∀ y ∈ us, ∀ j, y.ownBlock = some j → j < W.heap.size := by
  intro y hy j hj
  obtain ⟨k, hk, rfl⟩ := List.mem_iff_getElem.1 hy
  have hk2 : k < L.length := by rw [← h.len]; exact hk
  exact ((h.each k L[k] us[k] (List.getElem?_eq_getElem hk2) (List.getElem?_eq_getElem hk)).lt j hj).2

set_option maxHeartbeats 2000000 in
set_option maxRecDepth 20000 in
theorem List_ok (g : Gr) (p : Ad) (hok : g.ok) (w : World) (hw : Wy w) (hR : RG w g p) :
    Calls Tryd.prog 10 #[gv g p] w fun e w' => ∃ v us, e = .returned v ∧ OwnL w' w.heap.size v g.sl us ∧ Below w.heap.size w w' := by
  have hr := Gr.right_of hok
  have hz := hr.sz
  have cC := check_any g p (w.alloc (.cells #[.int .i64 g.h, .int .i64 g.w, .slice p.a1 g.B.length p.c1, .slice p.a2 g.R.length p.c2, .slice p.a3 g.D.length p.c3] 27)) (hw.below hw.size (below_box w _)) (hR.below (below_box w _))
  rw [show g.chk = 0 from hok] at cC
  have HQ : Aside (∀ i, i < g.n → ∀ dn W, Below w.heap.size w W → Calls Tryd.prog 26 #[gv g p, .int .i64 (i : Nat), .bool dn] W fun e w' => e = .returned (.bool (g.st i (way dn + 2)).isSome) ∧ Below W.heap.size W w') := fun i hi dn W h => isReached_any g p hz i hi dn W (hR.below h)
  have HC : Aside (∀ i, i < g.n → ∀ dn W, Below w.heap.size w W → Bx W w.heap.size g p → Calls Tryd.prog 24 #[.int .i64 (i : Nat), .bool dn, .pointer (some ⟨w.heap.size, 0, none⟩)] W fun e w' => ∃ v, e = .returned v ∧ w'.ownsRow W.heap.size 3 1 v (g.run (way dn) i).length (cellsI (ints (g.run (way dn) i))) ∧ Below W.heap.size W w') := fun i hi dn W h hX => run_any g p hz i hi dn _ W hX (hR.below h)
  have HL2 : Aside (∀ d i, (g.run d i).length ≤ 257 ∧ 1 ≤ (g.run d i).length) := fun d i => ⟨Gr.run_len256 hz d i, g.run_pos d i⟩
  have HB2 : Aside (∀ i dn, g.beg (way dn) i = ((g.st i (way dn + 2)).isNone && decide (2 ≤ (g.run (way dn) i).length))) := fun i dn => by
    unfold Gr.beg
    congr 1
    rw [Bool.eq_iff_iff, decide_eq_true_eq]
    exact (Gr.run_two hz.sw.1 (way_lt dn)).symm
  have hn := hz.n_le.2
  have HBl : Aside (g.B.length = g.n) := hr.bl
  have HS : Aside (g.sl = g.slTo g.n) := by show g.sl = _; unfold Gr.sl; rw [if_pos hok]
  obtain ⟨i0, hi0, hz0, hz1, hz2⟩ := info_parts infoSlot
  unfold gv at cC HQ
  unfold gv
  clear hr hz hok
  go_enter Tryd.func10, Tryd.ntmps10
  go_wp2_with fail
  refine cC.mono ?_
  rintro e w1 ⟨rfl, hb1⟩
  have HX1 : Aside (Bx w1 w.heap.size g p) := (Bx.new w g p 27).keep hb1
  have HB1 : Aside (Below w.heap.size w w1) := (below_box w _).trans (hb1.mono (below_box w _).size)
  obtain ⟨_, k0, k1, k2, k3, k4⟩ := HX1.out
  clear hw hR cC hb1
  go_wp2
  have hBl : g.B.length = g.n := HBl.out
  rw [hBl]
  clear hBl
  clear k0 k1 k2 k3 k4
  go_loopg [4, 5, 18] g.n (fun g1 lv nv iv wr => ∃ (i : Nat) (us : List Value), nv = .int .i64 (g.numTo i : Nat) ∧ iv = .int .i64 (i : Nat) ∧ i ≤ g.n ∧ g.n - i ≤ g1 ∧ Aside (OwnL wr w1.heap.size lv (g.slTo i) us) ∧ Aside (Below w1.heap.size w1 wr))
  case atStart => exact ⟨0, [], rfl, rfl, Nat.zero_le _, Nat.le_refl _, OwnL.nil _ _, Below.refl _ _⟩
  case round =>
    obtain ⟨i, us, rfl, rfl, hin, hg, HOL, HBk⟩ := hrel
    by_cases hlt : i < g.n
    · have hltz : (i : Int) < (g.n : Int) := by omega
      have HI : Aside (i < g.n) := hlt
      have HG : Aside _ := hg
      generalize wr = w14 at *
      clear hg
      go_wp2
      go_step3
      go_wp2
      go_step3
      go_wp2
      go_loopg [4, 5, 7, 22] 2 (fun g2 lv nv bv jv wr => ∃ (k : Nat) (us : List Value), nv = .int .i64 (g.numK i k : Nat) ∧ bv = .bool (g.nbd i k) ∧ jv = .int .i64 (k : Nat) ∧ k ≤ 2 ∧ 2 - k ≤ g2 ∧ Aside (OwnL wr w1.heap.size lv (g.slK i k) us) ∧ Aside (Below w1.heap.size w1 wr))
      case atStart =>
        obtain ⟨z1, z2, z3⟩ := g.slK_zero i
        refine ⟨0, us, ?_, ?_, rfl, by omega, by omega, ?_, HBk⟩
        · rw [z2]
        · rw [z3]
        · rw [z1]; exact HOL
      case round =>
        obtain ⟨k, us, rfl, rfl, rfl, hk, hg2, HOL2, HBj⟩ := hrel
        by_cases hlk : k < 2
        · have HBw : Aside (Below w.heap.size w wr) := HB1.out.trans (HBj.out.mono HB1.out.size)
          obtain ⟨dn, rfl⟩ : ∃ dn : Bool, k = way dn := by
            have : k = 0 ∨ k = 1 := by omega
            rcases this with rfl | rfl
            · exact ⟨false, rfl⟩
            · exact ⟨true, rfl⟩
          have cQ := HQ.out i HI.out dn wr HBw.out
          have HBE : Aside (g.beg (way dn) i = ((g.st i (way dn + 2)).isNone && decide (2 ≤ (g.run (way dn) i).length))) := HB2.out i dn
          have HX2 : Aside (Bx wr w.heap.size g p) := HX1.out.keep HBj.out
          obtain ⟨_, k0, k1, k2, k3, k4⟩ := HX2.out
          have hltw : ((way dn : Nat) : Int) < 2 := by omega
          have HNO : Aside _ := g.slK_no i dn
          have HYES : Aside _ := g.slK_yes i dn
          have HLEN : Aside _ := g.slK_len i (way dn)
          have HNUM : Aside _ := g.numK_le i (way dn)
          have hil : i < 256 := by have := HI.out; omega
          have x0 : ∀ w : World, (Instr.index 69 (.agg #[.bool false, .bool true]) (.int .i64 ((way dn : Nat) : Int))).run Tryd.prog w = .ok (.bool dn) w := fun _ => by cases dn <;> kernel_rfl
          have hwd : way dn < 2 := hlk
          have hrl := HL2.out (way dn) i
          have HCd : Aside (∀ W, Below w.heap.size w W → Bx W w.heap.size g p → Calls Tryd.prog 24 #[.int .i64 (i : Nat), .bool dn, .pointer (some ⟨w.heap.size, 0, none⟩)] W fun e w' => ∃ v, e = .returned v ∧ w'.ownsRow W.heap.size 3 1 v (g.run (way dn) i).length (cellsI (ints (g.run (way dn) i))) ∧ Below W.heap.size W w') := fun W h1 h2 => HC.out i HI.out dn W h1 h2
          generalize way dn = d at *
          cases hq : (g.st i (d + 2)).isSome with
          | true =>
            rw [hq] at cQ
            have hn1 : (g.st i (d + 2)).isNone = false := by rw [← Option.not_isSome, hq]; rfl
            obtain ⟨z1, z2, z3⟩ := HNO.out (by rw [HBE.out, hn1, Bool.false_and])
            have HZ1 : Aside (g.slK i (d + 1) = g.slK i d) := z1
            have HZ2 : Aside (g.numK i (d + 1) = g.numK i d) := z2
            have HZ3 : Aside (g.nbd i (d + 1) = g.nbd i d) := z3
            clear hq hn1 z1 z2 z3 HBE
            go_wp2_with fail
            refine cQ.mono ?_
            rintro e w3 ⟨rfl, hb3⟩
            have HBc : Aside (Below w1.heap.size w1 w3) := HBj.out.trans (hb3.mono HBj.out.size)
            have HOL3 : Aside (OwnL w3 w1.heap.size u4 (g.slK i d) us) := HOL2.out.keep hb3
            clear cQ hb3
            go_wp2
            go_roundg (2 - (d + 1))
            case measure => omega
            case rel => exact ⟨d + 1, us, by rw [HZ2.out], by rw [HZ3.out], by go_num, by omega, Nat.le_refl _, by rw [HZ1.out]; exact HOL3, HBc⟩
          | false =>
            rw [hq] at cQ
            have hn1 : (g.st i (d + 2)).isNone = true := by rw [← Option.not_isSome, hq]; rfl
            have HBE2 : Aside (g.beg d i = decide (2 ≤ (g.run d i).length)) := by show _ = _; rw [HBE.out, hn1, Bool.true_and]
            clear hq hn1 HBE
            go_wp2_with fail
            refine cQ.mono ?_
            rintro e w3 ⟨rfl, hb3⟩
            have HBc : Aside (Below w1.heap.size w1 w3) := HBj.out.trans (hb3.mono HBj.out.size)
            have HBd : Aside (Below w.heap.size w w3) := HBw.out.trans (hb3.mono HBw.out.size)
            have HOL3 : Aside (OwnL w3 w1.heap.size u4 (g.slK i d) us) := HOL2.out.keep hb3
            have HX3 : Aside (Bx w3 w.heap.size g p) := HX2.out.keep hb3
            have cR := HCd.out w3 HBd.out HX3.out
            clear cQ hb3 k0 k1 k2 k3 k4
            go_wp2_with fail
            refine cR.mono ?_
            rintro e w4 ⟨v, rfl, hrow, hb4⟩
            have HB4 : Aside (Below w1.heap.size w1 w4) := HBc.out.trans (hb4.mono HBc.out.size)
            have HOL4 : Aside (OwnL w4 w1.heap.size u4 (g.slK i d) us) := HOL3.out.keep hb4
            have HS4 : Aside (w3.heap.size ≤ w4.heap.size) := hb4.size
            have HROW : Aside (w4.ownsRow w3.heap.size 3 1 v (g.run d i).length (cellsI (ints (g.run d i)))) := hrow
            obtain ⟨ao, cap, rfl, hle, _⟩ := row_reads hrow
            rw [← hle]
            rw [← hle] at HROW
            have hl2 := hrl.1
            clear cR hb4 hrow hle
            by_cases h2 : 2 ≤ (g.run d i).length
            · have h2z : ¬ ((g.run d i).length : Int) < 2 := by omega
              obtain ⟨z1, z2, z3⟩ := HYES.out (by rw [HBE2.out]; exact decide_eq_true h2)
              have HZ1 : Aside (g.slK i (d + 1) = g.slK i d ++ [⟨g.numK i (d + 1), dn, g.run d i⟩]) := z1
              have HZ3 : Aside (g.nbd i (d + 1) = true) := z3
              have hlen := HLEN.out
              have hnum := HNUM.out
              have hs4 : w1.heap.size ≤ w4.heap.size := HB4.out.size
              have HBk3 : Aside (w1.heap.size ≤ w3.heap.size) := HBc.out.size
              have hbk := row_blk HROW.out (by omega)
              have HSOME : Aside (∃ j, (Value.slice ao (g.run d i).length cap).ownBlock = some j) := ⟨hbk.choose, hbk.choose_spec.1⟩
              have HNEW : Aside (∀ j, (Value.slice ao (g.run d i).length cap).ownBlock = some j → ∀ y ∈ us, y.ownBlock ≠ some j) := fun j hj y hy e => by
                have h1 := HOL3.out.blocks y hy j e
                have h3 := (HROW.out.lt j hj).1
                omega
              clear z1 z3
              cases hnb : g.nbd i d with
              | false =>
                rw [hnb] at z2
                have HNN : Aside (((g.numK i (d + 1) : Nat) : Int) = ((g.numK i d : Nat) : Int) + 1) := by show _ = _; rw [z2]; simp
                clear z2 hnb
                go_wp2_with (at_builtin; refine wpList_append_own _ rfl _ _ 35 rfl w1.heap.size 39 i0 (.agg #[.int .i64 0, .bool false, .slice none 0 0]) 3 40 Tryd.underlying35 hi0 hz0 hz1 hz2 rfl (by decide) _ _ _ rfl (HOL4.out.row.alloc _) ⟨w4.heap.size, 0, none⟩ 1 1 [.int .i64 (((g.numK i d : Nat) : Int) + 1), .bool dn, .slice ao (g.run d i).length cap] rfl rfl (cell3_new _ _ _ _ _) (by simp [Value.oneCell']) (by unfold maxLen; omega) (by omega) (by rw [World.size_alloc]; omega) ?_)
                intro v' wa hown' hgrow _
                have HOLa : Aside (OwnL wa w1.heap.size v' (g.slK i (d + 1)) (us ++ [.slice ao (g.run d i).length cap])) := by
                  show OwnL _ _ _ _ _
                  rw [HZ1.out]
                  refine (HOL4.out.alloc _).snoc (s := ⟨g.numK i (d + 1), dn, g.run d i⟩) ((row_base HROW.out HBk3.out).alloc _) HNEW.out HSOME.out hgrow ?_
                  rw [HNN.out]
                  exact hown'
                have HBa : Aside (Below w1.heap.size w1 wa) := Below.grown (HB4.out.alloc HB4.out.size _) hgrow (by rw [World.size_alloc]; have := HB4.out.size; omega) (fun j hj => (HOL4.out.row.lt _ hj).1)
                clear hown' hgrow
                go_wp2
                go_roundg (2 - (d + 1))
                case measure => omega
                case rel => exact ⟨d + 1, _, by rw [HNN.out], by rw [HZ3.out], by go_num, by omega, Nat.le_refl _, HOLa, HBa⟩
              | true =>
                rw [hnb] at z2
                have HNN : Aside (((g.numK i (d + 1) : Nat) : Int) = ((g.numK i d : Nat) : Int)) := by show _ = _; rw [z2]; simp
                clear z2 hnb
                go_wp2_with (at_builtin; refine wpList_append_own _ rfl _ _ 35 rfl w1.heap.size 39 i0 (.agg #[.int .i64 0, .bool false, .slice none 0 0]) 3 40 Tryd.underlying35 hi0 hz0 hz1 hz2 rfl (by decide) _ _ _ rfl (HOL4.out.row.alloc _) ⟨w4.heap.size, 0, none⟩ 1 1 [.int .i64 (((g.numK i d : Nat) : Int)), .bool dn, .slice ao (g.run d i).length cap] rfl rfl (cell3_new _ _ _ _ _) (by simp [Value.oneCell']) (by unfold maxLen; omega) (by omega) (by rw [World.size_alloc]; omega) ?_)
                intro v' wa hown' hgrow _
                have HOLa : Aside (OwnL wa w1.heap.size v' (g.slK i (d + 1)) (us ++ [.slice ao (g.run d i).length cap])) := by
                  show OwnL _ _ _ _ _
                  rw [HZ1.out]
                  refine (HOL4.out.alloc _).snoc (s := ⟨g.numK i (d + 1), dn, g.run d i⟩) ((row_base HROW.out HBk3.out).alloc _) HNEW.out HSOME.out hgrow ?_
                  rw [HNN.out]
                  exact hown'
                have HBa : Aside (Below w1.heap.size w1 wa) := Below.grown (HB4.out.alloc HB4.out.size _) hgrow (by rw [World.size_alloc]; have := HB4.out.size; omega) (fun j hj => (HOL4.out.row.lt _ hj).1)
                clear hown' hgrow
                go_wp2
                go_roundg (2 - (d + 1))
                case measure => omega
                case rel => exact ⟨d + 1, _, by rw [HNN.out], by rw [HZ3.out], by go_num, by omega, Nat.le_refl _, HOLa, HBa⟩
            · have h2z : ((g.run d i).length : Int) < 2 := by omega
              obtain ⟨z1, z2, z3⟩ := HNO.out (by rw [HBE2.out]; exact decide_eq_false h2)
              have HZ1 : Aside (g.slK i (d + 1) = g.slK i d) := z1
              have HZ2 : Aside (g.numK i (d + 1) = g.numK i d) := z2
              have HZ3 : Aside (g.nbd i (d + 1) = g.nbd i d) := z3
              clear z1 z2 z3
              go_wp2
              go_roundg (2 - (d + 1))
              case measure => omega
              case rel => exact ⟨d + 1, us, by rw [HZ2.out], by rw [HZ3.out], by go_num, by omega, Nat.le_refl _, by rw [HZ1.out]; exact HOL4, HB4⟩
        · obtain rfl : k = 2 := by omega
          obtain ⟨z1, z2⟩ := g.slK_two i
          have HZ1 : Aside (g.slK i 2 = g.slTo (i + 1)) := z1
          have HBz : Aside (Below w1.heap.size w1 wr) := HBj
          rw [z2]
          clear z1 z2
          go_wp2
          rw [Exit.noGoto_normal]
          go_wp2
          go_roundg (g.n - (i + 1))
          case measure => have := HG.out; have := HI.out; omega
          case rel => exact ⟨i + 1, us, rfl, by go_num, HI.out, Nat.le_refl _, by rw [← HZ1.out]; exact HOL2, HBz⟩
    · have hltz : ¬ (i : Int) < (g.n : Int) := by omega
      obtain rfl : i = g.n := by omega
      go_wp2
      go_ret
      refine ⟨_, rfl, ⟨us, ?_⟩, HB1.out.trans (HBk.out.mono HB1.out.size)⟩
      rw [HS.out]
      exact HOL.out.base HB1.out.size
end Go.Proofs.YthjgldjjplcncabDoor.Grd
