/-
  The program's List of any grid; a list of slots, read.
-/
import Derived.Test.YthjgldjjplcncabDoorGsl
import Derived.Deep.CutRange
import Derived.Deep.RegionWith
namespace Go.Proofs.YthjgldjjplcncabDoor.Grd
open Go Go.Lib Go.RowKit

set_option maxHeartbeats 1000000 in
theorem List_shut (g : Gr) (p : Ad) (hc : ¬ g.ok) (w : World) (hw' : Wy w) (hR : RG w g p) :
    Calls Tryd.prog 10 #[gv g p] w fun e w' => e = .returned (.slice none 0 0) ∧ Below w.heap.size w w' := by
  have cC := check_any g p (w.alloc (.cells #[.int .i64 g.h, .int .i64 g.w, .slice p.a1 g.B.length p.c1, .slice p.a2 g.R.length p.c2, .slice p.a3 g.D.length p.c3] 27)) (hw'.below hw'.size (below_box w _)) (hR.below (below_box w _))
  have hc2 : ¬ g.chk = 0 := hc
  have hc3 : ¬ ((g.chk : Nat) : Int) = 0 := by omega
  unfold gv at cC
  unfold gv
  clear hR hw' hc
  go_enter Tryd.func10, Tryd.ntmps10
  go_wp2_with fail
  refine cC.mono ?_
  rintro e w1 ⟨rfl, hb1⟩
  have HB1 : Aside (Below w.heap.size w w1) := (below_box w _).trans (hb1.mono (below_box w _).size)
  clear cC hb1
  go_wp2
  go_ret
  exact ⟨rfl, HB1.out⟩
theorem Gr.sl_shut {g : Gr} (h : ¬ g.ok) : g.sl = [] := by unfold Gr.sl; rw [if_neg h]
theorem List_any (g : Gr) (p : Ad) (w : World) (hw : Wy w) (hR : RG w g p) :
    Calls Tryd.prog 10 #[gv g p] w fun e w' => ∃ v us, e = .returned v ∧ OwnL w' w.heap.size v g.sl us ∧ Below w.heap.size w w' := by
  by_cases hok : g.ok
  · exact List_ok g p hok w hw hR
  · refine (List_shut g p hok w hw hR).mono ?_
    rintro e w' ⟨rfl, hb⟩
    exact ⟨_, [], rfl, by rw [Gr.sl_shut hok]; exact OwnL.nil _ _, hb⟩

/-- A list of slots, wherever it lies. -/
def ReadsL (W : World) (ao : Option Addr) (L : List Sl) : Prop := ∀ (k : Nat) (s : Sl), L[k]? = some s → ∃ b a' c', ao = some ⟨b, 0, none⟩ ∧ b < W.heap.size ∧ W.cell? ⟨b, k * 3, none⟩ = some (.int .i64 (s.num : Int)) ∧ W.cell? ⟨b, k * 3 + 1, none⟩ = some (.bool s.dn) ∧ W.cell? ⟨b, k * 3 + 2, none⟩ = some (.slice a' s.cs.length c') ∧ ReadsI W a' (ints s.cs)
theorem ReadsL.below {W W' : World} {ao : Option Addr} {L : List Sl} (h : ReadsL W ao L) (hb : Below W.heap.size W W') : ReadsL W' ao L := fun k s hk => by
  obtain ⟨b, a', c', h1, h2, h3, h4, h5, h6⟩ := h k s hk
  exact ⟨b, a', c', h1, Nat.lt_of_lt_of_le h2 hb.size, (hb.cell (p := ⟨b, k * 3, none⟩) h2).trans h3, (hb.cell (p := ⟨b, k * 3 + 1, none⟩) h2).trans h4, (hb.cell (p := ⟨b, k * 3 + 2, none⟩) h2).trans h5, h6.below hb⟩
theorem OwnL.read {W : World} {B : Nat} {v : Value} {L : List Sl} {us : List Value} (h : OwnL W B v L us) : ∃ ao cap, v = .slice ao L.length cap ∧ ReadsL W ao L := by
  have hr := h.row
  rcases hr.2 with ⟨rfl, h0⟩ | ⟨g, cap, cur, rfl, hb, _⟩
  · exact ⟨none, 0, by rw [h0], fun k s hk => by have := (List.getElem?_eq_some_iff.1 hk).1; omega⟩
  · refine ⟨_, cap, rfl, fun k s hk => ?_⟩
    have hkl := (List.getElem?_eq_some_iff.1 hk).1
    have hu : us[k]? = some (us[k]'(by rw [h.len]; exact hkl)) := List.getElem?_eq_getElem _
    generalize us[k]'(by rw [h.len]; exact hkl) = u at hu
    obtain ⟨c1, c2, c3⟩ := slCells_at L us k s u hk hu
    obtain ⟨a', c', rfl, _, hR⟩ := row_reads (h.each k s u hk hu)
    have cell := fun (j : Nat) (x : Value) (hx : (slCells L us)[j]? = some x) => by
      have := hr.cells (g := g) rfl j x hx
      rwa [show (⟨g, 0, none⟩ : Addr).add j = ⟨g, j, none⟩ by unfold Addr.add; split <;> simp_all] at this
    rw [ints_length] at c3
    rw [Nat.mul_comm 3 k] at c1 c2 c3
    exact ⟨g, a', c', rfl, (hr.lt g rfl).2, cell _ _ c1, cell _ _ c2, cell _ _ c3, hR⟩

/-- The place of the slot with this number and direction. -/
def findIx (num : Int) (dn : Bool) : List Sl → Nat → Int
  | [], _ => -1
  | s :: r, k => if (s.num : Int) = num ∧ s.dn = dn then (k : Int) else findIx num dn r (k + 1)
theorem findIx_at {num : Int} {dn : Bool} {L : List Sl} {k : Nat} {s : Sl} (h : L[k]? = some s) : findIx num dn (L.drop k) k = if (s.num : Int) = num ∧ s.dn = dn then (k : Int) else findIx num dn (L.drop (k + 1)) (k + 1) := by
  have e : L.drop k = s :: L.drop (k + 1) := by
    obtain ⟨hl, rfl⟩ := List.getElem?_eq_some_iff.1 h
    exact List.drop_eq_getElem_cons hl
  rw [e]
  rfl
end Go.Proofs.YthjgldjjplcncabDoor.Grd
/-
  Of no program: the seats of cells.
-/
namespace Go.Proofs.YthjgldjjplcncabDoor.Grd

/-- A number's place in a list, counted from k on. -/
def ixOf (i : Nat) : List Nat → Nat → Option Nat
  | [], _ => none
  | c :: r, k => if c = i then some k else ixOf i r (k + 1)
/-- The seat of a cell: the first slot of the direction that has it, and the place there. -/
def seatL (dn : Bool) (i : Nat) : List Sl → Nat → Option (Nat × Nat)
  | [], _ => none
  | s :: r, k => match (if s.dn = dn then ixOf i s.cs 0 else none) with
    | some a => some (k, a)
    | none => seatL dn i r (k + 1)
/-- The cell stands in the slot n, at the place a. -/
def At (L : List Sl) (dn : Bool) (i n a : Nat) : Prop := ∃ s, L[n]? = some s ∧ s.dn = dn ∧ s.cs[a]? = some i
theorem ixOf_some {i : Nat} : ∀ {l : List Nat} {k a : Nat}, ixOf i l k = some a → ∃ m, a = k + m ∧ l[m]? = some i
  | [], _, _, h => by cases h
  | c :: r, k, a, h => by
    unfold ixOf at h
    by_cases hc : c = i
    · rw [if_pos hc] at h
      cases h
      exact ⟨0, rfl, by simp [hc]⟩
    · rw [if_neg hc] at h
      obtain ⟨m, h1, h2⟩ := ixOf_some h
      exact ⟨m + 1, by omega, by simpa using h2⟩
theorem ixOf_none {i : Nat} : ∀ {l : List Nat} {k : Nat}, ixOf i l k = none → ∀ m : Nat, l[m]? ≠ some i
  | [], _, _, m => by simp
  | c :: r, k, h, m => by
    unfold ixOf at h
    by_cases hc : c = i
    · rw [if_pos hc] at h; cases h
    · rw [if_neg hc] at h
      cases m with
      | zero => simpa using hc
      | succ m => simpa using ixOf_none h m
theorem seatL_some {dn : Bool} {i : Nat} : ∀ {L : List Sl} {k n a : Nat}, seatL dn i L k = some (n, a) → ∃ m, n = k + m ∧ At L dn i m a
  | [], _, _, _, h => by cases h
  | s :: r, k, n, a, h => by
    unfold seatL at h
    by_cases hd : s.dn = dn
    · rw [if_pos hd] at h
      cases hx : ixOf i s.cs 0 with
      | some b =>
        rw [hx] at h
        cases h
        obtain ⟨m, h1, h2⟩ := ixOf_some hx
        exact ⟨0, rfl, s, rfl, hd, by rw [h1, Nat.zero_add]; exact h2⟩
      | none =>
        rw [hx] at h
        obtain ⟨m, h1, t, h2, h3⟩ := seatL_some h
        exact ⟨m + 1, by omega, t, by simpa using h2, h3⟩
    · rw [if_neg hd] at h
      obtain ⟨m, h1, t, h2, h3⟩ := seatL_some h
      exact ⟨m + 1, by omega, t, by simpa using h2, h3⟩
theorem seatL_none {dn : Bool} {i : Nat} : ∀ {L : List Sl} {k : Nat}, seatL dn i L k = none → ∀ n a, ¬ At L dn i n a
  | [], _, _, n, a => by rintro ⟨s, h, _⟩; simp at h
  | s :: r, k, h, n, a => by
    rintro ⟨t, h1, h2, h3⟩
    unfold seatL at h
    cases n with
    | zero =>
      simp only [List.getElem?_cons_zero, Option.some.injEq] at h1
      subst h1
      rw [if_pos h2] at h
      cases hx : ixOf i s.cs 0 with
      | some b => rw [hx] at h; cases h
      | none => exact ixOf_none hx a h3
    | succ n =>
      have h' : seatL dn i r (k + 1) = none := by
        revert h
        split
        · intro h; cases h
        · exact id
      exact seatL_none h' n a ⟨t, by simpa using h1, h2, h3⟩

theorem Gr.run_same {g : Gr} (hW : 0 < g.W) {d : Nat} (hd : d < 2) : ∀ (a a' b b' i : Nat), (g.run d b)[a]? = some i → (g.run d b')[a']? = some i → g.st b (d + 2) = none → g.st b' (d + 2) = none → a = a' ∧ b = b' := by
  have back : ∀ (a b i : Nat), (g.run d b)[a + 1]? = some i → ∃ c, (g.run d b)[a]? = some c ∧ g.st i (d + 2) = some c := fun a b i h => by
    have hl := (List.getElem?_eq_some_iff.1 h).1
    have hk : a < (g.run d b).length := by omega
    have e : (g.run d b)[a]? = some ((g.run d b)[a]'hk) := List.getElem?_eq_getElem hk
    refine ⟨_, e, ?_⟩
    have := Gr.st_back hW ((Gr.run_chain hW hd e).trans h)
    rwa [Nat.mod_eq_of_lt (by omega)] at this
  intro a
  induction a with
  | zero =>
    intro a' b b' i h h' n n'
    rw [Gr.run_head] at h
    cases h
    cases a' with
    | zero => rw [Gr.run_head] at h'; cases h'; exact ⟨rfl, rfl⟩
    | succ a' =>
      obtain ⟨c, _, hc⟩ := back a' b' b h'
      rw [n] at hc; cases hc
  | succ a ih =>
    intro a' b b' i h h' n n'
    obtain ⟨c, hc1, hc2⟩ := back a b i h
    cases a' with
    | zero =>
      rw [Gr.run_head] at h'
      cases h'
      rw [n'] at hc2; cases hc2
    | succ a' =>
      obtain ⟨c', hc1', hc2'⟩ := back a' b' i h'
      rw [hc2] at hc2'
      cases hc2'
      obtain ⟨e1, e2⟩ := ih a' b b' c hc1 hc1' n n'
      exact ⟨by omega, e2⟩
theorem Gr.sl_two (g : Gr) (i : Nat) (hi : i ≤ g.n) : (g.slTo i).Pairwise fun s t => ¬ (s.dn = t.dn ∧ s.cs[0]? = t.cs[0]?) := by
  induction i with
  | zero => exact List.Pairwise.nil
  | succ i ih =>
    simp only [Gr.slTo]
    rw [List.pairwise_append]
    refine ⟨ih (by omega), ?_, ?_⟩
    · unfold Gr.slAt
      cases g.beg 0 i <;> cases g.beg 1 i <;> simp
    · intro s hs t ht ⟨_, e⟩
      obtain ⟨k, hk, hsl, _⟩ := Gr.mem_slTo (by omega) hs
      obtain ⟨htl, _⟩ := Gr.mem_slAt (by omega) ht
      rw [hsl.first.1, htl.first.1] at e
      cases e
      omega
/-- A cell has one seat of a direction at most. -/
theorem Gr.at_unique {g : Gr} {dn : Bool} {i n a n' a' : Nat} (h : At g.sl dn i n a) (h' : At g.sl dn i n' a') : n = n' ∧ a = a' := by
  obtain ⟨s, h1, rfl, h3⟩ := h
  obtain ⟨t, h1', h2', h3'⟩ := h'
  obtain ⟨hok, b, hb, hs⟩ := Gr.mem_sl (List.mem_of_getElem? h1)
  obtain ⟨_, b', hb', ht⟩ := Gr.mem_sl (List.mem_of_getElem? h1')
  have hW := (Gr.right_of hok).sw.1
  rw [hs.cs] at h3
  rw [ht.cs, h2'] at h3'
  have f := hs.first
  have f' := ht.first
  rw [h2'] at f'
  obtain ⟨e1, e2⟩ := Gr.run_same hW (way_lt _) a a' b b' i h3 h3' f.2 f'.2
  refine ⟨?_, e1⟩
  have hp := g.sl_two g.n (Nat.le_refl _)
  have e : g.sl = g.slTo g.n := by unfold Gr.sl; rw [if_pos hok]
  rw [← e, List.pairwise_iff_getElem] at hp
  obtain ⟨l1, rfl⟩ := List.getElem?_eq_some_iff.1 h1
  obtain ⟨l2, rfl⟩ := List.getElem?_eq_some_iff.1 h1'
  have k1 : g.sl[n].cs[0]? = g.sl[n'].cs[0]? := by rw [f.1, f'.1, e2]
  rcases Nat.lt_trichotomy n n' with hl | hl | hl
  · exact absurd ⟨h2'.symm, k1⟩ (hp n n' l1 l2 hl)
  · exact hl
  · exact absurd ⟨h2', k1.symm⟩ (hp n' n l2 l1 hl)
/-- The seat of a cell. -/
def Gr.seat (g : Gr) (dn : Bool) (i : Nat) : Option (Nat × Nat) := seatL dn i g.sl 0
theorem Gr.seat_iff {g : Gr} {dn : Bool} {i n a : Nat} : g.seat dn i = some (n, a) ↔ At g.sl dn i n a := by
  constructor
  · intro h
    obtain ⟨m, h1, h2⟩ := seatL_some h
    rw [h1, Nat.zero_add]
    exact h2
  · intro h
    cases hx : g.seat dn i with
    | none => exact absurd h (seatL_none hx n a)
    | some p =>
      obtain ⟨x, y⟩ := p
      obtain ⟨m, h1, h2⟩ := seatL_some hx
      obtain ⟨e1, e2⟩ := Gr.at_unique h h2
      rw [h1, Nat.zero_add, ← e1, ← e2]
theorem Gr.sl_end {g : Gr} (hok : g.ok) {d : Bool} {b : Nat} (hb : b < g.n) (hs : g.beg (way d) b = true) : ∃ n, At g.sl d b n 0 := by
  have hm : ∀ i, b < i → ∃ s, s ∈ g.slTo i ∧ s.dn = d ∧ s.cs = g.run (way d) b := by
    intro i
    induction i with
    | zero => intro h; omega
    | succ i ih =>
      intro h
      simp only [Gr.slTo, List.mem_append]
      by_cases hi : b < i
      · obtain ⟨s, h1, h2⟩ := ih hi
        exact ⟨s, .inl h1, h2⟩
      · obtain rfl : b = i := by omega
        cases d with
        | false =>
          simp only [way, Bool.false_eq_true, if_false] at hs ⊢
          exact ⟨⟨g.numTo (b + 1), false, g.run 0 b⟩, .inr (by unfold Gr.slAt; rw [if_pos hs]; simp), rfl, rfl⟩
        | true =>
          simp only [way, if_true] at hs ⊢
          exact ⟨⟨g.numTo (b + 1), true, g.run 1 b⟩, .inr (by unfold Gr.slAt; rw [if_pos hs]; simp), rfl, rfl⟩
  obtain ⟨s, h1, h2, h3⟩ := hm g.n hb
  have e : g.sl = g.slTo g.n := by unfold Gr.sl; rw [if_pos hok]
  rw [← e] at h1
  obtain ⟨n, hn, rfl⟩ := List.mem_iff_getElem.1 h1
  exact ⟨n, g.sl[n], List.getElem?_eq_getElem hn, h2, by rw [h3, Gr.run_head]⟩
/-- A cell that a step of a direction leaves or reaches has a seat there. -/
theorem Gr.at_exists {g : Gr} (hok : g.ok) (d : Bool) : ∀ i, ((g.st i (way d)).isSome = true ∨ (g.st i (way d + 2)).isSome = true) → ∃ n a, At g.sl d i n a := by
  have hW := (Gr.right_of hok).sw.1
  have hd := way_lt d
  intro i
  induction i using Nat.strongRecOn with
  | _ i ih =>
    intro h
    cases hb : g.st i (way d + 2) with
    | some j =>
      have hs := Gr.st_back hW hb
      rw [show (way d + 2 + 2) % 4 = way d by omega] at hs
      have hlt := (Gr.st_up hW hd hs).1
      obtain ⟨n, a, s, h1, h2, h3⟩ := ih j hlt (.inl (by rw [hs]; rfl))
      refine ⟨n, a + 1, s, h1, h2, ?_⟩
      obtain ⟨_, b, _, hsl⟩ := Gr.mem_sl (List.mem_of_getElem? h1)
      rw [hsl.cs, h2] at h3 ⊢
      rw [← Gr.run_chain hW hd h3, hs]
    | none =>
      rw [hb] at h
      have h1 : (g.st i (way d)).isSome = true := by simpa using h
      obtain ⟨j, hj⟩ := Option.isSome_iff_exists.1 h1
      obtain ⟨n, hn⟩ := Gr.sl_end hok (Gr.opn_iff.1 (Gr.st_opn hj)).1 (d := d) (by unfold Gr.beg; rw [hb, h1]; rfl)
      exact ⟨n, 0, hn⟩
theorem Gr.at_steps {g : Gr} {d : Bool} {i n a : Nat} (h : At g.sl d i n a) : (g.st i (way d)).isSome = true ∨ (g.st i (way d + 2)).isSome = true := by
  obtain ⟨s, h1, rfl, h3⟩ := h
  obtain ⟨hok, b, hb, hs⟩ := Gr.mem_sl (List.mem_of_getElem? h1)
  have hW := (Gr.right_of hok).sw.1
  rw [hs.cs] at h3
  cases a with
  | zero =>
    left
    rw [Gr.run_head] at h3
    cases h3
    have := hs.beg
    unfold Gr.beg at this
    simp only [Bool.and_eq_true] at this
    exact this.2
  | succ a =>
    right
    have hl := (List.getElem?_eq_some_iff.1 h3).1
    have hk : a < (g.run (way s.dn) b).length := by omega
    have e : (g.run (way s.dn) b)[a]? = some ((g.run (way s.dn) b)[a]'hk) := List.getElem?_eq_getElem hk
    have := Gr.st_back hW ((Gr.run_chain hW (way_lt _) e).trans h3)
    rw [Nat.mod_eq_of_lt (by have := way_lt s.dn; omega)] at this
    rw [this]; rfl
theorem Gr.seat_steps {g : Gr} (hok : g.ok) (d : Bool) (i : Nat) : (g.seat d i).isSome = ((g.st i (way d)).isSome || (g.st i (way d + 2)).isSome) := by
  rw [Bool.eq_iff_iff, Bool.or_eq_true]
  constructor
  · intro h
    obtain ⟨⟨n, a⟩, hp⟩ := Option.isSome_iff_exists.1 h
    exact Gr.at_steps (Gr.seat_iff.1 hp)
  · intro h
    obtain ⟨n, a, hp⟩ := Gr.at_exists hok d i h
    rw [Gr.seat_iff.2 hp]; rfl
theorem Gr.at_lt {g : Gr} {d : Bool} {i n a : Nat} (h : At g.sl d i n a) : i < g.n ∧ n < g.sl.length ∧ a < 257 := by
  obtain ⟨s, h1, rfl, h3⟩ := h
  obtain ⟨hok, b, hb, hs⟩ := Gr.mem_sl (List.mem_of_getElem? h1)
  have hW := (Gr.right_of hok).sw.1
  rw [hs.cs] at h3
  refine ⟨Gr.run_lt hW (way_lt _) hb a i h3, (List.getElem?_eq_some_iff.1 h1).1, ?_⟩
  have hl := (List.getElem?_eq_some_iff.1 h3).1
  have := g.run_len (way s.dn) b
  have := (Gr.right_of hok).n_le
  omega
/-- A seat as two numbers. -/
def seatV : Option (Nat × Nat) → Int × Int
  | some (x, y) => ((x : Int), (y : Int))
  | none => (-1, 0)
def upTo (n a : Nat) : Option (Nat × Nat) → Option (Nat × Nat)
  | some (x, y) => if x < n ∨ (x = n ∧ y < a) then some (x, y) else none
  | none => none
/-- The seats of the slots ahead of n, and of n's cells ahead of a. -/
def Gr.seatK (g : Gr) (dn : Bool) (n a i : Nat) : Option (Nat × Nat) := upTo n a (g.seat dn i)
theorem Gr.seatK_zero (g : Gr) (dn : Bool) (i : Nat) : g.seatK dn 0 0 i = none := by
  unfold Gr.seatK
  cases g.seat dn i with
  | none => rfl
  | some p => simp [upTo]
theorem Gr.seatK_all (g : Gr) (dn : Bool) (i : Nat) : g.seatK dn g.sl.length 0 i = g.seat dn i := by
  unfold Gr.seatK
  cases h : g.seat dn i with
  | none => rfl
  | some p =>
    have := Gr.at_lt (Gr.seat_iff.1 (show g.seat dn i = some (p.1, p.2) from h))
    simp [upTo, this.2.1]
theorem Gr.seatK_next {g : Gr} {dn : Bool} {n : Nat} {s : Sl} (h : g.sl[n]? = some s) (i : Nat) : g.seatK dn (n + 1) 0 i = g.seatK dn n (if s.dn = dn then s.cs.length else 0) i := by
  unfold Gr.seatK
  cases hx : g.seat dn i with
  | none => rfl
  | some p =>
    obtain ⟨x, y⟩ := p
    obtain ⟨t, h1, h2, h3⟩ := Gr.seat_iff.1 hx
    have hl := (List.getElem?_eq_some_iff.1 h3).1
    simp only [upTo]
    by_cases hn : x = n
    · subst hn
      rw [h] at h1
      cases h1
      rw [if_pos h2, if_pos (.inl (by omega)), if_pos (.inr ⟨rfl, hl⟩)]
    · by_cases hl2 : x < n
      · rw [if_pos (.inl (by omega)), if_pos (.inl hl2)]
      · rw [if_neg (by omega), if_neg (by omega)]
theorem Gr.seatK_step {g : Gr} {n a c : Nat} {s : Sl} (h : g.sl[n]? = some s) (hc : s.cs[a]? = some c) (i : Nat) : g.seatK s.dn n (a + 1) i = if i = c then some (n, a) else g.seatK s.dn n a i := by
  unfold Gr.seatK
  by_cases hi : i = c
  · subst hi
    rw [if_pos rfl, Gr.seat_iff.2 ⟨s, h, rfl, hc⟩]
    simp [upTo]
  · rw [if_neg hi]
    cases hx : g.seat s.dn i with
    | none => rfl
    | some p =>
      obtain ⟨x, y⟩ := p
      obtain ⟨t, h1, h2, h3⟩ := Gr.seat_iff.1 hx
      have hne : ¬ (x = n ∧ y = a) := by
        rintro ⟨rfl, rfl⟩
        rw [h] at h1
        cases h1
        rw [hc] at h3
        cases h3
        exact hi rfl
      simp only [upTo]
      by_cases hk : x < n ∨ (x = n ∧ y < a)
      · rw [if_pos (by omega), if_pos hk]
      · rw [if_neg (by omega), if_neg hk]
theorem Gr.sl_cs {g : Gr} {k : Nat} {s : Sl} (h : g.sl[k]? = some s) : s.cs.length ≤ 257 := by
  obtain ⟨hok, i, hi, hs⟩ := Gr.mem_sl (List.mem_of_getElem? h)
  rw [hs.cs]
  have := g.run_len (way s.dn) i
  have := (Gr.right_of hok).n_le
  omega
end Go.Proofs.YthjgldjjplcncabDoor.Grd
/-
  The program's isSeat and noSeats; a list of seats in memory of the call's own.
-/
namespace Go.Proofs.YthjgldjjplcncabDoor.Grd
open Go Go.Lib Go.RowKit

/-- A list of seats, as cells. -/
def cellsS (f : Nat → Int × Int) (m : Nat) : List Value := (List.range (m * 2)).map fun j => .int .i64 (if j % 2 = 0 then (f (j / 2)).1 else (f (j / 2)).2)
theorem cellsS_length (f : Nat → Int × Int) (m : Nat) : (cellsS f m).length = m * 2 := by simp [cellsS]
theorem cellsS_at {f : Nat → Int × Int} {m i : Nat} (h : i < m) : (cellsS f m)[i * 2]? = some (.int .i64 (f i).1) ∧ (cellsS f m)[i * 2 + 1]? = some (.int .i64 (f i).2) := by
  have e1 : i * 2 % 2 = 0 := by omega
  have e2 : i * 2 / 2 = i := by omega
  have e3 : (i * 2 + 1) % 2 = 1 := by omega
  have e4 : (i * 2 + 1) / 2 = i := by omega
  unfold cellsS
  constructor
  · rw [List.getElem?_map, List.getElem?_range (by omega)]
    simp only [Option.map_some, e1, e2, if_true]
  · rw [List.getElem?_map, List.getElem?_range (by omega)]
    simp only [Option.map_some, e3, e4, Nat.succ_ne_self, if_false]
theorem cellsS_congr {f f' : Nat → Int × Int} {m : Nat} (h : ∀ i, i < m → f i = f' i) : cellsS f m = cellsS f' m := by
  unfold cellsS
  apply List.map_congr_left
  intro j hj
  have := List.mem_range.1 hj
  rw [h (j / 2) (by omega)]
theorem cellsS_set {f : Nat → Int × Int} {m i : Nat} {x y : Int} (h : i < m) : ((cellsS f m).set (i * 2) (.int .i64 x)).set (i * 2 + 1) (.int .i64 y) = cellsS (fun j => if j = i then (x, y) else f j) m := by
  apply List.ext_getElem?
  intro j
  rw [List.getElem?_set, List.length_set, cellsS_length, List.getElem?_set, cellsS_length]
  unfold cellsS
  rw [List.getElem?_map, List.getElem?_map]
  by_cases hj : j < m * 2
  · rw [List.getElem?_range hj]
    simp only [Option.map_some]
    by_cases h1 : i * 2 + 1 = j
    · have e1 : j % 2 = 1 := by omega
      have e2 : j / 2 = i := by omega
      rw [if_pos h1, if_pos (by omega)]
      simp [e1, e2]
    · by_cases h2 : i * 2 = j
      · have e1 : j % 2 = 0 := by omega
        have e2 : j / 2 = i := by omega
        rw [if_neg h1, if_pos h2, if_pos (by omega)]
        simp [e1, e2]
      · have e2 : ¬ j / 2 = i := by omega
        rw [if_neg h1, if_neg h2]
        simp [e2]
  · rw [List.getElem?_eq_none (l := List.range (m * 2)) (by rw [List.length_range]; omega), if_neg (by omega), if_neg (by omega)]
    rfl

/-- A seat is stored. -/
theorem seat_stored {w W : World} {B b n i cap : Nat} {f f' : Nat → Int × Int} (h : W.ownsRow B 77 2 (.slice (some ⟨b, 0, none⟩) n cap) n (cellsS f n)) (hi : i < n) (x y : Int) (hb : Below w.heap.size w W) (hB : w.heap.size ≤ B)
    (hf : ∀ j, j < n → (if j = i then (x, y) else f j) = f' j) :
    ((W.setCell ⟨b, i * 2, none⟩ (.int .i64 x)).setCell ⟨b, i * 2 + 1, none⟩ (.int .i64 y)).ownsRow B 77 2 (.slice (some ⟨b, 0, none⟩) n cap) n (cellsS f' n) ∧ Below w.heap.size w ((W.setCell ⟨b, i * 2, none⟩ (.int .i64 x)).setCell ⟨b, i * 2 + 1, none⟩ (.int .i64 y)) := by
  have h1 := h.stored (i * 2) (.int .i64 x)
  have h2 := h1.1.stored (i * 2 + 1) (.int .i64 y)
  have hbB : w.heap.size ≤ b := Nat.le_trans hB (h.lt b rfl).1
  refine ⟨?_, ?_⟩
  · rw [← cellsS_congr hf, ← cellsS_set hi]
    exact h2.1
  · exact Below.grown (Below.grown hb h1.2 hb.size (fun j hj => by cases hj; exact hbB)) h2.2 (Nat.le_trans hb.size h1.2.size) (fun j hj => by cases hj; exact hbB)

theorem isSeat_any (x y : Int) (w : World) :
    Calls Tryd.prog 29 #[.agg #[.int .i64 x, .int .i64 y]] w fun e w' => e = .returned (.bool (decide (0 ≤ x))) ∧ Below w.heap.size w w' := by
  go_enter Tryd.func29, Tryd.ntmps29
  go_wp2
  go_ret
  exact ⟨rfl, below_box w _⟩

set_option maxHeartbeats 1000000 in
theorem noSeats_any (n : Nat) (w : World) (hn : n ≤ 256) :
    Calls Tryd.prog 45 #[.int .i64 n] w fun e w' => ∃ b, e = .returned (.slice (some ⟨b, 0, none⟩) n n) ∧ w'.ownsRow w.heap.size 77 2 (.slice (some ⟨b, 0, none⟩) n n) n (cellsS (fun _ => (-1, 0)) n) ∧ Below w.heap.size w w' := by
  obtain ⟨i0, hi0, hz0, hz1, hz2⟩ := info_parts infoSeat
  obtain ⟨M, hM⟩ : ∃ M, M = madeCells (Value.agg #[.int .i64 0, .int .i64 0]).cells (n * i0.size) := ⟨_, rfl⟩
  have hMs : M.size = n * 2 := by rw [hM, size_madeCells, hz1]
  have hmk : ∀ W : World, (Instr.makeSlice 72 (.int .i64 (n : Int)) (.int .i64 (n : Int))).run Tryd.prog W = .ok (.slice (some ⟨W.heap.size, 0, none⟩) n n) (W.alloc (.cells M 77)) := fun W => by
    have h := run_make (P := Tryd.prog) W 72 77 i0 (.agg #[.int .i64 0, .int .i64 0]) Tryd.underlying72 hi0 hz0 .i64 .i64 n n (by omega) (by omega) (by rw [hz2]; omega) (by omega)
    rw [Int.toNat_natCast, ← hM] at h
    exact h
  have hMl : M.toList = cellsS (fun _ => (0, 0)) n := by
    apply List.ext_getElem?
    intro j
    rw [hM, hz1]
    by_cases hj : j < n * 2
    · have h2 : j % 2 < 2 := Nat.mod_lt _ (by omega)
      rcases (show j % 2 = 0 ∨ j % 2 = 1 by omega) with e | e
      · simp [madeCells, cellsS, hj, e, Value.cells]
      · simp [madeCells, cellsS, hj, e, Value.cells]
    · simp [madeCells, cellsS, hj]
  have o0 : (w.alloc (.cells M 77)).ownsRow w.heap.size 77 2 (.slice (some ⟨w.heap.size, 0, none⟩) n n) n (cellsS (fun _ => (0, 0)) n) := by
    rw [← hMl]
    exact World.ownsRow_lit _ _ _ (Nat.le_refl _) (by unfold maxLen; omega) hMs
  have HB0 : Aside (Below w.heap.size w (w.alloc (.cells M 77))) := below_box w _
  clear hM hMl
  go_enter Tryd.func45, Tryd.ntmps45
  go_wp2
  generalize w.alloc (.cells M 77) = w1 at *
  go_loopg [9] n (fun g1 iv wr => ∃ k : Nat, iv = .int .i64 (k : Int) ∧ k ≤ n ∧ n - k ≤ g1 ∧ Aside (wr.ownsRow w.heap.size 77 2 (.slice (some ⟨w.heap.size, 0, none⟩) n n) n (cellsS (fun j => if j < k then (-1, 0) else (0, 0)) n)) ∧ Aside (Below w.heap.size w wr))
  case atStart => exact ⟨0, rfl, Nat.zero_le _, Nat.le_refl _, o0, HB0⟩
  case round =>
    obtain ⟨k, rfl, hk, hg, HO, HB⟩ := hrel
    by_cases hlt : k < n
    · have hltz : (k : Int) < (n : Int) := by omega
      have c0 := HO.out.cellAt (k * 2) (by omega)
      have c1 := HO.out.cellAt (k * 2 + 1) (by omega)
      rw [(cellsS_at hlt).1] at c0
      rw [(cellsS_at hlt).2] at c1
      have f0 := HO.out.frozenAt (k * 2)
      have f1 := HO.out.frozenAt (k * 2 + 1)
      have HS : Aside (((wr.setCell ⟨w.heap.size, k * 2, none⟩ (.int .i64 (-1))).setCell ⟨w.heap.size, k * 2 + 1, none⟩ (.int .i64 0)).ownsRow w.heap.size 77 2 (.slice (some ⟨w.heap.size, 0, none⟩) n n) n (cellsS (fun j => if j < k + 1 then (-1, 0) else (0, 0)) n) ∧ Below w.heap.size w ((wr.setCell ⟨w.heap.size, k * 2, none⟩ (.int .i64 (-1))).setCell ⟨w.heap.size, k * 2 + 1, none⟩ (.int .i64 0))) :=
        seat_stored HO.out hlt (-1) 0 HB.out (Nat.le_refl _) (fun j hj => by
          by_cases h : j = k
          · rw [if_pos h, if_pos (by omega)]
          · rw [if_neg h]
            by_cases h2 : j < k
            · rw [if_pos h2, if_pos (by omega)]
            · rw [if_neg h2, if_neg (by omega)])
      go_wp2
      go_roundg (n - (k + 1))
      case measure => omega
      case rel => exact ⟨k + 1, by go_num, by omega, Nat.le_refl _, HS.out.1, HS.out.2⟩
    · have hltz : ¬ (k : Int) < (n : Int) := by omega
      obtain rfl : k = n := by omega
      go_wp2
      go_ret
      refine ⟨_, rfl, ?_, HB.out⟩
      rw [cellsS_congr (f' := fun j => if j < k then (-1, 0) else (0, 0)) (fun i hi => by rw [if_pos hi])]
      exact HO.out
end Go.Proofs.YthjgldjjplcncabDoor.Grd
/-
  The program's Seats.
-/
namespace Go.Proofs.YthjgldjjplcncabDoor.Grd
open Go Go.Lib Go.RowKit

theorem below_dw {w w' : World} (h : Below w.drew.heap.size w.drew w') : Below w.heap.size w w' := (Below.drew (Below.refl _ _)).trans h
theorem OwnL.grown {W W' : World} {B b : Nat} {v : Value} {L : List Sl} {us : List Value} (h : OwnL W B v L us) (hg : W.grownBy W' (some b)) (hb : b < B) : OwnL W' B v L us :=
  ⟨row_grown h.row hg fun j hj e => by cases e; have := (h.row.lt _ hj).1; omega, h.len, fun k s u h1 h2 => row_grown (h.each k s u h1 h2) hg fun j hj e => by cases e; have := ((h.each k s u h1 h2).lt _ hj).1; omega, h.two⟩
theorem OwnL.at {W : World} {B : Nat} {ao : Option Addr} {cap : Nat} {L : List Sl} {us : List Value} {k : Nat} {s : Sl} (h : OwnL W B (.slice ao L.length cap) L us) (hs : L[k]? = some s) :
    ∃ b a' c', ao = some ⟨b, 0, none⟩ ∧ us[k]? = some (.slice a' s.cs.length c') ∧ b < W.heap.size ∧ W.cell? ⟨b, k * 3, none⟩ = some (.int .i64 (s.num : Int)) ∧ W.cell? ⟨b, k * 3 + 1, none⟩ = some (.bool s.dn) ∧ W.cell? ⟨b, k * 3 + 2, none⟩ = some (.slice a' s.cs.length c') := by
  have hr := h.row
  have hkl := (List.getElem?_eq_some_iff.1 hs).1
  rcases hr.2 with ⟨h0, h1⟩ | ⟨g, cap', cur, e, hb, _⟩
  · omega
  · cases e
    have hu : us[k]? = some (us[k]'(by rw [h.len]; exact hkl)) := List.getElem?_eq_getElem _
    generalize us[k]'(by rw [h.len]; exact hkl) = u at hu
    obtain ⟨c1, c2, c3⟩ := slCells_at L us k s u hs hu
    obtain ⟨a', c', rfl, _, _⟩ := row_reads (h.each k s u hs hu)
    have cell := fun (j : Nat) (x : Value) (hx : (slCells L us)[j]? = some x) => by
      have := hr.cells (g := g) rfl j x hx
      rwa [show (⟨g, 0, none⟩ : Addr).add j = ⟨g, j, none⟩ by unfold Addr.add; split <;> simp_all] at this
    rw [ints_length] at c3 hu
    rw [Nat.mul_comm 3 k] at c1 c2 c3
    exact ⟨g, a', c', rfl, hu, (hr.lt g rfl).2, cell _ _ c1, cell _ _ c2, cell _ _ c3⟩
theorem OwnL.ints {W : World} {B : Nat} {v : Value} {L : List Sl} {us : List Value} {k : Nat} {s : Sl} {a' : Option Addr} {l c' : Nat} (h : OwnL W B v L us) (hs : L[k]? = some s) (hu : us[k]? = some (.slice a' l c')) : ReadsI W a' (ints s.cs) := by
  obtain ⟨x, y, e, _, hR⟩ := row_reads (h.each k s _ hs hu)
  cases e
  exact hR

/-- How many seats a grid has of each direction. -/
def Gr.m (g : Gr) : Nat := if g.ok then g.n else 0
/-- The two lists of seats, in memory of the call's own. -/
structure OwnS (W : World) (B : Nat) (va vd : Value) (g : Gr) : Prop where
  ra : W.ownsRow B 77 2 va g.m (cellsS (fun i => seatV (g.seat false i)) g.m)
  rd : W.ownsRow B 77 2 vd g.m (cellsS (fun i => seatV (g.seat true i)) g.m)
  ap : ∀ j, va.ownBlock = some j → vd.ownBlock ≠ some j
/-- The two lists, on the way. -/
structure TwoS (W : World) (B ba bd : Nat) (g : Gr) (k aF aT : Nat) : Prop where
  ra : W.ownsRow B 77 2 (.slice (some ⟨ba, 0, none⟩) g.n g.n) g.n (cellsS (fun i => seatV (g.seatK false k aF i)) g.n)
  rd : W.ownsRow B 77 2 (.slice (some ⟨bd, 0, none⟩) g.n g.n) g.n (cellsS (fun i => seatV (g.seatK true k aT i)) g.n)
  ne : ba ≠ bd
theorem TwoS.below {W W' : World} {B ba bd : Nat} {g : Gr} {k aF aT : Nat} (h : TwoS W B ba bd g k aF aT) (hb : Below W.heap.size W W') : TwoS W' B ba bd g k aF aT := ⟨row_keeps3 h.ra hb, row_keeps3 h.rd hb, h.ne⟩

theorem seatV_zero (g : Gr) (dn : Bool) : (fun i => seatV (g.seatK dn 0 0 i)) = fun _ => (-1, 0) := by
  funext i
  rw [Gr.seatK_zero]
  rfl
theorem TwoS.new {w W1 W2 : World} {b1 b2 : Nat} {g : Gr} (h1 : W1.ownsRow w.drew.heap.size 77 2 (.slice (some ⟨b1, 0, none⟩) g.n g.n) g.n (cellsS (fun _ => (-1, 0)) g.n)) (hb1 : Below w.drew.heap.size w.drew W1)
    (h2 : W2.ownsRow W1.heap.size 77 2 (.slice (some ⟨b2, 0, none⟩) g.n g.n) g.n (cellsS (fun _ => (-1, 0)) g.n)) (hb2 : Below W1.heap.size W1 W2) {w0 : World} (hB : Below w0.heap.size w0 w) : TwoS W2 w0.heap.size b1 b2 g 0 0 0 ∧ Below w0.heap.size w0 W2 := by
  have hB1 : Below w0.heap.size w0 W1 := hB.trans ((below_dw hb1).mono hB.size)
  refine ⟨⟨?_, ?_, ?_⟩, hB1.trans (hb2.mono hB1.size)⟩
  · rw [seatV_zero]; exact row_base3 (row_keeps3 h1 hb2) hB.size
  · rw [seatV_zero]; exact row_base3 h2 hB1.size
  · have := (h1.lt b1 rfl).2
    have := (h2.lt b2 rfl).1
    omega
set_option maxRecDepth 20000 in
set_option maxHeartbeats 4000000 in
theorem Seats_ok (g : Gr) (p : Ad) (hok : g.ok) (w : World) (hw : Wy w) (hR : RG w g p) :
    Calls Tryd.prog 28 #[gv g p] w fun e w' => ∃ ba bd, e = .returned (.tuple #[.slice (some ⟨ba, 0, none⟩) g.n g.n, .slice (some ⟨bd, 0, none⟩) g.n g.n]) ∧ TwoS w' w.heap.size ba bd g g.sl.length 0 0 ∧ Below w.heap.size w w' := by
  have hr := Gr.right_of hok
  have hn := hr.n_le.2
  have HBl : Aside (g.B.length = g.n) := hr.bl
  have HW : Aside (∀ W, Below w.heap.size w W → Wy W ∧ RG W g p) := fun W hb => ⟨hw.below hw.size hb, hR.below hb⟩
  have cC := check_any g p (w.alloc (.cells #[.int .i64 g.h, .int .i64 g.w, .slice p.a1 g.B.length p.c1, .slice p.a2 g.R.length p.c2, .slice p.a3 g.D.length p.c3] 27)) (HW.out _ (below_box w _)).1 (HW.out _ (below_box w _)).2
  rw [show g.chk = 0 from hok] at cC
  have HL : Aside (∀ W, Below w.heap.size w W → Calls Tryd.prog 10 #[gv g p] W fun e w' => ∃ v us, e = .returned v ∧ OwnL w' W.heap.size v g.sl us ∧ Below W.heap.size W w') := fun W hb => List_any g p W (HW.out W hb).1 (HW.out W hb).2
  have HN : Aside (∀ W, Calls Tryd.prog 45 #[.int .i64 (g.B.length : Nat)] W fun e w' => ∃ b, e = .returned (.slice (some ⟨b, 0, none⟩) g.n g.n) ∧ w'.ownsRow W.heap.size 77 2 (.slice (some ⟨b, 0, none⟩) g.n g.n) g.n (cellsS (fun _ => (-1, 0)) g.n) ∧ Below W.heap.size W w') := fun W => by rw [HBl.out]; exact noSeats_any g.n W hn
  have hln := g.sl_len
  unfold gv at HL cC
  unfold gv
  clear hw hR hr
  go_enter Tryd.func28, Tryd.ntmps28
  go_wp2_with fail
  refine cC.mono ?_
  rintro e w1 ⟨rfl, hb1⟩
  have HX1 : Aside (Bx w1 w.heap.size g p) := (Bx.new w g p _).keep hb1
  have HB1 : Aside (Below w.heap.size w w1) := (below_box w _).trans (hb1.mono (below_box w _).size)
  obtain ⟨_, k0, k1, k2, k3, k4⟩ := HX1.out
  have cN1 := HN.out w1.drew
  clear hb1 cC
  go_wp2
  go_cut [4, 5] from 14 to 21 (fun sa sb wd => ∃ ba bd, sa = .slice (some ⟨ba, 0, none⟩) g.n g.n ∧ sb = .slice (some ⟨bd, 0, none⟩) g.n g.n ∧ Aside ((TwoS wd w.heap.size ba bd g 0 0 0 ∧ Below w.heap.size w wd) ∧ Below w1.heap.size w1 wd))
  case first =>
    go_region_with (first
      | (go_at_call 45; refine cN2.mono ?_; rintro e w3 ⟨b2, rfl, ho2, hb2⟩; have HE := TwoS.new ho1 hb1 ho2 hb2 HB1.out; have HF := (below_dw hb1).trans (hb2.mono (below_dw hb1).size); clear cN2)
      | (go_at_call 45; refine cN1.mono ?_; rintro e w2 ⟨b1, rfl, ho1, hb1⟩; have cN2 := HN.out w2; obtain ⟨_, j0, j1, j2, j3, j4⟩ := HX1.out.keep (below_dw hb1)))
    all_goals (try go_simp)
    all_goals (go_wp2_with fail)
    all_goals go_meet
    all_goals exact ⟨_, _, rfl, rfl, HE, HF⟩
  case rest =>
  rename World => w4
  obtain ⟨ba, bd, rfl, rfl, HE⟩ := hcut
  have HT4 : Aside (TwoS w4 w.heap.size ba bd g 0 0 0) := HE.out.1.1
  have HB4 : Aside (Below w.heap.size w w4) := HE.out.1.2
  have HBX : Aside (Below w1.heap.size w1 w4) := HE.out.2
  have cL := HL.out w4 HB4.out
  clear HE cN1 k0 k1 k2 k3 k4
  have HX4 : Aside (Bx w4 w.heap.size g p) := HX1.out.keep HBX.out
  obtain ⟨_, k0, k1, k2, k3, k4⟩ := HX4.out
  go_wp2_with fail
  refine cL.mono ?_
  rintro e w5 ⟨v, us, rfl, hO, hb5⟩
  obtain ⟨ao, cap, rfl, _⟩ := hO.read
  have HO5 : Aside (OwnL w5 w4.heap.size (.slice ao g.sl.length cap) g.sl us) := hO
  have HT5 : Aside (TwoS w5 w.heap.size ba bd g 0 0 0) := HT4.out.below hb5
  have HB5 : Aside (Below w.heap.size w w5) := HB4.out.trans (hb5.mono HB4.out.size)
  have HLO : Aside (ba < w4.heap.size ∧ bd < w4.heap.size) := ⟨(HT4.out.ra.lt _ rfl).2, (HT4.out.rd.lt _ rfl).2⟩
  clear hO cL hb5 k0 k1 k2 k3 k4
  go_wp2
  --LOOP
  have HATS : Aside (∀ (k : Nat) (s : Sl), g.sl[k]? = some s → s.cs.length ≤ 257 ∧ ∀ (a c : Nat), s.cs[a]? = some c → c < g.n) := fun k s hs => ⟨Gr.sl_cs hs, fun a c hc => (Gr.at_lt ⟨s, hs, rfl, hc⟩).1⟩
  have HNXT : Aside (∀ (k : Nat) (s : Sl), g.sl[k]? = some s → ∀ (dn : Bool) (i : Nat), g.seatK dn (k + 1) 0 i = g.seatK dn k (if s.dn = dn then s.cs.length else 0) i) := fun k s hs dn i => Gr.seatK_next hs i
  have HSTP : Aside (∀ (k : Nat) (s : Sl), g.sl[k]? = some s → ∀ (a c : Nat), s.cs[a]? = some c → ∀ i, g.seatK s.dn k (a + 1) i = if i = c then some (k, a) else g.seatK s.dn k a i) := fun k s hs a c hc i => Gr.seatK_step hs hc i
  generalize hLL : g.sl = L at *
  have HLL : Aside (g.sl = L) := hLL
  clear hLL
  go_loopg [25] L.length (fun g1 iv wr => ∃ k : Nat, iv = .int .i64 (k : Int) ∧ k ≤ L.length ∧ L.length - k ≤ g1 ∧ Aside (TwoS wr w.heap.size ba bd g k 0 0) ∧ Aside (OwnL wr w4.heap.size (.slice ao L.length cap) L us) ∧ Aside (Below w.heap.size w wr))
  case atStart => exact ⟨0, rfl, Nat.zero_le _, Nat.le_refl _, HT5, HO5, HB5⟩
  case round =>
    obtain ⟨k, rfl, hk, hg, HT, HO, HB⟩ := hrel
    by_cases hlt : k < L.length
    · have hltz : (k : Int) < (L.length : Int) := by omega
      have hs : L[k]? = some (L[k]'hlt) := List.getElem?_eq_getElem hlt
      generalize L[k]'hlt = s at hs
      have HKS : Aside (L[k]? = some s) := hs
      obtain ⟨hcl, hcn⟩ := HATS.out k s hs
      have HCN : Aside (∀ (a c : Nat), s.cs[a]? = some c → c < g.n) := hcn
      have HNX : Aside _ := HNXT.out k s hs
      have HSTEP : Aside _ := HSTP.out k s hs
      obtain ⟨b, a', c', rfl, hu, hb, e0, e1, e2⟩ := HO.out.at hs
      have HU : Aside (us[k]? = some (.slice a' s.cs.length c')) := hu
      have HG1 : Aside _ := hg
      have HK : Aside (k < L.length) := hlt
      have HTb : Aside (TwoS (wr.alloc (.cells #[.int .i64 (s.num : Int), .bool s.dn, .slice a' s.cs.length c'] 39)) w.heap.size ba bd g k 0 0) := HT.out.below (below_box _ _)
      have HOb : Aside (OwnL (wr.alloc (.cells #[.int .i64 (s.num : Int), .bool s.dn, .slice a' s.cs.length c'] 39)) w4.heap.size (.slice (some ⟨b, 0, none⟩) L.length cap) L us) := HO.out.alloc _
      have HBb : Aside (Below w.heap.size w (wr.alloc (.cells #[.int .i64 (s.num : Int), .bool s.dn, .slice a' s.cs.length c'] 39))) := HB.out.alloc HB.out.size _
      clear hu hs hcn HT5 HO5 HB5 HNXT HSTP HT HO HB
      cases hdn : s.dn with
      | false =>
        rw [hdn] at e1 HTb HOb HBb
        rw [hdn] at HSTEP HNX
        have HNX : Aside (∀ (dn : Bool) (i : Nat), g.seatK dn (k + 1) 0 i = g.seatK dn k (if false = dn then s.cs.length else 0) i) := HNX
        have HSTEP : Aside (∀ (a c : Nat), s.cs[a]? = some c → ∀ i, g.seatK false k (a + 1) i = if i = c then some (k, a) else g.seatK false k a i) := HSTEP
        clear hdn
        go_wp2
        go_loopg [37] s.cs.length (fun g2 iv wr => ∃ a : Nat, iv = .int .i64 (a : Int) ∧ a ≤ s.cs.length ∧ s.cs.length - a ≤ g2 ∧ Aside (TwoS wr w.heap.size ba bd g k a 0) ∧ Aside (OwnL wr w4.heap.size (.slice (some ⟨b, 0, none⟩) L.length cap) L us) ∧ Aside (Below w.heap.size w wr))
        case atStart => exact ⟨0, rfl, Nat.zero_le _, Nat.le_refl _, HTb, HOb, HBb⟩
        case round =>
          obtain ⟨a, rfl, ha, hg2, HT6, HO6, HB6⟩ := hrel
          by_cases hla : a < s.cs.length
          · have hlaz : (a : Int) < (s.cs.length : Int) := by omega
            have hc : s.cs[a]? = some (s.cs[a]'hla) := List.getElem?_eq_getElem hla
            generalize s.cs[a]'hla = c at hc
            obtain ⟨b7, o7, rfl, hb7, e7⟩ := (HO6.out.ints HKS.out HU.out) a (by rw [ints_length]; exact hla)
            rw [show (ints s.cs)[a]?.getD 0 = (c : Int) by simp [ints, hc]] at e7
            have hcn : c < g.n := HCN.out a c hc
            have hcz : (c : Int) < (g.n : Int) := by omega
            have hc256 : c < 256 := by omega
            have c0 := HT6.out.ra.cellAt (c * 2) (by omega)
            have c1 := HT6.out.ra.cellAt (c * 2 + 1) (by omega)
            rw [(cellsS_at hcn).1] at c0
            rw [(cellsS_at hcn).2] at c1
            have f0 := HT6.out.ra.frozenAt (c * 2)
            have f1 := HT6.out.ra.frozenAt (c * 2 + 1)
            have HST : Aside (TwoS ((wr.setCell ⟨ba, c * 2, none⟩ (.int .i64 (k : Int))).setCell ⟨ba, c * 2 + 1, none⟩ (.int .i64 (a : Int))) w.heap.size ba bd g k (a + 1) 0 ∧ OwnL ((wr.setCell ⟨ba, c * 2, none⟩ (.int .i64 (k : Int))).setCell ⟨ba, c * 2 + 1, none⟩ (.int .i64 (a : Int))) w4.heap.size (.slice (some ⟨b, 0, none⟩) L.length cap) L us ∧ Below w.heap.size w ((wr.setCell ⟨ba, c * 2, none⟩ (.int .i64 (k : Int))).setCell ⟨ba, c * 2 + 1, none⟩ (.int .i64 (a : Int)))) := by
              have e := seat_stored HT6.out.ra hcn (k : Int) (a : Int) HB6.out (Nat.le_refl _) (f' := fun i => seatV (g.seatK false k (a + 1) i)) (fun j hj => by rw [HSTEP.out a c hc j]; by_cases h : j = c <;> simp [h, seatV])
              have g1 := HT6.out.ra.stored (c * 2) (.int .i64 (k : Int))
              have g2 := g1.1.stored (c * 2 + 1) (.int .i64 (a : Int))
              have hne := HT6.out.ne
              have hlo := HLO.out.1
              refine ⟨⟨e.1, row_grown (row_grown HT6.out.rd g1.2 fun j hj h => ?_) g2.2 fun j hj h => ?_, hne⟩, (HO6.out.grown g1.2 hlo).grown g2.2 hlo, e.2⟩
              · cases h; cases hj; exact hne rfl
              · cases h; cases hj; exact hne rfl
            clear hc
            go_wp2
            go_roundg (s.cs.length - (a + 1))
            case measure => omega
            case rel => exact ⟨a + 1, by go_num, by omega, Nat.le_refl _, HST.out.1, HST.out.2.1, HST.out.2.2⟩
          · have hlaz : ¬ (a : Int) < (s.cs.length : Int) := by omega
            obtain rfl : a = s.cs.length := by omega
            have HTn : Aside (TwoS wr w.heap.size ba bd g (k + 1) 0 0) := by
              have ht := HT6.out
              refine ⟨?_, ?_, ht.ne⟩
              · rw [cellsS_congr (fun i _ => congrArg seatV (HNX.out false i))]; exact ht.ra
              · rw [cellsS_congr (fun i _ => congrArg seatV (HNX.out true i))]; exact ht.rd
            go_wp2
            go_roundg (L.length - (k + 1))
            case measure => have := HK.out; have := HG1.out; omega
            case rel => exact ⟨k + 1, by go_num, HK.out, Nat.le_refl _, HTn, HO6, HB6⟩
      | true =>
        rw [hdn] at e1 HTb HOb HBb
        rw [hdn] at HSTEP HNX
        have HNX : Aside (∀ (dn : Bool) (i : Nat), g.seatK dn (k + 1) 0 i = g.seatK dn k (if true = dn then s.cs.length else 0) i) := HNX
        have HSTEP : Aside (∀ (a c : Nat), s.cs[a]? = some c → ∀ i, g.seatK true k (a + 1) i = if i = c then some (k, a) else g.seatK true k a i) := HSTEP
        clear hdn
        go_wp2
        go_loopg [37] s.cs.length (fun g2 iv wr => ∃ a : Nat, iv = .int .i64 (a : Int) ∧ a ≤ s.cs.length ∧ s.cs.length - a ≤ g2 ∧ Aside (TwoS wr w.heap.size ba bd g k 0 a) ∧ Aside (OwnL wr w4.heap.size (.slice (some ⟨b, 0, none⟩) L.length cap) L us) ∧ Aside (Below w.heap.size w wr))
        case atStart => exact ⟨0, rfl, Nat.zero_le _, Nat.le_refl _, HTb, HOb, HBb⟩
        case round =>
          obtain ⟨a, rfl, ha, hg2, HT6, HO6, HB6⟩ := hrel
          by_cases hla : a < s.cs.length
          · have hlaz : (a : Int) < (s.cs.length : Int) := by omega
            have hc : s.cs[a]? = some (s.cs[a]'hla) := List.getElem?_eq_getElem hla
            generalize s.cs[a]'hla = c at hc
            obtain ⟨b7, o7, rfl, hb7, e7⟩ := (HO6.out.ints HKS.out HU.out) a (by rw [ints_length]; exact hla)
            rw [show (ints s.cs)[a]?.getD 0 = (c : Int) by simp [ints, hc]] at e7
            have hcn : c < g.n := HCN.out a c hc
            have hcz : (c : Int) < (g.n : Int) := by omega
            have hc256 : c < 256 := by omega
            have c0 := HT6.out.rd.cellAt (c * 2) (by omega)
            have c1 := HT6.out.rd.cellAt (c * 2 + 1) (by omega)
            rw [(cellsS_at hcn).1] at c0
            rw [(cellsS_at hcn).2] at c1
            have f0 := HT6.out.rd.frozenAt (c * 2)
            have f1 := HT6.out.rd.frozenAt (c * 2 + 1)
            have HST : Aside (TwoS ((wr.setCell ⟨bd, c * 2, none⟩ (.int .i64 (k : Int))).setCell ⟨bd, c * 2 + 1, none⟩ (.int .i64 (a : Int))) w.heap.size ba bd g k 0 (a + 1) ∧ OwnL ((wr.setCell ⟨bd, c * 2, none⟩ (.int .i64 (k : Int))).setCell ⟨bd, c * 2 + 1, none⟩ (.int .i64 (a : Int))) w4.heap.size (.slice (some ⟨b, 0, none⟩) L.length cap) L us ∧ Below w.heap.size w ((wr.setCell ⟨bd, c * 2, none⟩ (.int .i64 (k : Int))).setCell ⟨bd, c * 2 + 1, none⟩ (.int .i64 (a : Int)))) := by
              have e := seat_stored HT6.out.rd hcn (k : Int) (a : Int) HB6.out (Nat.le_refl _) (f' := fun i => seatV (g.seatK true k (a + 1) i)) (fun j hj => by rw [HSTEP.out a c hc j]; by_cases h : j = c <;> simp [h, seatV])
              have g1 := HT6.out.rd.stored (c * 2) (.int .i64 (k : Int))
              have g2 := g1.1.stored (c * 2 + 1) (.int .i64 (a : Int))
              have hne := HT6.out.ne
              have hlo := HLO.out.2
              refine ⟨⟨row_grown (row_grown HT6.out.ra g1.2 fun j hj h => ?_) g2.2 fun j hj h => ?_, e.1, hne⟩, (HO6.out.grown g1.2 hlo).grown g2.2 hlo, e.2⟩
              · cases h; cases hj; exact hne rfl
              · cases h; cases hj; exact hne rfl
            clear hc
            go_wp2
            go_roundg (s.cs.length - (a + 1))
            case measure => omega
            case rel => exact ⟨a + 1, by go_num, by omega, Nat.le_refl _, HST.out.1, HST.out.2.1, HST.out.2.2⟩
          · have hlaz : ¬ (a : Int) < (s.cs.length : Int) := by omega
            obtain rfl : a = s.cs.length := by omega
            have HTn : Aside (TwoS wr w.heap.size ba bd g (k + 1) 0 0) := by
              have ht := HT6.out
              refine ⟨?_, ?_, ht.ne⟩
              · rw [cellsS_congr (fun i _ => congrArg seatV (HNX.out false i))]; exact ht.ra
              · rw [cellsS_congr (fun i _ => congrArg seatV (HNX.out true i))]; exact ht.rd
            go_wp2
            go_roundg (L.length - (k + 1))
            case measure => have := HK.out; have := HG1.out; omega
            case rel => exact ⟨k + 1, by go_num, HK.out, Nat.le_refl _, HTn, HO6, HB6⟩
    · have hltz : ¬ (k : Int) < (L.length : Int) := by omega
      obtain rfl : k = L.length := by omega
      go_wp2
      go_ret2
      exact ⟨_, _, rfl, by rw [HLL.out]; exact HT.out, HB.out⟩

set_option maxHeartbeats 1000000 in
theorem Seats_shut (g : Gr) (p : Ad) (hc : ¬ g.ok) (w : World) (hw' : Wy w) (hR : RG w g p) :
    Calls Tryd.prog 28 #[gv g p] w fun e w' => e = .returned (.tuple #[.slice none 0 0, .slice none 0 0]) ∧ Below w.heap.size w w' := by
  have cC := check_any g p (w.alloc (.cells #[.int .i64 g.h, .int .i64 g.w, .slice p.a1 g.B.length p.c1, .slice p.a2 g.R.length p.c2, .slice p.a3 g.D.length p.c3] 27)) (hw'.below hw'.size (below_box w _)) (hR.below (below_box w _))
  have hc2 : ¬ g.chk = 0 := hc
  have hc3 : ¬ ((g.chk : Nat) : Int) = 0 := by omega
  unfold gv at cC
  unfold gv
  clear hR hw' hc
  go_enter Tryd.func28, Tryd.ntmps28
  go_wp2_with fail
  refine cC.mono ?_
  rintro e w1 ⟨rfl, hb1⟩
  have HB1 : Aside (Below w.heap.size w w1) := (below_box w _).trans (hb1.mono (below_box w _).size)
  clear cC hb1
  go_wp2
  go_ret2
  exact ⟨rfl, HB1.out⟩
/-- The program's Seats, of any grid. -/
theorem Seats_any (g : Gr) (p : Ad) (w : World) (hw : Wy w) (hR : RG w g p) :
    Calls Tryd.prog 28 #[gv g p] w fun e w' => ∃ va vd, e = .returned (.tuple #[va, vd]) ∧ OwnS w' w.heap.size va vd g ∧ Below w.heap.size w w' := by
  by_cases hok : g.ok
  · refine (Seats_ok g p hok w hw hR).mono ?_
    rintro e w' ⟨ba, bd, rfl, hT, hb⟩
    have hm : g.m = g.n := if_pos hok
    refine ⟨_, _, rfl, ⟨?_, ?_, fun j h e => ?_⟩, hb⟩
    · rw [hm, cellsS_congr (fun i _ => congrArg seatV (g.seatK_all false i).symm)]; exact hT.ra
    · rw [hm, cellsS_congr (fun i _ => congrArg seatV (g.seatK_all true i).symm)]; exact hT.rd
    · cases h; cases e; exact hT.ne rfl
  · refine (Seats_shut g p hok w hw hR).mono ?_
    rintro e w' ⟨rfl, hb⟩
    have hm : g.m = 0 := if_neg hok
    refine ⟨_, _, rfl, ⟨?_, ?_, fun j h => by cases h⟩, hb⟩
    · rw [hm]; exact ⟨rfl, .inl ⟨rfl, rfl⟩⟩
    · rw [hm]; exact ⟨rfl, .inl ⟨rfl, rfl⟩⟩
end Go.Proofs.YthjgldjjplcncabDoor.Grd
/-
  The program's Crossings and Lone.
-/
namespace Go.Proofs.YthjgldjjplcncabDoor.Grd
open Go Go.Lib Go.RowKit

/-- A list of seats, wherever it lies. -/
def ReadsS (W : World) (ao : Option Addr) (f : Nat → Int × Int) (m : Nat) : Prop := ∀ i, i < m → ∃ b, ao = some ⟨b, 0, none⟩ ∧ b < W.heap.size ∧ W.cell? ⟨b, i * 2, none⟩ = some (.int .i64 (f i).1) ∧ W.cell? ⟨b, i * 2 + 1, none⟩ = some (.int .i64 (f i).2)
theorem ReadsS.below {W W' : World} {ao : Option Addr} {f : Nat → Int × Int} {m : Nat} (h : ReadsS W ao f m) (hb : Below W.heap.size W W') : ReadsS W' ao f m := fun i hi => by
  obtain ⟨b, h1, h2, h3, h4⟩ := h i hi
  exact ⟨b, h1, Nat.lt_of_lt_of_le h2 hb.size, (hb.cell (p := ⟨b, i * 2, none⟩) h2).trans h3, (hb.cell (p := ⟨b, i * 2 + 1, none⟩) h2).trans h4⟩
theorem row_readsS {W : World} {B m : Nat} {v : Value} {f : Nat → Int × Int} (h : W.ownsRow B 77 2 v m (cellsS f m)) : ∃ ao cap, v = .slice ao m cap ∧ ReadsS W ao f m := by
  rcases h.2 with ⟨rfl, h0⟩ | ⟨g, cap, cur, rfl, hb, _⟩
  · exact ⟨none, 0, by rw [h0], fun i hi => by omega⟩
  · refine ⟨_, cap, rfl, fun i hi => ⟨g, rfl, (h.lt g rfl).2, ?_, ?_⟩⟩
    · rw [h.cellAt _ (by omega), (cellsS_at hi).1]
    · rw [h.cellAt _ (by omega), (cellsS_at hi).2]
theorem seatV_pos (o : Option (Nat × Nat)) : decide (0 ≤ (seatV o).1) = o.isSome := by
  cases o with
  | none => decide
  | some p => exact decide_eq_true (by show (0 : Int) ≤ (p.1 : Int); omega)
/-- Crossings among the first cells, and lone cells among them. -/
def Gr.isX (g : Gr) (i : Nat) : Bool := (g.seat false i).isSome && (g.seat true i).isSome
def Gr.crK (g : Gr) (k : Nat) : Nat := ((List.range k).filter g.isX).length
theorem Gr.crK_succ (g : Gr) (k : Nat) : g.crK (k + 1) = g.crK k + (if g.isX k then 1 else 0) := by
  unfold Gr.crK
  rw [List.range_succ, List.filter_append, List.length_append]
  congr 1
  cases h : g.isX k <;> simp [h]
theorem Gr.crK_le (g : Gr) (k : Nat) : g.crK k ≤ k := by
  unfold Gr.crK
  exact Nat.le_trans (List.length_filter_le _ _) (by rw [List.length_range]; exact Nat.le_refl _)
def Gr.isLone (g : Gr) (i : Nat) : Bool := !bt g.B i && !(g.seat false i).isSome && !(g.seat true i).isSome
def Gr.loK (g : Gr) (k : Nat) : List Nat := (List.range k).filter g.isLone
theorem Gr.loK_succ (g : Gr) (k : Nat) : g.loK (k + 1) = g.loK k ++ (if g.isLone k then [k] else []) := by
  unfold Gr.loK
  rw [List.range_succ, List.filter_append]
  congr 1
  cases h : g.isLone k <;> simp [h]
theorem Gr.loK_len (g : Gr) (k : Nat) : (g.loK k).length ≤ k := by
  unfold Gr.loK
  exact Nat.le_trans (List.length_filter_le _ _) (by rw [List.length_range]; exact Nat.le_refl _)
theorem Gr.m_le (g : Gr) : g.m ≤ 256 := by
  unfold Gr.m
  by_cases h : g.ok
  · rw [if_pos h]; exact (Gr.right_of h).n_le.2
  · rw [if_neg h]; omega

set_option maxRecDepth 20000 in
set_option maxHeartbeats 2000000 in
theorem Crossings_any (g : Gr) (p : Ad) (w : World) (hw : Wy w) (hR : RG w g p) :
    Calls Tryd.prog 13 #[gv g p] w fun e w' => e = .returned (.int .i64 (g.crK g.m : Nat)) ∧ Below w.heap.size w w' := by
  have cS := Seats_any g p (w.alloc (.cells #[.int .i64 g.h, .int .i64 g.w, .slice p.a1 g.B.length p.c1, .slice p.a2 g.R.length p.c2, .slice p.a3 g.D.length p.c3] 27)) (hw.below hw.size (below_box w _)) (hR.below (below_box w _))
  have hm := g.m_le
  have HSU : Aside (∀ k, g.crK (k + 1) = g.crK k + (if g.isX k then 1 else 0)) := g.crK_succ
  have HLE : Aside (∀ k, g.crK k ≤ k) := g.crK_le
  have HIX : Aside (∀ k, g.isX k = (decide (0 ≤ (seatV (g.seat false k)).1) && decide (0 ≤ (seatV (g.seat true k)).1))) := fun k => by rw [seatV_pos, seatV_pos]; rfl
  have hc0 : g.crK 0 = 0 := rfl
  unfold gv at cS
  unfold gv
  clear hw hR
  go_enter Tryd.func13, Tryd.ntmps13
  go_wp2_with fail
  refine cS.mono ?_
  rintro e w1 ⟨va, vd, rfl, hO, hb1⟩
  obtain ⟨a1, c1, rfl, hR1⟩ := row_readsS hO.ra
  obtain ⟨a2, c2, rfl, hR2⟩ := row_readsS hO.rd
  have HR1 : Aside (ReadsS w1 a1 (fun i => seatV (g.seat false i)) g.m) := hR1
  have HR2 : Aside (ReadsS w1 a2 (fun i => seatV (g.seat true i)) g.m) := hR2
  have HB1 : Aside (Below w.heap.size w w1) := (below_box w _).trans (hb1.mono (below_box w _).size)
  clear cS hO hR1 hR2 hb1
  generalize hgm : g.m = m at *
  have HGM : Aside (g.m = m) := hgm
  clear hgm
  go_wp2
  go_loopg [5, 14] m (fun g1 nv iv wr => ∃ k : Nat, nv = .int .i64 (g.crK k : Nat) ∧ iv = .int .i64 (k : Int) ∧ k ≤ m ∧ m - k ≤ g1 ∧ Aside (Below w1.heap.size w1 wr))
  case atStart => exact ⟨0, by rw [hc0]; rfl, rfl, Nat.zero_le _, Nat.le_refl _, Below.refl _ _⟩
  case round =>
    obtain ⟨k, rfl, rfl, hk, hg, HBk⟩ := hrel
    by_cases hlt : k < m
    · have hltz : (k : Int) < (m : Int) := by omega
      obtain ⟨b1, rfl, hb1, x0, x1⟩ := (HR1.out.below HBk.out) k hlt
      obtain ⟨b2, rfl, hb2, y0, y1⟩ := (HR2.out.below HBk.out) k hlt
      dsimp only at x0 x1 y0 y1
      have HIXk : Aside _ := HIX.out k
      have hcl := HLE.out k
      generalize seatV (g.seat false k) = x at *
      generalize seatV (g.seat true k) = y at *
      obtain ⟨x, xx⟩ := x
      obtain ⟨y, yy⟩ := y
      have HY : Aside (∀ W, Below wr.heap.size wr W → W.cell? ⟨b2, k * 2, none⟩ = some (.int .i64 y) ∧ W.cell? ⟨b2, k * 2 + 1, none⟩ = some (.int .i64 yy)) := fun W hW => ⟨(hW.cell (p := ⟨b2, k * 2, none⟩) hb2).trans y0, (hW.cell (p := ⟨b2, k * 2 + 1, none⟩) hb2).trans y1⟩
      have cI := isSeat_any x xx wr
      have CJ : Aside (∀ W, Calls Tryd.prog 29 #[.agg #[.int .i64 y, .int .i64 yy]] W fun e w' => e = .returned (.bool (decide (0 ≤ y))) ∧ Below W.heap.size W w') := fun W => isSeat_any y yy W
      have hcl2 : g.crK k ≤ 256 := by omega
      clear y0 y1
      cases hx : decide (0 ≤ x) with
      | false =>
        rw [hx] at cI
        have HN : Aside (g.crK (k + 1) = g.crK k) := by show _ = _; rw [HSU.out, HIXk.out, hx]; rfl
        clear hx
        go_wp2_with fail
        refine cI.mono ?_
        rintro e w4 ⟨rfl, hb4⟩
        have HB4 : Aside (Below w1.heap.size w1 w4) := HBk.out.trans (hb4.mono HBk.out.size)
        clear cI hb4 x0 x1
        go_wp2
        go_roundg (m - (k + 1))
        case measure => omega
        case rel => exact ⟨k + 1, by rw [HN.out], by go_num, by omega, Nat.le_refl _, HB4⟩
      | true =>
        rw [hx] at cI
        go_wp2_with fail
        refine cI.mono ?_
        rintro e w4 ⟨rfl, hb4⟩
        have HB4 : Aside (Below w1.heap.size w1 w4) := HBk.out.trans (hb4.mono HBk.out.size)
        obtain ⟨y0, y1⟩ := HY.out w4 hb4
        have cJ := CJ.out w4
        have HHX : Aside (decide (0 ≤ x) = true) := hx
        clear cI hb4 x0 x1 hx
        cases hy : decide (0 ≤ y) with
        | false =>
          rw [hy] at cJ
          have HN : Aside (g.crK (k + 1) = g.crK k) := by show _ = _; rw [HSU.out, HIXk.out, hy, Bool.and_false]; rfl
          clear hy
          go_wp2_with fail
          refine cJ.mono ?_
          rintro e w5 ⟨rfl, hb5⟩
          have HB5 : Aside (Below w1.heap.size w1 w5) := HB4.out.trans (hb5.mono HB4.out.size)
          clear cJ hb5 y0 y1
          go_wp2
          go_roundg (m - (k + 1))
          case measure => omega
          case rel => exact ⟨k + 1, by rw [HN.out], by go_num, by omega, Nat.le_refl _, HB5⟩
        | true =>
          rw [hy] at cJ
          have HN : Aside (g.crK (k + 1) = g.crK k + 1) := by show _ = _; rw [HSU.out, HIXk.out, HHX.out, hy]; rfl
          clear hy
          go_wp2_with fail
          refine cJ.mono ?_
          rintro e w5 ⟨rfl, hb5⟩
          have HB5 : Aside (Below w1.heap.size w1 w5) := HB4.out.trans (hb5.mono HB4.out.size)
          clear cJ hb5 y0 y1
          go_wp2
          go_roundg (m - (k + 1))
          case measure => omega
          case rel => exact ⟨k + 1, by rw [HN.out]; go_num, by go_num, by omega, Nat.le_refl _, HB5⟩
    · have hltz : ¬ (k : Int) < (m : Int) := by omega
      obtain rfl : k = m := by omega
      go_wp2
      go_ret
      exact ⟨by rw [HGM.out]; rfl, HB1.out.trans (HBk.out.mono HB1.out.size)⟩
end Go.Proofs.YthjgldjjplcncabDoor.Grd
