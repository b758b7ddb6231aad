/-
  The scanner's box, cell by cell; a scope with several labels.
-/
import Derived.Test.YthjgldjjplcncabDoorSkm
import Derived.Test.YthjgldjjplcncabDoorTrnoq
import Derived.Test.YthjgldjjplcncabDoorUtfa
import Derived.Test.YthjgldjjplcncabDoorFldw
import Derived.ScopeJumps
import Derived.ControlIn
import Derived.WalkMore
namespace Go.Proofs.YthjgldjjplcncabDoor.Skt
open Go Go.Lib Go.RowKit Utf Grd

/-- A box of a scanner. -/
structure S11 (W : World) (b : Nat) (x0 x1 x2 x3 x4 x5 x6 x7 x8 x9 x10 : Value) : Prop where
  blk : W.heap[b]? = some (.cells #[x0, x1, x2, x3, x4, x5, x6, x7, x8, x9, x10] 61)
section
variable {W W' : World} {b : Nat} {x0 x1 x2 x3 x4 x5 x6 x7 x8 x9 x10 : Value}
theorem S11.c0 (h : S11 W b x0 x1 x2 x3 x4 x5 x6 x7 x8 x9 x10) : W.cell? ⟨b, 0, none⟩ = some x0 := by simp [World.cell?, h.blk]
theorem S11.c1 (h : S11 W b x0 x1 x2 x3 x4 x5 x6 x7 x8 x9 x10) : W.cell? ⟨b, 1, none⟩ = some x1 := by simp [World.cell?, h.blk]
theorem S11.c2 (h : S11 W b x0 x1 x2 x3 x4 x5 x6 x7 x8 x9 x10) : W.cell? ⟨b, 2, none⟩ = some x2 := by simp [World.cell?, h.blk]
theorem S11.c3 (h : S11 W b x0 x1 x2 x3 x4 x5 x6 x7 x8 x9 x10) : W.cell? ⟨b, 3, none⟩ = some x3 := by simp [World.cell?, h.blk]
theorem S11.c4 (h : S11 W b x0 x1 x2 x3 x4 x5 x6 x7 x8 x9 x10) : W.cell? ⟨b, 4, none⟩ = some x4 := by simp [World.cell?, h.blk]
theorem S11.c5 (h : S11 W b x0 x1 x2 x3 x4 x5 x6 x7 x8 x9 x10) : W.cell? ⟨b, 5, none⟩ = some x5 := by simp [World.cell?, h.blk]
theorem S11.c6 (h : S11 W b x0 x1 x2 x3 x4 x5 x6 x7 x8 x9 x10) : W.cell? ⟨b, 6, none⟩ = some x6 := by simp [World.cell?, h.blk]
theorem S11.c7 (h : S11 W b x0 x1 x2 x3 x4 x5 x6 x7 x8 x9 x10) : W.cell? ⟨b, 7, none⟩ = some x7 := by simp [World.cell?, h.blk]
theorem S11.c8 (h : S11 W b x0 x1 x2 x3 x4 x5 x6 x7 x8 x9 x10) : W.cell? ⟨b, 8, none⟩ = some x8 := by simp [World.cell?, h.blk]
theorem S11.c9 (h : S11 W b x0 x1 x2 x3 x4 x5 x6 x7 x8 x9 x10) : W.cell? ⟨b, 9, none⟩ = some x9 := by simp [World.cell?, h.blk]
theorem S11.c10 (h : S11 W b x0 x1 x2 x3 x4 x5 x6 x7 x8 x9 x10) : W.cell? ⟨b, 10, none⟩ = some x10 := by simp [World.cell?, h.blk]
theorem S11.fr (h : S11 W b x0 x1 x2 x3 x4 x5 x6 x7 x8 x9 x10) (j : Nat) : W.frozen? ⟨b, j, none⟩ = false := frozen_of_row W b j _ _ h.blk
theorem S11.lt (h : S11 W b x0 x1 x2 x3 x4 x5 x6 x7 x8 x9 x10) : b < W.heap.size := (Array.getElem?_eq_some_iff.1 h.blk).1
theorem S11.keep (h : S11 W b x0 x1 x2 x3 x4 x5 x6 x7 x8 x9 x10) (hb : Below W.heap.size W W') : S11 W' b x0 x1 x2 x3 x4 x5 x6 x7 x8 x9 x10 := ⟨(hb.block b h.lt).trans h.blk⟩
theorem S11.dif {O : Nat → Prop} (h : S11 W b x0 x1 x2 x3 x4 x5 x6 x7 x8 x9 x10) (hd : Dif O W W') (ho : ¬ O b) : S11 W' b x0 x1 x2 x3 x4 x5 x6 x7 x8 x9 x10 := ⟨(hd.block b h.lt ho).trans h.blk⟩
theorem S11.other {c j : Nat} {u : Value} (h : S11 W b x0 x1 x2 x3 x4 x5 x6 x7 x8 x9 x10) (hc : b ≠ c) : S11 (W.setCell ⟨c, j, none⟩ u) b x0 x1 x2 x3 x4 x5 x6 x7 x8 x9 x10 := ⟨((set_grown W c j u).block b h.lt (fun e => hc (Option.some.inj e))).trans h.blk⟩
theorem S11.set0 (h : S11 W b x0 x1 x2 x3 x4 x5 x6 x7 x8 x9 x10) (u : Value) : S11 (W.setCell ⟨b, 0, none⟩ u) b u x1 x2 x3 x4 x5 x6 x7 x8 x9 x10 := ⟨heap_setCell_same W b 0 _ _ u h.blk⟩
theorem S11.set1 (h : S11 W b x0 x1 x2 x3 x4 x5 x6 x7 x8 x9 x10) (u : Value) : S11 (W.setCell ⟨b, 1, none⟩ u) b x0 u x2 x3 x4 x5 x6 x7 x8 x9 x10 := ⟨heap_setCell_same W b 1 _ _ u h.blk⟩
theorem S11.set2 (h : S11 W b x0 x1 x2 x3 x4 x5 x6 x7 x8 x9 x10) (u : Value) : S11 (W.setCell ⟨b, 2, none⟩ u) b x0 x1 u x3 x4 x5 x6 x7 x8 x9 x10 := ⟨heap_setCell_same W b 2 _ _ u h.blk⟩
theorem S11.set3 (h : S11 W b x0 x1 x2 x3 x4 x5 x6 x7 x8 x9 x10) (u : Value) : S11 (W.setCell ⟨b, 3, none⟩ u) b x0 x1 x2 u x4 x5 x6 x7 x8 x9 x10 := ⟨heap_setCell_same W b 3 _ _ u h.blk⟩
theorem S11.set4 (h : S11 W b x0 x1 x2 x3 x4 x5 x6 x7 x8 x9 x10) (u : Value) : S11 (W.setCell ⟨b, 4, none⟩ u) b x0 x1 x2 x3 u x5 x6 x7 x8 x9 x10 := ⟨heap_setCell_same W b 4 _ _ u h.blk⟩
theorem S11.set5 (h : S11 W b x0 x1 x2 x3 x4 x5 x6 x7 x8 x9 x10) (u : Value) : S11 (W.setCell ⟨b, 5, none⟩ u) b x0 x1 x2 x3 x4 u x6 x7 x8 x9 x10 := ⟨heap_setCell_same W b 5 _ _ u h.blk⟩
theorem S11.set6 (h : S11 W b x0 x1 x2 x3 x4 x5 x6 x7 x8 x9 x10) (u : Value) : S11 (W.setCell ⟨b, 6, none⟩ u) b x0 x1 x2 x3 x4 x5 u x7 x8 x9 x10 := ⟨heap_setCell_same W b 6 _ _ u h.blk⟩
theorem S11.set7 (h : S11 W b x0 x1 x2 x3 x4 x5 x6 x7 x8 x9 x10) (u : Value) : S11 (W.setCell ⟨b, 7, none⟩ u) b x0 x1 x2 x3 x4 x5 x6 u x8 x9 x10 := ⟨heap_setCell_same W b 7 _ _ u h.blk⟩
theorem S11.set8 (h : S11 W b x0 x1 x2 x3 x4 x5 x6 x7 x8 x9 x10) (u : Value) : S11 (W.setCell ⟨b, 8, none⟩ u) b x0 x1 x2 x3 x4 x5 x6 x7 u x9 x10 := ⟨heap_setCell_same W b 8 _ _ u h.blk⟩
theorem S11.set9 (h : S11 W b x0 x1 x2 x3 x4 x5 x6 x7 x8 x9 x10) (u : Value) : S11 (W.setCell ⟨b, 9, none⟩ u) b x0 x1 x2 x3 x4 x5 x6 x7 x8 u x10 := ⟨heap_setCell_same W b 9 _ _ u h.blk⟩
theorem S11.set10 (h : S11 W b x0 x1 x2 x3 x4 x5 x6 x7 x8 x9 x10) (u : Value) : S11 (W.setCell ⟨b, 10, none⟩ u) b x0 x1 x2 x3 x4 x5 x6 x7 x8 x9 u := ⟨heap_setCell_same W b 10 _ _ u h.blk⟩
end

/-- As Q; by a goto to a label: what J says of that label. -/
def Exit.many (J : Nat → Act → World → Prop) (Q : Exit → Act → World → Prop) : Exit → Act → World → Prop
  | .goto l, a, w => J l a w
  | e, a, w => Q e a w
theorem wp_scope_many {P : Program} {a : Act} {w : World} {Q : Exit → Act → World → Prop} {c : Code} (rest : Nat → Code) (J : Nat → Act → World → Prop) (μ : Nat → Act → World → Nat) (hf : ∀ l a w, J l a w → findLabel c l = some (rest l))
    (first : c.wp P (Exit.many J Q) a w)
    (pass : ∀ l a w, J l a w → (rest l).wp P (Exit.many (fun l' a' w' => J l' a' w' ∧ μ l' a' w' < μ l a w) Q) a w) : (Code.scope c).wp P Q a w := by
  intro b k cs
  have hg : ∀ l a w, J l a w → gotoIn l (.inScope c :: k) = some (.code (rest l) :: .inScope c :: k) := fun l a w h => by simp [gotoIn, hf l a w h]
  have key : ∀ n l a w, μ l a w = n → J l a w → ∃ e a' w', Q e a' w' ∧ Arrives P (lone (b.at a (.code (rest l) :: .inScope c :: k)) cs w) b k cs e a' w' := by
    intro n
    induction n using Nat.strongRecOn with
    | _ n ih =>
      intro l a w hn hJ
      obtain ⟨e, a₁, w₁, hq, harr⟩ := pass l a w hJ b (.inScope c :: k) cs
      cases e with
      | normal => exact ⟨.normal, a₁, w₁, hq, Steps.trans harr (.one step_inScope)⟩
      | exit id => exact ⟨.exit id, a₁, w₁, hq, fun k' hk => harr k' (by simp [exitTo, hk])⟩
      | goto l' =>
        obtain ⟨hJ', hlt⟩ := hq
        obtain ⟨e₂, a₂, w₂, hq₂, harr₂⟩ := ih _ (by omega) l' a₁ w₁ rfl hJ'
        exact ⟨e₂, a₂, w₂, hq₂, .of_steps (harr _ (hg l' _ _ hJ')) harr₂⟩
      | ret => exact ⟨_, a₁, w₁, hq, harr⟩
      | panic ch => exact ⟨_, a₁, w₁, hq, harr⟩
      | outgrown => exact ⟨_, a₁, w₁, hq, harr⟩
  obtain ⟨e, a₁, w₁, hq, harr⟩ := first b (.inScope c :: k) cs
  cases e with
  | normal => exact ⟨.normal, a₁, w₁, hq, .head step_scope (Steps.trans harr (.one step_inScope))⟩
  | exit id => exact ⟨.exit id, a₁, w₁, hq, fun k' hk => .head step_scope (harr k' (by simp [exitTo, hk]))⟩
  | goto l' =>
    obtain ⟨e₂, a₂, w₂, hq₂, harr₂⟩ := key _ l' a₁ w₁ rfl hq
    exact ⟨e₂, a₂, w₂, hq₂, .of_steps (.head step_scope (harr _ (hg l' _ _ hq))) harr₂⟩
  | ret => exact ⟨_, a₁, w₁, hq, .of_steps (.one step_scope) harr⟩
  | panic ch => exact ⟨_, a₁, w₁, hq, .of_steps (.one step_scope) harr⟩
  | outgrown => exact ⟨_, a₁, w₁, hq, .of_steps (.one step_scope) harr⟩
theorem wp_many_weaken {P : Program} {c : Code} {J J' : Nat → Act → World → Prop} {Q : Exit → Act → World → Prop} {a : Act} {w : World} (hJ : ∀ l a w, J l a w → J' l a w) (h : c.wp P (Exit.many J Q) a w) : c.wp P (Exit.many J' Q) a w := by
  refine (wpIn_wide (n := 3)).1 (wpIn_mono ((wpIn_wide (n := 3)).2 h) ?_)
  intro e a' w' hq
  cases e with
  | goto l => exact hJ l a' w' hq
  | normal => exact hq
  | exit id => exact hq
  | ret => exact hq
  | panic ch => exact hq
  | outgrown => exact hq

/-- The number in a cell. -/
def rdN (W : World) (b j : Nat) : Nat := match W.cell? ⟨b, j, none⟩ with
  | some (.int _ z) => z.toNat
  | _ => 0
theorem rdN_of {W : World} {b j : Nat} {k : IntKind} {n : Nat} (h : W.cell? ⟨b, j, none⟩ = some (.int k (n : Int))) : rdN W b j = n := by
  unfold rdN
  rw [h]
  rfl
theorem dif_tabs {O : Nat → Prop} {W W' : World} (h : Dif O W W') (hO : ∀ k, k < 2 + 1 → ¬ O k) (hT : Lib.Utf8Tabs 1 2 W) : Lib.Utf8Tabs 1 2 W' :=
  tabs_below (h.below (B := 2 + 1) (fun k hk _ => hO k hk) (tabs_size hT)) (Nat.lt_succ_self _) hT

theorem sgnOf_any (r : Int) (wd : Int) (w : World) :
    Calls Tryd.prog 53 #[.int .i32 r, .int .i64 wd] w fun e w' => e = .returned (.int .i32 (if wd = 0 then -1 else if r = 9632 then 35 else if r = 9633 then 46 else r)) ∧ w' = w := by
  by_cases h0 : wd = 0
  · rw [if_pos h0]
    subst h0
    go_enter Tryd.func53, Tryd.ntmps53
    go_wp2
    go_ret
    exact ⟨rfl, rfl⟩
  · rw [if_neg h0]
    by_cases h1 : r = 9632
    · rw [if_pos h1]
      subst h1
      go_enter Tryd.func53, Tryd.ntmps53
      go_wp2
      go_ret
      exact ⟨rfl, rfl⟩
    · rw [if_neg h1]
      by_cases h2 : r = 9633
      · rw [if_pos h2]
        subst h2
        go_enter Tryd.func53, Tryd.ntmps53
        go_wp2
        go_ret
        exact ⟨rfl, rfl⟩
      · rw [if_neg h2]
        go_enter Tryd.func53, Tryd.ntmps53
        go_wp2
        go_ret
        exact ⟨rfl, rfl⟩
end Go.Proofs.YthjgldjjplcncabDoor.Skt
