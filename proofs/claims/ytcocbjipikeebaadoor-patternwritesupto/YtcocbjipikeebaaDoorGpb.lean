/-
  Operations that give a value in a drawing region (as in Lxnz, where less is reached).
-/
import Derived.Test.YtcocbjipikeebaaDoorGxl
import Derived.Maps.AppendAt
import Derived.OrdersHeld
import Derived.Test.YtcocbjipikeebaaDoorGps
import Derived.Test.YtcocbjipikeebaaDoorGal
import Derived.ScopeJumps
import Derived.ControlIn
import Derived.WalkMore
import Derived.Laws.OwnMore
import Derived.Deep.RegionWith
namespace Go.Proofs.YtcocbjipikeebaaDoor.Utf
open Go Go.Lib Go.RowKit

theorem wpOpV {P : Program} {ops : Array Oper} {Q : Exit → Act → World → Prop} {i d : Nat} {o : Oper} {K : Act → World → Prop} {a : Act} {w w' : World} {v : Value} (q : ops[i]? = some o) (g : o.guard = none) (hd : o.dst = some d) (h : (execOp a.eval o).run P w = .ok (.value v) w') (hK : K (a.put (some d) v) w') : wpOp P ops Q i K a w := by
  refine wpOp_wp q g ?_
  unfold Oper.wp
  rw [h, Oper.upon_value, hd]
  exact hK
theorem wpOpA {P : Program} {w : World} {ops : Array Oper} {Q : Exit → Act → World → Prop} {j d : Nat} {o : Oper} {K : Act → World → Prop} {a : Act} (q : ops[j]? = some o) (hgd : o.guard = none) (hd : o.dst = some d) (s x : Operand) (t : TypeId)
    (ho : o.op = .call { callee := .builtin .append, args := #[s, x], argTypes := #[t, t] })
    (base : Nat) (e : TypeId) (i : TypeInfo) (z : Value) (size bytes : Nat) (ht : P.underlying t = some (.slice e)) (hi : P.info? e = some i) (hz : i.zero = some z)
    (hsize : i.size = size) (hby : i.bytes = bytes) (hzs : z.cells.size = size) (hsz : 0 < size)
    (v : Value) (n : Nat) (xs : List Value) (hs : a.eval s = v) (hown : w.ownsRow base e size v n xs)
    (ad : Addr) (m c : Nat) (news : List Value) (hx : a.eval x = .slice (some ad) m c) (hl : news.length = m * size) (hnews : ∀ j u, news[j]? = some u → w.cell? (ad.add j) = some u) (h1 : ∀ u ∈ news, u.oneCell' = true)
    (h63 : n + m ≤ maxLen) (hbytes : (n + m) * bytes ≤ 140737488355328) (hbase : base ≤ w.heap.size)
    (h : ∀ v' w', w'.ownsRow base e size v' (n + m) (xs ++ news) → w.grownBy w' v.ownBlock → (v'.ownBlock = v.ownBlock ∨ v'.ownBlock = some w.heap.size) → K (a.put (some d) v') w') :
    wpOp P ops Q j K a w := by
  refine wpOp_wp q hgd ?_
  obtain ⟨v', w', hr, h2, h3, _, h5⟩ := run_append_own_at (P := P) w base t o.type e i z size bytes ht hi hz hsize hby hzs hsz v n xs hown ad m c news hl hnews h1 h63 hbytes hbase
  unfold Oper.wp execOp
  simp only [ho, resolve, invoke, builtin, Sem.run_bind, Sem.run_pure, Result.andThen_ok, List.map_toArray, List.map_cons, List.map_nil, hs, hx, hr]
  rw [Oper.upon_value, hd]
  exact h v' w' h2 h3 h5
end Go.Proofs.YtcocbjipikeebaaDoor.Utf
/-
  The pattern scanner's box, cell by cell; a scope with four labels.
-/
namespace Go.Proofs.YtcocbjipikeebaaDoor.Pts
open Go Go.Lib Go.RowKit Utf

/-- Two worlds that differ in some blocks and in new ones alone. -/
structure Dif (O : Nat → Prop) (w w' : World) : Prop where
  os : w'.os = w.os
  tape : w'.tape = w.tape
  output : w'.output = w.output
  size : w.heap.size ≤ w'.heap.size
  block : ∀ k, k < w.heap.size → ¬ O k → w'.heap[k]? = w.heap[k]?
theorem Dif.refl (O : Nat → Prop) (w : World) : Dif O w w := ⟨rfl, rfl, rfl, Nat.le_refl _, fun _ _ _ => rfl⟩
theorem Dif.trans {O : Nat → Prop} {a b c : World} (h : Dif O a b) (k : Dif O b c) : Dif O a c := ⟨k.os.trans h.os, k.tape.trans h.tape, k.output.trans h.output, Nat.le_trans h.size k.size, fun i hi ho => (k.block i (by have := h.size; omega) ho).trans (h.block i hi ho)⟩
theorem Dif.mono {O O' : Nat → Prop} {a b : World} (h : Dif O a b) (hm : ∀ k, k < a.heap.size → O k → O' k) : Dif O' a b := ⟨h.os, h.tape, h.output, h.size, fun k hk ho => h.block k hk fun h1 => ho (hm k hk h1)⟩
theorem Dif.of_below {O : Nat → Prop} {a b : World} (h : Below a.heap.size a b) : Dif O a b := ⟨h.os, h.tape, h.output, h.size, fun k hk _ => h.block k hk⟩
theorem Dif.cell {O : Nat → Prop} {a b : World} (h : Dif O a b) {p : Addr} (hp : p.block < a.heap.size) (ho : ¬ O p.block) : b.cell? p = a.cell? p := by simp only [World.cell?, h.block p.block hp ho]
theorem Dif.below {O : Nat → Prop} {a b : World} (h : Dif O a b) {B : Nat} (hO : ∀ k, k < B → k < a.heap.size → ¬ O k) (hB : B ≤ a.heap.size) : Below B a b := ⟨h.os, h.tape, h.output, h.size, fun k hk => h.block k (by omega) (hO k hk (by omega))⟩
theorem Dif.set {O : Nat → Prop} {a b : World} (h : Dif O a b) (B j : Nat) (v : Value) (hB : O B) : Dif O a (b.setCell ⟨B, j, none⟩ v) :=
  h.trans ⟨rfl, rfl, rfl, by simp, fun k _ ho => heap_setCell_other b ⟨B, j, none⟩ k v (fun e => ho (e ▸ hB))⟩

theorem set_grown7 (w : World) (b j : Nat) (u : Value) : w.grownBy (w.setCell ⟨b, j, none⟩ u) (some b) := ⟨rfl, rfl, rfl, by simp, fun k _ hk => heap_setCell_other w ⟨b, j, none⟩ k u (fun e => hk (by simp [e]))⟩
/-- A row outside the blocks that differ. -/
theorem Dif.own {O : Nat → Prop} {W W' : World} {B n sz : Nat} {e : TypeId} {v : Value} {l : List Value} (hd : Dif O W W') (h : W.ownsRow B e sz v n l) (ho : ∀ g, v.ownBlock = some g → ¬ O g) : W'.ownsRow B e sz v n l := by
  rcases h with ⟨h1, h2 | ⟨g', cap, cur, e1, e2, e3, e4⟩⟩
  · exact ⟨h1, .inl h2⟩
  · subst e1
    exact ⟨h1, .inr ⟨g', cap, cur, rfl, e2, (hd.block g' (Array.getElem?_eq_some_iff.1 e3).1 (ho g' rfl)).trans e3, e4⟩⟩

/-- A box of a scanner. -/
structure S7 (W : World) (b : Nat) (x0 x1 x2 x3 x4 x5 x6 : Value) : Prop where
  blk : W.heap[b]? = some (.cells #[x0, x1, x2, x3, x4, x5, x6] 69)
section
variable {W W' : World} {b : Nat} {x0 x1 x2 x3 x4 x5 x6 : Value}
theorem S7.c0 (h : S7 W b x0 x1 x2 x3 x4 x5 x6) : W.cell? ⟨b, 0, none⟩ = some x0 := by simp [World.cell?, h.blk]
theorem S7.c1 (h : S7 W b x0 x1 x2 x3 x4 x5 x6) : W.cell? ⟨b, 1, none⟩ = some x1 := by simp [World.cell?, h.blk]
theorem S7.c2 (h : S7 W b x0 x1 x2 x3 x4 x5 x6) : W.cell? ⟨b, 2, none⟩ = some x2 := by simp [World.cell?, h.blk]
theorem S7.c3 (h : S7 W b x0 x1 x2 x3 x4 x5 x6) : W.cell? ⟨b, 3, none⟩ = some x3 := by simp [World.cell?, h.blk]
theorem S7.c4 (h : S7 W b x0 x1 x2 x3 x4 x5 x6) : W.cell? ⟨b, 4, none⟩ = some x4 := by simp [World.cell?, h.blk]
theorem S7.c5 (h : S7 W b x0 x1 x2 x3 x4 x5 x6) : W.cell? ⟨b, 5, none⟩ = some x5 := by simp [World.cell?, h.blk]
theorem S7.c6 (h : S7 W b x0 x1 x2 x3 x4 x5 x6) : W.cell? ⟨b, 6, none⟩ = some x6 := by simp [World.cell?, h.blk]
theorem S7.fr (h : S7 W b x0 x1 x2 x3 x4 x5 x6) (j : Nat) : W.frozen? ⟨b, j, none⟩ = false := frozen_of_row W b j _ _ h.blk
theorem S7.lt (h : S7 W b x0 x1 x2 x3 x4 x5 x6) : b < W.heap.size := (Array.getElem?_eq_some_iff.1 h.blk).1
theorem S7.keep (h : S7 W b x0 x1 x2 x3 x4 x5 x6) (hb : Below W.heap.size W W') : S7 W' b x0 x1 x2 x3 x4 x5 x6 := ⟨(hb.block b h.lt).trans h.blk⟩
theorem S7.dif {O : Nat → Prop} (h : S7 W b x0 x1 x2 x3 x4 x5 x6) (hd : Dif O W W') (ho : ¬ O b) : S7 W' b x0 x1 x2 x3 x4 x5 x6 := ⟨(hd.block b h.lt ho).trans h.blk⟩
theorem S7.set0 (h : S7 W b x0 x1 x2 x3 x4 x5 x6) (u : Value) : S7 (W.setCell ⟨b, 0, none⟩ u) b u x1 x2 x3 x4 x5 x6 := ⟨heap_setCell_same W b 0 _ _ u h.blk⟩
theorem S7.set1 (h : S7 W b x0 x1 x2 x3 x4 x5 x6) (u : Value) : S7 (W.setCell ⟨b, 1, none⟩ u) b x0 u x2 x3 x4 x5 x6 := ⟨heap_setCell_same W b 1 _ _ u h.blk⟩
theorem S7.set2 (h : S7 W b x0 x1 x2 x3 x4 x5 x6) (u : Value) : S7 (W.setCell ⟨b, 2, none⟩ u) b x0 x1 u x3 x4 x5 x6 := ⟨heap_setCell_same W b 2 _ _ u h.blk⟩
theorem S7.set3 (h : S7 W b x0 x1 x2 x3 x4 x5 x6) (u : Value) : S7 (W.setCell ⟨b, 3, none⟩ u) b x0 x1 x2 u x4 x5 x6 := ⟨heap_setCell_same W b 3 _ _ u h.blk⟩
theorem S7.set4 (h : S7 W b x0 x1 x2 x3 x4 x5 x6) (u : Value) : S7 (W.setCell ⟨b, 4, none⟩ u) b x0 x1 x2 x3 u x5 x6 := ⟨heap_setCell_same W b 4 _ _ u h.blk⟩
theorem S7.set5 (h : S7 W b x0 x1 x2 x3 x4 x5 x6) (u : Value) : S7 (W.setCell ⟨b, 5, none⟩ u) b x0 x1 x2 x3 x4 u x6 := ⟨heap_setCell_same W b 5 _ _ u h.blk⟩
theorem S7.set6 (h : S7 W b x0 x1 x2 x3 x4 x5 x6) (u : Value) : S7 (W.setCell ⟨b, 6, none⟩ u) b x0 x1 x2 x3 x4 x5 u := ⟨heap_setCell_same W b 6 _ _ u h.blk⟩
end
/-- As Q; by a goto to a label: what J says of that label. -/
def Exit.many (J : Nat → Act → World → Prop) (Q : Exit → Act → World → Prop) : Exit → Act → World → Prop
  | .goto l, a, w => J l a w
  | e, a, w => Q e a w
theorem wp_scope_many {P : Program} {a : Act} {w : World} {Q : Exit → Act → World → Prop} {c : Code} (rest : Nat → Code) (J : Nat → Act → World → Prop) (μ : Nat → Act → World → Nat) (hf : ∀ l a w, J l a w → findLabel c l = some (rest l))
    (first : c.wp P (Exit.many J Q) a w)
    (pass : ∀ l a w, J l a w → (rest l).wp P (Exit.many (fun l' a' w' => J l' a' w' ∧ μ l' a' w' < μ l a w) Q) a w) : (Code.scope c).wp P Q a w := by
  intro b k cs
  have hg : ∀ l a w, J l a w → gotoIn l (.inScope c :: k) = some (.code (rest l) :: .inScope c :: k) := fun l a w h => by simp [gotoIn, hf l a w h]
  have key : ∀ n l a w, μ l a w = n → J l a w → ∃ e a' w', Q e a' w' ∧ Arrives P (lone (b.at a (.code (rest l) :: .inScope c :: k)) cs w) b k cs e a' w' := by
    intro n
    induction n using Nat.strongRecOn with
    | _ n ih =>
      intro l a w hn hJ
      obtain ⟨e, a₁, w₁, hq, harr⟩ := pass l a w hJ b (.inScope c :: k) cs
      cases e with
      | normal => exact ⟨.normal, a₁, w₁, hq, Steps.trans harr (.one step_inScope)⟩
      | exit id => exact ⟨.exit id, a₁, w₁, hq, fun k' hk => harr k' (by simp [exitTo, hk])⟩
      | goto l' =>
        obtain ⟨hJ', hlt⟩ := hq
        obtain ⟨e₂, a₂, w₂, hq₂, harr₂⟩ := ih _ (by omega) l' a₁ w₁ rfl hJ'
        exact ⟨e₂, a₂, w₂, hq₂, .of_steps (harr _ (hg l' _ _ hJ')) harr₂⟩
      | ret => exact ⟨_, a₁, w₁, hq, harr⟩
      | panic ch => exact ⟨_, a₁, w₁, hq, harr⟩
      | outgrown => exact ⟨_, a₁, w₁, hq, harr⟩
  obtain ⟨e, a₁, w₁, hq, harr⟩ := first b (.inScope c :: k) cs
  cases e with
  | normal => exact ⟨.normal, a₁, w₁, hq, .head step_scope (Steps.trans harr (.one step_inScope))⟩
  | exit id => exact ⟨.exit id, a₁, w₁, hq, fun k' hk => .head step_scope (harr k' (by simp [exitTo, hk]))⟩
  | goto l' =>
    obtain ⟨e₂, a₂, w₂, hq₂, harr₂⟩ := key _ l' a₁ w₁ rfl hq
    exact ⟨e₂, a₂, w₂, hq₂, .of_steps (.head step_scope (harr _ (hg l' _ _ hq))) harr₂⟩
  | ret => exact ⟨_, a₁, w₁, hq, .of_steps (.one step_scope) harr⟩
  | panic ch => exact ⟨_, a₁, w₁, hq, .of_steps (.one step_scope) harr⟩
  | outgrown => exact ⟨_, a₁, w₁, hq, .of_steps (.one step_scope) harr⟩
theorem wp_many_weaken {P : Program} {c : Code} {J J' : Nat → Act → World → Prop} {Q : Exit → Act → World → Prop} {a : Act} {w : World} (hJ : ∀ l a w, J l a w → J' l a w) (h : c.wp P (Exit.many J Q) a w) : c.wp P (Exit.many J' Q) a w := by
  refine (wpIn_wide (n := 3)).1 (wpIn_mono ((wpIn_wide (n := 3)).2 h) ?_)
  intro e a' w' hq
  cases e with
  | goto l => exact hJ l a' w' hq
  | normal => exact hq
  | exit id => exact hq
  | ret => exact hq
  | panic ch => exact hq
  | outgrown => exact hq

/-- The number in a cell. -/
def rdN (W : World) (b j : Nat) : Nat := match W.cell? ⟨b, j, none⟩ with
  | some (.int _ z) => z.toNat
  | _ => 0
theorem rdN_of {W : World} {b j : Nat} {k : IntKind} {n : Nat} (h : W.cell? ⟨b, j, none⟩ = some (.int k (n : Int))) : rdN W b j = n := by
  unfold rdN
  rw [h]
  rfl

theorem wp_scope_four {P : Program} {a : Act} {w : World} {Q : Exit → Act → World → Prop} {c b0 b1 b2 b3 : Code} (J : Nat → Act → World → Prop) (μ : Nat → Act → World → Nat) (h4 : ∀ l a w, 4 ≤ l → ¬ J l a w)
    (f0 : findLabel c 0 = some (Code.skip.seq b0)) (f1 : findLabel c 1 = some (Code.skip.seq b1)) (f2 : findLabel c 2 = some (Code.skip.seq b2)) (f3 : findLabel c 3 = some (Code.skip.seq b3))
    (first : (∀ a w, J 0 a w → b0.wp P (Exit.many J Q) a w) → c.wp P (Exit.many J Q) a w)
    (p0 : (∀ a w, J 3 a w → b3.wp P (Exit.many (fun l' a' w' => J l' a' w' ∧ μ l' a' w' < μ 3 a w) Q) a w) → ∀ a w, J 0 a w → b0.wp P (Exit.many (fun l' a' w' => J l' a' w' ∧ μ l' a' w' < μ 0 a w) Q) a w)
    (p1 : ∀ a w, J 1 a w → b1.wp P (Exit.many (fun l' a' w' => J l' a' w' ∧ μ l' a' w' < μ 1 a w) Q) a w)
    (p2 : ∀ a w, J 2 a w → b2.wp P (Exit.many (fun l' a' w' => J l' a' w' ∧ μ l' a' w' < μ 2 a w) Q) a w)
    (p3 : ∀ a w, J 3 a w → b3.wp P (Exit.many (fun l' a' w' => J l' a' w' ∧ μ l' a' w' < μ 3 a w) Q) a w) : (Code.scope c).wp P Q a w := by
  refine wp_scope_many (fun l => match l with | 0 => Code.skip.seq b0 | 1 => Code.skip.seq b1 | 2 => Code.skip.seq b2 | _ => Code.skip.seq b3) J μ (fun l a w hJ => ?_) (first fun a w h => wp_many_weaken (fun _ _ _ h => h.1) (p0 p3 a w h)) (fun l a w hJ => ?_)
  · match l, hJ with
    | 0, _ => exact f0
    | 1, _ => exact f1
    | 2, _ => exact f2
    | 3, _ => exact f3
    | n + 4, h => exact absurd h (h4 _ _ _ (by omega))
  · match l, hJ with
    | 0, h => exact wp_seq (wp_skip (p0 p3 a w h))
    | 1, h => exact wp_seq (wp_skip (p1 a w h))
    | 2, h => exact wp_seq (wp_skip (p2 a w h))
    | 3, h => exact wp_seq (wp_skip (p3 a w h))
    | n + 4, h => exact absurd h (h4 _ _ _ (by omega))
theorem beq_no7 {a c : Int} (h : a ≠ c) : (a == c) = false := by rw [beq_eq_false_iff_ne]; exact h
end Go.Proofs.YtcocbjipikeebaaDoor.Pts
/-
  An alphabet, or none: Size and Number.
-/
namespace Go.Proofs.YtcocbjipikeebaaDoor.Pts
open Go Go.Lib Go.RowKit Utf

/-- An alphabet, or a nil one, of no letters. -/
def AlphaP (W : World) (pa : Option Addr) (L : List ByteArray) : Prop := (∃ al rk, pa = some ⟨al, 0, none⟩ ∧ IsAlpha W al L rk) ∨ (pa = none ∧ L = [])
theorem AlphaP.below {W W' : World} {pa : Option Addr} {L : List ByteArray} (h : AlphaP W pa L) (hb : Below W.heap.size W W') : AlphaP W' pa L := by
  rcases h with ⟨al, rk, e, hA⟩ | h
  · exact .inl ⟨al, rk, e, hA.below hb⟩
  · exact .inr h
theorem AlphaP.small {W : World} {pa : Option Addr} {L : List ByteArray} (h : AlphaP W pa L) : L.length ≤ 40 := by
  rcases h with ⟨al, rk, e, hA⟩ | ⟨_, rfl⟩
  · exact hA.small
  · exact Nat.zero_le _
theorem size_nil7 (W : World) : Calls Tryd.prog 16 #[.pointer none] W fun e w' => e = .returned (.int .i64 0) ∧ w' = W := by
  go_enter Tryd.func16, Tryd.ntmps16
  go_wp2
  go_ret
  exact ⟨rfl, rfl⟩
theorem sizeP_any {W : World} {pa : Option Addr} {L : List ByteArray} (h : AlphaP W pa L) :
    Calls Tryd.prog 16 #[.pointer pa] W fun e w' => e = .returned (.int .i64 L.length) ∧ w' = W := by
  rcases h with ⟨al, rk, rfl, hA⟩ | ⟨rfl, rfl⟩
  · exact size_any hA
  · exact size_nil7 W
set_option maxHeartbeats 1000000 in
theorem number_nil7 (v : ByteArray) (W : World) : Calls Tryd.prog 68 #[.pointer none, .string v] W fun e w' => NumAt [] v e ∧ Below W.heap.size W w' := by
  have cS := size_nil7 W
  go_enter Tryd.func68, Tryd.ntmps68
  go_wp2_with fail
  refine cS.mono ?_
  rintro e w1 ⟨rfl, hw⟩
  obtain rfl := hw.symm
  clear cS hw
  go_wp2
  go_loopg [9] 0 (fun g1 vi wr => vi = .int .i64 0 ∧ wr = W)
  case atStart => exact ⟨rfl, rfl⟩
  case round =>
    obtain ⟨rfl, rfl⟩ := hrel
    go_wp2
    go_ret2
    exact ⟨⟨0, false, rfl, fun _ => ⟨rfl, by simp⟩, fun h => by cases h⟩, Below.refl _ _⟩
theorem numberP_any {W : World} {pa : Option Addr} {L : List ByteArray} (h : AlphaP W pa L) (v : ByteArray) :
    Calls Tryd.prog 68 #[.pointer pa, .string v] W fun e w' => NumAt L v e ∧ Below W.heap.size W w' := by
  rcases h with ⟨al, rk, rfl, hA⟩ | ⟨rfl, rfl⟩
  · exact number_any hA v
  · exact number_nil7 v W
end Go.Proofs.YtcocbjipikeebaaDoor.Pts
/-
  The pattern scanner's next: the longest letter, or the rune, that stands there.
-/
namespace Go.Proofs.YtcocbjipikeebaaDoor.Pts
open Go Go.Lib Go.RowKit Utf

theorem slice_tail7 (w : World) (s : ByteArray) (k : Nat) (h : k ≤ s.size) : (Instr.slice 9 (.string s) (some (.int .i64 (k : Int))) none none).run Tryd.prog w = .ok (.string (s.extract k s.size)) w := by
  have h1 : (Instr.slice 9 (.string s) (some (.int .i64 (k : Int))) none none).run Tryd.prog w = .ok (.string (s.extract (k : Int).toNat s.size)) w := by
    go_simp
  rw [Int.toNat_natCast] at h1
  exact h1
theorem begins_any (b : Nat) (c : Int) (w : World) (h : w.cell? ⟨b, 2, none⟩ = some (.int .i32 c)) :
    Calls Tryd.prog 53 #[.pointer (some ⟨b, 0, none⟩)] w fun e w' => e = .returned (.bool (decide (c = 63 ∨ c = 91 ∨ c = -2))) ∧ w' = w := by
  by_cases h1 : c = 63
  · subst h1
    go_enter Tryd.func53, Tryd.ntmps53
    go_wp2
    go_ret
    exact ⟨rfl, rfl⟩
  · have b1 := beq_no7 h1
    by_cases h2 : c = 91
    · subst h2
      go_enter Tryd.func53, Tryd.ntmps53
      go_wp2
      go_ret
      exact ⟨rfl, rfl⟩
    · have b2 := beq_no7 h2
      by_cases h3 : c = -2
      · subst h3
        go_enter Tryd.func53, Tryd.ntmps53
        go_wp2
        go_ret
        exact ⟨rfl, rfl⟩
      · have b3 := beq_no7 h3
        rw [decide_eq_false (show ¬ (c = 63 ∨ c = 91 ∨ c = -2) by omega)]
        clear h1 h2 h3
        go_enter Tryd.func53, Tryd.ntmps53
        go_wp2
        go_ret
        exact ⟨rfl, rfl⟩

/-- What next leaves. -/
def NextQ (wq : World) (b : Nat) (x0 : Value) (L : List ByteArray) (s : ByteArray) (p : Nat) (x6 : Value) (e : Ending) (W' : World) : Prop :=
  e = .returned (.tuple #[]) ∧ (∃ x3, S7 W' b x0 (.string s) (.int .i32 (sgc L s p)) x3 (.int .i64 (p : Nat)) (.int .i64 (sgb L s p : Nat)) x6 ∧ (sgc L s p = -2 → x3 = .int .i64 (sgn L s p : Nat))) ∧ Dif (fun k => k = b) wq W'

set_option maxRecDepth 100000 in
set_option maxHeartbeats 4000000 in
theorem pnext_any {W0 : World} {pa : Option Addr} {L : List ByteArray} (hA : AlphaP W0 pa L) (hT : Lib.Utf8Tabs 1 2 W0) (hNd : L.Nodup) (s : ByteArray) (hs : s.size ≤ 140737488355328) (p : Nat) (hp : p ≤ s.size) (wq : World) (hB : Below W0.heap.size W0 wq) (x2 x3 x4 x6 : Value)
    (h : S7 wq W0.heap.size (.pointer pa) (.string s) x2 x3 x4 (.int .i64 (p : Nat)) x6) :
    Calls Tryd.prog 52 #[.pointer (some ⟨W0.heap.size, 0, none⟩)] wq (NextQ wq W0.heap.size (.pointer pa) L s p x6) := by
  obtain ⟨b, hb⟩ : ∃ b, W0.heap.size = b := ⟨_, rfl⟩
  rw [hb] at h hB ⊢
  have HA : Aside (∀ Z, Below b W0 Z → AlphaP Z pa L ∧ Lib.Utf8Tabs 1 2 Z) := fun Z hz => by rw [← hb] at hz; exact ⟨hA.below hz, tabs_below hz (tabs_size hT) hT⟩
  have HNd : Aside L.Nodup := hNd
  have k5 := h.c5
  have k40 := h.c4
  have f4 := h.fr 4
  have h4 := h.set4 (.int .i64 (p : Nat))
  have HBq : Aside (Below b W0 (wq.setCell ⟨b, 4, none⟩ (.int .i64 (p : Nat)))) := hB.setCell (p := ⟨b, 4, none⟩) (Nat.le_refl _) _
  have HDq : Aside (Dif (fun k => k = b) wq (wq.setCell ⟨b, 4, none⟩ (.int .i64 (p : Nat)))) := (Dif.refl _ _).set b 4 _ rfl
  have hsl : ∀ W, (Instr.slice 9 (.string s) (some (.int .i64 (p : Int))) none none).run Tryd.prog W = .ok (.string (s.extract p s.size)) W := fun W => slice_tail7 W s p hp
  clear hA hT hNd h hB hb
  go_enter Tryd.func52, Tryd.ntmps52
  go_wp2
  generalize hw1 : wq.setCell ⟨b, 4, none⟩ (.int .i64 (p : Nat)) = w1 at *
  clear hw1
  have k1 := h4.c1
  have k4 := h4.c4
  have HS1 : Aside (S7 w1.drew b (.pointer pa) (.string s) x2 x3 (.int .i64 (p : Nat)) (.int .i64 (p : Nat)) x6) := h4.keep (Below.drew (Below.refl _ _))
  have HB1 : Aside (Below b W0 w1.drew) := Below.drew HBq.out
  have HD1 : Aside (Dif (fun k => k = b) wq w1.drew) := HDq.out.trans (Dif.of_below (Below.drew (Below.refl _ _)))
  clear k5 k40 f4 h4
  (try go_big_region)
  go_wp2
  generalize w1.drew = w2 at *
  clear k1 k4
  go_loopg [3] 3 (fun g1 vn wr => ∃ n : Nat, vn = .int .i64 (n : Int) ∧ n ≤ 3 ∧ n ≤ g1 ∧ Aside (sgF L s p 3 = sgF L s p n) ∧ Aside (S7 wr b (.pointer pa) (.string s) x2 x3 (.int .i64 (p : Nat)) (.int .i64 (p : Nat)) x6) ∧ Aside (Below b W0 wr) ∧ Aside (Dif (fun k => k = b) wq wr))
  case atStart => exact ⟨3, rfl, by omega, by omega, rfl, HS1, HB1, HD1⟩
  case round =>
    clear HS1 HB1 HD1 hsl
    obtain ⟨n, rfl, hn3, hg1, HF, HS, HB, HD⟩ := hrel
    by_cases hn : 0 < n
    · obtain ⟨m, rfl⟩ : ∃ m, n = m + 1 := ⟨n - 1, by omega⟩
      have hnz : (0 : Int) < ((m + 1 : Nat) : Int) := by omega
      have cC := ucut_any (s.extract p s.size) ((m + 1 : Nat) : Int) wr (by omega) (by omega)
      have HNM : Aside ((s.extract p s.size).extract 0 (cutPos (s.extract p s.size) ((m + 1 : Nat) : Int)) = nmS s p (m + 1)) := rfl
      rw [HNM.out] at cC
      have k0 := HS.out.c0
      have hsz := nmS_size s p (m + 1)
      have HFS : Aside (sgF L s p (m + 1) = match lkp L (nmS s p (m + 1)) with | some k => some (k, (nmS s p (m + 1)).size) | none => sgF L s p m) := rfl
      have hbl := HS.out.lt
      generalize nmS s p (m + 1) = nm at *
      generalize hrest : s.extract p s.size = rest at *
      clear hrest
      have hmz : ((m + 1 : Nat) : Int) - 1 = (m : Int) := by omega
      generalize hM1 : m + 1 = m1 at *
      go_wp2_with fail
      refine cC.mono ?_
      rintro e w3 ⟨rfl, hb3⟩
      have HS3 : Aside (S7 w3 b (.pointer pa) (.string s) x2 x3 (.int .i64 (p : Nat)) (.int .i64 (p : Nat)) x6) := HS.out.keep hb3
      have HB3 : Aside (Below b W0 w3) := HB.out.trans (hb3.mono (Nat.le_of_lt hbl))
      have HD3 : Aside (Dif (fun k => k = b) wq w3) := HD.out.trans (Dif.of_below hb3)
      have cN := numberP_any (HA.out w3 HB3.out).1 nm
      have k0 := HS3.out.c0
      clear cC hb3 HS HB HD
      go_wp2_with fail
      refine cN.mono ?_
      rintro e w4 ⟨hna, hb4⟩
      have hbl3 := HS3.out.lt
      have hS4 := HS3.out.keep hb4
      have HB4 : Aside (Below b W0 w4) := HB3.out.trans (hb4.mono (Nat.le_of_lt hbl3))
      have HD4 : Aside (Dif (fun k => k = b) wq w4) := HD3.out.trans (Dif.of_below hb4)
      rcases hna.lkp HNd.out with ⟨k, hk, rfl⟩ | ⟨hk, rfl⟩
      · have HR : Aside (sgF L s p 3 = some (k, nm.size)) := by
          show _ = _
          rw [HF.out, HFS.out, hk]
        have f2 := hS4.fr 2
        have f3 := hS4.fr 3
        have f5 := hS4.fr 5
        have k2 := hS4.c2
        have k3 := hS4.c3
        have k4 := hS4.c4
        have k5 := hS4.c5
        have hS5 := ((hS4.set2 (.int .i32 (-2))).set3 (.int .i64 (k : Nat))).set5 (.int .i64 ((p + nm.size : Nat) : Int))
        have HD5 : Aside (Dif (fun k => k = b) wq (((w4.setCell ⟨b, 2, none⟩ (.int .i32 (-2))).setCell ⟨b, 3, none⟩ (.int .i64 (k : Nat))).setCell ⟨b, 5, none⟩ (.int .i64 ((p + nm.size : Nat) : Int)))) := ((HD4.out.set b 2 _ rfl).set b 3 _ rfl).set b 5 _ rfl
        have HE : Aside (sgc L s p = -2 ∧ sgn L s p = k ∧ sgb L s p = p + nm.size) := by
          unfold sgc sgn sgb
          rw [HR.out]
          exact ⟨rfl, rfl, rfl⟩
        have hsum : (p : Int) + (nm.size : Int) = ((p + nm.size : Nat) : Int) := by omega
        have HS5 : Aside (S7 _ b _ _ _ _ _ _ _) := hS5
        clear hS5 hS4 cN hk hna hb4 HF HFS HS3 HB3 HD3
        generalize hps : p + nm.size = ps at *
        go_wp2
        go_end0
        refine ⟨rfl, ⟨.int .i64 ((k : Nat) : Int), ?_, fun _ => ?_⟩, HD5.out⟩
        · rw [HE.out.1, HE.out.2.2]
          exact HS5.out
        · rw [HE.out.2.1]
      · have HR : Aside (sgF L s p 3 = sgF L s p m) := by
          show _ = _
          rw [HF.out, HFS.out, hk]
        have HS4 : Aside (S7 w4 b (.pointer pa) (.string s) x2 x3 (.int .i64 (p : Nat)) (.int .i64 (p : Nat)) x6) := hS4
        clear hS4 cN hk hna hb4 HF HFS HS3 HB3 HD3 k0
        subst hM1
        go_wp2
        go_roundg m
        case measure => omega
        case rel => exact ⟨m, by go_num, by omega, Nat.le_refl _, HR, HS4, HB4, HD4⟩
    · obtain rfl : n = 0 := by omega
      have HF0 : Aside (sgF L s p 3 = none) := HF.out
      have cN := fun Z (hz : Below wr.heap.size wr Z) => next_any s (p : Int) Z (HA.out Z (HB.out.trans (hz.mono (Nat.le_of_lt HS.out.lt)))).2
      have HC : Aside (∀ Z, Below wr.heap.size wr Z → S7 Z b (.pointer pa) (.string s) x2 x3 (.int .i64 (p : Nat)) (.int .i64 (p : Nat)) x6) := fun Z hz => HS.out.keep hz
      have HCN : Aside (∀ Z, Below wr.heap.size wr Z → Calls Tryd.prog 69 #[.string s, .int .i64 (p : Int)] Z fun e w' => e = .returned (.tuple #[.int .i32 (nextR s (p : Int)), .int .i64 (nextW s (p : Int))]) ∧ Below Z.heap.size Z w') := cN
      clear cN HF
      generalize wr = w5 at *
      go_wp2
      refine wp_region_quiet (C := fun Z => Below w5.heap.size w5 Z) (by kernel_rfl) (by kernel_rfl) (Below.drew (Below.refl _ _)) ?_
      repeat (
        refine wpQuiet_step (fun K hK => ?_)
        go_simp
        first
          | (refine hK _ ?_; clear hK K)
          | (apply Exists.intro
             refine ⟨fun Z hZ => ?_, hK _ ?_⟩
             first
               | exact rfl
               | (refine (HCN.out Z hZ).mono ?_; rintro e w6 ⟨rfl, hb6⟩; exact ⟨rfl, hZ.trans (hb6.mono hZ.size)⟩)
               | (have f3 := HC.out Z hZ; have k1 := f3.c1; have k4 := f3.c4; go_simp; exact rfl)
             clear hK K))
      refine wpQuiet_nil ?_
      intro w6 hb6
      have hS6 := HC.out w6 hb6
      have HD6 : Aside (Dif (fun k => k = b) wq w6) := HD.out.trans (Dif.of_below hb6)
      have k2 := hS6.c2
      have k4 := hS6.c4
      have k5 := hS6.c5
      have f2 := hS6.fr 2
      have f5 := hS6.fr 5
      by_cases hin : p < s.size
      · have hdf := decode_fits s p hin
        have HE : Aside (sgc L s p = ((Utf8.decode s p).1 : Int) ∧ sgb L s p = p + (Utf8.decode s p).2) := by
          unfold sgc sgb
          rw [HF0.out]
          simp only
          rw [if_pos hin, if_pos hin]
          exact ⟨rfl, rfl⟩
        rw [nextR_in hin, nextW_in hin]
        have HX : Aside (sgc L s p ≠ -2) := by show _ ≠ _; rw [HE.out.1]; omega
        generalize (Utf8.decode s p).1 = r at *
        generalize (Utf8.decode s p).2 = z at *
        have hzz : ((z : Int) == 0) = false := beq_no7 (by omega)
        have hsum : (p : Int) + (z : Int) = ((p + z : Nat) : Int) := by omega
        have HS7 : Aside (S7 _ b _ _ _ _ _ _ _) := (hS6.set2 (.int .i32 (r : Int))).set5 (.int .i64 ((p + z : Nat) : Int))
        have HD7 : Aside (Dif (fun k => k = b) wq ((w6.setCell ⟨b, 2, none⟩ (.int .i32 (r : Int))).setCell ⟨b, 5, none⟩ (.int .i64 ((p + z : Nat) : Int)))) := (HD6.out.set b 2 _ rfl).set b 5 _ rfl
        clear hS6 HS HB HD HC HCN hb6
        generalize hps : p + z = ps at *
        go_wp2
        go_end0
        refine ⟨rfl, ⟨x3, ?_, fun hc => absurd hc HX.out⟩, HD7.out⟩
        rw [HE.out.1, HE.out.2]
        exact HS7.out
      · have HE : Aside (sgc L s p = -1 ∧ sgb L s p = p) := by
          unfold sgc sgb
          rw [HF0.out]
          simp only
          rw [if_neg hin, if_neg hin]
          exact ⟨rfl, rfl⟩
        rw [nextR_out (by omega), nextW_out (by omega)]
        have HS7 : Aside (S7 _ b _ _ _ _ _ _ _) := ((hS6.set2 (.int .i32 0)).set5 (.int .i64 (p : Int))).set2 (.int .i32 (-1))
        have HD7 : Aside (Dif (fun k => k = b) wq (((w6.setCell ⟨b, 2, none⟩ (.int .i32 0)).setCell ⟨b, 5, none⟩ (.int .i64 (p : Int))).setCell ⟨b, 2, none⟩ (.int .i32 (-1)))) := ((HD6.out.set b 2 _ rfl).set b 5 _ rfl).set b 2 _ rfl
        have k2b := ((hS6.set2 (.int .i32 0)).set5 (.int .i64 (p : Int))).c2
        have f2b := ((hS6.set2 (.int .i32 0)).set5 (.int .i64 (p : Int))).fr 2
        clear hS6 HS HB HD HC HCN hb6
        go_wp2
        go_end0
        refine ⟨rfl, ⟨x3, ?_, fun hc => ?_⟩, HD7.out⟩
        · rw [HE.out.1, HE.out.2]
          exact HS7.out
        · rw [HE.out.1] at hc
          exact absurd hc (by decide)
end Go.Proofs.YtcocbjipikeebaaDoor.Pts
