/-
  Layer 6: Turn's answer as a grid to be read; grids in boxes.
-/
import Derived.Test.YtkkeoonglcfhnaaDoorTrnr
import Derived.Test.YtkkeoonglcfhnaaDoorGrdj
import Derived.Test.YtkkeoonglcfhnaaDoorHld
import Derived.OrdersHeld
import Derived.Deep.RegionLawGrows
import Derived.Deep.RegionHeldLaw
namespace Go.Proofs.YtkkeoonglcfhnaaDoor.Grd
open Go Go.Lib Go.RowKit

theorem Gr.ok_of {g : Gr} (h : g.Right) : g.ok := by
  unfold Gr.ok Gr.chk
  have h1 : g.sides := ⟨⟨by have := h.sh; omega, by have := h.sh; omega⟩, by have := h.sw; omega, by have := h.sw; omega⟩
  have h2 : g.sizes := ⟨h.bl, h.rl, h.dl⟩
  have h3 : ¬ g.barredB = true := fun e => by
    obtain ⟨i, hi, hb | hb⟩ := (Gr.barredB_iff g).1 e
    · exact h.nr i hi hb
    · exact h.nd i hi hb
  rw [if_neg (fun e => e h1), if_neg (fun e => e h2), if_neg h3]
theorem Gr.Right.len {g : Gr} (h : g.Right) : g.lenOk := by
  have := h.n_le
  unfold Gr.lenOk
  rw [h.bl, h.rl, h.dl]
  omega
/-- Where three lists of a call's own lie. -/
def ad3 (n g1 g2 g3 : Nat) : Ad := ⟨some ⟨g1, 0, none⟩, n, some ⟨g2, 0, none⟩, n, some ⟨g3, 0, none⟩, n⟩
theorem gv3_gv {g : Gr} (hr : g.Right) (k g1 g2 g3 : Nat) : gv3 (g.th k) (g.tw k) g.n g1 g2 g3 = gv (g.turn k) (ad3 g.n g1 g2 g3) := by
  have h := Gr.turn_right hr k
  have e := g.turn_n k
  unfold gv gv3 ad3
  rw [h.bl, h.rl, h.dl, e, (g.turn_hw k).1, (g.turn_hw k).2]
theorem MadeG.rg {B : Nat} {W : World} {G : Gr} {n g1 g2 g3 : Nat} (h : MadeG B W n g1 g2 g3 G.B G.R G.D) : RG W G (ad3 n g1 g2 g3) := by
  obtain ⟨l1, l2, l3⟩ := h.len
  obtain ⟨m1, m2, m3⟩ := h.lo
  refine ⟨fun j hj => ⟨g1, 0, rfl, m1.2, ?_⟩, fun j hj => ⟨g2, 0, rfl, m2.2, ?_⟩, fun j hj => ⟨g3, 0, rfl, m3.2, ?_⟩⟩
  · rw [Nat.zero_add, h.r1.cellAt j (by omega), cellsB_at hj]
  · rw [Nat.zero_add, h.r2.cellAt j (by omega), cellsB_at hj]
  · rw [Nat.zero_add, h.r3.cellAt j (by omega), cellsB_at hj]
/-- Its lists lie at or above this block. -/
def Ad.fresh (B : Nat) (q : Ad) : Prop := (∀ a, q.a1 = some a → B ≤ a.block) ∧ (∀ a, q.a2 = some a → B ≤ a.block) ∧ (∀ a, q.a3 = some a → B ≤ a.block)
theorem MadeG.fresh {B : Nat} {W : World} {n g1 g2 g3 : Nat} {xs ys zs : List Bool} (h : MadeG B W n g1 g2 g3 xs ys zs) : (ad3 n g1 g2 g3).fresh B := by
  obtain ⟨m1, m2, m3⟩ := h.lo
  refine ⟨fun a e => ?_, fun a e => ?_, fun a e => ?_⟩
  · obtain rfl := Option.some.inj e; exact m1.1
  · obtain rfl := Option.some.inj e; exact m2.1
  · obtain rfl := Option.some.inj e; exact m3.1
/-- TURN's ANSWER for a right grid. -/
theorem Turn_val (g : Gr) (p : Ad) (k : Nat) (w : World) (hk : k < 8) (hw' : Wy w) (hR : RG w g p) (hc : g.ok) :
    Calls Tryd.prog 23 #[gv g p, .int .i64 k] w fun e w' => ∃ q, e = .returned (.tuple #[gv (g.turn k) q, .int .i64 0]) ∧ RG w' (g.turn k) q ∧ q.fresh w.heap.size ∧ Below w.heap.size w w' := by
  refine (Turn_open g p k w hk hw' hR hc).mono ?_
  rintro e w' ⟨g1, g2, g3, rfl, hM, hb⟩
  exact ⟨ad3 g.n g1 g2 g3, by rw [gv3_gv (Gr.right_of hc)], hM.rg, hM.fresh, hb⟩
/-- A grid in a box, its lists to be read. -/
structure Hs (W : World) (b : Nat) (G : Gr) (p : Ad) : Prop where
  bx : Bx W b G p
  rg : RG W G p
theorem Hs.keep {W W' : World} {b : Nat} {G : Gr} {p : Ad} (h : Hs W b G p) (hb : Below W.heap.size W W') : Hs W' b G p := ⟨h.bx.keep hb, h.rg.below hb⟩
/-- A block of five cells that a grid's box is. -/
theorem Five.bx {W : World} {b : Nat} {G : Gr} {p : Ad} (h : Five W b (.int .i64 G.h) (.int .i64 G.w) (.slice p.a1 G.B.length p.c1) (.slice p.a2 G.R.length p.c2) (.slice p.a3 G.D.length p.c3)) : Bx W b G p := ⟨h.lt, h.c0, h.c1, h.c2, h.c3, h.c4⟩
/-- A grid that is laid in a new box. -/
theorem Hs.new {W : World} {G : Gr} {p : Ad} (h : RG W G p) (t : TypeId) : Hs (W.alloc (.cells #[.int .i64 G.h, .int .i64 G.w, .slice p.a1 G.B.length p.c1, .slice p.a2 G.R.length p.c2, .slice p.a3 G.D.length p.c3] t)) W.heap.size G p := ⟨Bx.new W G p t, h.below (below_box W _)⟩
theorem ReadsB.dif {O : Nat → Prop} {W W' : World} {ao : Option Addr} {zs : List Bool} (h : ReadsB W ao zs) (hd : Dif O W W') (ho : ∀ a, ao = some a → ¬ O a.block) : ReadsB W' ao zs := fun j hj => by
  obtain ⟨g, o, h1, h2, h3⟩ := h j hj
  exact ⟨g, o, h1, Nat.lt_of_lt_of_le h2 hd.size, (hd.cell (p := ⟨g, o + j, none⟩) h2 (ho ⟨g, o, none⟩ h1)).trans h3⟩
/-- A grid's lists when a box of another is written. -/
theorem RG.dif {O : Nat → Prop} {W W' : World} {G : Gr} {p : Ad} (h : RG W G p) (hd : Dif O W W') (h1 : ∀ a, p.a1 = some a → ¬ O a.block) (h2 : ∀ a, p.a2 = some a → ¬ O a.block) (h3 : ∀ a, p.a3 = some a → ¬ O a.block) : RG W' G p := ⟨h.b.dif hd h1, h.r.dif hd h2, h.d.dif hd h3⟩
/-- A grid that is laid in a box that was made ahead of it. -/
theorem Hs.stored {W : World} {G : Gr} {p : Ad} {b B : Nat} {x0 x1 x2 x3 x4 : Value} (h : RG W G p) (hf : p.fresh B) (hb : b < B) (hF : Five W b x0 x1 x2 x3 x4) : Hs (st5 W b (.int .i64 G.h) (.int .i64 G.w) (.slice p.a1 G.B.length p.c1) (.slice p.a2 G.R.length p.c2) (.slice p.a3 G.D.length p.c3)) b G p := by
  have hd := Dif.st5 (Dif.refl (fun k => k = b) W) (b := b) rfl (.int .i64 G.h) (.int .i64 G.w) (.slice p.a1 G.B.length p.c1) (.slice p.a2 G.R.length p.c2) (.slice p.a3 G.D.length p.c3)
  exact ⟨(hF.all _ _ _ _ _).bx, h.dif hd (fun a e k => by have := hf.1 a e; omega) (fun a e k => by have := hf.2.1 a e; omega) (fun a e k => by have := hf.2.2 a e; omega)⟩
/-- Another grid, when that box is written. -/
theorem Hs.other {W : World} {G : Gr} {p : Ad} {b c : Nat} {y0 y1 y2 y3 y4 : Value} (h : Hs W c G p) (hc : c ≠ b) (hB : ∀ a, p.a1 = some a → a.block ≠ b) (hB2 : ∀ a, p.a2 = some a → a.block ≠ b) (hB3 : ∀ a, p.a3 = some a → a.block ≠ b) : Hs (st5 W b y0 y1 y2 y3 y4) c G p := by
  have hd := Dif.st5 (Dif.refl (fun k => k = b) W) (b := b) rfl y0 y1 y2 y3 y4
  have e := hd.block c h.bx.lt hc
  refine ⟨⟨Nat.lt_of_lt_of_le h.bx.lt hd.size, (cell_of_block e).trans h.bx.k0, (cell_of_block e).trans h.bx.k1, (cell_of_block e).trans h.bx.k2, (cell_of_block e).trans h.bx.k3, (cell_of_block e).trans h.bx.k4⟩, h.rg.dif hd hB hB2 hB3⟩
/-- What was there stays when a box above it is written. -/
theorem Hs.low {W W' : World} {G : Gr} {p : Ad} {c : Nat} (h : Hs W c G p) {O : Nat → Prop} (hd : Dif O W W') (hO : ∀ k, k < W.heap.size → ¬ O k) : Hs W' c G p := h.keep (hd.below (fun k hk _ => hO k hk) (Nat.le_refl _))
end Go.Proofs.YtkkeoonglcfhnaaDoor.Grd
/-
  A region that draws its order and copies three lists ('append' of a list behind a new empty one, three times) and makes a box: Trnx at the temporaries of SketchWrites.
-/
namespace Go.Proofs.YtkkeoonglcfhnaaDoor.Grd
open Go Go.Lib Go.RowKit

theorem ev_ne (a : Act) {d d' : Nat} (v : Value) (h : d ≠ d') : (a.put (some d') v).eval (.tmp d) = a.eval (.tmp d) := by
  simp [Act.eval, Act.put, Ne.symm h]
theorem ev_eq (a : Act) {d : Nat} (v : Value) (h : d < a.tmps.size) : (a.put (some d) v).eval (.tmp d) = v := by
  simp [Act.eval, Act.put, h]
def puti (b : Bool) (d : Nat) (v : Value) (a : Act) : Act := if b then a.put (some d) v else a
theorem puti_size (b : Bool) (d : Nat) (v : Value) (a : Act) : (puti b d v a).tmps.size = a.tmps.size := by
  unfold puti
  cases b
  · rfl
  · simp [Act.put]
theorem puti_ne (b : Bool) (a : Act) {d d' : Nat} (v : Value) (h : d ≠ d') : (puti b d' v a).eval (.tmp d) = a.eval (.tmp d) := by
  unfold puti
  cases b
  · rfl
  · exact ev_ne a v h
theorem puti_eq (a : Act) {d : Nat} (v : Value) (h : d < a.tmps.size) : (puti true d v a).eval (.tmp d) = v := ev_eq a v h
theorem puti_put (b : Bool) (a : Act) {d d' : Nat} (v u : Value) (h : d ≠ d') : (puti b d v a).put (some d') u = puti b d v (a.put (some d') u) := by
  unfold puti
  cases b
  · rfl
  · exact Act.put_comm a v u (fun x hx hy => h ((Option.some.inj hx).trans (Option.some.inj hy).symm))
/-- Which of the seven have come up. -/
structure Fl where
  b1 : Bool
  a1 : Bool
  b2 : Bool
  a2 : Bool
  b3 : Bool
  a3 : Bool
  c : Bool
def Fl.L (f : Fl) : Array Bool := #[true, true, true, true, f.b1, true, true, f.a1, f.b2, true, true, f.a2, f.b3, true, true, f.a3, false, f.c, false]
def Fl.left (f : Fl) : Nat := (if f.b1 then 0 else 1) + (if f.a1 then 0 else 1) + (if f.b2 then 0 else 1) + (if f.a2 then 0 else 1) + (if f.b3 then 0 else 1) + (if f.a3 then 0 else 1) + (if f.c then 0 else 1)
def Fl.good (f : Fl) : Bool := (!f.a1 || f.b1) && (!f.a2 || f.b2) && (!f.a3 || f.b3)
def Fl.six (f : Fl) : Bool := f.b1 && f.a1 && f.b2 && f.a2 && f.b3 && f.a3
/-- What the seven leave in their slots. -/
structure Vs where
  e1 : Value
  v1 : Value
  e2 : Value
  v2 : Value
  e3 : Value
  v3 : Value
  x : Value
def Fl.act (f : Fl) (V : Vs) (a : Act) : Act := puti f.c 3 V.x (puti f.a3 28 V.v3 (puti f.b3 25 V.e3 (puti f.a2 24 V.v2 (puti f.b2 21 V.e2 (puti f.a1 20 V.v1 (puti f.b1 17 V.e1 a))))))
def isEmptyV (v : Value) : Prop := ∃ c, v = .slice (some ⟨c, 0, none⟩) 0 0
def isRow (w : World) (zs : List Bool) (v : Value) : Prop := ∃ ao c, v = .slice ao zs.length c ∧ ReadsB w ao zs
def isBox (w0 w : World) (v : Value) : Prop := ∃ b, v = .pointer (some ⟨b, 0, none⟩) ∧ w0.heap.size ≤ b ∧ Five w b (.int .i64 0) (.int .i64 0) (.slice none 0 0) (.slice none 0 0) (.slice none 0 0)
/-- What is kept. -/
structure Kp (w0 w : World) (x y z : List Bool) (f : Fl) (V : Vs) : Prop where
  gd : f.good = true
  bw : Below w0.heap.size w0 w
  e1 : f.b1 = true → isEmptyV V.e1
  e2 : f.b2 = true → isEmptyV V.e2
  e3 : f.b3 = true → isEmptyV V.e3
  v1 : f.a1 = true → isRow w x V.v1
  v2 : f.a2 = true → isRow w y V.v2
  v3 : f.a3 = true → isRow w z V.v3
  c : f.c = true → isBox w0 w V.x
theorem isRow.below {w w' : World} {zs : List Bool} {v : Value} (h : isRow w zs v) (hb : Below w.heap.size w w') : isRow w' zs v := by
  obtain ⟨ao, c, h1, h2⟩ := h
  exact ⟨ao, c, h1, h2.below hb⟩
theorem isBox.below {w0 w w' : World} {v : Value} (h : isBox w0 w v) (hb : Below w.heap.size w w') : isBox w0 w' v := by
  obtain ⟨b, h1, h2, h3⟩ := h
  exact ⟨b, h1, h2, h3.keep hb⟩
theorem Kp.keep {w0 w w' : World} {x y z : List Bool} {f : Fl} {V : Vs} (h : Kp w0 w x y z f V) (hb : Below w.heap.size w w') : Kp w0 w' x y z f V :=
  ⟨h.gd, h.bw.trans (hb.mono h.bw.size), h.e1, h.e2, h.e3, fun e => (h.v1 e).below hb, fun e => (h.v2 e).below hb, fun e => (h.v3 e).below hb, fun e => (h.c e).below hb⟩

set_option maxRecDepth 20000 in
/-- Append of a list that came in behind an empty one without room, as one step of a region that draws. -/
theorem step_copy {o : Oper} {a : Act} {w : World} {K : Act → World → Prop} {Q : Exit → Act → World → Prop}
    (s x : Operand) (hop : o.op = Op.call { callee := Callee.builtin Builtin.append, args := #[s, x], argTypes := #[22, 22] })
    (i : TypeInfo) (h2 : Tryd.prog.info? 4 = some i) (h3 : i.zero = some (.bool false)) (h4 : i.size = 1) (h5 : i.bytes = 1)
    (c : Nat) (hs : a.eval s = .slice (some ⟨c, 0, none⟩) 0 0) (zs : List Bool) (ao : Option Addr) (cap : Nat) (hx : a.eval x = .slice ao zs.length cap) (hR : ReadsB w ao zs) (hao : ao = none → cap = 0) (hl : zs.length ≤ 140737488355328)
    (hK : ∀ v' w', isRow w' zs v' → Below w.heap.size w w' → K (a.put o.dst v') w') : o.wp Tryd.prog a w K Q := by
  cases zs with
  | nil =>
    have hrun : (Builtin.append_ #[22, 22] o.type #[.slice (some ⟨c, 0, none⟩) 0 0, .slice ao 0 cap]).run Tryd.prog w = .ok (.slice (some ⟨c, 0, none⟩) 0 0) w := by
      cases ao with
      | none =>
        obtain rfl := hao rfl
        simp [Builtin.append_, run_underlying Tryd.underlying22, sizeOf, typeInfo, h2, Builtin.lenOf, Builtin.firstCells]
        rfl
      | some ad =>
        have := run_append_room_cells (P := Tryd.prog) (w := w) 22 o.type 4 i Tryd.underlying22 h2 c 0 0 0 ad 0 cap [] (by simp) (fun j u h => by simp at h) (by simp) (by omega) (fun j hj => by simp at hj) (fun j hj => by simp at hj)
        rw [this]
        rfl
    have hx' : a.eval x = .slice ao 0 cap := hx
    unfold Oper.wp
    simp [execOp, hop, resolve, invoke, builtin, hs, hx', hrun, Result.andThen]
    exact hK _ _ ⟨some ⟨c, 0, none⟩, 0, rfl, fun j hj => absurd hj (by simp)⟩ (Below.refl _ _)
  | cons z r =>
    obtain ⟨gb, off, hae, _, _⟩ := hR 0 (by simp)
    subst hae
    have hnews : ∀ j u, (cellsL (z :: r))[j]? = some u → w.cell? ((⟨gb, off, none⟩ : Addr).add j) = some u := fun j u hu => by
      have hj : j < (z :: r).length := by have := (List.getElem?_eq_some_iff.1 hu).1; rwa [cellsL_length] at this
      obtain ⟨g2, o2, q1, q2, q3⟩ := hR j hj
      injection q1 with q1
      injection q1 with q4 q5
      subst q4 q5
      rw [Addr.add_lit, q3, ← hu, cellsL_at hj]
    obtain ⟨v', w', hrun, r1, r2⟩ := run_append_arg_grows (P := Tryd.prog) (w := w) 22 o.type 4 i (.bool false) 1 1 Tryd.underlying22 h2 h3 h4 h5 rfl (by decide) ⟨c, 0, none⟩ 0 0 [] (by simp) (fun j u h => by simp at h) ⟨gb, off, none⟩ (z :: r).length cap (cellsL (z :: r)) (by rw [cellsL_length]; omega) hnews (by simp) (by unfold maxLen; omega) (by omega)
    unfold Oper.wp
    simp [execOp, hop, resolve, invoke, builtin, hs, hx, Result.andThen]
    rw [show (r.length + 1 = (z :: r).length) from rfl, hrun]
    have hb : Below w.heap.size w w' := Below.grown (Below.refl _ _) r2 (Nat.le_refl _) (fun j hj => by cases hj)
    refine hK _ _ ?_ hb
    rw [Nat.zero_add, List.nil_append] at r1
    have r1' := r1
    rcases r1 with ⟨_, ⟨q1, q2⟩ | ⟨g, cp, cur, rfl, q2, q3, q4, q5, q6, q7⟩⟩
    · simp at q2
    · refine ⟨some ⟨g, 0, none⟩, cp, rfl, fun j hj => ⟨g, 0, rfl, (Array.getElem?_eq_some_iff.1 q3).1, ?_⟩⟩
      rw [Nat.zero_add, r1'.cellAt j (by omega), cellsL_at hj]

/-- Which may come up, as far as it matters. -/
def Fl.may (f : Fl) (i : Nat) : Bool :=
  (i == 4 && !f.b1) || (i == 7 && !f.a1 && f.b1) || (i == 8 && !f.b2) || (i == 11 && !f.a2 && f.b2) || (i == 12 && !f.b3) || (i == 15 && !f.a3 && f.b3) || (i == 17 && !f.c)
def fls : List Fl := [true, false].flatMap fun b1 => [true, false].flatMap fun a1 => [true, false].flatMap fun b2 => [true, false].flatMap fun a2 => [true, false].flatMap fun b3 => [true, false].flatMap fun a3 => [true, false].map fun c => ⟨b1, a1, b2, a2, b3, a3, c⟩
theorem mem_tf (b : Bool) : b ∈ [true, false] := by cases b <;> simp
theorem mem_fls (f : Fl) : f ∈ fls := by
  obtain ⟨b1, a1, b2, a2, b3, a3, c⟩ := f
  exact List.mem_flatMap.2 ⟨b1, mem_tf b1, List.mem_flatMap.2 ⟨a1, mem_tf a1, List.mem_flatMap.2 ⟨b2, mem_tf b2, List.mem_flatMap.2 ⟨a2, mem_tf a2, List.mem_flatMap.2 ⟨b3, mem_tf b3, List.mem_flatMap.2 ⟨a3, mem_tf a3, List.mem_map.2 ⟨c, mem_tf c, rfl⟩⟩⟩⟩⟩⟩⟩
theorem wpOp_wp {P : Program} {ops : Array Oper} {Q : Exit → Act → World → Prop} {i : Nat} {o : Oper} {K : Act → World → Prop} {a : Act} {w : World} (q : ops[i]? = some o) (g : o.guard = none) (h : o.wp P a w K Q) : wpOp P ops Q i K a w := by
  have hw : Region.wanted o (yielded ops a.tmps) = true := by simp [Region.wanted, g]
  unfold wpOp
  simp only [q]
  rw [if_pos hw]
  exact .inl h
theorem wpOp_val {P : Program} {ops : Array Oper} {Q : Exit → Act → World → Prop} {i : Nat} {o : Oper} {K : Act → World → Prop} {a : Act} {w w' : World} {v : Value} (q : ops[i]? = some o) (g : o.guard = none) (h : (execOp a.eval o).run P w = .ok (.value v) w') (hK : K (a.put o.dst v) w') : wpOp P ops Q i K a w := by
  refine wpOp_wp q g ?_
  unfold Oper.wp
  rw [h]
  exact hK
def okAll (ops : Array Oper) : Bool := fls.all fun f => !f.good || f.six || ((Region.ready .any ops f.L).all f.may && !(Region.ready .any ops f.L).isEmpty)
/-- The order, whichever is drawn, of three copies and a box. -/
theorem apps_any {ops : Array Oper} {Q : Exit → Act → World → Prop} {S : World → Prop} {a : Act} {w0 : World} {o4 o7 o8 o11 o12 o15 o17 : Oper}
    (i : TypeInfo) (h2 : Tryd.prog.info? 4 = some i) (h3 : i.zero = some (.bool false)) (h4 : i.size = 1) (h5 : i.bytes = 1)
    (q4 : ops[4]? = some o4) (q7 : ops[7]? = some o7) (q8 : ops[8]? = some o8) (q11 : ops[11]? = some o11) (q12 : ops[12]? = some o12) (q15 : ops[15]? = some o15) (q17 : ops[17]? = some o17)
    (g4 : o4.guard = none ∧ o4.dst = some 17) (g7 : o7.guard = none ∧ o7.dst = some 20) (g8 : o8.guard = none ∧ o8.dst = some 21) (g11 : o11.guard = none ∧ o11.dst = some 24) (g12 : o12.guard = none ∧ o12.dst = some 25) (g15 : o15.guard = none ∧ o15.dst = some 28) (g17 : o17.guard = none ∧ o17.dst = some 3)
    (b4 : ∀ ev w, (execOp ev o4).run Tryd.prog w = .ok (.value (.slice (some ⟨w.heap.size, 0, none⟩) 0 0)) (w.alloc (.cells #[] 4)))
    (b8 : ∀ ev w, (execOp ev o8).run Tryd.prog w = .ok (.value (.slice (some ⟨w.heap.size, 0, none⟩) 0 0)) (w.alloc (.cells #[] 4)))
    (b12 : ∀ ev w, (execOp ev o12).run Tryd.prog w = .ok (.value (.slice (some ⟨w.heap.size, 0, none⟩) 0 0)) (w.alloc (.cells #[] 4)))
    (b17 : ∀ ev w, (execOp ev o17).run Tryd.prog w = .ok (.value (.pointer (some ⟨w.heap.size, 0, none⟩))) (w.alloc (.cells #[.int .i64 0, .int .i64 0, .slice none 0 0, .slice none 0 0, .slice none 0 0] 24)))
    (p7 : o7.op = Op.call { callee := Callee.builtin Builtin.append, args := #[.tmp 17, .tmp 19], argTypes := #[22, 22] })
    (p11 : o11.op = Op.call { callee := Callee.builtin Builtin.append, args := #[.tmp 21, .tmp 23], argTypes := #[22, 22] })
    (p15 : o15.op = Op.call { callee := Callee.builtin Builtin.append, args := #[.tmp 25, .tmp 27], argTypes := #[22, 22] })
    (hsz : 40 < a.tmps.size) (hok : okAll ops = true)
    (x y z : List Bool) (a1 a2 a3 : Option Addr) (c1 c2 c3 : Nat) (e27 : a.eval (.tmp 19) = .slice a1 x.length c1) (e31 : a.eval (.tmp 23) = .slice a2 y.length c2) (e35 : a.eval (.tmp 27) = .slice a3 z.length c3)
    (n1 : a1 = none → c1 = 0) (n2 : a2 = none → c2 = 0) (n3 : a3 = none → c3 = 0) (l1 : x.length ≤ 140737488355328) (l2 : y.length ≤ 140737488355328) (l3 : z.length ≤ 140737488355328)
    (r1 : ReadsB w0 a1 x) (r2 : ReadsB w0 a2 y) (r3 : ReadsB w0 a3 z)
    (hS : ∀ w, Below w0.heap.size w0 w → S w)
    (hfin : ∀ V w c, Kp w0 w x y z ⟨true, true, true, true, true, true, c⟩ V → wpAnyH Tryd.prog .any ops Q S ((if c then 0 else 1) + 2) (Fl.L ⟨true, true, true, true, true, true, c⟩) (Fl.act ⟨true, true, true, true, true, true, c⟩ V a) w) :
    ∀ (m : Nat) (f : Fl) (V : Vs) (w : World), f.left = m → Kp w0 w x y z f V → wpAnyH Tryd.prog .any ops Q S (m + 2) f.L (f.act V a) w := by
  have hall : ∀ f : Fl, f.good = true → f.six = false → (Region.ready .any ops f.L).all f.may = true ∧ (Region.ready .any ops f.L).isEmpty = false := fun f h1 h2 => by
    have := List.all_eq_true.1 hok f (mem_fls f)
    simpa [h1, h2] using this
  have h6 : ∀ (m : Nat) (f : Fl) (V : Vs) (w : World), f.left = m → f.six = true → Kp w0 w x y z f V → wpAnyH Tryd.prog .any ops Q S (m + 2) f.L (f.act V a) w := by
    intro m f V w hm hs hk
    obtain ⟨b1, a1, b2, a2, b3, a3, c⟩ := f
    simp only [Fl.six, Bool.and_eq_true] at hs
    obtain ⟨⟨⟨⟨⟨rfl, rfl⟩, rfl⟩, rfl⟩, rfl⟩, rfl⟩ := hs
    have hm2 : m = if c then 0 else 1 := by
      rw [← hm]
      cases c <;> rfl
    rw [hm2]
    exact hfin V w c hk
  intro m
  induction m with
  | zero =>
    intro f V w hm hk
    refine h6 0 f V w hm ?_ hk
    obtain ⟨b1, a1, b2, a2, b3, a3, c⟩ := f
    unfold Fl.left at hm
    cases b1 <;> cases a1 <;> cases b2 <;> cases a2 <;> cases b3 <;> cases a3 <;> cases c <;> first | rfl | (simp at hm)
  | succ m ih =>
    intro f V w hm hk
    cases hsx : f.six with
    | true => exact h6 _ f V w hm hsx hk
    | false =>
    obtain ⟨hr1, hr2⟩ := hall f hk.gd hsx
    refine ⟨fun h0 => (by rw [h0] at hr2; cases hr2), fun j hj => ?_⟩
    have hmay := List.all_eq_true.1 hr1 j hj
    have hgd := hk.gd
    clear hsx h6
    clear hr1 hr2 hj hall
    obtain ⟨fb1, fa1, fb2, fa2, fb3, fa3, fc⟩ := f
    unfold Fl.may at hmay
    simp only [Bool.or_eq_true, Bool.and_eq_true, beq_iff_eq, Bool.not_eq_true'] at hmay
    unfold Fl.left at hm
    rcases hmay with (((((⟨rfl, hf⟩ | ⟨⟨rfl, hf⟩, hg⟩) | ⟨rfl, hf⟩) | ⟨⟨rfl, hf⟩, hg⟩) | ⟨rfl, hf⟩) | ⟨⟨rfl, hf⟩, hg⟩) | ⟨rfl, hf⟩
    · subst hf
      have hb := below_box w (.cells #[] 4)
      have h2k := hk.keep hb
      refine wpOp_val q4 g4.1 (b4 _ w) ⟨hS _ h2k.bw, ?_⟩
      have he : (Fl.act ⟨false, fa1, fb2, fa2, fb3, fa3, fc⟩ V a).put o4.dst (.slice (some ⟨w.heap.size, 0, none⟩) 0 0) = Fl.act ⟨true, fa1, fb2, fa2, fb3, fa3, fc⟩ { V with e1 := .slice (some ⟨w.heap.size, 0, none⟩) 0 0 } a := by
        rw [g4.2]
        unfold Fl.act
        dsimp only
        rw [puti_put _ _ _ _ (by omega), puti_put _ _ _ _ (by omega), puti_put _ _ _ _ (by omega), puti_put _ _ _ _ (by omega), puti_put _ _ _ _ (by omega), puti_put _ _ _ _ (by omega)]
        rfl
      rw [he]
      refine ih ⟨true, fa1, fb2, fa2, fb3, fa3, fc⟩ { V with e1 := .slice (some ⟨w.heap.size, 0, none⟩) 0 0 } _ ?_ ⟨(by revert hgd; (try cases fb1) <;> (try cases fa1) <;> (try cases fb2) <;> (try cases fa2) <;> (try cases fb3) <;> (try cases fa3) <;> first | exact id | (intro h; first | rfl | exact absurd h (by decide))), h2k.bw, fun _ => ⟨_, rfl⟩, h2k.e2, h2k.e3, h2k.v1, h2k.v2, h2k.v3, h2k.c⟩
      unfold Fl.left
      simp only [Bool.false_eq_true, if_false, if_true] at hm ⊢
      omega
    · subst hf hg
      obtain ⟨cE, hE⟩ := hk.e1 rfl
      have hs : (Fl.act ⟨true, false, fb2, fa2, fb3, fa3, fc⟩ V a).eval (.tmp 17) = .slice (some ⟨cE, 0, none⟩) 0 0 := by
        unfold Fl.act
        dsimp only
        rw [puti_ne _ _ _ (by omega), puti_ne _ _ _ (by omega), puti_ne _ _ _ (by omega), puti_ne _ _ _ (by omega), puti_ne _ _ _ (by omega), puti_ne _ _ _ (by omega), puti_eq _ _ (by first | omega | (simp only [puti_size]; omega)), hE]
      have hx : (Fl.act ⟨true, false, fb2, fa2, fb3, fa3, fc⟩ V a).eval (.tmp 19) = .slice a1 x.length c1 := by
        unfold Fl.act
        rw [puti_ne _ _ _ (by omega), puti_ne _ _ _ (by omega), puti_ne _ _ _ (by omega), puti_ne _ _ _ (by omega), puti_ne _ _ _ (by omega), puti_ne _ _ _ (by omega), puti_ne _ _ _ (by omega), e27]
      refine wpOp_wp q7 g7.1 (step_copy (.tmp 17) (.tmp 19) p7 i h2 h3 h4 h5 cE hs x a1 c1 hx (r1.below hk.bw) n1 l1 fun v' w' hrow hb => ?_)
      have h2k := hk.keep hb
      refine ⟨hS _ h2k.bw, ?_⟩
      have he : (Fl.act ⟨true, false, fb2, fa2, fb3, fa3, fc⟩ V a).put o7.dst v' = Fl.act ⟨true, true, fb2, fa2, fb3, fa3, fc⟩ { V with v1 := v' } a := by
        rw [g7.2]
        unfold Fl.act
        dsimp only
        rw [puti_put _ _ _ _ (by omega), puti_put _ _ _ _ (by omega), puti_put _ _ _ _ (by omega), puti_put _ _ _ _ (by omega), puti_put _ _ _ _ (by omega)]
        rfl
      rw [he]
      refine ih ⟨true, true, fb2, fa2, fb3, fa3, fc⟩ { V with v1 := v' } _ ?_ ⟨(by revert hgd; (try cases fb1) <;> (try cases fa1) <;> (try cases fb2) <;> (try cases fa2) <;> (try cases fb3) <;> (try cases fa3) <;> first | exact id | (intro h; first | rfl | exact absurd h (by decide))), h2k.bw, h2k.e1, h2k.e2, h2k.e3, fun _ => hrow, h2k.v2, h2k.v3, h2k.c⟩
      unfold Fl.left
      simp only [Bool.false_eq_true, if_false, if_true] at hm ⊢
      omega
    · subst hf
      have hb := below_box w (.cells #[] 4)
      have h2k := hk.keep hb
      refine wpOp_val q8 g8.1 (b8 _ w) ⟨hS _ h2k.bw, ?_⟩
      have he : (Fl.act ⟨fb1, fa1, false, fa2, fb3, fa3, fc⟩ V a).put o8.dst (.slice (some ⟨w.heap.size, 0, none⟩) 0 0) = Fl.act ⟨fb1, fa1, true, fa2, fb3, fa3, fc⟩ { V with e2 := .slice (some ⟨w.heap.size, 0, none⟩) 0 0 } a := by
        rw [g8.2]
        unfold Fl.act
        dsimp only
        rw [puti_put _ _ _ _ (by omega), puti_put _ _ _ _ (by omega), puti_put _ _ _ _ (by omega), puti_put _ _ _ _ (by omega)]
        rfl
      rw [he]
      refine ih ⟨fb1, fa1, true, fa2, fb3, fa3, fc⟩ { V with e2 := .slice (some ⟨w.heap.size, 0, none⟩) 0 0 } _ ?_ ⟨(by revert hgd; (try cases fb1) <;> (try cases fa1) <;> (try cases fb2) <;> (try cases fa2) <;> (try cases fb3) <;> (try cases fa3) <;> first | exact id | (intro h; first | rfl | exact absurd h (by decide))), h2k.bw, h2k.e1, fun _ => ⟨_, rfl⟩, h2k.e3, h2k.v1, h2k.v2, h2k.v3, h2k.c⟩
      unfold Fl.left
      simp only [Bool.false_eq_true, if_false, if_true] at hm ⊢
      omega
    · subst hf hg
      obtain ⟨cE, hE⟩ := hk.e2 rfl
      have hs : (Fl.act ⟨fb1, fa1, true, false, fb3, fa3, fc⟩ V a).eval (.tmp 21) = .slice (some ⟨cE, 0, none⟩) 0 0 := by
        unfold Fl.act
        dsimp only
        rw [puti_ne _ _ _ (by omega), puti_ne _ _ _ (by omega), puti_ne _ _ _ (by omega), puti_ne _ _ _ (by omega), puti_eq _ _ (by first | omega | (simp only [puti_size]; omega)), hE]
      have hx : (Fl.act ⟨fb1, fa1, true, false, fb3, fa3, fc⟩ V a).eval (.tmp 23) = .slice a2 y.length c2 := by
        unfold Fl.act
        rw [puti_ne _ _ _ (by omega), puti_ne _ _ _ (by omega), puti_ne _ _ _ (by omega), puti_ne _ _ _ (by omega), puti_ne _ _ _ (by omega), puti_ne _ _ _ (by omega), puti_ne _ _ _ (by omega), e31]
      refine wpOp_wp q11 g11.1 (step_copy (.tmp 21) (.tmp 23) p11 i h2 h3 h4 h5 cE hs y a2 c2 hx (r2.below hk.bw) n2 l2 fun v' w' hrow hb => ?_)
      have h2k := hk.keep hb
      refine ⟨hS _ h2k.bw, ?_⟩
      have he : (Fl.act ⟨fb1, fa1, true, false, fb3, fa3, fc⟩ V a).put o11.dst v' = Fl.act ⟨fb1, fa1, true, true, fb3, fa3, fc⟩ { V with v2 := v' } a := by
        rw [g11.2]
        unfold Fl.act
        dsimp only
        rw [puti_put _ _ _ _ (by omega), puti_put _ _ _ _ (by omega), puti_put _ _ _ _ (by omega)]
        rfl
      rw [he]
      refine ih ⟨fb1, fa1, true, true, fb3, fa3, fc⟩ { V with v2 := v' } _ ?_ ⟨(by revert hgd; (try cases fb1) <;> (try cases fa1) <;> (try cases fb2) <;> (try cases fa2) <;> (try cases fb3) <;> (try cases fa3) <;> first | exact id | (intro h; first | rfl | exact absurd h (by decide))), h2k.bw, h2k.e1, h2k.e2, h2k.e3, h2k.v1, fun _ => hrow, h2k.v3, h2k.c⟩
      unfold Fl.left
      simp only [Bool.false_eq_true, if_false, if_true] at hm ⊢
      omega
    · subst hf
      have hb := below_box w (.cells #[] 4)
      have h2k := hk.keep hb
      refine wpOp_val q12 g12.1 (b12 _ w) ⟨hS _ h2k.bw, ?_⟩
      have he : (Fl.act ⟨fb1, fa1, fb2, fa2, false, fa3, fc⟩ V a).put o12.dst (.slice (some ⟨w.heap.size, 0, none⟩) 0 0) = Fl.act ⟨fb1, fa1, fb2, fa2, true, fa3, fc⟩ { V with e3 := .slice (some ⟨w.heap.size, 0, none⟩) 0 0 } a := by
        rw [g12.2]
        unfold Fl.act
        dsimp only
        rw [puti_put _ _ _ _ (by omega), puti_put _ _ _ _ (by omega)]
        rfl
      rw [he]
      refine ih ⟨fb1, fa1, fb2, fa2, true, fa3, fc⟩ { V with e3 := .slice (some ⟨w.heap.size, 0, none⟩) 0 0 } _ ?_ ⟨(by revert hgd; (try cases fb1) <;> (try cases fa1) <;> (try cases fb2) <;> (try cases fa2) <;> (try cases fb3) <;> (try cases fa3) <;> first | exact id | (intro h; first | rfl | exact absurd h (by decide))), h2k.bw, h2k.e1, h2k.e2, fun _ => ⟨_, rfl⟩, h2k.v1, h2k.v2, h2k.v3, h2k.c⟩
      unfold Fl.left
      simp only [Bool.false_eq_true, if_false, if_true] at hm ⊢
      omega
    · subst hf hg
      obtain ⟨cE, hE⟩ := hk.e3 rfl
      have hs : (Fl.act ⟨fb1, fa1, fb2, fa2, true, false, fc⟩ V a).eval (.tmp 25) = .slice (some ⟨cE, 0, none⟩) 0 0 := by
        unfold Fl.act
        dsimp only
        rw [puti_ne _ _ _ (by omega), puti_ne _ _ _ (by omega), puti_eq _ _ (by first | omega | (simp only [puti_size]; omega)), hE]
      have hx : (Fl.act ⟨fb1, fa1, fb2, fa2, true, false, fc⟩ V a).eval (.tmp 27) = .slice a3 z.length c3 := by
        unfold Fl.act
        rw [puti_ne _ _ _ (by omega), puti_ne _ _ _ (by omega), puti_ne _ _ _ (by omega), puti_ne _ _ _ (by omega), puti_ne _ _ _ (by omega), puti_ne _ _ _ (by omega), puti_ne _ _ _ (by omega), e35]
      refine wpOp_wp q15 g15.1 (step_copy (.tmp 25) (.tmp 27) p15 i h2 h3 h4 h5 cE hs z a3 c3 hx (r3.below hk.bw) n3 l3 fun v' w' hrow hb => ?_)
      have h2k := hk.keep hb
      refine ⟨hS _ h2k.bw, ?_⟩
      have he : (Fl.act ⟨fb1, fa1, fb2, fa2, true, false, fc⟩ V a).put o15.dst v' = Fl.act ⟨fb1, fa1, fb2, fa2, true, true, fc⟩ { V with v3 := v' } a := by
        rw [g15.2]
        unfold Fl.act
        dsimp only
        rw [puti_put _ _ _ _ (by omega)]
        rfl
      rw [he]
      refine ih ⟨fb1, fa1, fb2, fa2, true, true, fc⟩ { V with v3 := v' } _ ?_ ⟨(by revert hgd; (try cases fb1) <;> (try cases fa1) <;> (try cases fb2) <;> (try cases fa2) <;> (try cases fb3) <;> (try cases fa3) <;> first | exact id | (intro h; first | rfl | exact absurd h (by decide))), h2k.bw, h2k.e1, h2k.e2, h2k.e3, h2k.v1, h2k.v2, fun _ => hrow, h2k.c⟩
      unfold Fl.left
      simp only [Bool.false_eq_true, if_false, if_true] at hm ⊢
      omega
    · subst hf
      have hb := below_box w (.cells #[.int .i64 0, .int .i64 0, .slice none 0 0, .slice none 0 0, .slice none 0 0] 24)
      have h2k := hk.keep hb
      refine wpOp_val q17 g17.1 (b17 _ w) ⟨hS _ h2k.bw, ?_⟩
      have he : (Fl.act ⟨fb1, fa1, fb2, fa2, fb3, fa3, false⟩ V a).put o17.dst (.pointer (some ⟨w.heap.size, 0, none⟩)) = Fl.act ⟨fb1, fa1, fb2, fa2, fb3, fa3, true⟩ { V with x := .pointer (some ⟨w.heap.size, 0, none⟩) } a := by
        rw [g17.2]
        rfl
      rw [he]
      refine ih ⟨fb1, fa1, fb2, fa2, fb3, fa3, true⟩ { V with x := .pointer (some ⟨w.heap.size, 0, none⟩) } _ ?_ ⟨(by revert hgd; (try cases fb1) <;> (try cases fa1) <;> (try cases fb2) <;> (try cases fa2) <;> (try cases fb3) <;> (try cases fa3) <;> first | exact id | (intro h; first | rfl | exact absurd h (by decide))), h2k.bw, h2k.e1, h2k.e2, h2k.e3, h2k.v1, h2k.v2, h2k.v3, fun _ => ⟨_, rfl, hk.bw.size, ⟨hp_at rfl⟩⟩⟩
      unfold Fl.left
      simp only [Bool.false_eq_true, if_false, if_true] at hm ⊢
      omega
theorem below_drew {w w' : World} (h : Below w.drew.heap.size w.drew w') : Below w.heap.size w w' := (Below.drew (Below.refl _ _)).trans h
theorem wpOp_skip {P : Program} {ops : Array Oper} {Q : Exit → Act → World → Prop} {i : Nat} {o : Oper} {K : Act → World → Prop} {a : Act} {w w' : World} (q : ops[i]? = some o) (g : o.guard = none) (hd : o.dst = none) (h : (execOp a.eval o).run P w = .ok .skip w') (hK : K a w') : wpOp P ops Q i K a w := by
  refine wpOp_wp q g ?_
  unfold Oper.wp
  rw [h, Oper.upon_skip, hd]
  exact hK
theorem ReadsB.five {W : World} {b : Nat} {ao : Option Addr} {zs : List Bool} {i0 i1 : Int} (h : ReadsB W ao zs) (hF : Five W b (.int .i64 i0) (.int .i64 i1) (.slice none 0 0) (.slice none 0 0) (.slice none 0 0)) (y0 y1 y2 y3 y4 : Value) : ReadsB (st5 W b y0 y1 y2 y3 y4) ao zs := fun j hj => by
  obtain ⟨g, o, h1, h2, h3⟩ := h j hj
  have hd := Dif.st5 (Dif.refl (fun k => k = b) W) (b := b) rfl y0 y1 y2 y3 y4
  have hg : g ≠ b := by
    rintro rfl
    generalize o + j = n at h3
    match n, h3 with
    | 0, h3 => rw [hF.c0] at h3; cases h3
    | 1, h3 => rw [hF.c1] at h3; cases h3
    | 2, h3 => rw [hF.c2] at h3; cases h3
    | 3, h3 => rw [hF.c3] at h3; cases h3
    | 4, h3 => rw [hF.c4] at h3; cases h3
    | m + 5, h3 => simp [World.cell?, hF.blk] at h3
  exact ⟨g, o, h1, Nat.lt_of_lt_of_le h2 hd.size, (hd.cell (p := ⟨g, o + j, none⟩) h2 hg).trans h3⟩
theorem Hs.made {W : World} {G : Gr} {p : Ad} {b : Nat} {i0 i1 : Int} (h : RG W G p) (hF : Five W b (.int .i64 i0) (.int .i64 i1) (.slice none 0 0) (.slice none 0 0) (.slice none 0 0)) : Hs (st5 W b (.int .i64 G.h) (.int .i64 G.w) (.slice p.a1 G.B.length p.c1) (.slice p.a2 G.R.length p.c2) (.slice p.a3 G.D.length p.c3)) b G p :=
  ⟨(hF.all _ _ _ _ _).bx, h.b.five hF _ _ _ _ _, h.r.five hF _ _ _ _ _, h.d.five hF _ _ _ _ _⟩

end Go.Proofs.YtkkeoonglcfhnaaDoor.Grd
