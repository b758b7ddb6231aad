/-
  Layer 6: Turn's answer as a grid to be read; grids in boxes.
-/
import Derived.Test.YthjgldjjplcncabDoorTrnrq
import Derived.Test.YthjgldjjplcncabDoorGrdjq
namespace Go.Proofs.YthjgldjjplcncabDoor.Grd
open Go Go.Lib Go.RowKit

theorem Gr.ok_of {g : Gr} (h : g.Right) : g.ok := by
  unfold Gr.ok Gr.chk
  have h1 : g.sides := ⟨⟨by have := h.sh; omega, by have := h.sh; omega⟩, by have := h.sw; omega, by have := h.sw; omega⟩
  have h2 : g.sizes := ⟨h.bl, h.rl, h.dl⟩
  have h3 : ¬ g.barredB = true := fun e => by
    obtain ⟨i, hi, hb | hb⟩ := (Gr.barredB_iff g).1 e
    · exact h.nr i hi hb
    · exact h.nd i hi hb
  rw [if_neg (fun e => e h1), if_neg (fun e => e h2), if_neg h3]
theorem Gr.Right.len {g : Gr} (h : g.Right) : g.lenOk := by
  have := h.n_le
  unfold Gr.lenOk
  rw [h.bl, h.rl, h.dl]
  omega
/-- Where three lists of a call's own lie. -/
def ad3 (n g1 g2 g3 : Nat) : Ad := ⟨some ⟨g1, 0, none⟩, n, some ⟨g2, 0, none⟩, n, some ⟨g3, 0, none⟩, n⟩
theorem gv3_gv {g : Gr} (hr : g.Right) (k g1 g2 g3 : Nat) : gv3 (g.th k) (g.tw k) g.n g1 g2 g3 = gv (g.turn k) (ad3 g.n g1 g2 g3) := by
  have h := Gr.turn_right hr k
  have e := g.turn_n k
  unfold gv gv3 ad3
  rw [h.bl, h.rl, h.dl, e, (g.turn_hw k).1, (g.turn_hw k).2]
theorem MadeG.rg {B : Nat} {W : World} {G : Gr} {n g1 g2 g3 : Nat} (h : MadeG B W n g1 g2 g3 G.B G.R G.D) : RG W G (ad3 n g1 g2 g3) := by
  obtain ⟨l1, l2, l3⟩ := h.len
  obtain ⟨m1, m2, m3⟩ := h.lo
  refine ⟨fun j hj => ⟨g1, 0, rfl, m1.2, ?_⟩, fun j hj => ⟨g2, 0, rfl, m2.2, ?_⟩, fun j hj => ⟨g3, 0, rfl, m3.2, ?_⟩⟩
  · rw [Nat.zero_add, h.r1.cellAt j (by omega), cellsB_at hj]
  · rw [Nat.zero_add, h.r2.cellAt j (by omega), cellsB_at hj]
  · rw [Nat.zero_add, h.r3.cellAt j (by omega), cellsB_at hj]
/-- Its lists lie at or above this block. -/
def Ad.fresh (B : Nat) (q : Ad) : Prop := (∀ a, q.a1 = some a → B ≤ a.block) ∧ (∀ a, q.a2 = some a → B ≤ a.block) ∧ (∀ a, q.a3 = some a → B ≤ a.block)
theorem MadeG.fresh {B : Nat} {W : World} {n g1 g2 g3 : Nat} {xs ys zs : List Bool} (h : MadeG B W n g1 g2 g3 xs ys zs) : (ad3 n g1 g2 g3).fresh B := by
  obtain ⟨m1, m2, m3⟩ := h.lo
  refine ⟨fun a e => ?_, fun a e => ?_, fun a e => ?_⟩
  · obtain rfl := Option.some.inj e; exact m1.1
  · obtain rfl := Option.some.inj e; exact m2.1
  · obtain rfl := Option.some.inj e; exact m3.1
/-- TURN's ANSWER for a right grid. -/
theorem Turn_val (g : Gr) (p : Ad) (k : Nat) (w : World) (hk : k < 8) (hw' : Wy w) (hR : RG w g p) (hc : g.ok) :
    Calls Tryd.prog 8 #[gv g p, .int .i64 k] w fun e w' => ∃ q, e = .returned (.tuple #[gv (g.turn k) q, .int .i64 0]) ∧ RG w' (g.turn k) q ∧ q.fresh w.heap.size ∧ Below w.heap.size w w' := by
  refine (Turn_open g p k w hk hw' hR hc).mono ?_
  rintro e w' ⟨g1, g2, g3, rfl, hM, hb⟩
  exact ⟨ad3 g.n g1 g2 g3, by rw [gv3_gv (Gr.right_of hc)], hM.rg, hM.fresh, hb⟩
/-- A grid in a box, its lists to be read. -/
structure Hs (W : World) (b : Nat) (G : Gr) (p : Ad) : Prop where
  bx : Bx W b G p
  rg : RG W G p
theorem Hs.keep {W W' : World} {b : Nat} {G : Gr} {p : Ad} (h : Hs W b G p) (hb : Below W.heap.size W W') : Hs W' b G p := ⟨h.bx.keep hb, h.rg.below hb⟩
/-- A block of five cells that a grid's box is. -/
theorem Five.bx {W : World} {b : Nat} {G : Gr} {p : Ad} (h : Five W b (.int .i64 G.h) (.int .i64 G.w) (.slice p.a1 G.B.length p.c1) (.slice p.a2 G.R.length p.c2) (.slice p.a3 G.D.length p.c3)) : Bx W b G p := ⟨h.lt, h.c0, h.c1, h.c2, h.c3, h.c4⟩
/-- A grid that is laid in a new box. -/
theorem Hs.new {W : World} {G : Gr} {p : Ad} (h : RG W G p) (t : TypeId) : Hs (W.alloc (.cells #[.int .i64 G.h, .int .i64 G.w, .slice p.a1 G.B.length p.c1, .slice p.a2 G.R.length p.c2, .slice p.a3 G.D.length p.c3] t)) W.heap.size G p := ⟨Bx.new W G p t, h.below (below_box W _)⟩
theorem ReadsB.dif {O : Nat → Prop} {W W' : World} {ao : Option Addr} {zs : List Bool} (h : ReadsB W ao zs) (hd : Dif O W W') (ho : ∀ a, ao = some a → ¬ O a.block) : ReadsB W' ao zs := fun j hj => by
  obtain ⟨g, o, h1, h2, h3⟩ := h j hj
  exact ⟨g, o, h1, Nat.lt_of_lt_of_le h2 hd.size, (hd.cell (p := ⟨g, o + j, none⟩) h2 (ho ⟨g, o, none⟩ h1)).trans h3⟩
/-- A grid's lists when a box of another is written. -/
theorem RG.dif {O : Nat → Prop} {W W' : World} {G : Gr} {p : Ad} (h : RG W G p) (hd : Dif O W W') (h1 : ∀ a, p.a1 = some a → ¬ O a.block) (h2 : ∀ a, p.a2 = some a → ¬ O a.block) (h3 : ∀ a, p.a3 = some a → ¬ O a.block) : RG W' G p := ⟨h.b.dif hd h1, h.r.dif hd h2, h.d.dif hd h3⟩
/-- A grid that is laid in a box that was made ahead of it. -/
theorem Hs.stored {W : World} {G : Gr} {p : Ad} {b B : Nat} {x0 x1 x2 x3 x4 : Value} (h : RG W G p) (hf : p.fresh B) (hb : b < B) (hF : Five W b x0 x1 x2 x3 x4) : Hs (st5 W b (.int .i64 G.h) (.int .i64 G.w) (.slice p.a1 G.B.length p.c1) (.slice p.a2 G.R.length p.c2) (.slice p.a3 G.D.length p.c3)) b G p := by
  have hd := Dif.st5 (Dif.refl (fun k => k = b) W) (b := b) rfl (.int .i64 G.h) (.int .i64 G.w) (.slice p.a1 G.B.length p.c1) (.slice p.a2 G.R.length p.c2) (.slice p.a3 G.D.length p.c3)
  exact ⟨(hF.all _ _ _ _ _).bx, h.dif hd (fun a e k => by have := hf.1 a e; omega) (fun a e k => by have := hf.2.1 a e; omega) (fun a e k => by have := hf.2.2 a e; omega)⟩
/-- Another grid, when that box is written. -/
theorem Hs.other {W : World} {G : Gr} {p : Ad} {b c : Nat} {y0 y1 y2 y3 y4 : Value} (h : Hs W c G p) (hc : c ≠ b) (hB : ∀ a, p.a1 = some a → a.block ≠ b) (hB2 : ∀ a, p.a2 = some a → a.block ≠ b) (hB3 : ∀ a, p.a3 = some a → a.block ≠ b) : Hs (st5 W b y0 y1 y2 y3 y4) c G p := by
  have hd := Dif.st5 (Dif.refl (fun k => k = b) W) (b := b) rfl y0 y1 y2 y3 y4
  have e := hd.block c h.bx.lt hc
  refine ⟨⟨Nat.lt_of_lt_of_le h.bx.lt hd.size, (cell_of_block e).trans h.bx.k0, (cell_of_block e).trans h.bx.k1, (cell_of_block e).trans h.bx.k2, (cell_of_block e).trans h.bx.k3, (cell_of_block e).trans h.bx.k4⟩, h.rg.dif hd hB hB2 hB3⟩
/-- What was there stays when a box above it is written. -/
theorem Hs.low {W W' : World} {G : Gr} {p : Ad} {c : Nat} (h : Hs W c G p) {O : Nat → Prop} (hd : Dif O W W') (hO : ∀ k, k < W.heap.size → ¬ O k) : Hs W' c G p := h.keep (hd.below (fun k hk _ => hO k hk) (Nat.le_refl _))
end Go.Proofs.YthjgldjjplcncabDoor.Grd
