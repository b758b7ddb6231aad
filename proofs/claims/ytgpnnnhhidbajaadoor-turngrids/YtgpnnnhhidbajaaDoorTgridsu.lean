/-
  TurnGrids: the answers of Turn, Symmetries and Canon, program and document, for whatever comes in: one form for all.
-/
import Derived.Test.YtgpnnnhhidbajaaDoorTcanonw
import Derived.Test.YtgpnnnhhidbajaaDoorRge6
namespace Go.Proofs.YtgpnnnhhidbajaaDoor.Grd
open Go Go.Lib Go.RowKit

def Gr.nil : Gr := ⟨0, 0, [], [], []⟩
def Ad.nil : Ad := ⟨none, 0, none, 0, none, 0⟩
theorem zeroG_gv : zeroG = gv Gr.nil Ad.nil := rfl
theorem RG.nil (W : World) : RG W Gr.nil Ad.nil := ⟨fun i hi => absurd hi (Nat.not_lt_zero i), fun i hi => absurd hi (Nat.not_lt_zero i), fun i hi => absurd hi (Nat.not_lt_zero i)⟩
theorem Gr.nil_len : Gr.nil.lenOk := ⟨Nat.zero_le _, Nat.zero_le _, Nat.zero_le _⟩
/-- A list of bools that may be written, each for itself. -/
def Wr (W : World) (ao : Option Addr) (n : Nat) : Prop := ∀ i, i < n → ∃ g cur b, ao = some ⟨g, 0, none⟩ ∧ W.heap[g]? = some (.cells cur 4 (0, 0)) ∧ cur[i]? = some (.bool b)
theorem Wr.cell {W : World} {ao : Option Addr} {n i : Nat} (h : Wr W ao n) (hi : i < n) : ∃ g b, ao = some ⟨g, 0, none⟩ ∧ W.cell? ⟨g, i, none⟩ = some (.bool b) ∧ W.frozen? ⟨g, i, none⟩ = false := by
  obtain ⟨g, cur, b, h1, h2, h3⟩ := h i hi
  exact ⟨g, b, h1, by simp [World.cell?, h2, h3], frozen_of_row W g i _ _ h2⟩
theorem Wr.put {W : World} {n i g : Nat} (h : Wr W (some ⟨g, 0, none⟩) n) (v : Bool) : Wr (W.setCell ⟨g, i, none⟩ (.bool v)) (some ⟨g, 0, none⟩) n := fun j hj => by
  obtain ⟨g', cur, b, h1, h2, h3⟩ := h j hj
  obtain rfl : g = g' := by injection h1 with h1; injection h1
  refine ⟨g, _, if i = j then v else b, rfl, heap_setCell_same W g i _ _ _ h2, ?_⟩
  have hl := (Array.getElem?_eq_some_iff.1 h3).1
  rw [Array.getElem?_setIfInBounds]
  by_cases e : i = j
  · subst e
    simp [hl]
  · simp [e, h3]
theorem Wr.dif {O : Nat → Prop} {W W' : World} {ao : Option Addr} {n : Nat} (h : Wr W ao n) (hd : Dif O W W') (hO : ∀ a, ao = some a → ¬ O a.block) : Wr W' ao n := fun j hj => by
  obtain ⟨g, cur, b, h1, h2, h3⟩ := h j hj
  exact ⟨g, cur, b, h1, (hd.block g (Array.getElem?_eq_some_iff.1 h2).1 (hO _ h1)).trans h2, h3⟩
theorem Wr.keep {W W' : World} {ao : Option Addr} {n : Nat} (h : Wr W ao n) (hb : Below W.heap.size W W') : Wr W' ao n := h.dif (O := fun _ => False) (Dif.of_below hb) (fun _ _ => id)
/-- Lists of its own, the first of them to be written. -/
structure Own (W : World) (B : Nat) (q : Ad) (G : Gr) : Prop where
  fr : q.fresh B
  lt : ∀ a, q.a1 = some a → a.block < W.heap.size
  wr : Wr W q.a1 G.B.length
theorem Own.nil (W : World) (B : Nat) : Own W B Ad.nil Gr.nil := ⟨⟨(fun _ e => nomatch e), (fun _ e => nomatch e), (fun _ e => nomatch e)⟩, (fun _ e => nomatch e), fun i hi => absurd hi (Nat.not_lt_zero i)⟩
theorem MadeG.own {B : Nat} {W : World} {G : Gr} {n g1 g2 g3 : Nat} (h : MadeG B W n g1 g2 g3 G.B G.R G.D) : Own W B (ad3 n g1 g2 g3) G := by
  refine ⟨h.fresh, fun a e => by obtain rfl := Option.some.inj e; exact h.lo.1.2, fun i hi => ?_⟩
  obtain ⟨b, off, e, hb, hc⟩ := h.rg.b i hi
  obtain ⟨rfl, rfl⟩ : g1 = b ∧ 0 = off := by injection e with e; injection e with e1 e2; exact ⟨e1, e2⟩
  rcases h.r1.2 with ⟨q1, q2⟩ | ⟨g, cp, cur, q1, q2, q3, q4⟩
  · cases q1
  · obtain rfl : g1 = g := by injection q1 with q1; injection q1 with q1; injection q1
    refine ⟨g1, cur, bt G.B i, rfl, q3, ?_⟩
    simp [World.cell?, q3] at hc
    exact hc
theorem Own.keep {W W' : World} {B : Nat} {q : Ad} {G : Gr} (h : Own W B q G) (hb : Below W.heap.size W W') : Own W' B q G := ⟨h.fr, fun a e => Nat.lt_of_lt_of_le (h.lt a e) hb.size, h.wr.keep hb⟩

/-- TURN's GRID AND WORD. -/
def Gr.tv (g : Gr) (k : Int) : Gr := if (0 ≤ k ∧ k < 8) ∧ g.chk = 0 then g.turn k.toNat else Gr.nil
def Gr.te (g : Gr) (k : Int) : Int := if 0 ≤ k ∧ k < 8 then ((g.chk : Nat) : Int) else 60
theorem Gr.tv_len (g : Gr) (k : Int) : (g.tv k).lenOk := by
  unfold Gr.tv
  split
  · rename_i h
    exact (Gr.turn_right (Gr.right_of h.2) _).len
  · exact Gr.nil_len
theorem TurnU (g : Gr) (p : Ad) (k : Int) (w : World) (hw' : Wy w) (hR : RG w g p) :
    Calls Tryd.prog 8 #[gv g p, .int .i64 k] w fun e w' => ∃ q, e = .returned (.tuple #[gv (g.tv k) q, .int .i64 (g.te k)]) ∧ RG w' (g.tv k) q ∧ Own w' w.heap.size q (g.tv k) ∧ Below w.heap.size w w' := by
  unfold Gr.tv Gr.te
  by_cases hk : 0 ≤ k ∧ k < 8
  · by_cases hc : g.chk = 0
    · rw [if_pos ⟨hk, hc⟩, if_pos hk, hc]
      obtain ⟨m, rfl⟩ := Int.eq_ofNat_of_zero_le hk.1
      refine (Turn_open g p m w (by omega) hw' hR hc).mono ?_
      rintro e w' ⟨g1, g2, g3, rfl, hM, hb⟩
      exact ⟨ad3 g.n g1 g2 g3, by rw [gv3_gv (Gr.right_of hc)]; rfl, hM.rg, hM.own, hb⟩
    · rw [if_neg (fun h => hc h.2), if_pos hk]
      refine (Turn_shut g p k w hk hw' hR hc).mono ?_
      rintro e w' ⟨rfl, hb⟩
      exact ⟨Ad.nil, rfl, RG.nil _, Own.nil _ _, hb⟩
  · rw [if_neg (fun h => hk h.1), if_neg hk]
    refine (Turn_bad g p k w hk).mono ?_
    rintro e w' ⟨rfl, hb⟩
    exact ⟨Ad.nil, rfl, RG.nil _, Own.nil _ _, hb⟩
theorem refTurnU (g : Gr) (p : Ad) (k : Int) (w : World) (hR : RG w g p) :
    Calls Tryd.prog 9 #[gv g p, .int .i64 k] w fun e w' => ∃ q, e = .returned (.tuple #[gv (g.tv k) q, .int .i64 (g.te k)]) ∧ RG w' (g.tv k) q ∧ Own w' w.heap.size q (g.tv k) ∧ Below w.heap.size w w' := by
  unfold Gr.tv Gr.te
  by_cases hk : 0 ≤ k ∧ k < 8
  · by_cases hc : g.chk = 0
    · rw [if_pos ⟨hk, hc⟩, if_pos hk, hc]
      obtain ⟨m, rfl⟩ := Int.eq_ofNat_of_zero_le hk.1
      refine (refTurn_open g p m w (by omega) hR hc).mono ?_
      rintro e w' ⟨g1, g2, g3, rfl, hM, hb⟩
      exact ⟨ad3 g.n g1 g2 g3, by rw [gv3_gv (Gr.right_of hc)]; rfl, hM.rg, hM.own, hb⟩
    · rw [if_neg (fun h => hc h.2), if_pos hk]
      refine (refTurn_shut g p k w hk hR hc).mono ?_
      rintro e w' ⟨rfl, hb⟩
      exact ⟨Ad.nil, rfl, RG.nil _, Own.nil _ _, hb⟩
  · rw [if_neg (fun h => hk h.1), if_neg hk]
    refine (refTurn_bad g p k w hk).mono ?_
    rintro e w' ⟨rfl, hb⟩
    exact ⟨Ad.nil, rfl, RG.nil _, Own.nil _ _, hb⟩
/-- SYMMETRIES' LIST. -/
def Gr.sl (g : Gr) : List Int := if g.chk = 0 then ints (g.syK 8) else []
theorem Gr.sl_len (g : Gr) : g.sl.length ≤ 8 := by
  unfold Gr.sl
  split
  · rw [ints_length]; exact g.syK_len 8
  · exact Nat.zero_le _
theorem SymU (g : Gr) (p : Ad) (w : World) (hw' : Wy w) (hR : RG w g p) :
    Calls Tryd.prog 12 #[gv g p] w fun e w' => ∃ ao c, e = .returned (.slice ao g.sl.length c) ∧ ReadsI w' ao g.sl ∧ Below w.heap.size w w' := by
  unfold Gr.sl
  by_cases hc : g.chk = 0
  · rw [if_pos hc]
    refine (Sym_open g p w hw' hR hc).mono ?_
    rintro e w' ⟨v, rfl, hown, hb⟩
    obtain ⟨ao, cap, rfl, hln, hrd⟩ := row_reads hown
    exact ⟨ao, cap, rfl, hrd, hb⟩
  · rw [if_neg hc]
    refine (Sym_shut g p w hw' hR hc).mono ?_
    rintro e w' ⟨rfl, hb⟩
    exact ⟨none, 0, rfl, fun i hi => absurd hi (Nat.not_lt_zero i), hb⟩
theorem refSymU (g : Gr) (p : Ad) (w : World) (hR : RG w g p) :
    Calls Tryd.prog 13 #[gv g p] w fun e w' => ∃ ao c, e = .returned (.slice ao g.sl.length c) ∧ ReadsI w' ao g.sl ∧ Below w.heap.size w w' := by
  unfold Gr.sl
  by_cases hc : g.chk = 0
  · rw [if_pos hc]
    refine (refSym_open g p w hR hc).mono ?_
    rintro e w' ⟨v, rfl, hown, hb⟩
    obtain ⟨ao, cap, rfl, hln, hrd⟩ := row_reads hown
    exact ⟨ao, cap, rfl, hrd, hb⟩
  · rw [if_neg hc]
    refine (refSym_shut g p w hR hc).mono ?_
    rintro e w' ⟨rfl, hb⟩
    exact ⟨none, 0, rfl, fun i hi => absurd hi (Nat.not_lt_zero i), hb⟩
/-- CANON's GRID AND TURN. -/
def Gr.Cn (g : Gr) (a : Nat) (C : Gr) : Prop := (g.ok ∧ g.Least 8 a ∧ C = g.turn a) ∨ (¬ g.ok ∧ a = 0 ∧ C = Gr.nil)
theorem Gr.least_one_only {g : Gr} (hr : g.Right) {a b : Nat} (ha : g.Least 8 a) (hb : g.Least 8 b) : a = b := by
  have e : g.turn a = g.turn b := Gr.less_tot (Gr.turn_right hr a) (Gr.turn_right hr b) (hb.2.1 a ha.1) (ha.2.1 b hb.1)
  rcases Nat.lt_trichotomy a b with h | h | h
  · exact absurd e (hb.2.2 a h)
  · exact h
  · exact absurd e.symm (ha.2.2 b h)
theorem Gr.Cn.one {g : Gr} {a b : Nat} {C D : Gr} (h : g.Cn a C) (k : g.Cn b D) : a = b ∧ C = D := by
  rcases h with ⟨h1, h2, h3⟩ | ⟨h1, h2, h3⟩ <;> rcases k with ⟨k1, k2, k3⟩ | ⟨k1, k2, k3⟩
  · obtain rfl := Gr.least_one_only (Gr.right_of h1) h2 k2
    exact ⟨rfl, h3.trans k3.symm⟩
  · exact absurd h1 k1
  · exact absurd k1 h1
  · exact ⟨h2.trans k2.symm, h3.trans k3.symm⟩
theorem Gr.Cn.len {g : Gr} {a : Nat} {C : Gr} (h : g.Cn a C) : C.lenOk := by
  rcases h with ⟨h1, h2, rfl⟩ | ⟨h1, h2, rfl⟩
  · exact (Gr.turn_right (Gr.right_of h1) _).len
  · exact Gr.nil_len
theorem CanonU (g : Gr) (p : Ad) (w : World) (hw' : Wy w) (hR : RG w g p) :
    Calls Tryd.prog 14 #[gv g p] w fun e w' => ∃ (a : Nat) (C : Gr) (q : Ad), e = .returned (.tuple #[gv C q, .int .i64 a, .int .i64 (g.chk : Nat)]) ∧ g.Cn a C ∧ RG w' C q ∧ Own w' w.heap.size q C ∧ Below w.heap.size w w' := by
  by_cases hc : g.ok
  · refine (Canon_open g p w hw' hR hc).mono ?_
    rintro e w' ⟨a, g1, g2, g3, rfl, hL, hM, hb⟩
    have h0 : g.chk = 0 := hc
    exact ⟨a, g.turn a, ad3 g.n g1 g2 g3, by rw [gv3_gv (Gr.right_of hc), h0]; rfl, .inl ⟨hc, hL, rfl⟩, hM.rg, hM.own, hb⟩
  · refine (Canon_shut g p w hw' hR hc).mono ?_
    rintro e w' ⟨rfl, hb⟩
    exact ⟨0, Gr.nil, Ad.nil, rfl, .inr ⟨hc, rfl, rfl⟩, RG.nil _, Own.nil _ _, hb⟩
theorem refCanonU (g : Gr) (p : Ad) (w : World) (hR : RG w g p) :
    Calls Tryd.prog 15 #[gv g p] w fun e w' => ∃ (a : Nat) (C : Gr) (q : Ad), e = .returned (.tuple #[gv C q, .int .i64 a, .int .i64 (g.chk : Nat)]) ∧ g.Cn a C ∧ RG w' C q ∧ Own w' w.heap.size q C ∧ Below w.heap.size w w' := by
  by_cases hc : g.ok
  · refine (refCanon_open g p w hR hc).mono ?_
    rintro e w' ⟨a, g1, g2, g3, rfl, hL, hM, hb⟩
    have h0 : g.chk = 0 := hc
    exact ⟨a, g.turn a, ad3 g.n g1 g2 g3, by rw [gv3_gv (Gr.right_of hc), h0]; rfl, .inl ⟨hc, hL, rfl⟩, hM.rg, hM.own, hb⟩
  · refine (refCanon_shut g p w hR hc).mono ?_
    rintro e w' ⟨rfl, hb⟩
    exact ⟨0, Gr.nil, Ad.nil, rfl, .inr ⟨hc, rfl, rfl⟩, RG.nil _, Own.nil _ _, hb⟩
/-- What is elsewhere stays. -/
theorem Hs.dif {O : Nat → Prop} {W W' : World} {G : Gr} {p : Ad} {c : Nat} (h : Hs W c G p) (hd : Dif O W W') (hc : ¬ O c) (h1 : ∀ a, p.a1 = some a → ¬ O a.block) (h2 : ∀ a, p.a2 = some a → ¬ O a.block) (h3 : ∀ a, p.a3 = some a → ¬ O a.block) : Hs W' c G p := by
  have e := hd.block c h.bx.lt hc
  exact ⟨⟨Nat.lt_of_lt_of_le h.bx.lt hd.size, (cell_of_block e).trans h.bx.k0, (cell_of_block e).trans h.bx.k1, (cell_of_block e).trans h.bx.k2, (cell_of_block e).trans h.bx.k3, (cell_of_block e).trans h.bx.k4⟩, h.rg.dif hd h1 h2 h3⟩

theorem ReadsB.dif2 {O : Nat → Prop} {V W W' : World} {ao : Option Addr} {zs : List Bool} (h : ReadsB W ao zs) (h7 : ReadsB V ao zs) (hd : Dif O W W') (hO : ∀ k, k < V.heap.size → ¬ O k) : ReadsB W' ao zs := fun j hj => by
  obtain ⟨g, o, h1, h2, h3⟩ := h j hj
  obtain ⟨g', o', k1, k2, _⟩ := h7 j hj
  have e : g = g' := by rw [h1] at k1; injection k1 with k1; injection k1
  exact ⟨g, o, h1, Nat.lt_of_lt_of_le h2 hd.size, (hd.cell (p := ⟨g, o + j, none⟩) h2 (hO g (by omega))).trans h3⟩
theorem Hs.dif2 {O : Nat → Prop} {V W W' : World} {G : Gr} {p : Ad} {c : Nat} (h : Hs W c G p) (h7 : Hs V c G p) (hd : Dif O W W') (hO : ∀ k, k < V.heap.size → ¬ O k) : Hs W' c G p := by
  have e := hd.block c h.bx.lt (hO c h7.bx.lt)
  exact ⟨⟨Nat.lt_of_lt_of_le h.bx.lt hd.size, (cell_of_block e).trans h.bx.k0, (cell_of_block e).trans h.bx.k1, (cell_of_block e).trans h.bx.k2, (cell_of_block e).trans h.bx.k3, (cell_of_block e).trans h.bx.k4⟩, h.rg.b.dif2 h7.rg.b hd hO, h.rg.r.dif2 h7.rg.r hd hO, h.rg.d.dif2 h7.rg.d hd hO⟩
/-- The blocks that flipping a first list may write. -/
def At1 (r : Ad) (k : Nat) : Prop := ∃ a, r.a1 = some a ∧ k = a.block
/-- Flipping under way. -/
structure Flip (V W : World) (r : Ad) (n : Nat) : Prop where
  wr : Wr W r.a1 n
  df : Dif (At1 r) V W
theorem Flip.put {V W : World} {r : Ad} {n g i : Nat} (h : Flip V W r n) (e : r.a1 = some ⟨g, 0, none⟩) (v : Bool) : Flip V (W.setCell ⟨g, i, none⟩ (.bool v)).drew r n := by
  have hb : Below (W.setCell ⟨g, i, none⟩ (.bool v)).heap.size (W.setCell ⟨g, i, none⟩ (.bool v)) (W.setCell ⟨g, i, none⟩ (.bool v)).drew := Below.drew (Below.refl _ _)
  have h1 := h.wr
  rw [e] at h1
  refine ⟨?_, (h.df.set g i _ ⟨_, e, rfl⟩).trans (Dif.of_below hb)⟩
  rw [e]
  exact (h1.put v).keep hb
end Go.Proofs.YtgpnnnhhidbajaaDoor.Grd
