/-
  The document's Same over lists of slots, and SameSeats over lists of seats: lists that read alike.
-/
import Derived.Test.YtkkeoonglcfhnaaDoorSlj
import Derived.Test.YtkkeoonglcfhnaaDoorGrdl
import Derived.OrdersHeld
import Derived.Deep.RegionLawGrows
import Derived.Deep.RegionHeldLaw
import Derived.Deep.CutRange
import Derived.Deep.RegionWith
import Derived.Test.YtkkeoonglcfhnaaDoorTrns
import Derived.Test.YtkkeoonglcfhnaaDoorSlm
import Derived.Test.YtkkeoonglcfhnaaDoorGrdf
import Derived.Test.YtkkeoonglcfhnaaDoorSld
namespace Go.Proofs.YtkkeoonglcfhnaaDoor.Grd
open Go Go.Lib Go.RowKit

set_option maxRecDepth 20000 in
theorem refSameS_any (m : Nat) (hm : m ≤ 256) (a1 a2 : Option Addr) (c1 c2 : Nat) (f : Nat → Int × Int) (w : World) (h1 : ReadsS w a1 f m) (h2 : ReadsS w a2 f m) :
    Calls Tryd.prog 15 #[.slice a1 m c1, .slice a2 m c2] w fun e w' => e = .returned (.bool true) ∧ Below w.heap.size w w' := by
  have H1 : Aside (ReadsS w a1 f m) := h1
  have H2 : Aside (ReadsS w a2 f m) := h2
  clear h1 h2
  go_enter Tryd.func15, Tryd.ntmps15
  go_wp2
  go_loopg [5] m (fun g1 iv wr => ∃ k : Nat, iv = .int .i64 (k : Int) ∧ k ≤ m ∧ m - k ≤ g1 ∧ Aside (Below w.heap.size w wr))
  case atStart => exact ⟨0, rfl, Nat.zero_le _, Nat.le_refl _, Below.refl _ _⟩
  case round =>
    obtain ⟨k, rfl, hk, hg, hB⟩ := hrel
    by_cases hlt : k < m
    · have hltz : (k : Int) < (m : Int) := by omega
      obtain ⟨b1, rfl, hb1, x0, x1⟩ := (H1.out.below hB.out) k hlt
      obtain ⟨b2, rfl, hb2, y0, y1⟩ := (H2.out.below hB.out) k hlt
      generalize f k = z at *
      obtain ⟨x, y⟩ := z
      go_wp2
      go_quiet (fail)
      go_wp2
      go_roundg (m - (k + 1))
      case measure => omega
      case rel => exact ⟨k + 1, by go_num, by omega, Nat.le_refl _, below_drewN hB.out _⟩
    · have hltz : ¬ (k : Int) < (m : Int) := by omega
      go_wp2
      go_ret
      exact ⟨rfl, hB.out⟩

set_option maxRecDepth 20000 in
theorem refSameL_any (L : List Sl) (hL : L.length ≤ 1024) (hcs : ∀ (k : Nat) (s : Sl), L[k]? = some s → s.cs.length ≤ 257) (a1 a2 : Option Addr) (c1 c2 : Nat) (w : World) (h1 : ReadsL w a1 L) (h2 : ReadsL w a2 L) :
    Calls Tryd.prog 12 #[.slice a1 L.length c1, .slice a2 L.length c2] w fun e w' => e = .returned (.bool true) ∧ Below w.heap.size w w' := by
  have H1 : Aside (ReadsL w a1 L) := h1
  have H2 : Aside (ReadsL w a2 L) := h2
  have HC : Aside (∀ (k : Nat) (s : Sl), L[k]? = some s → s.cs.length ≤ 257) := hcs
  clear h1 h2 hcs
  go_enter Tryd.func12, Tryd.ntmps12
  go_wp2
  go_loopg [5] L.length (fun g1 iv wr => ∃ k : Nat, iv = .int .i64 (k : Int) ∧ k ≤ L.length ∧ L.length - k ≤ g1 ∧ Aside (Below w.heap.size w wr))
  case atStart => exact ⟨0, rfl, Nat.zero_le _, Nat.le_refl _, Below.refl _ _⟩
  case round =>
    obtain ⟨k, rfl, hk, hg, hB⟩ := hrel
    by_cases hlt : k < L.length
    · have hltz : (k : Int) < (L.length : Int) := by omega
      have hs : L[k]? = some (L[k]'hlt) := List.getElem?_eq_getElem hlt
      generalize L[k]'hlt = s at hs
      have hcl := HC.out k s hs
      obtain ⟨b1, p1, d1, rfl, hb1, x0, x1, x2, hx⟩ := (H1.out.below hB.out) k s hs
      obtain ⟨b2, p2, d2, rfl, hb2, y0, y1, y2, hy⟩ := (H2.out.below hB.out) k s hs
      have HX : Aside (ReadsI wr p1 (ints s.cs)) := hx
      have HY : Aside (ReadsI wr p2 (ints s.cs)) := hy
      clear hs hx hy
      go_wp2
      go_quiet (fail)
      have HP : Aside (∀ W, Below wr.heap.size wr W → W.cell? ⟨b1, k * 3 + 2, none⟩ = some (.slice p1 s.cs.length d1) ∧ W.cell? ⟨b2, k * 3 + 2, none⟩ = some (.slice p2 s.cs.length d2)) := fun W hW => ⟨(hW.cell (p := ⟨b1, k * 3 + 2, none⟩) hb1).trans x2, (hW.cell (p := ⟨b2, k * 3 + 2, none⟩) hb2).trans y2⟩
      clear x0 x1 x2 y0 y1 y2
      go_wp2
      generalize wr = w4 at *
      go_loopg [6] s.cs.length (fun g2 jv wr => ∃ j : Nat, jv = .int .i64 (j : Int) ∧ j ≤ s.cs.length ∧ s.cs.length - j ≤ g2 ∧ Aside (Below w4.heap.size w4 wr))
      case atStart => exact ⟨0, rfl, Nat.zero_le _, Nat.le_refl _, below_drewN (Below.refl _ _) _⟩
      case round =>
        obtain ⟨j, rfl, hj, hg2, hB2⟩ := hrel
        obtain ⟨x2, y2⟩ := HP.out wr hB2.out
        by_cases hlt2 : j < s.cs.length
        · have hltz2 : (j : Int) < (s.cs.length : Int) := by omega
          obtain ⟨g1, o1, rfl, _, e1⟩ := (HX.out.below hB2.out) j (by rw [ints_length]; exact hlt2)
          obtain ⟨g2, o2, rfl, _, e2⟩ := (HY.out.below hB2.out) j (by rw [ints_length]; exact hlt2)
          generalize (ints s.cs)[j]?.getD 0 = z at *
          go_wp2
          go_quiet (fail)
          go_wp2
          go_roundg (s.cs.length - (j + 1))
          case measure => omega
          case rel => exact ⟨j + 1, by go_num, by omega, Nat.le_refl _, below_drewN hB2.out _⟩
        · have hltz2 : ¬ (j : Int) < (s.cs.length : Int) := by omega
          go_wp2
          go_roundg (L.length - (k + 1))
          case measure => omega
          case rel => exact ⟨k + 1, by go_num, by omega, Nat.le_refl _, hB.out.trans (hB2.out.mono hB.out.size)⟩
    · have hltz : ¬ (k : Int) < (L.length : Int) := by omega
      go_wp2
      go_ret
      exact ⟨rfl, hB.out⟩
end Go.Proofs.YtkkeoonglcfhnaaDoor.Grd
/-
  Of no program: a region that draws, all but its calls taken in one order.
-/
namespace Go.Proofs.YtkkeoonglcfhnaaDoor.Grd
open Go Go.Lib Go.RowKit

theorem takeD {P : Program} {ops : Array Oper} {Q : Exit → Act → World → Prop} {md : Region.Mode} {S : World → Prop} {i d : Nat} {v : Value} {fuel : Nat} {listed : Array Bool} {a : Act} {w : World} (hd : (ops[i]?).map (fun o => o.dst) = some (some d))
    (hs : Region.noSelect ops = true) (hf : Region.free md ops listed i = true) (hr : (Region.ready md ops listed).contains i = true)
    (hQ : ∀ c a w, Q (.panic c) (a.put (some d) v) w → Q (.panic c) a w) (hy : ∀ oi, ops[i]? = some oi → YieldsIf P ops S oi v a) (hS : S w)
    (h : wpAnyH P md ops Q S fuel (listed.setIfInBounds i true) (a.put (some d) v) w) : wpAnyH P md ops Q S (fuel + 1) listed a w := by
  cases ho : ops[i]? with
  | none => rw [ho] at hd; cases hd
  | some oi =>
    rw [ho] at hd
    have e : oi.dst = some d := by simpa using hd
    exact wpAnyH_take ho hs hf hr (by rw [e]; exact hQ) (hy oi ho) hS (by rw [e]; exact h)
theorem yields_now {P : Program} {ops : Array Oper} {S : World → Prop} {o oi : Oper} {v : Value} {a : Act} (ho : some o = some oi) (hw : Region.wanted o (yielded ops a.tmps) = true) (h : ∀ w, S w → (execOp a.eval o).run P w = .ok (.value v) w) : YieldsIf P ops S oi v a := by
  obtain rfl := Option.some.inj ho
  exact Or.inl ⟨hw, h⟩

theorem wpOp_call {P : Program} {ops : Array Oper} {Q : Exit → Act → World → Prop} {i d : Nat} {o : Oper} {K : Act → World → Prop} {a : Act} {w : World} {f : FuncId} {args : Array Value} {R : Ending → World → Prop} (q : ops[i]? = some o) (hw : Region.wanted o (yielded ops a.tmps) = true) (hd : o.dst = some d) (h : (execOp a.eval o).run P w = .ok (.enter f args) w) (hc : Calls P f args w R) (hK : ∀ e w', R e w' → ∃ v, e = .returned v ∧ K (a.put (some d) v) w') : wpOp P ops Q i K a w := by
  unfold wpOp
  simp only [q]
  rw [if_pos hw]
  refine .inl ?_
  unfold Oper.wp
  rw [h, Oper.upon_enter]
  refine hc.mono ?_
  intro e w' hR
  obtain ⟨v, rfl, hk⟩ := hK e w' hR
  rw [hd]
  exact hk
end Go.Proofs.YtkkeoonglcfhnaaDoor.Grd
/-
  A region that draws its order and copies three lists ('append' of a list behind a new empty one, three times) and makes a box: Trnx at the temporaries of SlotsLists.
-/
namespace Go.Proofs.YtkkeoonglcfhnaaDoor.Grd
open Go Go.Lib Go.RowKit

theorem ev_ne (a : Act) {d d' : Nat} (v : Value) (h : d ≠ d') : (a.put (some d') v).eval (.tmp d) = a.eval (.tmp d) := by
  simp [Act.eval, Act.put, Ne.symm h]
theorem ev_eq (a : Act) {d : Nat} (v : Value) (h : d < a.tmps.size) : (a.put (some d) v).eval (.tmp d) = v := by
  simp [Act.eval, Act.put, h]
def puti (b : Bool) (d : Nat) (v : Value) (a : Act) : Act := if b then a.put (some d) v else a
theorem puti_size (b : Bool) (d : Nat) (v : Value) (a : Act) : (puti b d v a).tmps.size = a.tmps.size := by
  unfold puti
  cases b
  · rfl
  · simp [Act.put]
theorem puti_ne (b : Bool) (a : Act) {d d' : Nat} (v : Value) (h : d ≠ d') : (puti b d' v a).eval (.tmp d) = a.eval (.tmp d) := by
  unfold puti
  cases b
  · rfl
  · exact ev_ne a v h
theorem puti_eq (a : Act) {d : Nat} (v : Value) (h : d < a.tmps.size) : (puti true d v a).eval (.tmp d) = v := ev_eq a v h
theorem puti_put (b : Bool) (a : Act) {d d' : Nat} (v u : Value) (h : d ≠ d') : (puti b d v a).put (some d') u = puti b d v (a.put (some d') u) := by
  unfold puti
  cases b
  · rfl
  · exact Act.put_comm a v u (fun x hx hy => h ((Option.some.inj hx).trans (Option.some.inj hy).symm))
/-- Which of the seven have come up. -/
structure Fl where
  b1 : Bool
  a1 : Bool
  b2 : Bool
  a2 : Bool
  b3 : Bool
  a3 : Bool
  c : Bool
def Fl.L (f : Fl) : Array Bool := #[true, true, true, true, f.b1, true, true, f.a1, f.b2, true, true, f.a2, f.b3, true, true, f.a3, false, f.c, false]
def Fl.left (f : Fl) : Nat := (if f.b1 then 0 else 1) + (if f.a1 then 0 else 1) + (if f.b2 then 0 else 1) + (if f.a2 then 0 else 1) + (if f.b3 then 0 else 1) + (if f.a3 then 0 else 1) + (if f.c then 0 else 1)
def Fl.good (f : Fl) : Bool := (!f.a1 || f.b1) && (!f.a2 || f.b2) && (!f.a3 || f.b3)
def Fl.six (f : Fl) : Bool := f.b1 && f.a1 && f.b2 && f.a2 && f.b3 && f.a3
/-- What the seven leave in their slots. -/
structure Vs where
  e1 : Value
  v1 : Value
  e2 : Value
  v2 : Value
  e3 : Value
  v3 : Value
  x : Value
def Fl.act (f : Fl) (V : Vs) (a : Act) : Act := puti f.c 3 V.x (puti f.a3 33 V.v3 (puti f.b3 30 V.e3 (puti f.a2 29 V.v2 (puti f.b2 26 V.e2 (puti f.a1 25 V.v1 (puti f.b1 22 V.e1 a))))))
def isEmptyV (v : Value) : Prop := ∃ c, v = .slice (some ⟨c, 0, none⟩) 0 0
def isRow (w : World) (zs : List Bool) (v : Value) : Prop := ∃ ao c, v = .slice ao zs.length c ∧ ReadsB w ao zs
def isBox (w0 w : World) (v : Value) : Prop := ∃ b, v = .pointer (some ⟨b, 0, none⟩) ∧ w0.heap.size ≤ b ∧ Five w b (.int .i64 0) (.int .i64 0) (.slice none 0 0) (.slice none 0 0) (.slice none 0 0)
/-- What is kept. -/
structure Kp (w0 w : World) (x y z : List Bool) (f : Fl) (V : Vs) : Prop where
  gd : f.good = true
  bw : Below w0.heap.size w0 w
  e1 : f.b1 = true → isEmptyV V.e1
  e2 : f.b2 = true → isEmptyV V.e2
  e3 : f.b3 = true → isEmptyV V.e3
  v1 : f.a1 = true → isRow w x V.v1
  v2 : f.a2 = true → isRow w y V.v2
  v3 : f.a3 = true → isRow w z V.v3
  c : f.c = true → isBox w0 w V.x
theorem isRow.below {w w' : World} {zs : List Bool} {v : Value} (h : isRow w zs v) (hb : Below w.heap.size w w') : isRow w' zs v := by
  obtain ⟨ao, c, h1, h2⟩ := h
  exact ⟨ao, c, h1, h2.below hb⟩
theorem isBox.below {w0 w w' : World} {v : Value} (h : isBox w0 w v) (hb : Below w.heap.size w w') : isBox w0 w' v := by
  obtain ⟨b, h1, h2, h3⟩ := h
  exact ⟨b, h1, h2, h3.keep hb⟩
theorem Kp.keep {w0 w w' : World} {x y z : List Bool} {f : Fl} {V : Vs} (h : Kp w0 w x y z f V) (hb : Below w.heap.size w w') : Kp w0 w' x y z f V :=
  ⟨h.gd, h.bw.trans (hb.mono h.bw.size), h.e1, h.e2, h.e3, fun e => (h.v1 e).below hb, fun e => (h.v2 e).below hb, fun e => (h.v3 e).below hb, fun e => (h.c e).below hb⟩

set_option maxRecDepth 20000 in
/-- Append of a list that came in behind an empty one without room, as one step of a region that draws. -/
theorem step_copy {o : Oper} {a : Act} {w : World} {K : Act → World → Prop} {Q : Exit → Act → World → Prop}
    (s x : Operand) (hop : o.op = Op.call { callee := Callee.builtin Builtin.append, args := #[s, x], argTypes := #[22, 22] })
    (i : TypeInfo) (h2 : Tryd.prog.info? 4 = some i) (h3 : i.zero = some (.bool false)) (h4 : i.size = 1) (h5 : i.bytes = 1)
    (c : Nat) (hs : a.eval s = .slice (some ⟨c, 0, none⟩) 0 0) (zs : List Bool) (ao : Option Addr) (cap : Nat) (hx : a.eval x = .slice ao zs.length cap) (hR : ReadsB w ao zs) (hao : ao = none → cap = 0) (hl : zs.length ≤ 140737488355328)
    (hK : ∀ v' w', isRow w' zs v' → Below w.heap.size w w' → K (a.put o.dst v') w') : o.wp Tryd.prog a w K Q := by
  cases zs with
  | nil =>
    have hrun : (Builtin.append_ #[22, 22] o.type #[.slice (some ⟨c, 0, none⟩) 0 0, .slice ao 0 cap]).run Tryd.prog w = .ok (.slice (some ⟨c, 0, none⟩) 0 0) w := by
      cases ao with
      | none =>
        obtain rfl := hao rfl
        simp [Builtin.append_, run_underlying Tryd.underlying22, sizeOf, typeInfo, h2, Builtin.lenOf, Builtin.firstCells]
        rfl
      | some ad =>
        have := run_append_room_cells (P := Tryd.prog) (w := w) 22 o.type 4 i Tryd.underlying22 h2 c 0 0 0 ad 0 cap [] (by simp) (fun j u h => by simp at h) (by simp) (by omega) (fun j hj => by simp at hj) (fun j hj => by simp at hj)
        rw [this]
        rfl
    have hx' : a.eval x = .slice ao 0 cap := hx
    unfold Oper.wp
    simp [execOp, hop, resolve, invoke, builtin, hs, hx', hrun, Result.andThen]
    exact hK _ _ ⟨some ⟨c, 0, none⟩, 0, rfl, fun j hj => absurd hj (by simp)⟩ (Below.refl _ _)
  | cons z r =>
    obtain ⟨gb, off, hae, _, _⟩ := hR 0 (by simp)
    subst hae
    have hnews : ∀ j u, (cellsL (z :: r))[j]? = some u → w.cell? ((⟨gb, off, none⟩ : Addr).add j) = some u := fun j u hu => by
      have hj : j < (z :: r).length := by have := (List.getElem?_eq_some_iff.1 hu).1; rwa [cellsL_length] at this
      obtain ⟨g2, o2, q1, q2, q3⟩ := hR j hj
      injection q1 with q1
      injection q1 with q4 q5
      subst q4 q5
      rw [Addr.add_lit, q3, ← hu, cellsL_at hj]
    obtain ⟨v', w', hrun, r1, r2⟩ := run_append_arg_grows (P := Tryd.prog) (w := w) 22 o.type 4 i (.bool false) 1 1 Tryd.underlying22 h2 h3 h4 h5 rfl (by decide) ⟨c, 0, none⟩ 0 0 [] (by simp) (fun j u h => by simp at h) ⟨gb, off, none⟩ (z :: r).length cap (cellsL (z :: r)) (by rw [cellsL_length]; omega) hnews (by simp) (by unfold maxLen; omega) (by omega)
    unfold Oper.wp
    simp [execOp, hop, resolve, invoke, builtin, hs, hx, Result.andThen]
    rw [show (r.length + 1 = (z :: r).length) from rfl, hrun]
    have hb : Below w.heap.size w w' := Below.grown (Below.refl _ _) r2 (Nat.le_refl _) (fun j hj => by cases hj)
    refine hK _ _ ?_ hb
    rw [Nat.zero_add, List.nil_append] at r1
    have r1' := r1
    rcases r1 with ⟨_, ⟨q1, q2⟩ | ⟨g, cp, cur, rfl, q2, q3, q4, q5, q6, q7⟩⟩
    · simp at q2
    · refine ⟨some ⟨g, 0, none⟩, cp, rfl, fun j hj => ⟨g, 0, rfl, (Array.getElem?_eq_some_iff.1 q3).1, ?_⟩⟩
      rw [Nat.zero_add, r1'.cellAt j (by omega), cellsL_at hj]

/-- Which may come up, as far as it matters. -/
def Fl.may (f : Fl) (i : Nat) : Bool :=
  (i == 4 && !f.b1) || (i == 7 && !f.a1 && f.b1) || (i == 8 && !f.b2) || (i == 11 && !f.a2 && f.b2) || (i == 12 && !f.b3) || (i == 15 && !f.a3 && f.b3) || (i == 17 && !f.c)
def fls : List Fl := [true, false].flatMap fun b1 => [true, false].flatMap fun a1 => [true, false].flatMap fun b2 => [true, false].flatMap fun a2 => [true, false].flatMap fun b3 => [true, false].flatMap fun a3 => [true, false].map fun c => ⟨b1, a1, b2, a2, b3, a3, c⟩
theorem mem_tf (b : Bool) : b ∈ [true, false] := by cases b <;> simp
theorem mem_fls (f : Fl) : f ∈ fls := by
  obtain ⟨b1, a1, b2, a2, b3, a3, c⟩ := f
  exact List.mem_flatMap.2 ⟨b1, mem_tf b1, List.mem_flatMap.2 ⟨a1, mem_tf a1, List.mem_flatMap.2 ⟨b2, mem_tf b2, List.mem_flatMap.2 ⟨a2, mem_tf a2, List.mem_flatMap.2 ⟨b3, mem_tf b3, List.mem_flatMap.2 ⟨a3, mem_tf a3, List.mem_map.2 ⟨c, mem_tf c, rfl⟩⟩⟩⟩⟩⟩⟩
theorem wpOp_wp {P : Program} {ops : Array Oper} {Q : Exit → Act → World → Prop} {i : Nat} {o : Oper} {K : Act → World → Prop} {a : Act} {w : World} (q : ops[i]? = some o) (g : o.guard = none) (h : o.wp P a w K Q) : wpOp P ops Q i K a w := by
  have hw : Region.wanted o (yielded ops a.tmps) = true := by simp [Region.wanted, g]
  unfold wpOp
  simp only [q]
  rw [if_pos hw]
  exact .inl h
theorem wpOp_val {P : Program} {ops : Array Oper} {Q : Exit → Act → World → Prop} {i : Nat} {o : Oper} {K : Act → World → Prop} {a : Act} {w w' : World} {v : Value} (q : ops[i]? = some o) (g : o.guard = none) (h : (execOp a.eval o).run P w = .ok (.value v) w') (hK : K (a.put o.dst v) w') : wpOp P ops Q i K a w := by
  refine wpOp_wp q g ?_
  unfold Oper.wp
  rw [h]
  exact hK
def okAll (ops : Array Oper) : Bool := fls.all fun f => !f.good || f.six || ((Region.ready .any ops f.L).all f.may && !(Region.ready .any ops f.L).isEmpty)
/-- The order, whichever is drawn, of three copies and a box. -/
theorem apps_any {ops : Array Oper} {Q : Exit → Act → World → Prop} {S : World → Prop} {a : Act} {w0 : World} {o4 o7 o8 o11 o12 o15 o17 : Oper}
    (i : TypeInfo) (h2 : Tryd.prog.info? 4 = some i) (h3 : i.zero = some (.bool false)) (h4 : i.size = 1) (h5 : i.bytes = 1)
    (q4 : ops[4]? = some o4) (q7 : ops[7]? = some o7) (q8 : ops[8]? = some o8) (q11 : ops[11]? = some o11) (q12 : ops[12]? = some o12) (q15 : ops[15]? = some o15) (q17 : ops[17]? = some o17)
    (g4 : o4.guard = none ∧ o4.dst = some 22) (g7 : o7.guard = none ∧ o7.dst = some 25) (g8 : o8.guard = none ∧ o8.dst = some 26) (g11 : o11.guard = none ∧ o11.dst = some 29) (g12 : o12.guard = none ∧ o12.dst = some 30) (g15 : o15.guard = none ∧ o15.dst = some 33) (g17 : o17.guard = none ∧ o17.dst = some 3)
    (b4 : ∀ ev w, (execOp ev o4).run Tryd.prog w = .ok (.value (.slice (some ⟨w.heap.size, 0, none⟩) 0 0)) (w.alloc (.cells #[] 4)))
    (b8 : ∀ ev w, (execOp ev o8).run Tryd.prog w = .ok (.value (.slice (some ⟨w.heap.size, 0, none⟩) 0 0)) (w.alloc (.cells #[] 4)))
    (b12 : ∀ ev w, (execOp ev o12).run Tryd.prog w = .ok (.value (.slice (some ⟨w.heap.size, 0, none⟩) 0 0)) (w.alloc (.cells #[] 4)))
    (b17 : ∀ ev w, (execOp ev o17).run Tryd.prog w = .ok (.value (.pointer (some ⟨w.heap.size, 0, none⟩))) (w.alloc (.cells #[.int .i64 0, .int .i64 0, .slice none 0 0, .slice none 0 0, .slice none 0 0] 24)))
    (p7 : o7.op = Op.call { callee := Callee.builtin Builtin.append, args := #[.tmp 22, .tmp 24], argTypes := #[22, 22] })
    (p11 : o11.op = Op.call { callee := Callee.builtin Builtin.append, args := #[.tmp 26, .tmp 28], argTypes := #[22, 22] })
    (p15 : o15.op = Op.call { callee := Callee.builtin Builtin.append, args := #[.tmp 30, .tmp 32], argTypes := #[22, 22] })
    (hsz : 40 < a.tmps.size) (hok : okAll ops = true)
    (x y z : List Bool) (a1 a2 a3 : Option Addr) (c1 c2 c3 : Nat) (e27 : a.eval (.tmp 24) = .slice a1 x.length c1) (e31 : a.eval (.tmp 28) = .slice a2 y.length c2) (e35 : a.eval (.tmp 32) = .slice a3 z.length c3)
    (n1 : a1 = none → c1 = 0) (n2 : a2 = none → c2 = 0) (n3 : a3 = none → c3 = 0) (l1 : x.length ≤ 140737488355328) (l2 : y.length ≤ 140737488355328) (l3 : z.length ≤ 140737488355328)
    (r1 : ReadsB w0 a1 x) (r2 : ReadsB w0 a2 y) (r3 : ReadsB w0 a3 z)
    (hS : ∀ w, Below w0.heap.size w0 w → S w)
    (hfin : ∀ V w c, Kp w0 w x y z ⟨true, true, true, true, true, true, c⟩ V → wpAnyH Tryd.prog .any ops Q S ((if c then 0 else 1) + 2) (Fl.L ⟨true, true, true, true, true, true, c⟩) (Fl.act ⟨true, true, true, true, true, true, c⟩ V a) w) :
    ∀ (m : Nat) (f : Fl) (V : Vs) (w : World), f.left = m → Kp w0 w x y z f V → wpAnyH Tryd.prog .any ops Q S (m + 2) f.L (f.act V a) w := by
  have hall : ∀ f : Fl, f.good = true → f.six = false → (Region.ready .any ops f.L).all f.may = true ∧ (Region.ready .any ops f.L).isEmpty = false := fun f h1 h2 => by
    have := List.all_eq_true.1 hok f (mem_fls f)
    simpa [h1, h2] using this
  have h6 : ∀ (m : Nat) (f : Fl) (V : Vs) (w : World), f.left = m → f.six = true → Kp w0 w x y z f V → wpAnyH Tryd.prog .any ops Q S (m + 2) f.L (f.act V a) w := by
    intro m f V w hm hs hk
    obtain ⟨b1, a1, b2, a2, b3, a3, c⟩ := f
    simp only [Fl.six, Bool.and_eq_true] at hs
    obtain ⟨⟨⟨⟨⟨rfl, rfl⟩, rfl⟩, rfl⟩, rfl⟩, rfl⟩ := hs
    have hm2 : m = if c then 0 else 1 := by
      rw [← hm]
      cases c <;> rfl
    rw [hm2]
    exact hfin V w c hk
  intro m
  induction m with
  | zero =>
    intro f V w hm hk
    refine h6 0 f V w hm ?_ hk
    obtain ⟨b1, a1, b2, a2, b3, a3, c⟩ := f
    unfold Fl.left at hm
    cases b1 <;> cases a1 <;> cases b2 <;> cases a2 <;> cases b3 <;> cases a3 <;> cases c <;> first | rfl | (simp at hm)
  | succ m ih =>
    intro f V w hm hk
    cases hsx : f.six with
    | true => exact h6 _ f V w hm hsx hk
    | false =>
    obtain ⟨hr1, hr2⟩ := hall f hk.gd hsx
    refine ⟨fun h0 => (by rw [h0] at hr2; cases hr2), fun j hj => ?_⟩
    have hmay := List.all_eq_true.1 hr1 j hj
    have hgd := hk.gd
    clear hsx h6
    clear hr1 hr2 hj hall
    obtain ⟨fb1, fa1, fb2, fa2, fb3, fa3, fc⟩ := f
    unfold Fl.may at hmay
    simp only [Bool.or_eq_true, Bool.and_eq_true, beq_iff_eq, Bool.not_eq_true'] at hmay
    unfold Fl.left at hm
    rcases hmay with (((((⟨rfl, hf⟩ | ⟨⟨rfl, hf⟩, hg⟩) | ⟨rfl, hf⟩) | ⟨⟨rfl, hf⟩, hg⟩) | ⟨rfl, hf⟩) | ⟨⟨rfl, hf⟩, hg⟩) | ⟨rfl, hf⟩
    · subst hf
      have hb := below_box w (.cells #[] 4)
      have h2k := hk.keep hb
      refine wpOp_val q4 g4.1 (b4 _ w) ⟨hS _ h2k.bw, ?_⟩
      have he : (Fl.act ⟨false, fa1, fb2, fa2, fb3, fa3, fc⟩ V a).put o4.dst (.slice (some ⟨w.heap.size, 0, none⟩) 0 0) = Fl.act ⟨true, fa1, fb2, fa2, fb3, fa3, fc⟩ { V with e1 := .slice (some ⟨w.heap.size, 0, none⟩) 0 0 } a := by
        rw [g4.2]
        unfold Fl.act
        dsimp only
        rw [puti_put _ _ _ _ (by omega), puti_put _ _ _ _ (by omega), puti_put _ _ _ _ (by omega), puti_put _ _ _ _ (by omega), puti_put _ _ _ _ (by omega), puti_put _ _ _ _ (by omega)]
        rfl
      rw [he]
      refine ih ⟨true, fa1, fb2, fa2, fb3, fa3, fc⟩ { V with e1 := .slice (some ⟨w.heap.size, 0, none⟩) 0 0 } _ ?_ ⟨(by revert hgd; (try cases fb1) <;> (try cases fa1) <;> (try cases fb2) <;> (try cases fa2) <;> (try cases fb3) <;> (try cases fa3) <;> first | exact id | (intro h; first | rfl | exact absurd h (by decide))), h2k.bw, fun _ => ⟨_, rfl⟩, h2k.e2, h2k.e3, h2k.v1, h2k.v2, h2k.v3, h2k.c⟩
      unfold Fl.left
      simp only [Bool.false_eq_true, if_false, if_true] at hm ⊢
      omega
    · subst hf hg
      obtain ⟨cE, hE⟩ := hk.e1 rfl
      have hs : (Fl.act ⟨true, false, fb2, fa2, fb3, fa3, fc⟩ V a).eval (.tmp 22) = .slice (some ⟨cE, 0, none⟩) 0 0 := by
        unfold Fl.act
        dsimp only
        rw [puti_ne _ _ _ (by omega), puti_ne _ _ _ (by omega), puti_ne _ _ _ (by omega), puti_ne _ _ _ (by omega), puti_ne _ _ _ (by omega), puti_ne _ _ _ (by omega), puti_eq _ _ (by first | omega | (simp only [puti_size]; omega)), hE]
      have hx : (Fl.act ⟨true, false, fb2, fa2, fb3, fa3, fc⟩ V a).eval (.tmp 24) = .slice a1 x.length c1 := by
        unfold Fl.act
        rw [puti_ne _ _ _ (by omega), puti_ne _ _ _ (by omega), puti_ne _ _ _ (by omega), puti_ne _ _ _ (by omega), puti_ne _ _ _ (by omega), puti_ne _ _ _ (by omega), puti_ne _ _ _ (by omega), e27]
      refine wpOp_wp q7 g7.1 (step_copy (.tmp 22) (.tmp 24) p7 i h2 h3 h4 h5 cE hs x a1 c1 hx (r1.below hk.bw) n1 l1 fun v' w' hrow hb => ?_)
      have h2k := hk.keep hb
      refine ⟨hS _ h2k.bw, ?_⟩
      have he : (Fl.act ⟨true, false, fb2, fa2, fb3, fa3, fc⟩ V a).put o7.dst v' = Fl.act ⟨true, true, fb2, fa2, fb3, fa3, fc⟩ { V with v1 := v' } a := by
        rw [g7.2]
        unfold Fl.act
        dsimp only
        rw [puti_put _ _ _ _ (by omega), puti_put _ _ _ _ (by omega), puti_put _ _ _ _ (by omega), puti_put _ _ _ _ (by omega), puti_put _ _ _ _ (by omega)]
        rfl
      rw [he]
      refine ih ⟨true, true, fb2, fa2, fb3, fa3, fc⟩ { V with v1 := v' } _ ?_ ⟨(by revert hgd; (try cases fb1) <;> (try cases fa1) <;> (try cases fb2) <;> (try cases fa2) <;> (try cases fb3) <;> (try cases fa3) <;> first | exact id | (intro h; first | rfl | exact absurd h (by decide))), h2k.bw, h2k.e1, h2k.e2, h2k.e3, fun _ => hrow, h2k.v2, h2k.v3, h2k.c⟩
      unfold Fl.left
      simp only [Bool.false_eq_true, if_false, if_true] at hm ⊢
      omega
    · subst hf
      have hb := below_box w (.cells #[] 4)
      have h2k := hk.keep hb
      refine wpOp_val q8 g8.1 (b8 _ w) ⟨hS _ h2k.bw, ?_⟩
      have he : (Fl.act ⟨fb1, fa1, false, fa2, fb3, fa3, fc⟩ V a).put o8.dst (.slice (some ⟨w.heap.size, 0, none⟩) 0 0) = Fl.act ⟨fb1, fa1, true, fa2, fb3, fa3, fc⟩ { V with e2 := .slice (some ⟨w.heap.size, 0, none⟩) 0 0 } a := by
        rw [g8.2]
        unfold Fl.act
        dsimp only
        rw [puti_put _ _ _ _ (by omega), puti_put _ _ _ _ (by omega), puti_put _ _ _ _ (by omega), puti_put _ _ _ _ (by omega)]
        rfl
      rw [he]
      refine ih ⟨fb1, fa1, true, fa2, fb3, fa3, fc⟩ { V with e2 := .slice (some ⟨w.heap.size, 0, none⟩) 0 0 } _ ?_ ⟨(by revert hgd; (try cases fb1) <;> (try cases fa1) <;> (try cases fb2) <;> (try cases fa2) <;> (try cases fb3) <;> (try cases fa3) <;> first | exact id | (intro h; first | rfl | exact absurd h (by decide))), h2k.bw, h2k.e1, fun _ => ⟨_, rfl⟩, h2k.e3, h2k.v1, h2k.v2, h2k.v3, h2k.c⟩
      unfold Fl.left
      simp only [Bool.false_eq_true, if_false, if_true] at hm ⊢
      omega
    · subst hf hg
      obtain ⟨cE, hE⟩ := hk.e2 rfl
      have hs : (Fl.act ⟨fb1, fa1, true, false, fb3, fa3, fc⟩ V a).eval (.tmp 26) = .slice (some ⟨cE, 0, none⟩) 0 0 := by
        unfold Fl.act
        dsimp only
        rw [puti_ne _ _ _ (by omega), puti_ne _ _ _ (by omega), puti_ne _ _ _ (by omega), puti_ne _ _ _ (by omega), puti_eq _ _ (by first | omega | (simp only [puti_size]; omega)), hE]
      have hx : (Fl.act ⟨fb1, fa1, true, false, fb3, fa3, fc⟩ V a).eval (.tmp 28) = .slice a2 y.length c2 := by
        unfold Fl.act
        rw [puti_ne _ _ _ (by omega), puti_ne _ _ _ (by omega), puti_ne _ _ _ (by omega), puti_ne _ _ _ (by omega), puti_ne _ _ _ (by omega), puti_ne _ _ _ (by omega), puti_ne _ _ _ (by omega), e31]
      refine wpOp_wp q11 g11.1 (step_copy (.tmp 26) (.tmp 28) p11 i h2 h3 h4 h5 cE hs y a2 c2 hx (r2.below hk.bw) n2 l2 fun v' w' hrow hb => ?_)
      have h2k := hk.keep hb
      refine ⟨hS _ h2k.bw, ?_⟩
      have he : (Fl.act ⟨fb1, fa1, true, false, fb3, fa3, fc⟩ V a).put o11.dst v' = Fl.act ⟨fb1, fa1, true, true, fb3, fa3, fc⟩ { V with v2 := v' } a := by
        rw [g11.2]
        unfold Fl.act
        dsimp only
        rw [puti_put _ _ _ _ (by omega), puti_put _ _ _ _ (by omega), puti_put _ _ _ _ (by omega)]
        rfl
      rw [he]
      refine ih ⟨fb1, fa1, true, true, fb3, fa3, fc⟩ { V with v2 := v' } _ ?_ ⟨(by revert hgd; (try cases fb1) <;> (try cases fa1) <;> (try cases fb2) <;> (try cases fa2) <;> (try cases fb3) <;> (try cases fa3) <;> first | exact id | (intro h; first | rfl | exact absurd h (by decide))), h2k.bw, h2k.e1, h2k.e2, h2k.e3, h2k.v1, fun _ => hrow, h2k.v3, h2k.c⟩
      unfold Fl.left
      simp only [Bool.false_eq_true, if_false, if_true] at hm ⊢
      omega
    · subst hf
      have hb := below_box w (.cells #[] 4)
      have h2k := hk.keep hb
      refine wpOp_val q12 g12.1 (b12 _ w) ⟨hS _ h2k.bw, ?_⟩
      have he : (Fl.act ⟨fb1, fa1, fb2, fa2, false, fa3, fc⟩ V a).put o12.dst (.slice (some ⟨w.heap.size, 0, none⟩) 0 0) = Fl.act ⟨fb1, fa1, fb2, fa2, true, fa3, fc⟩ { V with e3 := .slice (some ⟨w.heap.size, 0, none⟩) 0 0 } a := by
        rw [g12.2]
        unfold Fl.act
        dsimp only
        rw [puti_put _ _ _ _ (by omega), puti_put _ _ _ _ (by omega)]
        rfl
      rw [he]
      refine ih ⟨fb1, fa1, fb2, fa2, true, fa3, fc⟩ { V with e3 := .slice (some ⟨w.heap.size, 0, none⟩) 0 0 } _ ?_ ⟨(by revert hgd; (try cases fb1) <;> (try cases fa1) <;> (try cases fb2) <;> (try cases fa2) <;> (try cases fb3) <;> (try cases fa3) <;> first | exact id | (intro h; first | rfl | exact absurd h (by decide))), h2k.bw, h2k.e1, h2k.e2, fun _ => ⟨_, rfl⟩, h2k.v1, h2k.v2, h2k.v3, h2k.c⟩
      unfold Fl.left
      simp only [Bool.false_eq_true, if_false, if_true] at hm ⊢
      omega
    · subst hf hg
      obtain ⟨cE, hE⟩ := hk.e3 rfl
      have hs : (Fl.act ⟨fb1, fa1, fb2, fa2, true, false, fc⟩ V a).eval (.tmp 30) = .slice (some ⟨cE, 0, none⟩) 0 0 := by
        unfold Fl.act
        dsimp only
        rw [puti_ne _ _ _ (by omega), puti_ne _ _ _ (by omega), puti_eq _ _ (by first | omega | (simp only [puti_size]; omega)), hE]
      have hx : (Fl.act ⟨fb1, fa1, fb2, fa2, true, false, fc⟩ V a).eval (.tmp 32) = .slice a3 z.length c3 := by
        unfold Fl.act
        rw [puti_ne _ _ _ (by omega), puti_ne _ _ _ (by omega), puti_ne _ _ _ (by omega), puti_ne _ _ _ (by omega), puti_ne _ _ _ (by omega), puti_ne _ _ _ (by omega), puti_ne _ _ _ (by omega), e35]
      refine wpOp_wp q15 g15.1 (step_copy (.tmp 30) (.tmp 32) p15 i h2 h3 h4 h5 cE hs z a3 c3 hx (r3.below hk.bw) n3 l3 fun v' w' hrow hb => ?_)
      have h2k := hk.keep hb
      refine ⟨hS _ h2k.bw, ?_⟩
      have he : (Fl.act ⟨fb1, fa1, fb2, fa2, true, false, fc⟩ V a).put o15.dst v' = Fl.act ⟨fb1, fa1, fb2, fa2, true, true, fc⟩ { V with v3 := v' } a := by
        rw [g15.2]
        unfold Fl.act
        dsimp only
        rw [puti_put _ _ _ _ (by omega)]
        rfl
      rw [he]
      refine ih ⟨fb1, fa1, fb2, fa2, true, true, fc⟩ { V with v3 := v' } _ ?_ ⟨(by revert hgd; (try cases fb1) <;> (try cases fa1) <;> (try cases fb2) <;> (try cases fa2) <;> (try cases fb3) <;> (try cases fa3) <;> first | exact id | (intro h; first | rfl | exact absurd h (by decide))), h2k.bw, h2k.e1, h2k.e2, h2k.e3, h2k.v1, h2k.v2, fun _ => hrow, h2k.c⟩
      unfold Fl.left
      simp only [Bool.false_eq_true, if_false, if_true] at hm ⊢
      omega
    · subst hf
      have hb := below_box w (.cells #[.int .i64 0, .int .i64 0, .slice none 0 0, .slice none 0 0, .slice none 0 0] 24)
      have h2k := hk.keep hb
      refine wpOp_val q17 g17.1 (b17 _ w) ⟨hS _ h2k.bw, ?_⟩
      have he : (Fl.act ⟨fb1, fa1, fb2, fa2, fb3, fa3, false⟩ V a).put o17.dst (.pointer (some ⟨w.heap.size, 0, none⟩)) = Fl.act ⟨fb1, fa1, fb2, fa2, fb3, fa3, true⟩ { V with x := .pointer (some ⟨w.heap.size, 0, none⟩) } a := by
        rw [g17.2]
        rfl
      rw [he]
      refine ih ⟨fb1, fa1, fb2, fa2, fb3, fa3, true⟩ { V with x := .pointer (some ⟨w.heap.size, 0, none⟩) } _ ?_ ⟨(by revert hgd; (try cases fb1) <;> (try cases fa1) <;> (try cases fb2) <;> (try cases fa2) <;> (try cases fb3) <;> (try cases fa3) <;> first | exact id | (intro h; first | rfl | exact absurd h (by decide))), h2k.bw, h2k.e1, h2k.e2, h2k.e3, h2k.v1, h2k.v2, h2k.v3, fun _ => ⟨_, rfl, hk.bw.size, ⟨hp_at rfl⟩⟩⟩
      unfold Fl.left
      simp only [Bool.false_eq_true, if_false, if_true] at hm ⊢
      omega
theorem below_drew {w w' : World} (h : Below w.drew.heap.size w.drew w') : Below w.heap.size w w' := (Below.drew (Below.refl _ _)).trans h
theorem wpOp_skip {P : Program} {ops : Array Oper} {Q : Exit → Act → World → Prop} {i : Nat} {o : Oper} {K : Act → World → Prop} {a : Act} {w w' : World} (q : ops[i]? = some o) (g : o.guard = none) (hd : o.dst = none) (h : (execOp a.eval o).run P w = .ok .skip w') (hK : K a w') : wpOp P ops Q i K a w := by
  refine wpOp_wp q g ?_
  unfold Oper.wp
  rw [h, Oper.upon_skip, hd]
  exact hK
theorem ReadsB.five {W : World} {b : Nat} {ao : Option Addr} {zs : List Bool} {i0 i1 : Int} (h : ReadsB W ao zs) (hF : Five W b (.int .i64 i0) (.int .i64 i1) (.slice none 0 0) (.slice none 0 0) (.slice none 0 0)) (y0 y1 y2 y3 y4 : Value) : ReadsB (st5 W b y0 y1 y2 y3 y4) ao zs := fun j hj => by
  obtain ⟨g, o, h1, h2, h3⟩ := h j hj
  have hd := Dif.st5 (Dif.refl (fun k => k = b) W) (b := b) rfl y0 y1 y2 y3 y4
  have hg : g ≠ b := by
    rintro rfl
    generalize o + j = n at h3
    match n, h3 with
    | 0, h3 => rw [hF.c0] at h3; cases h3
    | 1, h3 => rw [hF.c1] at h3; cases h3
    | 2, h3 => rw [hF.c2] at h3; cases h3
    | 3, h3 => rw [hF.c3] at h3; cases h3
    | 4, h3 => rw [hF.c4] at h3; cases h3
    | m + 5, h3 => simp [World.cell?, hF.blk] at h3
  exact ⟨g, o, h1, Nat.lt_of_lt_of_le h2 hd.size, (hd.cell (p := ⟨g, o + j, none⟩) h2 hg).trans h3⟩
theorem Hs.made {W : World} {G : Gr} {p : Ad} {b : Nat} {i0 i1 : Int} (h : RG W G p) (hF : Five W b (.int .i64 i0) (.int .i64 i1) (.slice none 0 0) (.slice none 0 0) (.slice none 0 0)) : Hs (st5 W b (.int .i64 G.h) (.int .i64 G.w) (.slice p.a1 G.B.length p.c1) (.slice p.a2 G.R.length p.c2) (.slice p.a3 G.D.length p.c3)) b G p :=
  ⟨(hF.all _ _ _ _ _).bx, h.b.five hF _ _ _ _ _, h.r.five hF _ _ _ _ _, h.d.five hF _ _ _ _ _⟩

end Go.Proofs.YtkkeoonglcfhnaaDoor.Grd
/-
  Of no program: what the law on runs asks of each slot and each of its cells.
-/
namespace Go.Proofs.YtkkeoonglcfhnaaDoor.Grd

theorem Gr.stI_st {g : Gr} (hok : g.ok) {i d : Nat} (ho : g.opn i = true) (hd : d < 4) : g.stI (i : Int) (d : Int) = g.st i d := by
  unfold Gr.stI
  rw [if_pos ⟨Gr.opI_iff.2 ⟨hok, i, rfl, ho⟩, by omega, by omega⟩, Int.toNat_natCast, Int.toNat_natCast]
theorem Gr.run_opn {g : Gr} (hW : 0 < g.W) {d i : Nat} (hd : d < 2) (hi : g.opn i = true) : ∀ (k c : Nat), (g.run d i)[k]? = some c → g.opn c = true := by
  intro k
  induction k with
  | zero => intro c h; rw [Gr.run_head] at h; cases h; exact hi
  | succ k _ =>
    intro c h
    have hl := (List.getElem?_eq_some_iff.1 h).1
    have hk : k < (g.run d i).length := by omega
    have e : (g.run d i)[k]? = some ((g.run d i)[k]'hk) := List.getElem?_eq_getElem hk
    exact Gr.st_to hW ((Gr.run_chain hW hd e).trans h)
theorem Gr.IsSl.opn {g : Gr} {s : Sl} {i : Nat} (h : g.IsSl s i) : g.opn i = true := by
  have := h.beg
  unfold Gr.beg at this
  simp only [Bool.and_eq_true] at this
  obtain ⟨j, hj⟩ := Option.isSome_iff_exists.1 this.2
  exact Gr.st_opn hj
/-- A slot's cells are joined by steps, and it can't be made longer. -/
theorem Gr.sl_good {g : Gr} {k : Nat} {s : Sl} (h : g.sl[k]? = some s) : g.ok ∧ 2 ≤ s.cs.length ∧ s.cs.length ≤ 257 ∧ (∀ (a c : Nat), s.cs[a]? = some c → c < 256 ∧ g.opn c = true ∧ g.stI (c : Int) (way s.dn : Nat) = s.cs[a + 1]?) ∧ (∀ c : Nat, s.cs[0]? = some c → g.stI (c : Int) ((way s.dn + 2 : Nat) : Int) = none) := by
  obtain ⟨hok, i, hi, hs⟩ := Gr.mem_sl (List.mem_of_getElem? h)
  have hz := (Gr.right_of hok).sz
  have hW := hz.sw.1
  have hn := hz.n_le.2
  refine ⟨hok, hs.two hW, ?_, ?_, ?_⟩
  · rw [hs.cs]; have := g.run_len (way s.dn) i; omega
  · intro a c hc
    rw [hs.cs] at hc
    have ho := Gr.run_opn hW (way_lt _) hs.opn a c hc
    refine ⟨by have := (Gr.opn_iff.1 ho).1; omega, ho, ?_⟩
    rw [Gr.stI_st hok ho (by have := way_lt s.dn; omega), Gr.run_chain hW (way_lt _) hc, hs.cs]
  · intro c hc
    rw [hs.first.1] at hc
    cases hc
    rw [Gr.stI_st hok hs.opn (by have := way_lt s.dn; omega)]
    exact hs.first.2
theorem Gr.sl_num {g : Gr} {k : Nat} {s : Sl} (h : g.sl[k]? = some s) : s.num ≤ 512 := by
  have hm := List.mem_of_getElem? h
  unfold Gr.sl at hm
  by_cases hok : g.ok
  · rw [if_pos hok] at hm
    obtain ⟨i, hi, _, e⟩ := Gr.mem_slTo (Nat.le_refl _) hm
    have := g.numTo_le (i + 1)
    have := (Gr.right_of hok).n_le
    omega
  · rw [if_neg hok] at hm; cases hm
end Go.Proofs.YtkkeoonglcfhnaaDoor.Grd
/-
  A list of slots in memory of the call's own whose slots' lists have been written over; an append that keeps the list behind which it writes.
-/
namespace Go.Proofs.YtkkeoonglcfhnaaDoor.Grd
open Go Go.Lib Go.RowKit

section
variable {P : Program} (w : World)
theorem run_append_keep (base : Nat) (t ty e : TypeId) (i : TypeInfo) (z : Value) (size bytes : Nat) (ht : P.underlying t = some (.slice e)) (hi : P.info? e = some i) (hz : i.zero = some z)
    (hsize : i.size = size) (hby : i.bytes = bytes) (g cap n : Nat) (xs : List Value) (hown : w.ownsRow base e size (.slice (some ⟨g, 0, none⟩) n cap) n xs)
    (a : Addr) (m c : Nat) (news : List Value) (hl : news.length = m * size) (hnews : ∀ j u, news[j]? = some u → w.cell? (a.add j) = some u) (h1 : ∀ u ∈ news, u.oneCell' = true)
    (h63 : n + m ≤ maxLen) (hbytes : (n + m) * bytes ≤ 140737488355328) :
    ∃ a' c' w', (Builtin.append_ #[t, t] ty #[.slice (some ⟨g, 0, none⟩) n cap, .slice (some a) m c]).run P w = .ok (.slice (some a') (n + m) c') w' ∧ w'.ownsRow base e size (.slice (some ⟨g, 0, none⟩) n cap) n xs ∧ w.grownBy w' (some g) := by
  subst hsize
  subst hby
  have hsmall : n + m ≤ 9223372036854775807 := by simp only [maxLen] at h63; omega
  have hown' := hown
  rcases hown.2 with ⟨h', _⟩ | ⟨g', cap', cur, h', hbg, hg, hnc, hcm, hcs, htake⟩
  · simp at h'
  · simp only [Value.slice.injEq, Option.some.injEq, Addr.mk.injEq, and_true, true_and] at h'
    obtain ⟨rfl, rfl⟩ := h'
    by_cases hroom : n + m ≤ cap
    · have hfit : n * i.size + news.length ≤ cur.size := by rw [hl, hcs, ← Nat.add_mul]; exact Nat.mul_le_mul_right _ hroom
      have hr := run_append_room (P := P) w t ty e i ht hi g n cap cur hg a m c news hl hnews h1 hroom hfit
      refine ⟨_, _, _, hr, ⟨hown.1, .inr ⟨g, cap, _, rfl, hbg, setRow_heap w g cur _ e _ hg, hnc, hcm, ?_, ?_⟩⟩, ⟨rfl, rfl, rfl, by simp, fun k _ hk => setRow_other w g k _ (fun e => hk (by rw [e]))⟩⟩
      · simp only [List.size_toArray, List.length_append, List.length_take, List.length_drop, Array.length_toList]
        omega
      · rw [List.append_assoc, htake, ← hown.1]
        exact List.take_left
    · have holds : ∀ j u, xs[j]? = some u → w.cell? ((⟨g, 0, none⟩ : Addr).add j) = some u := hown.cells (g := g) rfl
      have hr := run_append_grow (P := P) w t ty e i z ht hi hz ⟨g, 0, none⟩ n cap xs hown.1 holds a m c news hl hnews (by omega) (by omega) (growslice_fits (by omega) hbytes)
      have hgr : ∀ o : Obj, w.grownBy (w.drew.alloc o) (some g) := fun o => ⟨rfl, rfl, rfl, by simp, fun k hk _ => heap_alloc_old w.drew _ hk⟩
      refine ⟨_, _, _, hr, ?_, hgr _⟩
      have hlt := (Array.getElem?_eq_some_iff.1 hg).1
      exact ⟨hown.1, .inr ⟨g, cap, cur, rfl, hbg, (heap_alloc_old w.drew _ hlt).trans hg, hnc, hcm, hcs, htake⟩⟩
theorem wp_append_keep {o : Oper} {a : Act} {K : Act → World → Prop} {Q : Exit → Act → World → Prop} (s x : Operand) (t : TypeId)
    (ho : o.op = .call { callee := .builtin .append, args := #[s, x], argTypes := #[t, t] })
    (base : Nat) (e : TypeId) (i : TypeInfo) (z : Value) (size bytes : Nat) (ht : P.underlying t = some (.slice e)) (hi : P.info? e = some i) (hz : i.zero = some z)
    (hsize : i.size = size) (hby : i.bytes = bytes) (g cap n : Nat) (xs : List Value) (hs : a.eval s = .slice (some ⟨g, 0, none⟩) n cap) (hown : w.ownsRow base e size (.slice (some ⟨g, 0, none⟩) n cap) n xs)
    (ad : Addr) (m c : Nat) (news : List Value) (hx : a.eval x = .slice (some ad) m c) (hl : news.length = m * size) (hnews : ∀ j u, news[j]? = some u → w.cell? (ad.add j) = some u) (h1 : ∀ u ∈ news, u.oneCell' = true)
    (h63 : n + m ≤ maxLen) (hbytes : (n + m) * bytes ≤ 140737488355328)
    (h : ∀ a' c' w', w'.ownsRow base e size (.slice (some ⟨g, 0, none⟩) n cap) n xs → w.grownBy w' (some g) → K (a.put o.dst (.slice (some a') (n + m) c')) w') : o.wp P a w K Q := by
  obtain ⟨a', c', w', hr, h2, h3⟩ := run_append_keep (P := P) w base t o.type e i z size bytes ht hi hz hsize hby g cap n xs hown ad m c news hl hnews h1 h63 hbytes
  unfold Oper.wp execOp
  simp only [ho, resolve, invoke, builtin, Sem.run_bind, Sem.run_pure, Result.andThen_ok, List.map_toArray, List.map_cons, List.map_nil, hs, hx, hr]
  exact h a' c' w' h2 h3
theorem wpList_append_keep {ops : Array Oper} {rest : List Oper} {o : Oper} {a : Act} {Q : Exit → Act → World → Prop} (hgd : o.guard = none) (s x : Operand) (t : TypeId)
    (ho : o.op = .call { callee := .builtin .append, args := #[s, x], argTypes := #[t, t] })
    (base : Nat) (e : TypeId) (i : TypeInfo) (z : Value) (size bytes : Nat) (ht : P.underlying t = some (.slice e)) (hi : P.info? e = some i) (hz : i.zero = some z)
    (hsize : i.size = size) (hby : i.bytes = bytes) (g cap n : Nat) (xs : List Value) (hs : a.eval s = .slice (some ⟨g, 0, none⟩) n cap) (hown : w.ownsRow base e size (.slice (some ⟨g, 0, none⟩) n cap) n xs)
    (ad : Addr) (m c : Nat) (news : List Value) (hx : a.eval x = .slice (some ad) m c) (hl : news.length = m * size) (hnews : ∀ j u, news[j]? = some u → w.cell? (ad.add j) = some u) (h1 : ∀ u ∈ news, u.oneCell' = true)
    (h63 : n + m ≤ maxLen) (hbytes : (n + m) * bytes ≤ 140737488355328)
    (h : ∀ a' c' w', w'.ownsRow base e size (.slice (some ⟨g, 0, none⟩) n cap) n xs → w.grownBy w' (some g) → wpList P ops Q rest (a.put o.dst (.slice (some a') (n + m) c')) w') : wpList P ops Q (o :: rest) a w :=
  wpList_plain hgd fun _ hK => wp_append_keep w s x t ho base e i z size bytes ht hi hz hsize hby g cap n xs hs hown ad m c news hx hl hnews h1 h63 hbytes fun a' c' w' h2 h3 => hK _ _ (h a' c' w' h2 h3)
end

/-- Cells of a list of numbers, by a function. -/
def cellsN (f : Nat → Int) (n : Nat) : List Value := (List.range n).map fun j => .int .i64 (f j)
theorem cellsN_length (f : Nat → Int) (n : Nat) : (cellsN f n).length = n := by simp [cellsN]
theorem cellsN_at {f : Nat → Int} {n j : Nat} (h : j < n) : (cellsN f n)[j]? = some (.int .i64 (f j)) := by simp [cellsN, h]
theorem cellsN_congr {f f' : Nat → Int} {n : Nat} (h : ∀ j, j < n → f j = f' j) : cellsN f n = cellsN f' n := by
  unfold cellsN
  apply List.map_congr_left
  intro j hj
  rw [h j (List.mem_range.1 hj)]
theorem cellsN_set {f : Nat → Int} {n j : Nat} {z : Int} : (cellsN f n).set j (.int .i64 z) = cellsN (fun k => if k = j then z else f k) n := by
  apply List.ext_getElem?
  intro k
  rw [List.getElem?_set]
  by_cases hk : k < n
  · rw [cellsN_at hk]
    by_cases h : j = k
    · subst h
      rw [if_pos rfl, if_pos (by rw [cellsN_length]; exact hk), cellsN_at hk, if_pos rfl]
    · rw [if_neg h, cellsN_at hk, if_neg (fun e => h e.symm)]
  · have e : (cellsN (fun k => if k = j then z else f k) n)[k]? = none := List.getElem?_eq_none (by rw [cellsN_length]; omega)
    have e2 : (cellsN f n)[k]? = none := List.getElem?_eq_none (by rw [cellsN_length]; omega)
    rw [e, e2, cellsN_length]
    by_cases h : j = k
    · rw [if_pos h, if_neg (by omega)]
    · rw [if_neg h]
theorem cellsN_ints (l : List Nat) : cellsI (ints l) = cellsN (fun j => ((l[j]?.getD 0 : Nat) : Int)) l.length := by
  apply List.ext_getElem?
  intro j
  by_cases hj : j < l.length
  · rw [cellsN_at hj]
    simp [cellsI, ints, hj]
  · rw [List.getElem?_eq_none (by rw [cellsI_length, ints_length]; omega), List.getElem?_eq_none (by rw [cellsN_length]; omega)]
/-- A list of slots, in memory from B on; the slots' lists hold any numbers; no two in one block. -/
structure OwnM (W : World) (B : Nat) (v : Value) (L : List Sl) (us : List Value) (f : Nat → Nat → Int) : Prop where
  row : W.ownsRow B 36 3 v L.length (slCells L us)
  len : us.length = L.length
  each : ∀ (k : Nat) (s : Sl) (u : Value), L[k]? = some s → us[k]? = some u → W.ownsRow B 3 1 u s.cs.length (cellsN (f k) s.cs.length)
  two : (us.map Value.ownBlock).Nodup
theorem OwnL.any {W : World} {B : Nat} {v : Value} {L : List Sl} {us : List Value} (h : OwnL W B v L us) : OwnM W B v L us (fun k j => (((L[k]?.getD ⟨0, false, []⟩).cs[j]?.getD 0 : Nat) : Int)) :=
  ⟨h.row, h.len, fun k s u h1 h2 => by rw [h1, Option.getD_some, ← cellsN_ints]; exact h.each k s u h1 h2, h.two⟩
theorem OwnM.congr {W : World} {B : Nat} {v : Value} {L : List Sl} {us : List Value} {f f' : Nat → Nat → Int} (h : OwnM W B v L us f) (e : ∀ (k : Nat) (s : Sl) j, L[k]? = some s → j < s.cs.length → f k j = f' k j) : OwnM W B v L us f' :=
  ⟨h.row, h.len, fun k s u h1 h2 => by rw [← cellsN_congr (fun j hj => e k s j h1 hj)]; exact h.each k s u h1 h2, h.two⟩
theorem OwnM.keep {W W' : World} {B : Nat} {v : Value} {L : List Sl} {us : List Value} {f : Nat → Nat → Int} (h : OwnM W B v L us f) (hb : Below W.heap.size W W') : OwnM W' B v L us f :=
  ⟨row_keeps3 h.row hb, h.len, fun k s u h1 h2 => row_keeps3 (h.each k s u h1 h2) hb, h.two⟩
theorem own_two {us : List Value} (h : (us.map Value.ownBlock).Nodup) {k k' : Nat} {u u' : Value} (h1 : us[k]? = some u) (h2 : us[k']? = some u') (e : u.ownBlock = u'.ownBlock) : k = k' := by
  have hk : k < (us.map Value.ownBlock).length := by rw [List.length_map]; exact (List.getElem?_eq_some_iff.1 h1).1
  have e1 : (us.map Value.ownBlock)[k]? = (us.map Value.ownBlock)[k']? := by rw [List.getElem?_map, List.getElem?_map, h1, h2, Option.map_some, Option.map_some, e]
  exact (List.getElem?_inj hk h).1 e1
/-- One slot's own block changes: the other rows stay. -/
theorem OwnM.change {W W' : World} {B : Nat} {v : Value} {L : List Sl} {us : List Value} {f f' : Nat → Nat → Int} {k g : Nat} {s : Sl} {u : Value} (h : OwnM W B v L us f) (hs : L[k]? = some s) (hu : us[k]? = some u) (hg : u.ownBlock = some g)
    (hgr : W.grownBy W' (some g)) (hr : W'.ownsRow B 3 1 u s.cs.length (cellsN (f' k) s.cs.length)) (hf : ∀ i j, i ≠ k → f i j = f' i j) : OwnM W' B v L us f' := by
  refine ⟨row_grown h.row hgr fun j hj e => ?_, h.len, fun i t y h1 h2 => ?_, h.two⟩
  · cases e
    exact slot_apart h.row (h.each k s u hs hu) hg hj
  · by_cases e : i = k
    · subst e
      rw [hs] at h1
      rw [hu] at h2
      cases h1
      cases h2
      exact hr
    · rw [← cellsN_congr (fun j _ => hf i j e)]
      refine row_grown (h.each i t y h1 h2) hgr fun j hj e2 => ?_
      cases e2
      exact e (own_two h.two h2 hu (hj.trans hg.symm))
/-- One slot of it, as a walk reads it. -/
theorem OwnM.slot {W : World} {B cap n : Nat} {ao : Option Addr} {L : List Sl} {us : List Value} {f : Nat → Nat → Int} {k : Nat} {s : Sl} (h : OwnM W B (.slice ao n cap) L us f) (hs : L[k]? = some s) (hc : 0 < s.cs.length) :
    ∃ b gb c, ao = some ⟨b, 0, none⟩ ∧ W.cell? ⟨b, k * 3 + 2, none⟩ = some (.slice (some ⟨gb, 0, none⟩) s.cs.length c) ∧ us[k]? = some (.slice (some ⟨gb, 0, none⟩) s.cs.length c) ∧ W.ownsRow B 3 1 (.slice (some ⟨gb, 0, none⟩) s.cs.length c) s.cs.length (cellsN (f k) s.cs.length) ∧ b ≠ gb := by
  have hkl := (List.getElem?_eq_some_iff.1 hs).1
  have hu : us[k]? = some (us[k]'(by rw [h.len]; exact hkl)) := List.getElem?_eq_getElem _
  generalize us[k]'(by rw [h.len]; exact hkl) = u at hu
  obtain ⟨_, _, c3⟩ := slCells_at L us k s u hs hu
  have hx := h.each k s u hs hu
  have hr := h.row
  rcases hr.2 with ⟨_, h0⟩ | ⟨b, cp, cur, e, _⟩
  · omega
  · cases e
    rcases hx.2 with ⟨_, h0⟩ | ⟨gb, c, cur2, rfl, _⟩
    · omega
    · refine ⟨b, gb, c, rfl, ?_, hu, hx, fun e => slot_apart hr hx rfl (by rw [← e]; rfl)⟩
      have := hr.cells (g := b) rfl (3 * k + 2) _ c3
      rwa [show (⟨b, 0, none⟩ : Addr).add (3 * k + 2) = ⟨b, 3 * k + 2, none⟩ by unfold Addr.add; split <;> simp_all, Nat.mul_comm 3 k] at this
/-- A number is stored in it. -/
theorem OwnM.put {W : World} {B gb c : Nat} {v : Value} {L : List Sl} {us : List Value} {f f' : Nat → Nat → Int} {k j : Nat} {s : Sl} {z : Int} (h : OwnM W B v L us f) (hs : L[k]? = some s) (hu : us[k]? = some (.slice (some ⟨gb, 0, none⟩) s.cs.length c))
    (hf : ∀ i l, (if i = k ∧ l = j then z else f i l) = f' i l) : OwnM (W.setCell ⟨gb, j, none⟩ (.int .i64 z)) B v L us f' := by
  have hst := (h.each k s _ hs hu).stored j (.int .i64 z)
  refine h.change hs hu rfl hst.2 ?_ (fun i l hi => by rw [← hf i l, if_neg (fun e => hi e.1)])
  rw [← cellsN_congr (f := fun l => if l = j then z else f k l) (fun l _ => by rw [← hf k l]; by_cases e : l = j <;> simp [e]), ← cellsN_set]
  exact hst.1
end Go.Proofs.YtkkeoonglcfhnaaDoor.Grd
