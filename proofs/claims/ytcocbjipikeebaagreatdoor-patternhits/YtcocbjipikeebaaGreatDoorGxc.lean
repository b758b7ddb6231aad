/-
  Of no program: a region that draws within a round of a loop over a function, by the rules of a region that stands free.
-/
import Derived.Test.YtcocbjipikeebaaGreatDoorProg
import Derived.OrdersHeld
import Derived.OrdersIn
import Derived.RangeFuncCalls
import Derived.Deep.RegionHeldLaw
import Derived.KernelRfl
import Derived.Test.YtcocbjipikeebaaGreatDoorSeqq
import Derived.Test.YtcocbjipikeebaaGreatDoorNamq
import Derived.Test.YtcocbjipikeebaaGreatDoorKnoq
import Derived.Test.YtcocbjipikeebaaGreatDoorGwr
import Derived.Test.YtcocbjipikeebaaGreatDoorNwmq
import Derived.Test.YtcocbjipikeebaaGreatDoorFldwq
import Derived.Test.YtcocbjipikeebaaGreatDoorGutf
namespace Go.Proofs.YtcocbjipikeebaaGreatDoor.Utf
open Go

def noDefer (ops : Array Oper) : Bool := ops.all fun o => match o.op with | .defer _ => false | _ => true
theorem noDefer_at {ops : Array Oper} (h : noDefer ops = true) {i : Nat} {o : Oper} (ho : ops[i]? = some o) : ∀ c, o.op ≠ .defer c := by
  intro c e
  unfold noDefer at h
  rw [Array.all_eq_true] at h
  obtain ⟨hi, rfl⟩ := Array.getElem?_eq_some_iff.1 ho
  have := h i hi
  rw [e] at this
  cases this
section
variable {l n : Nat} {P : Program} {ops : Array Oper} {Q : Exit → Act → World → Prop} {md : Region.Mode}
theorem rows_wide {row : String} {args : Array Value} {w : World} {R : Value → World → Prop} (h : Rows P row args w R) : RowsIn (Fence.wide.inRound l) n P row args w R :=
  fun c cs _ => let ⟨v, w', r, s⟩ := h c cs; ⟨v, w', r, stepsIn_wide.2 s⟩
theorem wpOpIn_round (hd : noDefer ops = true) (hL : ¬ LetsOut Q) {i : Nat} {K : Act → World → Prop} {a : Act} {w : World} (h : wpOp P ops Q i K a w) : wpOpIn (Fence.wide.inRound l) n P ops Q i K a w := by
  unfold wpOp at h
  unfold wpOpIn
  cases ho : ops[i]? with
  | none => simp only [ho] at h; exact h
  | some o =>
    simp only [ho] at h ⊢
    by_cases hw : Region.wanted o (yielded ops a.tmps) = true
    · rw [if_pos hw] at h ⊢
      rcases h with h | ⟨_, h⟩
      · unfold Oper.wp at h
        unfold Oper.wpIn
        refine ⟨fun _ _ => trivial, ?_⟩
        rw [Oper.semAt_eq _ _ _ (noDefer_at hd ho)]
        generalize (execOp a.eval o).run P w = r at *
        cases r with
        | ok x w' =>
          cases x <;> first
            | exact h
            | exact ⟨fun hh => by simp [Fence.wide] at hh, CallsIn.inRound l (callsIn_wide.2 h)⟩
            | exact ⟨fun hh => by simp [Fence.wide] at hh, rows_wide h⟩
            | exact h.elim
        | halt x w' => cases x <;> first | exact h | exact h.elim
      · exact absurd h hL
    · rw [if_neg hw] at h ⊢
      exact ⟨fun _ _ => trivial, h⟩
theorem wpAnyIn_round (hd : noDefer ops = true) (hL : ¬ LetsOut Q) : ∀ (fuel : Nat) (listed : Array Bool) (a : Act) (w : World), wpAny P md ops Q fuel listed a w → wpAnyIn (Fence.wide.inRound l) n P md ops Q fuel listed a w
  | 0, _, _, _, h => h
  | fuel + 1, _, _, _, h => ⟨h.1, fun i hi => wpOpIn_mono (fun a' w' h' => wpAnyIn_round hd hL fuel _ a' w' h') (wpOpIn_round hd hL (h.2 i hi))⟩
/-- A REGION THAT DRAWS, IN A ROUND. -/
theorem wpIn_region_round {S : World → Prop} {id : Nat} {a : Act} {w : World} (hm : P.follows .mixedOrders = true) (hd : noDefer ops = true) (hL : ¬ LetsOut Q)
    (h : wpAnyH P .any ops Q S ops.size (Array.replicate ops.size false) a { w with drawn := w.drawn + 1 }) : (Code.region id ops true).wpIn (Fence.wide.inRound l) n P Q a w :=
  wpIn_region_any hm (wpAnyIn_round hd hL _ _ _ _ (wpAny_of_held _ _ _ _ h))
end
theorem takeD {P : Program} {ops : Array Oper} {Q : Exit → Act → World → Prop} {md : Region.Mode} {S : World → Prop} {i d : Nat} {v : Value} {fuel : Nat} {listed : Array Bool} {a : Act} {w : World} (hd : (ops[i]?).map (fun o => o.dst) = some (some d))
    (hs : Region.noSelect ops = true) (hf : Region.free md ops listed i = true) (hr : (Region.ready md ops listed).contains i = true)
    (hQ : ∀ c a w, Q (.panic c) (a.put (some d) v) w → Q (.panic c) a w) (hy : ∀ oi, ops[i]? = some oi → YieldsIf P ops S oi v a) (hS : S w)
    (h : wpAnyH P md ops Q S fuel (listed.setIfInBounds i true) (a.put (some d) v) w) : wpAnyH P md ops Q S (fuel + 1) listed a w := by
  cases ho : ops[i]? with
  | none => rw [ho] at hd; cases hd
  | some oi =>
    rw [ho] at hd
    have e : oi.dst = some d := by simpa using hd
    exact wpAnyH_take ho hs hf hr (by rw [e]; exact hQ) (hy oi ho) hS (by rw [e]; exact h)
theorem yields_now {P : Program} {ops : Array Oper} {S : World → Prop} {o oi : Oper} {v : Value} {a : Act} (ho : some o = some oi) (hw : Region.wanted o (yielded ops a.tmps) = true) (h : ∀ w, S w → (execOp a.eval o).run P w = .ok (.value v) w) : YieldsIf P ops S oi v a := by
  obtain rfl := Option.some.inj ho
  exact Or.inl ⟨hw, h⟩

theorem wpOp_wp {P : Program} {ops : Array Oper} {Q : Exit → Act → World → Prop} {i : Nat} {o : Oper} {K : Act → World → Prop} {a : Act} {w : World} (q : ops[i]? = some o) (g : o.guard = none) (h : o.wp P a w K Q) : wpOp P ops Q i K a w := by
  have hw : Region.wanted o (yielded ops a.tmps) = true := by simp [Region.wanted, g]
  unfold wpOp
  simp only [q]
  rw [if_pos hw]
  exact .inl h
theorem wpOp_val {P : Program} {ops : Array Oper} {Q : Exit → Act → World → Prop} {i : Nat} {o : Oper} {K : Act → World → Prop} {a : Act} {w w' : World} {v : Value} (q : ops[i]? = some o) (g : o.guard = none) (h : (execOp a.eval o).run P w = .ok (.value v) w') (hK : K (a.put o.dst v) w') : wpOp P ops Q i K a w := by
  refine wpOp_wp q g ?_
  unfold Oper.wp
  rw [h]
  exact hK
theorem wpOp_skip {P : Program} {ops : Array Oper} {Q : Exit → Act → World → Prop} {i : Nat} {o : Oper} {K : Act → World → Prop} {a : Act} {w w' : World} (q : ops[i]? = some o) (g : o.guard = none) (hd : o.dst = none) (h : (execOp a.eval o).run P w = .ok .skip w') (hK : K a w') : wpOp P ops Q i K a w := by
  refine wpOp_wp q g ?_
  unfold Oper.wp
  rw [h, Oper.upon_skip, hd]
  exact hK

end Go.Proofs.YtcocbjipikeebaaGreatDoor.Utf
/-
  The program's cut: a line's word and its score, as they are written.
-/
namespace Go.Proofs.YtcocbjipikeebaaGreatDoor.Utf
open Go Go.Lib Go.RowKit Go.Shelf
attribute [local go_sem] Oper.semAt_some

theorem pairsFrom_in (s : ByteArray) : ∀ f pos x, x ∈ pairsFrom s f pos → x.1 < s.size
  | 0, _, x, h => by simp [pairsFrom] at h
  | f + 1, pos, x, h => by
    by_cases hp : pos < s.size
    · rw [pairsFrom_step hp] at h
      rcases List.mem_cons.1 h with rfl | h
      · exact hp
      · exact pairsFrom_in s f _ x h
    · rw [pairsFrom_end s _ pos hp] at h; cases h
theorem pairs_in {s : ByteArray} {x : Nat × Nat} (h : x ∈ pairs s) : x.1 < s.size := pairsFrom_in s _ _ x h
theorem results_ss {fn : Func} {p q : Tmp} (h : fn.results = #[.cell p 9, .cell q 9]) (tmps : Array Value) (w : World) (b1 b2 : Nat) (v1 v2 : Value)
    (hp : tmps.getD p undef = .pointer (some ⟨b1, 0, none⟩)) (hq : tmps.getD q undef = .pointer (some ⟨b2, 0, none⟩)) (h1 : w.cell? ⟨b1, 0, none⟩ = some v1) (h2 : w.cell? ⟨b2, 0, none⟩ = some v2) :
    (results fn tmps).run Tryz.prog w = .ok (.tuple #[v1, v2]) w := by
  have hp' : tmps[p]?.getD undef = .pointer (some ⟨b1, 0, none⟩) := by simpa using hp
  have hq' : tmps[q]?.getD undef = .pointer (some ⟨b2, 0, none⟩) := by simpa using hq
  simp only [results, h]
  simp [hp', hq', asAddr]
  go_simp
/-- The first rune that parts the word from its score. -/
def fsc (ps : List (Nat × Nat)) : Option (Nat × Nat) := ps.find? fun x => x.2 == 59
/-- A line's word and its score. -/
def cutS (s : ByteArray) : ByteArray × ByteArray := match fsc (pairs s) with | none => (s, ⟨#[53, 48]⟩) | some x => (s.extract 0 x.1, s.extract (x.1 + 1) s.size)
/-- All but the last rune are no parting. -/
def StopC (ps : List (Nat × Nat)) : Prop := ∃ pre' x, ps = pre' ++ [x] ∧ (∀ y ∈ pre', ¬ y.2 = 59) ∧ x.2 = 59
def lastP (ps : List (Nat × Nat)) : Nat := match ps.getLast? with | some x => x.1 | none => 0

set_option maxRecDepth 100000 in
set_option maxHeartbeats 2000000 in
theorem lcut_any (s : ByteArray) (w : World) (hs : s.size ≤ 16777216) :
    Calls Tryz.prog 72 #[.string s] w fun e W' => e = .returned (.tuple #[.string (cutS s).1, .string (cutS s).2]) ∧ Below w.heap.size w W' := by
  refine (callsIn_wide (n := 3)).1 ?_
  have hro : Fence.wide.round = none := rfl
  refine callsIn_of_wp_marks Tryz.func72 rfl trivial ?_ hro
  simp only [Tryz.ntmps72, List.size_toArray, List.length_cons, List.length_nil, Nat.reduceAdd, Nat.reduceSub, Array.replicate_succ, Array.replicate_zero, List.push_toArray, List.append_toArray, List.nil_append, List.cons_append]
  gi_wp2_with (refine ⟨trivial, ?_⟩; gi_at_call 57; refine (all_in Fence.wide _ trivial hro _ _).mono ?_; rintro e w' ⟨rfl, rfl⟩)
  obtain ⟨W0, hW0⟩ : ∃ W0, ((((w.alloc (.cells #[.string s] 9)).alloc (.cells #[.string ⟨#[]⟩] 9)).alloc (.cells #[.string ⟨#[]⟩] 9)).alloc (.cells #[.string s] 9)) = W0 := ⟨_, rfl⟩
  have bL : Boxed W0 w.heap.size 9 (.string s) := by rw [← hW0]; exact (((Boxed.new w 9 (.string s)).alloc _).alloc _).alloc _
  have b1 : Boxed W0 (w.heap.size + 1) 9 (.string ⟨#[]⟩) := by rw [← hW0]; have := ((Boxed.new (w.alloc (.cells #[.string s] 9)) 9 (.string ⟨#[]⟩)).alloc (.cells #[.string ⟨#[]⟩] 9)).alloc (.cells #[.string s] 9); rw [World.size_alloc] at this; exact this
  have b2 : Boxed W0 (w.heap.size + 2) 9 (.string ⟨#[]⟩) := by rw [← hW0]; have := ((Boxed.new ((w.alloc (.cells #[.string s] 9)).alloc (.cells #[.string ⟨#[]⟩] 9)) 9 (.string ⟨#[]⟩)).alloc (.cells #[.string s] 9)); rw [World.size_alloc, World.size_alloc] at this; exact this
  have bS : Boxed W0 (w.heap.size + 3) 9 (.string s) := by rw [← hW0]; have := (Boxed.new (((w.alloc (.cells #[.string s] 9)).alloc (.cells #[.string ⟨#[]⟩] 9)).alloc (.cells #[.string ⟨#[]⟩] 9)) 9 (.string s)); rw [World.size_alloc, World.size_alloc, World.size_alloc] at this; exact this
  have hW0s : W0.heap.size = w.heap.size + 4 := by rw [← hW0]; simp
  have hB0 : Below w.heap.size w W0 := by rw [← hW0]; exact ((((Below.refl _ w).alloc (Nat.le_refl _) _).alloc (by simp) _).alloc (by simp; omega) _).alloc (by simp; omega) _
  rw [hW0]
  clear hW0
  refine wpIn_rangeTells (by omega) (gf := 86) (lb := #[.pointer (some ⟨w.heap.size + 3, 0, none⟩)]) rfl (enters_of Tryz.func86 (by kernel_rfl) rfl)
    (all_tells _ (by omega) (w.heap.size + 3) s W0 bS.lt bS.cell) walksK_t walksK_b (Below.refl _ _) (fun _ => rfl)
    (fun pre W => (Boxed W w.heap.size 9 (.string s) ∧ (Boxed W (w.heap.size + 1) 9 (.string ⟨#[]⟩) ∧ (Boxed W (w.heap.size + 2) 9 (.string ⟨#[]⟩) ∧ (∀ x ∈ pre, ¬ x.2 = 59)))) ∧ Below w.heap.size w W)
    (fun c pre W => (Boxed W (w.heap.size + 1) 9 (.string (s.extract 0 (lastP pre))) ∧ (Boxed W (w.heap.size + 2) 9 (.string (s.extract (lastP pre + 1) s.size)) ∧ (c = .ret ∧ StopC pre))) ∧ Below w.heap.size w W)
    (OwnFrom.and (OwnFrom.and (Own.from (boxed_own w.heap.size 9 (fun _ : List (Nat × Nat) => .string s)) _) (OwnFrom.and (Own.from (boxed_own (w.heap.size + 1) 9 (fun _ : List (Nat × Nat) => .string ⟨#[]⟩)) _) (OwnFrom.and (Own.from (boxed_own (w.heap.size + 2) 9 (fun _ : List (Nat × Nat) => .string ⟨#[]⟩)) _) (ownFrom_pure _ _)))) (ownFrom_below (Nat.le_refl _) (by omega)))
    (fun c => OwnFrom.and (OwnFrom.and (Own.from (boxed_own (w.heap.size + 1) 9 (fun pre : List (Nat × Nat) => .string (s.extract 0 (lastP pre)))) _) (OwnFrom.and (Own.from (boxed_own (w.heap.size + 2) 9 (fun pre : List (Nat × Nat) => .string (s.extract (lastP pre + 1) s.size))) _) (ownFrom_pure _ _))) (ownFrom_below (Nat.le_refl _) (by omega)))
    ⟨⟨bL, b1, b2, fun _ h => by cases h⟩, hB0⟩ ?round ?done ?stop
  case round =>
    rintro l pre x post W1 W hfull ⟨⟨bl, b1, b2, hall⟩, hB⟩
    have cl := bl.cell
    have c1 := b1.cell
    have f1 := b1.frozen
    have c2 := b2.cell
    have f2 := b2.frozen
    gi_wp2
    refine ⟨by first | trivial | rfl, ?_⟩
    have hxs : x.1 < s.size := pairs_in (by rw [hfull]; simp)
    have hx1 : (x.1 : Int) ≤ (s.size : Int) := by omega
    have hx2 : (x.1 : Int) + 1 ≤ (s.size : Int) := by omega
    by_cases h59 : x.2 = 59
    · have hz : ((x.2 : Int) == 59) = true := by rw [h59]; rfl
      have HX : Hid (StopC (pre ++ [x])) := ⟨pre, x, rfl, hall, h59⟩
      have HV : Hid (lastP (pre ++ [x]) = x.1) := by show _ = _; simp [lastP]
      have hxn : ((x.1 : Int) + 1).toNat = x.1 + 1 := by omega
      have hxz : (0 : Int) ≤ (x.1 : Int) + 1 := by omega
      have hxw : wrap64 ((x.1 : Int) + 1) = (x.1 : Int) + 1 := by
        unfold wrap64
        omega
      clear hall h59
      gi_wp2
      have hSW : W.drew.cell? ⟨w.heap.size, 0, none⟩ = some (.string s) := cl
      refine wpIn_region_round (S := fun Z => Z.cell? ⟨w.heap.size, 0, none⟩ = some (.string s)) (by kernel_rfl) (by kernel_rfl) (fun h => by obtain ⟨_, _, h⟩ := h; exact h.elim) ?_
      refine (show wpAnyH _ .any _ _ _ 9 (Array.replicate 9 false) _ W.drew from ?_)
      refine takeD (i := 0) (d := 12) (v := .string s) rfl (by kernel_rfl) (by kernel_rfl) (by kernel_rfl) (fun _ _ _ h => h) (fun oi ho => yields_now ho rfl fun Z hSw => ?_) hSW ?_
      · go_simp
      simp only [Act.put, List.setIfInBounds_toArray, List.set_cons_zero, List.set_cons_succ]
      refine takeD (i := 1) (d := 13) (v := .int .i64 (x.1 : Int)) rfl (by kernel_rfl) (by kernel_rfl) (by kernel_rfl) (fun _ _ _ h => h) (fun oi ho => yields_now ho rfl fun Z hSw => ?_) hSW ?_
      · go_simp
      simp only [Act.put, List.setIfInBounds_toArray, List.set_cons_zero, List.set_cons_succ]
      refine takeD (i := 2) (d := 14) (v := .string (s.extract 0 x.1)) rfl (by kernel_rfl) (by kernel_rfl) (by kernel_rfl) (fun _ _ _ h => h) (fun oi ho => yields_now ho rfl fun Z hSw => ?_) hSW ?_
      · go_simp
      simp only [Act.put, List.setIfInBounds_toArray, List.set_cons_zero, List.set_cons_succ]
      refine takeD (i := 3) (d := 15) (v := .string s) rfl (by kernel_rfl) (by kernel_rfl) (by kernel_rfl) (fun _ _ _ h => h) (fun oi ho => yields_now ho rfl fun Z hSw => ?_) hSW ?_
      · go_simp
      simp only [Act.put, List.setIfInBounds_toArray, List.set_cons_zero, List.set_cons_succ]
      refine takeD (i := 4) (d := 16) (v := .int .i64 (x.1 : Int)) rfl (by kernel_rfl) (by kernel_rfl) (by kernel_rfl) (fun _ _ _ h => h) (fun oi ho => yields_now ho rfl fun Z hSw => ?_) hSW ?_
      · go_simp
      simp only [Act.put, List.setIfInBounds_toArray, List.set_cons_zero, List.set_cons_succ]
      refine takeD (i := 5) (d := 17) (v := .int .i64 ((x.1 : Int) + 1)) rfl (by kernel_rfl) (by kernel_rfl) (by kernel_rfl) (fun _ _ _ h => h) (fun oi ho => yields_now ho rfl fun Z hSw => ?_) hSW ?_
      · go_simp
        simp [IntKind.wrap, IntKind.signed, IntKind.bits]
        omega
      simp only [Act.put, List.setIfInBounds_toArray, List.set_cons_zero, List.set_cons_succ]
      refine takeD (i := 6) (d := 18) (v := .string (s.extract (x.1 + 1) s.size)) rfl (by kernel_rfl) (by kernel_rfl) (by kernel_rfl) (fun _ _ _ h => h) (fun oi ho => yields_now ho rfl fun Z hSw => ?_) hSW ?_
      · go_simp
      simp only [Act.put, List.setIfInBounds_toArray, List.set_cons_zero, List.set_cons_succ]
      refine wpAnyH_all (rs := [7]) (by kernel_rfl) (by simp) (fun i hi => ?_)
      obtain rfl := List.mem_singleton.1 hi
      have d1 : Boxed W.drew (w.heap.size + 1) 9 (.string ⟨#[]⟩) := b1
      have d2 : Boxed W.drew (w.heap.size + 2) 9 (.string ⟨#[]⟩) := b2
      have dl : Boxed W.drew w.heap.size 9 (.string s) := bl
      have e1 := d1.set (.string (s.extract 0 x.1))
      have e2 := d2.other (B' := w.heap.size + 1) (by omega) (.string (s.extract 0 x.1))
      have el := dl.other (B' := w.heap.size + 1) (by omega) (.string (s.extract 0 x.1))
      have g1 := e1.other (B' := w.heap.size + 2) (by omega) (.string (s.extract (x.1 + 1) s.size))
      have g2 := e2.set (.string (s.extract (x.1 + 1) s.size))
      have gl := el.other (B' := w.heap.size + 2) (by omega) (.string (s.extract (x.1 + 1) s.size))
      have ce2 := e2.cell
      have fe2 := e2.frozen
      have HG : Hid (Boxed ((W.drew.setCell ⟨w.heap.size + 1, 0, none⟩ (.string (s.extract 0 x.1))).setCell ⟨w.heap.size + 2, 0, none⟩ (.string (s.extract (x.1 + 1) s.size))) (w.heap.size + 1) 9 (.string (s.extract 0 x.1)) ∧ Boxed ((W.drew.setCell ⟨w.heap.size + 1, 0, none⟩ (.string (s.extract 0 x.1))).setCell ⟨w.heap.size + 2, 0, none⟩ (.string (s.extract (x.1 + 1) s.size))) (w.heap.size + 2) 9 (.string (s.extract (x.1 + 1) s.size))) := ⟨g1, g2⟩
      have hB1 : Below w.heap.size w ((W.drew.setCell ⟨w.heap.size + 1, 0, none⟩ (.string (s.extract 0 x.1))).setCell ⟨w.heap.size + 2, 0, none⟩ (.string (s.extract (x.1 + 1) s.size))) := ((Below.drew hB).setCell (p := ⟨w.heap.size + 1, 0, none⟩) (by show w.heap.size ≤ w.heap.size + 1; omega) _).setCell (p := ⟨w.heap.size + 2, 0, none⟩) (by show w.heap.size ≤ w.heap.size + 2; omega) _
      refine wpOp_skip (w' := W.drew.setCell ⟨w.heap.size + 1, 0, none⟩ (.string (s.extract 0 x.1))) rfl rfl rfl ?_ ⟨el.cell, ?_⟩
      · go_simp
      refine wpAnyH_all (rs := [8]) (by kernel_rfl) (by simp) (fun i hi => ?_)
      obtain rfl := List.mem_singleton.1 hi
      refine wpOp_skip (w' := (W.drew.setCell ⟨w.heap.size + 1, 0, none⟩ (.string (s.extract 0 x.1))).setCell ⟨w.heap.size + 2, 0, none⟩ (.string (s.extract (x.1 + 1) s.size))) rfl rfl rfl ?_ ⟨gl.cell, wpAnyH_done (by kernel_rfl) ?_ _⟩
      · go_simp
      gi_wp2
      refine ⟨((((KeepsOthers.drew W).trans (KeepsOthers.setCell _ _ _)).trans (KeepsOthers.setCell _ _ _))).from _, ⟨?_, ?_, rfl, HX.out⟩, hB1⟩
      · rw [HV.out]; exact HG.out.1
      · rw [HV.out]; exact HG.out.2
    · have hz : ((x.2 : Int) == 59) = false := by rw [beq_eq_false_iff_ne]; omega
      have HX : Hid (∀ y ∈ pre ++ [x], ¬ y.2 = 59) := fun y hy => by
        rcases List.mem_append.1 hy with h | h
        · exact hall y h
        · rw [List.mem_singleton.1 h]; exact h59
      clear hall h59
      gi_wp2
      exact ⟨(KeepsOthers.refl _).from _, (KeepsOthers.refl _).walks, ⟨bl, b1, b2, HX.out⟩, hB⟩
  case done =>
    rintro W ⟨⟨bl, b1, b2, hall⟩, hB⟩ hK
    have hv : Hid (cutS s = (s, ⟨#[53, 48]⟩)) := by
      show _ = _
      unfold cutS fsc
      rw [List.find?_eq_none.2 (fun x hx => by simpa using hall x hx)]
    rw [hW0s] at hK ⊢
    have cl := bl.cell
    have c1 := b1.cell
    have f1 := b1.frozen
    have e1 := b1.set (.string s)
    have e2 := b2.other (B' := w.heap.size + 1) (by omega) (.string s)
    have el := bl.other (B' := w.heap.size + 1) (by omega) (.string s)
    have c2 := b2.cell
    have f2 := b2.frozen
    have ce2 := e2.cell
    have fe2 := e2.frozen
    have g1 := e1.other (B' := w.heap.size + 2) (by omega) (.string ⟨#[53, 48]⟩)
    have g2 := e2.set (.string ⟨#[53, 48]⟩)
    have hK1 : (W.setCell ⟨w.heap.size + 1, 0, none⟩ (.string s)).heap[w.heap.size + 4]? = some (Obj.deferred (some [])) :=
      ((grownBy_setCell' W (w.heap.size + 1) (.string s)).block (w.heap.size + 4) (Array.getElem?_eq_some_iff.1 hK).1 (fun h => by injection h; omega)).trans hK
    have hK2 : ((W.setCell ⟨w.heap.size + 1, 0, none⟩ (.string s)).setCell ⟨w.heap.size + 2, 0, none⟩ (.string ⟨#[53, 48]⟩)).heap[w.heap.size + 4]? = some (Obj.deferred (some [])) :=
      ((grownBy_setCell' (W.setCell ⟨w.heap.size + 1, 0, none⟩ (.string s)) (w.heap.size + 2) (.string ⟨#[53, 48]⟩)).block (w.heap.size + 4) (Array.getElem?_eq_some_iff.1 hK1).1 (fun h => by injection h; omega)).trans hK1
    have hB2 := (hB.setCell (p := ⟨w.heap.size + 1, 0, none⟩) (by show w.heap.size ≤ w.heap.size + 1; omega) (.string s)).setCell (p := ⟨w.heap.size + 2, 0, none⟩) (by show w.heap.size ≤ w.heap.size + 2; omega) (.string ⟨#[53, 48]⟩)
    gi_wp2
    have r1 : (((W.setCell ⟨w.heap.size + 1, 0, none⟩ (.string s)).setCell ⟨w.heap.size + 2, 0, none⟩ (.string ⟨#[53, 48]⟩)).putObj (w.heap.size + 4) (.deferred none)).cell? ⟨w.heap.size + 1, 0, none⟩ = some (.string s) := by
      have : Boxed (((W.setCell ⟨w.heap.size + 1, 0, none⟩ (.string s)).setCell ⟨w.heap.size + 2, 0, none⟩ (.string ⟨#[53, 48]⟩)).putObj (w.heap.size + 4) (.deferred none)) (w.heap.size + 1) 9 (.string s) := (World.putObj_heap_other (by omega)).trans g1
      exact this.cell
    have r2 : (((W.setCell ⟨w.heap.size + 1, 0, none⟩ (.string s)).setCell ⟨w.heap.size + 2, 0, none⟩ (.string ⟨#[53, 48]⟩)).putObj (w.heap.size + 4) (.deferred none)).cell? ⟨w.heap.size + 2, 0, none⟩ = some (.string ⟨#[53, 48]⟩) := by
      have : Boxed (((W.setCell ⟨w.heap.size + 1, 0, none⟩ (.string s)).setCell ⟨w.heap.size + 2, 0, none⟩ (.string ⟨#[53, 48]⟩)).putObj (w.heap.size + 4) (.deferred none)) (w.heap.size + 2) 9 (.string ⟨#[53, 48]⟩) := (World.putObj_heap_other (by omega)).trans g2
      exact this.cell
    refine ⟨by simp, .inl ⟨_, _, rfl, run_takeDeferred hK2, ?_⟩⟩
    refine ⟨_, results_ss rfl _ _ (w.heap.size + 1) (w.heap.size + 2) _ _ rfl rfl r1 r2, ?_, hB2.trans (belowK_b (w := w) (Nat.le_refl _) _ (w.heap.size + 4) _ _ (by omega) hK2 rfl rfl)⟩
    rw [hv.out]
  case stop =>
    rintro c pre W hp ⟨⟨b1, b2, rfl, pre', x, rfl, hall, hx⟩, hB⟩ hK
    have hv : Hid (cutS s = (s.extract 0 x.1, s.extract (x.1 + 1) s.size)) := by
      obtain ⟨rest, hr⟩ := hp
      show _ = _
      unfold cutS fsc
      rw [← hr, List.append_assoc, List.find?_append, List.find?_eq_none.2 (fun y hy => by simpa using hall y hy), Option.none_or, List.singleton_append, List.find?_cons_of_pos (by simpa using hx)]
    have hlp : lastP (pre' ++ [x]) = x.1 := by simp [lastP]
    rw [hlp] at b1 b2
    rw [hW0s] at hK ⊢
    have c1 : (W.putObj (w.heap.size + 4) (.deferred none)).cell? ⟨w.heap.size + 1, 0, none⟩ = some (.string (s.extract 0 x.1)) := by
      have : Boxed (W.putObj (w.heap.size + 4) (.deferred none)) (w.heap.size + 1) 9 (.string (s.extract 0 x.1)) := (World.putObj_heap_other (by omega)).trans b1
      exact this.cell
    have c2 : (W.putObj (w.heap.size + 4) (.deferred none)).cell? ⟨w.heap.size + 2, 0, none⟩ = some (.string (s.extract (x.1 + 1) s.size)) := by
      have : Boxed (W.putObj (w.heap.size + 4) (.deferred none)) (w.heap.size + 2) 9 (.string (s.extract (x.1 + 1) s.size)) := (World.putObj_heap_other (by omega)).trans b2
      exact this.cell
    gi_wp2
    refine ⟨by simp, .inl ⟨_, _, rfl, run_takeDeferred hK, ?_⟩⟩
    refine ⟨_, results_ss rfl _ _ (w.heap.size + 1) (w.heap.size + 2) _ _ rfl rfl c1 c2, ?_, hB.trans (belowK_b (w := w) (Nat.le_refl _) _ (w.heap.size + 4) _ _ (by omega) hK rfl rfl)⟩
    rw [hv.out]
end Go.Proofs.YtcocbjipikeebaaGreatDoor.Utf
/-
  The program's scoreOf: what a score's text says.
-/
namespace Go.Proofs.YtcocbjipikeebaaGreatDoor.Utf
open Go Go.Lib Go.RowKit Go.Shelf
attribute [local go_sem] Oper.semAt_some

theorem results_ib {fn : Func} {p q : Tmp} (h : fn.results = #[.cell p 3, .cell q 4]) (tmps : Array Value) (w : World) (b1 b2 : Nat) (v1 v2 : Value)
    (hp : tmps.getD p undef = .pointer (some ⟨b1, 0, none⟩)) (hq : tmps.getD q undef = .pointer (some ⟨b2, 0, none⟩)) (h1 : w.cell? ⟨b1, 0, none⟩ = some v1) (h2 : w.cell? ⟨b2, 0, none⟩ = some v2) :
    (results fn tmps).run Tryz.prog w = .ok (.tuple #[v1, v2]) w := by
  have hp' : tmps[p]?.getD undef = .pointer (some ⟨b1, 0, none⟩) := by simpa using hp
  have hq' : tmps[q]?.getD undef = .pointer (some ⟨b2, 0, none⟩) := by simpa using hq
  simp only [results, h]
  simp [hp', hq', asAddr]
  go_simp
def isDg (n : Nat) : Prop := 48 ≤ n ∧ n ≤ 57
instance (n : Nat) : Decidable (isDg n) := inferInstanceAs (Decidable (_ ∧ _))
theorem cls_dg {n : Nat} : cls (n : Int) = 2 ↔ isDg n := by
  constructor
  · intro h
    by_cases hd : isDg n
    · exact hd
    · exfalso
      have hd' : ¬ (48 ≤ (n : Int) ∧ (n : Int) ≤ 57) := fun h => hd ⟨by omega, by omega⟩
      unfold cls at h
      by_cases h1 : isL (n : Int)
      · rw [if_pos h1] at h; cases h
      · rw [if_neg h1, if_neg hd'] at h
        by_cases h2 : isB (n : Int)
        · rw [if_pos h2] at h; cases h
        · rw [if_neg h2] at h
          by_cases h3 : 768 ≤ (n : Int) ∧ (n : Int) ≤ 879
          · rw [if_pos h3] at h; cases h
          · rw [if_neg h3] at h; cases h
  · intro h
    unfold isDg at h
    unfold cls
    have h1 : ¬ isL (n : Int) := fun h => by unfold isL at h; omega
    rw [if_neg h1, if_pos ⟨by omega, by omega⟩]
/-- The number that digits say. -/
def digR (ps : List (Nat × Nat)) : Nat := ps.foldl (fun n x => 10 * n + (x.2 - 48)) 0
theorem digR_snoc (ps : List (Nat × Nat)) (x : Nat × Nat) : digR (ps ++ [x]) = 10 * digR ps + (x.2 - 48) := by unfold digR; rw [List.foldl_append]; rfl
theorem digR_lt : ∀ (n : Nat) (ps : List (Nat × Nat)), ps.length = n → (∀ x ∈ ps, isDg x.2) → digR ps + 1 ≤ 10 ^ n
  | 0, ps, hl, _ => by rw [List.length_eq_zero_iff.1 hl]; decide
  | n + 1, ps, hl, h => by
    have hne : ps ≠ [] := fun e => by rw [e] at hl; cases hl
    have e := List.dropLast_concat_getLast hne
    have ih := digR_lt n ps.dropLast (by rw [List.length_dropLast, hl]; rfl) (fun x hx => h x (List.dropLast_subset _ hx))
    have hd := h _ (List.getLast_mem hne)
    rw [← e, digR_snoc, Nat.pow_succ]
    unfold isDg at hd
    omega
/-- What a score's text says, and whether it says one. -/
def scoreP (s : ByteArray) : Nat × Bool :=
  if (wordsP s).length = 1 then
    (if 3 < ((wordsT s).headD ⟨#[]⟩).size then (0, false)
     else if ∀ x ∈ pairs ((wordsT s).headD ⟨#[]⟩), isDg x.2 then (digR (pairs ((wordsT s).headD ⟨#[]⟩)), decide (digR (pairs ((wordsT s).headD ⟨#[]⟩)) ≤ 100))
     else (0, false))
  else (0, false)
def StopD (ps : List (Nat × Nat)) : Prop := ∃ pre' x, ps = pre' ++ [x] ∧ ¬ isDg x.2

set_option maxRecDepth 100000 in
set_option maxHeartbeats 2000000 in
theorem scoreOf_any (s : ByteArray) (w : World) (hs : s.size ≤ 16777216) :
    Calls Tryz.prog 74 #[.string s] w fun e W' => e = .returned (.tuple #[.int .i64 ((scoreP s).1 : Nat), .bool (scoreP s).2]) ∧ Below w.heap.size w W' := by
  refine (callsIn_wide (n := 3)).1 ?_
  have hro : Fence.wide.round = none := rfl
  refine callsIn_of_wp_marks Tryz.func74 rfl trivial ?_ hro
  simp only [Tryz.ntmps74, List.size_toArray, List.length_cons, List.length_nil, Nat.reduceAdd, Nat.reduceSub, Array.replicate_succ, Array.replicate_zero, List.push_toArray, List.append_toArray, List.nil_append, List.cons_append]
  gi_wp2_with fail
  have cW := words_any s ((w.alloc (.cells #[.int .i64 0] 3)).alloc (.cells #[.bool false] 4)) hs
  have bR := (Boxed.new w 3 (.int .i64 0)).alloc (.cells #[.bool false] 4)
  have bO := Boxed.new (w.alloc (.cells #[.int .i64 0] 3)) 4 (.bool false)
  rw [World.size_alloc] at bO
  have hB0 : Below w.heap.size w ((w.alloc (.cells #[.int .i64 0] 3)).alloc (.cells #[.bool false] 4)) := ((Below.refl _ w).alloc (Nat.le_refl _) _).alloc (by simp) _
  refine ⟨trivial, (callsIn_wide.2 cW).mono ?_⟩
  rintro e w1 ⟨v, rfl, hown, hb1⟩
  have hBw : Below w.heap.size w w1 := hB0.trans (hb1.mono (by simp; omega))
  have bR1 : Boxed w1 w.heap.size 3 (.int .i64 0) := (hb1.block w.heap.size (by simp; omega)).trans bR
  have bO1 : Boxed w1 (w.heap.size + 1) 4 (.bool false) := (hb1.block (w.heap.size + 1) (by simp)).trans bO
  obtain ⟨ao, cap, rfl, hRd⟩ := row_reads hown
  have cr := bR1.cell
  have fr := bR1.frozen
  have co := bO1.cell
  have fo := bO1.frozen
  have r1 := bR1.set (.int .i64 0)
  have ro1 := bO1.other (B' := w.heap.size) (by omega) (.int .i64 0)
  have cro := ro1.cell
  have fro := ro1.frozen
  clear cW bR bO hb1 hown hB0
  have hwl : (wordsT s).length = (wordsP s).length := wtx_length _ _
  by_cases h1 : (wordsP s).length = 1
  · obtain ⟨s0, hs0⟩ : ∃ s0, wordsT s = [s0] := List.length_eq_one_iff.1 (hwl.trans h1)
    have hH : (wordsT s).headD ⟨#[]⟩ = s0 := by rw [hs0]; rfl
    rw [hs0] at hRd
    obtain ⟨ga, rfl, hga, ea⟩ := hRd 0 (by simp)
    replace ea : w1.cell? ⟨ga, 0, none⟩ = some (.string s0) := ea
    have HS : Hid (scoreP s = if 3 < s0.size then (0, false) else if ∀ x ∈ pairs s0, isDg x.2 then (digR (pairs s0), decide (digR (pairs s0) ≤ 100)) else (0, false)) := by
      show _ = _
      unfold scoreP
      rw [if_pos h1, hH]
    rw [h1]
    have ea2 : (w1.alloc (.cells #[.int .i64 0] 3)).cell? ⟨ga, 0, none⟩ = some (.string s0) := (((Below.refl _ w1).alloc (Nat.le_refl _) _).cell (p := ⟨ga, 0, none⟩) hga).trans ea
    clear hRd hs0 hH hwl h1 hga
    by_cases h3 : 3 < s0.size
    · have hv : Hid (scoreP s = (0, false)) := by show _ = _; rw [HS.out, if_pos h3]
      have h3z : ((3 : Int) < (s0.size : Int)) := by omega
      clear HS h3
      gi_wp2
      refine ⟨_, results_ib rfl _ _ w.heap.size (w.heap.size + 1) (.int .i64 0) (.bool false) rfl rfl (r1.other (B' := w.heap.size + 1) (by omega) (.bool false)).cell (ro1.set _).cell, by rw [hv.out]; rfl, (hBw.setCell (p := ⟨w.heap.size, 0, none⟩) (Nat.le_refl _) _).setCell (p := ⟨w.heap.size + 1, 0, none⟩) (by show w.heap.size ≤ w.heap.size + 1; omega) _⟩
    · have h3z : ¬ ((3 : Int) < (s0.size : Int)) := by omega
      rw [if_neg h3] at HS
      have hlen : (pairs s0).length ≤ 3 := by have := pairs_le s0; omega
      gi_wp2_with (refine ⟨trivial, ?_⟩; gi_at_call 57; refine (all_in Fence.wide _ trivial hro _ _).mono ?_; rintro e w' ⟨rfl, rfl⟩)
      obtain ⟨W0, hW0⟩ : ∃ W0, ((w1.alloc (.cells #[.int .i64 0] 3)).alloc (.cells #[.string s0] 9)) = W0 := ⟨_, rfl⟩
      have hsz : w.heap.size + 2 ≤ w1.heap.size := by have := bO1.lt; omega
      have bR2 : Boxed W0 w.heap.size 3 (.int .i64 0) := by rw [← hW0]; exact (bR1.alloc _).alloc _
      have bO2 : Boxed W0 (w.heap.size + 1) 4 (.bool false) := by rw [← hW0]; exact (bO1.alloc _).alloc _
      have bN : Boxed W0 w1.heap.size 3 (.int .i64 0) := by rw [← hW0]; exact (Boxed.new w1 3 (.int .i64 0)).alloc _
      have bS : Boxed W0 (w1.heap.size + 1) 9 (.string s0) := by rw [← hW0]; have := Boxed.new (w1.alloc (.cells #[.int .i64 0] 3)) 9 (.string s0); rw [World.size_alloc] at this; exact this
      have hW0s : W0.heap.size = w1.heap.size + 2 := by rw [← hW0]; simp
      have hB0 : Below w.heap.size w W0 := by rw [← hW0]; exact (hBw.alloc (by omega) _).alloc (by simp; omega) _
      rw [hW0]
      clear hW0 cr fr co fo r1 ro1 cro fro bR1 bO1 hBw ea ea2
      refine wpIn_rangeTells (by omega) (gf := 86) (lb := #[.pointer (some ⟨w1.heap.size + 1, 0, none⟩)]) rfl (enters_of Tryz.func86 (by kernel_rfl) rfl)
        (all_tells _ (by omega) (w1.heap.size + 1) s0 W0 bS.lt bS.cell) walksK_t walksK_b (Below.refl _ _) (fun _ => rfl)
        (fun pre W => (Boxed W w.heap.size 3 (.int .i64 0) ∧ (Boxed W (w.heap.size + 1) 4 (.bool false) ∧ (Boxed W w1.heap.size 3 (.int .i64 (digR pre : Nat)) ∧ (∀ x ∈ pre, isDg x.2)))) ∧ Below w.heap.size w W)
        (fun c pre W => (Boxed W w.heap.size 3 (.int .i64 0) ∧ (Boxed W (w.heap.size + 1) 4 (.bool false) ∧ (c = .ret ∧ StopD pre))) ∧ Below w.heap.size w W)
        (OwnFrom.and (OwnFrom.and (Own.from (boxed_own w.heap.size 3 (fun _ : List (Nat × Nat) => .int .i64 0)) _) (OwnFrom.and (Own.from (boxed_own (w.heap.size + 1) 4 (fun _ : List (Nat × Nat) => .bool false)) _) (OwnFrom.and (Own.from (boxed_own w1.heap.size 3 (fun pre : List (Nat × Nat) => .int .i64 (digR pre : Nat))) _) (ownFrom_pure _ _)))) (ownFrom_below (Nat.le_refl _) (by omega)))
        (fun c => OwnFrom.and (OwnFrom.and (Own.from (boxed_own w.heap.size 3 (fun _ : List (Nat × Nat) => .int .i64 0)) _) (OwnFrom.and (Own.from (boxed_own (w.heap.size + 1) 4 (fun _ : List (Nat × Nat) => .bool false)) _) (ownFrom_pure _ _))) (ownFrom_below (Nat.le_refl _) (by omega)))
        ⟨⟨bR2, bO2, bN, fun _ h => by cases h⟩, hB0⟩ ?round ?done ?stop
      case round =>
        rintro l pre x post W1 W hfull ⟨⟨br, bo, bn, hall⟩, hB⟩
        have cr := br.cell
        have fr := br.frozen
        have co := bo.cell
        have fo := bo.frozen
        have cn := bn.cell
        have fn := bn.frozen
        have hpl : pre.length ≤ 2 := by rw [hfull] at hlen; simp at hlen; omega
        have hdr : digR pre + 1 ≤ 10 ^ 2 := Nat.le_trans (digR_lt pre.length pre rfl hall) (Nat.pow_le_pow_right (by decide) hpl)
        have cC := fun W => class_any (x.2 : Int) W
        clear hpl
        gi_wp2
        refine ⟨by first | trivial | rfl, ?_⟩
        by_cases hd : isDg x.2
        · rw [cls_dg.2 hd] at cC
          have HX : Hid (∀ y ∈ pre ++ [x], isDg y.2) := fun y hy => by
            rcases List.mem_append.1 hy with h | h
            · exact hall y h
            · rw [List.mem_singleton.1 h]; exact hd
          have HV : Hid (digR (pre ++ [x]) = 10 * digR pre + (x.2 - 48)) := digR_snoc pre x
          have hd1 : 48 ≤ x.2 := hd.1
          have hd2 : x.2 ≤ 57 := hd.2
          clear hall hd
          generalize digR pre = N at *
          gi_wp2_with (refine ⟨trivial, ?_⟩; gi_at_call 58; refine (CallsIn.inRound l (callsIn_wide.2 (cC _))).mono ?_; rintro e w' ⟨rfl, rfl⟩)
          refine ⟨(KeepsOthers.setCell _ _ _).from _, (KeepsOthers.setCell _ _ _).walks, ⟨br.other (B' := w1.heap.size) (by omega) _, bo.other (B' := w1.heap.size) (by omega) _, ?_, HX.out⟩, hB.setCell (p := ⟨w1.heap.size, 0, none⟩) (by show w.heap.size ≤ w1.heap.size; omega) _⟩
          rw [HV.out]
          have := bn.set (.int .i64 (10 * (N : Int) + ((x.2 : Int) - 48)))
          rw [show ((10 * N + (x.2 - 48) : Nat) : Int) = 10 * (N : Int) + ((x.2 : Int) - 48) by omega]
          exact this
        · have hq : (cls (x.2 : Int) == 2) = false := by rw [beq_eq_false_iff_ne]; exact fun h => hd (cls_dg.1 h)
          have hq2 : (cls (x.2 : Int) != 2) = true := by rw [bne, hq]; rfl
          have HX : Hid (StopD (pre ++ [x])) := ⟨pre, x, rfl, hd⟩
          have r1 := br.set (.int .i64 0)
          have ro1 := bo.other (B' := w.heap.size) (by omega) (.int .i64 0)
          have cro := ro1.cell
          have fro := ro1.frozen
          clear hall hd
          generalize cls (x.2 : Int) = C at *
          gi_wp2_with (refine ⟨trivial, ?_⟩; gi_at_call 58; refine (CallsIn.inRound l (callsIn_wide.2 (cC _))).mono ?_; rintro e w' ⟨rfl, rfl⟩)
          exact ⟨((KeepsOthers.setCell _ _ _).trans (KeepsOthers.setCell _ _ _)).from _, ⟨r1.other (B' := w.heap.size + 1) (by omega) (.bool false), ro1.set _, rfl, HX.out⟩, (hB.setCell (p := ⟨w.heap.size, 0, none⟩) (Nat.le_refl _) _).setCell (p := ⟨w.heap.size + 1, 0, none⟩) (by show w.heap.size ≤ w.heap.size + 1; omega) _⟩
      case done =>
        rintro W ⟨⟨br, bo, bn, hall⟩, hB⟩ hK
        have hv : Hid (scoreP s = (digR (pairs s0), decide (digR (pairs s0) ≤ 100))) := by show _ = _; rw [HS.out, if_pos hall]
        clear HS hall
        rw [hW0s] at hK ⊢
        generalize digR (pairs s0) = N at *
        have hdec : decide ((N : Int) ≤ 100) = decide (N ≤ 100) := by
          by_cases h : N ≤ 100
          · rw [decide_eq_true h, decide_eq_true (show (N : Int) ≤ 100 by omega)]
          · rw [decide_eq_false h, decide_eq_false (show ¬ (N : Int) ≤ 100 by omega)]
        have cn := bn.cell
        have fn := bn.frozen
        have cr := br.cell
        have fr := br.frozen
        have co := bo.cell
        have fo := bo.frozen
        have r1 := br.set (.int .i64 (N : Int))
        have o1 := bo.other (B' := w.heap.size) (by omega) (.int .i64 (N : Int))
        have n1 := bn.other (B' := w.heap.size) (by omega) (.int .i64 (N : Int))
        have co1 := o1.cell
        have fo1 := o1.frozen
        have cn1 := n1.cell
        have fn1 := n1.frozen
        gi_wp2
        gi_big_region
        have hK1 : (W.setCell ⟨w.heap.size, 0, none⟩ (.int .i64 (N : Int))).heap[w1.heap.size + 2]? = some (Obj.deferred (some [])) :=
          ((grownBy_setCell' W w.heap.size (.int .i64 (N : Int))).block (w1.heap.size + 2) (Array.getElem?_eq_some_iff.1 hK).1 (fun h => by injection h; omega)).trans hK
        have hK2 : (((W.setCell ⟨w.heap.size, 0, none⟩ (.int .i64 (N : Int))).setCell ⟨w.heap.size + 1, 0, none⟩ (.bool (decide (N ≤ 100)))).drew).heap[w1.heap.size + 2]? = some (Obj.deferred (some [])) :=
          ((grownBy_setCell' (W.setCell ⟨w.heap.size, 0, none⟩ (.int .i64 (N : Int))) (w.heap.size + 1) (.bool (decide (N ≤ 100)))).block (w1.heap.size + 2) (Array.getElem?_eq_some_iff.1 hK1).1 (fun h => by injection h; omega)).trans hK1
        have hB2 := Below.drew ((hB.setCell (p := ⟨w.heap.size, 0, none⟩) (Nat.le_refl _) (.int .i64 (N : Int))).setCell (p := ⟨w.heap.size + 1, 0, none⟩) (by show w.heap.size ≤ w.heap.size + 1; omega) (.bool (decide (N ≤ 100))))
        have g1 : Boxed (((W.setCell ⟨w.heap.size, 0, none⟩ (.int .i64 (N : Int))).setCell ⟨w.heap.size + 1, 0, none⟩ (.bool (decide (N ≤ 100)))).drew) w.heap.size 3 (.int .i64 (N : Int)) := r1.other (B' := w.heap.size + 1) (by omega) (.bool (decide (N ≤ 100)))
        have g2 : Boxed (((W.setCell ⟨w.heap.size, 0, none⟩ (.int .i64 (N : Int))).setCell ⟨w.heap.size + 1, 0, none⟩ (.bool (decide (N ≤ 100)))).drew) (w.heap.size + 1) 4 (.bool (decide (N ≤ 100))) := o1.set _
        generalize (((W.setCell ⟨w.heap.size, 0, none⟩ (.int .i64 (N : Int))).setCell ⟨w.heap.size + 1, 0, none⟩ (.bool (decide (N ≤ 100)))).drew) = WE at *
        have c1 : (WE.putObj (w1.heap.size + 2) (.deferred none)).cell? ⟨w.heap.size, 0, none⟩ = some (.int .i64 (N : Int)) := by
          have : Boxed (WE.putObj (w1.heap.size + 2) (.deferred none)) w.heap.size 3 (.int .i64 (N : Int)) := (World.putObj_heap_other (by omega)).trans g1
          exact this.cell
        have c2 : (WE.putObj (w1.heap.size + 2) (.deferred none)).cell? ⟨w.heap.size + 1, 0, none⟩ = some (.bool (decide (N ≤ 100))) := by
          have : Boxed (WE.putObj (w1.heap.size + 2) (.deferred none)) (w.heap.size + 1) 4 (.bool (decide (N ≤ 100))) := (World.putObj_heap_other (by omega)).trans g2
          exact this.cell
        clear hK1 hK cn fn cr fr co fo r1 o1 n1 co1 fo1 cn1 fn1
        gi_wp2
        refine ⟨by simp, .inl ⟨_, _, rfl, run_takeDeferred hK2, ?_⟩⟩
        refine ⟨_, results_ib rfl _ _ w.heap.size (w.heap.size + 1) _ _ rfl rfl c1 c2, ?_, hB2.trans (belowK_b (w := w) (Nat.le_refl _) _ (w1.heap.size + 2) _ _ (by omega) hK2 rfl rfl)⟩
        rw [hv.out]
      case stop =>
        rintro c pre W hp ⟨⟨br, bo, rfl, pre', x, rfl, hx⟩, hB⟩ hK
        have hv : Hid (scoreP s = (0, false)) := by
          obtain ⟨rest, hr⟩ := hp
          show _ = _
          rw [HS.out, if_neg (fun h => hx (h x (by rw [← hr]; simp)))]
        clear HS
        rw [hW0s] at hK ⊢
        have c1 : (W.putObj (w1.heap.size + 2) (.deferred none)).cell? ⟨w.heap.size, 0, none⟩ = some (.int .i64 0) := by
          have : Boxed (W.putObj (w1.heap.size + 2) (.deferred none)) w.heap.size 3 (.int .i64 0) := (World.putObj_heap_other (by omega)).trans br
          exact this.cell
        have c2 : (W.putObj (w1.heap.size + 2) (.deferred none)).cell? ⟨w.heap.size + 1, 0, none⟩ = some (.bool false) := by
          have : Boxed (W.putObj (w1.heap.size + 2) (.deferred none)) (w.heap.size + 1) 4 (.bool false) := (World.putObj_heap_other (by omega)).trans bo
          exact this.cell
        gi_wp2
        refine ⟨by simp, .inl ⟨_, _, rfl, run_takeDeferred hK, ?_⟩⟩
        refine ⟨_, results_ib rfl _ _ w.heap.size (w.heap.size + 1) _ _ rfl rfl c1 c2, ?_, hB.trans (belowK_b (w := w) (Nat.le_refl _) _ (w1.heap.size + 2) _ _ (by omega) hK rfl rfl)⟩
        rw [hv.out]; rfl
  · have hv : Hid (scoreP s = (0, false)) := by show _ = _; unfold scoreP; rw [if_neg h1]
    have hz : (((wordsP s).length : Int) == 1) = false := by rw [beq_eq_false_iff_ne]; omega
    have hz2 : (((wordsP s).length : Int) != 1) = true := by rw [bne, hz]; rfl
    generalize (wordsP s).length = n at *
    gi_wp2
    exact ⟨_, results_ib rfl _ _ w.heap.size (w.heap.size + 1) (.int .i64 0) (.bool false) rfl rfl (r1.other (B' := w.heap.size + 1) (by omega) (.bool false)).cell (ro1.set _).cell, by rw [hv.out]; rfl, (hBw.setCell (p := ⟨w.heap.size, 0, none⟩) (Nat.le_refl _) _).setCell (p := ⟨w.heap.size + 1, 0, none⟩) (by show w.heap.size ≤ w.heap.size + 1; omega) _⟩
end Go.Proofs.YtcocbjipikeebaaGreatDoor.Utf
/-
  The program's saysNothing: whether a line is of blanks alone, or its first other rune is the remark's sign.
-/
namespace Go.Proofs.YtcocbjipikeebaaGreatDoor.Utf
open Go Go.Lib Go.RowKit Go.Shelf
attribute [local go_sem] Oper.semAt_some

/-- The first rune that is no blank. -/
def fnb (ps : List (Nat × Nat)) : Option (Nat × Nat) := ps.find? fun x => decide (¬ isB (x.2 : Int))
/-- Does a line with these runes say nothing? -/
def sayN (ps : List (Nat × Nat)) : Bool := match fnb ps with | none => true | some x => x.2 == 35

/-- All but the last rune are blanks. -/
def StopR (ps : List (Nat × Nat)) : Prop := ∃ pre' x, ps = pre' ++ [x] ∧ (∀ y ∈ pre', isB (y.2 : Int)) ∧ ¬ isB (x.2 : Int)
/-- Is the last rune the remark's sign? -/
def lastR (ps : List (Nat × Nat)) : Bool := match ps.getLast? with | some x => x.2 == 35 | none => false

set_option maxRecDepth 100000 in
set_option maxHeartbeats 2000000 in
theorem saysNothing_any (s : ByteArray) (w : World) :
    Calls Tryz.prog 41 #[.string s] w fun e W' => e = .returned (.bool (sayN (pairs s))) ∧ Below w.heap.size w W' := by
  refine (callsIn_wide (n := 3)).1 ?_
  have hro : Fence.wide.round = none := rfl
  refine callsIn_of_wp_marks Tryz.func41 rfl trivial ?_ hro
  simp only [Tryz.ntmps41, List.size_toArray, List.length_cons, List.length_nil, Nat.reduceAdd, Nat.reduceSub, Array.replicate_succ, Array.replicate_zero, List.push_toArray, List.append_toArray, List.nil_append, List.cons_append]
  gi_wp2_with (refine ⟨trivial, ?_⟩; gi_at_call 57; refine (all_in Fence.wide _ trivial hro _ _).mono ?_; rintro e w' ⟨rfl, rfl⟩)
  have bS := Boxed.new (w.alloc (.cells #[.bool false] 4)) 9 (.string s)
  have bR := (Boxed.new w 4 (.bool false)).alloc (.cells #[.string s] 9)
  simp only [World.size_alloc] at bS bR
  have hB0 : Below w.heap.size w ((w.alloc (.cells #[.bool false] 4)).alloc (.cells #[.string s] 9)) := ((Below.refl _ w).alloc (Nat.le_refl _) _).alloc (by simp) _
  obtain ⟨W0, hW0⟩ : ∃ W0, ((w.alloc (.cells #[.bool false] 4)).alloc (.cells #[.string s] 9)) = W0 := ⟨_, rfl⟩
  have hW0s : W0.heap.size = w.heap.size + 2 := by rw [← hW0]; simp
  rw [hW0] at bS bR hB0 ⊢
  clear hW0
  refine wpIn_rangeFunc_ownG hro (by omega) (gf := 86) (lb := #[.pointer (some ⟨w.heap.size + 1, 0, none⟩)]) rfl trivial (enters_of Tryz.func86 (by kernel_rfl) rfl)
    (all_stops Fence.wide _ trivial hro (by omega) (w.heap.size + 1) s W0 bS.lt bS.cell) walksK_t walksK_b (Below.refl _ _) (fun _ => rfl)
    (fun pre W => (Boxed W w.heap.size 4 (.bool false) ∧ (∀ x ∈ pre, isB (x.2 : Int))) ∧ Below w.heap.size w W)
    (fun c pre W => (Boxed W w.heap.size 4 (.bool (lastR pre)) ∧ (c = .ret ∧ StopR pre)) ∧ Below w.heap.size w W)
    (OwnFrom.and (OwnFrom.and (Own.from (boxed_own w.heap.size 4 (fun _ : List (Nat × Nat) => .bool false)) _) (ownFrom_pure _ _)) (ownFrom_below (Nat.le_refl _) (by omega)))
    (fun c => OwnFrom.and (OwnFrom.and (Own.from (boxed_own w.heap.size 4 (fun pre : List (Nat × Nat) => .bool (lastR pre))) _) (ownFrom_pure _ _)) (ownFrom_below (Nat.le_refl _) (by omega)))
    ⟨⟨bR, fun _ h => by cases h⟩, hB0⟩
    (fun x => { tmps := #[.string s, undef, .pointer (some ⟨w.heap.size, 0, none⟩), undef, .int .i32 (x.2 : Int), .string s, .func (.func 86) #[] #[.pointer (some ⟨w.heap.size + 1, 0, none⟩)], .int .i64 (x.1 : Int), .int .i32 (x.2 : Int), undef, undef, undef, undef, undef], defers := [] }) ?assign ?body ?done ?stop
  case assign =>
    intro l x W K hK
    gi_wp2
    exact hK
  case body =>
    rintro l pre x W ⟨⟨br, hall⟩, hB⟩ _
    have cr := br.cell
    have fr := br.frozen
    have cC := fun W => class_any (x.2 : Int) W
    by_cases hb : isB (x.2 : Int)
    · rw [cls_3.2 hb] at cC
      have HX : Hid (∀ y ∈ pre ++ [x], isB (y.2 : Int)) := fun y hy => by
        rcases List.mem_append.1 hy with h | h
        · exact hall y h
        · rw [List.mem_singleton.1 h]; exact hb
      clear hall hb
      gi_wp2_with (refine ⟨trivial, ?_⟩; gi_at_call 58; refine (CallsIn.inRound l (callsIn_wide.2 (cC _))).mono ?_; rintro e w' ⟨rfl, rfl⟩)
      exact ⟨(KeepsOthers.refl _).from _, (KeepsOthers.refl _).walks, ⟨br, HX.out⟩, hB⟩
    · have hq : (cls (x.2 : Int) == 3) = false := by rw [beq_eq_false_iff_ne]; exact fun h => hb (cls_3.1 h)
      have hq2 : (cls (x.2 : Int) != 3) = true := by rw [bne, hq]; rfl
      have HX : Hid (StopR (pre ++ [x])) := ⟨pre, x, rfl, hall, hb⟩
      have HV : Hid (lastR (pre ++ [x]) = (x.2 == 35)) := by show _ = _; simp [lastR]
      have h35 : ((x.2 : Int) == 35) = (x.2 == 35) := by
        by_cases e : x.2 = 35
        · rw [e]; rfl
        · rw [beq_eq_false_iff_ne.2 e, beq_eq_false_iff_ne]; omega
      clear hall hb
      generalize cls (x.2 : Int) = C at *
      gi_wp2_with (refine ⟨trivial, ?_⟩; gi_at_call 58; refine (CallsIn.inRound l (callsIn_wide.2 (cC _))).mono ?_; rintro e w' ⟨rfl, rfl⟩)
      refine ⟨(KeepsOthers.setCell _ _ _).from _, ⟨by rw [HV.out]; exact br.set _, rfl, HX.out⟩, hB.setCell (p := ⟨w.heap.size, 0, none⟩) (Nat.le_refl _) _⟩
  case done =>
    rintro D ys W hD rfl ⟨⟨br, hall⟩, hB⟩ hK
    have fr := br.frozen
    have cr := br.cell
    have hv : Hid (sayN (pairs s) = true) := by
      show _ = _
      unfold sayN fnb
      rw [List.find?_eq_none.2 (fun x hx => by simpa using hall x hx)]
    have hRz : ∀ v, ((W.setCell ⟨w.heap.size, 0, none⟩ v).putObj D (.deferred none)).cell? ⟨w.heap.size, 0, none⟩ = some v := fun v => by
      have : Boxed ((W.setCell ⟨w.heap.size, 0, none⟩ v).putObj D (.deferred none)) w.heap.size 4 v := (World.putObj_heap_other (by omega)).trans (br.set v)
      exact this.cell
    have hK2 : ∀ v, (W.setCell ⟨w.heap.size, 0, none⟩ v).heap[D]? = some (Obj.deferred (some [])) := fun v =>
      ((grownBy_setCell' W w.heap.size v).block D (Array.getElem?_eq_some_iff.1 hK).1 (fun h => by injection h; omega)).trans hK
    have hB2 := fun v => hB.setCell (p := ⟨w.heap.size, 0, none⟩) (Nat.le_refl _) v
    gi_wp2
    refine ⟨by simp, .inl ⟨_, _, rfl, run_takeDeferred (hK2 _), ?_⟩⟩
    refine ⟨_, results_box4 rfl _ _ w.heap.size _ (by rfl) (hRz _), ?_, (hB2 _).trans (belowK_b (w := w) (Nat.le_refl _) _ D _ _ (by omega) (hK2 _) rfl rfl)⟩
    rw [hv.out]
  case stop =>
    rintro D c pre W hD hp ⟨⟨br, rfl, pre', x, rfl, hall, hx⟩, hB⟩ hK
    have hv : Hid (sayN (pairs s) = lastR (pre' ++ [x])) := by
      obtain ⟨rest, hr⟩ := hp
      show _ = _
      unfold sayN fnb
      rw [← hr, List.append_assoc, List.find?_append, List.find?_eq_none.2 (fun y hy => by simpa using hall y hy), Option.none_or, List.singleton_append, List.find?_cons_of_pos (by simpa using hx)]
      simp [lastR]
    generalize lastR (pre' ++ [x]) = v at *
    have hRz : (W.putObj D (.deferred none)).cell? ⟨w.heap.size, 0, none⟩ = some (.bool v) := by
      have : Boxed (W.putObj D (.deferred none)) w.heap.size 4 (.bool v) := (World.putObj_heap_other (by omega)).trans br
      exact this.cell
    gi_wp2
    refine ⟨by simp, .inl ⟨_, _, rfl, run_takeDeferred hK, ?_⟩⟩
    refine ⟨_, results_box4 rfl _ _ w.heap.size _ (by rfl) hRz, ?_, hB.trans (belowK_b (w := w) (Nat.le_refl _) _ D _ _ (by omega) hK rfl rfl)⟩
    rw [hv.out]
end Go.Proofs.YtcocbjipikeebaaGreatDoor.Utf
