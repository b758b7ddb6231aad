/-
  Of no program: a region that draws within a round of a loop over a function, by the rules of a region that stands free.
-/
import Derived.Test.YtcocbjipikeebaaDoorProg
import Derived.OrdersHeld
import Derived.OrdersIn
import Derived.RangeFuncCalls
import Derived.Deep.RegionHeldLaw
import Derived.KernelRfl
import Derived.Test.YtcocbjipikeebaaDoorSeqq
import Derived.Test.YtcocbjipikeebaaDoorNamq
import Derived.Test.YtcocbjipikeebaaDoorKnoq
import Derived.Test.YtcocbjipikeebaaDoorGwr
import Derived.Test.YtcocbjipikeebaaDoorNwmq
import Derived.Test.YtcocbjipikeebaaDoorFldwq
import Derived.Test.YtcocbjipikeebaaDoorGutf
namespace Go.Proofs.YtcocbjipikeebaaDoor.Utf
open Go

def noDefer (ops : Array Oper) : Bool := ops.all fun o => match o.op with | .defer _ => false | _ => true
theorem noDefer_at {ops : Array Oper} (h : noDefer ops = true) {i : Nat} {o : Oper} (ho : ops[i]? = some o) : ∀ c, o.op ≠ .defer c := by
  intro c e
  unfold noDefer at h
  rw [Array.all_eq_true] at h
  obtain ⟨hi, rfl⟩ := Array.getElem?_eq_some_iff.1 ho
  have := h i hi
  rw [e] at this
  cases this
section
variable {l n : Nat} {P : Program} {ops : Array Oper} {Q : Exit → Act → World → Prop} {md : Region.Mode}
theorem rows_wide {row : String} {args : Array Value} {w : World} {R : Value → World → Prop} (h : Rows P row args w R) : RowsIn (Fence.wide.inRound l) n P row args w R :=
  fun c cs _ => let ⟨v, w', r, s⟩ := h c cs; ⟨v, w', r, stepsIn_wide.2 s⟩
theorem wpOpIn_round (hd : noDefer ops = true) (hL : ¬ LetsOut Q) {i : Nat} {K : Act → World → Prop} {a : Act} {w : World} (h : wpOp P ops Q i K a w) : wpOpIn (Fence.wide.inRound l) n P ops Q i K a w := by
  unfold wpOp at h
  unfold wpOpIn
  cases ho : ops[i]? with
  | none => simp only [ho] at h; exact h
  | some o =>
    simp only [ho] at h ⊢
    by_cases hw : Region.wanted o (yielded ops a.tmps) = true
    · rw [if_pos hw] at h ⊢
      rcases h with h | ⟨_, h⟩
      · unfold Oper.wp at h
        unfold Oper.wpIn
        refine ⟨fun _ _ => trivial, ?_⟩
        rw [Oper.semAt_eq _ _ _ (noDefer_at hd ho)]
        generalize (execOp a.eval o).run P w = r at *
        cases r with
        | ok x w' =>
          cases x <;> first
            | exact h
            | exact ⟨fun hh => by simp [Fence.wide] at hh, CallsIn.inRound l (callsIn_wide.2 h)⟩
            | exact ⟨fun hh => by simp [Fence.wide] at hh, rows_wide h⟩
            | exact h.elim
        | halt x w' => cases x <;> first | exact h | exact h.elim
      · exact absurd h hL
    · rw [if_neg hw] at h ⊢
      exact ⟨fun _ _ => trivial, h⟩
theorem wpAnyIn_round (hd : noDefer ops = true) (hL : ¬ LetsOut Q) : ∀ (fuel : Nat) (listed : Array Bool) (a : Act) (w : World), wpAny P md ops Q fuel listed a w → wpAnyIn (Fence.wide.inRound l) n P md ops Q fuel listed a w
  | 0, _, _, _, h => h
  | fuel + 1, _, _, _, h => ⟨h.1, fun i hi => wpOpIn_mono (fun a' w' h' => wpAnyIn_round hd hL fuel _ a' w' h') (wpOpIn_round hd hL (h.2 i hi))⟩
/-- A REGION THAT DRAWS, IN A ROUND. -/
theorem wpIn_region_round {S : World → Prop} {id : Nat} {a : Act} {w : World} (hm : P.follows .mixedOrders = true) (hd : noDefer ops = true) (hL : ¬ LetsOut Q)
    (h : wpAnyH P .any ops Q S ops.size (Array.replicate ops.size false) a { w with drawn := w.drawn + 1 }) : (Code.region id ops true).wpIn (Fence.wide.inRound l) n P Q a w :=
  wpIn_region_any hm (wpAnyIn_round hd hL _ _ _ _ (wpAny_of_held _ _ _ _ h))
end
theorem takeD {P : Program} {ops : Array Oper} {Q : Exit → Act → World → Prop} {md : Region.Mode} {S : World → Prop} {i d : Nat} {v : Value} {fuel : Nat} {listed : Array Bool} {a : Act} {w : World} (hd : (ops[i]?).map (fun o => o.dst) = some (some d))
    (hs : Region.noSelect ops = true) (hf : Region.free md ops listed i = true) (hr : (Region.ready md ops listed).contains i = true)
    (hQ : ∀ c a w, Q (.panic c) (a.put (some d) v) w → Q (.panic c) a w) (hy : ∀ oi, ops[i]? = some oi → YieldsIf P ops S oi v a) (hS : S w)
    (h : wpAnyH P md ops Q S fuel (listed.setIfInBounds i true) (a.put (some d) v) w) : wpAnyH P md ops Q S (fuel + 1) listed a w := by
  cases ho : ops[i]? with
  | none => rw [ho] at hd; cases hd
  | some oi =>
    rw [ho] at hd
    have e : oi.dst = some d := by simpa using hd
    exact wpAnyH_take ho hs hf hr (by rw [e]; exact hQ) (hy oi ho) hS (by rw [e]; exact h)
theorem yields_now {P : Program} {ops : Array Oper} {S : World → Prop} {o oi : Oper} {v : Value} {a : Act} (ho : some o = some oi) (hw : Region.wanted o (yielded ops a.tmps) = true) (h : ∀ w, S w → (execOp a.eval o).run P w = .ok (.value v) w) : YieldsIf P ops S oi v a := by
  obtain rfl := Option.some.inj ho
  exact Or.inl ⟨hw, h⟩

theorem wpOp_wp {P : Program} {ops : Array Oper} {Q : Exit → Act → World → Prop} {i : Nat} {o : Oper} {K : Act → World → Prop} {a : Act} {w : World} (q : ops[i]? = some o) (g : o.guard = none) (h : o.wp P a w K Q) : wpOp P ops Q i K a w := by
  have hw : Region.wanted o (yielded ops a.tmps) = true := by simp [Region.wanted, g]
  unfold wpOp
  simp only [q]
  rw [if_pos hw]
  exact .inl h
theorem wpOp_val {P : Program} {ops : Array Oper} {Q : Exit → Act → World → Prop} {i : Nat} {o : Oper} {K : Act → World → Prop} {a : Act} {w w' : World} {v : Value} (q : ops[i]? = some o) (g : o.guard = none) (h : (execOp a.eval o).run P w = .ok (.value v) w') (hK : K (a.put o.dst v) w') : wpOp P ops Q i K a w := by
  refine wpOp_wp q g ?_
  unfold Oper.wp
  rw [h]
  exact hK
theorem wpOp_skip {P : Program} {ops : Array Oper} {Q : Exit → Act → World → Prop} {i : Nat} {o : Oper} {K : Act → World → Prop} {a : Act} {w w' : World} (q : ops[i]? = some o) (g : o.guard = none) (hd : o.dst = none) (h : (execOp a.eval o).run P w = .ok .skip w') (hK : K a w') : wpOp P ops Q i K a w := by
  refine wpOp_wp q g ?_
  unfold Oper.wp
  rw [h, Oper.upon_skip, hd]
  exact hK

end Go.Proofs.YtcocbjipikeebaaDoor.Utf
/-
  The program's cut: a line's word and its score, as they are written.
-/
namespace Go.Proofs.YtcocbjipikeebaaDoor.Utf
open Go Go.Lib Go.RowKit Go.Shelf
attribute [local go_sem] Oper.semAt_some

theorem pairsFrom_in (s : ByteArray) : ∀ f pos x, x ∈ pairsFrom s f pos → x.1 < s.size
  | 0, _, x, h => by simp [pairsFrom] at h
  | f + 1, pos, x, h => by
    by_cases hp : pos < s.size
    · rw [pairsFrom_step hp] at h
      rcases List.mem_cons.1 h with rfl | h
      · exact hp
      · exact pairsFrom_in s f _ x h
    · rw [pairsFrom_end s _ pos hp] at h; cases h
theorem pairs_in {s : ByteArray} {x : Nat × Nat} (h : x ∈ pairs s) : x.1 < s.size := pairsFrom_in s _ _ x h
theorem results_ss {fn : Func} {p q : Tmp} (h : fn.results = #[.cell p 9, .cell q 9]) (tmps : Array Value) (w : World) (b1 b2 : Nat) (v1 v2 : Value)
    (hp : tmps.getD p undef = .pointer (some ⟨b1, 0, none⟩)) (hq : tmps.getD q undef = .pointer (some ⟨b2, 0, none⟩)) (h1 : w.cell? ⟨b1, 0, none⟩ = some v1) (h2 : w.cell? ⟨b2, 0, none⟩ = some v2) :
    (results fn tmps).run Tryd.prog w = .ok (.tuple #[v1, v2]) w := by
  have hp' : tmps[p]?.getD undef = .pointer (some ⟨b1, 0, none⟩) := by simpa using hp
  have hq' : tmps[q]?.getD undef = .pointer (some ⟨b2, 0, none⟩) := by simpa using hq
  simp only [results, h]
  simp [hp', hq', asAddr]
  go_simp
/-- The first rune that parts the word from its score. -/
def fsc (ps : List (Nat × Nat)) : Option (Nat × Nat) := ps.find? fun x => x.2 == 59
/-- A line's word and its score. -/
def cutS (s : ByteArray) : ByteArray × ByteArray := match fsc (pairs s) with | none => (s, ⟨#[53, 48]⟩) | some x => (s.extract 0 x.1, s.extract (x.1 + 1) s.size)
/-- All but the last rune are no parting. -/
def StopC (ps : List (Nat × Nat)) : Prop := ∃ pre' x, ps = pre' ++ [x] ∧ (∀ y ∈ pre', ¬ y.2 = 59) ∧ x.2 = 59
def lastP (ps : List (Nat × Nat)) : Nat := match ps.getLast? with | some x => x.1 | none => 0

end Go.Proofs.YtcocbjipikeebaaDoor.Utf
/-
  The program's scoreOf: what a score's text says.
-/
namespace Go.Proofs.YtcocbjipikeebaaDoor.Utf
open Go Go.Lib Go.RowKit Go.Shelf
attribute [local go_sem] Oper.semAt_some

theorem results_ib {fn : Func} {p q : Tmp} (h : fn.results = #[.cell p 3, .cell q 4]) (tmps : Array Value) (w : World) (b1 b2 : Nat) (v1 v2 : Value)
    (hp : tmps.getD p undef = .pointer (some ⟨b1, 0, none⟩)) (hq : tmps.getD q undef = .pointer (some ⟨b2, 0, none⟩)) (h1 : w.cell? ⟨b1, 0, none⟩ = some v1) (h2 : w.cell? ⟨b2, 0, none⟩ = some v2) :
    (results fn tmps).run Tryd.prog w = .ok (.tuple #[v1, v2]) w := by
  have hp' : tmps[p]?.getD undef = .pointer (some ⟨b1, 0, none⟩) := by simpa using hp
  have hq' : tmps[q]?.getD undef = .pointer (some ⟨b2, 0, none⟩) := by simpa using hq
  simp only [results, h]
  simp [hp', hq', asAddr]
  go_simp
def isDg (n : Nat) : Prop := 48 ≤ n ∧ n ≤ 57
instance (n : Nat) : Decidable (isDg n) := inferInstanceAs (Decidable (_ ∧ _))
theorem cls_dg {n : Nat} : cls (n : Int) = 2 ↔ isDg n := by
  constructor
  · intro h
    by_cases hd : isDg n
    · exact hd
    · exfalso
      have hd' : ¬ (48 ≤ (n : Int) ∧ (n : Int) ≤ 57) := fun h => hd ⟨by omega, by omega⟩
      unfold cls at h
      by_cases h1 : isL (n : Int)
      · rw [if_pos h1] at h; cases h
      · rw [if_neg h1, if_neg hd'] at h
        by_cases h2 : isB (n : Int)
        · rw [if_pos h2] at h; cases h
        · rw [if_neg h2] at h
          by_cases h3 : 768 ≤ (n : Int) ∧ (n : Int) ≤ 879
          · rw [if_pos h3] at h; cases h
          · rw [if_neg h3] at h; cases h
  · intro h
    unfold isDg at h
    unfold cls
    have h1 : ¬ isL (n : Int) := fun h => by unfold isL at h; omega
    rw [if_neg h1, if_pos ⟨by omega, by omega⟩]
/-- The number that digits say. -/
def digR (ps : List (Nat × Nat)) : Nat := ps.foldl (fun n x => 10 * n + (x.2 - 48)) 0
theorem digR_snoc (ps : List (Nat × Nat)) (x : Nat × Nat) : digR (ps ++ [x]) = 10 * digR ps + (x.2 - 48) := by unfold digR; rw [List.foldl_append]; rfl
theorem digR_lt : ∀ (n : Nat) (ps : List (Nat × Nat)), ps.length = n → (∀ x ∈ ps, isDg x.2) → digR ps + 1 ≤ 10 ^ n
  | 0, ps, hl, _ => by rw [List.length_eq_zero_iff.1 hl]; decide
  | n + 1, ps, hl, h => by
    have hne : ps ≠ [] := fun e => by rw [e] at hl; cases hl
    have e := List.dropLast_concat_getLast hne
    have ih := digR_lt n ps.dropLast (by rw [List.length_dropLast, hl]; rfl) (fun x hx => h x (List.dropLast_subset _ hx))
    have hd := h _ (List.getLast_mem hne)
    rw [← e, digR_snoc, Nat.pow_succ]
    unfold isDg at hd
    omega
/-- What a score's text says, and whether it says one. -/
def scoreP (s : ByteArray) : Nat × Bool :=
  if (wordsP s).length = 1 then
    (if 3 < ((wordsT s).headD ⟨#[]⟩).size then (0, false)
     else if ∀ x ∈ pairs ((wordsT s).headD ⟨#[]⟩), isDg x.2 then (digR (pairs ((wordsT s).headD ⟨#[]⟩)), decide (digR (pairs ((wordsT s).headD ⟨#[]⟩)) ≤ 100))
     else (0, false))
  else (0, false)
def StopD (ps : List (Nat × Nat)) : Prop := ∃ pre' x, ps = pre' ++ [x] ∧ ¬ isDg x.2

end Go.Proofs.YtcocbjipikeebaaDoor.Utf
/-
  The program's saysNothing: whether a line is of blanks alone, or its first other rune is the remark's sign.
-/
namespace Go.Proofs.YtcocbjipikeebaaDoor.Utf
open Go Go.Lib Go.RowKit Go.Shelf
attribute [local go_sem] Oper.semAt_some

/-- The first rune that is no blank. -/
def fnb (ps : List (Nat × Nat)) : Option (Nat × Nat) := ps.find? fun x => decide (¬ isB (x.2 : Int))
/-- Does a line with these runes say nothing? -/
def sayN (ps : List (Nat × Nat)) : Bool := match fnb ps with | none => true | some x => x.2 == 35

/-- All but the last rune are blanks. -/
def StopR (ps : List (Nat × Nat)) : Prop := ∃ pre' x, ps = pre' ++ [x] ∧ (∀ y ∈ pre', isB (y.2 : Int)) ∧ ¬ isB (x.2 : Int)
/-- Is the last rune the remark's sign? -/
def lastR (ps : List (Nat × Nat)) : Bool := match ps.getLast? with | some x => x.2 == 35 | none => false

end Go.Proofs.YtcocbjipikeebaaDoor.Utf
