/-
  A loop over the sequence of ways: what its body may lean on (the way that came, in new memory) and what it must keep (the sequence's own blocks, the loop's record).
-/
import Derived.Test.YtaijphanpolegaaEch
import Derived.RangeFuncWrites
namespace Go.Proofs.Ytaijphanpolegaa.Utf
open Go Go.Lib Go.RowKit Go.Shelf

/-- How the body of a round may be left. -/
def eachPost (D : Nat) (O : Nat → Prop) (I : (Nat → Prop) → List (List Nat) → World → Prop) (Ix : Code → List (List Nat) → World → Prop) (xs : List (List Nat)) (W : World) : Exit → Act → World → Prop
  | .normal, _, W' => W.heap.size ≤ W'.heap.size ∧ (∀ k, O k ∨ k = D ∨ k = D + 1 → W'.heap[k]? = W.heap[k]?) ∧ I O xs W'
  | .ret, _, W' => W.heap.size ≤ W'.heap.size ∧ (∀ k, k = D ∨ k = D + 1 → W'.heap[k]? = W.heap[k]?) ∧ Ix .ret xs W'
  | .exit id, _, W' => W.heap.size ≤ W'.heap.size ∧ (∀ k, k = D ∨ k = D + 1 → W'.heap[k]? = W.heap[k]?) ∧ Ix (.exit id) xs W'
  | .goto t, _, W' => W.heap.size ≤ W'.heap.size ∧ (∀ k, k = D ∨ k = D + 1 → W'.heap[k]? = W.heap[k]?) ∧ Ix (.goto t) xs W'
  | .panic _, _, _ => False
  | .outgrown, _, _ => False

theorem els_putObj {O : Nat → Prop} (W : World) (l : Nat) (o : Obj) (h : O l) : Els O W (W.putObj l o) := Els.grown (grownBy_putObj' W l o) fun j hj => by rw [← Option.some.inj hj]; exact h

theorem wpIn_rangeEach {n : Nat} {g : Operand} {ps : Array Tmp} {assign body : Code} {Q : Exit → Act → World → Prop} {a : Act} {w : World} (h1 : 2 ≤ n) (Ab Sb b : Nat) (hg : a.eval g = .func (.func 42) #[] #[.pointer (some ⟨Ab, 0, none⟩), .pointer (some ⟨Sb, 0, none⟩)])
    {L : List ByteArray} {rk : List Nat} (hL40 : L.length ≤ 40) (hLs : ∀ x ∈ L, 1 ≤ x.size ∧ x.size ≤ 12) (s : ByteArray) (hs : s.size ≤ 16777216) (hps : ps.size = 1)
    (I : (Nat → Prop) → List (List Nat) → World → Prop) (Ix : Code → List (List Nat) → World → Prop)
    (hIE : ∀ O pre W, I O pre W → EnvA b Sb Ab L rk s W)
    (hI : ∀ O O' pre W1 W2, I O pre W1 → Els (fun k => O k ∨ k = w.heap.size ∨ k = w.heap.size + 1) W1 W2 → (∀ k, O' k → O k ∨ W1.heap.size ≤ k) → I O' pre W2)
    (hIx : ∀ c pre W1 W2, Ix c pre W1 → Els (fun k => k = w.heap.size ∨ k = w.heap.size + 1) W1 W2 → Ix c pre W2)
    (h0 : I (fun _ => False) [] w)
    (hround : ∀ (l : Nat) (O : Nat → Prop) (pre : List (List Nat)) (x : List Nat) (post : List (List Nat)) (X : Nat) (ws : List Nat) (W0 W : World), I O pre W → WaysTo L rk s 0 ws → waysN L rk s ws = pre ++ x :: post →
      W.ownsRow (w.heap.size + 2) 3 1 (.slice (some ⟨X, 0, none⟩) x.length x.length) x.length (nums x) → ¬ O X → ¬ O w.heap.size ∧ ¬ O (w.heap.size + 1) → w.heap.size + 2 ≤ W.heap.size →
      assign.wpIn (Fence.wide.inRound l) (n - 1 - 1) Try.prog (Exit.then (fun a₁ w₁ => w₁ = W0 ∧ body.wpIn (Fence.wide.inRound l) (n - 1 - 1) Try.prog (eachPost w.heap.size O I Ix (pre ++ [x]) W) a₁ W) (fun _ _ _ => False))
        { tmps := (ps.zip #[.slice (some ⟨X, 0, none⟩) x.length x.length]).foldl (fun t (p, v) => t.setIfInBounds p v) a.tmps, defers := [] } W0)
    (hdone : ∀ (O : Nat → Prop) (ws : List Nat) (W : World), WaysTo L rk s 0 ws → I O (waysN L rk s ws) W → W.heap[w.heap.size]? = some (.deferred (some [])) → w.heap.size + 2 ≤ W.heap.size → Q .normal { a with defers := { target := .collected w.heap.size, args := #[] } :: a.defers } W)
    (hstop : ∀ (c : Code) (pre : List (List Nat)) (ws : List Nat) (W : World), WaysTo L rk s 0 ws → pre <+: waysN L rk s ws → Ix c pre W → W.heap[w.heap.size]? = some (.deferred (some [])) → w.heap.size + 2 ≤ W.heap.size → c.wpIn Fence.wide n Try.prog Q { a with defers := { target := .collected w.heap.size, args := #[] } :: a.defers } W) :
    (Code.rangeFunc g ps assign body).wpIn Fence.wide n Try.prog Q a w := by
  refine wpIn_rangeFunc ?_
  intro fn hfn
  show ∃ _, _
  have hro : Fence.wide.round = none := rfl
  rw [hro]
  obtain ⟨rec, hrec⟩ : ∃ rec : LoopState → Option Code → Loop, rec = fun st pe => { state := st, pending := pe, fn, tmps := a.tmps, params := ps, assign, body, defers := w.heap.size } := ⟨_, rfl⟩
  obtain ⟨W1, hW1⟩ : ∃ W1, (w.alloc (.deferred (some []))).alloc (.loop (rec .ready none)) = W1 := ⟨_, rfl⟩
  have hL1 : W1.heap[w.heap.size + 1]? = some (.loop (rec .ready none)) := by
    rw [← hW1]; have := World.alloc_heap_new (w.alloc (.deferred (some []))) (.loop (rec .ready none)); rwa [World.size_alloc] at this
  have hK1 : W1.heap[w.heap.size]? = some (.deferred (some [])) := by
    rw [← hW1]; exact (Below.heap_alloc _ _ _ (by simp)).trans (World.alloc_heap_new w _)
  have hI1 : I (fun _ => False) [] W1 := by
    rw [← hW1]
    exact hI _ _ _ _ _ h0 (((Els.refl _ w).alloc _).alloc _) (fun k hk => .inl hk)
  have hs1 : W1.heap.size = w.heap.size + 2 := by rw [← hW1]; simp
  refine ⟨w.heap.size + 1, [{ target := .collected w.heap.size, args := #[] }], W1, { target := .fn (.func 42) #[.pointer (some ⟨Ab, 0, none⟩), .pointer (some ⟨Sb, 0, none⟩)], args := #[.func (.yield (w.heap.size + 1)) #[] #[]] }, W1, 42,
    #[.func (.yield (w.heap.size + 1)) #[] #[]] ++ #[.pointer (some ⟨Ab, 0, none⟩), .pointer (some ⟨Sb, 0, none⟩)], W1, ?_, ?_, ?_, ?_, fun _ => by omega, ?_⟩
  · rw [← hW1, hrec]; exact run_enterLoop_outer _ _ _ _ _
  · simp only [resolve, hg]
    simp [go_sem]
  · intro f' _; trivial
  · simp [invoke, go_sem]
  · refine (each1_in (n - 1) (by omega) (w.heap.size + 1) Ab Sb b hL40 hLs s hs
      (fun O pre W => I O pre W ∧ (W.heap[w.heap.size + 1]? = some (.loop (rec .ready none)) ∧ W.heap[w.heap.size]? = some (.deferred (some []))) ∧ ¬ O w.heap.size ∧ ¬ O (w.heap.size + 1))
      (fun pre W => ∃ c, Ix c pre W ∧ W.heap[w.heap.size + 1]? = some (.loop (rec .done (some c))) ∧ W.heap[w.heap.size]? = some (.deferred (some [])))
      W1 (fun O pre W h => hIE O pre W h.1) ?_ ?_ ⟨hI1, ⟨hL1, hK1⟩, id, id⟩).mono ?_
    · rintro O O' pre A B ⟨hi, ⟨hl, hk⟩, n1, n2⟩ he ho
      have hlt := (Array.getElem?_eq_some_iff.1 hl).1
      have hkt := (Array.getElem?_eq_some_iff.1 hk).1
      refine ⟨hI O O' pre A B hi (he.mono fun k _ h => .inl h) ho, ⟨(he.block _ hlt n2).trans hl, (he.block _ hkt n1).trans hk⟩, fun h => ?_, fun h => ?_⟩
      · rcases ho _ h with h | h
        · exact n1 h
        · omega
      · rcases ho _ h with h | h
        · exact n2 h
        · omega
    · rintro O pre x post X ws W ⟨hi, ⟨hl, hk⟩, n1, n2⟩ hW hpre hrow hX
      have hlt : w.heap.size + 1 < W.heap.size := (Array.getElem?_eq_some_iff.1 hl).1
      rw [hs1] at hrow
      have hy := run_yield (P := Try.prog) (args := #[.slice (some ⟨X, 0, none⟩) x.length x.length]) hl (by rw [hrec]; exact hps.symm)
      rw [hrec] at hy
      refine ⟨fn, _, assign, body, hy, roundIn_of_wpIn hfn ?_⟩
      have hl2 : (W.putObj (w.heap.size + 1) (.loop { rec .ready none with state := .busy })).heap[w.heap.size + 1]? = some (.loop { rec .ready none with state := .busy }) := World.putObj_heap_same hlt
      have hk2 : (W.putObj (w.heap.size + 1) (.loop { rec .ready none with state := .busy })).heap[w.heap.size]? = some (.deferred (some [])) := (World.putObj_heap_other (by omega)).trans hk
      refine wpIn_mono (hround (w.heap.size + 1) O pre x post X ws W (W.putObj (w.heap.size + 1) (.loop { rec .ready none with state := .busy })) (hI _ _ _ _ _ hi (els_putObj _ _ _ (.inr (.inr rfl))) (fun k h => .inl h)) hW hpre (ownsRow_putObj hrow _ hl rfl) hX ⟨n1, n2⟩ (by rw [World.putObj_size]; omega)) ?_
      intro e0 a0 w0 hq
      cases e0 with
      | exit id => exact hq.elim
      | goto l => exact hq.elim
      | ret => exact hq.elim
      | panic ch => exact hq.elim
      | outgrown => exact hq.elim
      | normal =>
      obtain ⟨hw0, hq⟩ := hq
      rw [hw0]
      refine ⟨_, run_beginRound hl (by rw [hrec]), wpIn_mono hq ?_⟩
      have fin : ∀ (jump : Option Code) (W3 : World), (∀ k, k = w.heap.size ∨ k = w.heap.size + 1 → W3.heap[k]? = (W.putObj (w.heap.size + 1) (.loop { rec .ready none with state := .busy })).heap[k]?) →
          (Instr.endRound (w.heap.size + 1) jump).run Try.prog W3 = .ok (.bool jump.isNone) (W3.putObj (w.heap.size + 1) (.loop (rec (if jump.isNone then .ready else .done) jump))) ∧
          (W3.putObj (w.heap.size + 1) (.loop (rec (if jump.isNone then .ready else .done) jump))).heap[w.heap.size + 1]? = some (.loop (rec (if jump.isNone then .ready else .done) jump)) ∧
          (W3.putObj (w.heap.size + 1) (.loop (rec (if jump.isNone then .ready else .done) jump))).heap[w.heap.size]? = some (.deferred (some [])) := fun jump W3 hk3 => by
        have hl3 := (hk3 _ (.inr rfl)).trans hl2
        have := run_endRound (P := Try.prog) jump hl3
        rw [hrec] at this ⊢
        exact ⟨this, World.putObj_heap_same (Array.getElem?_eq_some_iff.1 hl3).1, (World.putObj_heap_other (by omega)).trans ((hk3 _ (.inl rfl)).trans hk2)⟩
      rintro e a3 W3 hp
      cases e with
      | normal =>
        obtain ⟨hs3, hk3, hi3⟩ := hp
        obtain ⟨hr, hl4, hk4⟩ := fin none W3 (fun k h => hk3 k (.inr h))
        refine ⟨_, _, hr, .inl ⟨rfl, ⟨hI _ _ _ _ _ hi3 (els_putObj _ _ _ (.inr (.inr rfl))) (fun k h => .inl h), ⟨hl4, hk4⟩, n1, n2⟩, ?_, fun k hk => ?_⟩⟩
        · rw [World.putObj_size] at hs3 ⊢
          exact hs3
        · have hne : k ≠ w.heap.size + 1 := fun h => n2 (h ▸ hk)
          rw [World.putObj_heap_other hne, hk3 k (.inl hk), World.putObj_heap_other hne]
      | ret =>
        obtain ⟨hs3, hk3, hi3⟩ := hp
        obtain ⟨hr, hl4, hk4⟩ := fin (some .ret) W3 hk3
        exact ⟨_, _, hr, .inr ⟨rfl, .ret, hIx _ _ _ _ hi3 (els_putObj _ _ _ (.inr rfl)), hl4, hk4⟩⟩
      | exit id =>
        obtain ⟨hs3, hk3, hi3⟩ := hp
        obtain ⟨hr, hl4, hk4⟩ := fin (some (.exit id)) W3 hk3
        exact ⟨_, _, hr, .inr ⟨rfl, .exit id, hIx _ _ _ _ hi3 (els_putObj _ _ _ (.inr rfl)), hl4, hk4⟩⟩
      | goto t =>
        obtain ⟨hs3, hk3, hi3⟩ := hp
        obtain ⟨hr, hl4, hk4⟩ := fin (some (.goto t)) W3 hk3
        exact ⟨_, _, hr, .inr ⟨rfl, .goto t, hIx _ _ _ _ hi3 (els_putObj _ _ _ (.inr rfl)), hl4, hk4⟩⟩
      | panic ch => exact hp.elim
      | outgrown => exact hp.elim
    · rintro e W2 ⟨⟨v, rfl⟩, (⟨O, ws, hW, hi, ⟨hl, hk⟩, n1, n2⟩ | ⟨pre, ws, hW, hp, c, hi, hl, hk⟩)⟩
      · have hlt := (Array.getElem?_eq_some_iff.1 hl).1
        exact ⟨none, _, by have := run_endLoop (P := Try.prog) hl (by rw [hrec]; simp); rw [hrec] at this; exact this, hdone O ws _ hW (hI _ _ _ _ _ hi (els_putObj _ _ _ (.inr (.inr rfl))) (fun k h => .inl h)) ((World.putObj_heap_other (by omega)).trans hk) (by rw [World.putObj_size]; omega)⟩
      · have hlt := (Array.getElem?_eq_some_iff.1 hl).1
        exact ⟨some c, _, by have := run_endLoop (P := Try.prog) hl (by rw [hrec]; simp); rw [hrec] at this; exact this, hstop c pre ws _ hW hp (hIx _ _ _ _ hi (els_putObj _ _ _ (.inr rfl))) ((World.putObj_heap_other (by omega)).trans hk) (by rw [World.putObj_size]; omega)⟩
end Go.Proofs.Ytaijphanpolegaa.Utf
