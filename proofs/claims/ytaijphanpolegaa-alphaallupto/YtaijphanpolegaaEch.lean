/-
  The program's sequence of ways: Each's value gives just the ways of the text in their order, for every loop body, whether it goes through or stops.
-/
import Derived.Test.YtaijphanpolegaaOnw
import Derived.Test.YtaijphanpolegaaSeq
import Derived.Sort.LoopGhostIn
import Derived.Sort.CutIn
namespace Go.Proofs.Ytaijphanpolegaa.Utf
open Go Go.Lib Go.RowKit Go.Shelf
attribute [local go_sem] Oper.semAt_some
theorem run_store_func {P : Program} {w : World} {a : Addr} {m : Mode} (f : Fn) (x y : Array Value) : (store a (.func f x y) m).run P w = stored P w a (.func f x y) m := run_store P w a _ m rfl
attribute [local go_sem] run_store_func

set_option maxHeartbeats 400000 in
theorem each_in (F : Fence) (n : Nat) (hf : F.fn 23) (hro : F.round = none) (b : Nat) (s : ByteArray) (w : World) :
    CallsIn F n Try.prog 23 #[.pointer (some ⟨b, 0, none⟩), .string s] w fun e w' => e = .returned (.func (.func 42) #[] #[.pointer (some ⟨w.heap.size, 0, none⟩), .pointer (some ⟨w.heap.size + 1, 0, none⟩)]) ∧ w' = (w.alloc (.cells #[.pointer (some ⟨b, 0, none⟩)] 25)).alloc (.cells #[.string s] 9) := by
  refine callsIn_of_wp Try.func23 rfl hf ?_ hro
  simp only [Try.ntmps23, List.size_toArray, List.length_cons, List.length_nil, Nat.reduceAdd, Nat.reduceSub, Array.replicate_succ, Array.replicate_zero, List.push_toArray, List.append_toArray, List.nil_append, List.cons_append]
  gi_wp2
  go_ret
  exact ⟨rfl, rfl⟩

/-- The ways of a text as letters' numbers. -/
def waysN (L : List ByteArray) (rk : List Nat) (s : ByteArray) (ws : List Nat) : List (List Nat) := (waysAt L rk s ws 0).map fun p => p.map (rkN rk)

theorem todo_all {L : List ByteArray} {rk : List Nat} (hw : ∀ r, r < L.length → 1 ≤ wid L rk r) (s : ByteArray) (ws : List Nat) : todo L rk s ws [] 0 = waysAt L rk s ws 0 := by
  rw [waysAt_ge hw]
  unfold todo restP
  simp [restB, posP]
/-- What Each keeps in its boxes between two rounds, in blocks of its own. -/
structure EachSt (B0 E g : Nat) (down : Value) (s : ByteArray) (ws : List Nat) (O : Nat → Prop) (path : List Nat) (pos : Nat) (v : Value) (W : World) : Prop where
  st : DnSt B0 W W (E + 2) (E + 1) v.ownBlock path pos v
  env : EnvE B0 E g s ws W
  db : Boxed W (E + 3) 70 down
  own : ∀ j, v.ownBlock = some j → O j
  boxes : (O E ∧ O (E + 1) ∧ O (E + 2) ∧ O (E + 3)) ∧ O g
  lt : ∀ k, O k → k < W.heap.size
  eq : B0 = E + 4 ∧ g < E
theorem EachSt.kept {B0 E g : Nat} {down : Value} {s : ByteArray} {ws : List Nat} {O : Nat → Prop} {path : List Nat} {pos : Nat} {v : Value} {W W' : World} (h : EachSt B0 E g down s ws O path pos v W) (hs : W.heap.size ≤ W'.heap.size) (hk : ∀ k, O k → W'.heap[k]? = W.heap[k]?) : EachSt B0 E g down s ws O path pos v W' := by
  obtain ⟨h1, h2, h3, h4, ⟨⟨h5, h6, h7, h8⟩, h9⟩, h10, h11⟩ := h
  refine ⟨⟨(hk _ h7).trans h1.at', (hk _ h6).trans h1.pb, ?_, Els.refl _ _, fun _ hj => .inl hj, h1.lo.1, h1.lo.2.1, Nat.le_trans h1.lo.2.2.1 hs, h1.lo.2.2.2⟩, ⟨(hk _ h5).trans h2.bE, ?_, h2.lt⟩, (hk _ h8).trans h3, h4, ⟨⟨h5, h6, h7, h8⟩, h9⟩, fun k hk => Nat.lt_of_lt_of_le (h10 k hk) hs, h11⟩
  · rcases h1.row with ⟨e1, e2 | ⟨g, cap, cur, rfl, e2, e3, e4⟩⟩
    · exact ⟨e1, .inl e2⟩
    · exact ⟨e1, .inr ⟨g, cap, cur, rfl, e2, (hk g (h4 g rfl)).trans e3, e4⟩⟩
  · rcases h2.row with ⟨e1, e2 | ⟨g, cap, cur, hv, e2, e3, e4⟩⟩
    · exact ⟨e1, .inl e2⟩
    · cases hv
      exact ⟨e1, .inr ⟨_, _, cur, rfl, e2, (hk _ h9).trans e3, e4⟩⟩
theorem EachSt.on {B0 E g : Nat} {down : Value} {s : ByteArray} {ws : List Nat} {O : Nat → Prop} {path path' : List Nat} {pos pos' : Nat} {v v' : Value} {W W' : World} (h : EachSt B0 E g down s ws O path pos v W) (hd : DnSt B0 W W' (E + 2) (E + 1) v.ownBlock path' pos' v') :
    EachSt B0 E g down s ws (fun k => O k ∨ (W.heap.size ≤ k ∧ k < W'.heap.size)) path' pos' v' W' ∧ Els O W W' := by
  obtain ⟨h1, h2, h3, h4, ⟨⟨h5, h6, h7, h8⟩, h9⟩, h10, h11⟩ := h
  have hEl : ∀ k, k < B0 → k ≠ E + 2 → k ≠ E + 1 → ¬ (k = E + 2 ∨ k = E + 1 ∨ v.ownBlock = some k) := by
    rintro k hk n1 n2 (e | e | e)
    · exact n1 e
    · exact n2 e
    · have := (h1.row.lt k e).1
      omega
  refine ⟨⟨hd.start, h2.els hd.els (hEl E (by omega) (by omega) (by omega)) (hEl g (by omega) (by omega) (by omega)), hd.els.boxed h3 (hEl (E + 3) (by omega) (by omega) (by omega)), fun j hj => ?_, ⟨⟨.inl h5, .inl h6, .inl h7, .inl h8⟩, .inl h9⟩, fun k hk => ?_, h11⟩, hd.els.mono ?_⟩
  · rcases hd.own j hj with e | e
    · exact .inl (h4 j e)
    · exact .inr ⟨e, (hd.row.lt j hj).2⟩
  · rcases hk with e | e
    · exact Nat.lt_of_lt_of_le (h10 k e) hd.els.size
    · exact e.2
  · rintro k _ (rfl | rfl | e)
    · exact h7
    · exact h6
    · exact h4 k e

set_option maxRecDepth 100000 in
set_option maxHeartbeats 2000000 in
theorem each1_in (n : Nat) (hn : 1 ≤ n) (l Ab Sb b : Nat) {L : List ByteArray} {rk : List Nat} (hL40 : L.length ≤ 40) (hLs : ∀ x ∈ L, 1 ≤ x.size ∧ x.size ≤ 12) (s : ByteArray) (hs : s.size ≤ 16777216)
    (J : (Nat → Prop) → List (List Nat) → World → Prop) (Jx : List (List Nat) → World → Prop) (W : World)
    (hJE : ∀ O pre W, J O pre W → EnvA b Sb Ab L rk s W)
    (hJ : ∀ O O' pre W1 W2, J O pre W1 → Els O W1 W2 → (∀ k, O' k → O k ∨ (W1.heap.size ≤ k ∧ k < W2.heap.size)) → J O' pre W2)
    (hY : ∀ O pre x post X ws W1, J O pre W1 → WaysTo L rk s 0 ws → waysN L rk s ws = pre ++ x :: post → W1.ownsRow W.heap.size 3 1 (.slice (some ⟨X, 0, none⟩) x.length x.length) x.length (nums x) → ¬ O X →
      YieldAt Fence.wide (n - 1) Try.prog l #[.slice (some ⟨X, 0, none⟩) x.length x.length] W1 fun e W' =>
        (e = .returned (.bool true) ∧ J O (pre ++ [x]) W' ∧ (W1.heap.size ≤ W'.heap.size ∧ ∀ k, O k → W'.heap[k]? = W1.heap[k]?)) ∨ (e = .returned (.bool false) ∧ Jx (pre ++ [x]) W'))
    (h0 : J (fun _ => False) [] W) :
    CallsIn Fence.wide n Try.prog 42 #[.func (.yield l) #[] #[], .pointer (some ⟨Ab, 0, none⟩), .pointer (some ⟨Sb, 0, none⟩)] W fun e W' => (∃ v, e = .returned v) ∧
      ((∃ O ws, WaysTo L rk s 0 ws ∧ J O (waysN L rk s ws) W') ∨ (∃ pre ws, WaysTo L rk s 0 ws ∧ pre <+: waysN L rk s ws ∧ Jx pre W')) := by
  have hro : Fence.wide.round = none := rfl
  have hE0 := hJE _ _ _ h0
  have cS := hE0.bS.cell
  have cA := hE0.bA.cell
  have cE := endings_any hE0.al hLs s hs
  have hSl := hE0.bS.lt
  have hAl := hE0.bA.lt
  clear hE0
  refine callsIn_of_wp Try.func42 rfl trivial ?_ hro
  simp only [Try.ntmps42, List.size_toArray, List.length_cons, List.length_nil, Nat.reduceAdd, Nat.reduceSub, Array.replicate_succ, Array.replicate_zero, List.push_toArray, List.append_toArray, List.nil_append, List.cons_append]
  gi_wp2_with (refine ⟨trivial, ?_⟩; gi_at_call 39; refine (callsIn_wide.2 cE).mono ?_)
  rintro e w1 ⟨⟨g, ws, rfl, hrowE, hW⟩, hb1⟩
  have HW : Aside (WaysTo L rk s 0 ws) := hW
  have HN1 : Aside (∀ r, r < L.length → 1 ≤ wid L rk r) := fun r hr => (nm_pos (hJE _ _ _ h0).al hLs r hr).1
  have HJE : Aside (∀ O pre W, J O pre W → EnvA b Sb Ab L rk s W) := hJE
  have HJ : Aside (∀ O O' pre W1 W2, J O pre W1 → Els O W1 W2 → (∀ k, O' k → O k ∨ (W1.heap.size ≤ k ∧ k < W2.heap.size)) → J O' pre W2) := hJ
  have HY : Aside (∀ O pre x post X ws W1, J O pre W1 → WaysTo L rk s 0 ws → waysN L rk s ws = pre ++ x :: post → W1.ownsRow W.heap.size 3 1 (.slice (some ⟨X, 0, none⟩) x.length x.length) x.length (nums x) → ¬ O X →
      YieldAt Fence.wide (n - 1) Try.prog l #[.slice (some ⟨X, 0, none⟩) x.length x.length] W1 fun e W' =>
        (e = .returned (.bool true) ∧ J O (pre ++ [x]) W' ∧ (W1.heap.size ≤ W'.heap.size ∧ ∀ k, O k → W'.heap[k]? = W1.heap[k]?)) ∨ (e = .returned (.bool false) ∧ Jx (pre ++ [x]) W')) := hY
  have hgl := hrowE.lt g rfl
  have hWs := hb1.size
  have hB2 : Below W.heap.size W ((((w1.alloc (.cells #[.slice (some ⟨g, 0, none⟩) (s.size + 1) (s.size + 1)] 66)).alloc (.cells #[.slice none 0 0] 37)).alloc (.cells #[.int .i64 0] 3)).alloc (.cells #[.func (.func 43) #[] #[.pointer (some ⟨w1.heap.size + 1 + 1, 0, none⟩), .pointer (some ⟨Sb, 0, none⟩), .pointer (some ⟨Ab, 0, none⟩), .pointer (some ⟨w1.heap.size, 0, none⟩), .pointer (some ⟨w1.heap.size + 1, 0, none⟩)]] 70)) :=
    (((hb1.alloc (by omega) _).alloc (by simp; omega) _).alloc (by simp; omega) _).alloc (by simp; omega) _
  have hS2 : EachSt (w1.heap.size + 4) w1.heap.size g (.func (.func 43) #[] #[.pointer (some ⟨w1.heap.size + 1 + 1, 0, none⟩), .pointer (some ⟨Sb, 0, none⟩), .pointer (some ⟨Ab, 0, none⟩), .pointer (some ⟨w1.heap.size, 0, none⟩), .pointer (some ⟨w1.heap.size + 1, 0, none⟩)]) s ws (fun k => W.heap.size ≤ k ∧ k < w1.heap.size + 4) [] 0 (.slice none 0 0)
      ((((w1.alloc (.cells #[.slice (some ⟨g, 0, none⟩) (s.size + 1) (s.size + 1)] 66)).alloc (.cells #[.slice none 0 0] 37)).alloc (.cells #[.int .i64 0] 3)).alloc (.cells #[.func (.func 43) #[] #[.pointer (some ⟨w1.heap.size + 1 + 1, 0, none⟩), .pointer (some ⟨Sb, 0, none⟩), .pointer (some ⟨Ab, 0, none⟩), .pointer (some ⟨w1.heap.size, 0, none⟩), .pointer (some ⟨w1.heap.size + 1, 0, none⟩)]] 70)) := by
    have b1 := (((Boxed.new w1 66 (.slice (some ⟨g, 0, none⟩) (s.size + 1) (s.size + 1))).alloc (.cells #[.slice none 0 0] 37)).alloc (.cells #[.int .i64 0] 3)).alloc (.cells #[.func (.func 43) #[] #[.pointer (some ⟨w1.heap.size + 1 + 1, 0, none⟩), .pointer (some ⟨Sb, 0, none⟩), .pointer (some ⟨Ab, 0, none⟩), .pointer (some ⟨w1.heap.size, 0, none⟩), .pointer (some ⟨w1.heap.size + 1, 0, none⟩)]] 70)
    have b2 := ((Boxed.new (w1.alloc (.cells #[.slice (some ⟨g, 0, none⟩) (s.size + 1) (s.size + 1)] 66)) 37 (.slice none 0 0)).alloc (.cells #[.int .i64 0] 3)).alloc (.cells #[.func (.func 43) #[] #[.pointer (some ⟨w1.heap.size + 1 + 1, 0, none⟩), .pointer (some ⟨Sb, 0, none⟩), .pointer (some ⟨Ab, 0, none⟩), .pointer (some ⟨w1.heap.size, 0, none⟩), .pointer (some ⟨w1.heap.size + 1, 0, none⟩)]] 70)
    have b3 := (Boxed.new ((w1.alloc (.cells #[.slice (some ⟨g, 0, none⟩) (s.size + 1) (s.size + 1)] 66)).alloc (.cells #[.slice none 0 0] 37)) 3 (.int .i64 0)).alloc (.cells #[.func (.func 43) #[] #[.pointer (some ⟨w1.heap.size + 1 + 1, 0, none⟩), .pointer (some ⟨Sb, 0, none⟩), .pointer (some ⟨Ab, 0, none⟩), .pointer (some ⟨w1.heap.size, 0, none⟩), .pointer (some ⟨w1.heap.size + 1, 0, none⟩)]] 70)
    have b4 := Boxed.new (((w1.alloc (.cells #[.slice (some ⟨g, 0, none⟩) (s.size + 1) (s.size + 1)] 66)).alloc (.cells #[.slice none 0 0] 37)).alloc (.cells #[.int .i64 0] 3)) 70 (.func (.func 43) #[] #[.pointer (some ⟨w1.heap.size + 1 + 1, 0, none⟩), .pointer (some ⟨Sb, 0, none⟩), .pointer (some ⟨Ab, 0, none⟩), .pointer (some ⟨w1.heap.size, 0, none⟩), .pointer (some ⟨w1.heap.size + 1, 0, none⟩)])
    simp only [World.size_alloc] at b2 b3 b4
    refine ⟨⟨b3, b2, World.ownsRow_nil _ _ _ _, Els.refl _ _, (fun j hj => nomatch hj), (by omega), (by omega), (by simp), (by omega)⟩, ⟨b1, ?_, (by omega)⟩, b4, (fun j hj => nomatch hj), (by refine ⟨⟨?_, ?_, ?_, ?_⟩, ?_⟩ <;> constructor <;> omega), (fun k hk => by simp; omega), rfl, (by omega)⟩
    have h := (((hrowE.alloc (.cells #[.slice (some ⟨g, 0, none⟩) (s.size + 1) (s.size + 1)] 66)).alloc (.cells #[.slice none 0 0] 37)).alloc (.cells #[.int .i64 0] 3)).alloc (.cells #[.func (.func 43) #[] #[.pointer (some ⟨w1.heap.size + 1 + 1, 0, none⟩), .pointer (some ⟨Sb, 0, none⟩), .pointer (some ⟨Ab, 0, none⟩), .pointer (some ⟨w1.heap.size, 0, none⟩), .pointer (some ⟨w1.heap.size + 1, 0, none⟩)]] 70)
    exact ⟨h.1, h.2.imp id fun ⟨g, cap, cur, e1, _, e3⟩ => ⟨g, cap, cur, e1, Nat.zero_le _, e3⟩⟩
  have cS1 := (hb1.cell (p := ⟨Sb, 0, none⟩) hSl).trans cS
  have cA1 := (hb1.cell (p := ⟨Ab, 0, none⟩) hAl).trans cA
  clear hW hrowE cE hJE hJ hY cS cA
  gi_wp2_with fail
  obtain ⟨W2, hW2⟩ : ∃ W2 : World, ((((w1.alloc (.cells #[.slice (some ⟨g, 0, none⟩) (s.size + 1) (s.size + 1)] 66)).alloc (.cells #[.slice none 0 0] 37)).alloc (.cells #[.int .i64 0] 3)).alloc (.cells #[.func (.func 43) #[] #[.pointer (some ⟨w1.heap.size + 1 + 1, 0, none⟩), .pointer (some ⟨Sb, 0, none⟩), .pointer (some ⟨Ab, 0, none⟩), .pointer (some ⟨w1.heap.size, 0, none⟩), .pointer (some ⟨w1.heap.size + 1, 0, none⟩)]] 70)) = W2 := ⟨_, rfl⟩
  have hJ2 : J (fun k => W.heap.size ≤ k ∧ k < w1.heap.size + 4) [] W2 := by
    have hs2 : W2.heap.size = w1.heap.size + 4 := by rw [← hW2]; simp
    rw [hW2] at hB2
    exact HJ.out _ _ _ _ _ h0 (Els.of_below hB2) fun k hk => .inr ⟨hk.1, by rw [hs2]; exact hk.2⟩
  rw [hW2] at hB2 hS2 ⊢
  clear hW2 hb1 cS1 cA1
  have HS2 : Aside (W2.heap.size ≥ W.heap.size) := hB2.size
  have cD := down_any hL40 hLs s hs (w1.heap.size + 4) (w1.heap.size + 2) Sb Ab w1.heap.size (w1.heap.size + 1) g ws (.slice none 0 0) [] 0 (w0 := W2) (b := b) (rk := rk)
    (fun W' he => HJE.out _ _ _ (HJ.out _ _ _ _ _ hJ2 (he.mono (by rintro k _ (rfl | rfl | h); exact ⟨by omega, by omega⟩; exact ⟨by omega, by omega⟩; cases h)) fun k hk => .inl hk)) hS2.env (by omega) HW.out (Nat.zero_le _) (Nat.zero_le _) (fun r hr => by cases hr) hS2.st
  refine ⟨trivial, (callsIn_wide.2 cD).mono ?_⟩
  have HC : Aside (∀ (e : Ending) (w' : World), ((e = .returned (.bool true) ∧ ∃ path, (∃ v', DnSt (w1.heap.size + 4) W2 w' (w1.heap.size + 2) (w1.heap.size + 1) none path s.size v') ∧ posP L rk path = s.size ∧ (∀ r ∈ path, r < L.length) ∧ todo L rk s ws [] 0 = path :: restP L rk s ws path) ∨
      (e = .returned (.bool false) ∧ (∃ v', DnSt (w1.heap.size + 4) W2 w' (w1.heap.size + 2) (w1.heap.size + 1) none [] 0 v') ∧ todo L rk s ws [] 0 = restP L rk s ws [])) →
      ∃ fnd : Bool, e = .returned (.bool fnd) ∧ ∃ (O : Nat → Prop), J O [] w' ∧ (fnd = true → ∃ (path : List Nat) (v : Value), EachSt (w1.heap.size + 4) w1.heap.size g (.func (.func 43) #[] #[.pointer (some ⟨w1.heap.size + 1 + 1, 0, none⟩), .pointer (some ⟨Sb, 0, none⟩), .pointer (some ⟨Ab, 0, none⟩), .pointer (some ⟨w1.heap.size, 0, none⟩), .pointer (some ⟨w1.heap.size + 1, 0, none⟩)]) s ws O path s.size v w' ∧ posP L rk path = s.size ∧ (∀ r ∈ path, r < L.length) ∧ waysN L rk s ws = [] ++ (path :: restP L rk s ws path).map (fun p => p.map (rkN rk))) ∧ (fnd = false → waysN L rk s ws = []) ∧ W.heap.size ≤ w'.heap.size) := by
    rintro e w' (⟨rfl, path, ⟨v', h2⟩, h3, h4, h5⟩ | ⟨rfl, ⟨v', h2⟩, h3⟩)
    · obtain ⟨k1, k2⟩ := hS2.on h2
      refine ⟨true, rfl, _, HJ.out _ _ _ _ _ hJ2 k2 (fun k hk => hk), fun _ => ⟨path, v', k1, h3, h4, ?_⟩, (fun h => by cases h), (by have := h2.els.size; have := HS2.out; omega)⟩
      rw [todo_all HN1.out] at h5
      rw [waysN, h5, List.nil_append]
    · refine ⟨false, rfl, _, HJ.out _ _ _ _ _ hJ2 (hS2.on h2).2 (fun k hk => .inl hk), (fun h => by cases h), fun _ => ?_, (by have := h2.els.size; have := HS2.out; omega)⟩
      rw [todo_all HN1.out] at h3
      rw [waysN, h3]
      rfl
  rintro e w3 hx
  obtain ⟨fnd, rfl, O, hJ3, hT, hF, hWw⟩ := HC.out e w3 hx
  have HT : Aside (fnd = true → ∃ (path : List Nat) (v : Value), EachSt (w1.heap.size + 4) w1.heap.size g (.func (.func 43) #[] #[.pointer (some ⟨w1.heap.size + 1 + 1, 0, none⟩), .pointer (some ⟨Sb, 0, none⟩), .pointer (some ⟨Ab, 0, none⟩), .pointer (some ⟨w1.heap.size, 0, none⟩), .pointer (some ⟨w1.heap.size + 1, 0, none⟩)]) s ws O path s.size v w3 ∧ posP L rk path = s.size ∧ (∀ r ∈ path, r < L.length) ∧ waysN L rk s ws = [] ++ (path :: restP L rk s ws path).map (fun p => p.map (rkN rk))) := hT
  have HF : Aside (fnd = false → waysN L rk s ws = []) := hF
  clear hx HC cD hT hF hB2 hS2 hJ2 HS2
  have hE1 : W.heap.size ≤ w1.heap.size := hWs
  have hgE : g < w1.heap.size := hgl.2
  generalize w1.heap.size = E at *
  clear hgl hWs
  gi_wp2_with fail
  gi_loopg [9] ((waysN L rk s ws).length + 1) (fun gk vf wr => ∃ (fnd : Bool) (O : Nat → Prop) (pre : List (List Nat)), vf = .bool fnd ∧ Aside (J O pre wr) ∧ W.heap.size ≤ wr.heap.size ∧ Aside (fnd = true → ∃ (path : List Nat) (v : Value), EachSt (E + 4) E g (.func (.func 43) #[] #[.pointer (some ⟨E + 1 + 1, 0, none⟩), .pointer (some ⟨Sb, 0, none⟩), .pointer (some ⟨Ab, 0, none⟩), .pointer (some ⟨E, 0, none⟩), .pointer (some ⟨E + 1, 0, none⟩)]) s ws O path s.size v wr ∧ posP L rk path = s.size ∧ (∀ r ∈ path, r < L.length) ∧ waysN L rk s ws = pre ++ (path :: restP L rk s ws path).map (fun p => p.map (rkN rk))) ∧ Aside (fnd = false → waysN L rk s ws = pre) ∧ Aside ((waysN L rk s ws).length + 1 ≤ gk + pre.length))
  case atStart => exact ⟨fnd, O, [], rfl, hJ3, hWw, HT, HF, (by show _ ≤ _; simp)⟩
  case round =>
    clear HT HF hJ3 hWw
    obtain ⟨fnd, O, pre, rfl, hj, hWr, HT, HF, HM⟩ := hrel
    cases fnd with
    | false =>
      have HX := HF.out rfl
      gi_wp2
      go_end0
      refine ⟨⟨_, rfl⟩, .inl ⟨O, ws, HW.out, ?_⟩⟩
      rw [HX]
      exact hj.out
    | true =>
      obtain ⟨path, v, hst, hp, hpl, hpre⟩ := HT.out rfl
      have HP : Aside (posP L rk path = s.size ∧ (∀ r ∈ path, r < L.length)) := ⟨hp, hpl⟩
      have HPRE : Aside (waysN L rk s ws = pre ++ (path :: restP L rk s ws path).map (fun p => p.map (rkN rk))) := hpre
      have hEn := HJE.out _ _ _ hj.out
      have hplen : path.length ≤ 16777216 := Nat.le_trans (posP_len HN1.out path hpl) (by omega)
      clear HT HF hp hpl hpre
      have HST : Aside (EachSt (E + 4) E g (.func (.func 43) #[] #[.pointer (some ⟨E + 1 + 1, 0, none⟩), .pointer (some ⟨Sb, 0, none⟩), .pointer (some ⟨Ab, 0, none⟩), .pointer (some ⟨E, 0, none⟩), .pointer (some ⟨E + 1, 0, none⟩)]) s ws O path s.size v wr) := hst
      obtain ⟨ao, cap, rfl, hreads⟩ := row_reads hst.st.row
      have cN := numbers_any hEn.al path HP.out.2 ao cap hplen hreads
      have cA := hEn.bA.cell
      have cp := hst.st.pb.cell
      clear hEn hst hreads
      gi_wp2_with fail
      refine ⟨trivial, (callsIn_wide.2 cN).mono ?_⟩
      rintro e w2 ⟨⟨X, rfl, hrowX⟩, hb2⟩
      have hJ2 := HJ.out O O pre wr w2 hj.out (Els.of_below hb2) (fun k hk => .inl hk)
      have cY := HY.out O pre (path.map (rkN rk)) ((restP L rk s ws path).map (fun p => p.map (rkN rk))) X ws w2 hJ2 HW.out (by rw [HPRE.out, List.map_cons]) (by rw [List.length_map]; exact ⟨hrowX.1, hrowX.2.imp id fun ⟨g, cap, cur, e1, e2, e3⟩ => ⟨g, cap, cur, e1, by omega, e3⟩⟩) (fun h => by have := HST.out.lt X h; have := (hrowX.lt X rfl).1; omega)
      rw [List.length_map] at cY
      obtain ⟨fn, tmps, assign, body, hy, hR⟩ := cY
      have HST2 : Aside (EachSt (E + 4) E g (.func (.func 43) #[] #[.pointer (some ⟨E + 1 + 1, 0, none⟩), .pointer (some ⟨Sb, 0, none⟩), .pointer (some ⟨Ab, 0, none⟩), .pointer (some ⟨E, 0, none⟩), .pointer (some ⟨E + 1, 0, none⟩)]) s ws O path s.size (.slice ao path.length cap) w2) := HST.out.kept hb2.size (fun k hk => hb2.block k (HST.out.lt k hk))
      have hWr2 : wr.heap.size ≤ w2.heap.size := hb2.size
      clear hrowX hb2 hJ2 cN cA cp HST
      gi_wp2
      refine hR.mono ?_
      rintro e W3 (⟨rfl, hJ3, hk3, hk4⟩ | ⟨rfl, hJx3⟩)
      · have hst3 := HST2.out.kept hk3 hk4
        have cO := on_any hL40 hLs s hs (E + 4) (E + 2) Sb Ab E (E + 1) (E + 3) g ws (.slice ao path.length cap) path (w0 := W3) (b := b) (rk := rk)
          (fun W' he => HJE.out _ _ _ (HJ.out _ _ _ _ _ hJ3 (he.mono (by
            rintro k _ (h | h | h)
            · rw [h]; exact hst3.boxes.1.2.2.1
            · rw [h]; exact hst3.boxes.1.2.1
            · exact hst3.own k h)) fun k hk => .inl hk)) hst3.env (by omega) hst3.db (by omega) HW.out (by rw [HP.out.1]; exact Nat.le_refl _) HP.out.2 (by rw [HP.out.1]; exact hst3.st)
        have HST3 : Aside (EachSt (E + 4) E g (.func (.func 43) #[] #[.pointer (some ⟨E + 1 + 1, 0, none⟩), .pointer (some ⟨Sb, 0, none⟩), .pointer (some ⟨Ab, 0, none⟩), .pointer (some ⟨E, 0, none⟩), .pointer (some ⟨E + 1, 0, none⟩)]) s ws O path s.size (.slice ao path.length cap) W3) := hst3
        have HJ3 : Aside (J O (pre ++ [path.map (rkN rk)]) W3) := hJ3
        have hM : (waysN L rk s ws).length = pre.length + ((restP L rk s ws path).length + 1) := by rw [HPRE.out]; simp
        have hM2 : 2 ≤ gk := by have := HM.out; omega
        have HM3 : Aside ((waysN L rk s ws).length + 1 ≤ (gk - 1) + (pre ++ [path.map (rkN rk)]).length) := by have := HM.out; show _ ≤ _; rw [List.length_append, List.length_singleton]; omega
        clear hst3 hJ3 hk4 hR hM HM
        gi_wp2_with fail
        refine ⟨trivial, (callsIn_wide.2 cO).mono ?_⟩
        rintro e W4 (⟨rfl, p', ⟨v', h2⟩, h3, h4, h5⟩ | ⟨rfl, ⟨v', h2⟩, h5⟩)
        · obtain ⟨k1, k2⟩ := HST3.out.on h2
          have hW4 := k2.size
          have HJ4 : Aside (J (fun k => O k ∨ (W3.heap.size ≤ k ∧ k < W4.heap.size)) (pre ++ [path.map (rkN rk)]) W4) := HJ.out _ _ _ _ _ HJ3.out k2 (fun k hk => hk)
          have HT4 : Aside (true = true → ∃ (q : List Nat) (v : Value), EachSt (E + 4) E g (.func (.func 43) #[] #[.pointer (some ⟨E + 1 + 1, 0, none⟩), .pointer (some ⟨Sb, 0, none⟩), .pointer (some ⟨Ab, 0, none⟩), .pointer (some ⟨E, 0, none⟩), .pointer (some ⟨E + 1, 0, none⟩)]) s ws (fun k => O k ∨ (W3.heap.size ≤ k ∧ k < W4.heap.size)) q s.size v W4 ∧ posP L rk q = s.size ∧ (∀ r ∈ q, r < L.length) ∧ waysN L rk s ws = (pre ++ [List.map (rkN rk) path]) ++ (q :: restP L rk s ws q).map (fun p => p.map (rkN rk))) := fun _ => ⟨p', v', k1, h3, h4, by rw [HPRE.out, h5]; simp⟩
          clear h2 h3 h5 k1 k2 cO
          gi_wp2
          gi_roundg (gk - 1)
          case measure => omega
          case rel => exact ⟨true, _, _, rfl, HJ4, by omega, (fun _ => HT4.out trivial), (fun h => by cases h), HM3⟩
        · have hW4 := h2.els.size
          have HJ4 : Aside (J O (pre ++ [path.map (rkN rk)]) W4) := HJ.out _ _ _ _ _ HJ3.out (HST3.out.on h2).2 (fun k hk => .inl hk)
          have HF4 : Aside (false = false → waysN L rk s ws = pre ++ [path.map (rkN rk)]) := fun _ => by rw [HPRE.out, h5]; rfl
          clear h2 h5 cO
          gi_wp2
          gi_roundg (gk - 1)
          case measure => omega
          case rel => exact ⟨false, _, _, rfl, HJ4, by omega, (fun h => by cases h), (fun _ => HF4.out trivial), HM3⟩
      · gi_wp2
        refine bodyPost_ret (results_none rfl _ _ _) rfl ?_
        exact ⟨⟨_, rfl⟩, .inr ⟨_, ws, HW.out, ⟨_, by rw [HPRE.out, List.map_cons, List.append_assoc]; rfl⟩, hJx3⟩⟩
end Go.Proofs.Ytaijphanpolegaa.Utf
