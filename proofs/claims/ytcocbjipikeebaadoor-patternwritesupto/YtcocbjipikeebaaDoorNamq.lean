/-
  The program's isName: whether a text has one to three runes, each a letter that is its own capital, for every text.
-/
import Derived.Test.YtcocbjipikeebaaDoorSeqq
import Derived.Test.YtcocbjipikeebaaDoorFldwq
namespace Go.Proofs.YtcocbjipikeebaaDoor.Utf
open Go Go.Lib Go.RowKit Go.Shelf
attribute [local go_sem] Oper.semAt_some

/-- A rune that is a letter and its own capital. -/
def capR (r : Nat) : Prop := isL (r : Int) ∧ up (r : Int) = r
/-- A text that a letter may be written with. -/
def nameP (s : ByteArray) : Prop := 1 ≤ (pairs s).length ∧ (pairs s).length ≤ 3 ∧ ∀ x ∈ pairs s, capR x.2

theorem results_box4 {fn : Func} {p : Tmp} (h : fn.results = #[.cell p 4]) (tmps : Array Value) (w : World) (g : Nat) (v : Value)
    (hp : tmps.getD p undef = .pointer (some ⟨g, 0, none⟩)) (hg : w.cell? ⟨g, 0, none⟩ = some v) :
    (results fn tmps).run Tryd.prog w = .ok v w := by
  have hp' : tmps[p]?.getD undef = .pointer (some ⟨g, 0, none⟩) := by simpa using hp
  simp only [results, h]
  simp [hp', asAddr]
  go_simp

open Classical in
set_option maxRecDepth 100000 in
set_option maxHeartbeats 2000000 in
theorem isName_any (s : ByteArray) (w : World) :
    Calls Tryd.prog 21 #[.string s] w fun e W' => e = .returned (.bool (decide (nameP s))) ∧ Below w.heap.size w W' := by
  refine (callsIn_wide (n := 3)).1 ?_
  have hro : Fence.wide.round = none := rfl
  refine callsIn_of_wp_marks Tryd.func21 rfl trivial ?_ hro
  simp only [Tryd.ntmps21, List.size_toArray, List.length_cons, List.length_nil, Nat.reduceAdd, Nat.reduceSub, Array.replicate_succ, Array.replicate_zero, List.push_toArray, List.append_toArray, List.nil_append, List.cons_append]
  gi_wp2_with (refine ⟨trivial, ?_⟩; gi_at_call 42; refine (all_in Fence.wide _ trivial hro _ _).mono ?_; rintro e w' ⟨rfl, rfl⟩)
  have bS := Boxed.new ((w.alloc (.cells #[.bool false] 4)).alloc (.cells #[.int .i64 0] 3)) 9 (.string s)
  have bR := ((Boxed.new w 4 (.bool false)).alloc (.cells #[.int .i64 0] 3)).alloc (.cells #[.string s] 9)
  have bN := (Boxed.new (w.alloc (.cells #[.bool false] 4)) 3 (.int .i64 0)).alloc (.cells #[.string s] 9)
  simp only [World.size_alloc] at bS bN
  have hB0 : Below w.heap.size w (((w.alloc (.cells #[.bool false] 4)).alloc (.cells #[.int .i64 0] 3)).alloc (.cells #[.string s] 9)) := (((Below.refl _ w).alloc (Nat.le_refl _) _).alloc (by simp) _).alloc (by simp; omega) _
  obtain ⟨W0, hW0⟩ : ∃ W0, (((w.alloc (.cells #[.bool false] 4)).alloc (.cells #[.int .i64 0] 3)).alloc (.cells #[.string s] 9)) = W0 := ⟨_, rfl⟩
  have hW0s : W0.heap.size = w.heap.size + 3 := by rw [← hW0]; simp
  rw [hW0] at bS bR bN hB0 ⊢
  clear hW0
  refine wpIn_rangeFunc_ownG hro (by omega) (gf := 60) (lb := #[.pointer (some ⟨w.heap.size + 1 + 1, 0, none⟩)]) rfl trivial (enters_of Tryd.func60 (by kernel_rfl) rfl)
    (all_stops Fence.wide _ trivial hro (by omega) (w.heap.size + 1 + 1) s W0 bS.lt bS.cell) walksK_t walksK_b (Below.refl _ _) (fun _ => rfl)
    (fun pre W => (Boxed W (w.heap.size + 1) 3 (.int .i64 (pre.length : Int)) ∧ Boxed W w.heap.size 4 (.bool false) ∧ (pre.length ≤ 3 ∧ ∀ x ∈ pre, capR x.2)) ∧ Below w.heap.size w W)
    (fun c pre W => (Boxed W w.heap.size 4 (.bool false) ∧ (c = .ret ∧ (4 ≤ pre.length ∨ ∃ x ∈ pre, ¬ capR x.2))) ∧ Below w.heap.size w W)
    (OwnFrom.and (OwnFrom.and (Own.from (boxed_own (w.heap.size + 1) 3 (fun pre : List (Nat × Nat) => .int .i64 (pre.length : Int))) _) (OwnFrom.and (Own.from (boxed_own w.heap.size 4 (fun _ : List (Nat × Nat) => .bool false)) _) (ownFrom_pure _ _))) (ownFrom_below (Nat.le_refl _) (by omega)))
    (fun c => OwnFrom.and (OwnFrom.and (Own.from (boxed_own w.heap.size 4 (fun _ : List (Nat × Nat) => .bool false)) _) (ownFrom_pure _ _)) (ownFrom_below (Nat.le_refl _) (by omega)))
    ⟨⟨bN, bR, Nat.zero_le _, fun _ h => by cases h⟩, hB0⟩
    (fun x => { tmps := #[.string s, undef, .pointer (some ⟨w.heap.size, 0, none⟩), .pointer (some ⟨w.heap.size + 1, 0, none⟩), undef, .int .i32 (x.2 : Int), .string s, .func (.func 60) #[] #[.pointer (some ⟨w.heap.size + 1 + 1, 0, none⟩)], .int .i64 (x.1 : Int), .int .i32 (x.2 : Int), undef, undef, undef, undef, undef, undef, undef, undef, undef, undef, undef, undef, undef, undef, undef, undef, undef], defers := [] }) ?assign ?body ?done ?stop
  case assign =>
    intro l x W K hK
    gi_wp2
    exact hK
  case body =>
    rintro l pre x W ⟨⟨bn, br, hl3, hall⟩, hB⟩ _
    have cn := bn.cell
    have fn := bn.frozen
    have s1 := bn.set (.int .i64 ((pre.length : Int) + 1))
    have cn1 := s1.cell
    have s2 := br.other (B' := w.heap.size + 1) (by omega) (.int .i64 ((pre.length : Int) + 1))
    have cr := s2.cell
    have fr := s2.frozen
    have hB1 := hB.setCell (p := ⟨w.heap.size + 1, 0, none⟩) (by show w.heap.size ≤ w.heap.size + 1; omega) (.int .i64 ((pre.length : Int) + 1))
    have cC := fun W => class_any (x.2 : Int) W
    have hlen : ((pre ++ [x]).length : Int) = (pre.length : Int) + 1 := by simp
    by_cases h4 : pre.length = 3
    · have h4z : (3 : Int) < (pre.length : Int) + 1 := by omega
      have HX : Hid (4 ≤ (pre ++ [x]).length) := by show 4 ≤ _; simp; omega
      clear h4
      gi_wp2
      refine ⟨trivial, ?_⟩
      gi_wp2
      refine ⟨trivial, ?_⟩
      gi_wp2
      refine ⟨((KeepsOthers.setCell _ _ _).trans (KeepsOthers.setCell _ _ _)).from _, ⟨s2.set _, rfl, .inl HX.out⟩, hB1.setCell (p := ⟨w.heap.size, 0, none⟩) (Nat.le_refl _) _⟩
    · have h4z : ¬ (3 : Int) < (pre.length : Int) + 1 := by omega
      by_cases hL : isL (x.2 : Int)
      · have hbd : (x.2 : Int) ≤ 1119 := by unfold isL at hL; omega
        rw [cls_1.2 hL] at cC
        have cU := fun W => upper_any (x.2 : Int) W (by omega) (by omega)
        by_cases hu : up (x.2 : Int) = x.2
        · rw [hu] at cU
          have HX : Hid ((pre ++ [x]).length ≤ 3 ∧ ∀ y ∈ pre ++ [x], capR y.2) := by
            refine ⟨by simp; omega, fun y hy => ?_⟩
            rcases List.mem_append.1 hy with h | h
            · exact hall y h
            · rw [List.mem_singleton.1 h]; exact ⟨hL, hu⟩
          clear hall hL hu
          gi_wp2_with (refine ⟨trivial, ?_⟩; first
            | (gi_at_call 43; refine (CallsIn.inRound l (callsIn_wide.2 (cC _))).mono ?_; rintro e w' ⟨rfl, rfl⟩)
            | (gi_at_call 44; refine (CallsIn.inRound l (callsIn_wide.2 (cU _))).mono ?_; rintro e w' ⟨rfl, rfl⟩))
          refine ⟨(KeepsOthers.setCell _ _ _).from _, (KeepsOthers.setCell _ _ _).walks, ⟨?_, s2, HX.out⟩, hB1⟩
          rw [hlen]; exact s1
        · have hub : (up (x.2 : Int) == (x.2 : Int)) = false := by rw [beq_eq_false_iff_ne]; exact hu
          have HX : Hid (∃ y ∈ pre ++ [x], ¬ capR y.2) := ⟨x, by simp, fun h => hu h.2⟩
          clear hall hL hu
          generalize up (x.2 : Int) = u at *
          gi_wp2_with (refine ⟨trivial, ?_⟩; first
            | (gi_at_call 43; refine (CallsIn.inRound l (callsIn_wide.2 (cC _))).mono ?_; rintro e w' ⟨rfl, rfl⟩)
            | (gi_at_call 44; refine (CallsIn.inRound l (callsIn_wide.2 (cU _))).mono ?_; rintro e w' ⟨rfl, rfl⟩))
          refine ⟨((KeepsOthers.setCell _ _ _).trans (KeepsOthers.setCell _ _ _)).from _, ⟨s2.set _, rfl, .inr HX.out⟩, hB1.setCell (p := ⟨w.heap.size, 0, none⟩) (Nat.le_refl _) _⟩
      · have hq : (cls (x.2 : Int) == 1) = false := by rw [beq_eq_false_iff_ne]; exact fun h => hL (cls_1.1 h)
        have hq2 : (cls (x.2 : Int) != 1) = true := by rw [bne, hq]; rfl
        have HX : Hid (∃ y ∈ pre ++ [x], ¬ capR y.2) := ⟨x, by simp, fun h => hL h.1⟩
        clear hall hL
        generalize cls (x.2 : Int) = C at *
        gi_wp2_with (refine ⟨trivial, ?_⟩; gi_at_call 43; refine (CallsIn.inRound l (callsIn_wide.2 (cC _))).mono ?_; rintro e w' ⟨rfl, rfl⟩)
        refine ⟨trivial, ?_⟩
        gi_wp2
        refine ⟨((KeepsOthers.setCell _ _ _).trans (KeepsOthers.setCell _ _ _)).from _, ⟨s2.set _, rfl, .inr HX.out⟩, hB1.setCell (p := ⟨w.heap.size, 0, none⟩) (Nat.le_refl _) _⟩
  case done =>
    rintro D ys W hD rfl ⟨⟨bn, br, hl3, hall⟩, hB⟩ hK
    have cn := bn.cell
    have fr := br.frozen
    have cr := br.cell
    have hv : Hid (decide (0 < (pairs s).length) = decide (nameP s)) := by
      show _ = _
      by_cases h : nameP s
      · rw [decide_eq_true h, decide_eq_true (by have := h.1; omega)]
      · rw [decide_eq_false h, decide_eq_false (fun h2 => h ⟨by omega, hl3, hall⟩)]
    generalize (pairs s).length = n at *
    have hRz : ∀ v, ((W.setCell ⟨w.heap.size, 0, none⟩ v).putObj D (.deferred none)).cell? ⟨w.heap.size, 0, none⟩ = some v := fun v => by
      have : Boxed ((W.setCell ⟨w.heap.size, 0, none⟩ v).putObj D (.deferred none)) w.heap.size 4 v := (World.putObj_heap_other (by omega)).trans (br.set v)
      exact this.cell
    have hK2 : ∀ v, (W.setCell ⟨w.heap.size, 0, none⟩ v).heap[D]? = some (Obj.deferred (some [])) := fun v =>
      ((grownBy_setCell' W w.heap.size v).block D (Array.getElem?_eq_some_iff.1 hK).1 (fun h => by injection h; omega)).trans hK
    have hB2 := fun v => hB.setCell (p := ⟨w.heap.size, 0, none⟩) (Nat.le_refl _) v
    gi_wp2
    refine ⟨by simp, .inl ⟨_, _, rfl, run_takeDeferred (hK2 _), ?_⟩⟩
    refine ⟨_, results_box4 rfl _ _ w.heap.size _ (by rfl) (hRz _), ?_, (hB2 _).trans (belowK_b (w := w) (Nat.le_refl _) _ D _ _ (by omega) (hK2 _) rfl rfl)⟩
    rw [← hv.out]
  case stop =>
    rintro D c pre W hD hp ⟨⟨br, rfl, hbad⟩, hB⟩ hK
    have hv : Hid (decide (nameP s) = false) := by
      refine decide_eq_false ?_
      rintro ⟨_, h2, h3⟩
      rcases hbad with h | ⟨x, hx, hc⟩
      · have := hp.length_le
        omega
      · exact hc (h3 x (hp.subset hx))
    have hRz : (W.putObj D (.deferred none)).cell? ⟨w.heap.size, 0, none⟩ = some (.bool false) := by
      have : Boxed (W.putObj D (.deferred none)) w.heap.size 4 (.bool false) := (World.putObj_heap_other (by omega)).trans br
      exact this.cell
    gi_wp2
    refine ⟨by simp, .inl ⟨_, _, rfl, run_takeDeferred hK, ?_⟩⟩
    refine ⟨_, results_box4 rfl _ _ w.heap.size _ (by rfl) hRz, ?_, hB.trans (belowK_b (w := w) (Nat.le_refl _) _ D _ _ (by omega) hK rfl rfl)⟩
    rw [hv.out]
end Go.Proofs.YtcocbjipikeebaaDoor.Utf
