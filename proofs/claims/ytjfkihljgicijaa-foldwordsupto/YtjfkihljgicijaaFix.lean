/-
  The program's Fix: what is written for the runes at the text's places, one behind the other, for every text short enough for a builder.
-/
import Derived.Test.YtjfkihljgicijaaSeq
import Derived.Test.YtjfkihljgicijaaBld
import Derived.Test.YtjfkihljgicijaaBst
import Derived.Test.YtjfkihljgicijaaUtfw
namespace Go.Proofs.Ytjfkihljgicijaa.Utf
open Go Go.Lib Go.RowKit Go.Shelf
attribute [local go_sem] Oper.semAt_some

/-- A builder that the call has made stands where only what is no cells turns. -/
theorem builderAtF_kept {T e : TypeId} {B b : Nat} {p : Value} {bs : List Value} {W W' : World} {row : Option Nat} (h : Lib.BuilderAtF T e B b p bs W) (hg : W.grownBy W' row)
    (hr : ∀ r, row = some r → ∃ o : Obj, W.heap[r]? = some o ∧ o.isCells = false) : Lib.BuilderAtF T e B b p bs W' := by
  obtain ⟨hB, v, hbk, hown, hne⟩ := h
  have hlt : b < W.heap.size := (Array.getElem?_eq_some_iff.1 hbk).1
  refine ⟨hB, v, ?_, hown.kept hg ?_, hne⟩
  · rw [hg.block b hlt (fun e => by obtain ⟨o, ho, hc⟩ := hr b e.symm; rw [hbk] at ho; cases ho; cases hc)]
    exact hbk
  · cases hv : v.ownBlock with
    | none => exact .inl rfl
    | some g =>
      refine .inr (fun e => ?_)
      obtain ⟨o, ho, hc⟩ := hr g e.symm
      obtain ⟨c, fz, hcc⟩ := Lib.ownsRowF_kind hown g hv
      rw [hcc] at ho; cases ho; cases hc
theorem isBuilderF_kept {T e : TypeId} {B b : Nat} {bs : List Value} {W W' : World} {row : Option Nat} (h : Lib.IsBuilderF T e B b bs W) (hg : W.grownBy W' row)
    (hr : ∀ r, row = some r → ∃ o : Obj, W.heap[r]? = some o ∧ o.isCells = false) : Lib.IsBuilderF T e B b bs W' :=
  h.elim (fun x => .inl (builderAtF_kept x hg hr)) (fun x => .inr (builderAtF_kept x hg hr))
theorem builder_own {α : Type} (T e : TypeId) (B b : Nat) (f : List α → List Value) : Own (fun pre W => Lib.IsBuilderF T e B b (f pre) W) := fun _ _ _ _ hs hg hr => isBuilderF_kept hs hg hr
theorem isBuilderF_new (T e : TypeId) (w : World) : Lib.IsBuilderF T e w.heap.size w.heap.size [] (w.alloc (.cells #[.pointer none, .slice none 0 0] T)) :=
  .inl ⟨Nat.le_refl _, .slice none 0 0, World.alloc_heap_new w _, World.ownsRowF_nil _ _ _ _, by simp [Value.ownBlock]⟩
theorem strCells_bytes (s : ByteArray) : Lib.strCells s = Lib.byteCells s.data.toList := by
  simp [Lib.strCells, Lib.byteCells]
theorem byteCells_append (a b : List UInt8) : Lib.byteCells (a ++ b) = Lib.byteCells a ++ Lib.byteCells b := by simp [Lib.byteCells]
set_option maxRecDepth 100000 in
set_option maxHeartbeats 2000000 in
theorem fix_any (s : ByteArray) (w : World) (hs : s.size ≤ 8796093022208) :
    Calls Try.prog 23 #[.string s] w fun e W' => e = .returned (.string ⟨(encs (pairs s)).toArray⟩) ∧ Below w.heap.size w W' := by
  refine (callsIn_wide (n := 3)).1 ?_
  have hro : Fence.wide.round = none := rfl
  have hpl := pairs_le s
  refine callsIn_of_wp_marks Try.func23 rfl trivial ?_ hro
  simp only [Try.ntmps23, List.size_toArray, List.length_cons, List.length_nil, Nat.reduceAdd, Nat.reduceSub, Array.replicate_succ, Array.replicate_zero, List.push_toArray, List.append_toArray, List.nil_append, List.cons_append]
  gi_wp2_with (refine ⟨trivial, ?_⟩; gi_at_call 29; refine (all_in Fence.wide _ trivial hro _ _).mono ?_; rintro e w' ⟨rfl, rfl⟩)
  have bS := Boxed.new (w.alloc (.cells #[.pointer none, .slice none 0 0] 40)) 9 (.string s)
  rw [World.size_alloc] at bS
  have hB0 : Below w.heap.size w ((w.alloc (.cells #[.pointer none, .slice none 0 0] 40)).alloc (.cells #[.string s] 9)) := ((Below.refl _ w).alloc (Nat.le_refl _) _).alloc (by simp) _
  have hI0 : Lib.IsBuilderF 40 5 w.heap.size w.heap.size (Lib.byteCells (encs [])) ((w.alloc (.cells #[.pointer none, .slice none 0 0] 40)).alloc (.cells #[.string s] 9)) := (isBuilderF_new 40 5 w).alloc _
  refine wpIn_rangeFunc_ownG hro (by omega) (gf := 36) (lb := #[.pointer (some ⟨w.heap.size + 1, 0, none⟩)]) rfl trivial (enters_of Try.func36 (by kernel_rfl) rfl)
    (all_stops Fence.wide _ trivial hro (by omega) (w.heap.size + 1) s _ (by simp) bS.cell) walksK_t walksK_b (Below.refl _ _) (fun _ => rfl)
    (fun pre W => Lib.IsBuilderF 40 5 w.heap.size w.heap.size (Lib.byteCells (encs pre)) W ∧ Below w.heap.size w W)
    (fun _ _ _ => False)
    (OwnFrom.and (Own.from (builder_own 40 5 w.heap.size w.heap.size (fun pre => Lib.byteCells (encs pre))) _) (ownFrom_below (Nat.le_refl _) (by simp; omega)))
    (fun _ _ _ _ _ hs _ _ => hs)
    ⟨hI0, hB0⟩
    (fun x => { tmps := #[.string s, undef, .string ⟨#[]⟩, .pointer (some ⟨w.heap.size, 0, none⟩), undef, .int .i32 (x.2 : Int), .string s, .func (.func 36) #[] #[.pointer (some ⟨w.heap.size + 1, 0, none⟩)], .int .i64 (x.1 : Int), .int .i32 (x.2 : Int), undef, undef, undef, undef], defers := [] }) ?assign ?body ?done ?stop
  case assign =>
    intro l x W K hK
    gi_wp2
    exact hK
  case body =>
    rintro l pre x W ⟨hI, hB⟩ hpre
    have hz := (enc_size x.2).2
    have hel := encs_le pre
    have cW := fun h => writeString_any w.heap.size w.heap.size (Lib.byteCells (encs pre)) (Utf8.encode x.2) W hI h hB.size
    rw [Lib.byteCells_length] at cW
    have cW' := cW (by omega)
    clear cW hI
    gi_wp2_with (refine ⟨trivial, ?_⟩; gi_at_call 22; refine (CallsIn.inRound l (callsIn_wide.2 (encode_any _ _))).mono ?_; rintro e w' ⟨rfl, rfl⟩)
    refine ⟨trivial, ?_⟩
    refine (CallsIn.inRound l (callsIn_wide.2 cW')).mono ?_
    rintro e w2 ⟨rfl, hA, hb2, hk2⟩
    gi_wp2
    refine ⟨hk2.from _, hk2.walks, ?_, hB.trans hb2⟩
    have e1 : Lib.byteCells (encs (pre ++ [x])) = Lib.byteCells (encs pre) ++ Lib.strCells (Utf8.encode x.2) := by
      rw [encs_snoc, byteCells_append, strCells_bytes]; rfl
    rw [e1]
    exact .inr hA
  case done =>
    rintro D ys W hD rfl ⟨hI, hB⟩ hK
    gi_wp2_with (refine ⟨trivial, ?_⟩; gi_at_call 31; refine (callsIn_wide.2 (string_any w.heap.size w.heap.size _ _ hI hB.size)).mono ?_)
    rintro e w2 ⟨rfl, hb2, hk2⟩
    have hK2 := hk2.same D _ hK rfl
    gi_wp2
    refine ⟨by simp, .inl ⟨_, _, rfl, run_takeDeferred hK2, ?_⟩⟩
    exact ⟨_, results_tmp rfl _ _ _, rfl, (hB.trans hb2).trans (belowK_b (w := w) (Nat.le_refl _) _ D _ _ (by simp at hD; omega) hK2 rfl rfl)⟩
  case stop =>
    rintro D c pre W _ _ h _
    exact h.elim
end Go.Proofs.Ytjfkihljgicijaa.Utf
