/-
  Layer 9, as mathematics: the order of words; lists of words in their order.
-/
import Derived.Test.YtcocbjipikeebaaDoorProg
import Derived.Test.YtcocbjipikeebaaDoorNewq
import Derived.Laws.OwnMore
import Derived.Laws.BytesArg
import Derived.Lib.OwnKind
import Derived.Maps.OwnSet
import Derived.Maps.Views
import Derived.Maps.RangeWalk
namespace Go.Proofs.YtcocbjipikeebaaDoor.Utf

def cmpI (a b : Int) : Int := if a < b then -1 else if b < a then 1 else 0
theorem cmpI_zero {a b : Int} : cmpI a b = 0 ↔ a = b := by
  unfold cmpI
  by_cases h1 : a < b
  · rw [if_pos h1]; omega
  · rw [if_neg h1]
    by_cases h2 : b < a
    · rw [if_pos h2]; omega
    · rw [if_neg h2]; omega
theorem cmpI_lt {a b : Int} : cmpI a b < 0 ↔ a < b := by
  unfold cmpI
  by_cases h1 : a < b
  · rw [if_pos h1]; omega
  · rw [if_neg h1]
    by_cases h2 : b < a
    · rw [if_pos h2]; omega
    · rw [if_neg h2]; omega
theorem cmpI_gt {a b : Int} : 0 < cmpI a b ↔ b < a := by
  unfold cmpI
  by_cases h1 : a < b
  · rw [if_pos h1]; omega
  · rw [if_neg h1]
    by_cases h2 : b < a
    · rw [if_pos h2]; omega
    · rw [if_neg h2]; omega
theorem cmpI_bd (a b : Int) : -1 ≤ cmpI a b ∧ cmpI a b ≤ 1 := by
  unfold cmpI
  by_cases h1 : a < b
  · rw [if_pos h1]; omega
  · rw [if_neg h1]
    by_cases h2 : b < a
    · rw [if_pos h2]; omega
    · rw [if_neg h2]; omega
theorem cmpI_neg (a b : Int) : cmpI b a = - cmpI a b := by
  unfold cmpI
  by_cases h1 : a < b
  · have h2 : ¬ b < a := by omega
    rw [if_neg h2, if_pos h1, if_pos h1]; rfl
  · by_cases h2 : b < a
    · rw [if_pos h2, if_neg h1, if_pos h2]
    · rw [if_neg h2, if_neg h1, if_neg h1, if_neg h2]; rfl
/-- The first unlike number decides; what is shorter is ahead of what goes on. -/
def cmpL : List Int → List Int → Int
  | [], [] => 0
  | [], _ :: _ => -1
  | _ :: _, [] => 1
  | a :: p, b :: q => if cmpI a b = 0 then cmpL p q else cmpI a b
theorem cmpL_bd : ∀ (p q : List Int), -1 ≤ cmpL p q ∧ cmpL p q ≤ 1
  | [], [] => by decide
  | [], _ :: _ => by unfold cmpL; omega
  | _ :: _, [] => by unfold cmpL; omega
  | a :: p, b :: q => by
    unfold cmpL
    by_cases h : cmpI a b = 0
    · rw [if_pos h]; exact cmpL_bd p q
    · rw [if_neg h]; exact cmpI_bd a b
theorem cmpL_zero : ∀ {p q : List Int}, cmpL p q = 0 ↔ p = q
  | [], [] => by simp [cmpL]
  | [], _ :: _ => by simp [cmpL]
  | _ :: _, [] => by simp [cmpL]
  | a :: p, b :: q => by
    unfold cmpL
    by_cases h : cmpI a b = 0
    · rw [if_pos h, cmpL_zero, cmpI_zero.1 h]; simp
    · rw [if_neg h]
      constructor
      · intro e; exact absurd e h
      · intro e
        injection e with e1 _
        exact absurd (cmpI_zero.2 e1) h
theorem cmpL_neg : ∀ (p q : List Int), cmpL q p = - cmpL p q
  | [], [] => rfl
  | [], _ :: _ => rfl
  | _ :: _, [] => rfl
  | a :: p, b :: q => by
    unfold cmpL
    have e : cmpI b a = - cmpI a b := by
      unfold cmpI
      by_cases h1 : a < b
      · have h2 : ¬ b < a := by omega
        simp [h1, h2]
      · by_cases h2 : b < a
        · simp [h1, h2]
        · simp [h1, h2]
    by_cases h : cmpI a b = 0
    · rw [if_pos h, if_pos (by omega), cmpL_neg p q]
    · rw [if_neg h, if_neg (by omega), e]
theorem cmpL_trans : ∀ {p q r : List Int}, cmpL p q < 0 → cmpL q r < 0 → cmpL p r < 0
  | [], [], _, h, _ => by unfold cmpL at h; omega
  | _ :: _, [], _, h, _ => by unfold cmpL at h; omega
  | _, _ :: _, [], _, h => by unfold cmpL at h; omega
  | [], _ :: _, _ :: _, _, _ => by unfold cmpL; omega
  | a :: p, b :: q, c :: r, h1, h2 => by
    unfold cmpL at h1 h2 ⊢
    by_cases e1 : cmpI a b = 0
    · rw [if_pos e1] at h1
      have e1' := cmpI_zero.1 e1
      subst e1'
      by_cases e2 : cmpI a c = 0
      · rw [if_pos e2] at h2 ⊢
        exact cmpL_trans h1 h2
      · rw [if_neg e2] at h2 ⊢
        exact h2
    · rw [if_neg e1] at h1
      have l1 := cmpI_lt.1 h1
      by_cases e2 : cmpI b c = 0
      · have e2' := cmpI_zero.1 e2
        subst e2'
        rw [if_neg e1]
        exact h1
      · rw [if_neg e2] at h2
        have l2 := cmpI_lt.1 h2
        have l3 : cmpI a c < 0 := cmpI_lt.2 (by omega)
        rw [if_neg (by omega)]
        exact l3
/-- The order of words. -/
def ordI (p q : List Int) : Int := if cmpI p.length q.length = 0 then cmpL p q else cmpI p.length q.length
theorem ordI_bd (p q : List Int) : -1 ≤ ordI p q ∧ ordI p q ≤ 1 := by
  unfold ordI
  by_cases h : cmpI p.length q.length = 0
  · rw [if_pos h]; exact cmpL_bd p q
  · rw [if_neg h]; exact cmpI_bd _ _
theorem ordI_zero {p q : List Int} : ordI p q = 0 ↔ p = q := by
  unfold ordI
  by_cases h : cmpI p.length q.length = 0
  · rw [if_pos h]; exact cmpL_zero
  · rw [if_neg h]
    constructor
    · intro e; exact absurd e h
    · intro e; subst e; exact absurd (cmpI_zero.2 rfl) h
theorem ordI_neg (p q : List Int) : ordI q p = - ordI p q := by
  unfold ordI
  have e := cmpI_neg (p.length : Int) q.length
  by_cases h : cmpI (p.length : Int) q.length = 0
  · rw [if_pos h, if_pos (by omega), cmpL_neg]
  · rw [if_neg h, if_neg (by omega), e]
theorem ordI_trans {p q r : List Int} (h1 : ordI p q < 0) (h2 : ordI q r < 0) : ordI p r < 0 := by
  unfold ordI at h1 h2 ⊢
  by_cases e1 : cmpI (p.length : Int) q.length = 0
  · rw [if_pos e1] at h1
    have l1 := cmpI_zero.1 e1
    rw [l1]
    by_cases e2 : cmpI (q.length : Int) r.length = 0
    · rw [if_pos e2] at h2 ⊢
      exact cmpL_trans h1 h2
    · rw [if_neg e2] at h2 ⊢
      exact h2
  · rw [if_neg e1] at h1
    by_cases e2 : cmpI (q.length : Int) r.length = 0
    · have l2 := cmpI_zero.1 e2
      rw [← l2, if_neg e1]
      exact h1
    · rw [if_neg e2] at h2
      have l1 := cmpI_lt.1 h1
      have l2 := cmpI_lt.1 h2
      have l3 : cmpI (p.length : Int) r.length < 0 := cmpI_lt.2 (by omega)
      rw [if_neg (by omega)]
      exact l3

/-- A word and its score into their place. -/
def putL : List (List Int × Int) → List Int → Int → List (List Int × Int)
  | [], c, s => [(c, s)]
  | x :: l, c, s => if ordI x.1 c < 0 then x :: putL l c s else if ordI x.1 c = 0 then (x.1, max x.2 s) :: l else (c, s) :: x :: l
def lookL (l : List (List Int × Int)) (c : List Int) : Option Int := (l.find? fun x => decide (x.1 = c)).map (·.2)
/-- In their order, each once. -/
def SortL (l : List (List Int × Int)) : Prop := l.Pairwise fun x y => ordI x.1 y.1 < 0
theorem lookL_nil (c : List Int) : lookL [] c = none := rfl
theorem lookL_cons (x : List Int × Int) (l : List (List Int × Int)) (c : List Int) : lookL (x :: l) c = if x.1 = c then some x.2 else lookL l c := by
  unfold lookL
  by_cases h : x.1 = c
  · rw [List.find?_cons_of_pos (by simp [h]), if_pos h]; rfl
  · rw [List.find?_cons_of_neg (by simp [h]), if_neg h]
theorem putL_mem {l : List (List Int × Int)} {c : List Int} {s : Int} {x : List Int × Int} (h : x ∈ putL l c s) : x.1 = c ∨ x ∈ l := by
  induction l with
  | nil => simp [putL] at h; exact .inl (by rw [h])
  | cons y l ih =>
    unfold putL at h
    by_cases h1 : ordI y.1 c < 0
    · rw [if_pos h1] at h
      rcases List.mem_cons.1 h with rfl | h
      · exact .inr (by simp)
      · rcases ih h with e | e
        · exact .inl e
        · exact .inr (by simp [e])
    · rw [if_neg h1] at h
      by_cases h2 : ordI y.1 c = 0
      · rw [if_pos h2] at h
        rcases List.mem_cons.1 h with rfl | h
        · exact .inl (ordI_zero.1 h2)
        · exact .inr (by simp [h])
      · rw [if_neg h2] at h
        rcases List.mem_cons.1 h with rfl | h
        · exact .inl rfl
        · exact .inr h
theorem putL_sort {l : List (List Int × Int)} (h : SortL l) (c : List Int) (s : Int) : SortL (putL l c s) := by
  induction l with
  | nil => exact List.pairwise_singleton _ _
  | cons y l ih =>
    obtain ⟨h1, h2⟩ := List.pairwise_cons.1 h
    unfold putL
    by_cases e1 : ordI y.1 c < 0
    · rw [if_pos e1]
      refine List.pairwise_cons.2 ⟨fun z hz => ?_, ih h2⟩
      rcases putL_mem hz with e | e
      · rw [e]; exact e1
      · exact h1 z e
    · rw [if_neg e1]
      by_cases e2 : ordI y.1 c = 0
      · rw [if_pos e2]
        exact List.pairwise_cons.2 ⟨fun z hz => h1 z hz, h2⟩
      · rw [if_neg e2]
        have e3 : ordI c y.1 < 0 := by have := ordI_neg y.1 c; omega
        refine List.pairwise_cons.2 ⟨fun z hz => ?_, h⟩
        rcases List.mem_cons.1 hz with rfl | hz
        · exact e3
        · exact ordI_trans e3 (h1 z hz)
theorem lookL_ahead {l : List (List Int × Int)} {c : List Int} (h : ∀ x ∈ l, ordI c x.1 < 0) : lookL l c = none := by
  unfold lookL
  rw [List.find?_eq_none.2]
  · rfl
  · intro x hx e
    have h1 := h x hx
    have h2 : x.1 = c := of_decide_eq_true e
    rw [h2] at h1
    have := ordI_zero.2 (rfl : c = c)
    omega
theorem lookL_put {l : List (List Int × Int)} (h : SortL l) (c : List Int) (s : Int) (d : List Int) :
    lookL (putL l c s) d = if d = c then some (match lookL l c with | some t => max t s | none => s) else lookL l d := by
  induction l with
  | nil =>
    unfold putL
    rw [lookL_cons, lookL_nil, lookL_nil]
    by_cases e : d = c
    · rw [if_pos e, if_pos e.symm]
    · rw [if_neg e, if_neg (fun x => e x.symm)]
  | cons y l ih =>
    obtain ⟨h1, h2⟩ := List.pairwise_cons.1 h
    unfold putL
    by_cases e1 : ordI y.1 c < 0
    · rw [if_pos e1, lookL_cons, ih h2, lookL_cons, lookL_cons]
      have hne : y.1 ≠ c := fun e => by rw [ordI_zero.2 e] at e1; omega
      rw [if_neg hne]
      by_cases e : d = c
      · subst e
        rw [if_neg hne, if_pos rfl, if_pos rfl]
      · rw [if_neg e, if_neg e]
    · rw [if_neg e1]
      by_cases e2 : ordI y.1 c = 0
      · have e3 := ordI_zero.1 e2
        rw [if_pos e2, lookL_cons, lookL_cons, lookL_cons]
        simp only
        rw [if_pos e3]
        by_cases e : d = c
        · rw [if_pos e, if_pos (e3.trans e.symm)]
        · rw [if_neg e, if_neg (fun x => e (x.symm.trans e3)), if_neg (fun x => e (x.symm.trans e3))]
      · rw [if_neg e2, lookL_cons]
        have e3 : ordI c y.1 < 0 := by have := ordI_neg y.1 c; omega
        have hn : lookL (y :: l) c = none := lookL_ahead fun x hx => by
          rcases List.mem_cons.1 hx with rfl | hx
          · exact e3
          · exact ordI_trans e3 (h1 x hx)
        rw [hn]
        by_cases e : d = c
        · rw [if_pos e, if_pos e.symm]
        · rw [if_neg e, if_neg (fun x => e x.symm)]
theorem putL_len {l : List (List Int × Int)} (h : SortL l) (c : List Int) (s : Int) : (putL l c s).length = if (lookL l c).isSome then l.length else l.length + 1 := by
  induction l with
  | nil => rfl
  | cons y l ih =>
    obtain ⟨h1, h2⟩ := List.pairwise_cons.1 h
    unfold putL
    rw [lookL_cons]
    by_cases e1 : ordI y.1 c < 0
    · have hne : y.1 ≠ c := fun e => by rw [ordI_zero.2 e] at e1; omega
      rw [if_pos e1, if_neg hne, List.length_cons, ih h2]
      by_cases e : (lookL l c).isSome = true
      · rw [if_pos e, if_pos e]; rfl
      · rw [if_neg e, if_neg e]; rfl
    · rw [if_neg e1]
      by_cases e2 : ordI y.1 c = 0
      · rw [if_pos e2, if_pos (ordI_zero.1 e2)]; rfl
      · have hne : y.1 ≠ c := fun e => e2 (ordI_zero.2 e)
        have e3 : ordI c y.1 < 0 := by have := ordI_neg y.1 c; omega
        rw [if_neg e2, if_neg hne, lookL_ahead fun x hx => ordI_trans e3 (h1 x hx)]
        rfl
theorem lookL_mem {l : List (List Int × Int)} (h : SortL l) {c : List Int} {s : Int} : lookL l c = some s ↔ (c, s) ∈ l := by
  induction l with
  | nil => simp [lookL_nil]
  | cons y l ih =>
    obtain ⟨h1, h2⟩ := List.pairwise_cons.1 h
    rw [lookL_cons]
    by_cases e : y.1 = c
    · rw [if_pos e]
      constructor
      · intro e2
        have e3 := Option.some.inj e2
        exact List.mem_cons.2 (.inl (Prod.ext e.symm e3.symm))
      · intro hm
        rcases List.mem_cons.1 hm with e2 | hm
        · rw [← e2]
        · have := h1 _ hm
          rw [ordI_zero.2 e] at this
          omega
    · rw [if_neg e, ih h2]
      constructor
      · intro hm; exact List.mem_cons.2 (.inr hm)
      · intro hm
        rcases List.mem_cons.1 hm with e2 | hm
        · rw [← e2] at e; exact absurd rfl e
        · exact hm
/-- One list alone is in its order and has just these words. -/
theorem sortL_unique : ∀ {l m : List (List Int × Int)}, SortL l → SortL m → (∀ x, x ∈ l ↔ x ∈ m) → l = m
  | [], [], _, _, _ => rfl
  | [], y :: m, _, _, h => by have := (h y).2 (by simp); cases this
  | x :: l, [], _, _, h => by have := (h x).1 (by simp); cases this
  | x :: l, y :: m, h1, h2, h => by
    obtain ⟨a1, a2⟩ := List.pairwise_cons.1 h1
    obtain ⟨b1, b2⟩ := List.pairwise_cons.1 h2
    have hself : ∀ z : List Int, ¬ ordI z z < 0 := fun z hz => by rw [ordI_zero.2 rfl] at hz; omega
    have e : x = y := by
      rcases List.mem_cons.1 ((h x).1 (by simp)) with e | hx
      · exact e
      · rcases List.mem_cons.1 ((h y).2 (by simp)) with e | hy
        · exact e.symm
        · exact absurd (ordI_trans (a1 y hy) (b1 x hx)) (hself _)
    subst e
    congr 1
    refine sortL_unique a2 b2 fun z => ?_
    constructor
    · intro hz
      rcases List.mem_cons.1 ((h z).1 (by simp [hz])) with e | hz2
      · subst e; exact absurd (a1 z hz) (hself _)
      · exact hz2
    · intro hz
      rcases List.mem_cons.1 ((h z).2 (by simp [hz])) with e | hz2
      · subst e; exact absurd (b1 z hz) (hself _)
      · exact hz2
end Go.Proofs.YtcocbjipikeebaaDoor.Utf
/-
  Numbers of 64 bits as cells.
-/
namespace Go.Proofs.YtcocbjipikeebaaDoor.Utf
open Go

/-- Numbers of 64 bits as cells. -/
def ints (zs : List Int) : List Value := zs.map (Value.int .i64)
end Go.Proofs.YtcocbjipikeebaaDoor.Utf
/-
  The program's keyOf, add, check, Len.
-/
namespace Go.Proofs.YtcocbjipikeebaaDoor.Utf
open Go Go.Lib Go.RowKit

/-- A word's key: a byte for each letter. -/
def mkB (p : List Int) : List UInt8 := p.map fun c => UInt8.ofNat c.toNat
theorem mkB_length (p : List Int) : (mkB p).length = p.length := by simp [mkB]
/-- A byte's number. -/
def isBt (x : Int) : Prop := 0 ≤ x ∧ x < 256
theorem mkB_inj : ∀ {p q : List Int}, (∀ x ∈ p, isBt x) → (∀ x ∈ q, isBt x) → mkB p = mkB q → p = q
  | [], [], _, _, _ => rfl
  | [], _ :: _, _, _, h => by simp [mkB] at h
  | _ :: _, [], _, _, h => by simp [mkB] at h
  | a :: p, b :: q, h1, h2, h => by
    unfold mkB at h
    rw [List.map_cons, List.map_cons] at h
    injection h with e1 e2
    have ha := h1 a (by simp)
    have hb := h2 b (by simp)
    unfold isBt at ha hb
    have := congrArg UInt8.toNat e1
    rw [UInt8.toNat_ofNat', UInt8.toNat_ofNat', Nat.mod_eq_of_lt (by omega), Nat.mod_eq_of_lt (by omega)] at this
    rw [mkB_inj (fun x hx => h1 x (by simp [hx])) (fun x hx => h2 x (by simp [hx])) e2, show a = b by omega]
theorem infoU8 : (Tryd.prog.info? 5).map (fun i => (i.zero, i.size, i.bytes)) = some (some (.int .u8 0), 1, 1) := by kernel_rfl
theorem own_conv8 {W : World} {B : Nat} {v : Value} {l : List UInt8} (h : W.ownsRow B 5 1 v l.length (Lib.byteCells l)) :
    (convert 50 9 v).run Tryd.prog W = .ok (.string ⟨l.toArray⟩) W := by
  have hh := h
  rcases h.2 with ⟨rfl, h0⟩ | ⟨g, cap, cur, rfl, hb, _⟩
  · have : l = [] := List.eq_nil_of_length_eq_zero h0
    subst this
    exact run_convert_bytes_nil W 50 5 Tryd.underlying50 Tryd.underlying5 0 0 9 Tryd.underlying9
  · exact run_convert_bytes_back W 50 9 5 ⟨g, 0, none⟩ cap l Tryd.underlying50 Tryd.underlying5 Tryd.underlying9 (fun j hj => hh.cells (g := g) rfl j (.int .u8 (l[j].toNat : Int)) (by simp [Lib.byteCells, hj]))
theorem ownsRow_u8 (w : World) (n : Nat) (hm : n ≤ maxLen) : (w.alloc (.cells (madeCells #[.int .u8 0] n) 5)).ownsRow w.heap.size 5 1 (.slice (some ⟨w.heap.size, 0, none⟩) n n) n (List.replicate n (.int .u8 0)) := by
  refine ⟨by simp, .inr ⟨w.heap.size, n, _, rfl, Nat.le_refl _, heap_alloc_new w _, Nat.le_refl _, hm, by simp [size_madeCells], ?_⟩⟩
  rw [toList_madeCells_one, Nat.mul_one, List.take_of_length_le (by simp)]
def byF (p : List Int) (k : Nat) : List Value := (p.take k).map (Value.int .u8) ++ List.replicate (p.length - k) (Value.int .u8 0)
theorem byF_zero (p : List Int) : byF p 0 = List.replicate p.length (Value.int .u8 0) := by simp [byF]
theorem byF_full {p : List Int} (h : ∀ x ∈ p, isBt x) : byF p p.length = Lib.byteCells (mkB p) := by
  unfold byF Lib.byteCells mkB
  rw [List.take_length, Nat.sub_self, List.replicate_zero, List.append_nil, List.map_map]
  apply List.map_congr_left
  intro x hx
  have := h x hx
  unfold isBt at this
  show Value.int .u8 x = Value.int .u8 (((UInt8.ofNat x.toNat).toNat : Nat) : Int)
  rw [UInt8.toNat_ofNat', Nat.mod_eq_of_lt (by omega), show ((x.toNat : Nat) : Int) = x by omega]
theorem byF_next (p : List Int) {k : Nat} (h : k < p.length) : (byF p k).set k (.int .u8 p[k]) = byF p (k + 1) := by
  unfold byF
  have hl : ((p.take k).map (Value.int .u8)).length = k := by rw [List.length_map, List.length_take]; omega
  rw [List.set_append_right _ _ (by omega), hl, Nat.sub_self, show p.length - k = (p.length - (k + 1)) + 1 by omega, List.replicate_succ, List.set_cons_zero, List.take_succ_eq_append_getElem h, List.map_append, List.append_assoc]
  rfl

end Go.Proofs.YtcocbjipikeebaaDoor.Utf
/-
  A map of scores as a list of entries; the program's add.
-/
namespace Go.Proofs.YtcocbjipikeebaaDoor.Utf
open Go Go.Lib Go.RowKit

abbrev DU := DataW Unit
/-- The map that reads as D holds the entries l. -/
structure ScD (D : DU) (l : List (List Int × Int)) : Prop where
  sort : SortL l
  byt : ∀ x ∈ l, ∀ z ∈ x.1, isBt z
  tidy : Maps.Tidy D
  size : Maps.size D = l.length
  at_ : ∀ p n, (p, n) ∈ l → ∀ z, D.atKey (.string (mkB p)) z = .lit (.int .i64 n)
  keys : ∀ kl, Maps.has D kl = true → ∃ x ∈ l, kl = .string (mkB x.1)
theorem ScD.empty : ScD (.map []) [] := ⟨List.Pairwise.nil, fun _ h => (by cases h), Maps.tidy_empty, rfl, fun _ _ h => (by cases h), fun kl h => (by simp [Maps.has] at h)⟩
theorem ScD.some_ {D : DU} {l : List (List Int × Int)} (h : ScD D l) {c : List Int} {n : Int} (hl : lookL l c = some n) : (∀ z, D.atKey (.string (mkB c)) z = .lit (.int .i64 n)) ∧ Maps.has D (.string (mkB c)) = true :=
  have h1 := h.at_ c n ((lookL_mem h.sort).1 hl)
  ⟨h1, Maps.has_true_of_atKey h1⟩
theorem ScD.none_ {D : DU} {l : List (List Int × Int)} (h : ScD D l) {c : List Int} (hc : ∀ z ∈ c, isBt z) (hl : lookL l c = none) : Maps.has D (.string (mkB c)) = false := by
  cases e : Maps.has D (.string (mkB c)) with
  | false => rfl
  | true =>
    obtain ⟨x, hx, hk⟩ := h.keys _ e
    injection hk with hk
    have := mkB_inj hc (h.byt x hx) hk
    have := (lookL_mem h.sort (c := c) (s := x.2)).2 (by rw [this]; exact hx)
    rw [hl] at this
    cases this
theorem ScD.has_ {D : DU} {l : List (List Int × Int)} (h : ScD D l) {c : List Int} (hc : ∀ z ∈ c, isBt z) : Maps.has D (.string (mkB c)) = (lookL l c).isSome := by
  cases e : lookL l c with
  | none => exact h.none_ hc e
  | some n => exact (h.some_ e).2
theorem ScD.put {D : DU} {l : List (List Int × Int)} (h : ScD D l) {c : List Int} (hc : ∀ z ∈ c, isBt z) {s m : Int} (hm : lookL (putL l c s) c = some m) : ScD (D.put (.string (mkB c)) (.lit (.int .i64 m))) (putL l c s) := by
  have hk : WideAt.IsKeyLit (.string (mkB c)) := trivial
  have hs := putL_sort h.sort c s
  have hlk := fun d => lookL_put h.sort c s d
  refine ⟨hs, ?_, h.tidy.put hk _, ?_, ?_, ?_⟩
  · intro x hx
    rcases putL_mem hx with e | hx
    · rw [e]; exact hc
    · exact h.byt x hx
  · rw [Maps.size_put h.tidy, putL_len h.sort, h.has_ hc, h.size]
  · intro p n hp z
    by_cases e : p = c
    · subst e
      rw [Maps.atKey_put_same h.tidy.isMap hk]
      have := (lookL_mem hs).2 hp
      rw [hm] at this
      injection this with this
      rw [this]
    · have h1 := (lookL_mem hs).2 hp
      rw [hlk, if_neg e] at h1
      have hp' := (lookL_mem h.sort).1 h1
      rw [Maps.atKey_put_other (fun hh => by injection hh with hh; exact e (mkB_inj (h.byt _ hp') hc hh))]
      exact h.at_ p n hp' z
  · intro kl hkl
    by_cases e : kl = .string (mkB c)
    · exact ⟨(c, m), (lookL_mem hs).1 hm, e⟩
    · rw [Maps.has_put_other e] at hkl
      obtain ⟨x, hx, hk2⟩ := h.keys kl hkl
      refine ⟨x, (lookL_mem hs).1 ?_, hk2⟩
      rw [hlk, if_neg (fun hh => e (by rw [hk2, hh]))]
      exact (lookL_mem h.sort).2 hx
theorem keyStr : Maps.Keyed Tryd.prog 9 := Maps.string_keyed Tryd.underlying9
theorem zeroInt (w : World) : (zeroValue 3).run Tryd.prog w = .ok (.int .i64 0) w := by kernel_rfl
/-- The map in block B holds the entries l. -/
def ScW (w : World) (B n : Nat) (l : List (List Int × Int)) : Prop := ∃ D, ScD D l ∧ w.ownsMap Tryd.prog 9 (plainElem Tryd.prog 3) B n D

end Go.Proofs.YtcocbjipikeebaaDoor.Utf
