/-
  Reading a text letter by letter, the longest that stands at each place: what it is, and that the lowest rank that stands there is the longest.
-/
import Derived.Test.YtcocbjipikeebaaDoorNwpq
import Derived.WalkMore
import Derived.ScopeJumps
import Derived.ControlIn
import Derived.Maps.AppendAt
import Derived.Test.YtcocbjipikeebaaDoorNewq
import Derived.Test.YtcocbjipikeebaaDoorGub
import Derived.Test.YtcocbjipikeebaaDoorGxa
namespace Go.Proofs.YtcocbjipikeebaaDoor.Utf
open Go Go.Lib Go.RowKit

/-- A letter that the text begins with, and no longer one. -/
structure IsBest (L : List ByteArray) (t : ByteArray) (i : Nat) : Prop where
  lt : i < L.length
  pre : begins t L[i] = true
  max : ∀ j (h : j < L.length), begins t L[j] = true → L[j].size ≤ L[i].size

theorem begins_iff {t p : ByteArray} : begins t p = true ↔ p.data.toList <+: t.data.toList := by
  unfold begins Lib.hasPrefix
  exact List.isPrefixOf_iff_prefix
theorem ba_eq {a b : ByteArray} (h : a.data.toList = b.data.toList) : a = b := ByteArray.ext (Array.ext' h)
theorem ba_sz (a : ByteArray) : a.data.toList.length = a.size := Array.length_toList
theorem begins_same {t p q : ByteArray} (h1 : begins t p = true) (h2 : begins t q = true) (hs : p.size = q.size) : p = q := by
  have e1 := List.prefix_iff_eq_take.1 (begins_iff.1 h1)
  have e2 := List.prefix_iff_eq_take.1 (begins_iff.1 h2)
  refine ba_eq ?_
  rw [e1, e2, ba_sz, ba_sz, hs]

theorem IsBest.unique {L : List ByteArray} (hN : L.Nodup) {t : ByteArray} {i j : Nat} (h1 : IsBest L t i) (h2 : IsBest L t j) : i = j := by
  have a := h1.max j h2.lt h2.pre
  have b := h2.max i h1.lt h1.pre
  exact (List.getElem_inj (h₀ := h1.lt) (h₁ := h2.lt) hN).1 (begins_same h1.pre h2.pre (by omega))

open Classical in
noncomputable def best (L : List ByteArray) (t : ByteArray) : Option Nat := if h : ∃ i, IsBest L t i then some (Classical.choose h) else none
theorem best_some {L : List ByteArray} (hN : L.Nodup) {t : ByteArray} {i : Nat} (h : IsBest L t i) : best L t = some i := by
  unfold best
  have hx : ∃ i, IsBest L t i := ⟨i, h⟩
  rw [dif_pos hx]
  exact congrArg some (IsBest.unique hN (Classical.choose_spec hx) h)
theorem best_none {L : List ByteArray} {t : ByteArray} (h : ∀ j (hj : j < L.length), begins t L[j] = false) : best L t = none := by
  unfold best
  rw [dif_neg]
  rintro ⟨i, hi⟩
  have := hi.pre
  rw [h i hi.lt] at this
  cases this
theorem best_is {L : List ByteArray} {t : ByteArray} {i : Nat} (h : best L t = some i) : IsBest L t i := by
  unfold best at h
  split at h
  · rename_i hx
    rw [← Option.some.inj h]
    exact Classical.choose_spec hx
  · cases h

theorem Ranked.rank {L : List ByteArray} {rk : List Nat} (h : Ranked L rk) {j : Nat} (hj : j < L.length) : ∃ r, r < L.length ∧ rk[r]? = some j ∧ nmR L rk r = L[j] := by
  have hm : j ∈ rk := h.perm.mem_iff.2 (List.mem_range.2 hj)
  obtain ⟨r, hr, e⟩ := List.getElem_of_mem hm
  have hl : rk.length = L.length := by rw [h.perm.length_eq, List.length_range]
  refine ⟨r, by omega, by rw [List.getElem?_eq_getElem hr, e], ?_⟩
  unfold nmR
  rw [List.getElem?_eq_getElem hr, e, Option.getD_some, List.getElem?_eq_getElem hj]
  rfl
theorem Ranked.le {L : List ByteArray} {rk : List Nat} (h : Ranked L rk) {i j : Nat} (hij : i ≤ j) (hj : j < L.length) : (nmR L rk j).size ≤ (nmR L rk i).size := by
  rcases Nat.lt_or_ge i j with h1 | h1
  · exact h.sorted i j h1 hj
  · rw [show i = j by omega]; exact Nat.le_refl _

/-- The lowest rank that stands is the longest letter. -/
theorem stand_best {L : List ByteArray} {rk : List Nat} (h : Ranked L rk) {t : ByteArray} {k i : Nat} (hki : rk[k]? = some i) (hp : begins t (nmR L rk k) = true) (hn : ∀ j, 0 ≤ j → j < k → begins t (nmR L rk j) = false) : IsBest L t i ∧ ∃ hi : i < L.length, nmR L rk k = L[i] := by
  have hl : rk.length = L.length := by rw [h.perm.length_eq, List.length_range]
  have hi : i < L.length := by
    have : i ∈ rk := List.mem_of_getElem? hki
    exact List.mem_range.1 (h.perm.mem_iff.1 this)
  have he : nmR L rk k = L[i] := by
    unfold nmR
    rw [hki, Option.getD_some, List.getElem?_eq_getElem hi]
    rfl
  refine ⟨⟨hi, by rw [← he]; exact hp, fun j hj hb => ?_⟩, hi, he⟩
  obtain ⟨r, hr, _, e2⟩ := h.rank hj
  rw [← e2, ← he]
  by_cases hrk : r < k
  · have := hn r (Nat.zero_le _) hrk
    rw [e2, hb] at this
    cases this
  · exact h.le (by omega) hr
theorem stand_none {L : List ByteArray} {rk : List Nat} (h : Ranked L rk) {t : ByteArray} (hn : ∀ j, 0 ≤ j → j < L.length → begins t (nmR L rk j) = false) : best L t = none := by
  refine best_none fun j hj => ?_
  obtain ⟨r, hr, _, e2⟩ := h.rank hj
  rw [← e2]
  exact hn r (Nat.zero_le _) hr

/-- The length of a letter. -/
def lsz (L : List ByteArray) (i : Nat) : Nat := ((L[i]?).getD ⟨#[]⟩).size
theorem lsz_at {L : List ByteArray} {i : Nat} (h : i < L.length) : lsz L i = L[i].size := by unfold lsz; rw [List.getElem?_eq_getElem h]; rfl

/-- Reading on from a place, behind the letters that were read. -/
noncomputable def splitR (L : List ByteArray) (s : ByteArray) : Nat → Nat → List Nat → List Nat × Nat × Int
  | 0, at', _ => ([], at', 34)
  | f + 1, at', done => if at' = s.size then (done, 0, 0) else if done.length = 32 then ([], at', 34) else match best L (s.extract at' s.size) with
    | none => ([], at', 33)
    | some i => splitR L s f (at' + lsz L i) (done ++ [i])
noncomputable def splitS (L : List ByteArray) (s : ByteArray) : List Nat × Nat × Int := splitR L s 33 0 []
theorem splitR_end {L : List ByteArray} {s : ByteArray} {f at' : Nat} {done : List Nat} (h : at' = s.size) : splitR L s (f + 1) at' done = (done, 0, 0) := by rw [splitR, if_pos h]
theorem splitR_long {L : List ByteArray} {s : ByteArray} {f at' : Nat} {done : List Nat} (h : ¬ at' = s.size) (h2 : done.length = 32) : splitR L s (f + 1) at' done = ([], at', 34) := by rw [splitR, if_neg h, if_pos h2]
theorem splitR_none {L : List ByteArray} {s : ByteArray} {f at' : Nat} {done : List Nat} (h : ¬ at' = s.size) (h2 : ¬ done.length = 32) (h3 : best L (s.extract at' s.size) = none) : splitR L s (f + 1) at' done = ([], at', 33) := by
  rw [splitR, if_neg h, if_neg h2, h3]
theorem splitR_next {L : List ByteArray} {s : ByteArray} {f at' i : Nat} {done : List Nat} (h : ¬ at' = s.size) (h2 : ¬ done.length = 32) (h3 : best L (s.extract at' s.size) = some i) : splitR L s (f + 1) at' done = splitR L s f (at' + lsz L i) (done ++ [i]) := by
  rw [splitR, if_neg h, if_neg h2, h3]
theorem rest_size (s : ByteArray) (p : Nat) : (s.extract p s.size).size = s.size - p := by simp
theorem begins_size {t p : ByteArray} (h : begins t p = true) : p.size ≤ t.size := by
  have := (begins_iff.1 h).length_le
  rw [ba_sz, ba_sz] at this
  exact this
/-- Numbers as cells. -/
def nums (l : List Nat) : List Value := l.map fun r : Nat => Value.int .i64 (r : Int)
theorem nums_len (l : List Nat) : (nums l).length = l.length := by simp [nums]
theorem nums_snoc (l : List Nat) (i : Nat) : nums (l ++ [i]) = nums l ++ [Value.int .i64 (i : Int)] := by simp [nums]
end Go.Proofs.YtcocbjipikeebaaDoor.Utf
/-
  The program's Split walked: the letters of a text, at each place the longest that stands there, or the place where it can't go on.
-/
namespace Go.Proofs.YtcocbjipikeebaaDoor.Utf
open Go Go.Lib Go.RowKit

theorem wp_jump_weaken {P : Program} {c : Code} {l : Nat} {J X : Act → World → Prop} {Q : Exit → Act → World → Prop} {a : Act} {w : World} (h : c.wp P (Exit.jump l (fun a w => J a w ∧ X a w) Q) a w) : c.wp P (Exit.jump l J Q) a w := by
  refine (wpIn_wide (n := 3)).1 (wpIn_mono ((wpIn_wide (n := 3)).2 h) ?_)
  intro e a' w' hq
  cases e with
  | normal => exact hq
  | exit id => exact hq
  | goto l => exact ⟨hq.1, hq.2.1⟩
  | ret => exact hq
  | panic ch => exact hq
  | outgrown => exact hq
theorem wp_skip_seq {P : Program} {c : Code} {Q : Exit → Act → World → Prop} {a : Act} {w : World} (h : c.wp P Q a w) : (Code.skip.seq c).wp P Q a w :=
  wp_seq (wp_skip h)
theorem wp_scope_jumps2 {P : Program} {c body : Code} {Q : Exit → Act → World → Prop} {a : Act} {w : World} (l : Nat) (J : Act → World → Prop) (μ : Act → World → Nat) (hf : findLabel c l = some (Code.skip.seq body))
    (first : (∀ a w, J a w → body.wp P (Exit.jump l J Q) a w) → c.wp P (Exit.jump l J Q) a w)
    (pass : ∀ a w, J a w → body.wp P (Exit.jump l (fun a' w' => J a' w' ∧ μ a' w' < μ a w) Q) a w) : (Code.scope c).wp P Q a w :=
  wp_scope_jumps l J μ hf (first fun a w h => wp_jump_weaken (pass a w h)) (fun a w h => wp_skip_seq (pass a w h))
def lenOf : Value → Nat | .slice _ n _ => n | _ => 0

end Go.Proofs.YtcocbjipikeebaaDoor.Utf
/-
  Letters' texts one behind the other.
-/
namespace Go.Proofs.YtcocbjipikeebaaDoor.Utf
open Go Go.Lib Go.RowKit

/-- The text of a letter by any number. -/
def ltr (L : List ByteArray) (z : Int) : ByteArray := (L[z.toNat]?).getD ⟨#[]⟩
/-- Numbers that are all letters'. -/
def okNums (L : List ByteArray) (zs : List Int) : Prop := ∀ z ∈ zs, 0 ≤ z ∧ z < L.length
/-- The letters' texts, one behind the other. -/
def joinL (L : List ByteArray) (zs : List Int) : List UInt8 := zs.flatMap fun z => (ltr L z).data.toList
def joinT (L : List ByteArray) (zs : List Int) : ByteArray := ⟨(joinL L zs).toArray⟩
theorem ltr_at {L : List ByteArray} {k : Nat} (h : k < L.length) : ltr L (k : Int) = L[k] := by unfold ltr; rw [Int.toNat_natCast, List.getElem?_eq_getElem h]; rfl
theorem joinL_next (L : List ByteArray) (zs : List Int) {k : Nat} (h : k < zs.length) : joinL L (zs.take (k + 1)) = joinL L (zs.take k) ++ (ltr L zs[k]).data.toList := by
  unfold joinL
  rw [List.take_succ_eq_append_getElem h, List.flatMap_append]
  simp
theorem joinL_le {L : List ByteArray} (hL : ∀ x ∈ L, x.size ≤ 12) : ∀ zs : List Int, (joinL L zs).length ≤ 12 * zs.length
  | [] => by simp [joinL]
  | z :: r => by
    have ih := joinL_le hL r
    have h1 : (ltr L z).size ≤ 12 := by
      unfold ltr
      cases h : L[z.toNat]? with
      | none => simp [ByteArray.size]
      | some x => exact hL x (List.mem_of_getElem? h)
    unfold joinL at *
    rw [List.flatMap_cons, List.length_append, List.length_cons, ba_sz]
    omega
theorem take_ok {L : List ByteArray} {zs : List Int} {k : Nat} (h : k < zs.length) (h1 : okNums L (zs.take k)) (h2 : 0 ≤ zs[k] ∧ zs[k] < L.length) : okNums L (zs.take (k + 1)) := fun z hz => by
  rw [List.take_succ_eq_append_getElem h] at hz
  rcases List.mem_append.1 hz with h3 | h3
  · exact h1 z h3
  · rw [List.mem_singleton.1 h3]; exact h2
end Go.Proofs.YtcocbjipikeebaaDoor.Utf
/-
  The program's Join walked: the letters' texts one behind the other, or an error.
-/
namespace Go.Proofs.YtcocbjipikeebaaDoor.Utf
open Go Go.Lib Go.RowKit

end Go.Proofs.YtcocbjipikeebaaDoor.Utf
