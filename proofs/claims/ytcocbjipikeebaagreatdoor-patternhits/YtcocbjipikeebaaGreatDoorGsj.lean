/-
  Reading a text letter by letter, the longest that stands at each place: what it is, and that the lowest rank that stands there is the longest.
-/
import Derived.Test.YtcocbjipikeebaaGreatDoorNwpq
import Derived.WalkMore
import Derived.ScopeJumps
import Derived.ControlIn
import Derived.Maps.AppendAt
import Derived.Test.YtcocbjipikeebaaGreatDoorNewq
import Derived.Test.YtcocbjipikeebaaGreatDoorGub
import Derived.Test.YtcocbjipikeebaaGreatDoorGxa
namespace Go.Proofs.YtcocbjipikeebaaGreatDoor.Utf
open Go Go.Lib Go.RowKit

/-- A letter that the text begins with, and no longer one. -/
structure IsBest (L : List ByteArray) (t : ByteArray) (i : Nat) : Prop where
  lt : i < L.length
  pre : begins t L[i] = true
  max : ∀ j (h : j < L.length), begins t L[j] = true → L[j].size ≤ L[i].size

theorem begins_iff {t p : ByteArray} : begins t p = true ↔ p.data.toList <+: t.data.toList := by
  unfold begins Lib.hasPrefix
  exact List.isPrefixOf_iff_prefix
theorem ba_eq {a b : ByteArray} (h : a.data.toList = b.data.toList) : a = b := ByteArray.ext (Array.ext' h)
theorem ba_sz (a : ByteArray) : a.data.toList.length = a.size := Array.length_toList
theorem begins_same {t p q : ByteArray} (h1 : begins t p = true) (h2 : begins t q = true) (hs : p.size = q.size) : p = q := by
  have e1 := List.prefix_iff_eq_take.1 (begins_iff.1 h1)
  have e2 := List.prefix_iff_eq_take.1 (begins_iff.1 h2)
  refine ba_eq ?_
  rw [e1, e2, ba_sz, ba_sz, hs]

theorem IsBest.unique {L : List ByteArray} (hN : L.Nodup) {t : ByteArray} {i j : Nat} (h1 : IsBest L t i) (h2 : IsBest L t j) : i = j := by
  have a := h1.max j h2.lt h2.pre
  have b := h2.max i h1.lt h1.pre
  exact (List.getElem_inj (h₀ := h1.lt) (h₁ := h2.lt) hN).1 (begins_same h1.pre h2.pre (by omega))

open Classical in
noncomputable def best (L : List ByteArray) (t : ByteArray) : Option Nat := if h : ∃ i, IsBest L t i then some (Classical.choose h) else none
theorem best_some {L : List ByteArray} (hN : L.Nodup) {t : ByteArray} {i : Nat} (h : IsBest L t i) : best L t = some i := by
  unfold best
  have hx : ∃ i, IsBest L t i := ⟨i, h⟩
  rw [dif_pos hx]
  exact congrArg some (IsBest.unique hN (Classical.choose_spec hx) h)
theorem best_none {L : List ByteArray} {t : ByteArray} (h : ∀ j (hj : j < L.length), begins t L[j] = false) : best L t = none := by
  unfold best
  rw [dif_neg]
  rintro ⟨i, hi⟩
  have := hi.pre
  rw [h i hi.lt] at this
  cases this
theorem best_is {L : List ByteArray} {t : ByteArray} {i : Nat} (h : best L t = some i) : IsBest L t i := by
  unfold best at h
  split at h
  · rename_i hx
    rw [← Option.some.inj h]
    exact Classical.choose_spec hx
  · cases h

theorem Ranked.rank {L : List ByteArray} {rk : List Nat} (h : Ranked L rk) {j : Nat} (hj : j < L.length) : ∃ r, r < L.length ∧ rk[r]? = some j ∧ nmR L rk r = L[j] := by
  have hm : j ∈ rk := h.perm.mem_iff.2 (List.mem_range.2 hj)
  obtain ⟨r, hr, e⟩ := List.getElem_of_mem hm
  have hl : rk.length = L.length := by rw [h.perm.length_eq, List.length_range]
  refine ⟨r, by omega, by rw [List.getElem?_eq_getElem hr, e], ?_⟩
  unfold nmR
  rw [List.getElem?_eq_getElem hr, e, Option.getD_some, List.getElem?_eq_getElem hj]
  rfl
theorem Ranked.le {L : List ByteArray} {rk : List Nat} (h : Ranked L rk) {i j : Nat} (hij : i ≤ j) (hj : j < L.length) : (nmR L rk j).size ≤ (nmR L rk i).size := by
  rcases Nat.lt_or_ge i j with h1 | h1
  · exact h.sorted i j h1 hj
  · rw [show i = j by omega]; exact Nat.le_refl _

/-- The lowest rank that stands is the longest letter. -/
theorem stand_best {L : List ByteArray} {rk : List Nat} (h : Ranked L rk) {t : ByteArray} {k i : Nat} (hki : rk[k]? = some i) (hp : begins t (nmR L rk k) = true) (hn : ∀ j, 0 ≤ j → j < k → begins t (nmR L rk j) = false) : IsBest L t i ∧ ∃ hi : i < L.length, nmR L rk k = L[i] := by
  have hl : rk.length = L.length := by rw [h.perm.length_eq, List.length_range]
  have hi : i < L.length := by
    have : i ∈ rk := List.mem_of_getElem? hki
    exact List.mem_range.1 (h.perm.mem_iff.1 this)
  have he : nmR L rk k = L[i] := by
    unfold nmR
    rw [hki, Option.getD_some, List.getElem?_eq_getElem hi]
    rfl
  refine ⟨⟨hi, by rw [← he]; exact hp, fun j hj hb => ?_⟩, hi, he⟩
  obtain ⟨r, hr, _, e2⟩ := h.rank hj
  rw [← e2, ← he]
  by_cases hrk : r < k
  · have := hn r (Nat.zero_le _) hrk
    rw [e2, hb] at this
    cases this
  · exact h.le (by omega) hr
theorem stand_none {L : List ByteArray} {rk : List Nat} (h : Ranked L rk) {t : ByteArray} (hn : ∀ j, 0 ≤ j → j < L.length → begins t (nmR L rk j) = false) : best L t = none := by
  refine best_none fun j hj => ?_
  obtain ⟨r, hr, _, e2⟩ := h.rank hj
  rw [← e2]
  exact hn r (Nat.zero_le _) hr

/-- The length of a letter. -/
def lsz (L : List ByteArray) (i : Nat) : Nat := ((L[i]?).getD ⟨#[]⟩).size
theorem lsz_at {L : List ByteArray} {i : Nat} (h : i < L.length) : lsz L i = L[i].size := by unfold lsz; rw [List.getElem?_eq_getElem h]; rfl

/-- Reading on from a place, behind the letters that were read. -/
noncomputable def splitR (L : List ByteArray) (s : ByteArray) : Nat → Nat → List Nat → List Nat × Nat × Int
  | 0, at', _ => ([], at', 34)
  | f + 1, at', done => if at' = s.size then (done, 0, 0) else if done.length = 32 then ([], at', 34) else match best L (s.extract at' s.size) with
    | none => ([], at', 33)
    | some i => splitR L s f (at' + lsz L i) (done ++ [i])
noncomputable def splitS (L : List ByteArray) (s : ByteArray) : List Nat × Nat × Int := splitR L s 33 0 []
theorem splitR_end {L : List ByteArray} {s : ByteArray} {f at' : Nat} {done : List Nat} (h : at' = s.size) : splitR L s (f + 1) at' done = (done, 0, 0) := by rw [splitR, if_pos h]
theorem splitR_long {L : List ByteArray} {s : ByteArray} {f at' : Nat} {done : List Nat} (h : ¬ at' = s.size) (h2 : done.length = 32) : splitR L s (f + 1) at' done = ([], at', 34) := by rw [splitR, if_neg h, if_pos h2]
theorem splitR_none {L : List ByteArray} {s : ByteArray} {f at' : Nat} {done : List Nat} (h : ¬ at' = s.size) (h2 : ¬ done.length = 32) (h3 : best L (s.extract at' s.size) = none) : splitR L s (f + 1) at' done = ([], at', 33) := by
  rw [splitR, if_neg h, if_neg h2, h3]
theorem splitR_next {L : List ByteArray} {s : ByteArray} {f at' i : Nat} {done : List Nat} (h : ¬ at' = s.size) (h2 : ¬ done.length = 32) (h3 : best L (s.extract at' s.size) = some i) : splitR L s (f + 1) at' done = splitR L s f (at' + lsz L i) (done ++ [i]) := by
  rw [splitR, if_neg h, if_neg h2, h3]
theorem rest_size (s : ByteArray) (p : Nat) : (s.extract p s.size).size = s.size - p := by simp
theorem begins_size {t p : ByteArray} (h : begins t p = true) : p.size ≤ t.size := by
  have := (begins_iff.1 h).length_le
  rw [ba_sz, ba_sz] at this
  exact this
/-- Numbers as cells. -/
def nums (l : List Nat) : List Value := l.map fun r : Nat => Value.int .i64 (r : Int)
theorem nums_len (l : List Nat) : (nums l).length = l.length := by simp [nums]
theorem nums_snoc (l : List Nat) (i : Nat) : nums (l ++ [i]) = nums l ++ [Value.int .i64 (i : Int)] := by simp [nums]
end Go.Proofs.YtcocbjipikeebaaGreatDoor.Utf
/-
  The program's Split walked: the letters of a text, at each place the longest that stands there, or the place where it can't go on.
-/
namespace Go.Proofs.YtcocbjipikeebaaGreatDoor.Utf
open Go Go.Lib Go.RowKit

theorem wp_jump_weaken {P : Program} {c : Code} {l : Nat} {J X : Act → World → Prop} {Q : Exit → Act → World → Prop} {a : Act} {w : World} (h : c.wp P (Exit.jump l (fun a w => J a w ∧ X a w) Q) a w) : c.wp P (Exit.jump l J Q) a w := by
  refine (wpIn_wide (n := 3)).1 (wpIn_mono ((wpIn_wide (n := 3)).2 h) ?_)
  intro e a' w' hq
  cases e with
  | normal => exact hq
  | exit id => exact hq
  | goto l => exact ⟨hq.1, hq.2.1⟩
  | ret => exact hq
  | panic ch => exact hq
  | outgrown => exact hq
theorem wp_skip_seq {P : Program} {c : Code} {Q : Exit → Act → World → Prop} {a : Act} {w : World} (h : c.wp P Q a w) : (Code.skip.seq c).wp P Q a w :=
  wp_seq (wp_skip h)
theorem wp_scope_jumps2 {P : Program} {c body : Code} {Q : Exit → Act → World → Prop} {a : Act} {w : World} (l : Nat) (J : Act → World → Prop) (μ : Act → World → Nat) (hf : findLabel c l = some (Code.skip.seq body))
    (first : (∀ a w, J a w → body.wp P (Exit.jump l J Q) a w) → c.wp P (Exit.jump l J Q) a w)
    (pass : ∀ a w, J a w → body.wp P (Exit.jump l (fun a' w' => J a' w' ∧ μ a' w' < μ a w) Q) a w) : (Code.scope c).wp P Q a w :=
  wp_scope_jumps l J μ hf (first fun a w h => wp_jump_weaken (pass a w h)) (fun a w h => wp_skip_seq (pass a w h))
def lenOf : Value → Nat | .slice _ n _ => n | _ => 0

set_option maxRecDepth 100000 in
set_option maxHeartbeats 4000000 in
theorem split_any {W : World} {b : Nat} {L : List ByteArray} {rk : List Nat} (hA : IsAlpha W b L rk) (hRk : Ranked L rk) (hNd : L.Nodup) (hLs : ∀ x ∈ L, 1 ≤ x.size ∧ x.size ≤ 12) (s : ByteArray) (hs : s.size ≤ 4611686018427387904) :
    Calls Tryz.prog 75 #[.pointer (some ⟨b, 0, none⟩), .string s] W fun e w' => ∃ v, e = .returned (.tuple #[v, .int .i64 ((splitS L s).2.1 : Int), .int .i64 (splitS L s).2.2]) ∧ Below W.heap.size W w' ∧ w'.ownsRow W.heap.size 3 1 v (splitS L s).1.length (nums (splitS L s).1) := by
  obtain ⟨i0, hi, hz0, hz1, hz2⟩ := info_parts infoInt'
  have h40 := hA.small
  have HA : Aside (∀ w, Below W.heap.size W w → IsAlpha w b L rk) := fun w hb => hA.below hb
  clear hA
  go_enter Tryz.func75, Tryz.ntmps75
  go_wp2
  refine wp_scope_jumps2 0 (fun a' wq => ∃ (pos : Nat) (done : List Nat) (v : Value) (u9 u10 u11 u12 u13 u14 u15 u16 u17 u18 u19 u20 u21 u22 u23 u24 u25 u26 u27 u28 u29 u30 u31 u32 u33 u34 u35 u36 u37 u38 u39 u40 u41 u42 u43 u44 : Value), a' = { tmps := #[.pointer (some ⟨b, 0, none⟩), .string s, undef, undef, .slice none 0 0, .int .i64 0, .int .i64 0, v, .int .i64 (pos : Int), u9, u10, u11, u12, u13, u14, u15, u16, u17, u18, u19, u20, u21, u22, u23, u24, u25, u26, u27, u28, u29, u30, u31, u32, u33, u34, u35, u36, u37, u38, u39, u40, u41, u42, u43, u44], defers := [] } ∧ wq.ownsRow W.heap.size 3 1 v done.length (nums done) ∧ Aside (Below W.heap.size W wq) ∧ pos ≤ s.size ∧ done.length ≤ 32 ∧ Aside (splitR L s (33 - done.length) pos done = splitS L s)) (fun a' _ => 33 - lenOf (a'.tmps.getD 7 undef)) rfl ?first ?pass
  case first =>
    intro hpass
    go_wp2
    go_step3
    rename_i K hK
    refine hK _ _ ?_
    refine (hpass _ _ ⟨0, [], _, _, _, _, _, _, _, _, _, _, _, _, _, _, _, _, _, _, _, _, _, _, _, _, _, _, _, _, _, _, _, _, _, _, _, _, _, rfl, World.ownsRow_nil _ _ _ _, Below.refl _ _, Nat.zero_le _, Nat.zero_le _, rfl⟩)
  case pass =>
    rintro a' wq ⟨pos, done, v, u9, u10, u11, u12, u13, u14, u15, u16, u17, u18, u19, u20, u21, u22, u23, u24, u25, u26, u27, u28, u29, u30, u31, u32, u33, u34, u35, u36, u37, u38, u39, u40, u41, u42, u43, u44, rfl, hown, hB, hps, hdl, HP⟩
    have hr1 := hown
    obtain ⟨ao, cp, rfl, q1⟩ := row_reads hr1
    have hA := HA.out _ hB.out
    by_cases he : pos = s.size
    · have heb : ((pos : Int) == (s.size : Int)) = true := by rw [beq_iff_eq]; omega
      have HV : Aside (splitS L s = (done, 0, 0)) := by
        have := HP.out
        rw [show 33 - done.length = (32 - done.length) + 1 by omega, splitR_end he] at this
        exact this.symm
      clear he hA q1 hr1
      go_wp2
      (try simp only [Exit.jump])
      go_ret3
      rw [HV.out]
      exact ⟨_, rfl, hB.out, hown⟩
    · have heb : ((pos : Int) == (s.size : Int)) = false := by rw [beq_eq_false_iff_ne]; omega
      by_cases h32 : done.length = 32
      · have h32b : ((done.length : Int) == 32) = true := by rw [beq_iff_eq]; omega
        have HV : Aside (splitS L s = ([], pos, 34)) := by
          have := HP.out
          rw [show 33 - done.length = (32 - done.length) + 1 by omega, splitR_long he h32] at this
          exact this.symm
        clear h32 hA q1 hr1 he
        go_wp2
        (try simp only [Exit.jump])
        go_ret3
        rw [HV.out]
        exact ⟨_, rfl, hB.out, World.ownsRow_nil _ _ _ _⟩
      · have h32b : ((done.length : Int) == 32) = false := by rw [beq_eq_false_iff_ne]; omega
        have cT := standing_any hA (s.extract pos s.size) 0 (Nat.zero_le _)
        have HT : Aside ((s.extract pos s.size).size = s.size - pos) := rest_size s pos
        have HQ : Aside (∀ i, best L (s.extract pos s.size) = some i → splitR L s (33 - (done ++ [i]).length) (pos + lsz L i) (done ++ [i]) = splitS L s) := fun i hi => by
          have := HP.out
          rw [show 33 - done.length = (32 - done.length) + 1 by omega, splitR_next he h32 hi] at this
          rw [← this, List.length_append, List.length_singleton, show 33 - (done.length + 1) = 32 - done.length by omega]
        have HO : Aside (best L (s.extract pos s.size) = none → splitS L s = ([], pos, 33)) := fun hi => by
          have := HP.out
          rw [show 33 - done.length = (32 - done.length) + 1 by omega, splitR_none he h32 hi] at this
          exact this.symm
        have hd31 : done.length + 1 ≤ 32 := by omega
        clear hA HP h32 q1 he
        go_wp2_with (first | (go_at_call 102; refine cT.mono ?_))
        rintro e w1 ⟨⟨k, rfl, _, hkn, hk1, hk2⟩, hb1⟩
        have HB1 : Aside (Below W.heap.size W w1) := hB.out.trans (hb1.mono hB.out.size)
        have hown1 := row_keeps hr1 hb1
        have hA1 := HA.out _ HB1.out
        have cZ := size_any hA1
        clear hb1 cT hr1 hown
        by_cases hk : k = L.length
        · have hkb : ((k : Int) == (L.length : Int)) = true := by rw [beq_iff_eq]; omega
          have HV := HO.out (stand_none hRk (by rw [hk] at hk2; exact hk2))
          have HV : Aside (splitS L s = ([], pos, 33)) := HV
          clear hk1 hk2 hA1
          have hk' : Aside (k = L.length) := hk
          clear hk
          go_wp2_with (first | (go_at_call 46; refine cZ.mono ?_; rintro e w' ⟨rfl, hw⟩; obtain rfl := hw.symm))
          (try simp only [Exit.jump])
          go_ret3
          rw [HV.out]
          exact ⟨_, rfl, HB1.out, World.ownsRow_nil _ _ _ _⟩
        · have hkb : ((k : Int) == (L.length : Int)) = false := by rw [beq_eq_false_iff_ne]; omega
          have hkl : k < L.length := by omega
          obtain ⟨i, hki, hil, hnm⟩ := hA1.nm k hkl
          have hbest := (stand_best hRk hki (hk1 hkl) hk2).1
          have HQ2 : Aside (splitR L s (33 - (done ++ [i]).length) (pos + lsz L i) (done ++ [i]) = splitS L s) := HQ.out i (best_some hNd hbest)
          have hls := lsz_at hil
          have hbs := begins_size hbest.pre
          rw [HT.out] at hbs
          have hpos := hLs L[i] (List.getElem_mem hil)
          obtain ⟨⟨a1, c1, a2, c2, g1, g2, g3⟩, h4, h5, _⟩ := hA1
          obtain ⟨e1, e2⟩ := cells_two g1
          have hrl : rk.length = L.length := h4
          obtain ⟨gb, rfl, hgb, ec⟩ := g3 k (by rw [List.length_map]; omega)
          rw [List.getElem_map] at ec
          have hrk : rk[k]'(by omega) = i := by
            rw [List.getElem?_eq_getElem (by omega)] at hki
            exact Option.some.inj hki
          rw [hrk] at ec
          have hkz : (k : Int) < (L.length : Int) := by omega
          rw [← hls] at hbs hpos
          have HNM : Aside (nmR L rk k = L[i]) := hnm
          have hsz' : L[i].size = lsz L i := hls.symm
          clear g1 g2 g3 hki hnm hbest hls hk1 hk2 hk hrk h4
          generalize L[i] = X at *
          generalize lsz L i = z at *
          go_wp2_with (first
            | (go_at_call 46; refine cZ.mono ?_; rintro e w' ⟨rfl, hw⟩; obtain rfl := hw.symm)
            | (at_builtin; refine wpList_append_own _ rfl _ _ 30 rfl W.heap.size 3 i0 (.int .i64 0) 1 8 Tryz.underlying30 hi hz0 hz1 hz2 rfl (by decide) _ _ _ rfl (hown1.alloc _) ⟨w1.heap.size, 0, none⟩ 1 1 [.int .i64 (i : Int)] rfl rfl (cell_one_new _ _ _) (by simp [Value.oneCell']) (by unfold maxLen; omega) (by omega) (by have := HB1.out.size; simp; omega) ?_))
          intro v' w2 hown' hgrow _
          have hB2 : Below W.heap.size W w2 := Below.grown (HB1.out.alloc (by have := HB1.out.size; omega) _) hgrow (by have := HB1.out.size; simp; omega) (fun j hj => (hown1.lt _ hj).1)
          have HB2 : Aside (Below W.heap.size W w2) := hB2
          have hown3 : w2.ownsRow W.heap.size 3 1 v' (done ++ [i]).length (nums (done ++ [i])) := by
            rw [nums_snoc, List.length_append]; exact hown'
          have cF2 := nameOf_any (HA.out w2 hB2) k hkl
          have hnm2 : nmR L rk k = X := HNM.out
          rw [hnm2] at cF2
          obtain ⟨g', cap', rfl⟩ := ownsRow_succ hown'
          clear hown' hgrow hown1 hB2 hnm2
          go_wp2_with fail
          refine cF2.mono ?_
          rintro e w3 ⟨rfl, hb3⟩
          have hown4 := row_keeps hown3 hb3
          have HB3 : Aside (Below W.heap.size W w3) := HB2.out.trans (hb3.mono HB2.out.size)
          clear hb3 cF2 hown3
          go_wp2
          go_step3
          refine ⟨rfl, ⟨pos + z, done ++ [i], _, _, _, _, _, _, _, _, _, _, _, _, _, _, _, _, _, _, _, _, _, _, _, _, _, _, _, _, _, _, _, _, _, _, _, _, _, rfl, hown4, HB3, by omega, by rw [List.length_append, List.length_singleton]; omega, HQ2⟩, ?_⟩
          show 33 - (done.length + 1) < 33 - done.length
          omega
set_option maxRecDepth 100000 in
set_option maxHeartbeats 1000000 in
theorem standing_nil (t : ByteArray) (W : World) :
    Calls Tryz.prog 102 #[.pointer none, .string t, .int .i64 0] W fun e w' => e = .returned (.int .i64 0) ∧ w' = W := by
  have cS := size_nil W
  go_enter Tryz.func102, Tryz.ntmps102
  go_wp2
  refine wp_loop_rounds 1 ?_
  rw [rounds_succ]
  go_wp2_with (first | (go_at_call 46; refine cS.mono ?_; rintro e w' ⟨rfl, hw⟩; obtain rfl := hw.symm))
  go_ret
  exact ⟨rfl, rfl⟩
end Go.Proofs.YtcocbjipikeebaaGreatDoor.Utf
/-
  Letters' texts one behind the other.
-/
namespace Go.Proofs.YtcocbjipikeebaaGreatDoor.Utf
open Go Go.Lib Go.RowKit

/-- The text of a letter by any number. -/
def ltr (L : List ByteArray) (z : Int) : ByteArray := (L[z.toNat]?).getD ⟨#[]⟩
/-- Numbers that are all letters'. -/
def okNums (L : List ByteArray) (zs : List Int) : Prop := ∀ z ∈ zs, 0 ≤ z ∧ z < L.length
/-- The letters' texts, one behind the other. -/
def joinL (L : List ByteArray) (zs : List Int) : List UInt8 := zs.flatMap fun z => (ltr L z).data.toList
def joinT (L : List ByteArray) (zs : List Int) : ByteArray := ⟨(joinL L zs).toArray⟩
theorem ltr_at {L : List ByteArray} {k : Nat} (h : k < L.length) : ltr L (k : Int) = L[k] := by unfold ltr; rw [Int.toNat_natCast, List.getElem?_eq_getElem h]; rfl
theorem joinL_next (L : List ByteArray) (zs : List Int) {k : Nat} (h : k < zs.length) : joinL L (zs.take (k + 1)) = joinL L (zs.take k) ++ (ltr L zs[k]).data.toList := by
  unfold joinL
  rw [List.take_succ_eq_append_getElem h, List.flatMap_append]
  simp
theorem joinL_le {L : List ByteArray} (hL : ∀ x ∈ L, x.size ≤ 12) : ∀ zs : List Int, (joinL L zs).length ≤ 12 * zs.length
  | [] => by simp [joinL]
  | z :: r => by
    have ih := joinL_le hL r
    have h1 : (ltr L z).size ≤ 12 := by
      unfold ltr
      cases h : L[z.toNat]? with
      | none => simp [ByteArray.size]
      | some x => exact hL x (List.mem_of_getElem? h)
    unfold joinL at *
    rw [List.flatMap_cons, List.length_append, List.length_cons, ba_sz]
    omega
theorem take_ok {L : List ByteArray} {zs : List Int} {k : Nat} (h : k < zs.length) (h1 : okNums L (zs.take k)) (h2 : 0 ≤ zs[k] ∧ zs[k] < L.length) : okNums L (zs.take (k + 1)) := fun z hz => by
  rw [List.take_succ_eq_append_getElem h] at hz
  rcases List.mem_append.1 hz with h3 | h3
  · exact h1 z h3
  · rw [List.mem_singleton.1 h3]; exact h2
end Go.Proofs.YtcocbjipikeebaaGreatDoor.Utf
/-
  The program's Join walked: the letters' texts one behind the other, or an error.
-/
namespace Go.Proofs.YtcocbjipikeebaaGreatDoor.Utf
open Go Go.Lib Go.RowKit

set_option maxRecDepth 100000 in
set_option maxHeartbeats 4000000 in
theorem join_any {W : World} {b : Nat} {L : List ByteArray} {rk : List Nat} (hA : IsAlpha W b L rk) (hLs : ∀ x ∈ L, x.size ≤ 12) (zs : List Int) (ao : Option Addr) (cap : Nat) (hl : zs.length ≤ 1048576) (hR : ReadsO W ao (ints zs)) :
    Calls Tryz.prog 63 #[.pointer (some ⟨b, 0, none⟩), .slice ao zs.length cap] W fun e w' => ((okNums L zs ∧ e = .returned (.tuple #[.string (joinT L zs), .int .i64 0])) ∨ (¬ okNums L zs ∧ e = .returned (.tuple #[.string ⟨#[]⟩, .int .i64 35]))) ∧ Below W.heap.size W w' := by
  have h40 := hA.small
  have HA : Aside (∀ w, Below W.heap.size W w → IsAlpha w b L rk) := fun w hb => hA.below hb
  have HR : Aside (∀ w, Below W.heap.size W w → ReadsO w ao (ints zs)) := fun w hb => hR.below hb
  clear hA hR
  have hB0 : Below W.heap.size W (W.alloc (.cells #[.pointer none, .slice none 0 0] 100)) := (Below.refl _ _).alloc (Nat.le_refl _) _
  have hI0 := isBuilderF_new 100 5 W
  go_enter Tryz.func63, Tryz.ntmps63
  go_wp2
  go_loopg [11] zs.length (fun g1 vi wr => ∃ k : Nat, vi = .int .i64 (k : Int) ∧ k ≤ zs.length ∧ zs.length - k ≤ g1 ∧ Aside (Lib.IsBuilderF 100 5 W.heap.size W.heap.size (Lib.byteCells (joinL L (zs.take k))) wr) ∧ Aside (Below W.heap.size W wr) ∧ Aside (okNums L (zs.take k)))
  case atStart => exact ⟨0, rfl, Nat.zero_le _, Nat.le_refl _, hI0, hB0, fun z hz => by simp at hz⟩
  case round =>
    clear hB0 hI0
    obtain ⟨k, rfl, hk, hg1, HI, hB, HO⟩ := hrel
    have hBs := hB.out.size
    by_cases hlt : k < zs.length
    · have hltz : (k : Int) < (zs.length : Int) := by omega
      obtain ⟨ga, oa, rfl, _, ec⟩ := (HR.out _ hB.out) k (by simpa [ints] using hlt)
      have ec' : wr.cell? ⟨ga, oa + k, none⟩ = some (.int .i64 zs[k]) := by rw [ec]; simp [ints]
      clear ec
      have HM : Aside (zs[k] ∈ zs) := List.getElem_mem hlt
      have HO2 : Aside (0 ≤ zs[k] ∧ zs[k] < L.length → okNums L (zs.take (k + 1))) := fun h => take_ok hlt HO.out h
      have HJ : Aside (joinL L (zs.take (k + 1)) = joinL L (zs.take k) ++ (ltr L zs[k]).data.toList) := joinL_next L zs hlt
      have cS := size_any (HA.out _ hB.out)
      have HLL : Aside ((joinL L (zs.take k)).length ≤ 12 * k) := by
        have := joinL_le hLs (zs.take k)
        rw [List.length_take] at this
        show _ ≤ _
        omega
      generalize zs[k] = z at *
      by_cases hneg : z < 0
      · have HN : Aside (¬ okNums L zs) := fun h => by have := h z HM.out; omega
        go_wp2
        go_ret2
        exact ⟨.inr ⟨HN.out, rfl⟩, hB.out⟩
      · obtain ⟨i, rfl⟩ := Int.eq_ofNat_of_zero_le (by omega : 0 ≤ z)
        by_cases hi : i < L.length
        · have hiz : (i : Int) < (L.length : Int) := by omega
          have HO3 : Aside (okNums L (zs.take (k + 1))) := HO2.out ⟨by omega, hiz⟩
          obtain ⟨⟨a1, c1, a2, c2, g1, g2, _⟩, _, _, _⟩ := HA.out _ hB.out
          obtain ⟨e1, _⟩ := cells_two g1
          obtain ⟨gs, rfl, _, es⟩ := g2 i (by simpa using hi)
          rw [List.getElem_map] at es
          have hsz := hLs L[i] (List.getElem_mem hi)
          have HL2 : Aside (ltr L (i : Int) = L[i]) := ltr_at hi
          have cW := writeString_any W.heap.size W.heap.size (Lib.byteCells (joinL L (zs.take k))) L[i] wr HI.out (by rw [Lib.byteCells_length]; have := HLL.out; omega) hBs
          have HC : Aside (Lib.byteCells (joinL L (zs.take (k + 1))) = Lib.byteCells (joinL L (zs.take k)) ++ Lib.strCells L[i]) := by
            show _ = _
            rw [HJ.out, HL2.out, byteCells_append, strCells_bytes]
          clear g1 g2 HJ HL2 HO2 HM HLL HI
          generalize L[i] = X at *
          generalize Lib.byteCells (joinL L (zs.take k)) = BC at *
          go_wp2_with (first
            | (go_at_call 46; refine cS.mono ?_; rintro e w' ⟨rfl, hw⟩; obtain rfl := hw.symm))
          refine cW.mono ?_
          rintro e w1 ⟨rfl, hA1, hb1, _⟩
          have HI1 : Aside (Lib.IsBuilderF 100 5 W.heap.size W.heap.size (Lib.byteCells (joinL L (zs.take (k + 1)))) w1) := by
            show Lib.IsBuilderF _ _ _ _ _ _
            rw [HC.out]
            exact .inr hA1
          have HB1 : Aside (Below W.heap.size W w1) := hB.out.trans hb1
          clear hA1 hb1 cW cS HC
          go_wp2
          go_roundg (zs.length - (k + 1))
          case measure => omega
          case rel => exact ⟨k + 1, by go_num, by omega, Nat.le_refl _, HI1, HB1, HO3⟩
        · have hiz : ¬ (i : Int) < (L.length : Int) := by omega
          have HN : Aside (¬ okNums L zs) := fun h => by have := h (i : Int) HM.out; omega
          go_wp2_with (first
            | (go_at_call 46; refine cS.mono ?_; rintro e w' ⟨rfl, hw⟩; obtain rfl := hw.symm))
          go_ret2
          exact ⟨.inr ⟨HN.out, rfl⟩, hB.out⟩
    · have hltz : ¬ (k : Int) < (zs.length : Int) := by omega
      obtain rfl : k = zs.length := by omega
      have hI := HI.out
      have hO := HO.out
      rw [List.take_length] at hI hO
      have cT := string_any W.heap.size W.heap.size (joinL L zs) wr hI hBs
      have HO' : Aside (okNums L zs) := hO
      clear hI HI HO hO hlt
      go_wp2_with (first | (go_at_call 50; refine cT.mono ?_; rintro e w1 ⟨rfl, hb1, _⟩; have HB1 : Aside (Below W.heap.size W w1) := hB.out.trans hb1; clear hb1))
      go_ret2
      exact ⟨.inl ⟨HO'.out, rfl⟩, HB1.out⟩
end Go.Proofs.YtcocbjipikeebaaGreatDoor.Utf
