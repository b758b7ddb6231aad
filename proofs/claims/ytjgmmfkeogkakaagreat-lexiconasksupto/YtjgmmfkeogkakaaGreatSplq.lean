/-
  The program's Split walked: the letters of a text, at each place the longest that stands there, or the place where it can't go on.
-/
import Derived.Test.YtjgmmfkeogkakaaGreatSplmq
import Derived.WalkMore
import Derived.ScopeJumps
import Derived.ControlIn
import Derived.Maps.AppendAt
namespace Go.Proofs.YtjgmmfkeogkakaaGreat.Utf
open Go Go.Lib Go.RowKit

theorem wp_jump_weaken {P : Program} {c : Code} {l : Nat} {J X : Act → World → Prop} {Q : Exit → Act → World → Prop} {a : Act} {w : World} (h : c.wp P (Exit.jump l (fun a w => J a w ∧ X a w) Q) a w) : c.wp P (Exit.jump l J Q) a w := by
  refine (wpIn_wide (n := 3)).1 (wpIn_mono ((wpIn_wide (n := 3)).2 h) ?_)
  intro e a' w' hq
  cases e with
  | normal => exact hq
  | exit id => exact hq
  | goto l => exact ⟨hq.1, hq.2.1⟩
  | ret => exact hq
  | panic ch => exact hq
  | outgrown => exact hq
theorem wp_skip_seq {P : Program} {c : Code} {Q : Exit → Act → World → Prop} {a : Act} {w : World} (h : c.wp P Q a w) : (Code.skip.seq c).wp P Q a w :=
  wp_seq (wp_skip h)
theorem wp_scope_jumps2 {P : Program} {c body : Code} {Q : Exit → Act → World → Prop} {a : Act} {w : World} (l : Nat) (J : Act → World → Prop) (μ : Act → World → Nat) (hf : findLabel c l = some (Code.skip.seq body))
    (first : (∀ a w, J a w → body.wp P (Exit.jump l J Q) a w) → c.wp P (Exit.jump l J Q) a w)
    (pass : ∀ a w, J a w → body.wp P (Exit.jump l (fun a' w' => J a' w' ∧ μ a' w' < μ a w) Q) a w) : (Code.scope c).wp P Q a w :=
  wp_scope_jumps l J μ hf (first fun a w h => wp_jump_weaken (pass a w h)) (fun a w h => wp_skip_seq (pass a w h))
def lenOf : Value → Nat | .slice _ n _ => n | _ => 0

set_option maxRecDepth 100000 in
set_option maxHeartbeats 4000000 in
theorem split_any {W : World} {b : Nat} {L : List ByteArray} {rk : List Nat} (hA : IsAlpha W b L rk) (hRk : Ranked L rk) (hNd : L.Nodup) (hLs : ∀ x ∈ L, 1 ≤ x.size ∧ x.size ≤ 12) (s : ByteArray) (hs : s.size ≤ 4611686018427387904) :
    Calls Tryz.prog 69 #[.pointer (some ⟨b, 0, none⟩), .string s] W fun e w' => ∃ v, e = .returned (.tuple #[v, .int .i64 ((splitS L s).2.1 : Int), .int .i64 (splitS L s).2.2]) ∧ Below W.heap.size W w' ∧ w'.ownsRow W.heap.size 3 1 v (splitS L s).1.length (nums (splitS L s).1) := by
  obtain ⟨i0, hi, hz0, hz1, hz2⟩ := info_parts infoInt'
  have h40 := hA.small
  have HA : Aside (∀ w, Below W.heap.size W w → IsAlpha w b L rk) := fun w hb => hA.below hb
  clear hA
  go_enter Tryz.func69, Tryz.ntmps69
  go_wp2
  refine wp_scope_jumps2 0 (fun a' wq => ∃ (pos : Nat) (done : List Nat) (v : Value) (u9 u10 u11 u12 u13 u14 u15 u16 u17 u18 u19 u20 u21 u22 u23 u24 u25 u26 u27 u28 u29 u30 u31 u32 u33 u34 u35 u36 u37 u38 u39 u40 u41 u42 u43 u44 : Value), a' = { tmps := #[.pointer (some ⟨b, 0, none⟩), .string s, undef, undef, .slice none 0 0, .int .i64 0, .int .i64 0, v, .int .i64 (pos : Int), u9, u10, u11, u12, u13, u14, u15, u16, u17, u18, u19, u20, u21, u22, u23, u24, u25, u26, u27, u28, u29, u30, u31, u32, u33, u34, u35, u36, u37, u38, u39, u40, u41, u42, u43, u44], defers := [] } ∧ wq.ownsRow W.heap.size 3 1 v done.length (nums done) ∧ Aside (Below W.heap.size W wq) ∧ pos ≤ s.size ∧ done.length ≤ 32 ∧ Aside (splitR L s (33 - done.length) pos done = splitS L s)) (fun a' _ => 33 - lenOf (a'.tmps.getD 7 undef)) rfl ?first ?pass
  case first =>
    intro hpass
    go_wp2
    go_step3
    rename_i K hK
    refine hK _ _ ?_
    refine (hpass _ _ ⟨0, [], _, _, _, _, _, _, _, _, _, _, _, _, _, _, _, _, _, _, _, _, _, _, _, _, _, _, _, _, _, _, _, _, _, _, _, _, _, rfl, World.ownsRow_nil _ _ _ _, Below.refl _ _, Nat.zero_le _, Nat.zero_le _, rfl⟩)
  case pass =>
    rintro a' wq ⟨pos, done, v, u9, u10, u11, u12, u13, u14, u15, u16, u17, u18, u19, u20, u21, u22, u23, u24, u25, u26, u27, u28, u29, u30, u31, u32, u33, u34, u35, u36, u37, u38, u39, u40, u41, u42, u43, u44, rfl, hown, hB, hps, hdl, HP⟩
    have hr1 := hown
    obtain ⟨ao, cp, rfl, q1⟩ := row_reads hr1
    have hA := HA.out _ hB.out
    by_cases he : pos = s.size
    · have heb : ((pos : Int) == (s.size : Int)) = true := by rw [beq_iff_eq]; omega
      have HV : Aside (splitS L s = (done, 0, 0)) := by
        have := HP.out
        rw [show 33 - done.length = (32 - done.length) + 1 by omega, splitR_end he] at this
        exact this.symm
      clear he hA q1 hr1
      go_wp2
      (try simp only [Exit.jump])
      go_ret3
      rw [HV.out]
      exact ⟨_, rfl, hB.out, hown⟩
    · have heb : ((pos : Int) == (s.size : Int)) = false := by rw [beq_eq_false_iff_ne]; omega
      by_cases h32 : done.length = 32
      · have h32b : ((done.length : Int) == 32) = true := by rw [beq_iff_eq]; omega
        have HV : Aside (splitS L s = ([], pos, 34)) := by
          have := HP.out
          rw [show 33 - done.length = (32 - done.length) + 1 by omega, splitR_long he h32] at this
          exact this.symm
        clear h32 hA q1 hr1 he
        go_wp2
        (try simp only [Exit.jump])
        go_ret3
        rw [HV.out]
        exact ⟨_, rfl, hB.out, World.ownsRow_nil _ _ _ _⟩
      · have h32b : ((done.length : Int) == 32) = false := by rw [beq_eq_false_iff_ne]; omega
        have cT := standing_any hA (s.extract pos s.size) 0 (Nat.zero_le _)
        have HT : Aside ((s.extract pos s.size).size = s.size - pos) := rest_size s pos
        have HQ : Aside (∀ i, best L (s.extract pos s.size) = some i → splitR L s (33 - (done ++ [i]).length) (pos + lsz L i) (done ++ [i]) = splitS L s) := fun i hi => by
          have := HP.out
          rw [show 33 - done.length = (32 - done.length) + 1 by omega, splitR_next he h32 hi] at this
          rw [← this, List.length_append, List.length_singleton, show 33 - (done.length + 1) = 32 - done.length by omega]
        have HO : Aside (best L (s.extract pos s.size) = none → splitS L s = ([], pos, 33)) := fun hi => by
          have := HP.out
          rw [show 33 - done.length = (32 - done.length) + 1 by omega, splitR_none he h32 hi] at this
          exact this.symm
        have hd31 : done.length + 1 ≤ 32 := by omega
        clear hA HP h32 q1 he
        go_wp2_with (first | (go_at_call 87; refine cT.mono ?_))
        rintro e w1 ⟨⟨k, rfl, _, hkn, hk1, hk2⟩, hb1⟩
        have HB1 : Aside (Below W.heap.size W w1) := hB.out.trans (hb1.mono hB.out.size)
        have hown1 := row_keeps hr1 hb1
        have hA1 := HA.out _ HB1.out
        have cZ := size_any hA1
        clear hb1 cT hr1 hown
        by_cases hk : k = L.length
        · have hkb : ((k : Int) == (L.length : Int)) = true := by rw [beq_iff_eq]; omega
          have HV := HO.out (stand_none hRk (by rw [hk] at hk2; exact hk2))
          have HV : Aside (splitS L s = ([], pos, 33)) := HV
          clear hk1 hk2 hA1
          have hk' : Aside (k = L.length) := hk
          clear hk
          go_wp2_with (first | (go_at_call 54; refine cZ.mono ?_; rintro e w' ⟨rfl, hw⟩; obtain rfl := hw.symm))
          (try simp only [Exit.jump])
          go_ret3
          rw [HV.out]
          exact ⟨_, rfl, HB1.out, World.ownsRow_nil _ _ _ _⟩
        · have hkb : ((k : Int) == (L.length : Int)) = false := by rw [beq_eq_false_iff_ne]; omega
          have hkl : k < L.length := by omega
          obtain ⟨i, hki, hil, hnm⟩ := hA1.nm k hkl
          have hbest := (stand_best hRk hki (hk1 hkl) hk2).1
          have HQ2 : Aside (splitR L s (33 - (done ++ [i]).length) (pos + lsz L i) (done ++ [i]) = splitS L s) := HQ.out i (best_some hNd hbest)
          have hls := lsz_at hil
          have hbs := begins_size hbest.pre
          rw [HT.out] at hbs
          have hpos := hLs L[i] (List.getElem_mem hil)
          obtain ⟨⟨a1, c1, a2, c2, g1, g2, g3⟩, h4, h5, _⟩ := hA1
          obtain ⟨e1, e2⟩ := cells_two g1
          have hrl : rk.length = L.length := h4
          obtain ⟨gb, rfl, hgb, ec⟩ := g3 k (by rw [List.length_map]; omega)
          rw [List.getElem_map] at ec
          have hrk : rk[k]'(by omega) = i := by
            rw [List.getElem?_eq_getElem (by omega)] at hki
            exact Option.some.inj hki
          rw [hrk] at ec
          have hkz : (k : Int) < (L.length : Int) := by omega
          rw [← hls] at hbs hpos
          have HNM : Aside (nmR L rk k = L[i]) := hnm
          have hsz' : L[i].size = lsz L i := hls.symm
          clear g1 g2 g3 hki hnm hbest hls hk1 hk2 hk hrk h4
          generalize L[i] = X at *
          generalize lsz L i = z at *
          go_wp2_with (first
            | (go_at_call 54; refine cZ.mono ?_; rintro e w' ⟨rfl, hw⟩; obtain rfl := hw.symm)
            | (at_builtin; refine wpList_append_own _ rfl _ _ 24 rfl W.heap.size 3 i0 (.int .i64 0) 1 8 Tryz.underlying24 hi hz0 hz1 hz2 rfl (by decide) _ _ _ rfl (hown1.alloc _) ⟨w1.heap.size, 0, none⟩ 1 1 [.int .i64 (i : Int)] rfl rfl (cell_one_new _ _ _) (by simp [Value.oneCell']) (by unfold maxLen; omega) (by omega) (by have := HB1.out.size; simp; omega) ?_))
          intro v' w2 hown' hgrow _
          have hB2 : Below W.heap.size W w2 := Below.grown (HB1.out.alloc (by have := HB1.out.size; omega) _) hgrow (by have := HB1.out.size; simp; omega) (fun j hj => (hown1.lt _ hj).1)
          have HB2 : Aside (Below W.heap.size W w2) := hB2
          have hown3 : w2.ownsRow W.heap.size 3 1 v' (done ++ [i]).length (nums (done ++ [i])) := by
            rw [nums_snoc, List.length_append]; exact hown'
          have cF2 := nameOf_any (HA.out w2 hB2) k hkl
          have hnm2 : nmR L rk k = X := HNM.out
          rw [hnm2] at cF2
          obtain ⟨g', cap', rfl⟩ := ownsRow_succ hown'
          clear hown' hgrow hown1 hB2 hnm2
          go_wp2_with fail
          refine cF2.mono ?_
          rintro e w3 ⟨rfl, hb3⟩
          have hown4 := row_keeps hown3 hb3
          have HB3 : Aside (Below W.heap.size W w3) := HB2.out.trans (hb3.mono HB2.out.size)
          clear hb3 cF2 hown3
          go_wp2
          go_step3
          refine ⟨rfl, ⟨pos + z, done ++ [i], _, _, _, _, _, _, _, _, _, _, _, _, _, _, _, _, _, _, _, _, _, _, _, _, _, _, _, _, _, _, _, _, _, _, _, _, _, rfl, hown4, HB3, by omega, by rw [List.length_append, List.length_singleton]; omega, HQ2⟩, ?_⟩
          show 33 - (done.length + 1) < 33 - done.length
          omega
set_option maxRecDepth 100000 in
set_option maxHeartbeats 1000000 in
theorem standing_nil (t : ByteArray) (W : World) :
    Calls Tryz.prog 87 #[.pointer none, .string t, .int .i64 0] W fun e w' => e = .returned (.int .i64 0) ∧ w' = W := by
  have cS := size_nil W
  go_enter Tryz.func87, Tryz.ntmps87
  go_wp2
  refine wp_loop_rounds 1 ?_
  rw [rounds_succ]
  go_wp2_with (first | (go_at_call 54; refine cS.mono ?_; rintro e w' ⟨rfl, hw⟩; obtain rfl := hw.symm))
  go_ret
  exact ⟨rfl, rfl⟩
end Go.Proofs.YtjgmmfkeogkakaaGreat.Utf
