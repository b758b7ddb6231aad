/-
  The scanner's next: the next sign that is no blank, and its place.
-/
import Derived.Test.YthjgldjjplcncabDoorSkaq
import Derived.Test.YthjgldjjplcncabDoorHldq
namespace Go.Proofs.YthjgldjjplcncabDoor.Skt
open Go Go.Lib Go.RowKit Utf Grd

theorem wp_jump_weaken2 {P : Program} {c : Code} {l : Nat} {J X : Act → World → Prop} {Q : Exit → Act → World → Prop} {a : Act} {w : World} (h : c.wp P (Exit.jump l (fun a w => J a w ∧ X a w) Q) a w) : c.wp P (Exit.jump l J Q) a w := by
  refine (wpIn_wide (n := 3)).1 (wpIn_mono ((wpIn_wide (n := 3)).2 h) ?_)
  intro e a' w' hq
  cases e with
  | normal => exact hq
  | exit id => exact hq
  | goto l => exact ⟨hq.1, hq.2.1⟩
  | ret => exact hq
  | panic ch => exact hq
  | outgrown => exact hq
theorem wp_scope_back {P : Program} {c body : Code} {Q : Exit → Act → World → Prop} {a : Act} {w : World} (l : Nat) (J : Act → World → Prop) (μ : Act → World → Nat) (hf : findLabel c l = some (Code.skip.seq body))
    (first : (∀ a w, J a w → body.wp P (Exit.jump l J Q) a w) → c.wp P (Exit.jump l J Q) a w)
    (pass : ∀ a w, J a w → body.wp P (Exit.jump l (fun a' w' => J a' w' ∧ μ a' w' < μ a w) Q) a w) : (Code.scope c).wp P Q a w :=
  wp_scope_jumps l J μ hf (first fun a w h => wp_jump_weaken2 (pass a w h)) (fun a w h => wp_seq (wp_skip (pass a w h)))
theorem cls_m1 : ¬ cls (-1) = 3 := fun h => by have := cls_3.1 h; unfold isB at this; omega
theorem sigN_cls (r : Nat) : cls (sigN r) = 3 ↔ cls (r : Int) = 3 := by
  unfold sigN
  by_cases h : r = 9632
  · rw [if_pos h, cls_3, cls_3]; unfold isB; omega
  · rw [if_neg h]
    by_cases h2 : r = 9633
    · rw [if_pos h2, cls_3, cls_3]; unfold isB; omega
    · rw [if_neg h2]
theorem sigN_ten (r : Nat) : sigN r = 10 ↔ r = 10 := by
  unfold sigN
  by_cases h : r = 9632
  · rw [if_pos h]; omega
  · rw [if_neg h]
    by_cases h2 : r = 9633
    · rw [if_pos h2]; omega
    · rw [if_neg h2]; omega
theorem sigA_blank (s : ByteArray) (q : Nat) : (sigA s q ≠ 10 ∧ cls (sigA s q) = 3) ↔ (q < s.size ∧ (Utf8.decode s q).1 ≠ 10 ∧ cls ((Utf8.decode s q).1 : Int) = 3) := by
  unfold sigA
  by_cases h : q < s.size
  · rw [if_pos h, sigN_cls, ne_eq, sigN_ten]
    exact ⟨fun k => ⟨h, k⟩, fun k => k.2⟩
  · rw [if_neg h]
    exact ⟨fun k => absurd k.2 cls_m1, fun k => absurd k.1 h⟩
theorem sigA_of (s : ByteArray) (q : Nat) (z w : Int) (hz : z = (if q < s.size then ((Utf8.decode s q).1 : Int) else 0)) (hw : w = ((aft s q - q : Nat) : Int)) : (if w = 0 then (-1 : Int) else if z = 9632 then 35 else if z = 9633 then 46 else z) = sigA s q := by
  subst hz hw
  unfold sigA
  by_cases h : q < s.size
  · have := aft_in h
    rw [if_pos h, if_pos h, if_neg (by omega)]
    unfold sigN
    by_cases h1 : (Utf8.decode s q).1 = 9632
    · rw [if_pos (by omega), if_pos h1]
    · rw [if_neg (by omega), if_neg h1]
      by_cases h2 : (Utf8.decode s q).1 = 9633
      · rw [if_pos (by omega), if_pos h2]
      · rw [if_neg (by omega), if_neg h2]
  · rw [if_neg h, if_neg h, if_pos]
    unfold aft
    rw [if_neg h]
    omega
/-- The frame of next. -/
def fr51 (b : Nat) (u : Nat → Value) : Array Value := #[.pointer (some ⟨b, 0, none⟩), u 1, u 2, u 3, u 4, u 5, u 6, u 7, u 8, u 9, u 10, u 11, u 12, u 13, u 14, u 15, u 16, u 17, u 18, u 19, u 20, u 21, u 22, u 23, u 24, u 25, u 26, u 27, u 28, u 29, u 30, u 31, u 32, u 33, u 34, u 35, u 36, u 37, u 38, u 39, u 40, u 41, u 42, u 43, u 44, u 45, u 46, u 47, u 48, u 49, u 50]
def ffn (l : List Value) (i : Nat) : Value := l[i]?.getD undef

set_option maxRecDepth 100000 in
set_option maxHeartbeats 4000000 in
theorem next_scan (s : ByteArray) (b p : Nat) (W : World) (x1 x2 x4 x5 x6 x7 x8 x9 x10 : Value) (hp : p ≤ s.size) (hs : s.size ≤ 65536) (hT : Lib.Utf8Tabs 1 2 W) (hb : 2 < b)
    (h : S11 W b (.string s) x1 x2 (.int .i64 (p : Int)) x4 x5 x6 x7 x8 x9 x10) :
    Calls Tryd.prog 38 #[.pointer (some ⟨b, 0, none⟩)] W fun e W' => e = .returned (.tuple #[]) ∧ S11 W' b (.string s) (.int .i32 (sigA s (skip s p))) (.int .i64 (skip s p : Nat)) (.int .i64 (aft s (skip s p) : Nat)) x4 x5 x6 x7 x8 x9 x10 ∧ Dif (fun k => k = b) W W' := by
  have HS : Aside (∃ v1 v2, S11 W b (.string s) v1 v2 (.int .i64 (p : Int)) x4 x5 x6 x7 x8 x9 x10) := ⟨_, _, h⟩
  clear h
  go_enter Tryd.func38, Tryd.ntmps38
  go_wp2
  refine wp_scope_back 0 (fun a wq => ∃ (q : Nat) (u : Nat → Value), a = { tmps := fr51 b u, defers := [] } ∧ q ≤ s.size ∧ Aside (skip s q = skip s p) ∧ Aside (∃ v1 v2, S11 wq b (.string s) v1 v2 (.int .i64 (q : Int)) x4 x5 x6 x7 x8 x9 x10) ∧ Aside (Dif (fun k => k = b) W wq)) (fun _ wq => s.size + 1 - rdN wq b 3) rfl ?first ?pass
  case first =>
    intro hpass
    go_wp2
    go_step3
    rename_i K hK
    refine hK _ _ ?_
    exact hpass _ _ ⟨p, fun _ => undef, rfl, hp, rfl, HS, Dif.refl _ _⟩
  case pass =>
    rintro a wq ⟨q, u, rfl, hq, HQ, HSq, HD⟩
    unfold fr51
    generalize hμ : s.size + 1 - rdN wq b 3 = μ0
    have HM : Aside (s.size + 1 - q = μ0) := by
      obtain ⟨v1, v2, hS⟩ := HSq.out
      rw [rdN_of hS.c3] at hμ
      exact hμ
    clear hμ HS
    have hTq := (dif_tabs HD.out (fun k hk e => by omega) hT)
    have cN := fun w' (hb' : Below wq.heap.size wq w') => next_any s (q : Int) w' (tabs_below hb' (tabs_size hTq) hTq)
    obtain ⟨v1, v2, hS⟩ := HSq.out
    have HC : Aside (∀ Z, Below wq.heap.size wq Z → S11 Z b (.string s) v1 v2 (.int .i64 (q : Int)) x4 x5 x6 x7 x8 x9 x10) := fun Z hZ => hS.keep hZ
    go_wp2
    refine wp_region_quiet (C := fun Z => Below wq.heap.size wq Z) (by kernel_rfl) (by kernel_rfl) (Below.drew (Below.refl _ _)) ?_
    repeat (
      refine wpQuiet_step (fun K hK => ?_)
      go_simp
      first
        | (refine hK _ ?_; clear hK K)
        | (apply Exists.intro
           refine ⟨fun Z hZ => ?_, hK _ ?_⟩
           first
             | exact rfl
             | (refine (cN Z hZ).mono ?_; rintro e w6 ⟨rfl, hb6⟩; exact ⟨rfl, hZ.trans (hb6.mono hZ.size)⟩)
             | (have f3 := HC.out Z hZ; have k0 := f3.c0; have k3 := f3.c3; go_simp; exact rfl)
           clear hK K))
    refine wpQuiet_nil ?_
    intro w1 hb1
    have hS1 := HC.out w1 hb1
    have HD1 : Aside (Dif (fun k => k = b) W w1) := HD.out.trans (Dif.of_below hb1)
    have hr : nextR s (q : Int) = (if q < s.size then ((Utf8.decode s q).1 : Int) else 0) := by
      by_cases e : q < s.size
      · rw [nextR_in e, if_pos e]
      · rw [nextR_out (by omega), if_neg e]
    have hw : nextW s (q : Int) = ((aft s q - q : Nat) : Int) := by
      unfold aft
      by_cases e : q < s.size
      · rw [nextW_in e, if_pos e]
        omega
      · rw [nextW_out (by omega), if_neg e]
        omega
    have haf := aft_le hq
    rw [hw]
    generalize hz : nextR s (q : Int) = z at *
    have hsum : (q : Int) + ((aft s q - q : Nat) : Int) = (aft s q : Nat) := by omega
    have HG := sigA_of s q z _ hr rfl
    clear hr hw hz hS HC cN hb1 hTq
    have hq6 : q ≤ 65536 := by omega
    have haf2 : aft s q ≤ 65536 := by omega
    have HA : Aside (∀ f, f = aft s q → f = aft s q ∧ q ≤ f ∧ f ≤ s.size) := fun f e => ⟨e, by omega, by omega⟩
    have hBl := sigA_blank s q
    generalize hga : aft s q = af at *
    have HA : Aside (aft s q = af ∧ q ≤ af ∧ af ≤ s.size) := ⟨hga, haf⟩
    clear hga haf
    have k0 := hS1.c0
    have k2 := hS1.c2
    have k3 := hS1.c3
    have f2 := hS1.fr 2
    have f3 := hS1.fr 3
    go_wp2
    go_big_region
    obtain ⟨w2, hw2⟩ : ∃ w2, w2 = ((w1.setCell ⟨b, 2, none⟩ (.int .i64 (q : Int))).setCell ⟨b, 3, none⟩ (.int .i64 (af : Int))).drew := ⟨_, rfl⟩
    have hS2 : S11 w2 b (.string s) v1 (.int .i64 (q : Int)) (.int .i64 (af : Int)) x4 x5 x6 x7 x8 x9 x10 := by rw [hw2]; exact ⟨((hS1.set2 _).set3 _).blk⟩
    have HD2 : Aside (Dif (fun k => k = b) W w2) := by
      rw [hw2]
      exact ((HD1.out.set b _ _ rfl).set b _ _ rfl).trans (Dif.of_below (Below.drew (Below.refl _ _)))
    rw [← hw2]
    clear hw2 k0 k2 k3 f2 f3 hS1
    have cZ := sgnOf_any z ((af - q : Nat) : Int) w2
    rw [HG] at cZ
    have k1 := hS2.c1
    have f1 := hS2.fr 1
    have cC := fun w => class_any (sigA s q) w
    have hS3 := hS2.set1 (.int .i32 (sigA s q))
    have HD3 : Aside (Dif (fun k => k = b) W (w2.setCell ⟨b, 1, none⟩ (.int .i32 (sigA s q)))) := HD2.out.set b _ _ rfl
    have HS3 : Aside (S11 (w2.setCell ⟨b, 1, none⟩ (.int .i32 (sigA s q))) b (.string s) (.int .i32 (sigA s q)) (.int .i64 (q : Int)) (.int .i64 (af : Int)) x4 x5 x6 x7 x8 x9 x10) := hS3
    have g1 := hS3.c1
    clear HS3 hS3
    have HS3 : Aside (S11 (w2.setCell ⟨b, 1, none⟩ (.int .i32 (sigA s q))) b (.string s) (.int .i32 (sigA s q)) (.int .i64 (q : Int)) (.int .i64 (af : Int)) x4 x5 x6 x7 x8 x9 x10) := hS2.set1 (.int .i32 (sigA s q))
    have HEQ : Aside (aft s q = af ∧ q ≤ af ∧ af ≤ s.size) := HA
    clear hS2 HG HA
    by_cases hbl : sigA s q ≠ 10 ∧ cls (sigA s q) = 3
    · have HBL : Aside (q < s.size ∧ (Utf8.decode s q).1 ≠ 10 ∧ cls ((Utf8.decode s q).1 : Int) = 3) := hBl.1 hbl
      obtain ⟨hb10, hb3⟩ := hbl
      have hb10' : (sigA s q != 10) = true := by rw [bne_iff_ne]; exact hb10
      rw [hb3] at cC
      generalize sigA s q = sg at *
      clear hBl
      go_wp2_with (first
        | (go_at_call 53; refine cZ.mono ?_; rintro e w' ⟨rfl, hw⟩; obtain rfl := hw.symm)
        | (go_at_call 54; refine (cC _).mono ?_; rintro e w' ⟨rfl, hw⟩; obtain rfl := hw.symm))
      go_step3
      refine ⟨rfl, ⟨af, fun i => ffn [.pointer (some ⟨b, 0, none⟩), u 1, .int .i32 z, .int .i64 ((af - q : Nat) : Int), .tuple #[.int .i32 z, .int .i64 ((af - q : Nat) : Int)],
        .pointer (some ⟨b, 0, none⟩), .pointer (some ⟨b, 0, none⟩), .pointer (some ⟨b, 0, none⟩), .string s, .pointer (some ⟨b, 0, none⟩), .pointer (some ⟨b, 0, none⟩), .pointer (some ⟨b, 3, none⟩),
        .int .i64 (q : Int), .tuple #[.int .i32 z, .int .i64 ((af - q : Nat) : Int)], .int .i32 z, .int .i64 ((af - q : Nat) : Int), .pointer (some ⟨b, 0, none⟩),
        .pointer (some ⟨b, 0, none⟩), .pointer (some ⟨b, 0, none⟩), .pointer (some ⟨b, 0, none⟩), .pointer (some ⟨b, 3, none⟩), .int .i64 (q : Int), .pointer (some ⟨b, 0, none⟩),
        .pointer (some ⟨b, 0, none⟩), .pointer (some ⟨b, 3, none⟩), .int .i64 (q : Int), .int .i64 ((af - q : Nat) : Int), .int .i64 (af : Int), .pointer (some ⟨b, 0, none⟩), .pointer (some ⟨b, 2, none⟩),
        .pointer (some ⟨b, 0, none⟩), .pointer (some ⟨b, 3, none⟩), .pointer (some ⟨b, 0, none⟩), .int .i32 z, .int .i64 ((af - q : Nat) : Int), .int .i32 sg, .pointer (some ⟨b, 0, none⟩),
        .pointer (some ⟨b, 1, none⟩), .pointer (some ⟨b, 0, none⟩), .pointer (some ⟨b, 0, none⟩), .pointer (some ⟨b, 1, none⟩), .int .i32 sg, .bool true, .bool true, .pointer (some ⟨b, 0, none⟩),
        .pointer (some ⟨b, 0, none⟩), .pointer (some ⟨b, 1, none⟩), .int .i32 sg, .int .i64 3, .bool true, .bool true] i, rfl, HEQ.out.2.2, ?_, ⟨_, _, HS3.out⟩, HD3⟩, ?_⟩
      · have := skip_on HBL.out.1 HBL.out.2
        unfold aft at HEQ
        have e := HEQ.out.1
        rw [if_pos HBL.out.1] at e
        rw [e] at this
        exact this.symm.trans HQ.out
      · have h1 := HM.out
        have h2 := aft_in HBL.out.1
        rw [HEQ.out.1] at h2
        have h3 := HEQ.out
        show s.size + 1 - rdN _ b 3 < μ0
        rw [rdN_of HS3.out.c3]
        omega
    · have HBL : Aside (¬ (q < s.size ∧ (Utf8.decode s q).1 ≠ 10 ∧ cls ((Utf8.decode s q).1 : Int) = 3)) := fun k => hbl (hBl.2 k)
      have HSK : Aside (skip s p = q) := by
        have := HQ.out
        rw [skip_stop (fun h1 h2 => HBL.out ⟨h1, h2⟩)] at this
        exact this.symm
      have HEND : Aside (S11 (w2.setCell ⟨b, 1, none⟩ (.int .i32 (sigA s q))) b (.string s) (.int .i32 (sigA s (skip s p))) (.int .i64 (skip s p : Nat)) (.int .i64 (aft s (skip s p) : Nat)) x4 x5 x6 x7 x8 x9 x10) := by
        rw [HSK.out, HEQ.out.1]
        exact HS3.out
      clear hBl HSK
      by_cases h10 : sigA s q = 10
      · rw [h10] at cZ cC g1 HEND HD3
        clear hbl
        go_wp2_with (first
          | (go_at_call 53; refine cZ.mono ?_; rintro e w' ⟨rfl, hw⟩; obtain rfl := hw.symm)
          | (go_at_call 54; refine (cC _).mono ?_; rintro e w' ⟨rfl, hw⟩; obtain rfl := hw.symm))
        (try simp only [Exit.jump])
        go_end0
        exact ⟨rfl, HEND.out, HD3.out⟩
      · have hc : ¬ cls (sigA s q) = 3 := fun k => hbl ⟨h10, k⟩
        have hb10' : (sigA s q != 10) = true := by rw [bne_iff_ne]; exact h10
        generalize sigA s q = sg at *
        generalize cls sg = c at *
        have hcb : (c == 3) = false := by rw [beq_eq_false_iff_ne]; exact hc
        clear hbl
        go_wp2_with (first
          | (go_at_call 53; refine cZ.mono ?_; rintro e w' ⟨rfl, hw⟩; obtain rfl := hw.symm)
          | (go_at_call 54; refine (cC _).mono ?_; rintro e w' ⟨rfl, hw⟩; obtain rfl := hw.symm))
        (try simp only [Exit.jump])
        go_end0
        exact ⟨rfl, HEND.out, HD3.out⟩
end Go.Proofs.YthjgldjjplcncabDoor.Skt
