/-
  The program's Parse walked.
-/
import Derived.Test.YtkkeoonglcfhnaaDoorSke
import Derived.Test.YtkkeoonglcfhnaaDoorGrdf
import Derived.Test.YtkkeoonglcfhnaaDoorTrnr
namespace Go.Proofs.YtkkeoonglcfhnaaDoor.Skt
open Go Go.Lib Go.RowKit Utf Grd

theorem results_g3 {fn : Func} {p q r : Tmp} (h : fn.results = #[.cell p 24, .tmp q, .tmp r]) (tmps : Array Value) (w : World) (b : Nat) (x0 x1 x2 x3 x4 : Value)
    (hp : tmps.getD p undef = .pointer (some ⟨b, 0, none⟩)) (hb : Five w b x0 x1 x2 x3 x4) :
    (results fn tmps).run Tryd.prog w = .ok (.tuple #[.agg #[x0, x1, x2, x3, x4], tmps.getD q undef, tmps.getD r undef]) w := by
  have hp' : tmps[p]?.getD undef = .pointer (some ⟨b, 0, none⟩) := by simpa using hp
  have c0 := hb.c0
  have c1 := hb.c1
  have c2 := hb.c2
  have c3 := hb.c3
  have c4 := hb.c4
  simp only [results, h]
  simp [hp', asAddr]
  go_simp
theorem scan_err (s : ByteArray) (p ls : Nat) (rows : List (List C3)) (cur : List C3) (a er : Nat) (hp : p ≤ s.size) (hls : ls ≤ s.size) (h : scan s p ls rows cur = .inl (a, er)) : (50 ≤ er ∧ er ≤ 83) ∧ a ≤ s.size := by
  generalize hn : s.size - p = n
  induction n using Nat.strongRecOn generalizing p ls rows cur with
  | _ n ih =>
    have hend : ∀ rows cur ls, ls ≤ s.size → endRow rows cur ls = .inl (a, er) → (50 ≤ er ∧ er ≤ 83) ∧ a ≤ s.size := by
      intro rows cur ls hls he
      unfold endRow at he
      by_cases e : cur = []
      · rw [if_pos e] at he; cases he
      · rw [if_neg e] at he
        by_cases k : rows = [] ∨ (rows.headD []).length = cur.length
        · rw [if_pos k] at he; cases he
        · rw [if_neg k] at he
          cases he
          exact ⟨by omega, hls⟩
    by_cases hlt : p < s.size
    · have hf := decode_fits s p hlt
      by_cases h10 : (Utf8.decode s p).1 = 10
      · rw [scan_line hlt h10] at h
        cases hr : endRow rows cur ls with
        | inl x =>
          rw [hr] at h
          exact hend rows cur ls hls (hr.trans h)
        | inr r2 =>
          rw [hr] at h
          exact ih _ (by omega) (p + (Utf8.decode s p).2) _ r2 [] (by omega) (by omega) h rfl
      · rw [scan_put hlt h10] at h
        cases hr : putC (Utf8.decode s p).1 p rows.length cur with
        | inl x =>
          rw [hr] at h
          cases h
          unfold putC at hr
          repeat' split at hr
          all_goals first | (cases hr; done) | (cases hr; exact ⟨by omega, hp⟩)
        | inr c2 =>
          rw [hr] at h
          exact ih _ (by omega) (p + (Utf8.decode s p).2) ls rows c2 (by omega) hls h rfl
    · rw [scan_end hlt] at h
      exact hend rows cur ls hls h
theorem prs_err {s : ByteArray} {a er : Nat} (hs : ¬ 65536 < s.size) (h : scan s 0 0 [] [] = .inl (a, er)) : prs s = (zeroG, a, er) := by
  unfold prs
  rw [if_neg hs]
  simp only [h]
theorem prs_none {s : ByteArray} (hs : ¬ 65536 < s.size) (h : scan s 0 0 [] [] = .inr []) : prs s = (zeroG, s.size, 82) := by
  unfold prs
  rw [if_neg hs]
  simp only [h, if_true]
theorem prs_rows {s : ByteArray} {rows : List (List C3)} (hs : ¬ 65536 < s.size) (h : scan s 0 0 [] [] = .inr rows) (hr : rows ≠ []) : prs s = if (mkG rows).chk = 0 then (mkG rows, 0, 0) else (zeroG, 0, (mkG rows).chk) := by
  unfold prs
  rw [if_neg hs]
  simp only [h, if_neg hr]
theorem row_readsB2 {W : World} {B n : Nat} {ao : Option Addr} {cp : Nat} {zs : List Bool} (h : W.ownsRow B 4 1 (.slice ao n cp) zs.length (cellsB zs)) : ReadsB W ao zs := fun i hi => by
  rcases h.2 with ⟨_, h0⟩ | ⟨g, cap, cur, e, _, e3, e4⟩
  · omega
  · cases e
    have := h.cellAt i (by omega)
    rw [cellsB_at hi] at this
    exact ⟨g, 0, rfl, (Array.getElem?_eq_some_iff.1 e3).1, by rw [Nat.zero_add]; exact this⟩
theorem row_len {W : World} {B m n : Nat} {ao : Option Addr} {cp : Nat} {l : List Value} (h : W.ownsRow B 4 1 (.slice ao m cp) n l) : m = n := by
  rcases h.2 with ⟨e, h0⟩ | ⟨g, cap, cur, e, _⟩
  · cases e; exact h0.symm
  · cases e; rfl
theorem L3.low {W W' : World} {b c : Nat} {v8 v9 v10 : Value} {xs ys zs : List Bool} (h : L3 W b v8 v9 v10 xs ys zs) (hc : c ≤ b) (hd : Dif (fun k => k = c) W W') : L3 W' b v8 v9 v10 xs ys zs := by
  have key : ∀ {n : Nat} {v : Value} {l : List Value}, W.ownsRow (b + 1) 4 1 v n l → W'.ownsRow (b + 1) 4 1 v n l := by
    intro n v l h
    rcases h with ⟨h1, h2 | ⟨g, cap, cur, e1, e2, e3, e4⟩⟩
    · exact ⟨h1, .inl h2⟩
    · exact ⟨h1, .inr ⟨g, cap, cur, e1, e2, (hd.block g (Array.getElem?_eq_some_iff.1 e3).1 (by omega)).trans e3, e4⟩⟩
  exact ⟨key h.r8, key h.r9, key h.r10, h.a89, h.a810, h.a910⟩
theorem rg_zero (W : World) : RG W zeroG ⟨none, 0, none, 0, none, 0⟩ := ⟨fun i hi => absurd hi (Nat.not_lt_zero i), fun i hi => absurd hi (Nat.not_lt_zero i), fun i hi => absurd hi (Nat.not_lt_zero i)⟩

set_option maxRecDepth 100000 in
set_option maxHeartbeats 2000000 in
theorem parse_any (s : ByteArray) (W : World) (hT : Lib.Utf8Tabs 2 3 W) (hw : Wy W) (hs0 : s.size ≤ 140737488355328) :
    Calls Tryd.prog 18 #[.string s] W fun e W' => ∃ p : Ad, e = .returned (.tuple #[gv (prs s).1 p, .int .i64 ((prs s).2.1 : Nat), .int .i64 ((prs s).2.2 : Nat)]) ∧ RG W' (prs s).1 p ∧ Below W.heap.size W W' := by
  by_cases hs : 65536 < s.size
  · have e : prs s = (zeroG, 65536, 1) := by unfold prs; rw [if_pos hs]
    rw [e]
    go_enter Tryd.func18, Tryd.ntmps18
    go_wp2
    refine bodyPost_ret (results_g3 rfl _ _ W.heap.size _ _ _ _ _ rfl ⟨heap_alloc_new W _⟩) rfl ⟨⟨none, 0, none, 0, none, 0⟩, rfl, rg_zero _, below_box W _⟩
  · have hsz : s.size ≤ 65536 := by omega
    obtain ⟨W0, hW0⟩ : ∃ W0, W0 = ((W.alloc (.cells #[.int .i64 0, .int .i64 0, .slice none 0 0, .slice none 0 0, .slice none 0 0] 24)).alloc (.cells #[.string s, .int .i32 0, .int .i64 0, .int .i64 0, .int .i64 0, .int .i64 0, .int .i64 0, .int .i64 0, .slice none 0 0, .slice none 0 0, .slice none 0 0] 72)) := ⟨_, rfl⟩
    have hF0 : Five W0 W.heap.size (.int .i64 0) (.int .i64 0) (.slice none 0 0) (.slice none 0 0) (.slice none 0 0) := ⟨by rw [hW0]; exact heap_alloc2_old W _ _⟩
    have hS0 : S11 W0 (W.heap.size + 1) (.string s) (.int .i32 0) (.int .i64 0) (.int .i64 0) (.int .i64 0) (.int .i64 0) (.int .i64 0) (.int .i64 0) (.slice none 0 0) (.slice none 0 0) (.slice none 0 0) := ⟨by rw [hW0]; exact heap_alloc2_new W _ _⟩
    have hB0 : Below W.heap.size W W0 := by rw [hW0]; exact (below_box W _).alloc (below_box W _).size _
    have hsT := tabs_size hT
    have cS := scan_any s (W.heap.size + 1) W0 _ _ _ _ hsz (tabs_below hB0 hsT hT) (by omega) hS0
    have HF0 : Aside (Five W0 W.heap.size (.int .i64 0) (.int .i64 0) (.slice none 0 0) (.slice none 0 0) (.slice none 0 0)) := hF0
    have HB0 : Aside (Below W.heap.size W W0 ∧ W.heap.size + 1 < W0.heap.size) := ⟨hB0, hS0.lt⟩
    have HW : Aside (Wy W) := hw
    clear hF0 hS0 hB0 hT hw hs hsT
    go_enter Tryd.func18, Tryd.ntmps18
    go_wp2_with fail
    rw [← hW0]
    clear hW0
    refine cS.mono ?_
    clear cS
    rintro e w1 (⟨a, er, hE, rfl, hb1⟩ | ⟨rows, y1, y2, y3, y4, y5, hE, rfl, hSt⟩)
    · have hq := scan_err s 0 0 [] [] a er (Nat.zero_le _) (Nat.zero_le _) hE
      have HP : Aside (prs s = (zeroG, a, er)) := prs_err (by omega) hE
      have hb2 : Below W.heap.size W w1 := HB0.out.1.trans (hb1.mono (by omega))
      have hF1 : Five w1 W.heap.size (.int .i64 0) (.int .i64 0) (.slice none 0 0) (.slice none 0 0) (.slice none 0 0) := ⟨(hb1.block W.heap.size (by omega)).trans HF0.out.blk⟩
      have HF1 : Aside (Five w1 W.heap.size (.int .i64 0) (.int .i64 0) (.slice none 0 0) (.slice none 0 0) (.slice none 0 0) ∧ Below W.heap.size W w1) := ⟨hF1, hb2⟩
      have her : ((er : Int) != 0) = true := by rw [bne_iff_ne]; omega
      have z0 := hF1.c0
      have z1 := hF1.c1
      have z2 := hF1.c2
      have z3 := hF1.c3
      have z4 := hF1.c4
      have f0 := hF1.fr 0
      have f1 := hF1.fr 1
      have f2 := hF1.fr 2
      have f3 := hF1.fr 3
      have f4 := hF1.fr 4
      clear hE hb1 hb2 hF1 hq
      go_wp2
      have hF5 := HF1.out.1.all (.int .i64 0) (.int .i64 0) (.slice none 0 0) (.slice none 0 0) (.slice none 0 0)
      rw [HP.out]
      refine bodyPost_ret (results_g3 rfl _ _ W.heap.size _ _ _ _ _ rfl hF5) rfl ⟨⟨none, 0, none, 0, none, 0⟩, rfl, rg_zero _, Below.all HF1.out.2 (Nat.le_refl _) HF1.out.2.size _ _ _ _ _⟩
    · obtain ⟨v8, v9, v10, hS, hL⟩ := hSt.box
      rw [List.append_nil] at hL
      obtain ⟨o8, m8, c8, rfl⟩ := row_slice hL.r8
      obtain ⟨o9, m9, c9, rfl⟩ := row_slice hL.r9
      obtain ⟨o10, m10, c10, rfl⟩ := row_slice hL.r10
      obtain rfl := row_len hL.r8
      obtain rfl := row_len hL.r9
      obtain rfl := row_len hL.r10
      by_cases hr : rows = []
      · have HP : Aside (prs s = (zeroG, s.size, 82)) := by subst hr; exact prs_none (by omega) hE
        have k6 := hS.c6
        rw [hr] at k6
        have hb2 : Below W.heap.size W w1 := HB0.out.1.trans (hSt.below.mono (by omega))
        have hF1 : Five w1 W.heap.size (.int .i64 0) (.int .i64 0) (.slice none 0 0) (.slice none 0 0) (.slice none 0 0) := ⟨(hSt.below.block W.heap.size (by omega)).trans HF0.out.blk⟩
        have HF1 : Aside (Five w1 W.heap.size (.int .i64 0) (.int .i64 0) (.slice none 0 0) (.slice none 0 0) (.slice none 0 0) ∧ Below W.heap.size W w1) := ⟨hF1, hb2⟩
        have z0 := hF1.c0
        have z1 := hF1.c1
        have z2 := hF1.c2
        have z3 := hF1.c3
        have z4 := hF1.c4
        have f0 := hF1.fr 0
        have f1 := hF1.fr 1
        have f2 := hF1.fr 2
        have f3 := hF1.fr 3
        have f4 := hF1.fr 4
        clear hE hb2 hF1 hS hL hSt hr
        go_wp2
        have hF5 := HF1.out.1.all (.int .i64 0) (.int .i64 0) (.slice none 0 0) (.slice none 0 0) (.slice none 0 0)
        rw [HP.out]
        refine bodyPost_ret (results_g3 rfl _ _ W.heap.size _ _ _ _ _ rfl hF5) rfl ⟨⟨none, 0, none, 0, none, 0⟩, rfl, rg_zero _, Below.all HF1.out.2 (Nat.le_refl _) HF1.out.2.size _ _ _ _ _⟩
      · have hrl : 1 ≤ rows.length := List.length_pos_iff.2 hr
        have hr16 := hSt.ok.few
        have hrb : ((rows.length : Int) == 0) = false := beq_no (by omega)
        have hb2 : Below W.heap.size W w1 := HB0.out.1.trans (hSt.below.mono (by omega))
        have hF1 : Five w1 W.heap.size (.int .i64 0) (.int .i64 0) (.slice none 0 0) (.slice none 0 0) (.slice none 0 0) := ⟨(hSt.below.block W.heap.size (by omega)).trans HF0.out.blk⟩
        have hRG : ∀ w2, L3 w2 (W.heap.size + 1) (.slice o8 (mkG rows).B.length c8) (.slice o9 (mkG rows).R.length c9) (.slice o10 (mkG rows).D.length c10) (mkG rows).B (mkG rows).R (mkG rows).D → RG w2 (mkG rows) ⟨o8, c8, o9, c9, o10, c10⟩ := fun w2 h => ⟨row_readsB2 h.r8, row_readsB2 h.r9, row_readsB2 h.r10⟩
        have cC := check_any (mkG rows) ⟨o8, c8, o9, c9, o10, c10⟩ w1 (HW.out.below HW.out.size hb2) (hRG w1 hL)
        have HPR : Aside (prs s = if (mkG rows).chk = 0 then (mkG rows, 0, 0) else (zeroG, 0, (mkG rows).chk)) := prs_rows (by omega) hE hr
        have HL : Aside (L3 w1 (W.heap.size + 1) (.slice o8 (mkG rows).B.length c8) (.slice o9 (mkG rows).R.length c9) (.slice o10 (mkG rows).D.length c10) (mkG rows).B (mkG rows).R (mkG rows).D ∧ ∀ w2, L3 w2 (W.heap.size + 1) (.slice o8 (mkG rows).B.length c8) (.slice o9 (mkG rows).R.length c9) (.slice o10 (mkG rows).D.length c10) (mkG rows).B (mkG rows).R (mkG rows).D → RG w2 (mkG rows) ⟨o8, c8, o9, c9, o10, c10⟩) := ⟨hL, hRG⟩
        have HS : Aside (S11 w1 (W.heap.size + 1) (.string s) y1 y2 y3 y4 y5 (.int .i64 (mkG rows).h) (.int .i64 (mkG rows).w) (.slice o8 (mkG rows).B.length c8) (.slice o9 (mkG rows).R.length c9) (.slice o10 (mkG rows).D.length c10)) := hS
        have HF1 : Aside (Five w1 W.heap.size (.int .i64 0) (.int .i64 0) (.slice none 0 0) (.slice none 0 0) (.slice none 0 0) ∧ Below W.heap.size W w1) := ⟨hF1, hb2⟩
        have hh : (mkG rows).h = (rows.length : Int) := rfl
        unfold gv at cC
        clear hE hb2 hF1 hS hL hSt hr hRG
        have hrb2 : ((mkG rows).h == 0) = false := by rw [hh]; exact hrb
        have hhb : 0 ≤ (mkG rows).h ∧ (mkG rows).h ≤ 16 := by omega
        generalize mkG rows = g at *
        clear hh hrb
        have k6 := HS.out.c6
        have k7 := HS.out.c7
        have k8 := HS.out.c8
        have k9 := HS.out.c9
        have k10 := HS.out.c10
        go_wp2_with fail
        refine cC.mono ?_
        rintro e w2 ⟨rfl, hb12⟩
        have hF2 := HF1.out.1.keep hb12
        have HF2 : Aside (Five w2 W.heap.size (.int .i64 0) (.int .i64 0) (.slice none 0 0) (.slice none 0 0) (.slice none 0 0) ∧ Below W.heap.size W w2) := ⟨hF2, HF1.out.2.trans (hb12.mono HF1.out.2.size)⟩
        have hS2 := HS.out.keep hb12
        have HL2 : Aside (L3 w2 (W.heap.size + 1) (.slice o8 g.B.length c8) (.slice o9 g.R.length c9) (.slice o10 g.D.length c10) g.B g.R g.D) := HL.out.1.keep hb12
        clear k6 k7 k8 k9 k10 cC hb12
        by_cases hc : g.chk = 0
        · have HP : Aside (prs s = (g, 0, 0)) := HPR.out.trans (if_pos hc)
          rw [hc]
          have k6 := hS2.c6
          have k7 := hS2.c7
          have k8 := hS2.c8
          have k9 := hS2.c9
          have k10 := hS2.c10
          have z0 := hF2.c0
          have f0 := hF2.fr 0
          have z1 := hF2.c1
          have f1 := hF2.fr 1
          have z2 := hF2.c2
          have f2 := hF2.fr 2
          have z3 := hF2.c3
          have f3 := hF2.fr 3
          have z4 := hF2.c4
          have f4 := hF2.fr 4
          clear hS2 hF2 HPR
          go_wp2
          have hF5 := HF2.out.1.all (.int .i64 g.h) (.int .i64 g.w) (.slice o8 g.B.length c8) (.slice o9 g.R.length c9) (.slice o10 g.D.length c10)
          have hd5 := Dif.st5 (Dif.refl (fun k => k = W.heap.size) w2) rfl (.int .i64 g.h) (.int .i64 g.w) (.slice o8 g.B.length c8) (.slice o9 g.R.length c9) (.slice o10 g.D.length c10)
          rw [HP.out]
          refine bodyPost_ret (results_g3 rfl _ _ W.heap.size _ _ _ _ _ rfl hF5) rfl ⟨⟨o8, c8, o9, c9, o10, c10⟩, rfl, HL.out.2 _ (HL2.out.low (by omega) hd5), Below.all HF2.out.2 (Nat.le_refl _) HF2.out.2.size _ _ _ _ _⟩
        · have HP : Aside (prs s = (zeroG, 0, g.chk)) := HPR.out.trans (if_neg hc)
          have hcb : ((g.chk : Int) != 0) = true := by rw [bne_iff_ne]; omega
          have hcb2 : g.chk ≤ 52 := by
            unfold Gr.chk
            repeat' split
            all_goals omega
          generalize g.chk = ck at *
          have z0 := hF2.c0
          have f0 := hF2.fr 0
          have z1 := hF2.c1
          have f1 := hF2.fr 1
          have z2 := hF2.c2
          have f2 := hF2.fr 2
          have z3 := hF2.c3
          have f3 := hF2.fr 3
          have z4 := hF2.c4
          have f4 := hF2.fr 4
          clear hS2 hF2 HPR hc
          go_wp2
          have hF5 := HF2.out.1.all (.int .i64 0) (.int .i64 0) (.slice none 0 0) (.slice none 0 0) (.slice none 0 0)
          rw [HP.out]
          refine bodyPost_ret (results_g3 rfl _ _ W.heap.size _ _ _ _ _ rfl hF5) rfl ⟨⟨none, 0, none, 0, none, 0⟩, rfl, rg_zero _, Below.all HF2.out.2 (Nat.le_refl _) HF2.out.2.size _ _ _ _ _⟩
end Go.Proofs.YtkkeoonglcfhnaaDoor.Skt
