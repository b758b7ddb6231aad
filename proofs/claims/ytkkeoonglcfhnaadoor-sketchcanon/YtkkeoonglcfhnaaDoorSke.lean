/-
  The scanner's scan walked: for every text.
-/
import Derived.Test.YtkkeoonglcfhnaaDoorSkd
namespace Go.Proofs.YtkkeoonglcfhnaaDoor.Skt
open Go Go.Lib Go.RowKit Utf Grd

theorem sigN_nn (r : Nat) : 0 ≤ sigN r := by
  unfold sigN
  split
  · decide
  · split
    · decide
    · omega
theorem sigA_in {s : ByteArray} {q : Nat} (h : sigA s q ≠ -1) : q < s.size := by
  unfold sigA at h
  by_cases k : q < s.size
  · exact k
  · rw [if_neg k] at h
    exact absurd rfl h
theorem St.to {W wq w1 : World} {b : Nat} {s : ByteArray} {y1 y2 y3 y4 y5 z1 z2 z3 z4 z5 v8 v9 v10 : Value} {rows : List (List C3)} {cur : List C3} (h : St W wq b s y1 y2 y3 y4 y5 rows cur) (hlt : b ≤ wq.heap.size)
    (hL : L3 wq b v8 v9 v10 ((rows.flatten ++ cur).map (·.b)) ((rows.flatten ++ cur).map (·.r)) ((rows.flatten ++ cur).map (·.d)))
    (hS : S11 w1 b (.string s) z1 z2 z3 z4 z5 (.int .i64 (rows.length : Int)) (.int .i64 ((rows.headD []).length : Int)) v8 v9 v10) (hd : Dif (fun k => k = b) wq w1) : St W w1 b s z1 z2 z3 z4 z5 rows cur :=
  ⟨⟨v8, v9, v10, hS, hL.dif hd⟩, h.ok, h.below.trans (hd.below (fun k hk _ e => by omega) hlt)⟩
theorem beq_no {a c : Int} (h : a ≠ c) : (a == c) = false := by rw [beq_eq_false_iff_ne]; exact h
theorem St.cell {W wq w1 : World} {b : Nat} {s : ByteArray} {y1 y2 y3 y4 y5 z1 z2 z3 z4 z5 u8 u9 u10 : Value} {rows : List (List C3)} {cur : List C3} {sg : Int} (h : St W wq b s y1 y2 y3 y4 y5 rows cur) (hn : ¬ (cur.length = 16 ∨ rows.length = 16))
    (hS : S11 w1 b (.string s) z1 z2 z3 z4 z5 (.int .i64 (rows.length : Int)) (.int .i64 ((rows.headD []).length : Int)) u8 u9 u10)
    (hL : L3 w1 b u8 u9 u10 ((rows.flatten ++ cur).map (·.b) ++ [sg == 35]) ((rows.flatten ++ cur).map (·.r) ++ [false]) ((rows.flatten ++ cur).map (·.d) ++ [false])) (hb : Below b wq w1) :
    St W w1 b s z1 z2 z3 z4 z5 rows (cur ++ [⟨decide (sg = 35), false, false⟩]) := by
  refine ⟨⟨u8, u9, u10, hS, ?_⟩, h.ok.cell hn _, h.below.trans hb⟩
  have e1 : (rows.flatten ++ (cur ++ [(⟨decide (sg = 35), false, false⟩ : C3)])).map (·.b) = (rows.flatten ++ cur).map (·.b) ++ [sg == 35] := by simp; rfl
  have e2 : (rows.flatten ++ (cur ++ [(⟨decide (sg = 35), false, false⟩ : C3)])).map (·.r) = (rows.flatten ++ cur).map (·.r) ++ [false] := by simp
  have e3 : (rows.flatten ++ (cur ++ [(⟨decide (sg = 35), false, false⟩ : C3)])).map (·.d) = (rows.flatten ++ cur).map (·.d) ++ [false] := by simp
  rw [e1, e2, e3]
  exact hL
theorem head_row {rows : List (List C3)} {cur : List C3} : ((rows ++ [cur]).headD []).length = if rows.length = 0 then cur.length else (rows.headD []).length := by
  cases rows with
  | nil => rfl
  | cons r rs => rfl
theorem St.row {W wq w1 : World} {b : Nat} {s : ByteArray} {y1 y2 y3 y4 y5 z1 z2 z3 z4 z5 v8 v9 v10 : Value} {rows : List (List C3)} {cur : List C3} (h : St W wq b s y1 y2 y3 y4 y5 rows cur) (hlt : b ≤ wq.heap.size) (hc : cur ≠ []) (he : rows.length = 0 ∨ cur.length = (rows.headD []).length)
    (hL : L3 wq b v8 v9 v10 ((rows.flatten ++ cur).map (·.b)) ((rows.flatten ++ cur).map (·.r)) ((rows.flatten ++ cur).map (·.d)))
    (hS : S11 w1 b (.string s) z1 z2 z3 z4 z5 (.int .i64 ((rows.length + 1 : Nat) : Int)) (.int .i64 ((if rows.length = 0 then cur.length else (rows.headD []).length : Nat) : Int)) v8 v9 v10) (hd : Dif (fun k => k = b) wq w1) : St W w1 b s z1 z2 z3 z4 z5 (rows ++ [cur]) [] := by
  have ef : (rows ++ [cur]).flatten ++ [] = rows.flatten ++ cur := by simp
  refine ⟨⟨v8, v9, v10, ?_, ?_⟩, h.ok.row hc (he.imp List.length_eq_zero_iff.1 fun e => e.symm), h.below.trans (hd.below (fun k hk _ e => by omega) hlt)⟩
  · rw [head_row, List.length_append]
    exact hS
  · rw [ef]
    exact hL.dif hd
theorem endRow_no {rows : List (List C3)} {cur : List C3} {ls : Nat} (hc : cur ≠ []) (he : ¬ (rows.length = 0 ∨ cur.length = (rows.headD []).length)) : endRow rows cur ls = .inl (ls, 81) := by
  unfold endRow
  rw [if_neg hc, if_neg]
  exact fun k => he (k.imp (fun e => by rw [e]; rfl) fun e => e.symm)
theorem endRow_yes {rows : List (List C3)} {cur : List C3} {ls : Nat} (hc : cur ≠ []) (he : rows.length = 0 ∨ cur.length = (rows.headD []).length) : endRow rows cur ls = .inr (rows ++ [cur]) := by
  unfold endRow
  rw [if_neg hc, if_pos]
  exact he.imp List.length_eq_zero_iff.1 fun e => e.symm
theorem St.setBarR {W wq w1 : World} {b g : Nat} {s : ByteArray} {y1 y2 y3 y4 y5 v8 v9 v10 : Value} {rows : List (List C3)} {cur : List C3} {c : C3} (h : St W wq b s y1 y2 y3 y4 y5 rows cur) (hl : cur.getLast? = some c)
    (hS : S11 wq b (.string s) y1 y2 y3 y4 y5 (.int .i64 (rows.length : Int)) (.int .i64 ((rows.headD []).length : Int)) v8 v9 v10)
    (hL : L3 wq b v8 v9 v10 ((rows.flatten ++ cur).map (·.b)) ((rows.flatten ++ cur).map (·.r)) ((rows.flatten ++ cur).map (·.d))) (hg : v9.ownBlock = some g)
    (hr : w1.ownsRow (b + 1) 4 1 v9 ((rows.flatten ++ cur).map (·.r)).length (cellsB (((rows.flatten ++ cur).map (·.r)).set (((rows.flatten ++ cur).map (·.r)).length - 1) true))) (hd : Dif (fun k => k = g) wq w1) :
    St W w1 b s y1 y2 y3 y4 y5 rows (cur.dropLast ++ [setR c]) := by
  have hne : cur ≠ [] := by rintro rfl; cases hl
  have hgb := (hL.r9.lt g hg).1
  refine ⟨⟨v8, v9, v10, hS.dif hd (fun e => by omega), ?_⟩, h.ok.last hne _, h.below.trans (hd.below (fun k hk _ e => by omega) (Nat.le_of_lt hS.lt))⟩
  rw [last_map (c' := setR c) (·.b) hl rfl, last_map (c' := setR c) (·.d) hl rfl, ← last_set (c' := setR c) (·.r) hl]
  exact hL.bar hg (List.length_set ..) hr hd
theorem St.setBarD {W wq w1 : World} {b g : Nat} {s : ByteArray} {y1 y2 y3 y4 y5 v8 v9 v10 : Value} {rows : List (List C3)} {cur : List C3} {c : C3} (h : St W wq b s y1 y2 y3 y4 y5 rows cur) (hl : cur.getLast? = some c)
    (hS : S11 wq b (.string s) y1 y2 y3 y4 y5 (.int .i64 (rows.length : Int)) (.int .i64 ((rows.headD []).length : Int)) v8 v9 v10)
    (hL : L3 wq b v8 v9 v10 ((rows.flatten ++ cur).map (·.b)) ((rows.flatten ++ cur).map (·.r)) ((rows.flatten ++ cur).map (·.d))) (hg : v10.ownBlock = some g)
    (hr : w1.ownsRow (b + 1) 4 1 v10 ((rows.flatten ++ cur).map (·.d)).length (cellsB (((rows.flatten ++ cur).map (·.d)).set (((rows.flatten ++ cur).map (·.d)).length - 1) true))) (hd : Dif (fun k => k = g) wq w1) :
    St W w1 b s y1 y2 y3 y4 y5 rows (cur.dropLast ++ [setD c]) := by
  have hne : cur ≠ [] := by rintro rfl; cases hl
  have hgb := (hL.r10.lt g hg).1
  refine ⟨⟨v8, v9, v10, hS.dif hd (fun e => by omega), ?_⟩, h.ok.last hne _, h.below.trans (hd.below (fun k hk _ e => by omega) (Nat.le_of_lt hS.lt))⟩
  rw [last_map (c' := setD c) (·.b) hl rfl, last_map (c' := setD c) (·.r) hl rfl, ← last_set (c' := setD c) (·.d) hl]
  exact (hL.rot.bar hg (List.length_set ..) hr hd).rot.rot

set_option maxRecDepth 100000 in
set_option maxHeartbeats 8000000 in
theorem scan_any (s : ByteArray) (b : Nat) (W : World) (x1 x2 x4 x5 : Value) (hs : s.size ≤ 65536) (hT : Lib.Utf8Tabs 2 3 W) (hb : 3 < b)
    (h : S11 W b (.string s) x1 x2 (.int .i64 0) x4 x5 (.int .i64 0) (.int .i64 0) (.slice none 0 0) (.slice none 0 0) (.slice none 0 0)) :
    Calls Tryd.prog 37 #[.pointer (some ⟨b, 0, none⟩)] W fun e W' => Out W b s (scan s 0 0 [] []) e W' := by
  have H0 : St W W b s x1 x2 (.int .i64 ((0 : Nat) : Int)) x4 x5 [] [] := ⟨⟨_, _, _, h, L3.nil W b⟩, RowsOk.nil, Below.refl _ _⟩
  have HN : Aside (∀ wq p x1 x2 x4 x5 rows cur (_ : p ≤ s.size) (_ : St W wq b s x1 x2 (.int .i64 ((p : Nat) : Int)) x4 x5 rows cur), Calls Tryd.prog 52 #[.pointer (some ⟨b, 0, none⟩)] wq fun e W' => e = .returned (.tuple #[]) ∧ St W W' b s (.int .i32 (sigA s (skip s p))) (.int .i64 (skip s p : Nat)) (.int .i64 (aft s (skip s p) : Nat)) x4 x5 rows cur) := fun wq p x1 x2 x4 x5 rows cur hp h => next_st s b p W wq x1 x2 x4 x5 rows cur hp hs hT hb h
  clear h hT
  generalize hR : scan s 0 0 [] [] = R
  go_enter Tryd.func37, Tryd.ntmps37
  go_wp2
  refine wp_scope_six (At W b s R) (mu s b) (fun l a w hl h => ?h6) rfl rfl rfl rfl rfl rfl ?first ?p0 ?p1 ?p2 ?p3 ?p4 ?p5
  case h6 =>
    obtain ⟨n, rfl⟩ : ∃ n, l = n + 6 := ⟨l - 6, by omega⟩
    exact h.2
  case first =>
    intro hpass
    go_wp2
    go_step3
    rename_i K hK
    refine hK _ _ ?_
    exact hpass _ _ ⟨Fr.of b _ _ _ _ _ _ _ _ _ _ _ _ _ _ _ _ _ _ _ _ _ _ _ _ _ _ _ _ _ _ _ _ _ _ _ _ _ _ _ _ _ _ _ _ _ _ _ _ _ _ _ _ _ _ _ _ _ _ _ _ _ _ _ _ _ _ _ _ _ _ _ _ _ _ _ _ _ _ _ _ _ _ _ _ _ _ _ _ _ _ _ _ _ _ _ _ _ _, 0, [], x1, x2, x4, x5, Nat.zero_le _, H0, hR⟩

  case p2 =>
    rintro a wq ⟨⟨u, rfl⟩, q, y1, y3, y4, y5, rows, cur, hq, hSt, hE⟩
    obtain ⟨v8, v9, v10, hS, hL⟩ := hSt.box
    have k2 := hS.c2
    have HB : Aside (Below b W wq ∧ R = .inl (q, 83)) := ⟨hSt.below, hE⟩
    clear hS hL hSt hR H0 hE HN
    unfold fr99
    generalize mu s b 2 _ wq = m0
    generalize (fun (l' : Nat) (a' : Act) (w' : World) => At W b s R l' a' w' ∧ mu s b l' a' w' < m0) = J
    go_wp2
    simp only [Exit.many]
    go_ret2
    exact Or.inl ⟨q, 83, HB.out.2, rfl, HB.out.1⟩
  case p3 =>
    rintro a wq ⟨⟨u, rfl⟩, q, y1, y3, y4, y5, rows, cur, hq, hSt, hE⟩
    obtain ⟨v8, v9, v10, hS, hL⟩ := hSt.box
    have k2 := hS.c2
    have HB : Aside (Below b W wq ∧ R = .inl (q, 80)) := ⟨hSt.below, hE⟩
    clear hS hL hSt hR H0 hE HN
    unfold fr99
    generalize mu s b 3 _ wq = m0
    generalize (fun (l' : Nat) (a' : Act) (w' : World) => At W b s R l' a' w' ∧ mu s b l' a' w' < m0) = J
    go_wp2
    simp only [Exit.many]
    go_ret2
    exact Or.inl ⟨q, 80, HB.out.2, rfl, HB.out.1⟩
  case p0 =>
    rintro a wq ⟨⟨u, rfl⟩, p, rows, y1, y2, y4, y5, hp, hSt, hE⟩
    unfold fr99
    generalize hm : mu s b 0 _ wq = m0
    generalize hJ : (fun (l' : Nat) (a' : Act) (w' : World) => At W b s R l' a' w' ∧ mu s b l' a' w' < m0) = J
    unfold mu rank at hm
    rw [hSt.bh] at hm
    obtain ⟨v8, v9, v10, hS, hL⟩ := hSt.box
    have k3 := hS.c3
    have k4 := hS.c4
    have k5 := hS.c5
    have f4 := hS.fr 4
    have f5 := hS.fr 5
    have hSt1 : St W ((wq.setCell ⟨b, 4, none⟩ (.int .i64 (p : Int))).setCell ⟨b, 5, none⟩ (.int .i64 0)) b s y1 y2 (.int .i64 (p : Int)) (.int .i64 (p : Int)) (.int .i64 (([] : List C3).length : Int)) rows [] := hSt.to (Nat.le_of_lt hS.lt) hL ((hS.set4 _).set5 _) (((Dif.refl (fun k => k = b) wq).set b _ _ rfl).set b _ _ rfl)
    have cN := HN.out _ p _ _ _ _ _ _ hp hSt1
    obtain ⟨q1, q2, q3⟩ := skip_spec s p hp
    rw [scan_skip] at hE
    generalize skip s p = q at *
    have HQ : Aside (scan s q p rows [] = R ∧ p ≤ q ∧ q ≤ s.size ∧ (∀ _ : q < s.size, ¬ ((Utf8.decode s q).1 ≠ 10 ∧ cls ((Utf8.decode s q).1 : Int) = 3)) ∧ 4 * (s.size - p) + 0 = m0) := ⟨hE, q1, q2, q3, hm⟩
    have HJ : Aside ((fun (l' : Nat) (a' : Act) (w' : World) => At W b s R l' a' w' ∧ mu s b l' a' w' < m0) = J) := hJ
    clear hS hL hSt hSt1 hE q1 q2 q3 hm hJ HN H0 hR
    go_wp2_with fail
    refine cN.mono ?_
    rintro e w2 ⟨rfl, hSt2⟩
    have HS2 : Aside (St W w2 b s (.int .i32 (sigA s q)) (.int .i64 (q : Int)) (.int .i64 (aft s q : Nat)) (.int .i64 (p : Int)) (.int .i64 (([] : List C3).length : Int)) rows []) := hSt2
    obtain ⟨v8, v9, v10, hS2, _⟩ := hSt2.box
    have k1 := hS2.c1
    have HG : Aside (_ ∧ _) := scan_sig (ls := p) (rows := rows) (cur := []) HQ.out.2.2.2.1
    clear hSt2 hS2 cN k3 k4 k5 f4 f5
    by_cases h46 : sigA s q = 46
    · rw [h46] at k1
      have hin := sigA_in (s := s) (q := q) (by rw [h46]; decide)
      have HI : Aside (q < s.size ∧ q < aft s q ∧ aft s q ≤ s.size ∧ sigA s q = 46) := ⟨hin, aft_in hin, (aft_le HQ.out.2.2.1).2, h46⟩
      clear hin h46
      go_wp2
      go_step3
      show J _ _ _
      rw [← HJ.out]
      refine ⟨⟨Fr.of b _ _ _ _ _ _ _ _ _ _ _ _ _ _ _ _ _ _ _ _ _ _ _ _ _ _ _ _ _ _ _ _ _ _ _ _ _ _ _ _ _ _ _ _ _ _ _ _ _ _ _ _ _ _ _ _ _ _ _ _ _ _ _ _ _ _ _ _ _ _ _ _ _ _ _ _ _ _ _ _ _ _ _ _ _ _ _ _ _ _ _ _ _ _ _ _ _ _, q, p, rows, [], HI.out.1, Or.inl HI.out.2.2.2, HQ.out.2.2.2.1, HS2.out, HQ.out.1⟩, ?_⟩
      show 4 * (s.size - rdN w2 b 3) + 3 < m0
      rw [HS2.out.bh]
      have := HQ.out
      have := HI.out
      omega
    by_cases h35 : sigA s q = 35
    · rw [h35] at k1
      have hin := sigA_in (s := s) (q := q) (by rw [h35]; decide)
      have HI : Aside (q < s.size ∧ q < aft s q ∧ aft s q ≤ s.size ∧ sigA s q = 35) := ⟨hin, aft_in hin, (aft_le HQ.out.2.2.1).2, h35⟩
      clear hin h35
      go_wp2
      go_step3
      show J _ _ _
      rw [← HJ.out]
      refine ⟨⟨Fr.of b _ _ _ _ _ _ _ _ _ _ _ _ _ _ _ _ _ _ _ _ _ _ _ _ _ _ _ _ _ _ _ _ _ _ _ _ _ _ _ _ _ _ _ _ _ _ _ _ _ _ _ _ _ _ _ _ _ _ _ _ _ _ _ _ _ _ _ _ _ _ _ _ _ _ _ _ _ _ _ _ _ _ _ _ _ _ _ _ _ _ _ _ _ _ _ _ _ _, q, p, rows, [], HI.out.1, Or.inr HI.out.2.2.2, HQ.out.2.2.2.1, HS2.out, HQ.out.1⟩, ?_⟩
      show 4 * (s.size - rdN w2 b 3) + 3 < m0
      rw [HS2.out.bh]
      have := HQ.out
      have := HI.out
      omega
    by_cases h124 : sigA s q = 124
    · rw [h124] at k1
      have hin := sigA_in (s := s) (q := q) (by rw [h124]; decide)
      have HI : Aside (q < s.size ∧ q < aft s q ∧ aft s q ≤ s.size) := ⟨hin, aft_in hin, (aft_le HQ.out.2.2.1).2⟩
      have HE : Aside (R = .inl (q, 83)) := HQ.out.1.symm.trans (HG.out.2.2.2.1 h124)
      clear hin h124
      go_wp2
      go_step3
      show J _ _ _
      rw [← HJ.out]
      refine ⟨⟨Fr.of b _ _ _ _ _ _ _ _ _ _ _ _ _ _ _ _ _ _ _ _ _ _ _ _ _ _ _ _ _ _ _ _ _ _ _ _ _ _ _ _ _ _ _ _ _ _ _ _ _ _ _ _ _ _ _ _ _ _ _ _ _ _ _ _ _ _ _ _ _ _ _ _ _ _ _ _ _ _ _ _ _ _ _ _ _ _ _ _ _ _ _ _ _ _ _ _ _ _, q, _, _, _, _, rows, [], Nat.le_of_lt HI.out.1, HS2.out, HE.out⟩, ?_⟩
      show 4 * (s.size - rdN w2 b 3) + 0 < m0
      rw [HS2.out.bh]
      have := HQ.out
      have := HI.out
      omega
    by_cases h95 : sigA s q = 95
    · rw [h95] at k1
      have hin := sigA_in (s := s) (q := q) (by rw [h95]; decide)
      have HI : Aside (q < s.size ∧ q < aft s q ∧ aft s q ≤ s.size) := ⟨hin, aft_in hin, (aft_le HQ.out.2.2.1).2⟩
      have HE : Aside (R = .inl (q, 83)) := HQ.out.1.symm.trans (HG.out.2.2.2.2.1 h95)
      clear hin h95
      go_wp2
      go_step3
      show J _ _ _
      rw [← HJ.out]
      refine ⟨⟨Fr.of b _ _ _ _ _ _ _ _ _ _ _ _ _ _ _ _ _ _ _ _ _ _ _ _ _ _ _ _ _ _ _ _ _ _ _ _ _ _ _ _ _ _ _ _ _ _ _ _ _ _ _ _ _ _ _ _ _ _ _ _ _ _ _ _ _ _ _ _ _ _ _ _ _ _ _ _ _ _ _ _ _ _ _ _ _ _ _ _ _ _ _ _ _ _ _ _ _ _, q, _, _, _, _, rows, [], Nat.le_of_lt HI.out.1, HS2.out, HE.out⟩, ?_⟩
      show 4 * (s.size - rdN w2 b 3) + 0 < m0
      rw [HS2.out.bh]
      have := HQ.out
      have := HI.out
      omega
    by_cases h10 : sigA s q = 10
    · rw [h10] at k1
      have hin := sigA_in (s := s) (q := q) (by rw [h10]; decide)
      have HI : Aside (q < s.size ∧ q < aft s q ∧ aft s q ≤ s.size) := ⟨hin, aft_in hin, (aft_le HQ.out.2.2.1).2⟩
      have HE : Aside (scan s (aft s q) (aft s q) rows [] = R) := (HG.out.2.1 h10).symm.trans HQ.out.1
      clear hin h10
      go_wp2
      go_step3
      show J _ _ _
      rw [← HJ.out]
      refine ⟨⟨Fr.of b _ _ _ _ _ _ _ _ _ _ _ _ _ _ _ _ _ _ _ _ _ _ _ _ _ _ _ _ _ _ _ _ _ _ _ _ _ _ _ _ _ _ _ _ _ _ _ _ _ _ _ _ _ _ _ _ _ _ _ _ _ _ _ _ _ _ _ _ _ _ _ _ _ _ _ _ _ _ _ _ _ _ _ _ _ _ _ _ _ _ _ _ _ _ _ _ _ _, aft s q, rows, _, _, _, _, HI.out.2.2, HS2.out, HE.out⟩, ?_⟩
      show 4 * (s.size - rdN w2 b 3) + 0 < m0
      rw [HS2.out.bh]
      have := HQ.out
      have := HI.out
      omega
    by_cases hm1 : sigA s q = -1
    · rw [hm1] at k1
      have HE : Aside (R = .inr rows) := HQ.out.1.symm.trans (HG.out.1 hm1)
      clear hm1
      go_wp2
      simp only [Exit.many]
      go_ret2
      exact Or.inr ⟨rows, _, _, _, _, _, HE.out, rfl, HS2.out⟩
    have hin := sigA_in hm1
    have HI : Aside (q < s.size ∧ q < aft s q ∧ aft s q ≤ s.size) := ⟨hin, aft_in hin, (aft_le HQ.out.2.2.1).2⟩
    have HE : Aside (R = .inl (q, 80)) := HQ.out.1.symm.trans (HG.out.2.2.2.2.2 hm1 h10 h46 h35 h124 h95)
    have b46 := beq_no h46
    have b35 := beq_no h35
    have b124 := beq_no h124
    have b95 := beq_no h95
    have b10 := beq_no h10
    have bm1 := beq_no hm1
    generalize sigA s q = sg at *
    clear hin h46 h35 h124 h95 h10 hm1 HG
    go_wp2
    go_step3
    show J _ _ _
    rw [← HJ.out]
    refine ⟨⟨Fr.of b _ _ _ _ _ _ _ _ _ _ _ _ _ _ _ _ _ _ _ _ _ _ _ _ _ _ _ _ _ _ _ _ _ _ _ _ _ _ _ _ _ _ _ _ _ _ _ _ _ _ _ _ _ _ _ _ _ _ _ _ _ _ _ _ _ _ _ _ _ _ _ _ _ _ _ _ _ _ _ _ _ _ _ _ _ _ _ _ _ _ _ _ _ _ _ _ _ _, q, _, _, _, _, rows, [], Nat.le_of_lt HI.out.1, HS2.out, HE.out⟩, ?_⟩
    show 4 * (s.size - rdN w2 b 3) + 0 < m0
    rw [HS2.out.bh]
    have := HQ.out
    have := HI.out
    omega
  case p1 =>
    rintro hp4 a wq ⟨⟨u, rfl⟩, q, ls, rows, cur, hq, hsg, hnb, hSt, hE⟩
    unfold fr99
    generalize hm : mu s b 1 _ wq = m0
    generalize hJ : (fun (l' : Nat) (a' : Act) (w' : World) => At W b s R l' a' w' ∧ mu s b l' a' w' < m0) = J
    unfold mu rank at hm
    rw [hSt.bh] at hm
    obtain ⟨v8, v9, v10, hS, hL⟩ := hSt.box
    have hG := (scan_sig (ls := ls) (rows := rows) (cur := cur) hnb).2.2.1 hsg
    have k2 := hS.c2
    have k5 := hS.c5
    have k6 := hS.c6
    have hr16 := hSt.ok.few
    have hc16 := hSt.ok.short
    by_cases hf : cur.length = 16 ∨ rows.length = 16
    · rw [if_pos hf] at hG
      have HE : Aside (R = .inl (q, 50) ∧ Below b W wq) := ⟨hE.symm.trans hG, hSt.below⟩
      clear hG hE hSt hS hL hsg hnb hm hJ hp4 HN H0 hR
      by_cases h1 : cur.length = 16
      · rw [h1] at k5
        clear hf h1
        go_wp2
        simp only [Exit.many]
        go_ret2
        exact Or.inl ⟨q, 50, HE.out.1, rfl, HE.out.2⟩
      · have h2 : rows.length = 16 := hf.resolve_left h1
        rw [h2] at k6
        have hc : ((cur.length : Int) == 16) = false := beq_no (by omega)
        clear hf h1 h2
        go_wp2
        simp only [Exit.many]
        go_ret2
        exact Or.inl ⟨q, 50, HE.out.1, rfl, HE.out.2⟩
    · rw [if_neg hf] at hG
      have hc : ((cur.length : Int) == 16) = false := beq_no (by omega)
      have hr : ((rows.length : Int) == 16) = false := beq_no (by omega)
      have hlen := hSt.ok.len
      have cA := addCell_any b cur.length (sigA s q) _ _ _ _ _ _ _ _ _ _ _ _ wq hc16 (by rw [List.length_map]; exact hlen) (by rw [List.length_map]; exact hlen) (by rw [List.length_map]; exact hlen) hS hL
      have HA : Aside (St W wq b s (.int .i32 (sigA s q)) (.int .i64 (q : Int)) (.int .i64 (aft s q : Nat)) (.int .i64 (ls : Int)) (.int .i64 (cur.length : Int)) rows cur ∧ ¬ (cur.length = 16 ∨ rows.length = 16) ∧ scan s (aft s q) ls rows (cur ++ [⟨decide (sigA s q = 35), false, false⟩]) = R ∧ aft s q ≤ s.size ∧ 4 * (s.size - aft s q) + 3 = m0) := ⟨hSt, hf, hG.symm.trans hE, (aft_le (Nat.le_of_lt hq)).2, hm⟩
      have HJ : Aside ((fun (l' : Nat) (a' : Act) (w' : World) => At W b s R l' a' w' ∧ mu s b l' a' w' < m0) = J) := hJ
      have HP4 : Aside (∀ a w, At W b s R 4 a w → Code.wp _ _ _ a w) := hp4
      clear hG hE hSt hS hL hsg hnb hm hJ hp4 HN H0 hR hf hlen
      go_wp2_with fail
      refine cA.mono ?_
      rintro e w2 ⟨rfl, z8, z9, z10, hS2, hL2, hb2⟩
      have HS2 : Aside (St W w2 b s (.int .i32 (sigA s q)) (.int .i64 (q : Int)) (.int .i64 (aft s q : Nat)) (.int .i64 (ls : Int)) (.int .i64 ((cur ++ [(⟨decide (sigA s q = 35), false, false⟩ : C3)]).length : Int)) rows (cur ++ [⟨decide (sigA s q = 35), false, false⟩])) := by
        rw [List.length_append, List.length_singleton]
        exact HA.out.1.cell HA.out.2.1 hS2 hL2 hb2
      clear hS2 hL2 hb2 cA
      go_wp2
      go_step3
      rename_i K hK
      refine hK _ _ ?_
      refine wp_many_weaken ?_ (HP4.out _ _ ⟨Fr.of b _ _ _ _ _ _ _ _ _ _ _ _ _ _ _ _ _ _ _ _ _ _ _ _ _ _ _ _ _ _ _ _ _ _ _ _ _ _ _ _ _ _ _ _ _ _ _ _ _ _ _ _ _ _ _ _ _ _ _ _ _ _ _ _ _ _ _ _ _ _ _ _ _ _ _ _ _ _ _ _ _ _ _ _ _ _ _ _ _ _ _ _ _ _ _ _ _ _, aft s q, ls, rows, _, _, _, HA.out.2.2.2.1, (by simp), HS2.out, HA.out.2.2.1⟩)
      intro l a' w' h
      rw [← HJ.out]
      refine ⟨h.1, Nat.lt_of_lt_of_le h.2 ?_⟩
      show 4 * (s.size - rdN w2 b 3) + 2 ≤ m0
      rw [HS2.out.bh]
      have := HA.out.2.2.2.2
      omega
  case p4 =>
    rintro a wq ⟨⟨u, rfl⟩, p, ls, rows, cur, y1, y2, hp, hcn, hSt, hE⟩
    unfold fr99
    generalize hm : mu s b 4 _ wq = m0
    generalize hJ : (fun (l' : Nat) (a' : Act) (w' : World) => At W b s R l' a' w' ∧ mu s b l' a' w' < m0) = J
    unfold mu rank at hm
    rw [hSt.bh] at hm
    have cN := HN.out _ p _ _ _ _ _ _ hp hSt
    obtain ⟨q1, q2, q3⟩ := skip_spec s p hp
    rw [scan_skip] at hE
    generalize skip s p = q at *
    have HQ : Aside (scan s q ls rows cur = R ∧ p ≤ q ∧ q ≤ s.size ∧ (∀ _ : q < s.size, ¬ ((Utf8.decode s q).1 ≠ 10 ∧ cls ((Utf8.decode s q).1 : Int) = 3)) ∧ 4 * (s.size - p) + 2 = m0 ∧ cur ≠ []) := ⟨hE, q1, q2, q3, hm, hcn⟩
    have HJ : Aside ((fun (l' : Nat) (a' : Act) (w' : World) => At W b s R l' a' w' ∧ mu s b l' a' w' < m0) = J) := hJ
    clear hSt hE q1 q2 q3 hm hJ HN H0 hR hcn
    go_wp2_with fail
    refine cN.mono ?_
    rintro e w2 ⟨rfl, hSt2⟩
    have HS2 : Aside (St W w2 b s (.int .i32 (sigA s q)) (.int .i64 (q : Int)) (.int .i64 (aft s q : Nat)) (.int .i64 (ls : Int)) (.int .i64 (cur.length : Int)) rows cur) := hSt2
    obtain ⟨v8, v9, v10, hS2, hL2⟩ := hSt2.box
    have k1 := hS2.c1
    have HG : Aside (_ ∧ _) := scan_sig (ls := ls) (rows := rows) (cur := cur) HQ.out.2.2.2.1
    obtain ⟨c, hlast⟩ : ∃ c, cur.getLast? = some c := ⟨_, List.getLast?_eq_some_getLast HQ.out.2.2.2.2.2⟩
    have hpos : 1 ≤ (rows.flatten ++ cur).length := by
      have := List.length_pos_iff.2 HQ.out.2.2.2.2.2
      rw [List.length_append]
      omega
    have hlen := hSt2.ok.len
    have HSL : Aside (S11 w2 b (.string s) (.int .i32 (sigA s q)) (.int .i64 (q : Int)) (.int .i64 (aft s q : Nat)) (.int .i64 (ls : Int)) (.int .i64 (cur.length : Int)) (.int .i64 (rows.length : Int)) (.int .i64 ((rows.headD []).length : Int)) v8 v9 v10 ∧ L3 w2 b v8 v9 v10 ((rows.flatten ++ cur).map (·.b)) ((rows.flatten ++ cur).map (·.r)) ((rows.flatten ++ cur).map (·.d))) := ⟨hS2, hL2⟩
    clear hSt2 hS2 hL2 cN
    by_cases h46 : sigA s q = 46
    · rw [h46] at k1
      have hin := sigA_in (s := s) (q := q) (by rw [h46]; decide)
      have HI : Aside (q < s.size ∧ q < aft s q ∧ aft s q ≤ s.size ∧ sigA s q = 46) := ⟨hin, aft_in hin, (aft_le HQ.out.2.2.1).2, h46⟩
      clear hlast hpos hlen HSL hin h46
      go_wp2
      go_step3
      show J _ _ _
      rw [← HJ.out]
      refine ⟨⟨Fr.of b _ _ _ _ _ _ _ _ _ _ _ _ _ _ _ _ _ _ _ _ _ _ _ _ _ _ _ _ _ _ _ _ _ _ _ _ _ _ _ _ _ _ _ _ _ _ _ _ _ _ _ _ _ _ _ _ _ _ _ _ _ _ _ _ _ _ _ _ _ _ _ _ _ _ _ _ _ _ _ _ _ _ _ _ _ _ _ _ _ _ _ _ _ _ _ _ _ _, q, ls, rows, cur, HI.out.1, Or.inl HI.out.2.2.2, HQ.out.2.2.2.1, HS2.out, HQ.out.1⟩, ?_⟩
      show 4 * (s.size - rdN w2 b 3) + 3 < m0
      rw [HS2.out.bh]
      have := HQ.out
      have := HI.out
      omega
    by_cases h35 : sigA s q = 35
    · rw [h35] at k1
      have hin := sigA_in (s := s) (q := q) (by rw [h35]; decide)
      have HI : Aside (q < s.size ∧ q < aft s q ∧ aft s q ≤ s.size ∧ sigA s q = 35) := ⟨hin, aft_in hin, (aft_le HQ.out.2.2.1).2, h35⟩
      clear hlast hpos hlen HSL hin h35
      go_wp2
      go_step3
      show J _ _ _
      rw [← HJ.out]
      refine ⟨⟨Fr.of b _ _ _ _ _ _ _ _ _ _ _ _ _ _ _ _ _ _ _ _ _ _ _ _ _ _ _ _ _ _ _ _ _ _ _ _ _ _ _ _ _ _ _ _ _ _ _ _ _ _ _ _ _ _ _ _ _ _ _ _ _ _ _ _ _ _ _ _ _ _ _ _ _ _ _ _ _ _ _ _ _ _ _ _ _ _ _ _ _ _ _ _ _ _ _ _ _ _, q, ls, rows, cur, HI.out.1, Or.inr HI.out.2.2.2, HQ.out.2.2.2.1, HS2.out, HQ.out.1⟩, ?_⟩
      show 4 * (s.size - rdN w2 b 3) + 3 < m0
      rw [HS2.out.bh]
      have := HQ.out
      have := HI.out
      omega
    by_cases h124 : sigA s q = 124
    · rw [h124] at k1
      have hin := sigA_in (s := s) (q := q) (by rw [h124]; decide)
      have HI : Aside (q < s.size ∧ q < aft s q ∧ aft s q ≤ s.size) := ⟨hin, aft_in hin, (aft_le HQ.out.2.2.1).2⟩
      have hg := HG.out.2.2.2.1 h124
      rw [hlast] at hg
      simp only at hg
      obtain ⟨gb, cap, rfl, hgb⟩ := row_some HSL.out.2.r9 (by rw [List.length_map]; exact hpos)
      have cB := addBar_any (b + 1) gb cap ((rows.flatten ++ cur).map (·.r)) w2 (by rw [List.length_map]; exact hpos) (by rw [List.length_map]; exact hlen) HSL.out.2.r9
      rw [last_bt (F := rows.flatten) (·.r) hlast] at cB
      have k9 := HSL.out.1.c9
      obtain ⟨ys, hys⟩ : ∃ ys, ys = (rows.flatten ++ cur).map (·.r) := ⟨_, rfl⟩
      rw [← hys] at cB k9
      have HYS : Aside (ys = (rows.flatten ++ cur).map (·.r)) := hys
      clear hys
      have HLS : Aside (cur.getLast? = some c) := hlast
      clear hin h124 HG hgb
      cases hcr : c.r with
      | true =>
        rw [hcr] at hg cB
        have HE : Aside (R = .inl (q, 83)) := HQ.out.1.symm.trans (hg.trans (if_pos rfl))
        clear hg hlast hpos hlen
        go_wp2_with fail
        refine cB.mono ?_
        rintro e w3 ⟨rfl, hr3, hd3⟩
        rw [HYS.out] at hr3
        have HS3 : Aside (St W w3 b s (.int .i32 (sigA s q)) (.int .i64 (q : Int)) (.int .i64 (aft s q : Nat)) (.int .i64 (ls : Int)) (.int .i64 (cur.length : Int)) rows (cur.dropLast ++ [setR c])) := HS2.out.setBarR HLS.out HSL.out.1 HSL.out.2 rfl hr3 hd3
        clear hr3 hd3 cB
        go_wp2
        go_step3
        show J _ _ _
        rw [← HJ.out]
        refine ⟨⟨Fr.of b _ _ _ _ _ _ _ _ _ _ _ _ _ _ _ _ _ _ _ _ _ _ _ _ _ _ _ _ _ _ _ _ _ _ _ _ _ _ _ _ _ _ _ _ _ _ _ _ _ _ _ _ _ _ _ _ _ _ _ _ _ _ _ _ _ _ _ _ _ _ _ _ _ _ _ _ _ _ _ _ _ _ _ _ _ _ _ _ _ _ _ _ _ _ _ _ _ _, q, _, _, _, _, rows, _, Nat.le_of_lt HI.out.1, HS3.out, HE.out⟩, ?_⟩
        show 4 * (s.size - rdN w3 b 3) + 0 < m0
        rw [HS3.out.bh]
        have := HQ.out
        have := HI.out
        omega
      | false =>
        rw [hcr] at hg cB
        have HE : Aside (scan s (aft s q) ls rows (cur.dropLast ++ [setR c]) = R) := by
          have := HQ.out.1
          rw [hg] at this
          exact this
        clear hg hlast hpos hlen
        go_wp2_with fail
        refine cB.mono ?_
        rintro e w3 ⟨rfl, hr3, hd3⟩
        rw [HYS.out] at hr3
        have HS3 : Aside (St W w3 b s (.int .i32 (sigA s q)) (.int .i64 (q : Int)) (.int .i64 (aft s q : Nat)) (.int .i64 (ls : Int)) (.int .i64 ((cur.dropLast ++ [setR c]).length : Int)) rows (cur.dropLast ++ [setR c])) := by
          have e : (cur.dropLast ++ [setR c]).length = cur.length := by
            have := List.length_pos_iff.2 HQ.out.2.2.2.2.2
            rw [List.length_append, List.length_dropLast, List.length_singleton]
            omega
          rw [e]
          exact HS2.out.setBarR HLS.out HSL.out.1 HSL.out.2 rfl hr3 hd3
        clear hr3 hd3 cB
        go_wp2
        go_step3
        show J _ _ _
        rw [← HJ.out]
        refine ⟨⟨Fr.of b _ _ _ _ _ _ _ _ _ _ _ _ _ _ _ _ _ _ _ _ _ _ _ _ _ _ _ _ _ _ _ _ _ _ _ _ _ _ _ _ _ _ _ _ _ _ _ _ _ _ _ _ _ _ _ _ _ _ _ _ _ _ _ _ _ _ _ _ _ _ _ _ _ _ _ _ _ _ _ _ _ _ _ _ _ _ _ _ _ _ _ _ _ _ _ _ _ _, aft s q, ls, rows, _, _, _, HI.out.2.2, (by simp), HS3.out, HE.out⟩, ?_⟩
        show 4 * (s.size - rdN w3 b 3) + 2 < m0
        rw [HS3.out.bh]
        have := HQ.out
        have := HI.out
        omega
    by_cases h95 : sigA s q = 95
    · rw [h95] at k1
      have hin := sigA_in (s := s) (q := q) (by rw [h95]; decide)
      have HI : Aside (q < s.size ∧ q < aft s q ∧ aft s q ≤ s.size) := ⟨hin, aft_in hin, (aft_le HQ.out.2.2.1).2⟩
      have hg := HG.out.2.2.2.2.1 h95
      rw [hlast] at hg
      simp only at hg
      obtain ⟨gb, cap, rfl, hgb⟩ := row_some HSL.out.2.r10 (by rw [List.length_map]; exact hpos)
      have cB := addBar_any (b + 1) gb cap ((rows.flatten ++ cur).map (·.d)) w2 (by rw [List.length_map]; exact hpos) (by rw [List.length_map]; exact hlen) HSL.out.2.r10
      rw [last_bt (F := rows.flatten) (·.d) hlast] at cB
      have k10 := HSL.out.1.c10
      obtain ⟨ys, hys⟩ : ∃ ys, ys = (rows.flatten ++ cur).map (·.d) := ⟨_, rfl⟩
      rw [← hys] at cB k10
      have HYS : Aside (ys = (rows.flatten ++ cur).map (·.d)) := hys
      clear hys
      have HLS : Aside (cur.getLast? = some c) := hlast
      clear hin h95 HG hgb
      cases hcr : c.d with
      | true =>
        rw [hcr] at hg cB
        have HE : Aside (R = .inl (q, 83)) := HQ.out.1.symm.trans (hg.trans (if_pos rfl))
        clear hg hlast hpos hlen
        go_wp2_with fail
        refine cB.mono ?_
        rintro e w3 ⟨rfl, hr3, hd3⟩
        rw [HYS.out] at hr3
        have HS3 : Aside (St W w3 b s (.int .i32 (sigA s q)) (.int .i64 (q : Int)) (.int .i64 (aft s q : Nat)) (.int .i64 (ls : Int)) (.int .i64 (cur.length : Int)) rows (cur.dropLast ++ [setD c])) := HS2.out.setBarD HLS.out HSL.out.1 HSL.out.2 rfl hr3 hd3
        clear hr3 hd3 cB
        go_wp2
        go_step3
        show J _ _ _
        rw [← HJ.out]
        refine ⟨⟨Fr.of b _ _ _ _ _ _ _ _ _ _ _ _ _ _ _ _ _ _ _ _ _ _ _ _ _ _ _ _ _ _ _ _ _ _ _ _ _ _ _ _ _ _ _ _ _ _ _ _ _ _ _ _ _ _ _ _ _ _ _ _ _ _ _ _ _ _ _ _ _ _ _ _ _ _ _ _ _ _ _ _ _ _ _ _ _ _ _ _ _ _ _ _ _ _ _ _ _ _, q, _, _, _, _, rows, _, Nat.le_of_lt HI.out.1, HS3.out, HE.out⟩, ?_⟩
        show 4 * (s.size - rdN w3 b 3) + 0 < m0
        rw [HS3.out.bh]
        have := HQ.out
        have := HI.out
        omega
      | false =>
        rw [hcr] at hg cB
        have HE : Aside (scan s (aft s q) ls rows (cur.dropLast ++ [setD c]) = R) := by
          have := HQ.out.1
          rw [hg] at this
          exact this
        clear hg hlast hpos hlen
        go_wp2_with fail
        refine cB.mono ?_
        rintro e w3 ⟨rfl, hr3, hd3⟩
        rw [HYS.out] at hr3
        have HS3 : Aside (St W w3 b s (.int .i32 (sigA s q)) (.int .i64 (q : Int)) (.int .i64 (aft s q : Nat)) (.int .i64 (ls : Int)) (.int .i64 ((cur.dropLast ++ [setD c]).length : Int)) rows (cur.dropLast ++ [setD c])) := by
          have e : (cur.dropLast ++ [setD c]).length = cur.length := by
            have := List.length_pos_iff.2 HQ.out.2.2.2.2.2
            rw [List.length_append, List.length_dropLast, List.length_singleton]
            omega
          rw [e]
          exact HS2.out.setBarD HLS.out HSL.out.1 HSL.out.2 rfl hr3 hd3
        clear hr3 hd3 cB
        go_wp2
        go_step3
        show J _ _ _
        rw [← HJ.out]
        refine ⟨⟨Fr.of b _ _ _ _ _ _ _ _ _ _ _ _ _ _ _ _ _ _ _ _ _ _ _ _ _ _ _ _ _ _ _ _ _ _ _ _ _ _ _ _ _ _ _ _ _ _ _ _ _ _ _ _ _ _ _ _ _ _ _ _ _ _ _ _ _ _ _ _ _ _ _ _ _ _ _ _ _ _ _ _ _ _ _ _ _ _ _ _ _ _ _ _ _ _ _ _ _ _, aft s q, ls, rows, _, _, _, HI.out.2.2, (by simp), HS3.out, HE.out⟩, ?_⟩
        show 4 * (s.size - rdN w3 b 3) + 2 < m0
        rw [HS3.out.bh]
        have := HQ.out
        have := HI.out
        omega
    by_cases h10 : sigA s q = 10
    · rw [h10] at k1
      have HI : Aside (sigA s q = 10) := h10
      clear h10 hlast hpos hlen HSL HG
      go_wp2
      go_step3
      show J _ _ _
      rw [← HJ.out]
      refine ⟨⟨Fr.of b _ _ _ _ _ _ _ _ _ _ _ _ _ _ _ _ _ _ _ _ _ _ _ _ _ _ _ _ _ _ _ _ _ _ _ _ _ _ _ _ _ _ _ _ _ _ _ _ _ _ _ _ _ _ _ _ _ _ _ _ _ _ _ _ _ _ _ _ _ _ _ _ _ _ _ _ _ _ _ _ _ _ _ _ _ _ _ _ _ _ _ _ _ _ _ _ _ _, q, ls, rows, cur, HQ.out.2.2.1, HQ.out.2.2.2.2.2, Or.inl HI.out, HQ.out.2.2.2.1, HS2.out, HQ.out.1⟩, ?_⟩
      show 4 * (s.size - rdN w2 b 3) + 1 < m0
      rw [HS2.out.bh]
      have := HQ.out
      have := aft_le HQ.out.2.2.1
      omega
    by_cases hm1 : sigA s q = -1
    · rw [hm1] at k1
      have HI : Aside (sigA s q = -1) := hm1
      clear hm1 hlast hpos hlen HSL HG
      go_wp2
      go_step3
      show J _ _ _
      rw [← HJ.out]
      refine ⟨⟨Fr.of b _ _ _ _ _ _ _ _ _ _ _ _ _ _ _ _ _ _ _ _ _ _ _ _ _ _ _ _ _ _ _ _ _ _ _ _ _ _ _ _ _ _ _ _ _ _ _ _ _ _ _ _ _ _ _ _ _ _ _ _ _ _ _ _ _ _ _ _ _ _ _ _ _ _ _ _ _ _ _ _ _ _ _ _ _ _ _ _ _ _ _ _ _ _ _ _ _ _, q, ls, rows, cur, HQ.out.2.2.1, HQ.out.2.2.2.2.2, Or.inr HI.out, HQ.out.2.2.2.1, HS2.out, HQ.out.1⟩, ?_⟩
      show 4 * (s.size - rdN w2 b 3) + 1 < m0
      rw [HS2.out.bh]
      have := HQ.out
      have := aft_le HQ.out.2.2.1
      omega
    have hin := sigA_in hm1
    have HI : Aside (q < s.size ∧ q < aft s q ∧ aft s q ≤ s.size) := ⟨hin, aft_in hin, (aft_le HQ.out.2.2.1).2⟩
    have HE : Aside (R = .inl (q, 80)) := HQ.out.1.symm.trans (HG.out.2.2.2.2.2 hm1 h10 h46 h35 h124 h95)
    have b46 := beq_no h46
    have b35 := beq_no h35
    have b124 := beq_no h124
    have b95 := beq_no h95
    have b10 := beq_no h10
    have bm1 := beq_no hm1
    generalize sigA s q = sg at *
    clear hlast hpos hlen HSL hin h46 h35 h124 h95 h10 hm1 HG
    go_wp2
    go_step3
    show J _ _ _
    rw [← HJ.out]
    refine ⟨⟨Fr.of b _ _ _ _ _ _ _ _ _ _ _ _ _ _ _ _ _ _ _ _ _ _ _ _ _ _ _ _ _ _ _ _ _ _ _ _ _ _ _ _ _ _ _ _ _ _ _ _ _ _ _ _ _ _ _ _ _ _ _ _ _ _ _ _ _ _ _ _ _ _ _ _ _ _ _ _ _ _ _ _ _ _ _ _ _ _ _ _ _ _ _ _ _ _ _ _ _ _, q, _, _, _, _, rows, cur, Nat.le_of_lt HI.out.1, HS2.out, HE.out⟩, ?_⟩
    show 4 * (s.size - rdN w2 b 3) + 0 < m0
    rw [HS2.out.bh]
    have := HQ.out
    have := HI.out
    omega
  case p5 =>
    rintro a wq ⟨⟨u, rfl⟩, q, ls, rows, cur, hq, hcn, hsg, hnb, hSt, hE⟩
    unfold fr99
    generalize hm : mu s b 5 _ wq = m0
    generalize hJ : (fun (l' : Nat) (a' : Act) (w' : World) => At W b s R l' a' w' ∧ mu s b l' a' w' < m0) = J
    unfold mu rank at hm
    rw [hSt.bh] at hm
    obtain ⟨v8, v9, v10, hS, hL⟩ := hSt.box
    have hG := scan_sig (ls := ls) (rows := rows) (cur := cur) hnb
    have k1 := hS.c1
    have k4 := hS.c4
    have cA := addRow_any b cur.length rows.length (rows.headD []).length _ _ _ _ _ _ _ _ wq hSt.ok.few hS
    have HLT : Aside (b ≤ wq.heap.size ∧ L3 wq b v8 v9 v10 ((rows.flatten ++ cur).map (·.b)) ((rows.flatten ++ cur).map (·.r)) ((rows.flatten ++ cur).map (·.d))) := ⟨Nat.le_of_lt hS.lt, hL⟩
    have HSt : Aside (St W wq b s (.int .i32 (sigA s q)) (.int .i64 (q : Int)) (.int .i64 (aft s q : Nat)) (.int .i64 (ls : Int)) (.int .i64 (cur.length : Int)) rows cur) := hSt
    have HJ : Aside ((fun (l' : Nat) (a' : Act) (w' : World) => At W b s R l' a' w' ∧ mu s b l' a' w' < m0) = J) := hJ
    have HM : Aside (4 * (s.size - aft s q) + 1 = m0) := hm
    have HH : Aside (4 * (s.size - aft s q) + 1 = m0 ∧ cur ≠ [] ∧ q ≤ s.size) := ⟨hm, hcn, hq⟩
    by_cases hy : rows.length = 0 ∨ cur.length = (rows.headD []).length
    · rw [decide_eq_true hy] at cA
      have HY : Aside (rows.length = 0 ∨ cur.length = (rows.headD []).length) := hy
      have hey := endRow_yes (ls := ls) hcn hy
      rcases hsg with h10 | hm1
      · have HE : Aside (scan s (aft s q) (aft s q) (rows ++ [cur]) [] = R) := by
          have := hG.2.1 h10
          rw [hey] at this
          exact this.symm.trans hE
        have H10 : Aside (sigA s q = 10) := h10
        clear hS hL hSt hm hJ HN H0 hR hcn hnb hE hG hy hey h10 k1 k4
        go_wp2_with fail
        refine cA.mono ?_
        rintro e w3 ⟨rfl, hS3, hd3⟩
        have HS3 : Aside (St W w3 b s (.int .i32 (sigA s q)) (.int .i64 (q : Int)) (.int .i64 (aft s q : Nat)) (.int .i64 (ls : Int)) (.int .i64 (cur.length : Int)) (rows ++ [cur]) []) := HSt.out.row HLT.out.1 HH.out.2.1 HY.out HLT.out.2 hS3 hd3
        have k1 := hS3.c1
        rw [H10.out] at k1
        clear hS3 hd3 cA
        go_wp2
        go_step3
        show J _ _ _
        rw [← HJ.out]
        refine ⟨⟨Fr.of b _ _ _ _ _ _ _ _ _ _ _ _ _ _ _ _ _ _ _ _ _ _ _ _ _ _ _ _ _ _ _ _ _ _ _ _ _ _ _ _ _ _ _ _ _ _ _ _ _ _ _ _ _ _ _ _ _ _ _ _ _ _ _ _ _ _ _ _ _ _ _ _ _ _ _ _ _ _ _ _ _ _ _ _ _ _ _ _ _ _ _ _ _ _ _ _ _ _, aft s q, _, _, _, _, _, (aft_le HH.out.2.2).2, HS3.out, HE.out⟩, ?_⟩
        show 4 * (s.size - rdN w3 b 3) + 0 < m0
        rw [HS3.out.bh]
        have := HM.out
        omega
      · have HE : Aside (R = .inr (rows ++ [cur])) := by
          have := hG.1 hm1
          rw [hey] at this
          exact hE.symm.trans this
        have H10 : Aside (sigA s q = -1) := hm1
        clear hS hL hSt hm hJ HN H0 hR hcn hnb hE hG hy hey hm1 k1 k4
        go_wp2_with fail
        refine cA.mono ?_
        rintro e w3 ⟨rfl, hS3, hd3⟩
        have HS3 : Aside (St W w3 b s (.int .i32 (sigA s q)) (.int .i64 (q : Int)) (.int .i64 (aft s q : Nat)) (.int .i64 (ls : Int)) (.int .i64 (cur.length : Int)) (rows ++ [cur]) []) := HSt.out.row HLT.out.1 HH.out.2.1 HY.out HLT.out.2 hS3 hd3
        have k1 := hS3.c1
        rw [H10.out] at k1
        clear hS3 hd3 cA
        go_wp2
        simp only [Exit.many]
        go_ret2
        exact Or.inr ⟨_, _, _, _, _, _, HE.out, rfl, HS3.out⟩
    · rw [decide_eq_false hy] at cA
      have hey := endRow_no (ls := ls) hcn hy
      have HE : Aside (R = .inl (ls, 81)) := by
        rcases hsg with h10 | hm1
        · have := hG.2.1 h10
          rw [hey] at this
          exact hE.symm.trans this
        · have := hG.1 hm1
          rw [hey] at this
          exact hE.symm.trans this
      clear hL hSt hm hJ HN H0 hR hcn hnb hE hG hy hey hsg k1 k4 hS
      go_wp2_with fail
      refine cA.mono ?_
      rintro e w3 ⟨rfl, hS3, hd3⟩
      have HB3 : Aside (Below b W w3) := HSt.out.below.trans (hd3.below (fun k hk _ e => by omega) HLT.out.1)
      have k4 := hS3.c4
      clear hS3 hd3 cA
      go_wp2
      simp only [Exit.many]
      go_ret2
      exact Or.inl ⟨ls, 81, HE.out, rfl, HB3.out⟩
end Go.Proofs.YtkkeoonglcfhnaaDoor.Skt
