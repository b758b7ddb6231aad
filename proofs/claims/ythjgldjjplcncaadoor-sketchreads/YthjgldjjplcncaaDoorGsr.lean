/-
  The document's mark; the bytes of a rune.
-/
import Derived.Test.YthjgldjjplcncaaDoorGsk
import Derived.Test.YthjgldjjplcncaaDoorRefc
import Derived.Test.YthjgldjjplcncaaDoorRefw
import Derived.Laws.OwnMore
namespace Go.Proofs.YthjgldjjplcncaaDoor.Skt
open Go Go.Lib Go.RowKit Utf Grd

def mkv (r : Nat) : Int := if sgn r = 5 then -1 else (sgn r : Int)
set_option maxHeartbeats 1000000 in
theorem refMark_any (r : Nat) (hr : r ≤ 1114111) (w : World) :
    Calls Tryd.prog 24 #[.int .i32 (r : Int)] w fun e w' => e = .returned (.int .i64 (mkv r)) ∧ w' = w := by
  by_cases h1 : r = 35
  · subst h1
    rw [show mkv 35 = 1 by decide]
    go_enter Tryd.func24, Tryd.ntmps24
    go_wp2
    go_ret
    exact ⟨rfl, rfl⟩
  by_cases h2 : r = 9632
  · subst h2
    rw [show mkv 9632 = 1 by decide]
    go_enter Tryd.func24, Tryd.ntmps24
    go_wp2
    go_ret
    exact ⟨rfl, rfl⟩
  by_cases h3 : r = 46
  · subst h3
    rw [show mkv 46 = 2 by decide]
    go_enter Tryd.func24, Tryd.ntmps24
    go_wp2
    go_ret
    exact ⟨rfl, rfl⟩
  by_cases h4 : r = 9633
  · subst h4
    rw [show mkv 9633 = 2 by decide]
    go_enter Tryd.func24, Tryd.ntmps24
    go_wp2
    go_ret
    exact ⟨rfl, rfl⟩
  by_cases h5 : r = 124
  · subst h5
    rw [show mkv 124 = 3 by decide]
    go_enter Tryd.func24, Tryd.ntmps24
    go_wp2
    go_ret
    exact ⟨rfl, rfl⟩
  by_cases h6 : r = 95
  · subst h6
    rw [show mkv 95 = 4 by decide]
    go_enter Tryd.func24, Tryd.ntmps24
    go_wp2
    go_ret
    exact ⟨rfl, rfl⟩
  have hm : mkv r = if cls (r : Int) = 3 then 0 else -1 := by
    have e : sgn r = if cls (r : Int) = 3 then 0 else 5 := by
      unfold sgn
      rw [if_neg (by omega), if_neg (by omega), if_neg (by omega), if_neg (by omega)]
    unfold mkv
    rw [e]
    by_cases hc : cls (r : Int) = 3
    · rw [if_pos hc, if_pos hc]; rfl
    · rw [if_neg hc, if_neg hc]; rfl
  have b1 : ((r : Int) == 35) = false := beq_no (by omega)
  have b2 : ((r : Int) == 9632) = false := beq_no (by omega)
  have b3 : ((r : Int) == 46) = false := beq_no (by omega)
  have b4 : ((r : Int) == 9633) = false := beq_no (by omega)
  have b5 : ((r : Int) == 124) = false := beq_no (by omega)
  have b6 : ((r : Int) == 95) = false := beq_no (by omega)
  have c1 := fun W => refClass_any (r : Int) W (by omega) (by omega)
  rw [hm]
  generalize (r : Int) = z at *
  by_cases hc : cls z = 3
  · rw [if_pos hc]
    rw [hc] at c1
    clear hm h1 h2 h3 h4 h5 h6
    go_enter Tryd.func24, Tryd.ntmps24
    go_wp2_with (go_at_call 33; refine (c1 _).mono ?_; rintro e w' ⟨rfl, hw⟩; obtain rfl := hw.symm)
    go_ret
    exact ⟨rfl, rfl⟩
  · rw [if_neg hc]
    have b7 : (cls z == 3) = false := beq_no hc
    generalize cls z = q at *
    clear hm h1 h2 h3 h4 h5 h6 hc
    go_enter Tryd.func24, Tryd.ntmps24
    go_wp2_with (go_at_call 33; refine (c1 _).mono ?_; rintro e w' ⟨rfl, hw⟩; obtain rfl := hw.symm)
    go_ret
    exact ⟨rfl, rfl⟩

/-- What a rune's bytes are: the first tells a line's end, those behind it are none. -/
theorem decodeN_bytes (n b0 b1 b2 b3 : Nat) (h0 : b0 < 256) :
    ((decodeN n b0 b1 b2 b3).1 = 10 ↔ b0 = 10) ∧ (decodeN n b0 b1 b2 b3).1 ≤ 1114111 ∧ (1 < (decodeN n b0 b1 b2 b3).2 → b1 / 64 = 2) ∧ (2 < (decodeN n b0 b1 b2 b3).2 → b2 / 64 = 2) ∧ (3 < (decodeN n b0 b1 b2 b3).2 → b3 / 64 = 2) ∧ (decodeN n b0 b1 b2 b3).2 ≤ 4 := by
  by_cases k1 : b0 < 128
  · rw [dN1 k1]
    exact ⟨Iff.rfl, by show b0 ≤ _; omega, fun h => absurd h (by simp), fun h => absurd h (by simp), fun h => absurd h (by simp), by simp⟩
  · have bad : ∀ d, d = (65533, 1) → ((d.1 = 10 ↔ b0 = 10) ∧ d.1 ≤ 1114111 ∧ (1 < d.2 → b1 / 64 = 2) ∧ (2 < d.2 → b2 / 64 = 2) ∧ (3 < d.2 → b3 / 64 = 2) ∧ d.2 ≤ 4) := by
      rintro d rfl
      exact ⟨⟨fun h => absurd h (by simp), fun h => by omega⟩, by decide, fun h => absurd h (by simp), fun h => absurd h (by simp), fun h => absurd h (by simp), by simp⟩
    by_cases k2 : b0 / 32 = 6
    · by_cases p : P2 n b0 b1
      · rw [dN2y k2 p]
        obtain ⟨_, q1, q2⟩ := p
        exact ⟨⟨fun h => by simp only at h; omega, fun h => by omega⟩, by simp only; omega, fun _ => q1, fun h => absurd h (by simp), fun h => absurd h (by simp), by simp⟩
      · exact bad _ (dN2n k2 p)
    · by_cases k3 : b0 / 16 = 14
      · by_cases p : P3 n b0 b1 b2
        · rw [dN3y k3 p]
          obtain ⟨_, q1, q2, q3, _⟩ := p
          exact ⟨⟨fun h => by simp only at h; omega, fun h => by omega⟩, by simp only; omega, fun _ => q1, fun _ => q2, fun h => absurd h (by simp), by simp⟩
        · exact bad _ (dN3n k3 p)
      · by_cases k4 : b0 / 8 = 30
        · by_cases p : P4 n b0 b1 b2 b3
          · rw [dN4y k4 p]
            obtain ⟨_, q1, q2, q3, q4, q5⟩ := p
            exact ⟨⟨fun h => by simp only at h; omega, fun h => by omega⟩, by simp only; omega, fun _ => q1, fun _ => q2, fun _ => q3, by simp⟩
          · exact bad _ (dN4n k4 p)
        · exact bad _ (dN0 k1 k2 k3 k4)
theorem dec_le (s : ByteArray) (p : Nat) : (Utf8.decode s p).1 ≤ 1114111 := by
  rw [Lib.decode_at]
  exact (decodeN_bytes _ _ _ _ _ (s.get! p).toNat_lt).2.1
/-- A rune within a line: it is no line's end, and it ends within the line. -/
theorem dec_line {s : ByteArray} {p q : Nat} (hp : p < q) (hq : q ≤ s.size) (hno : ∀ j, p ≤ j → j < q → (s.get! j).toNat ≠ 10) (hend : q < s.size → (s.get! q).toNat = 10) : (Utf8.decode s p).1 ≠ 10 ∧ p + (Utf8.decode s p).2 ≤ q := by
  have hf := decode_fits s p (by omega)
  rw [Lib.decode_at] at hf ⊢
  obtain ⟨h1, _, h3, h4, h5, h6⟩ := decodeN_bytes (s.size - p) (s.get! p).toNat (s.get! (p + 1)).toNat (s.get! (p + 2)).toNat (s.get! (p + 3)).toNat (s.get! p).toNat_lt
  refine ⟨fun e => hno p (Nat.le_refl _) hp (h1.1 e), ?_⟩
  generalize (decodeN (s.size - p) (s.get! p).toNat (s.get! (p + 1)).toNat (s.get! (p + 2)).toNat (s.get! (p + 3)).toNat).2 = w at *
  by_cases hc : p + w ≤ q
  · exact hc
  · exfalso
    have hq2 := hend (by omega)
    have : q = p + 1 ∨ q = p + 2 ∨ q = p + 3 := by omega
    rcases this with rfl | rfl | rfl
    · have := h3 (by omega); omega
    · have := h4 (by omega); omega
    · have := h5 (by omega); omega
end Go.Proofs.YthjgldjjplcncaaDoor.Skt
/-
  The document's line walked.
-/
namespace Go.Proofs.YthjgldjjplcncaaDoor.Skt
open Go Go.Lib Go.RowKit Utf Grd

theorem infoCell : (Tryd.prog.info? 47).map (fun i => (i.zero, i.size, i.bytes)) = some (some (.agg #[.bool false, .bool false, .bool false]), 3, 3) := by kernel_rfl
/-- The cells of a list of cells. -/
def cs3 : List C3 → List Value
  | [] => []
  | c :: l => .bool c.b :: .bool c.r :: .bool c.d :: cs3 l
theorem cs3_len : ∀ l : List C3, (cs3 l).length = l.length * 3
  | [] => rfl
  | c :: l => by simp only [cs3, List.length_cons]; rw [cs3_len l]; omega
theorem cs3_snoc (c : C3) : ∀ l : List C3, cs3 (l ++ [c]) = cs3 l ++ [.bool c.b, .bool c.r, .bool c.d]
  | [] => rfl
  | x :: l => by simp only [List.cons_append, cs3]; rw [cs3_snoc c l]
theorem nil_or_snoc (l : List C3) : l = [] ∨ ∃ d c, l = d ++ [c] := by
  cases h : l.getLast? with
  | none => exact .inl (List.getLast?_eq_none_iff.1 h)
  | some c => exact .inr ⟨_, c, last_split h⟩
theorem cell_three (w : World) (x y z : Value) (t : TypeId) : ∀ j u, [x, y, z][j]? = some u → (w.alloc (.cells #[x, y, z] t)).cell? ((⟨w.heap.size, 0, none⟩ : Addr).add j) = some u := by
  intro j u hj
  rw [Addr.add_lit, Nat.zero_add, cells_box]
  simpa using hj
theorem cs3_last (d : List C3) (c : C3) : (cs3 (d ++ [c]))[d.length * 3]? = some (.bool c.b) ∧ (cs3 (d ++ [c]))[d.length * 3 + 1]? = some (.bool c.r) ∧ (cs3 (d ++ [c]))[d.length * 3 + 2]? = some (.bool c.d) := by
  rw [cs3_snoc, ← cs3_len]
  refine ⟨?_, ?_, ?_⟩
  · rw [List.getElem?_append_right (Nat.le_refl _), Nat.sub_self]; rfl
  · rw [List.getElem?_append_right (Nat.le_add_right _ _), Nat.add_sub_cancel_left]; rfl
  · rw [List.getElem?_append_right (Nat.le_add_right _ _), Nat.add_sub_cancel_left]; rfl
theorem cs3_set1 (d : List C3) (c : C3) : (cs3 (d ++ [c])).set (d.length * 3 + 1) (.bool true) = cs3 (d ++ [setR c]) := by
  rw [cs3_snoc, cs3_snoc, ← cs3_len, List.set_append_right _ _ (Nat.le_add_right _ _), Nat.add_sub_cancel_left]
  rfl
theorem cs3_set2 (d : List C3) (c : C3) : (cs3 (d ++ [c])).set (d.length * 3 + 2) (.bool true) = cs3 (d ++ [setD c]) := by
  rw [cs3_snoc, cs3_snoc, ← cs3_len, List.set_append_right _ _ (Nat.le_add_right _ _), Nat.add_sub_cancel_left]
  rfl

/-- What line answers. -/
def LineOut (W : World) (s : ByteArray) (p q ls : Nat) (rows : List (List C3)) (e : Ending) (W' : World) : Prop :=
  (∃ a er : Nat, scan s p ls rows [] = .inl (a, er) ∧ e = .returned (.tuple #[.slice none 0 0, .int .i64 (a : Int), .int .i64 (er : Int)])) ∨
  ∃ cur v, scan s p ls rows [] = scan s q ls rows cur ∧ RowsOk rows cur ∧ e = .returned (.tuple #[v, .int .i64 0, .int .i64 0]) ∧ W'.ownsRow W.heap.size 47 3 v cur.length (cs3 cur)
theorem row_len3 {W : World} {B m n : Nat} {ao : Option Addr} {cp : Nat} {l : List Value} (h : W.ownsRow B 47 3 (.slice ao m cp) n l) : m = n := by
  rcases h.2 with ⟨e, h0⟩ | ⟨g, cap, cur, e, _⟩
  · cases e; exact h0.symm
  · cases e; rfl

set_option maxRecDepth 100000 in
set_option maxHeartbeats 4000000 in
theorem refLine_any (s : ByteArray) (p q ls : Nat) (rows : List (List C3)) (W : World) (hs : s.size ≤ 65536) (hpq : p ≤ q) (hq : q ≤ s.size) (hno : ∀ j, p ≤ j → j < q → (s.get! j).toNat ≠ 10) (hend : q < s.size → (s.get! q).toNat = 10) (hok : RowsOk rows []) :
    Calls Tryd.prog 11 #[.string s, .int .i64 (p : Int), .int .i64 (q : Int), .int .i64 (rows.length : Int)] W fun e W' => Below W.heap.size W W' ∧ LineOut W s p q ls rows e W' := by
  obtain ⟨i0, hi0, hz0, hz1, hz2⟩ := info_parts infoCell
  have hr16 := hok.few
  have HN : Aside ((∀ j, p ≤ j → j < q → (s.get! j).toNat ≠ 10) ∧ (q < s.size → (s.get! q).toNat = 10)) := ⟨hno, hend⟩
  clear hno hend
  go_enter Tryd.func11, Tryd.ntmps11
  go_wp2
  go_loopg [1, 11] q (fun g1 pv lv wr => ∃ (p' : Nat) (cur : List C3), pv = .int .i64 (p' : Int) ∧ p ≤ p' ∧ p' ≤ q ∧ q - p' ≤ g1 ∧ Aside (scan s p ls rows [] = scan s p' ls rows cur) ∧ Aside (RowsOk rows cur) ∧ cur.length ≤ 16 ∧ wr.ownsRow W.heap.size 47 3 lv cur.length (cs3 cur) ∧ Aside (Below W.heap.size W wr))
  case atStart => exact ⟨p, [], rfl, Nat.le_refl _, hpq, Nat.sub_le _ _, rfl, hok, Nat.zero_le _, World.ownsRow_nil _ _ _ _, Below.refl _ _⟩
  case round =>
    obtain ⟨p', cur, rfl, hp1, hp2, hg, HSC, HOK, hc16, hrow, HB⟩ := hrel
    by_cases hlt : p' < q
    · have hltz : (p' : Int) < (q : Int) := by omega
      obtain ⟨hd10, hdw⟩ := dec_line hlt hq (fun j h1 h2 => HN.out.1 j (by omega) h2) HN.out.2
      have hdf := decode_fits s p' (by omega)
      have hstep := scan_put (s := s) (p := p') (ls := ls) (rows := rows) (cur := cur) (by omega) hd10
      have cN := refNext_any s (p' : Int) wr (by omega)
      rw [nextR_in (by omega), nextW_in (by omega)] at cN
      have hrl := dec_le s p'
      have cM := fun W => refMark_any (Utf8.decode s p').1 hrl W
      generalize (Utf8.decode s p').1 = r at *
      generalize (Utf8.decode s p').2 = wd at *
      have HST : Aside (scan s p ls rows [] = (match putC r p' rows.length cur with | .inl e => .inl e | .inr cur' => scan s (p' + wd) ls rows cur')) := HSC.out.trans hstep
      have hsg := sgn_le r
      clear hstep hd10 hrl HSC
      obtain ⟨ao, mm, cp, rfl⟩ := row_slice hrow
      obtain rfl := row_len3 hrow
      rcases (by omega : sgn r = 5 ∨ sgn r = 0 ∨ (sgn r = 1 ∨ sgn r = 2) ∨ sgn r = 3 ∨ sgn r = 4) with h5 | h0 | h12 | h3 | h4
      · have hp : putC r p' rows.length cur = .inl (p', 80) := by unfold putC; rw [h5]; rfl
        rw [hp] at HST
        rw [show mkv r = -1 by unfold mkv; rw [h5]; rfl] at cM
        clear hp h5 hsg
        go_wp2_with (first
          | (go_at_call 23; refine cN.mono ?_; rintro e w' ⟨rfl, hw⟩; obtain rfl := hw.symm)
          | (go_at_call 24; refine (cM _).mono ?_; rintro e w' ⟨rfl, hw⟩; obtain rfl := hw.symm))
        go_ret3
        exact ⟨HB.out, .inl ⟨p', 80, HST.out, rfl⟩⟩
      · have hp : putC r p' rows.length cur = .inr cur := by unfold putC; rw [if_pos h0]
        rw [hp] at HST
        rw [show mkv r = 0 by unfold mkv; rw [h0]; rfl] at cM
        obtain ⟨p2, hp2⟩ : ∃ p2, p2 = p' + wd := ⟨_, rfl⟩
        rw [← hp2] at HST hdw
        have hsum : (p' : Int) + (wd : Int) = (p2 : Int) := by omega
        have hlo : p' < p2 := by omega
        clear hp h0 hsg hp2 hdf
        go_wp2_with (first
          | (go_at_call 23; refine cN.mono ?_; rintro e w' ⟨rfl, hw⟩; obtain rfl := hw.symm)
          | (go_at_call 24; refine (cM _).mono ?_; rintro e w' ⟨rfl, hw⟩; obtain rfl := hw.symm))
        go_roundg (q - p2)
        case measure => omega
        case rel => exact ⟨p2, cur, by go_num, by omega, by omega, Nat.le_refl _, HST, HOK, hc16, hrow, HB⟩
      · by_cases hf : cur.length = 16 ∨ rows.length = 16
        · have hp : putC r p' rows.length cur = .inl (p', 50) := by unfold putC; rw [if_neg (by omega), if_pos (by omega), if_pos hf]
          rw [hp] at HST
          clear hp
          rcases h12 with h1 | h2
          · rw [show mkv r = 1 by unfold mkv; rw [h1]; rfl] at cM
            clear h1 hsg
            rcases hf with hf | hf
            · have hb : ((cur.length : Int) == 16) = true := by rw [beq_iff_eq]; omega
              go_wp2_with (first
          | (go_at_call 23; refine cN.mono ?_; rintro e w' ⟨rfl, hw⟩; obtain rfl := hw.symm)
          | (go_at_call 24; refine (cM _).mono ?_; rintro e w' ⟨rfl, hw⟩; obtain rfl := hw.symm))
              go_ret3
              exact ⟨HB.out, .inl ⟨p', 50, HST.out, rfl⟩⟩
            · have hb : ((rows.length : Int) == 16) = true := by rw [beq_iff_eq]; omega
              by_cases hcc : cur.length = 16
              · have hb2 : ((cur.length : Int) == 16) = true := by rw [beq_iff_eq]; omega
                go_wp2_with (first
          | (go_at_call 23; refine cN.mono ?_; rintro e w' ⟨rfl, hw⟩; obtain rfl := hw.symm)
          | (go_at_call 24; refine (cM _).mono ?_; rintro e w' ⟨rfl, hw⟩; obtain rfl := hw.symm))
                go_ret3
                exact ⟨HB.out, .inl ⟨p', 50, HST.out, rfl⟩⟩
              · have hb2 : ((cur.length : Int) == 16) = false := beq_no (by omega)
                go_wp2_with (first
          | (go_at_call 23; refine cN.mono ?_; rintro e w' ⟨rfl, hw⟩; obtain rfl := hw.symm)
          | (go_at_call 24; refine (cM _).mono ?_; rintro e w' ⟨rfl, hw⟩; obtain rfl := hw.symm))
                go_ret3
                exact ⟨HB.out, .inl ⟨p', 50, HST.out, rfl⟩⟩
          · rw [show mkv r = 2 by unfold mkv; rw [h2]; rfl] at cM
            clear h2 hsg
            rcases hf with hf | hf
            · have hb : ((cur.length : Int) == 16) = true := by rw [beq_iff_eq]; omega
              go_wp2_with (first
          | (go_at_call 23; refine cN.mono ?_; rintro e w' ⟨rfl, hw⟩; obtain rfl := hw.symm)
          | (go_at_call 24; refine (cM _).mono ?_; rintro e w' ⟨rfl, hw⟩; obtain rfl := hw.symm))
              go_ret3
              exact ⟨HB.out, .inl ⟨p', 50, HST.out, rfl⟩⟩
            · have hb : ((rows.length : Int) == 16) = true := by rw [beq_iff_eq]; omega
              by_cases hcc : cur.length = 16
              · have hb2 : ((cur.length : Int) == 16) = true := by rw [beq_iff_eq]; omega
                go_wp2_with (first
          | (go_at_call 23; refine cN.mono ?_; rintro e w' ⟨rfl, hw⟩; obtain rfl := hw.symm)
          | (go_at_call 24; refine (cM _).mono ?_; rintro e w' ⟨rfl, hw⟩; obtain rfl := hw.symm))
                go_ret3
                exact ⟨HB.out, .inl ⟨p', 50, HST.out, rfl⟩⟩
              · have hb2 : ((cur.length : Int) == 16) = false := beq_no (by omega)
                go_wp2_with (first
          | (go_at_call 23; refine cN.mono ?_; rintro e w' ⟨rfl, hw⟩; obtain rfl := hw.symm)
          | (go_at_call 24; refine (cM _).mono ?_; rintro e w' ⟨rfl, hw⟩; obtain rfl := hw.symm))
                go_ret3
                exact ⟨HB.out, .inl ⟨p', 50, HST.out, rfl⟩⟩
        · have hlen3 : cur.length + 1 ≤ 16 := by omega
          have hb1 : ((cur.length : Int) == 16) = false := beq_no (by omega)
          have hb2 : ((rows.length : Int) == 16) = false := beq_no (by omega)
          obtain ⟨p2, hp2⟩ : ∃ p2, p2 = p' + wd := ⟨_, rfl⟩
          have hsum : (p' : Int) + (wd : Int) = (p2 : Int) := by omega
          have hp : putC r p' rows.length cur = .inr (cur ++ [⟨decide (sgn r = 1), false, false⟩]) := by unfold putC; rw [if_neg (by omega), if_pos (by omega), if_neg hf]
          rw [hp, ← hp2] at HST
          rw [← hp2] at hdw
          have hlo : p' < p2 := by omega
          have HN2 : Aside (RowsOk rows (cur ++ [⟨decide (sgn r = 1), false, false⟩])) := HOK.out.cell hf _
          have hsz := HB.out.size
          clear hp hp2 hdf
          rcases h12 with h1 | h2
          · rw [show mkv r = 1 by unfold mkv; rw [h1]; rfl] at cM
            rw [decide_eq_true h1] at HST HN2
            clear h1 hsg hf
            go_wp2_with (first
              | (go_at_call 23; refine cN.mono ?_; rintro e w' ⟨rfl, hw⟩; obtain rfl := hw.symm)
              | (go_at_call 24; refine (cM _).mono ?_; rintro e w' ⟨rfl, hw⟩; obtain rfl := hw.symm)
              | (at_builtin; refine wpList_append_own _ rfl _ _ 41 rfl W.heap.size 47 i0 (.agg #[.bool false, .bool false, .bool false]) 3 3 Tryd.underlying41 hi0 hz0 hz1 hz2 rfl (by decide) _ _ _ rfl (hrow.alloc _) ⟨wr.heap.size, 0, none⟩ 1 1 [.bool true, .bool false, .bool false] rfl rfl (cell_three _ _ _ _ _) (by simp [Value.oneCell']) (by unfold maxLen; omega) (by omega) (by rw [World.size_alloc]; omega) ?_))
            intro v' w2 hown' hgrow _
            have HBn : Aside (Below W.heap.size W w2) := Below.grown (HB.out.alloc hsz _) hgrow (by rw [World.size_alloc]; omega) (fun j hj => (hrow.lt _ hj).1)
            have hown2 : w2.ownsRow W.heap.size 47 3 v' (cur ++ [(⟨true, false, false⟩ : C3)]).length (cs3 (cur ++ [⟨true, false, false⟩])) := by
              rw [cs3_snoc, List.length_append]
              exact hown'
            have hl2 : (cur ++ [(⟨true, false, false⟩ : C3)]).length ≤ 16 := by rw [List.length_append]; exact hlen3
            clear hown' hgrow hrow
            go_wp2
            go_roundg (q - p2)
            case measure => omega
            case rel => exact ⟨p2, _, by go_num, by omega, hdw, Nat.le_refl _, HST, HN2, hl2, hown2, HBn⟩
          · rw [show mkv r = 2 by unfold mkv; rw [h2]; rfl] at cM
            rw [decide_eq_false (by omega)] at HST HN2
            clear h2 hsg hf
            go_wp2_with (first
              | (go_at_call 23; refine cN.mono ?_; rintro e w' ⟨rfl, hw⟩; obtain rfl := hw.symm)
              | (go_at_call 24; refine (cM _).mono ?_; rintro e w' ⟨rfl, hw⟩; obtain rfl := hw.symm)
              | (at_builtin; refine wpList_append_own _ rfl _ _ 41 rfl W.heap.size 47 i0 (.agg #[.bool false, .bool false, .bool false]) 3 3 Tryd.underlying41 hi0 hz0 hz1 hz2 rfl (by decide) _ _ _ rfl (hrow.alloc _) ⟨wr.heap.size, 0, none⟩ 1 1 [.bool false, .bool false, .bool false] rfl rfl (cell_three _ _ _ _ _) (by simp [Value.oneCell']) (by unfold maxLen; omega) (by omega) (by rw [World.size_alloc]; omega) ?_))
            intro v' w2 hown' hgrow _
            have HBn : Aside (Below W.heap.size W w2) := Below.grown (HB.out.alloc hsz _) hgrow (by rw [World.size_alloc]; omega) (fun j hj => (hrow.lt _ hj).1)
            have hown2 : w2.ownsRow W.heap.size 47 3 v' (cur ++ [(⟨false, false, false⟩ : C3)]).length (cs3 (cur ++ [⟨false, false, false⟩])) := by
              rw [cs3_snoc, List.length_append]
              exact hown'
            have hl2 : (cur ++ [(⟨false, false, false⟩ : C3)]).length ≤ 16 := by rw [List.length_append]; exact hlen3
            clear hown' hgrow hrow
            go_wp2
            go_roundg (q - p2)
            case measure => omega
            case rel => exact ⟨p2, _, by go_num, by omega, hdw, Nat.le_refl _, HST, HN2, hl2, hown2, HBn⟩
      · rw [show mkv r = 3 by unfold mkv; rw [h3]; rfl] at cM
        rcases nil_or_snoc cur with rfl | ⟨d, c, rfl⟩
        · have hp : putC r p' rows.length [] = .inl (p', 83) := by unfold putC; rw [if_neg (by omega), if_neg (by omega), if_pos h3]; rfl
          rw [hp] at HST
          clear hp h3 hsg
          go_wp2_with (first
          | (go_at_call 23; refine cN.mono ?_; rintro e w' ⟨rfl, hw⟩; obtain rfl := hw.symm)
          | (go_at_call 24; refine (cM _).mono ?_; rintro e w' ⟨rfl, hw⟩; obtain rfl := hw.symm))
          go_ret3
          exact ⟨HB.out, .inl ⟨p', 83, HST.out, rfl⟩⟩
        · have hp : putC r p' rows.length (d ++ [c]) = if c.r then .inl (p', 83) else .inr (d ++ [setR c]) := by
            unfold putC
            rw [if_neg (by omega), if_neg (by omega), if_pos h3, List.getLast?_concat, List.dropLast_concat]
          rw [hp] at HST
          obtain ⟨y0, y1, y2⟩ := cs3_last d c
          have hcl : (d ++ [c]).length = d.length + 1 := by rw [List.length_append]; rfl
          have hcl2 : (d ++ [setR c]).length = d.length + 1 := by rw [List.length_append]; rfl
          have hset := cs3_set1 d c
          rw [hcl] at hrow hc16 ⊢
          have HD : Aside ((d ++ [setR c]).length = d.length + 1) := hcl2
          generalize hk : d.length = k at *
          obtain ⟨gb, rfl⟩ : ∃ gb, ao = some ⟨gb, 0, none⟩ := by
            rcases hrow.2 with ⟨_, h0⟩ | ⟨gb, cap, cur, e, _⟩
            · omega
            · cases e; exact ⟨gb, rfl⟩
          have k1 := (hrow.cellAt (k * 3 + 1) (by omega)).trans y1
          have k2 := (hrow.cellAt (k * 3 + 2) (by omega)).trans y2
          have f1 := hrow.frozenAt (k * 3 + 1)
          have hst := hrow.stored (k * 3 + 1) (.bool true)
          rw [hset] at hst
          have HSTR : Aside (_ ∧ _) := hst
          have HROW : Aside (wr.ownsRow W.heap.size 47 3 (.slice (some ⟨gb, 0, none⟩) (k + 1) cp) (k + 1) (cs3 (d ++ [c]))) := hrow
          have HOK2 : Aside (RowsOk rows (d ++ [setR c])) := by
            have := HOK.out.last (by simp) (setR c)
            rw [List.dropLast_concat] at this
            exact this
          have hlk := (hrow.lt gb rfl).1
          clear hp y0 y1 y2 hcl hcl2 hset hst hk hrow
          cases hcc : c.r with
          | true =>
            rw [hcc] at HST k1
            have HX : Aside (scan s p ls rows [] = .inl (p', 83)) := HST.out
            clear HST HSTR h3 hsg hdf
            go_wp2_with (first
          | (go_at_call 23; refine cN.mono ?_; rintro e w' ⟨rfl, hw⟩; obtain rfl := hw.symm)
          | (go_at_call 24; refine (cM _).mono ?_; rintro e w' ⟨rfl, hw⟩; obtain rfl := hw.symm))
            go_ret3
            exact ⟨HB.out, .inl ⟨p', 83, HX.out, rfl⟩⟩
          | false =>
            rw [hcc] at HST k1
            have HX : Aside (scan s p ls rows [] = scan s (p' + wd) ls rows (d ++ [setR c])) := HST.out
            obtain ⟨p2, hp2⟩ : ∃ p2, p2 = p' + wd := ⟨_, rfl⟩
            have hsum : (p' : Int) + (wd : Int) = (p2 : Int) := by omega
            rw [← hp2] at hdw HX
            have hlo : p' < p2 := by omega
            clear HST h3 hsg hdf hp2
            have HRN : Aside ((wr.setCell ⟨gb, k * 3 + 1, none⟩ (.bool true)).ownsRow W.heap.size 47 3 (.slice (some ⟨gb, 0, none⟩) (k + 1) cp) (k + 1) (cs3 (d ++ [setR c]))) := HSTR.out.1
            have HBN : Aside (Below W.heap.size W (wr.setCell ⟨gb, k * 3 + 1, none⟩ (.bool true))) := Below.setIn HB.out hlk HB.out.size
            clear HSTR
            go_wp2_with (first
          | (go_at_call 23; refine cN.mono ?_; rintro e w' ⟨rfl, hw⟩; obtain rfl := hw.symm)
          | (go_at_call 24; refine (cM _).mono ?_; rintro e w' ⟨rfl, hw⟩; obtain rfl := hw.symm))
            go_roundg (q - p2)
            case measure => omega
            case rel => exact ⟨p2, _, by go_num, by omega, hdw, Nat.le_refl _, HX, HOK2, by rw [HD.out]; exact hc16, by rw [HD.out]; exact HRN.out, HBN⟩
      · rw [show mkv r = 4 by unfold mkv; rw [h4]; rfl] at cM
        rcases nil_or_snoc cur with rfl | ⟨d, c, rfl⟩
        · have hp : putC r p' rows.length [] = .inl (p', 83) := by unfold putC; rw [if_neg (by omega), if_neg (by omega), if_neg (by omega), if_pos h4]; rfl
          rw [hp] at HST
          clear hp h4 hsg
          go_wp2_with (first
          | (go_at_call 23; refine cN.mono ?_; rintro e w' ⟨rfl, hw⟩; obtain rfl := hw.symm)
          | (go_at_call 24; refine (cM _).mono ?_; rintro e w' ⟨rfl, hw⟩; obtain rfl := hw.symm))
          go_ret3
          exact ⟨HB.out, .inl ⟨p', 83, HST.out, rfl⟩⟩
        · have hp : putC r p' rows.length (d ++ [c]) = if c.d then .inl (p', 83) else .inr (d ++ [setD c]) := by
            unfold putC
            rw [if_neg (by omega), if_neg (by omega), if_neg (by omega), if_pos h4, List.getLast?_concat, List.dropLast_concat]
          rw [hp] at HST
          obtain ⟨y0, y1, y2⟩ := cs3_last d c
          have hcl : (d ++ [c]).length = d.length + 1 := by rw [List.length_append]; rfl
          have hcl2 : (d ++ [setD c]).length = d.length + 1 := by rw [List.length_append]; rfl
          have hset := cs3_set2 d c
          rw [hcl] at hrow hc16 ⊢
          have HD : Aside ((d ++ [setD c]).length = d.length + 1) := hcl2
          generalize hk : d.length = k at *
          obtain ⟨gb, rfl⟩ : ∃ gb, ao = some ⟨gb, 0, none⟩ := by
            rcases hrow.2 with ⟨_, h0⟩ | ⟨gb, cap, cur, e, _⟩
            · omega
            · cases e; exact ⟨gb, rfl⟩
          have k1 := (hrow.cellAt (k * 3 + 1) (by omega)).trans y1
          have k2 := (hrow.cellAt (k * 3 + 2) (by omega)).trans y2
          have f1 := hrow.frozenAt (k * 3 + 2)
          have hst := hrow.stored (k * 3 + 2) (.bool true)
          rw [hset] at hst
          have HSTR : Aside (_ ∧ _) := hst
          have HROW : Aside (wr.ownsRow W.heap.size 47 3 (.slice (some ⟨gb, 0, none⟩) (k + 1) cp) (k + 1) (cs3 (d ++ [c]))) := hrow
          have HOK2 : Aside (RowsOk rows (d ++ [setD c])) := by
            have := HOK.out.last (by simp) (setD c)
            rw [List.dropLast_concat] at this
            exact this
          have hlk := (hrow.lt gb rfl).1
          clear hp y0 y1 y2 hcl hcl2 hset hst hk hrow
          cases hcc : c.d with
          | true =>
            rw [hcc] at HST k2
            have HX : Aside (scan s p ls rows [] = .inl (p', 83)) := HST.out
            clear HST HSTR h4 hsg hdf
            go_wp2_with (first
          | (go_at_call 23; refine cN.mono ?_; rintro e w' ⟨rfl, hw⟩; obtain rfl := hw.symm)
          | (go_at_call 24; refine (cM _).mono ?_; rintro e w' ⟨rfl, hw⟩; obtain rfl := hw.symm))
            go_ret3
            exact ⟨HB.out, .inl ⟨p', 83, HX.out, rfl⟩⟩
          | false =>
            rw [hcc] at HST k2
            have HX : Aside (scan s p ls rows [] = scan s (p' + wd) ls rows (d ++ [setD c])) := HST.out
            obtain ⟨p2, hp2⟩ : ∃ p2, p2 = p' + wd := ⟨_, rfl⟩
            have hsum : (p' : Int) + (wd : Int) = (p2 : Int) := by omega
            rw [← hp2] at hdw HX
            have hlo : p' < p2 := by omega
            clear HST h4 hsg hdf hp2
            have HRN : Aside ((wr.setCell ⟨gb, k * 3 + 2, none⟩ (.bool true)).ownsRow W.heap.size 47 3 (.slice (some ⟨gb, 0, none⟩) (k + 1) cp) (k + 1) (cs3 (d ++ [setD c]))) := HSTR.out.1
            have HBN : Aside (Below W.heap.size W (wr.setCell ⟨gb, k * 3 + 2, none⟩ (.bool true))) := Below.setIn HB.out hlk HB.out.size
            clear HSTR
            go_wp2_with (first
          | (go_at_call 23; refine cN.mono ?_; rintro e w' ⟨rfl, hw⟩; obtain rfl := hw.symm)
          | (go_at_call 24; refine (cM _).mono ?_; rintro e w' ⟨rfl, hw⟩; obtain rfl := hw.symm))
            go_roundg (q - p2)
            case measure => omega
            case rel => exact ⟨p2, _, by go_num, by omega, hdw, Nat.le_refl _, HX, HOK2, by rw [HD.out]; exact hc16, by rw [HD.out]; exact HRN.out, HBN⟩
    · have hltz : ¬ (p' : Int) < (q : Int) := by omega
      obtain rfl : p' = q := by omega
      obtain ⟨ao, mm, cp, rfl⟩ := row_slice hrow
      obtain rfl := row_len3 hrow
      go_wp2
      go_ret3
      exact ⟨HB.out, .inr ⟨cur, _, HSC.out, HOK.out, rfl, hrow⟩⟩
end Go.Proofs.YthjgldjjplcncaaDoor.Skt
