/-
  The document's Next walked: it tells the rune at a place and its width, for every text and place.
-/
import Derived.Test.YthjgldjjplcncaaDoorUtfm
import Derived.Test.YthjgldjjplcncaaDoorRefm
import Derived.Test.YthjgldjjplcncaaDoorProg
import Derived.WalkKit
import Derived.Lib.Walk
import Derived.LoopTactic
import Derived.Shelf.Unicode.DecodeSlow
namespace Go.Proofs.YthjgldjjplcncaaDoor.Utf
open Go Go.Lib Go.RowKit

theorem ret_t3 {k1 k2 k3 : IntKind} {a b c a' b' c' : Int} (h1 : a = a') (h2 : b = b') (h3 : c = c') : Ending.returned (.tuple #[.int k1 a, .int k2 b, .int k3 c]) = .returned (.tuple #[.int k1 a', .int k2 b', .int k3 c']) := by rw [h1, h2, h3]
theorem ret_t2 {k1 k2 : IntKind} {a b a' b' : Int} (h1 : a = a') (h2 : b = b') : Ending.returned (.tuple #[.int k1 a, .int k2 b]) = .returned (.tuple #[.int k1 a', .int k2 b']) := by rw [h1, h2]

set_option maxRecDepth 100000 in
set_option maxHeartbeats 1000000 in
theorem row_any (b : Nat) (w : World) (hb : b < 256) :
    Calls Tryd.prog 32 #[.int .u8 (b : Int)] w fun e w' => e = .returned (.tuple #[.int .i64 (rowW b : Int), .int .u8 (rowLo b : Int), .int .u8 (rowHi b : Int)]) ∧ w' = w := by
  have fin : ∀ (x y z : Nat), rowW b = x → rowLo b = y → rowHi b = z →
      Calls Tryd.prog 32 #[.int .u8 (b : Int)] w (fun e w' => e = .returned (.tuple #[.int .i64 (x : Int), .int .u8 (y : Int), .int .u8 (z : Int)]) ∧ w' = w) →
      Calls Tryd.prog 32 #[.int .u8 (b : Int)] w fun e w' => e = .returned (.tuple #[.int .i64 (rowW b : Int), .int .u8 (rowLo b : Int), .int .u8 (rowHi b : Int)]) ∧ w' = w := by
    intro x y z h1 h2 h3 h
    rw [h1, h2, h3]; exact h
  by_cases k1 : b < 128
  · refine fin 1 0 0 (row1 k1).1 (by unfold rowLo; rw [if_pos k1]) (by unfold rowHi; rw [if_pos k1]) ?_
    clear fin
    go_enter Tryd.func32, Tryd.ntmps32
    go_wp2
    go_ret3
    exact ⟨rfl, rfl⟩
  by_cases k2 : 194 ≤ b ∧ b ≤ 223
  · obtain ⟨e1, e2, e3, _⟩ := row2 k2
    refine fin _ _ _ e1 e2 e3 ?_
    clear fin e1 e2 e3
    go_enter Tryd.func32, Tryd.ntmps32
    go_wp2
    go_ret3
    exact ⟨rfl, rfl⟩
  by_cases k3 : 224 ≤ b ∧ b ≤ 239
  · obtain ⟨e1, e2, e3, _⟩ := row3 k3
    have hc : b = 224 ∨ b = 237 ∨ (b ≠ 224 ∧ b ≠ 237) := by omega
    rcases hc with rfl | rfl | ⟨j1, j2⟩
    · refine fin _ _ _ e1 e2 e3 ?_
      clear fin e1 e2 e3
      go_enter Tryd.func32, Tryd.ntmps32
      go_wp2
      go_ret3
      exact ⟨rfl, rfl⟩
    · refine fin _ _ _ e1 e2 e3 ?_
      clear fin e1 e2 e3
      go_enter Tryd.func32, Tryd.ntmps32
      go_wp2
      go_ret3
      exact ⟨rfl, rfl⟩
    · rw [if_neg j1] at e2
      rw [if_neg j2] at e3
      refine fin _ _ _ e1 e2 e3 ?_
      have q1 : ((b : Int) == 224) = false := by rw [beq_eq_false_iff_ne]; omega
      have q2 : ((b : Int) == 237) = false := by rw [beq_eq_false_iff_ne]; omega
      clear fin e1 e2 e3 j1 j2
      go_enter Tryd.func32, Tryd.ntmps32
      go_wp2
      go_ret3
      exact ⟨rfl, rfl⟩
  by_cases k4 : 240 ≤ b ∧ b ≤ 244
  · obtain ⟨e1, e2, e3, _⟩ := row4 k4
    have hc : b = 240 ∨ b = 244 ∨ (b ≠ 240 ∧ b ≠ 244) := by omega
    have q1 : ((b : Int) == 224) = false := by rw [beq_eq_false_iff_ne]; omega
    have q2 : ((b : Int) == 237) = false := by rw [beq_eq_false_iff_ne]; omega
    rcases hc with rfl | rfl | ⟨j1, j2⟩
    · refine fin _ _ _ e1 e2 e3 ?_
      clear fin e1 e2 e3
      go_enter Tryd.func32, Tryd.ntmps32
      go_wp2
      go_ret3
      exact ⟨rfl, rfl⟩
    · refine fin _ _ _ e1 e2 e3 ?_
      clear fin e1 e2 e3
      go_enter Tryd.func32, Tryd.ntmps32
      go_wp2
      go_ret3
      exact ⟨rfl, rfl⟩
    · rw [if_neg j1] at e2
      rw [if_neg j2] at e3
      refine fin _ _ _ e1 e2 e3 ?_
      have q3 : ((b : Int) == 240) = false := by rw [beq_eq_false_iff_ne]; omega
      have q4 : ((b : Int) == 244) = false := by rw [beq_eq_false_iff_ne]; omega
      have q5 : 241 ≤ b ∧ b ≤ 243 := by omega
      clear fin e1 e2 e3 j1 j2
      go_enter Tryd.func32, Tryd.ntmps32
      go_wp2
      go_ret3
      exact ⟨rfl, rfl⟩
  · refine fin 0 0 0 (row0 k1 k2 k3 k4) (by unfold rowLo; rw [if_neg (by omega), if_neg (by omega), if_neg (by omega), if_neg (by omega), if_neg (by omega), if_neg (by omega), if_neg (by omega), if_neg (by omega)])
      (by unfold rowHi; rw [if_neg (by omega), if_neg (by omega), if_neg (by omega), if_neg (by omega), if_neg (by omega), if_neg (by omega), if_neg (by omega), if_neg (by omega)]) ?_
    have hc : b < 194 ∨ 244 < b := by omega
    have q1 : ((b : Int) == 224) = false := by rw [beq_eq_false_iff_ne]; omega
    have q2 : ((b : Int) == 237) = false := by rw [beq_eq_false_iff_ne]; omega
    have q3 : ((b : Int) == 240) = false := by rw [beq_eq_false_iff_ne]; omega
    have q4 : ((b : Int) == 244) = false := by rw [beq_eq_false_iff_ne]; omega
    clear fin k2 k3 k4
    rcases hc with j | j
    all_goals
      go_enter Tryd.func32, Tryd.ntmps32
      go_wp2
      go_ret3
      exact ⟨rfl, rfl⟩

set_option maxRecDepth 100000 in
set_option maxHeartbeats 2000000 in
theorem refNext_any (s : ByteArray) (p : Int) (w : World) (hs : s.size ≤ 140737488355328) :
    Calls Tryd.prog 23 #[.string s, .int .i64 p] w fun e w' => e = .returned (.tuple #[.int .i32 (nextR s p), .int .i64 (nextW s p)]) ∧ w' = w := by
  by_cases h0 : p < 0
  · rw [nextR_out (by omega), nextW_out (by omega)]
    go_enter Tryd.func23, Tryd.ntmps23
    go_wp2
    go_ret2
    exact ⟨rfl, rfl⟩
  · by_cases h1 : (s.size : Int) ≤ p
    · rw [nextR_out (by omega), nextW_out (by omega)]
      go_enter Tryd.func23, Tryd.ntmps23
      go_wp2
      go_ret2
      exact ⟨rfl, rfl⟩
    · obtain ⟨n, rfl⟩ := Int.eq_ofNat_of_zero_le (by omega : 0 ≤ p)
      rw [nextR_in (by omega), nextW_in (by omega), ← refN_eq s n (by omega)]
      obtain ⟨x0, hx0⟩ : ∃ x0, s.get! n = x0 := ⟨_, rfl⟩
      have hs0 : s[n]'(by omega) = x0 := by rw [← hx0]; exact (Utf8W.get!_of_lt s n (by omega)).symm
      have l0 := x0.toNat_lt
      have hR : refN s n = if rowW x0.toNat = 0 ∨ s.size - n < rowW x0.toNat then (65533, 1) else refL s n (rowW x0.toNat) (rowLo x0.toNat) (rowHi x0.toNat) (rowW x0.toNat - 1) 1 (lead x0.toNat) := by unfold refN; rw [hx0]
      obtain ⟨R, K, hRK⟩ : ∃ R K, refN s n = (R, K) := ⟨_, _, rfl⟩
      rw [hRK] at hR ⊢
      have cR := row_any x0.toNat w (by omega)
      have hw4 := rowW_le x0.toNat
      have hld := lead_lt x0.toNat
      clear hRK hx0
      go_enter Tryd.func23, Tryd.ntmps23
      go_wp2_with fail
      refine cR.mono ?_
      rintro e w' ⟨rfl, rfl⟩
      clear cR
      generalize rowLo x0.toNat = lo at *
      generalize rowHi x0.toNat = hi at *
      by_cases hW0 : rowW x0.toNat = 0
      · rw [if_pos (.inl hW0)] at hR
        obtain ⟨rfl, rfl⟩ := Prod.mk.inj hR
        rw [hW0]
        clear hW0 hR hw4 hld
        go_wp2
        go_ret2
        exact ⟨rfl, rfl⟩
      by_cases hWs : s.size - n < rowW x0.toNat
      · rw [if_pos (.inr hWs)] at hR
        obtain ⟨rfl, rfl⟩ := Prod.mk.inj hR
        have q0 : ((rowW x0.toNat : Int) == 0) = false := by rw [beq_eq_false_iff_ne]; omega
        have q1 : (s.size : Int) - (n : Int) < (rowW x0.toNat : Int) := by omega
        clear hR hld
        generalize rowW x0.toNat = wd at *
        go_wp2
        go_ret2
        exact ⟨rfl, rfl⟩
      rw [if_neg (by omega)] at hR
      have hl1 := hld hW0
      have hlead : lead x0.toNat = (if rowW x0.toNat = 2 then x0.toNat % 32 else if rowW x0.toNat = 3 then x0.toNat % 16 else if rowW x0.toNat = 4 then x0.toNat % 8 else x0.toNat) := rfl
      generalize lead x0.toNat = ld at *
      generalize rowW x0.toNat = wd at *
      have hwc : wd = 1 ∨ wd = 2 ∨ wd = 3 ∨ wd = 4 := by omega
      clear hld
      rcases hwc with rfl | rfl | rfl | rfl
      · obtain rfl : ld = x0.toNat := hlead
        have HR : Hid (refL s n 1 lo hi 0 1 (x0.toNat) = (R, K)) := hR.symm
        have hsn : n + 1 ≤ s.size := by omega
        clear hR hW0 hWs hw4
        clear h0
        go_wp2
        go_loop [9, 10] (fun nv iv => ∃ (i m f : Nat), iv = .int .i64 (i : Int) ∧ nv = .int .i64 (m : Int) ∧ Hid (refL s n 1 lo hi f i m = (R, K)) ∧ f + i = 1 ∧ 1 ≤ i ∧ (i ≤ 1 → m < 128) ∧ (i ≤ 2 → m < 8192) ∧ (i ≤ 3 → m < 524288) ∧ m < 33554432) (fun _ iv => (4 - RowKit.intOf iv).toNat)
        case atStart => exact ⟨1, x0.toNat, 0, rfl, by go_num, HR, by omega, by omega, by omega, by omega, by omega, by omega⟩
        case round =>
          obtain ⟨i, m, f, rfl, rfl, HC, hfi, hi1, hm1, hm2, hm3, hm4⟩ := hrel
          by_cases hlt : i < 1
          · obtain ⟨f, rfl⟩ : ∃ g, f = g + 1 := ⟨f - 1, by omega⟩
            obtain ⟨x, hx⟩ : ∃ x, s.get! (n + i) = x := ⟨_, rfl⟩
            have hsx : s[n + i]'(by omega) = x := by rw [← hx]; exact (Utf8W.get!_of_lt s (n + i) (by omega)).symm
            have lx := x.toNat_lt
            have hz : (n : Int) + (i : Int) < (s.size : Int) := by omega
            have hC1 := refL_bad (s := s) (p := n) (w := 1) (lo := lo) (hi := hi) (f := f) (i := i) (n := m)
            have hC2 := refL_step (s := s) (p := n) (w := 1) (lo := lo) (hi := hi) (f := f) (i := i) (n := m)
            rw [hx] at hC1 hC2
            by_cases hbad : (i = 1 ∧ (x.toNat < lo ∨ hi < x.toNat)) ∨ x.toNat < 128 ∨ 191 < x.toNat
            · have HE : Hid ((65533, 1) = (R, K)) := (hC1 hbad).symm.trans HC.out
              clear hC1 hC2 HC hx HR
              go_wp2
              all_goals
                go_ret2
                obtain ⟨rfl, rfl⟩ := Prod.mk.inj HE.out
                exact ⟨rfl, rfl⟩
            · have HE : Hid (refL s n 1 lo hi f (i + 1) (m * 64 + x.toNat % 64) = (R, K)) := (hC2 hbad).symm.trans HC.out
              clear hC1 hC2 HC hx HR
              go_wp2
              all_goals
                go_round
                case rel => exact ⟨i + 1, _, f, by go_num, by go_num, HE, by omega, by omega, by omega, by omega, by omega, by omega⟩
                case measure => simp [RowKit.intOf]; omega
          · obtain rfl : f = 0 := by omega
            have HE : Hid ((m, 1) = (R, K)) := HC.out
            clear HC HR
            go_wp2
            go_ret2
            obtain ⟨rfl, rfl⟩ := Prod.mk.inj HE.out
            exact ⟨rfl, rfl⟩
      · obtain rfl : ld = x0.toNat % 32 := hlead
        have HR : Hid (refL s n 2 lo hi 1 1 (x0.toNat % 32) = (R, K)) := hR.symm
        have hsn : n + 2 ≤ s.size := by omega
        clear hR hW0 hWs hw4
        clear h0
        go_wp2
        go_loop [9, 10] (fun nv iv => ∃ (i m f : Nat), iv = .int .i64 (i : Int) ∧ nv = .int .i64 (m : Int) ∧ Hid (refL s n 2 lo hi f i m = (R, K)) ∧ f + i = 2 ∧ 1 ≤ i ∧ (i ≤ 1 → m < 128) ∧ (i ≤ 2 → m < 8192) ∧ (i ≤ 3 → m < 524288) ∧ m < 33554432) (fun _ iv => (4 - RowKit.intOf iv).toNat)
        case atStart => exact ⟨1, x0.toNat % 32, 1, rfl, by go_num, HR, by omega, by omega, by omega, by omega, by omega, by omega⟩
        case round =>
          obtain ⟨i, m, f, rfl, rfl, HC, hfi, hi1, hm1, hm2, hm3, hm4⟩ := hrel
          by_cases hlt : i < 2
          · obtain ⟨f, rfl⟩ : ∃ g, f = g + 1 := ⟨f - 1, by omega⟩
            obtain ⟨x, hx⟩ : ∃ x, s.get! (n + i) = x := ⟨_, rfl⟩
            have hsx : s[n + i]'(by omega) = x := by rw [← hx]; exact (Utf8W.get!_of_lt s (n + i) (by omega)).symm
            have lx := x.toNat_lt
            have hz : (n : Int) + (i : Int) < (s.size : Int) := by omega
            have hC1 := refL_bad (s := s) (p := n) (w := 2) (lo := lo) (hi := hi) (f := f) (i := i) (n := m)
            have hC2 := refL_step (s := s) (p := n) (w := 2) (lo := lo) (hi := hi) (f := f) (i := i) (n := m)
            rw [hx] at hC1 hC2
            by_cases hbad : (i = 1 ∧ (x.toNat < lo ∨ hi < x.toNat)) ∨ x.toNat < 128 ∨ 191 < x.toNat
            · have HE : Hid ((65533, 1) = (R, K)) := (hC1 hbad).symm.trans HC.out
              clear hC1 hC2 HC hx HR
              go_wp2
              all_goals
                go_ret2
                obtain ⟨rfl, rfl⟩ := Prod.mk.inj HE.out
                exact ⟨rfl, rfl⟩
            · have HE : Hid (refL s n 2 lo hi f (i + 1) (m * 64 + x.toNat % 64) = (R, K)) := (hC2 hbad).symm.trans HC.out
              clear hC1 hC2 HC hx HR
              go_wp2
              all_goals
                go_round
                case rel => exact ⟨i + 1, _, f, by go_num, by go_num, HE, by omega, by omega, by omega, by omega, by omega, by omega⟩
                case measure => simp [RowKit.intOf]; omega
          · obtain rfl : f = 0 := by omega
            have HE : Hid ((m, 2) = (R, K)) := HC.out
            clear HC HR
            go_wp2
            go_ret2
            obtain ⟨rfl, rfl⟩ := Prod.mk.inj HE.out
            exact ⟨rfl, rfl⟩
      · obtain rfl : ld = x0.toNat % 16 := hlead
        have HR : Hid (refL s n 3 lo hi 2 1 (x0.toNat % 16) = (R, K)) := hR.symm
        have hsn : n + 3 ≤ s.size := by omega
        clear hR hW0 hWs hw4
        clear h0
        go_wp2
        go_loop [9, 10] (fun nv iv => ∃ (i m f : Nat), iv = .int .i64 (i : Int) ∧ nv = .int .i64 (m : Int) ∧ Hid (refL s n 3 lo hi f i m = (R, K)) ∧ f + i = 3 ∧ 1 ≤ i ∧ (i ≤ 1 → m < 128) ∧ (i ≤ 2 → m < 8192) ∧ (i ≤ 3 → m < 524288) ∧ m < 33554432) (fun _ iv => (4 - RowKit.intOf iv).toNat)
        case atStart => exact ⟨1, x0.toNat % 16, 2, rfl, by go_num, HR, by omega, by omega, by omega, by omega, by omega, by omega⟩
        case round =>
          obtain ⟨i, m, f, rfl, rfl, HC, hfi, hi1, hm1, hm2, hm3, hm4⟩ := hrel
          by_cases hlt : i < 3
          · obtain ⟨f, rfl⟩ : ∃ g, f = g + 1 := ⟨f - 1, by omega⟩
            obtain ⟨x, hx⟩ : ∃ x, s.get! (n + i) = x := ⟨_, rfl⟩
            have hsx : s[n + i]'(by omega) = x := by rw [← hx]; exact (Utf8W.get!_of_lt s (n + i) (by omega)).symm
            have lx := x.toNat_lt
            have hz : (n : Int) + (i : Int) < (s.size : Int) := by omega
            have hC1 := refL_bad (s := s) (p := n) (w := 3) (lo := lo) (hi := hi) (f := f) (i := i) (n := m)
            have hC2 := refL_step (s := s) (p := n) (w := 3) (lo := lo) (hi := hi) (f := f) (i := i) (n := m)
            rw [hx] at hC1 hC2
            by_cases hbad : (i = 1 ∧ (x.toNat < lo ∨ hi < x.toNat)) ∨ x.toNat < 128 ∨ 191 < x.toNat
            · have HE : Hid ((65533, 1) = (R, K)) := (hC1 hbad).symm.trans HC.out
              clear hC1 hC2 HC hx HR
              go_wp2
              all_goals
                go_ret2
                obtain ⟨rfl, rfl⟩ := Prod.mk.inj HE.out
                exact ⟨rfl, rfl⟩
            · have HE : Hid (refL s n 3 lo hi f (i + 1) (m * 64 + x.toNat % 64) = (R, K)) := (hC2 hbad).symm.trans HC.out
              clear hC1 hC2 HC hx HR
              go_wp2
              all_goals
                go_round
                case rel => exact ⟨i + 1, _, f, by go_num, by go_num, HE, by omega, by omega, by omega, by omega, by omega, by omega⟩
                case measure => simp [RowKit.intOf]; omega
          · obtain rfl : f = 0 := by omega
            have HE : Hid ((m, 3) = (R, K)) := HC.out
            clear HC HR
            go_wp2
            go_ret2
            obtain ⟨rfl, rfl⟩ := Prod.mk.inj HE.out
            exact ⟨rfl, rfl⟩
      · obtain rfl : ld = x0.toNat % 8 := hlead
        have HR : Hid (refL s n 4 lo hi 3 1 (x0.toNat % 8) = (R, K)) := hR.symm
        have hsn : n + 4 ≤ s.size := by omega
        clear hR hW0 hWs hw4
        clear h0
        go_wp2
        go_loop [9, 10] (fun nv iv => ∃ (i m f : Nat), iv = .int .i64 (i : Int) ∧ nv = .int .i64 (m : Int) ∧ Hid (refL s n 4 lo hi f i m = (R, K)) ∧ f + i = 4 ∧ 1 ≤ i ∧ (i ≤ 1 → m < 128) ∧ (i ≤ 2 → m < 8192) ∧ (i ≤ 3 → m < 524288) ∧ m < 33554432) (fun _ iv => (4 - RowKit.intOf iv).toNat)
        case atStart => exact ⟨1, x0.toNat % 8, 3, rfl, by go_num, HR, by omega, by omega, by omega, by omega, by omega, by omega⟩
        case round =>
          obtain ⟨i, m, f, rfl, rfl, HC, hfi, hi1, hm1, hm2, hm3, hm4⟩ := hrel
          by_cases hlt : i < 4
          · obtain ⟨f, rfl⟩ : ∃ g, f = g + 1 := ⟨f - 1, by omega⟩
            obtain ⟨x, hx⟩ : ∃ x, s.get! (n + i) = x := ⟨_, rfl⟩
            have hsx : s[n + i]'(by omega) = x := by rw [← hx]; exact (Utf8W.get!_of_lt s (n + i) (by omega)).symm
            have lx := x.toNat_lt
            have hz : (n : Int) + (i : Int) < (s.size : Int) := by omega
            have hC1 := refL_bad (s := s) (p := n) (w := 4) (lo := lo) (hi := hi) (f := f) (i := i) (n := m)
            have hC2 := refL_step (s := s) (p := n) (w := 4) (lo := lo) (hi := hi) (f := f) (i := i) (n := m)
            rw [hx] at hC1 hC2
            by_cases hbad : (i = 1 ∧ (x.toNat < lo ∨ hi < x.toNat)) ∨ x.toNat < 128 ∨ 191 < x.toNat
            · have HE : Hid ((65533, 1) = (R, K)) := (hC1 hbad).symm.trans HC.out
              clear hC1 hC2 HC hx HR
              go_wp2
              all_goals
                go_ret2
                obtain ⟨rfl, rfl⟩ := Prod.mk.inj HE.out
                exact ⟨rfl, rfl⟩
            · have HE : Hid (refL s n 4 lo hi f (i + 1) (m * 64 + x.toNat % 64) = (R, K)) := (hC2 hbad).symm.trans HC.out
              clear hC1 hC2 HC hx HR
              go_wp2
              all_goals
                go_round
                case rel => exact ⟨i + 1, _, f, by go_num, by go_num, HE, by omega, by omega, by omega, by omega, by omega, by omega⟩
                case measure => simp [RowKit.intOf]; omega
          · obtain rfl : f = 0 := by omega
            have HE : Hid ((m, 4) = (R, K)) := HC.out
            clear HC HR
            go_wp2
            go_ret2
            obtain ⟨rfl, rfl⟩ := Prod.mk.inj HE.out
            exact ⟨rfl, rfl⟩
end Go.Proofs.YthjgldjjplcncaaDoor.Utf
