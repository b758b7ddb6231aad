/-
  Layer 6: the document's Then and Back, of any numbers.
-/
import Derived.Test.YtgpnnnhhidbajaaTrnf
import Derived.Test.YtgpnnnhhidbajaaTrne
namespace Go.Proofs.Ytgpnnnhhidbajaa.Grd
open Go Go.Lib Go.RowKit

theorem pAns_in {h w i k : Nat} (h1 : 1 ≤ h ∧ h ≤ 16) (w1 : 1 ≤ w ∧ w ≤ 16) (hi : i < h * w) (hk : k < 8) : pAns h w i k = (((plc h w i k : Nat) : Int), (0 : Int)) := by
  unfold pAns sideOk
  have hmul : (h : Int) * (w : Int) = ((h * w : Nat) : Int) := (Int.natCast_mul _ _).symm
  rw [if_neg (by omega), if_neg (by omega), if_neg (by rw [hmul]; omega)]
  simp only [Int.toNat_natCast]
theorem refPlace_in (h w i k : Nat) (h1 : 1 ≤ h ∧ h ≤ 16) (w1 : 1 ≤ w ∧ w ≤ 16) (hi : i < h * w) (hk : k < 8) (W : World) :
    Calls Try.prog 7 #[.int .i64 h, .int .i64 w, .int .i64 i, .int .i64 k] W fun e W' => e = .returned (.tuple #[.int .i64 (plc h w i k : Nat), .int .i64 0]) ∧ Below W.heap.size W W' := by
  have := refPlace_any h w i k W
  rw [pAns_in h1 w1 hi hk] at this
  exact this
def sda (a : Nat) : Nat := if a % 2 = 1 then 3 else 2
def sdb (a : Nat) : Nat := if a % 2 = 1 then 2 else 3
def eqc (a b c i : Nat) : Bool := decide (plc (sda a) (sdb a) (plc 2 3 i a) b = plc 2 3 i c)
def sam (a b c : Nat) : Nat → Bool
  | 0 => decide ((a + b) % 2 = c % 2)
  | i + 1 => sam a b c i && eqc a b c i
theorem sam_thn : ∀ a, a < 8 → ∀ b, b < 8 → ∀ c, c < 8 → sam a b c 6 = decide (thn a b = c) := by decide +kernel
theorem sam_false {a b c i : Nat} (h : sam a b c i = false) : ∀ d, sam a b c (i + d) = false
  | 0 => h
  | d + 1 => by
    show (sam a b c (i + d) && _) = false
    rw [sam_false h d, Bool.false_and]
theorem sam_end {a b c i : Nat} (h : sam a b c i = false) (hi : i ≤ 6) : sam a b c 6 = false := by
  have := sam_false h (6 - i)
  rwa [show i + (6 - i) = 6 by omega] at this

set_option maxHeartbeats 1000000 in
theorem refThen_in (a b : Nat) (ha : a < 8) (hb : b < 8) (W : World) :
    Calls Try.prog 9 #[.int .i64 a, .int .i64 b] W fun e W' => e = .returned (.int .i64 (thn a b : Nat)) ∧ Below W.heap.size W W' := by
  have HT : Aside (∀ c, c < 8 → sam a b c 6 = decide (thn a b = c)) := fun c hc => sam_thn a ha b hb c hc
  have htl := thn_lt a ha b hb
  have ham : ((a : Int) + (b : Int)) % 2 = (((a + b) % 2 : Nat) : Int) := by omega
  generalize hab : (a + b) % 2 = ab at *
  have hab2 : ab < 2 := by omega
  have HAB : Aside ((a + b) % 2 = ab) := hab
  clear hab
  go_enter Try.func9, Try.ntmps9
  go_wp2
  generalize decide ((a : Int) < 0) = d1 at *
  generalize decide (7 < (a : Int)) = d2 at *
  generalize decide ((b : Int) < 0) = d3 at *
  generalize decide (7 < (b : Int)) = d4 at *
  generalize (d1 || d2) = d5 at *
  generalize (d5 || d3) = d6 at *
  generalize (d6 || d4) = d7 at *
  go_loopg [5] 8 (fun g1 cv wr => ∃ c : Nat, cv = .int .i64 (c : Int) ∧ c ≤ 8 ∧ 8 - c ≤ g1 ∧ c ≤ thn a b ∧ Aside (Below W.heap.size W wr))
  case atStart => exact ⟨0, rfl, Nat.zero_le _, by omega, Nat.zero_le _, Below.refl _ _⟩
  case round =>
    obtain ⟨c, rfl, hc, hg, hct, HB⟩ := hrel
    have hc8 : c < 8 := by omega
    have hltz : (c : Int) < 8 := by omega
    obtain ⟨cm, hcm0⟩ : ∃ cm, cm = c % 2 := ⟨_, rfl⟩
    have hcm : (c : Int) % 2 = (cm : Int) := by omega
    have hs0 : ((ab : Int) == (cm : Int)) = sam a b c 0 := by
      show _ = decide ((a + b) % 2 = c % 2)
      rw [HAB.out, ← hcm0]
      by_cases e : ab = cm
      · rw [e]; simp
      · rw [decide_eq_false e]; simp; omega
    clear hcm0
    have HS : Aside (sam a b c 6 = decide (thn a b = c)) := HT.out c hc8
    go_wp2
    try rw [hs0]
    try rw [ham]
    try rw [hcm]
    clear hs0 ham hcm
    go_loopg [6, 7] 6 (fun g2 sv iv wx => ∃ i : Nat, sv = .bool (sam a b c i) ∧ iv = .int .i64 (i : Int) ∧ i ≤ 6 ∧ 6 - i ≤ g2 ∧ Aside (Below W.heap.size W wx))
    case atStart => exact ⟨0, rfl, rfl, Nat.zero_le _, Nat.le_refl _, HB⟩
    case round =>
      obtain ⟨i, rfl, rfl, hi, hg2, HB2⟩ := hrel
      by_cases hlt : i < 6
      · have hlz : (i : Int) < 6 := by omega
        cases hsi : sam a b c i with
        | true =>
          have c1 := fun W => refPlace_in 2 3 i a (by omega) (by omega) (by omega) ha W
          have c3 := fun W => refPlace_in 2 3 i c (by omega) (by omega) (by omega) hc8 W
          have hp := plc_lt (h := 2) (w := 3) (i := i) (by omega) a
          have hx := plc_lt (h := 2) (w := 3) (i := i) (by omega) c
          obtain ⟨q, hq⟩ : ∃ q, plc (sda a) (sdb a) (plc 2 3 i a) b = q := ⟨_, rfl⟩
          have HE : Aside (sam a b c (i + 1) = ((q : Int) == ((plc 2 3 i c : Nat) : Int))) := by
            show (sam a b c i && decide (plc (sda a) (sdb a) (plc 2 3 i a) b = plc 2 3 i c)) = _
            rw [hsi, Bool.true_and, hq]
            by_cases e : q = plc 2 3 i c
            · rw [e]; simp
            · rw [decide_eq_false e]; simp; omega
          clear hsi
          by_cases hodd : a % 2 = 1
          · have ha2 : (a : Int) % 2 = 1 := by omega
            have eA : sda a = 3 := by unfold sda; rw [if_pos hodd]
            have eB : sdb a = 2 := by unfold sdb; rw [if_pos hodd]
            rw [eA, eB] at hq
            have c2 := fun W => refPlace_in 3 2 (plc 2 3 i a) b (by omega) (by omega) (by omega) hb W
            rw [hq] at c2
            have hq2 : q < 6 := by
              have := plc_lt (h := 3) (w := 2) (i := plc 2 3 i a) (by omega) b
              omega
            generalize plc 2 3 i a = pp at *
            generalize plc 2 3 i c = x at *
            clear hq eA eB hodd
            go_wp2_with fail
            refine (c1 _).mono ?_
            rintro e w2 ⟨rfl, hb⟩
            replace HB2 : Aside (Below W.heap.size W w2) := HB2.out.trans (hb.mono HB2.out.size)
            clear hb
            go_wp2_with fail
            refine (c2 _).mono ?_
            rintro e w3 ⟨rfl, hb⟩
            replace HB2 : Aside (Below W.heap.size W w3) := HB2.out.trans (hb.mono HB2.out.size)
            clear hb
            go_wp2_with fail
            refine (c3 _).mono ?_
            rintro e w4 ⟨rfl, hb⟩
            replace HB2 : Aside (Below W.heap.size W w4) := HB2.out.trans (hb.mono HB2.out.size)
            clear hb
            clear c1 c2 c3
            go_wp2
            go_roundg (6 - (i + 1))
            case measure => omega
            case rel => exact ⟨i + 1, by rw [HE.out], by go_num, by omega, Nat.le_refl _, HB2⟩
          · have ha2 : (a : Int) % 2 = 0 := by omega
            have eA : sda a = 2 := by unfold sda; rw [if_neg hodd]
            have eB : sdb a = 3 := by unfold sdb; rw [if_neg hodd]
            rw [eA, eB] at hq
            have c2 := fun W => refPlace_in 2 3 (plc 2 3 i a) b (by omega) (by omega) (by omega) hb W
            rw [hq] at c2
            have hq2 : q < 6 := by
              have := plc_lt (h := 2) (w := 3) (i := plc 2 3 i a) (by omega) b
              omega
            generalize plc 2 3 i a = pp at *
            generalize plc 2 3 i c = x at *
            clear hq eA eB hodd
            go_wp2_with fail
            refine (c1 _).mono ?_
            rintro e w2 ⟨rfl, hb⟩
            replace HB2 : Aside (Below W.heap.size W w2) := HB2.out.trans (hb.mono HB2.out.size)
            clear hb
            go_wp2_with fail
            refine (c2 _).mono ?_
            rintro e w3 ⟨rfl, hb⟩
            replace HB2 : Aside (Below W.heap.size W w3) := HB2.out.trans (hb.mono HB2.out.size)
            clear hb
            go_wp2_with fail
            refine (c3 _).mono ?_
            rintro e w4 ⟨rfl, hb⟩
            replace HB2 : Aside (Below W.heap.size W w4) := HB2.out.trans (hb.mono HB2.out.size)
            clear hb
            clear c1 c2 c3
            go_wp2
            go_roundg (6 - (i + 1))
            case measure => omega
            case rel => exact ⟨i + 1, by rw [HE.out], by go_num, by omega, Nat.le_refl _, HB2⟩
        | false =>
          have hne : ¬ thn a b = c := by
            have := HS.out
            rw [sam_end hsi hi] at this
            exact of_decide_eq_false this.symm
          clear hsi
          go_wp2
          go_roundg (8 - (c + 1))
          case measure => omega
          case rel => exact ⟨c + 1, by go_num, by omega, Nat.le_refl _, by omega, HB2⟩
      · have hlz : ¬ (i : Int) < 6 := by omega
        obtain rfl : i = 6 := by omega
        rw [HS.out]
        by_cases he : thn a b = c
        · rw [decide_eq_true he]
          clear HS
          have HE : Aside (thn a b = c) := he
          clear he
          go_wp2
          go_ret
          refine ⟨?_, HB2.out⟩
          rw [HE.out]
          rfl
        · rw [decide_eq_false he]
          clear HS
          go_wp2
          go_roundg (8 - (c + 1))
          case measure => omega
          case rel => exact ⟨c + 1, by go_num, by omega, Nat.le_refl _, by omega, HB2⟩

set_option maxHeartbeats 1000000 in
theorem refThen_any (a b : Int) (W : World) :
    Calls Try.prog 9 #[.int .i64 a, .int .i64 b] W fun e W' => e = .returned (.int .i64 (thnI a b)) ∧ Below W.heap.size W W' := by
  unfold thnI
  by_cases h : 0 ≤ a ∧ a < 8 ∧ 0 ≤ b ∧ b < 8
  · rw [if_pos h]
    obtain ⟨x, rfl⟩ := Int.eq_ofNat_of_zero_le h.1
    obtain ⟨y, rfl⟩ := Int.eq_ofNat_of_zero_le h.2.2.1
    simp only [Int.toNat_natCast]
    exact refThen_in x y (by omega) (by omega) W
  · rw [if_neg h]
    by_cases q1 : a < 0
    · go_enter Try.func9, Try.ntmps9
      go_wp2
      go_ret
      exact ⟨rfl, Below.refl _ _⟩
    · by_cases q2 : 7 < a
      · go_enter Try.func9, Try.ntmps9
        go_wp2
        go_ret
        exact ⟨rfl, Below.refl _ _⟩
      · by_cases q3 : b < 0
        · go_enter Try.func9, Try.ntmps9
          go_wp2
          go_ret
          exact ⟨rfl, Below.refl _ _⟩
        · have q4 : 7 < b := by omega
          go_enter Try.func9, Try.ntmps9
          go_wp2
          go_ret
          exact ⟨rfl, Below.refl _ _⟩

theorem thnI_bck {a : Int} (h : 0 ≤ a ∧ a < 8) {b : Nat} (hb : b < 8) : (thnI a b = 0 ↔ b = bck a.toNat) := by
  obtain ⟨x, rfl⟩ := Int.eq_ofNat_of_zero_le h.1
  unfold thnI
  rw [if_pos (by omega)]
  simp only [Int.toNat_natCast]
  rw [← thn_back x (by omega) b hb]
  omega
theorem thnI_not {a : Int} (h : ¬ (0 ≤ a ∧ a < 8)) (b : Int) : thnI a b = -1 := by
  unfold thnI
  rw [if_neg (fun x => h ⟨x.1, x.2.1⟩)]
set_option maxHeartbeats 1000000 in
theorem refBack_any (a : Int) (W : World) :
    Calls Try.prog 11 #[.int .i64 a] W fun e W' => e = .returned (.int .i64 (bckI a)) ∧ Below W.heap.size W W' := by
  have HT : Aside (∀ (b : Nat) W, Calls Try.prog 9 #[.int .i64 a, .int .i64 b] W fun e W' => e = .returned (.int .i64 (thnI a b)) ∧ Below W.heap.size W W') := fun b W => refThen_any a b W
  have HA : Aside (0 ≤ a ∧ a < 8 → ∀ b : Nat, b < 8 → (thnI a b = 0 ↔ b = bck a.toNat)) := fun h b hb => thnI_bck h hb
  have HN : Aside (¬ (0 ≤ a ∧ a < 8) → ∀ b : Int, thnI a b = -1) := fun h b => thnI_not h b
  have HL : Aside (0 ≤ a ∧ a < 8 → bck a.toNat < 8) := fun h => bck_lt _ (by omega)
  go_enter Try.func11, Try.ntmps11
  go_wp2
  go_loopg [3] 8 (fun g1 bv wr => ∃ b : Nat, bv = .int .i64 (b : Int) ∧ b ≤ 8 ∧ 8 - b ≤ g1 ∧ Aside (0 ≤ a ∧ a < 8 → b ≤ bck a.toNat) ∧ Aside (Below W.heap.size W wr))
  case atStart => exact ⟨0, rfl, Nat.zero_le _, by omega, fun _ => Nat.zero_le _, Below.refl _ _⟩
  case round =>
    obtain ⟨b, rfl, hb, hg, HC, HB⟩ := hrel
    by_cases hlt : b < 8
    · have hltz : (b : Int) < 8 := by omega
      have cT := HT.out b wr
      go_wp2_with fail
      refine cT.mono ?_
      rintro e w2 ⟨rfl, hb2⟩
      replace HB : Aside (Below W.heap.size W w2) := HB.out.trans (hb2.mono HB.out.size)
      clear hb2 cT
      by_cases ht : thnI a b = 0
      · rw [ht]
        have HR : Aside (bckI a = (b : Int)) := by
          show _ = _
          unfold bckI
          by_cases h : 0 ≤ a ∧ a < 8
          · rw [if_pos h, ((HA.out h b hlt).1 ht)]
          · have := HN.out h (b : Int); omega
        clear ht
        go_wp2
        go_ret
        refine ⟨?_, HB.out⟩
        rw [HR.out]
        rfl
      · have HD : Aside (0 ≤ a ∧ a < 8 → b + 1 ≤ bck a.toNat) := fun h => by
          have := HC.out h
          have := mt (HA.out h b hlt).2 ht
          omega
        generalize thnI a b = t at *
        go_wp2
        go_roundg (8 - (b + 1))
        case measure => omega
        case rel => exact ⟨b + 1, by go_num, by omega, Nat.le_refl _, HD, HB⟩
    · have hltz : ¬ (b : Int) < 8 := by omega
      have HR : Aside (bckI a = -1) := by
        show _ = _
        unfold bckI
        by_cases h : 0 ≤ a ∧ a < 8
        · have := HC.out h; have := HL.out h; omega
        · rw [if_neg h]
      go_wp2
      go_ret
      refine ⟨?_, HB.out⟩
      rw [HR.out]
      rfl
end Go.Proofs.Ytgpnnnhhidbajaa.Grd
