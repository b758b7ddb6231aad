/-
  SlotsNames walked.
-/
import Derived.Test.YtilokjcbkhhifaaDoorSlw
import Derived.Test.YtilokjcbkhhifaaDoorNme
import Derived.Test.YtilokjcbkhhifaaDoorHld
namespace Go.Proofs.YtilokjcbkhhifaaDoor.Grd
open Go Go.Lib Go.RowKit

theorem rd_name {num : Int} {dn : Bool} (h : 1 ≤ num ∧ num ≤ 999) : rd (nameS num dn) = some (num.toNat, dn) := by
  refine rd_some ⟨by omega, by omega, ?_⟩
  unfold nameS
  rw [if_pos h]
theorem rd_noname {num : Int} {dn : Bool} (h : ¬ (1 ≤ num ∧ num ≤ 999)) : rd (nameS num dn) = none := by
  refine rd_none fun n d hr => ?_
  have e := hr.2.2
  unfold nameS at e
  rw [if_neg h] at e
  have e2 : 0 = (nmL n d).length := by simpa using congrArg (fun b : ByteArray => b.data.toList.length) e
  have := nmL_len n d
  omega
theorem nameS_size (num : Int) (dn : Bool) : (nameS num dn).size ≤ 4 := by
  unfold nameS
  by_cases h : 1 ≤ num ∧ num ≤ 999
  · rw [if_pos h]
    show (nmL num.toNat dn).toArray.size ≤ 4
    have := nmL_len num.toNat dn
    simp
    omega
  · rw [if_neg h]; exact Nat.zero_le _
theorem rd_back {s : ByteArray} {n : Nat} {dn : Bool} (h : rd s = some (n, dn)) : Reads s n dn := by
  unfold rd at h
  by_cases he : ∃ p : Nat × Bool, Reads s p.1 p.2
  · rw [dif_pos he] at h
    have := he.choose_spec
    rw [Option.some.inj h] at this
    exact this
  · rw [dif_neg he] at h; cases h

set_option maxRecDepth 20000 in
set_option maxHeartbeats 4000000 in
theorem slotsNames_walk (num : Int) (dn : Bool) (s : ByteArray) (w : World) (h0 : -9223372036854775808 ≤ num) (h1 : num ≤ 9223372036854775807) (hs : s.size ≤ 281474976710656) (hw : Wy w) (hE : Ev w) (hT : Pw w) :
    Calls Tryd.prog 5 #[.int .i64 num, .bool dn, .string s] w fun e w' => e = .returned (.bool true) ∧ Below w.heap.size w w' := by
  have cA := awake7_any w hw
  have HR : Aside (∀ (t : ByteArray) W, t.size ≤ 281474976710656 → Below w.heap.size w W → Calls Tryd.prog 24 #[.string t] W fun e w' => e = .returned (rdV (rd t)) ∧ Below W.heap.size W w') := fun t W ht hb => Read_any t W ht (hE.below hb) (hT.below hb)
  have HQ : Aside (∀ W, Calls Tryd.prog 25 #[.string s] W fun e w' => e = .returned (rdV (rd s)) ∧ Below W.heap.size W w') := fun W => refRead_any s W hs
  have HN : Aside (∀ (v : Int) d W, -9223372036854775808 ≤ v → v ≤ 9223372036854775807 → Below w.heap.size w W → Calls Tryd.prog 26 #[.int .i64 v, .bool d] W fun e w' => e = .returned (.string (nameS v d)) ∧ Below W.heap.size W w') := fun v d W a b hb => Name_any v d W a b (hT.below hb)
  have HM : Aside (∀ W, Calls Tryd.prog 27 #[.int .i64 num, .bool dn] W fun e w' => e = .returned (.string (nameS num dn)) ∧ Below W.heap.size W w') := fun W => refName_any num dn W
  have HSZ : Aside ((nameS num dn).size ≤ 4) := nameS_size num dn
  have HB : Aside (∀ n d, rd s = some (n, d) → 1 ≤ n ∧ n < 1000 ∧ nameS (n : Int) d = s) := fun n d h => ⟨(rd_back h).1, (rd_back h).2.1, reads_nameS (rd_back h)⟩
  have HG : Aside ((1 ≤ num ∧ num ≤ 999 → rd (nameS num dn) = some (num.toNat, dn)) ∧ (¬ (1 ≤ num ∧ num ≤ 999) → rd (nameS num dn) = none)) := ⟨rd_name, rd_noname⟩
  clear hE hT hw
  go_enter Tryd.func5, Tryd.ntmps5
  go_wp2_with fail
  refine cA.mono ?_
  rintro e w1 ⟨rfl, hb1⟩
  have HB1 : Aside (Below w.heap.size w w1) := hb1
  have cR := HR.out s w1 hs hb1
  clear cA hb1
  cases hrd : rd s with
  | none =>
    rw [hrd] at cR
    go_wp2_with fail
    refine cR.mono ?_
    rintro e w2 ⟨rfl, hb2⟩
    have HB2 : Aside (Below w.heap.size w w2) := HB1.out.trans (hb2.mono HB1.out.size)
    have cQ := HQ.out w2
    rw [hrd] at cQ
    unfold rdV
    clear cR hb2 hrd
    go_wp2_with fail
    refine cQ.mono ?_
    rintro e w3 ⟨rfl, hb3⟩
    have HB3 : Aside (Below w.heap.size w w3) := HB2.out.trans (hb3.mono HB2.out.size)
    unfold rdV
    clear cQ hb3
    have cN := HN.out num dn w3 h0 h1 HB3.out
    go_wp2_with fail
    refine cN.mono ?_
    rintro e w4 ⟨rfl, hb4⟩
    have HB4 : Aside (Below w.heap.size w w4) := HB3.out.trans (hb4.mono HB3.out.size)
    have cM := HM.out w4
    clear cN hb4
    go_wp2_with fail
    refine cM.mono ?_
    rintro e w5 ⟨rfl, hb5⟩
    have HB5 : Aside (Below w.heap.size w w5) := HB4.out.trans (hb5.mono HB4.out.size)
    have cN := HN.out num dn w5 h0 h1 HB5.out
    clear cM hb5
    have hbq : ((nameS num dn).toList == (nameS num dn).toList) = true := beq_self_eq_true _
    go_wp2_with fail
    refine cN.mono ?_
    rintro e w6 ⟨rfl, hb6⟩
    have HB6 : Aside (Below w.heap.size w w6) := HB5.out.trans (hb6.mono HB5.out.size)
    have cR := HR.out (nameS num dn) w6 (by have := HSZ.out; omega) HB6.out
    clear cN hb6
    by_cases hgood : 1 ≤ num ∧ num ≤ 999
    · rw [HG.out.1 hgood] at cR
      unfold rdV at cR
      dsimp only at cR
      rw [show ((num.toNat : Nat) : Int) = num by omega] at cR
      have hg1 : 1 ≤ num := hgood.1
      have hg2 : num ≤ 999 := hgood.2
      generalize nameS num dn = nm at *
      go_wp2_with fail
      refine cR.mono ?_
      rintro e w7 ⟨rfl, hb7⟩
      have HB7 : Aside (Below w.heap.size w w7) := HB6.out.trans (hb7.mono HB6.out.size)
      clear cR hb7
      go_wp2_with fail
      go_ret
      exact ⟨rfl, HB7.out⟩
    · rw [HG.out.2 hgood] at cR
      unfold rdV at cR
      generalize nameS num dn = nm at *
      go_wp2_with fail
      refine cR.mono ?_
      rintro e w7 ⟨rfl, hb7⟩
      have HB7 : Aside (Below w.heap.size w w7) := HB6.out.trans (hb7.mono HB6.out.size)
      clear cR hb7
      by_cases hlow : 1 ≤ num
      · have hhi : ¬ num ≤ 999 := fun h => hgood ⟨hlow, h⟩
        clear hgood
        go_wp2_with fail
        go_ret
        exact ⟨rfl, HB7.out⟩
      · clear hgood
        go_wp2_with fail
        go_ret
        exact ⟨rfl, HB7.out⟩
  | some pr =>
    obtain ⟨n, d⟩ := pr
    obtain ⟨hn1, hn2, hnd⟩ := HB.out n d hrd
    have HND : Aside (nameS (n : Int) d = s) := hnd
    clear hnd
    rw [hrd] at cR
    go_wp2_with fail
    refine cR.mono ?_
    rintro e w2 ⟨rfl, hb2⟩
    have HB2 : Aside (Below w.heap.size w w2) := HB1.out.trans (hb2.mono HB1.out.size)
    have cQ := HQ.out w2
    rw [hrd] at cQ
    unfold rdV
    clear cR hb2 hrd
    go_wp2_with fail
    refine cQ.mono ?_
    rintro e w3 ⟨rfl, hb3⟩
    have HB3 : Aside (Below w.heap.size w w3) := HB2.out.trans (hb3.mono HB2.out.size)
    unfold rdV
    clear cQ hb3
    have cN := HN.out num dn w3 h0 h1 HB3.out
    go_wp2_with fail
    refine cN.mono ?_
    rintro e w4 ⟨rfl, hb4⟩
    have HB4 : Aside (Below w.heap.size w w4) := HB3.out.trans (hb4.mono HB3.out.size)
    have cM := HM.out w4
    clear cN hb4
    go_wp2_with fail
    refine cM.mono ?_
    rintro e w5 ⟨rfl, hb5⟩
    have HB5 : Aside (Below w.heap.size w w5) := HB4.out.trans (hb5.mono HB4.out.size)
    have cN := HN.out num dn w5 h0 h1 HB5.out
    clear cM hb5
    have hbq : ((nameS num dn).toList == (nameS num dn).toList) = true := beq_self_eq_true _
    go_wp2_with fail
    refine cN.mono ?_
    rintro e w6 ⟨rfl, hb6⟩
    have HB6 : Aside (Below w.heap.size w w6) := HB5.out.trans (hb6.mono HB5.out.size)
    have cR := HR.out (nameS num dn) w6 (by have := HSZ.out; omega) HB6.out
    clear cN hb6
    by_cases hgood : 1 ≤ num ∧ num ≤ 999
    · rw [HG.out.1 hgood] at cR
      unfold rdV at cR
      dsimp only at cR
      rw [show ((num.toNat : Nat) : Int) = num by omega] at cR
      have hg1 : 1 ≤ num := hgood.1
      have hg2 : num ≤ 999 := hgood.2
      generalize nameS num dn = nm at *
      go_wp2_with fail
      refine cR.mono ?_
      rintro e w7 ⟨rfl, hb7⟩
      have HB7 : Aside (Below w.heap.size w w7) := HB6.out.trans (hb7.mono HB6.out.size)
      clear cR hb7
      have cN := HN.out (n : Int) d w7 (by omega) (by omega) HB7.out
      rw [HND.out] at cN
      have hbs : (s.toList == s.toList) = true := beq_self_eq_true _
      go_wp2_with fail
      refine cN.mono ?_
      rintro e w8 ⟨rfl, hb8⟩
      have HB8 : Aside (Below w.heap.size w w8) := HB7.out.trans (hb8.mono HB7.out.size)
      clear cN hb8
      go_wp2
      go_ret
      exact ⟨rfl, HB8.out⟩
    · rw [HG.out.2 hgood] at cR
      unfold rdV at cR
      generalize nameS num dn = nm at *
      go_wp2_with fail
      refine cR.mono ?_
      rintro e w7 ⟨rfl, hb7⟩
      have HB7 : Aside (Below w.heap.size w w7) := HB6.out.trans (hb7.mono HB6.out.size)
      clear cR hb7
      have cN := HN.out (n : Int) d w7 (by omega) (by omega) HB7.out
      rw [HND.out] at cN
      have hbs : (s.toList == s.toList) = true := beq_self_eq_true _
      by_cases hlow : 1 ≤ num
      · have hhi : ¬ num ≤ 999 := fun h => hgood ⟨hlow, h⟩
        clear hgood
        go_wp2_with fail
        refine cN.mono ?_
        rintro e w8 ⟨rfl, hb8⟩
        have HB8 : Aside (Below w.heap.size w w8) := HB7.out.trans (hb8.mono HB7.out.size)
        clear cN hb8
        go_wp2
        go_ret
        exact ⟨rfl, HB8.out⟩
      · clear hgood
        go_wp2_with fail
        refine cN.mono ?_
        rintro e w8 ⟨rfl, hb8⟩
        have HB8 : Aside (Below w.heap.size w w8) := HB7.out.trans (hb8.mono HB7.out.size)
        clear cN hb8
        go_wp2
        go_ret
        exact ⟨rfl, HB8.out⟩
end Go.Proofs.YtilokjcbkhhifaaDoor.Grd
