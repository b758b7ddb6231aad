/-
  The law on Join and Sure walked: for every list of up to 1048576 texts of up to 1048576 bytes and every list of up to 1048576 numbers it answers true.
-/
import Derived.Test.YtaijphanpolegaaSur
import Derived.Test.YtaijphanpolegaaAwk3
import Derived.Test.YtaijphanpolegaaRnw
namespace Go.Proofs.Ytaijphanpolegaa.Utf
open Go Go.Lib Go.RowKit

set_option maxRecDepth 100000 in
set_option maxHeartbeats 4000000 in
theorem alphaWrites_walk (L : List ByteArray) (al : Option Addr) (cl : Nat) (zs : List Int) (ao : Option Addr) (cap : Nat) (w : World) (hlen : L.length ≤ 1048576) (hsm : ∀ s ∈ L, s.size ≤ 1048576) (hcap : L.length ≤ cl) (hl : zs.length ≤ 1048576) (hRL : ReadsO w al (L.map Value.string)) (hR : ReadsO w ao (ints zs)) :
    Calls Try.prog 5 #[.slice al L.length cl, .slice ao zs.length cap] w fun e w' => e = .returned (.bool true) ∧ Below w.heap.size w w' := by
  have cA := awake3_any w
  have HRL : Aside (∀ W, Below w.heap.size w W → ReadsO W al (L.map Value.string)) := fun W hb => hRL.below hb
  have HR : Aside (∀ W, Below w.heap.size w W → ReadsO W ao (ints zs)) := fun W hb => hR.below hb
  clear hRL hR
  go_enter Try.func5, Try.ntmps5
  go_wp2_with fail
  refine cA.mono ?_
  rintro e w1 ⟨rfl, hb1⟩
  have cF := refNew_any L al cl w1 hcap (by omega) (fun s hs => by have := hsm s hs; omega) (HRL.out _ hb1)
  clear cA
  have HB1 : Aside (Below w.heap.size w w1) := hb1
  clear hb1
  have hG := @new_good L
  have cN := fun W h => new_any L al cl W (by omega) h
  generalize (newR L).1 = N1 at *
  generalize (newR L).2 = E at *
  go_wp2_with fail
  refine cF.mono ?_
  rintro e w2 ⟨rfl, hb2⟩
  have HB2 : Aside (Below w.heap.size w w2) := HB1.out.trans (hb2.mono HB1.out.size)
  clear cF hb2 hsm
  by_cases hE : E = 0
  · subst hE
    obtain ⟨_, hl40, hnm, hnd⟩ := hG rfl
    have hLs : ∀ x ∈ L, 1 ≤ x.size ∧ x.size ≤ 12 := fun x hx => name_len (hnm x hx)
    have cN2 := cN w2 (HRL.out _ HB2.out)
    clear hG cN
    go_wp2_with fail
    refine cN2.mono ?_
    rintro e w3 ⟨⟨v, rfl, _, hv2⟩, hb3⟩
    obtain ⟨b, rk, rfl, hA, hRk⟩ := hv2 (by first | rfl | trivial)
    have HB3 : Aside (Below w.heap.size w w3) := HB2.out.trans (hb3.mono HB2.out.size)
    have HA : Aside (∀ W, Below w3.heap.size w3 W → IsAlpha W b L rk) := fun W h => (hA.below h).is
    clear cN2 hv2 hA hb3
    have cJ := join_any (HA.out w3 (Below.refl _ _)) (fun x hx => (hLs x hx).2) zs ao cap hl (HR.out _ HB3.out)
    go_wp2_with fail
    refine cJ.mono ?_
    rintro e w4 ⟨hor, hb4⟩
    have HB34 : Aside (Below w3.heap.size w3 w4) := hb4
    have HB4 : Aside (Below w.heap.size w w4) := HB3.out.trans (hb4.mono HB3.out.size)
    have cK := refJoin_any L (fun x hx => (hLs x hx).2) hl40 al cl zs ao cap w4 hl (HRL.out _ HB4.out) (HR.out _ HB4.out)
    clear cJ hb4
    obtain ⟨T, C, HTC, rfl⟩ : ∃ (T : ByteArray) (C : Int), Aside ((okNums L zs ∧ T = joinT L zs ∧ C = 0) ∨ (¬ okNums L zs ∧ T = ⟨#[]⟩ ∧ C = 35)) ∧ e = .returned (.tuple #[.string T, .int .i64 C]) := by
      rcases hor with ⟨h, rfl⟩ | ⟨h, rfl⟩
      · exact ⟨_, _, .inl ⟨h, rfl, rfl⟩, rfl⟩
      · exact ⟨_, _, .inr ⟨h, rfl, rfl⟩, rfl⟩
    clear hor
    go_wp2_with fail
    refine cK.mono ?_
    rintro e w5 ⟨hor, hb5⟩
    have HB35 : Aside (Below w3.heap.size w3 w5) := HB34.out.trans (hb5.mono HB34.out.size)
    have HB5 : Aside (Below w.heap.size w w5) := HB4.out.trans (hb5.mono HB4.out.size)
    obtain rfl : e = .returned (.tuple #[.string T, .int .i64 C]) := by
      rcases hor with ⟨h, rfl⟩ | ⟨h, rfl⟩
      · rcases HTC.out with ⟨_, rfl, rfl⟩ | ⟨h', _⟩
        · rfl
        · exact absurd h h'
      · rcases HTC.out with ⟨h', _⟩ | ⟨_, rfl, rfl⟩
        · exact absurd h' h
        · rfl
    have cS := sure_any (HA.out w5 HB35.out) hRk hnd hLs zs ao cap hl (HR.out _ HB5.out)
    clear cK hb5 hor HTC
    have hTT : (T.toList == T.toList) = true := beq_self_eq_true _
    have hCC : (C == C) = true := beq_self_eq_true _
    go_wp2_with fail
    refine cS.mono ?_
    rintro e w6 ⟨hor, hb6⟩
    have HB6 : Aside (Below w.heap.size w w6) := HB5.out.trans (hb6.mono HB5.out.size)
    have cQ := refSure_any hl40 hnd hLs al cl zs ao cap hl (HRL.out _ HB6.out) (HR.out _ HB6.out) (W := w6)
    clear cS hb6
    rcases hor with ⟨hq, rfl⟩ | ⟨hq, rfl⟩
    · go_wp2_with fail
      refine cQ.mono ?_
      rintro e w7 ⟨hor, hb7⟩
      have HB7 : Aside (Below w.heap.size w w7) := HB6.out.trans (hb7.mono HB6.out.size)
      clear cQ hb7
      rcases hor with ⟨_, rfl⟩ | ⟨hq2, rfl⟩
      · go_wp2
        go_ret
        exact ⟨rfl, HB7.out⟩
      · exact absurd hq hq2
    · go_wp2_with fail
      refine cQ.mono ?_
      rintro e w7 ⟨hor, hb7⟩
      have HB7 : Aside (Below w.heap.size w w7) := HB6.out.trans (hb7.mono HB6.out.size)
      clear cQ hb7
      rcases hor with ⟨hq2, rfl⟩ | ⟨_, rfl⟩
      · exact absurd hq2 hq
      · go_wp2
        go_ret
        exact ⟨rfl, HB7.out⟩
  · have hEb : (E == 0) = false := by rw [beq_eq_false_iff_ne]; exact hE
    have hEb2 : (E != 0) = true := by rw [bne, hEb]; rfl
    clear hE
    go_wp2
    go_ret
    exact ⟨rfl, HB2.out⟩
end Go.Proofs.Ytaijphanpolegaa.Utf
