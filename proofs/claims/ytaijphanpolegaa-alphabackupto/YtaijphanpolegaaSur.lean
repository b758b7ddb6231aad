/-
  Sure, the program's and the document's, walked: whether the letters' text is split into these very letters.
-/
import Derived.Test.YtaijphanpolegaaJon
import Derived.Test.YtaijphanpolegaaRjn
import Derived.Test.YtaijphanpolegaaEqi
import Derived.Test.YtaijphanpolegaaRsp
namespace Go.Proofs.Ytaijphanpolegaa.Utf
open Go Go.Lib Go.RowKit

/-- The letters' text is split into these very letters. -/
def sureP (L : List ByteArray) (zs : List Int) : Prop := okNums L zs ∧ (splitS L (joinT L zs)).2.2 = 0 ∧ ((splitS L (joinT L zs)).1.map fun r : Nat => (r : Int)) = zs
theorem nums_ints (l : List Nat) : nums l = ints (l.map fun r : Nat => (r : Int)) := by simp [nums, ints]
theorem joinT_size {L : List ByteArray} (hL : ∀ x ∈ L, x.size ≤ 12) (zs : List Int) : (joinT L zs).size ≤ 12 * zs.length := by
  have := joinL_le hL zs
  rw [← ba_sz]
  exact this
theorem splitR_len (L : List ByteArray) (s : ByteArray) : ∀ (f pos : Nat) (done : List Nat), done.length ≤ 33 - f → f ≤ 33 → (splitR L s f pos done).1.length ≤ 33
  | 0, pos, done, _, _ => by simp [splitR]
  | f + 1, pos, done, h, h2 => by
    rw [splitR]
    split
    · show done.length ≤ 33; omega
    · split
      · simp
      · split
        · simp
        · exact splitR_len L s f _ _ (by rw [List.length_append, List.length_singleton]; omega) (by omega)

set_option maxHeartbeats 2000000 in
theorem sure_any {W : World} {b : Nat} {L : List ByteArray} {rk : List Nat} (hA : IsAlpha W b L rk) (hRk : Ranked L rk) (hNd : L.Nodup) (hLs : ∀ x ∈ L, 1 ≤ x.size ∧ x.size ≤ 12) (zs : List Int) (ao : Option Addr) (cap : Nat) (hl : zs.length ≤ 1048576) (hR : ReadsO W ao (ints zs)) :
    Calls Try.prog 26 #[.pointer (some ⟨b, 0, none⟩), .slice ao zs.length cap] W fun e w' => ((sureP L zs ∧ e = .returned (.bool true)) ∨ (¬ sureP L zs ∧ e = .returned (.bool false))) ∧ Below W.heap.size W w' := by
  have cJ := join_any hA (fun x hx => (hLs x hx).2) zs ao cap hl hR
  have hjs := joinT_size (fun x hx => (hLs x hx).2) zs (L := L)
  have HA : Aside (∀ w, Below W.heap.size W w → IsAlpha w b L rk) := fun w hb => hA.below hb
  have HR : Aside (∀ w, Below W.heap.size W w → ReadsO w ao (ints zs)) := fun w hb => hR.below hb
  clear hA hR
  go_enter Try.func26, Try.ntmps26
  go_wp2_with fail
  refine cJ.mono ?_
  rintro e w1 ⟨hor, hb1⟩
  clear cJ
  rcases hor with ⟨hok, rfl⟩ | ⟨hok, rfl⟩
  · have cS := split_any (HA.out _ hb1) hRk hNd hLs (joinT L zs) (by omega)
    have HS1 : Aside (sureP L zs ↔ ((splitS L (joinT L zs)).2.2 = 0 ∧ ((splitS L (joinT L zs)).1.map fun r : Nat => (r : Int)) = zs)) := ⟨fun h => h.2, fun h => ⟨hok, h⟩⟩
    have hln := splitR_len L (joinT L zs) 33 0 [] (by simp) (Nat.le_refl _)
    have hln' : (splitS L (joinT L zs)).1.length ≤ 33 := hln
    clear hln hok
    generalize splitS L (joinT L zs) = R at *
    obtain ⟨l, p, E⟩ := R
    dsimp only at cS HS1 hln'
    generalize joinT L zs = T at *
    have HB1 : Aside (Below W.heap.size W w1) := hb1
    have hs1 : W.heap.size ≤ w1.heap.size := hb1.size
    clear hb1
    go_wp2_with fail
    refine cS.mono ?_
    rintro e w2 ⟨v, rfl, hb2, hown⟩
    have HB2 : Aside (Below W.heap.size W w2) := HB1.out.trans (hb2.mono hs1)
    obtain ⟨ar, cr, rfl, q⟩ := row_reads hown
    rw [nums_ints] at q
    have cE := equal_any (l.map fun r : Nat => (r : Int)) zs ar ao cr cap w2 (by rw [List.length_map]; omega) (by omega) q.any (HR.out _ HB2.out)
    rw [List.length_map] at cE
    clear hown q hb2 cS
    by_cases hE : E = 0
    · have hEb : (E == 0) = true := by rw [beq_iff_eq]; exact hE
      have HS2 : Aside (sureP L zs ↔ (l.map fun r : Nat => (r : Int)) = zs) := ⟨fun h => (HS1.out.1 h).2, fun h => HS1.out.2 ⟨hE, h⟩⟩
      clear hE HS1
      go_wp2_with fail
      refine cE.mono ?_
      rintro e w3 ⟨hor, hb3⟩
      have HB3 : Aside (Below W.heap.size W w3) := HB2.out.trans (hb3.mono HB2.out.size)
      clear cE hb3
      rcases hor with ⟨hq, rfl⟩ | ⟨hq, rfl⟩
      · have HS3 : Aside (sureP L zs) := HS2.out.2 hq
        clear hq HS2
        go_wp2
        go_ret
        exact ⟨.inl ⟨HS3.out, rfl⟩, HB3.out⟩
      · have HS3 : Aside (¬ sureP L zs) := fun h => hq (HS2.out.1 h)
        clear hq HS2
        go_wp2
        go_ret
        exact ⟨.inr ⟨HS3.out, rfl⟩, HB3.out⟩
    · have hEb : (E == 0) = false := by rw [beq_eq_false_iff_ne]; exact hE
      have HS3 : Aside (¬ sureP L zs) := fun h => hE (HS1.out.1 h).1
      clear hE HS1 cE
      go_wp2
      go_ret
      exact ⟨.inr ⟨HS3.out, rfl⟩, HB2.out⟩
  · have HS3 : Aside (¬ sureP L zs) := fun h => hok h.1
    clear hok
    go_wp2
    go_ret
    exact ⟨.inr ⟨HS3.out, rfl⟩, hb1⟩

set_option maxHeartbeats 2000000 in
theorem refSure_any {W : World} {L : List ByteArray} (h40 : L.length ≤ 40) (hNd : L.Nodup) (hLs : ∀ x ∈ L, 1 ≤ x.size ∧ x.size ≤ 12) (al : Option Addr) (cl : Nat) (zs : List Int) (ao : Option Addr) (cap : Nat) (hl : zs.length ≤ 1048576) (hRL : ReadsO W al (L.map Value.string)) (hR : ReadsO W ao (ints zs)) :
    Calls Try.prog 27 #[.slice al L.length cl, .slice ao zs.length cap] W fun e w' => ((sureP L zs ∧ e = .returned (.bool true)) ∨ (¬ sureP L zs ∧ e = .returned (.bool false))) ∧ Below W.heap.size W w' := by
  have cJ := refJoin_any L (fun x hx => (hLs x hx).2) h40 al cl zs ao cap W hl hRL hR
  have hjs := joinT_size (fun x hx => (hLs x hx).2) zs (L := L)
  have HRL : Aside (∀ w, Below W.heap.size W w → ReadsO w al (L.map Value.string)) := fun w hb => hRL.below hb
  have HR : Aside (∀ w, Below W.heap.size W w → ReadsO w ao (ints zs)) := fun w hb => hR.below hb
  clear hRL hR
  go_enter Try.func27, Try.ntmps27
  go_wp2_with fail
  refine cJ.mono ?_
  rintro e w1 ⟨hor, hb1⟩
  clear cJ
  rcases hor with ⟨hok, rfl⟩ | ⟨hok, rfl⟩
  · have cS := refSplit_any L al cl w1 h40 hNd hLs (HRL.out _ hb1) (joinT L zs) (by omega)
    have HS1 : Aside (sureP L zs ↔ ((splitS L (joinT L zs)).2.2 = 0 ∧ ((splitS L (joinT L zs)).1.map fun r : Nat => (r : Int)) = zs)) := ⟨fun h => h.2, fun h => ⟨hok, h⟩⟩
    have hln := splitR_len L (joinT L zs) 33 0 [] (by simp) (Nat.le_refl _)
    have hln' : (splitS L (joinT L zs)).1.length ≤ 33 := hln
    clear hln hok
    generalize splitS L (joinT L zs) = R at *
    obtain ⟨l, p, E⟩ := R
    dsimp only at cS HS1 hln'
    generalize joinT L zs = T at *
    have HB1 : Aside (Below W.heap.size W w1) := hb1
    have hs1 : W.heap.size ≤ w1.heap.size := hb1.size
    clear hb1
    go_wp2_with fail
    refine cS.mono ?_
    rintro e w2 ⟨v, rfl, hb2, hown⟩
    have HB2 : Aside (Below W.heap.size W w2) := HB1.out.trans (hb2.mono hs1)
    obtain ⟨ar, cr, rfl, q⟩ := row_reads hown
    rw [nums_ints] at q
    have cE := sameInts_any (l.map fun r : Nat => (r : Int)) zs ar ao cr cap w2 (by rw [List.length_map]; omega) (by omega) q.any (HR.out _ HB2.out)
    rw [List.length_map] at cE
    clear hown q hb2 cS
    by_cases hE : E = 0
    · have hEb : (E == 0) = true := by rw [beq_iff_eq]; exact hE
      have HS2 : Aside (sureP L zs ↔ (l.map fun r : Nat => (r : Int)) = zs) := ⟨fun h => (HS1.out.1 h).2, fun h => HS1.out.2 ⟨hE, h⟩⟩
      clear hE HS1
      go_wp2_with fail
      refine cE.mono ?_
      rintro e w3 ⟨hor, hb3⟩
      have HB3 : Aside (Below W.heap.size W w3) := HB2.out.trans (hb3.mono HB2.out.size)
      clear cE hb3
      rcases hor with ⟨hq, rfl⟩ | ⟨hq, rfl⟩
      · have HS3 : Aside (sureP L zs) := HS2.out.2 hq
        clear hq HS2
        go_wp2
        go_ret
        exact ⟨.inl ⟨HS3.out, rfl⟩, HB3.out⟩
      · have HS3 : Aside (¬ sureP L zs) := fun h => hq (HS2.out.1 h)
        clear hq HS2
        go_wp2
        go_ret
        exact ⟨.inr ⟨HS3.out, rfl⟩, HB3.out⟩
    · have hEb : (E == 0) = false := by rw [beq_eq_false_iff_ne]; exact hE
      have HS3 : Aside (¬ sureP L zs) := fun h => hE (HS1.out.1 h).1
      clear hE HS1 cE
      go_wp2
      go_ret
      exact ⟨.inr ⟨HS3.out, rfl⟩, HB2.out⟩
  · have HS3 : Aside (¬ sureP L zs) := fun h => hok h.1
    clear hok
    go_wp2
    go_ret
    exact ⟨.inr ⟨HS3.out, rfl⟩, hb1⟩
end Go.Proofs.Ytaijphanpolegaa.Utf
