/-
  The law on what was split walked: for every list of up to 1048576 texts of up to 1048576 bytes and every text of up to 1048576 bytes it answers true.
-/
import Derived.Test.YtaijphanpolegaaBkm
import Derived.Test.YtaijphanpolegaaRge
import Derived.Test.YtaijphanpolegaaAwk3
import Derived.Test.YtaijphanpolegaaNam
namespace Go.Proofs.Ytaijphanpolegaa.Utf
open Go Go.Lib Go.RowKit Go.Shelf
attribute [local go_sem] Oper.semAt_some

set_option maxRecDepth 100000 in
set_option maxHeartbeats 4000000 in
theorem alphaBack_walk (L : List ByteArray) (al : Option Addr) (cl : Nat) (s : ByteArray) (w : World) (hlen : L.length ≤ 1048576) (hs : s.size ≤ 1048576) (hRL : ReadsO w al (L.map Value.string)) :
    Calls Try.prog 6 #[.slice al L.length cl, .string s] w fun e w' => e = .returned (.bool true) ∧ Below w.heap.size w w' := by
  refine (callsIn_wide (n := 3)).1 ?_
  have hro : Fence.wide.round = none := rfl
  have cA := awake3_any (w.alloc (.cells #[.bool false] 4))
  have HRL : Aside (∀ W, Below w.heap.size w W → ReadsO W al (L.map Value.string)) := fun W hb => hRL.below hb
  clear hRL
  refine callsIn_of_wp_marks Try.func6 rfl trivial ?_ hro
  simp only [Try.ntmps6, List.size_toArray, List.length_cons, List.length_nil, Nat.reduceAdd, Nat.reduceSub, Array.replicate_succ, Array.replicate_zero, List.push_toArray, List.append_toArray, List.nil_append, List.cons_append]
  gi_wp2_with (refine ⟨trivial, ?_⟩; gi_at_call 9; refine (callsIn_wide.2 cA).mono ?_)
  rintro e w1 ⟨rfl, hb1⟩
  have bR : Boxed w1 w.heap.size 4 (.bool false) := (hb1.block _ (by simp)).trans (Boxed.new w 4 (.bool false))
  have HB1 : Aside (Below w.heap.size w w1) := ((Below.refl w.heap.size w).alloc (Nat.le_refl _) _).trans (hb1.mono (by simp))
  have hw1 : w.heap.size + 1 ≤ w1.heap.size := by have := hb1.size; simpa using this
  have cN := new_any L al cl w1 (by omega) (HRL.out _ HB1.out)
  clear cA hb1
  have hG := @new_good L
  generalize (newR L).1 = N1 at *
  generalize (newR L).2 = E at *
  gi_wp2_with fail
  refine ⟨trivial, (callsIn_wide.2 cN).mono ?_⟩
  rintro e w3 ⟨⟨v, rfl, hv1, hv2⟩, hb3⟩
  have HB3 : Aside (Below w.heap.size w w3) := HB1.out.trans (hb3.mono HB1.out.size)
  have bR3 : Boxed w3 w.heap.size 4 (.bool false) := (hb3.block _ (by omega)).trans bR
  have hw3 : w.heap.size + 1 ≤ w3.heap.size := by have := hb3.size; omega
  clear cN hb3 bR
  by_cases hE : E = 0
  · subst hE
    obtain ⟨b, rk, rfl, hA, hRk⟩ := hv2 (by first | rfl | trivial)
    obtain ⟨_, hl40, hnm, hnd⟩ := hG (by first | rfl | trivial)
    have hLs : ∀ x ∈ L, 1 ≤ x.size ∧ x.size ≤ 12 := fun x hx => name_len (hnm x hx)
    have HA : Aside (∀ W, Below w3.heap.size w3 W → IsAlpha W b L rk) := fun W h => (hA.below h).is
    clear hv1 hv2 hG hA
    have cS := split_any (HA.out w3 (Below.refl _ _)) hRk hnd hLs s (by omega)
    have hback := @split_back L s
    have hsure := @split_sure L s
    have hcode := @split_codes L s 33 0 []
    have HF : Aside (∀ ws, WaysTo L rk s 0 ws → (splitS L s).2.2 = 0 → ∃ post, waysN L rk s ws = (splitS L s).1 :: post) := fun ws hw h => split_first hRk hnd (fun r hr => (nm_pos (HA.out w3 (Below.refl _ _)) hLs r hr).1) hw h
    have HGW : Aside (∀ ws, WaysTo L rk s 0 ws → (splitS L s).2.2 = 0 → ∃ n, ws[0]? = some (n + 1)) := fun ws hw h => greedy_ways hRk hw 33 0 [] (Nat.zero_le _) h
    change (splitS L s).2.2 ≠ 0 → (splitS L s).1 = [] ∧ ((splitS L s).2.2 = 34 ∨ (splitS L s).2.2 = 33) at hcode
    generalize (splitS L s).2.2 = E at *
    generalize (splitS L s).2.1 = N2 at *
    generalize (splitS L s).1 = l at *
    gi_wp2_with fail
    refine ⟨trivial, (callsIn_wide.2 cS).mono ?_⟩
    rintro e w4 ⟨vl, rfl, hb4, hown⟩
    obtain ⟨ao, cap, rfl, hrd⟩ := row_reads hown
    have HB4 : Aside (Below w.heap.size w w4) := HB3.out.trans (hb4.mono HB3.out.size)
    have bR4 : Boxed w4 w.heap.size 4 (.bool false) := (hb4.block _ (by omega)).trans bR3
    have hw4 := hb4.size
    have HA4 : Aside (∀ W, Below w4.heap.size w4 W → IsAlpha W b L rk) := fun W h => HA.out W (hb4.trans (h.mono hw4))
    clear cS hb4 bR3 HA
    by_cases hE : E = 0
    · subst hE
      obtain ⟨hj1, hj2, hj3⟩ := hback rfl
      have hsr := hsure rfl
      clear hback hsure hcode
      have hml : (l.map fun r : Nat => (r : Int)).length = l.length := List.length_map _
      rw [nums_ints] at hrd
      have bL := Boxed.new w4 37 (.slice ao l.length cap)
      have bR5 := bR4.alloc (.cells #[.slice ao l.length cap] 37)
      have hb5 : Below w4.heap.size w4 (w4.alloc (.cells #[.slice ao l.length cap] 37)) := (Below.refl _ _).alloc (Nat.le_refl _) _
      have cJ := join_any (HA4.out _ hb5) (fun x hx => (hLs x hx).2) (l.map fun r : Nat => (r : Int)) ao cap (by rw [hml]; omega) (hrd.any.below hb5)
      rw [hj1, hml] at cJ
      have HB5 : Aside (Below w.heap.size w (w4.alloc (.cells #[.slice ao l.length cap] 37))) := HB4.out.alloc (by omega) _
      gi_wp2_with fail
      obtain ⟨w5, hw5⟩ : ∃ w5, w4.alloc (.cells #[.slice ao l.length cap] 37) = w5 := ⟨_, rfl⟩
      have hw5s : w5.heap.size = w4.heap.size + 1 := by rw [← hw5]; simp
      rw [hw5] at bL bR5 hb5 cJ HB5 ⊢
      have HR5 : Aside (∀ W, Below w5.heap.size w5 W → ReadsO W ao (ints (l.map fun r : Nat => (r : Int)))) := fun W h => (hrd.any.below hb5).below h
      have HA5 : Aside (∀ W, Below w5.heap.size w5 W → IsAlpha W b L rk) := fun W h => HA4.out W (hb5.trans (h.mono (by omega)))
      have HOK : Aside (okNums L (l.map fun r : Nat => (r : Int)) ∧ sureP L (l.map fun r : Nat => (r : Int))) := ⟨hj2, hsr⟩
      clear hw5 HA4 hrd hb5 HB4 bR4 hown hj2 hsr hj1
      refine ⟨trivial, (callsIn_wide.2 cJ).mono ?_⟩
      rintro e w6 ⟨hor, hb6⟩
      obtain rfl : e = .returned (.tuple #[.string s, .int .i64 0]) := by
        rcases hor with ⟨_, h⟩ | ⟨h, _⟩
        · exact h
        · exact absurd HOK.out.1 h
      have HB6 : Aside (Below w5.heap.size w5 w6) := hb6
      have cU := sure_any (HA5.out _ hb6) hRk hnd hLs (l.map fun r : Nat => (r : Int)) ao cap (by rw [hml]; omega) (HR5.out _ hb6)
      rw [hml] at cU
      have bL6 : Boxed w6 w4.heap.size 37 (.slice ao l.length cap) := (hb6.block _ bL.lt).trans bL
      have cl6 := bL6.cell
      clear hor cJ hb6
      gi_wp2_with fail
      refine ⟨trivial, (callsIn_wide.2 cU).mono ?_⟩
      rintro e w7 ⟨hor, hb7⟩
      obtain rfl : e = .returned (.bool true) := by
        rcases hor with ⟨_, h⟩ | ⟨h, _⟩
        · exact h
        · exact absurd HOK.out.2 h
      have HB7 : Aside (Below w5.heap.size w5 w7) := HB6.out.trans (hb7.mono HB6.out.size)
      have cW := ways_any (HA5.out _ HB7.out) hLs s (by omega)
      clear hor cU hb7 HB6
      gi_wp2_with fail
      refine ⟨trivial, (callsIn_wide.2 cW).mono ?_⟩
      rintro e w8 ⟨⟨n, ws8, rfl, h08, hW8⟩, hb8⟩
      obtain ⟨n', hn'⟩ := HGW.out ws8 hW8 trivial
      obtain rfl : n = n' + 1 := by rw [h08] at hn'; exact Option.some.inj hn'
      have hnz : ¬ ((n' + 1 : Nat) : Int) < 1 := by omega
      have HB8 : Aside (Below w5.heap.size w5 w8) := HB7.out.trans (hb8.mono HB7.out.size)
      have bL8 : Boxed w8 w4.heap.size 37 (.slice ao l.length cap) := (HB8.out.block _ bL.lt).trans bL
      have bR8 : Boxed w8 w.heap.size 4 (.bool false) := (HB8.out.block _ bR5.lt).trans bR5
      have cl8 := bL8.cell
      clear cW hb8 HB7 h08 hW8 hn' HGW cl6
      gi_wp2_with (refine ⟨trivial, ?_⟩; gi_at_call 23; refine (each_in Fence.wide _ trivial hro _ _ _).mono ?_; rintro e w' ⟨rfl, rfl⟩)
      have bA9 := (Boxed.new w8 25 (.pointer (some ⟨b, 0, none⟩))).alloc (.cells #[.string s] 9)
      have bS9 := Boxed.new (w8.alloc (.cells #[.pointer (some ⟨b, 0, none⟩)] 25)) 9 (.string s)
      have bL9 := (bL8.alloc (.cells #[.pointer (some ⟨b, 0, none⟩)] 25)).alloc (.cells #[.string s] 9)
      have bR9 := (bR8.alloc (.cells #[.pointer (some ⟨b, 0, none⟩)] 25)).alloc (.cells #[.string s] 9)
      have hB9 : Below w5.heap.size w5 ((w8.alloc (.cells #[.pointer (some ⟨b, 0, none⟩)] 25)).alloc (.cells #[.string s] 9)) := (HB8.out.alloc HB8.out.size _).alloc (by have := HB8.out.size; simp; omega) _
      rw [World.size_alloc] at bS9
      obtain ⟨W9, hW9⟩ : ∃ W9, (w8.alloc (.cells #[.pointer (some ⟨b, 0, none⟩)] 25)).alloc (.cells #[.string s] 9) = W9 := ⟨_, rfl⟩
      have hW9s : w8.heap.size + 2 ≤ W9.heap.size := by rw [← hW9]; simp
      rw [hW9] at bA9 bS9 bL9 bR9 hB9 ⊢
      clear hW9 bL8 bR8 cl8 HB8 bL bR5
      have hws : w.heap.size + 1 ≤ W9.heap.size := by have := hB9.size; omega
      have HBW : Aside (Below w.heap.size w W9) := HB5.out.trans (hB9.mono HB5.out.size)
      refine wpIn_rangeEach (by omega) w8.heap.size (w8.heap.size + 1) b rfl hl40 hLs s (by omega) rfl
        (fun O pre W => pre = [] ∧ Below W9.heap.size W9 W ∧ ∀ k, O k → W9.heap.size ≤ k)
        (fun c _ W => c = .ret ∧ Boxed W w.heap.size 4 (.bool true) ∧ Below w.heap.size w W)
        (rk := rk) ?hIE ?hI ?hIx ⟨rfl, Below.refl _ _, fun _ h => h.elim⟩ ?round ?done ?stop
      case hIE =>
        rintro O pre W ⟨_, hb, _⟩
        exact ⟨HA5.out W (hB9.trans (hb.mono hB9.size)), (hb.block _ bS9.lt).trans bS9, (hb.block _ bA9.lt).trans bA9⟩
      case hI =>
        rintro O O' pre W1 W2 ⟨h1, hb, hO⟩ he ho
        refine ⟨h1, hb.trans (he.below (fun k hk _ => ?_) hb.size), fun k hk => ?_⟩
        · rintro (h | h | h)
          · have := hO k h; omega
          · omega
          · omega
        · rcases ho k hk with h | h
          · exact hO k h
          · have := hb.size; omega
      case hIx =>
        rintro c pre W1 W2 ⟨h1, h2, h3⟩ he
        exact ⟨h1, he.boxed h2 (by rintro (h | h) <;> omega), h3.trans (he.below (fun k hk _ => by rintro (h | h) <;> omega) h3.size)⟩
      case round =>
        rintro l' O pre x post X ws W0 W ⟨rfl, hb, hO⟩ hW hpre hrow hX hn hWs
        obtain ⟨post', hp'⟩ := HF.out ws hW trivial
        obtain rfl : x = l := by
          rw [hp', List.nil_append] at hpre
          exact (List.cons.inj hpre).1.symm
        obtain ⟨ax, cx, hvx, hrx⟩ := row_reads hrow
        rw [nums_ints] at hrx
        have hrl := HR5.out W (hB9.trans (hb.mono hB9.size))
        have cM := sameInts_any (x.map fun r : Nat => (r : Int)) (x.map fun r : Nat => (r : Int)) ax ao cx cap W (by rw [hml]; omega) (by rw [hml]; omega) hrx.any hrl
        rw [hml] at cM
        have bL10 : Boxed W w4.heap.size 37 (.slice ao x.length cap) := (hb.block _ bL9.lt).trans bL9
        have bR10 : Boxed W w.heap.size 4 (.bool false) := (hb.block _ bR9.lt).trans bR9
        have cl10 := bL10.cell
        have HBB : Aside (Below w.heap.size w W) := HBW.out.trans (hb.mono HBW.out.size)
        rw [hvx]
        clear hvx hrx hrl hpre hp' hW hrow hb
        gi_wp2
        refine ⟨trivial, (CallsIn.inRound l' (callsIn_wide.2 cM)).mono ?_⟩
        rintro e w10 ⟨hor, hb10⟩
        obtain rfl : e = .returned (.bool true) := by
          rcases hor with ⟨_, h⟩ | ⟨h, _⟩
          · exact h
          · exact absurd trivial h
        have bR11 : Boxed w10 w.heap.size 4 (.bool false) := (hb10.block _ bR10.lt).trans bR10
        have cr := bR11.cell
        have fr := bR11.frozen
        have hg11 := grownBy_setCell' w10 w.heap.size (.bool true)
        have h10s := hb10.size
        have HB10 : Aside (Below w.heap.size w w10) := HBB.out.trans (hb10.mono HBB.out.size)
        have HK10 : Aside (∀ k, k = W9.heap.size ∨ k = W9.heap.size + 1 → (w10.setCell ⟨w.heap.size, 0, none⟩ (.bool true)).heap[k]? = W.heap[k]?) := fun k hk => by
          rw [hg11.block k (by omega) (fun h => by injection h; omega)]
          exact hb10.block k (by omega)
        have hs11 := hg11.size
        clear hor cM hb10 hg11
        gi_wp2
        exact ⟨by omega, HK10.out, rfl, bR11.set _, HB10.out.setCell (p := ⟨w.heap.size, 0, none⟩) (Nat.le_refl _) _⟩
      case done =>
        rintro O ws W hW ⟨h1, _, _⟩
        obtain ⟨post, hp⟩ := HF.out ws hW trivial
        rw [h1] at hp
        cases hp
      case stop =>
        rintro c pre ws W _ _ ⟨rfl, br, hB⟩ hK hWs
        have hRz : (W.putObj W9.heap.size (.deferred none)).cell? ⟨w.heap.size, 0, none⟩ = some (.bool true) := by
          have : Boxed (W.putObj W9.heap.size (.deferred none)) w.heap.size 4 (.bool true) := (World.putObj_heap_other (by omega)).trans br
          exact this.cell
        gi_wp2
        refine ⟨by simp, .inl ⟨_, _, rfl, run_takeDeferred hK, ?_⟩⟩
        exact ⟨_, results_box4 rfl _ _ w.heap.size _ (by rfl) hRz, rfl, hB.trans (belowK_b (w := w) (Nat.le_refl _) _ W9.heap.size _ _ (by omega) hK rfl rfl)⟩
    · obtain ⟨hl0, hE2⟩ := hcode hE
      subst hl0
      have hEb : (E == 0) = false := by rw [beq_eq_false_iff_ne]; exact hE
      have hEn : (E != 0) = true := by rw [bne, hEb]; rfl
      have bR5 := bR4.alloc (.cells #[.slice ao 0 cap] 37)
      have cr := bR5.cell
      have fr := bR5.frozen
      have hB5 : Below w.heap.size w (w4.alloc (.cells #[.slice ao 0 cap] 37)) := HB4.out.alloc (by omega) _
      clear hback hsure HF HGW hcode
      rcases hE2 with rfl | rfl
      · gi_wp2
        exact ⟨_, results_box4 rfl _ _ w.heap.size (.bool true) (by rfl) (bR5.set _).cell, rfl, hB5.setCell (p := ⟨w.heap.size, 0, none⟩) (Nat.le_refl _) _⟩
      · gi_wp2
        exact ⟨_, results_box4 rfl _ _ w.heap.size (.bool true) (by rfl) (bR5.set _).cell, rfl, hB5.setCell (p := ⟨w.heap.size, 0, none⟩) (Nat.le_refl _) _⟩
  · obtain rfl := hv1 hE
    have hEb : (E == 0) = false := by rw [beq_eq_false_iff_ne]; exact hE
    have hEn : (E != 0) = true := by rw [bne, hEb]; rfl
    have cr := bR3.cell
    have fr := bR3.frozen
    clear hv1 hv2 hG
    gi_wp2
    exact ⟨_, results_box4 rfl _ _ w.heap.size (.bool true) (by rfl) (bR3.set _).cell, rfl, HB3.out.setCell (p := ⟨w.heap.size, 0, none⟩) (Nat.le_refl _) _⟩
end Go.Proofs.Ytaijphanpolegaa.Utf
