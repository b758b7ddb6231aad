/-
  LexiconReads walked: Read of every text is the document's, and what the lexicon tells.
-/
import Derived.Test.YtikfaalbdnlelaaGreatDoorGxx
import Derived.Test.YtikfaalbdnlelaaGreatDoorGxw
namespace Go.Proofs.YtikfaalbdnlelaaGreatDoor.Utf
open Go Go.Lib Go.RowKit

theorem text_nil (i : Int) (W : World) : Calls Tryz.prog 18 #[.pointer none, .int .i64 i] W fun e w' => e = .returned (.string ⟨#[]⟩) ∧ w' = W := by
  have cL := len_nil W
  by_cases h0 : i < 0
  · go_enter Tryz.func18, Tryz.ntmps18
    go_wp2
    go_ret
    exact ⟨rfl, rfl⟩
  · have h1 : (0 : Int) ≤ i := by omega
    go_enter Tryz.func18, Tryz.ntmps18
    go_wp2_with fail
    refine cL.mono ?_
    rintro e w1 ⟨rfl, hw⟩
    obtain rfl := hw.symm
    go_wp2
    go_ret
    exact ⟨rfl, rfl⟩
theorem word_nil (i : Int) (W : World) : Calls Tryz.prog 19 #[.pointer none, .int .i64 i] W fun e w' => e = .returned (.agg #[.slice none 0 0, .int .i64 0]) ∧ Below W.heap.size W w' := by
  have hB1 := below_box' W (.cells #[.slice none 0 0, .int .i64 0] 33)
  have hbx : Bx2 (W.alloc (.cells #[.slice none 0 0, .int .i64 0] 33)) W.heap.size 33 (.slice none 0 0) (.int .i64 0) := ⟨heap_box W _⟩
  have cL := len_nil (W.alloc (.cells #[.slice none 0 0, .int .i64 0] 33))
  have k0 := hbx.c0
  have k1 := hbx.c1
  by_cases h0 : i < 0
  · go_enter Tryz.func19, Tryz.ntmps19
    go_wp2
    refine bodyPost_ret (results_w rfl _ _ W.heap.size _ _ rfl k0 k1) rfl ⟨rfl, hB1⟩
  · have h1 : (0 : Int) ≤ i := by omega
    go_enter Tryz.func19, Tryz.ntmps19
    go_wp2_with fail
    refine cL.mono ?_
    rintro e w1 ⟨rfl, hw⟩
    obtain rfl := hw.symm
    go_wp2
    refine bodyPost_ret (results_w rfl _ _ W.heap.size _ _ rfl k0 k1) rfl ⟨rfl, hB1⟩
theorem print_nil (W : World) : Calls Tryz.prog 16 #[.pointer none] W fun e w' => e = .returned (.string ⟨#[]⟩) ∧ Below W.heap.size W w' := by
  have hB0 : Below W.heap.size W (W.alloc (.cells #[.pointer none, .slice none 0 0] 86)) := (Below.refl _ _).alloc (Nat.le_refl _) _
  have hI0 : Lib.IsBuilderF 86 5 W.heap.size W.heap.size (Lib.byteCells []) (W.alloc (.cells #[.pointer none, .slice none 0 0] 86)) := Skt.builder_new 86 5 W
  have cL := len_nil (W.alloc (.cells #[.pointer none, .slice none 0 0] 86))
  have cT := string_any W.heap.size W.heap.size [] (W.alloc (.cells #[.pointer none, .slice none 0 0] 86)) hI0 hB0.size
  go_enter Tryz.func16, Tryz.ntmps16
  go_wp2_with fail
  refine cL.mono ?_
  rintro e w1 ⟨rfl, hw⟩
  obtain rfl := hw.symm
  go_wp2
  go_loopg [7] 0 (fun g1 vi wr => vi = .int .i64 0 ∧ Aside (wr = W.alloc (.cells #[.pointer none, .slice none 0 0] 86)))
  case atStart => exact ⟨rfl, rfl⟩
  case round =>
    obtain ⟨rfl, HW⟩ := hrel
    have hw := HW.out
    clear HW
    subst hw
    go_wp2_with fail
    refine cT.mono ?_
    rintro e w2 ⟨rfl, hb2, _⟩
    have HB2 : Below W.heap.size W w2 := hB0.trans hb2
    go_wp2
    go_ret
    exact ⟨rfl, HB2⟩
set_option maxRecDepth 100000 in
set_option maxHeartbeats 2000000 in
theorem toldNil_any {W : World} {L : List ByteArray} (h40 : L.length ≤ 40) (hLs : ∀ x ∈ L, x.size ≤ 12) (al : Option Addr) (cl : Nat) (hRL : ReadsO W al (L.map Value.string)) :
    Calls Tryz.prog 12 #[.pointer none, .slice al L.length cl, .slice none 0 0] W fun e w' => e = .returned (.bool true) ∧ Below W.heap.size W w' := by
  have HRL : Aside (∀ Z, Below W.heap.size W Z → ReadsO Z al (L.map Value.string)) := fun Z hb => hRL.below hb
  have cL := len_nil W
  have cT1 := text_nil (-1) W
  have cT2 := text_nil 0 W
  have cW1 := word_nil 0 W
  have hem : ((⟨#[]⟩ : ByteArray).toList != (⟨#[]⟩ : ByteArray).toList) = false := by simp
  have hem2 : (((⟨#[]⟩ : ByteArray).toList.isEmpty)) = true := by rw [ByteArray.toList_eq]; rfl
  have hfs : ∀ W, (Instr.field 33 (.agg #[.slice none 0 0, .int .i64 0]) 1).run Tryz.prog W = .ok (.int .i64 0) W := fun W => by kernel_rfl
  have hfc : ∀ W, (Instr.field 33 (.agg #[.slice none 0 0, .int .i64 0]) 0).run Tryz.prog W = .ok (.slice none 0 0) W := fun W => by kernel_rfl
  clear hRL
  go_enter Tryz.func12, Tryz.ntmps12
  go_wp2_with fail
  refine cL.mono ?_
  rintro e w1 ⟨rfl, hw⟩
  obtain rfl := hw.symm
  go_wp2_with fail
  refine cT1.mono ?_
  rintro e w1 ⟨rfl, hw⟩
  obtain rfl := hw.symm
  go_wp2_with fail
  refine cT2.mono ?_
  rintro e w1 ⟨rfl, hw⟩
  obtain rfl := hw.symm
  go_wp2_with fail
  refine cW1.mono ?_
  rintro e w1 ⟨rfl, hb1⟩
  have cW2 := word_nil (-1) w1
  clear cL cT1 cT2 cW1 hw
  go_wp2_with fail
  refine cW2.mono ?_
  rintro e w2 ⟨rfl, hb2⟩
  have hB2 : Below W.heap.size W w2 := hb1.trans (hb2.mono hb1.size)
  have cP := print_nil w2
  clear cW2
  go_wp2_with fail
  refine cP.mono ?_
  rintro e w3 ⟨rfl, hb3⟩
  have hB3 : Below W.heap.size W w3 := hB2.trans (hb3.mono hB2.size)
  have cP2 : Calls Tryz.prog 34 #[.slice al L.length cl, .slice none 0 0] w3 fun e w' => e = .returned (.string ⟨#[]⟩) ∧ Below w3.heap.size w3 w' := refPrint_any L hLs h40 al cl (HRL.out w3 hB3) (IsWd.nil w3.heap.size w3) (Nat.zero_le _) (fun x hx => by cases hx)
  clear cP
  go_wp2_with fail
  refine cP2.mono ?_
  rintro e w4 ⟨rfl, hb4⟩
  have HB4 : Aside (Below W.heap.size W w4) := hB3.trans (hb4.mono hB3.size)
  clear cP2 hb1 hb2 hb3 hb4 hB2 hB3
  go_wp2
  go_loopg [54] 0 (fun g1 vi wr => vi = .int .i64 0 ∧ Aside (Below W.heap.size W wr))
  case atStart => exact ⟨rfl, HB4⟩
  case round =>
    obtain ⟨rfl, HB⟩ := hrel
    go_wp2
    go_ret
    exact ⟨rfl, HB.out⟩
theorem lread_big {W : World} (a : Option Addr) (s : ByteArray) (hs : 65536 < s.size) (hs2 : s.size ≤ 4611686018427387904) :
    Calls Tryz.prog 13 #[.pointer a, .string s] W fun e w' => e = .returned (.tuple #[.pointer none, .slice none 0 0, .int .i64 1]) ∧ w' = W := by
  have hz : (65536 : Int) < (s.size : Int) := by omega
  go_enter Tryz.func13, Tryz.ntmps13
  go_wp2
  go_ret3
  exact ⟨rfl, rfl⟩
theorem refRead_big {W : World} (a : Option Addr) (n c : Nat) (s : ByteArray) (hs : 65536 < s.size) (hs2 : s.size ≤ 4611686018427387904) :
    Calls Tryz.prog 14 #[.slice a n c, .string s] W fun e w' => e = .returned (.tuple #[.slice none 0 0, .slice none 0 0, .int .i64 1]) ∧ w' = W := by
  have hz : (65536 : Int) < (s.size : Int) := by omega
  go_enter Tryz.func14, Tryz.ntmps14
  go_wp2
  go_ret3
  exact ⟨rfl, rfl⟩
theorem rdL_bad (L : List ByteArray) : ∀ (xs : List ByteArray) (i : Nat) (l : List (List Int × Int)) (bad : List (Int × Int)), (rdL L xs i l bad).2.length ≤ bad.length + xs.length
  | [], _, _, _ => Nat.le_refl _
  | x :: xs, i, l, bad => by
    rw [rdL]
    by_cases hN : sayN (pairs x) = true
    · rw [if_pos hN]; have := rdL_bad L xs (i + 1) l bad; rw [List.length_cons]; omega
    · rw [if_neg hN]
      by_cases h0 : (readL L x l).1 = 0
      · rw [if_pos h0]; have := rdL_bad L xs (i + 1) (readL L x l).2 bad; rw [List.length_cons]; omega
      · rw [if_neg h0]; have := rdL_bad L xs (i + 1) (readL L x l).2 (bad ++ [((i : Int), (readL L x l).1)]); rw [List.length_append, List.length_singleton] at this; rw [List.length_cons]; omega
theorem readT_bad (L : List ByteArray) (s : ByteArray) : (readT L s).2.length ≤ s.size := by
  have h := rdL_bad L (txts (lines s.data.toList)) 0 [] []
  rw [txts_length, List.length_nil, Nat.zero_add] at h
  have h2 := lines_len s.data.toList
  have h3 : s.data.toList.length = s.size := (Lib.size_eq s).symm
  unfold readT
  omega
theorem badC_at : ∀ {bad : List (Int × Int)} {k : Nat} (_ : k < bad.length), (badC bad)[k * 2]? = some (.int .i64 bad[k].1) ∧ (badC bad)[k * 2 + 1]? = some (.int .i64 bad[k].2)
  | x :: bad, 0, _ => ⟨rfl, rfl⟩
  | x :: bad, k + 1, h => by
    have := badC_at (bad := bad) (k := k) (by simpa using h)
    have e : badC (x :: bad) = .int .i64 x.1 :: .int .i64 x.2 :: badC bad := rfl
    rw [e, show (k + 1) * 2 = k * 2 + 1 + 1 by omega, show k * 2 + 1 + 1 + 1 = (k * 2 + 1) + 1 + 1 by omega, List.getElem?_cons_succ, List.getElem?_cons_succ, List.getElem?_cons_succ, List.getElem?_cons_succ]
    exact this
theorem bad_cells {W : World} {B : Nat} {v : Value} {bad : List (Int × Int)} (h : W.ownsRow B 48 2 v bad.length (badC bad)) : ∃ ao cap, v = .slice ao bad.length cap ∧ ∀ Z, Below W.heap.size W Z → ∀ k (hk : k < bad.length), ∃ g, ao = some ⟨g, 0, none⟩ ∧ Z.cell? ⟨g, k * 2, none⟩ = some (.int .i64 bad[k].1) ∧ Z.cell? ⟨g, k * 2 + 1, none⟩ = some (.int .i64 bad[k].2) := by
  obtain ⟨ao, cap, rfl⟩ := row_slice h
  refine ⟨ao, cap, rfl, fun Z hb k hk => ?_⟩
  rcases h.2 with ⟨e, h0⟩ | ⟨g, cap', cur, e1, e2, e3, _⟩
  · omega
  · injection e1 with e1
    subst e1
    have hgl := (h.lt g rfl).2
    obtain ⟨q1, q2⟩ := badC_at hk
    refine ⟨g, rfl, (hb.cell (p := ⟨g, k * 2, none⟩) hgl).trans ?_, (hb.cell (p := ⟨g, k * 2 + 1, none⟩) hgl).trans ?_⟩
    · have k1 := h.cells (g := g) rfl (k * 2) _ q1
      rwa [Addr.add_lit, Nat.zero_add] at k1
    · have k1 := h.cells (g := g) rfl (k * 2 + 1) _ q2
      rwa [Addr.add_lit, Nat.zero_add] at k1

set_option maxRecDepth 100000 in
set_option maxHeartbeats 4000000 in
theorem lexReads_walk (L : List ByteArray) (al : Option Addr) (cl : Nat) (s : ByteArray) (w : World) (hlen : L.length ≤ 1048576) (hsm : ∀ x ∈ L, x.size ≤ 1048576) (hcap : L.length ≤ cl) (hs : s.size ≤ 1048576) (hRL : ReadsO w al (L.map Value.string)) (hPw : Pw w) :
    Calls Tryz.prog 4 #[.slice al L.length cl, .string s] w fun e w' => e = .returned (.bool true) ∧ Below w.heap.size w w' := by
  have cA := awake9_any w
  have HRL : Aside (∀ W, Below w.heap.size w W → ReadsO W al (L.map Value.string)) := fun W hb => hRL.below hb
  have HPW : Aside (∀ W, Below w.heap.size w W → Pw W) := fun W hb => hPw.below hb
  have HSM : Aside (∀ x ∈ L, x.size ≤ 16777216) := fun x hx => by have := hsm x hx; omega
  clear hRL hPw hsm
  go_enter Tryz.func4, Tryz.ntmps4
  go_wp2_with fail
  refine cA.mono ?_
  rintro e w1 ⟨rfl, hb1⟩
  have HB1 : Aside (Below w.heap.size w w1) := hb1
  have cF := refNew_any L al cl w1 hcap (by omega) HSM.out (HRL.out _ hb1)
  have HN : Aside (∀ W, Below w.heap.size w W → _) := fun W hb => new_any L al cl W (by omega) (HRL.out _ hb)
  have hG := @new_good L
  generalize (newR L).1 = N1 at *
  generalize (newR L).2 = E at *
  clear cA hb1
  go_wp2_with fail
  refine cF.mono ?_
  rintro e w2 ⟨rfl, hb2⟩
  have HB2 : Aside (Below w.heap.size w w2) := HB1.out.trans (hb2.mono HB1.out.size)
  clear cF hb2
  by_cases hE : E = 0
  · subst hE
    have cN := HN.out w2 HB2.out
    clear HN
    obtain ⟨_, hl40, hnm, hnd⟩ := hG (by first | rfl | trivial)
    have hLs : ∀ x ∈ L, 1 ≤ x.size ∧ x.size ≤ 12 := fun x hx => name_len (hnm x hx)
    go_wp2_with fail
    refine cN.mono ?_
    rintro e w3 ⟨⟨v, rfl, hv1, hv2⟩, hb3⟩
    have HB3 : Aside (Below w.heap.size w w3) := HB2.out.trans (hb3.mono HB2.out.size)
    obtain ⟨b, rk, rfl, hA, hRk⟩ := hv2 (by first | rfl | trivial)
    clear cN hv1 hv2 hG hnm hb3
    by_cases hbig : 65536 < s.size
    · have cR := lread_big (W := w3) (some ⟨b, 0, none⟩) s hbig (by omega)
      have cR2 := refRead_big (W := w3) al L.length cl s hbig (by omega)
      have cTo := toldNil_any hl40 (fun x hx => (hLs x hx).2) al cl (HRL.out w3 HB3.out)
      clear hA
      go_wp2_with fail
      refine cR.mono ?_
      rintro e w4 ⟨rfl, hw⟩
      obtain rfl := hw.symm
      clear cR hw
      go_wp2_with fail
      refine cR2.mono ?_
      rintro e w4 ⟨rfl, hw⟩
      obtain rfl := hw.symm
      clear cR2 hw
      go_wp2
      go_loopg [65] 0 (fun g1 vi wr => vi = .int .i64 0 ∧ Aside (wr = w3))
      case atStart => exact ⟨rfl, rfl⟩
      case round =>
        obtain ⟨rfl, HW⟩ := hrel
        obtain rfl := HW.out.symm
        go_wp2_with fail
        refine cTo.mono ?_
        rintro e w5 ⟨rfl, hb5⟩
        have HF : Aside (Below w.heap.size w w5) := HB3.out.trans (hb5.mono HB3.out.size)
        go_wp2
        go_ret
        exact ⟨rfl, HF.out⟩
    · have cR := lread_any hA.is hRk hnd hLs s (by omega)
      obtain ⟨hok, hsrt, hmax⟩ := readT_ok L s
      have hbl := readT_bad L s
      have hs65 : s.size ≤ 65536 := by omega
      have HR2 : Aside (∀ W, Below w.heap.size w W → Calls Tryz.prog 14 #[.slice al L.length cl, .string s] W (ReadQ W L s)) := fun W hb => refRead_any L al cl hl40 hnd hLs (HRL.out W hb) s (by omega)
      unfold ReadQ at HR2
      generalize (readT L s).1 = l at *
      generalize (readT L s).2 = bad at *
      clear hA hRk hbig
      go_wp2_with fail
      refine cR.mono ?_
      rintro e w4 ⟨⟨xb, v1, rfl, hX, hrow1⟩, hb4⟩
      have HB4 : Aside (Below w.heap.size w w4) := HB3.out.trans (hb4.mono HB3.out.size)
      have HX : Aside (IsLex w4 w3.heap.size xb L l) := hX
      have cR2 := HR2.out w4 HB4.out
      clear cR hX hb4 HR2
      go_wp2_with fail
      refine cR2.mono ?_
      rintro e w5 ⟨⟨v2, es, v3, rfl, hI, hle, hrow2⟩, hb5⟩
      have HB5 : Aside (Below w.heap.size w w5) := HB4.out.trans (hb5.mono HB4.out.size)
      obtain ⟨a1, c1, rfl, hc1⟩ := bad_cells (row_turn hrow1 (below_but hb5 none) (fun _ _ _ => by simp))
      obtain ⟨a2, c2, rfl, hc2⟩ := bad_cells hrow2
      have hX5 : IsLex w5 w3.heap.size xb L (toL es) := by rw [hle]; exact HX.out.below hb5
      have hes : es.length ≤ 1000 := by rw [← toL_len es, hle]; exact hmax
      have HTO : Aside (∀ Z, Below w5.heap.size w5 Z → Calls Tryz.prog 12 #[.pointer (some ⟨xb, 0, none⟩), .slice al L.length cl, v2] Z fun e w' => e = .returned (.bool true) ∧ Below Z.heap.size Z w') := fun Z hb => told_any (hX5.below hb) (hI.below hb) (by rw [hle]; exact hok) (by rw [hle]; exact hsrt) hes hl40 (fun x hx => (hLs x hx).2) al cl (HRL.out Z (HB5.out.trans (hb.mono HB5.out.size))) (HPW.out Z (HB5.out.trans (hb.mono HB5.out.size)))
      have HC1 : Aside (∀ Z, Below w5.heap.size w5 Z → ∀ k (hk : k < bad.length), ∃ g, a1 = some ⟨g, 0, none⟩ ∧ Z.cell? ⟨g, k * 2, none⟩ = some (.int .i64 bad[k].1) ∧ Z.cell? ⟨g, k * 2 + 1, none⟩ = some (.int .i64 bad[k].2)) := hc1
      have HC2 : Aside (∀ Z, Below w5.heap.size w5 Z → ∀ k (hk : k < bad.length), ∃ g, a2 = some ⟨g, 0, none⟩ ∧ Z.cell? ⟨g, k * 2, none⟩ = some (.int .i64 bad[k].1) ∧ Z.cell? ⟨g, k * 2 + 1, none⟩ = some (.int .i64 bad[k].2)) := hc2
      have hbb : ((bad.length : Int) != (bad.length : Int)) = false := by simp
      clear cR2 hrow1 hrow2 hb5 hc1 hc2 hX5 hI hle HX hok hsrt hmax hes
      go_wp2
      have HB0 : Aside (Below w5.heap.size w5 w5) := Below.refl _ _
      go_loopg [65] bad.length (fun g1 vi wr => ∃ k : Nat, vi = .int .i64 (k : Int) ∧ k ≤ bad.length ∧ bad.length - k ≤ g1 ∧ Aside (Below w5.heap.size w5 wr))
      case atStart => exact ⟨0, rfl, Nat.zero_le _, Nat.le_refl _, HB0⟩
      case round =>
        clear HB0
        obtain ⟨k, rfl, hk, hg1, HB⟩ := hrel
        by_cases hkl : k < bad.length
        · have hltz : (k : Int) < (bad.length : Int) := by omega
          have hbd : Below w5.heap.size w5 wr.drew := Below.drew HB.out
          obtain ⟨g1, rfl, e1, e2⟩ := HC1.out wr.drew hbd k hkl
          obtain ⟨g2, rfl, e3, e4⟩ := HC2.out wr.drew hbd k hkl
          generalize bad[k].1 = x at *
          generalize bad[k].2 = y at *
          have hS0 := And.intro (And.intro e1 e2) (And.intro e3 e4)
          have HBD : Aside (Below w5.heap.size w5 wr.drew) := hbd
          clear e1 e2 e3 e4 hbd
          go_wp2
          refine wp_region_held (S := fun Z => (Z.cell? ⟨g1, k * 2, none⟩ = some (.int .i64 x) ∧ Z.cell? ⟨g1, k * 2 + 1, none⟩ = some (.int .i64 y)) ∧ (Z.cell? ⟨g2, k * 2, none⟩ = some (.int .i64 x) ∧ Z.cell? ⟨g2, k * 2 + 1, none⟩ = some (.int .i64 y))) (by kernel_rfl) ?_
          refine (show wpAnyH _ .any _ _ _ 9 (Array.replicate 9 false) _ wr.drew from ?_)
          refine takeD (i := 0) (d := 68) (v := .slice (some ⟨g1, 0, none⟩) bad.length c1) rfl (by kernel_rfl) (by kernel_rfl) (by kernel_rfl) (fun _ _ _ h => h) (fun oi ho => yields_now ho rfl fun Z hSw => ?_) hS0 ?_
          · obtain ⟨⟨s1, s2⟩, s3, s4⟩ := hSw
            go_simp
          simp only [Act.put, List.setIfInBounds_toArray, List.set_cons_zero, List.set_cons_succ]
          refine takeD (i := 1) (d := 69) (v := .int .i64 (k : Int)) rfl (by kernel_rfl) (by kernel_rfl) (by kernel_rfl) (fun _ _ _ h => h) (fun oi ho => yields_now ho rfl fun Z hSw => ?_) hS0 ?_
          · obtain ⟨⟨s1, s2⟩, s3, s4⟩ := hSw
            go_simp
          simp only [Act.put, List.setIfInBounds_toArray, List.set_cons_zero, List.set_cons_succ]
          refine takeD (i := 2) (d := 70) (v := .pointer (some ⟨g1, k * 2, none⟩)) rfl (by kernel_rfl) (by kernel_rfl) (by kernel_rfl) (fun _ _ _ h => h) (fun oi ho => yields_now ho rfl fun Z hSw => ?_) hS0 ?_
          · obtain ⟨⟨s1, s2⟩, s3, s4⟩ := hSw
            go_simp
          simp only [Act.put, List.setIfInBounds_toArray, List.set_cons_zero, List.set_cons_succ]
          refine takeD (i := 3) (d := 71) (v := .agg #[.int .i64 x, .int .i64 y]) rfl (by kernel_rfl) (by kernel_rfl) (by kernel_rfl) (fun _ _ _ h => h) (fun oi ho => yields_now ho rfl fun Z hSw => ?_) hS0 ?_
          · obtain ⟨⟨s1, s2⟩, s3, s4⟩ := hSw
            go_simp
          simp only [Act.put, List.setIfInBounds_toArray, List.set_cons_zero, List.set_cons_succ]
          refine takeD (i := 4) (d := 72) (v := .slice (some ⟨g2, 0, none⟩) bad.length c2) rfl (by kernel_rfl) (by kernel_rfl) (by kernel_rfl) (fun _ _ _ h => h) (fun oi ho => yields_now ho rfl fun Z hSw => ?_) hS0 ?_
          · obtain ⟨⟨s1, s2⟩, s3, s4⟩ := hSw
            go_simp
          simp only [Act.put, List.setIfInBounds_toArray, List.set_cons_zero, List.set_cons_succ]
          refine takeD (i := 5) (d := 73) (v := .int .i64 (k : Int)) rfl (by kernel_rfl) (by kernel_rfl) (by kernel_rfl) (fun _ _ _ h => h) (fun oi ho => yields_now ho rfl fun Z hSw => ?_) hS0 ?_
          · obtain ⟨⟨s1, s2⟩, s3, s4⟩ := hSw
            go_simp
          simp only [Act.put, List.setIfInBounds_toArray, List.set_cons_zero, List.set_cons_succ]
          refine takeD (i := 6) (d := 74) (v := .pointer (some ⟨g2, k * 2, none⟩)) rfl (by kernel_rfl) (by kernel_rfl) (by kernel_rfl) (fun _ _ _ h => h) (fun oi ho => yields_now ho rfl fun Z hSw => ?_) hS0 ?_
          · obtain ⟨⟨s1, s2⟩, s3, s4⟩ := hSw
            go_simp
          simp only [Act.put, List.setIfInBounds_toArray, List.set_cons_zero, List.set_cons_succ]
          refine takeD (i := 7) (d := 75) (v := .agg #[.int .i64 x, .int .i64 y]) rfl (by kernel_rfl) (by kernel_rfl) (by kernel_rfl) (fun _ _ _ h => h) (fun oi ho => yields_now ho rfl fun Z hSw => ?_) hS0 ?_
          · obtain ⟨⟨s1, s2⟩, s3, s4⟩ := hSw
            go_simp
          simp only [Act.put, List.setIfInBounds_toArray, List.set_cons_zero, List.set_cons_succ]
          refine takeD (i := 8) (d := 76) (v := .bool false) rfl (by kernel_rfl) (by kernel_rfl) (by kernel_rfl) (fun _ _ _ h => h) (fun oi ho => yields_now ho rfl fun Z hSw => ?_) hS0 ?_
          · obtain ⟨⟨s1, s2⟩, s3, s4⟩ := hSw
            go_simp
          simp only [Act.put, List.setIfInBounds_toArray, List.set_cons_zero, List.set_cons_succ]
          refine wpAnyH_done (by kernel_rfl) ?_ _
          clear hS0
          go_wp2
          go_roundg (bad.length - (k + 1))
          case measure => omega
          case rel => exact ⟨k + 1, by go_num, by omega, Nat.le_refl _, HBD⟩
        · have hltz : ¬ (k : Int) < (bad.length : Int) := by omega
          have cTo := HTO.out wr HB.out
          go_wp2_with fail
          refine cTo.mono ?_
          rintro e w6 ⟨rfl, hb6⟩
          have HF : Aside (Below w.heap.size w w6) := HB5.out.trans ((HB.out.trans (hb6.mono HB.out.size)).mono HB5.out.size)
          go_wp2
          go_ret
          exact ⟨rfl, HF.out⟩
  · have hne : (E != 0) = true := by rw [bne_iff_ne]; exact hE
    go_wp2
    go_ret
    exact ⟨rfl, HB2.out⟩
end Go.Proofs.YtikfaalbdnlelaaGreatDoor.Utf
