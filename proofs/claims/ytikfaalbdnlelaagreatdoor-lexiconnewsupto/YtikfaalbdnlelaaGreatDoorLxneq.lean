/-
  LexiconNews walked: New of every list is the document's; the list stays as it is, and isn't kept.
-/
import Derived.Test.YtikfaalbdnlelaaGreatDoorGnn
import Derived.Test.YtikfaalbdnlelaaGreatDoorLxreq
namespace Go.Proofs.YtikfaalbdnlelaaGreatDoor.Utf
open Go Go.Lib Go.RowKit

theorem ws_ext {ins ws : List WdV} (h : toL ins = toL ws) {i : Nat} (hi : i < ins.length) (hj : i < ws.length) : ins[i].c = ws[i].c ∧ ins[i].s = ws[i].s := by
  have h1 := toL_at hi
  have h2 := toL_at hj
  have h3 : (toL ins)[i]? = (toL ws)[i]? := by rw [h]
  rw [List.getElem?_eq_getElem (by rw [toL_len]; exact hi), List.getElem?_eq_getElem (by rw [toL_len]; exact hj)] at h3
  have h4 := Option.some.inj h3
  rw [h1, h2] at h4
  injection h4 with h5 h6
  exact ⟨h5, h6⟩

theorem newW_nil {L : List ByteArray} : ∀ (xs : List (List Int × Int)) (i : Nat) (l : List (List Int × Int)), ((newW L xs i l).2.2 ≠ 0 → (newW L xs i l).1 = []) ∧ (newW L xs i l).2.1 ≤ i + xs.length
  | [], i, l => ⟨fun h => absurd rfl h, Nat.zero_le _⟩
  | x :: xs, i, l => by
    rw [newW]
    by_cases h : chkW L x.1 x.2 = 0
    · rw [if_pos h]
      have := newW_nil (L := L) xs (i + 1) (putL l x.1 x.2)
      exact ⟨this.1, by have := this.2; rw [List.length_cons]; omega⟩
    · rw [if_neg h]
      exact ⟨fun _ => rfl, Nat.le_add_right _ _⟩
theorem newT_nil {L : List ByteArray} {ws : List (List Int × Int)} (h : (newT L ws).2.2 ≠ 0) : (newT L ws).1 = [] := by
  unfold newT at h ⊢
  by_cases hb : 1000 < ws.length
  · rw [if_pos hb]
  · rw [if_neg hb] at h ⊢
    exact (newW_nil ws 0 []).1 h
theorem newT_le (L : List ByteArray) (ws : List (List Int × Int)) : (newT L ws).2.1 ≤ ws.length := by
  unfold newT
  by_cases hb : 1000 < ws.length
  · rw [if_pos hb]; exact Nat.zero_le _
  · rw [if_neg hb]
    have := (newW_nil (L := L) ws 0 []).2
    omega
/-- The document's SameWord, of the same words. -/
theorem sameWord2_any {W : World} (c : List Int) (s : Int) (hc : c.length ≤ 1048576) (a1 a2 : Option Addr) (c1 c2 : Nat) (h1 : ReadsO W a1 (ints c)) (h2 : ReadsO W a2 (ints c)) :
    Calls Tryz.prog 11 #[.agg #[.slice a1 c.length c1, .int .i64 s], .agg #[.slice a2 c.length c2, .int .i64 s]] W fun e w' => e = .returned (.bool true) ∧ Below W.heap.size W w' := by
  have hb1 := below_box' W (.cells #[.slice a1 c.length c1, .int .i64 s] 33)
  have hb2 : Below W.heap.size W ((W.alloc (.cells #[.slice a1 c.length c1, .int .i64 s] 33)).alloc (.cells #[.slice a2 c.length c2, .int .i64 s] 33)) := hb1.alloc (by simp) _
  have x1 : Bx2 ((W.alloc (.cells #[.slice a1 c.length c1, .int .i64 s] 33)).alloc (.cells #[.slice a2 c.length c2, .int .i64 s] 33)) W.heap.size 33 (.slice a1 c.length c1) (.int .i64 s) := Bx2.keep (W := W.alloc (.cells #[.slice a1 c.length c1, .int .i64 s] 33)) ⟨heap_box W _⟩ (below_box' _ _)
  have x2 : Bx2 ((W.alloc (.cells #[.slice a1 c.length c1, .int .i64 s] 33)).alloc (.cells #[.slice a2 c.length c2, .int .i64 s] 33)) (W.heap.size + 1) 33 (.slice a2 c.length c2) (.int .i64 s) := ⟨by have := heap_box (W.alloc (.cells #[.slice a1 c.length c1, .int .i64 s] 33)) (.cells #[.slice a2 c.length c2, .int .i64 s] 33); simpa using this⟩
  have k0 := x1.c0
  have k1 := x1.c1
  have k2 := x2.c0
  have k3 := x2.c1
  have cS := sameInts_any c c a1 a2 c1 c2 _ (by omega) (by omega) (h1.below hb2) (h2.below hb2)
  have hss : (s == s) = true := beq_self_eq_true _
  go_enter Tryz.func11, Tryz.ntmps11
  go_wp2_with fail
  refine cS.mono ?_
  rintro e w2 ⟨⟨_, rfl⟩ | ⟨hno, rfl⟩, hb3⟩
  · have l1 := (x1.keep hb3).c1
    have l3 := (x2.keep hb3).c1
    have hbf : Below W.heap.size W w2 := hb2.trans (hb3.mono hb2.size)
    clear k0 k1 k2 k3
    go_wp2
    go_ret
    exact ⟨rfl, hbf⟩
  · exact absurd trivial hno
set_option maxRecDepth 100000 in
set_option maxHeartbeats 2000000 in
theorem toldNil2_any {W : World} {B : Nat} {v : Value} {L : List ByteArray} (h40 : L.length ≤ 40) (hLs : ∀ x ∈ L, x.size ≤ 12) (al : Option Addr) (cl : Nat) (hRL : ReadsO W al (L.map Value.string)) (hI : IsWd B W v []) :
    Calls Tryz.prog 12 #[.pointer none, .slice al L.length cl, v] W fun e w' => e = .returned (.bool true) ∧ Below W.heap.size W w' := by
  obtain ⟨ao, cap, hvv, -, -⟩ := hI.slice
  have hv0 : v = .slice ao 0 cap := hvv
  clear hvv
  subst hv0
  have HI : Aside (∀ Z, Below W.heap.size W Z → IsWd B Z (.slice ao 0 cap) []) := fun Z hb => hI.below hb
  have HRL : Aside (∀ Z, Below W.heap.size W Z → ReadsO Z al (L.map Value.string)) := fun Z hb => hRL.below hb
  have cL := len_nil W
  have cT1 := text_nil (-1) W
  have cT2 := text_nil 0 W
  have cW1 := word_nil 0 W
  have hem : ((⟨#[]⟩ : ByteArray).toList != (⟨#[]⟩ : ByteArray).toList) = false := by simp
  have hem2 : (((⟨#[]⟩ : ByteArray).toList.isEmpty)) = true := by rw [ByteArray.toList_eq]; rfl
  have hfs : ∀ W, (Instr.field 33 (.agg #[.slice none 0 0, .int .i64 0]) 1).run Tryz.prog W = .ok (.int .i64 0) W := fun W => by kernel_rfl
  have hfc : ∀ W, (Instr.field 33 (.agg #[.slice none 0 0, .int .i64 0]) 0).run Tryz.prog W = .ok (.slice none 0 0) W := fun W => by kernel_rfl
  clear hRL hI
  go_enter Tryz.func12, Tryz.ntmps12
  go_wp2_with fail
  refine cL.mono ?_
  rintro e w1 ⟨rfl, hw⟩
  obtain rfl := hw.symm
  go_wp2_with fail
  refine cT1.mono ?_
  rintro e w1 ⟨rfl, hw⟩
  obtain rfl := hw.symm
  go_wp2_with fail
  refine cT2.mono ?_
  rintro e w1 ⟨rfl, hw⟩
  obtain rfl := hw.symm
  go_wp2_with fail
  refine cW1.mono ?_
  rintro e w1 ⟨rfl, hb1⟩
  have cW2 := word_nil (-1) w1
  clear cL cT1 cT2 cW1 hw
  go_wp2_with fail
  refine cW2.mono ?_
  rintro e w2 ⟨rfl, hb2⟩
  have hB2 : Below W.heap.size W w2 := hb1.trans (hb2.mono hb1.size)
  have cP := print_nil w2
  clear cW2
  go_wp2_with fail
  refine cP.mono ?_
  rintro e w3 ⟨rfl, hb3⟩
  have hB3 : Below W.heap.size W w3 := hB2.trans (hb3.mono hB2.size)
  have cP2 : Calls Tryz.prog 34 #[.slice al L.length cl, .slice ao 0 cap] w3 fun e w' => e = .returned (.string ⟨#[]⟩) ∧ Below w3.heap.size w3 w' := refPrint_any L hLs h40 al cl (HRL.out w3 hB3) (HI.out w3 hB3) (Nat.zero_le _) (fun x hx => by cases hx)
  clear cP
  go_wp2_with fail
  refine cP2.mono ?_
  rintro e w4 ⟨rfl, hb4⟩
  have HB4 : Aside (Below W.heap.size W w4) := hB3.trans (hb4.mono hB3.size)
  clear cP2 hb1 hb2 hb3 hb4 hB2 hB3
  go_wp2
  go_loopg [54] 0 (fun g1 vi wr => vi = .int .i64 0 ∧ Aside (Below W.heap.size W wr))
  case atStart => exact ⟨rfl, HB4⟩
  case round =>
    obtain ⟨rfl, HB⟩ := hrel
    go_wp2
    go_ret
    exact ⟨rfl, HB.out⟩

set_option maxRecDepth 100000 in
set_option maxHeartbeats 6000000 in
theorem lexNews_walk (L : List ByteArray) (al : Option Addr) (cl : Nat) (ws : List WdV) (aw : Option Addr) (cw : Nat) (w : World) (hlen : L.length ≤ 1048576) (hsm : ∀ x ∈ L, x.size ≤ 1048576) (hcap : L.length ≤ cl) (hRL : ReadsO w al (L.map Value.string)) (hwl : ws.length ≤ 1048576) (hws : ∀ x ∈ ws, x.c.length ≤ 1048576) (hRW : ReadsW w aw ws) (hPw : Pw w) :
    Calls Tryz.prog 3 #[.slice al L.length cl, .slice aw ws.length cw] w fun e w' => e = .returned (.bool true) ∧ Below w.heap.size w w' := by
  obtain ⟨i0, hi0, hz0, hz1, hz2⟩ := info_parts infoWord
  obtain ⟨i1, hi1, hy0, hy1, hy2⟩ := info_parts infoI
  have cA := awake9_any w
  have HRL : Aside (∀ W, Below w.heap.size w W → ReadsO W al (L.map Value.string)) := fun W hb => hRL.below hb
  have HRW : Aside (∀ W, Below w.heap.size w W → ReadsW W aw ws) := fun W hb => hRW.below hb
  have HPW : Aside (∀ W, Below w.heap.size w W → Pw W) := fun W hb => hPw.below hb
  have HSM : Aside (∀ x ∈ L, x.size ≤ 16777216) := fun x hx => by have := hsm x hx; omega
  have HWS : Aside (∀ x ∈ ws, x.c.length ≤ 1048576) := hws
  clear hRL hPw hsm hRW hws
  go_enter Tryz.func3, Tryz.ntmps3
  go_wp2_with fail
  refine cA.mono ?_
  rintro e w1 ⟨rfl, hb1⟩
  have HB1 : Aside (Below w.heap.size w w1) := hb1
  have cF := refNew_any L al cl w1 hcap (by omega) HSM.out (HRL.out _ hb1)
  have HN : Aside (∀ W, Below w.heap.size w W → _) := fun W hb => new_any L al cl W (by omega) (HRL.out _ hb)
  have hG := @new_good L
  generalize (newR L).1 = N1 at *
  generalize (newR L).2 = E at *
  clear cA hb1
  go_wp2_with fail
  refine cF.mono ?_
  rintro e w2 ⟨rfl, hb2⟩
  have HB2 : Aside (Below w.heap.size w w2) := HB1.out.trans (hb2.mono HB1.out.size)
  clear cF hb2
  by_cases hE : E = 0
  · subst hE
    have cN := HN.out w2 HB2.out
    clear HN
    obtain ⟨_, hl40, hnm, hnd⟩ := hG (by first | rfl | trivial)
    have hLs : ∀ x ∈ L, 1 ≤ x.size ∧ x.size ≤ 12 := fun x hx => name_len (hnm x hx)
    have HLS : Aside (∀ x ∈ L, x.size ≤ 12) := fun x hx => (hLs x hx).2
    go_wp2_with fail
    refine cN.mono ?_
    rintro e w3 ⟨⟨v, rfl, hv1, hv2⟩, hb3⟩
    have HB3 : Aside (Below w.heap.size w w3) := HB2.out.trans (hb3.mono HB2.out.size)
    obtain ⟨b, rk, rfl, hA, hRk⟩ := hv2 (by first | rfl | trivial)
    have HAL : Aside (∀ W, Below w3.heap.size w3 W → IsAlpha W b L rk) := fun W hb => hA.is.below hb
    clear cN hv1 hv2 hG hnm hb3 hA hRk hLs hnd
    go_wp2
    obtain ⟨Bc, hBc⟩ : ∃ Bc, Bc = w3.heap.size := ⟨_, rfl⟩
    have HBc : Aside (Bc = w3.heap.size) := hBc
    have HC0 : Aside (Cp Bc w3 (.slice none 0 0) [] 0) := Cp.nil _ _
    clear hBc
    go_loopg [10, 38] ws.length (fun g1 vn vi wr => ∃ (k : Nat) (ins : List WdV) (vin : Value), vi = .int .i64 (k : Int) ∧ vn = vin ∧ k ≤ ws.length ∧ ws.length - k ≤ g1 ∧ ins.length = k ∧ Aside (Cp Bc wr vin ins 0) ∧ Aside (toL ins = (toL ws).take k) ∧ Aside (Below w3.heap.size w3 wr))
    case atStart => exact ⟨0, [], _, rfl, rfl, Nat.zero_le _, Nat.le_refl _, rfl, HC0, rfl, Below.refl _ _⟩
    case round =>
      clear HC0
      obtain ⟨k, ins, vin, rfl, q1, hk, hg1, hkl, HC, HT, HB⟩ := hrel
      obtain rfl := q1.symm
      clear q1
      by_cases hlt : k < ws.length
      · have hltz : (k : Int) < (ws.length : Int) := by omega
        have HBw : Aside (Below w.heap.size w wr) := HB3.out.trans (HB.out.mono HB3.out.size)
        obtain ⟨g, o, rfl, e2, e3, e4, e5, e6⟩ := HRW.out wr HBw.out k hlt
        have hmk := HWS.out _ (List.getElem_mem hlt)
        have HT2 : Aside (∀ x : WdV, x.c = ws[k].c → x.s = ws[k].s → toL (ins ++ [x]) = (toL ws).take (k + 1)) := fun x h1 h2 => by
          have h3 : toL (ins ++ [x]) = toL ins ++ [(x.c, x.s)] := by unfold toL; rw [List.map_append]; rfl
          rw [h3, HT.out, List.take_succ_eq_append_getElem (by rw [toL_len]; exact hlt), toL_at hlt, h1, h2]
        have hbY : Below wr.heap.size wr (wr.alloc (.cells #[.slice ws[k].ao ws[k].c.length ws[k].cap, .int .i64 ws[k].s] 33)) := below_box' wr _
        have hbx : Bx2 (wr.alloc (.cells #[.slice ws[k].ao ws[k].c.length ws[k].cap, .int .i64 ws[k].s] 33)) wr.heap.size 33 (.slice ws[k].ao ws[k].c.length ws[k].cap) (.int .i64 ws[k].s) := ⟨heap_box wr _⟩
        have HE5 : Aside (ReadsO wr ws[k].ao (ints ws[k].c)) := e5
        have hao := e6
        clear e5 e6
        generalize ws[k].c = c at *
        generalize ws[k].s = sc at *
        generalize ws[k].ao = ao at *
        generalize ws[k].cap = cap at *
        have hNN : (ints c).length = c.length := by simp [ints]
        obtain ⟨N, hN⟩ : ∃ N, c.length = N := ⟨_, rfl⟩
        have HNc : Aside (c.length = N) := hN
        rw [hN] at e3 hbY hbx hmk hNN
        clear hN
        have hNNA : Aside ((ints c).length = N) := hNN
        clear hNN
        go_wp2
        have hNN := hNNA.out
        generalize hwY : (wr.alloc (.cells #[.slice ao N cap, .int .i64 sc] 33)) = wY at *
        have hszY : wY.heap.size = wr.heap.size + 1 := by rw [← hwY]; simp
        clear hwY
        have hbd : Below wr.heap.size wr wY.drew := Below.drew hbY
        have hRY : ReadsO wY.drew ao (ints c) := HE5.out.below hbd
        obtain ⟨s6, hs6e⟩ : ∃ s6, s6 = wr.heap.size := ⟨_, rfl⟩
        rw [← hs6e] at hbx ⊢
        have hs6 : s6 < wY.drew.heap.size := by show s6 < wY.heap.size; omega
        have hS0 : wY.drew.cell? ⟨s6, 0, none⟩ = some (.slice ao N cap) ∧ wY.drew.cell? ⟨s6, 1, none⟩ = some (.int .i64 sc) := ⟨hbx.c0, hbx.c1⟩
        have hSS : ∀ Z, Below wY.drew.heap.size wY.drew Z → Z.cell? ⟨s6, 0, none⟩ = some (.slice ao N cap) ∧ Z.cell? ⟨s6, 1, none⟩ = some (.int .i64 sc) := fun Z hb => ⟨(hb.cell (p := ⟨s6, 0, none⟩) hs6).trans hS0.1, (hb.cell (p := ⟨s6, 1, none⟩) hs6).trans hS0.2⟩
        have hbA := below_box' wY.drew (.cells #[] 3)
        have hRA : ReadsO (wY.drew.alloc (.cells #[] 3)) ao (ints c) := hRY.below hbA
        have HCd : Aside (∀ Z, Below wY.drew.heap.size wY.drew Z → Cp Bc Z vin ins 0) := fun Z hb => (HC.out.below hbd).below hb
        have hs6v : vin.ownBlock ≠ some s6 := fun e => by have := (HC.out.row.lt s6 e).2; omega
        have hBcr : Bc ≤ wY.heap.size := by have h1 := HBc.out; have h2 := HB.out.size; omega
        have HCob : Aside (∀ b, (vin.ownBlock = some b → b < wr.heap.size) ∧ ∀ i (hi : i < ins.length), ob ins[i] = some b → b < wr.heap.size) := fun b => ⟨fun e => (HC.out.row.lt b e).2, fun i hi e => by obtain ⟨xs, h1, _⟩ := HC.out.own i hi; exact (h1.lt b e).2⟩
        have HS6 : Aside (s6 = wr.heap.size) := hs6e
        clear hs6e
        refine wp_region_held (S := fun Z => Z.cell? ⟨s6, 0, none⟩ = some (.slice ao N cap) ∧ Z.cell? ⟨s6, 1, none⟩ = some (.int .i64 sc)) (by kernel_rfl) ?_
        refine (show wpAnyH _ .any _ _ _ 11 (Array.replicate 11 false) _ wY.drew from ?_)
        refine takeD (i := 0) (d := 42) (v := vin) rfl (by kernel_rfl) (by kernel_rfl) (by kernel_rfl) (fun _ _ _ h => h) (fun oi ho => yields_now ho rfl fun Z hSw => ?_) hS0 ?_
        · obtain ⟨s1, s2⟩ := hSw
          go_simp
        simp only [Act.put, List.setIfInBounds_toArray, List.set_cons_zero, List.set_cons_succ]
        refine takeD (i := 2) (d := 44) (v := .pointer (some ⟨s6, 0, none⟩)) rfl (by kernel_rfl) (by kernel_rfl) (by kernel_rfl) (fun _ _ _ h => h) (fun oi ho => yields_now ho rfl fun Z hSw => ?_) hS0 ?_
        · obtain ⟨s1, s2⟩ := hSw
          go_simp
        simp only [Act.put, List.setIfInBounds_toArray, List.set_cons_zero, List.set_cons_succ]
        refine takeD (i := 3) (d := 45) (v := .slice ao N cap) rfl (by kernel_rfl) (by kernel_rfl) (by kernel_rfl) (fun _ _ _ h => h) (fun oi ho => yields_now ho rfl fun Z hSw => ?_) hS0 ?_
        · obtain ⟨s1, s2⟩ := hSw
          go_simp
        simp only [Act.put, List.setIfInBounds_toArray, List.set_cons_zero, List.set_cons_succ]
        refine takeD (i := 5) (d := 47) (v := .pointer (some ⟨s6, 1, none⟩)) rfl (by kernel_rfl) (by kernel_rfl) (by kernel_rfl) (fun _ _ _ h => h) (fun oi ho => yields_now ho rfl fun Z hSw => ?_) hS0 ?_
        · obtain ⟨s1, s2⟩ := hSw
          go_simp
        simp only [Act.put, List.setIfInBounds_toArray, List.set_cons_zero, List.set_cons_succ]
        refine takeD (i := 6) (d := 48) (v := .int .i64 sc) rfl (by kernel_rfl) (by kernel_rfl) (by kernel_rfl) (fun _ _ _ h => h) (fun oi ho => yields_now ho rfl fun Z hSw => ?_) hS0 ?_
        · obtain ⟨s1, s2⟩ := hSw
          go_simp
        simp only [Act.put, List.setIfInBounds_toArray, List.set_cons_zero, List.set_cons_succ]
        refine wpAnyH_all (rs := [1]) (by kernel_rfl) (by simp) (fun i hi => ?_)
        obtain rfl := List.mem_singleton.1 hi
        refine wpOp_value (w' := wY.drew.alloc (.cells #[] 3)) (v := .slice (some ⟨wY.drew.heap.size, 0, none⟩) 0 0) rfl rfl rfl (by go_simp) ?_
        refine ⟨hSS _ hbA, ?_⟩
        simp only [Act.put, List.setIfInBounds_toArray, List.set_cons_zero, List.set_cons_succ]
        refine wpAnyH_all (rs := [4]) (by kernel_rfl) (by simp) (fun i hi => ?_)
        obtain rfl := List.mem_singleton.1 hi
        refine wpOp_append_src rfl rfl rfl _ _ 31 rfl wY.drew.heap.size 3 i1 (.int .i64 0) 8 Tryz.underlying31 hi1 hy0 hy1 hy2 rfl (.slice (some ⟨wY.drew.heap.size, 0, none⟩) 0 0) 0 [] rfl (own_empty wY.drew 3 1) ao N cap (ints c) rfl hao hNN hRA (ints_one c) (by unfold maxLen; omega) (by omega) (by simp) ?_
        intro v2 w2 hown2 hg2 hat2
        rw [List.nil_append, Nat.zero_add] at hown2
        obtain ⟨a2, c2, rfl⟩ := row_slice hown2
        have hW2 : wY.drew.grownBy w2 none := ⟨hg2.os, hg2.tape, hg2.output, Nat.le_trans hbA.size hg2.size, fun i hi _ => (hg2.block i (Nat.lt_of_lt_of_le hi hbA.size) (fun e => (Nat.ne_of_lt hi) (by simpa [Value.ownBlock] using e))).trans (Lib.alloc_old wY.drew _ i hi)⟩
        have hW2b : Below wY.drew.heap.size wY.drew w2 := ⟨hW2.os, hW2.tape, hW2.output, hW2.size, fun k hk => hW2.block k hk (by simp)⟩
        have hS2 := hSS w2 hW2b
        refine ⟨hS2, ?_⟩
        simp only [Act.put, List.setIfInBounds_toArray, List.set_cons_zero, List.set_cons_succ]
        refine takeD (i := 7) (d := 49) (v := .agg #[.slice a2 N c2, .int .i64 sc]) rfl (by kernel_rfl) (by kernel_rfl) (by kernel_rfl) (fun _ _ _ h => h) (fun oi ho => yields_now ho rfl fun Z hSw => ?_) hS2 ?_
        · obtain ⟨s1, s2⟩ := hSw
          go_simp
        simp only [Act.put, List.setIfInBounds_toArray, List.set_cons_zero, List.set_cons_succ]
        refine wpAnyH_all (rs := [8]) (by kernel_rfl) (by simp) (fun i hi => ?_)
        obtain rfl := List.mem_singleton.1 hi
        refine wpOp_value (w' := w2.alloc (.cells #[.slice a2 N c2, .int .i64 sc] 33)) (v := .slice (some ⟨w2.heap.size, 0, none⟩) 1 1) rfl rfl rfl (by go_simp) ?_
        have hbB : Below wY.drew.heap.size wY.drew (w2.alloc (.cells #[.slice a2 N c2, .int .i64 sc] 33)) := hW2b.trans ((below_box' w2 _).mono hW2b.size)
        refine ⟨hSS _ hbB, ?_⟩
        simp only [Act.put, List.setIfInBounds_toArray, List.set_cons_zero, List.set_cons_succ]
        have hC2 := HCd.out w2 hW2b
        refine wpAnyH_all (rs := [9]) (by kernel_rfl) (by simp) (fun i hi => ?_)
        obtain rfl := List.mem_singleton.1 hi
        refine wpOp_append_at rfl rfl rfl _ _ 23 rfl Bc 33 i0 (.agg #[.slice none 0 0, .int .i64 0]) 2 32 Tryz.underlying23 hi0 hz0 hz1 hz2 rfl (by decide) vin _ _ rfl (hC2.row.alloc _) ⟨w2.heap.size, 0, none⟩ 1 1 [.slice a2 N c2, .int .i64 sc] rfl rfl (cellsW_new _ _ _ _) (by simp [Value.oneCell']) (by unfold maxLen; omega) (by omega) (by rw [World.size_alloc]; have := hW2b.size; have : wY.drew.heap.size = wY.heap.size := rfl; omega) ?_
        intro v3 w3' hown3 hg3 hat3
        have hg3' : w2.grownBy w3' vin.ownBlock := (World.grownBy_alloc _ _ _).trans hg3
        have hs3 : w3'.cell? ⟨s6, 0, none⟩ = some (.slice ao N cap) ∧ w3'.cell? ⟨s6, 1, none⟩ = some (.int .i64 sc) := ⟨(World.cell?_of_block (a := ⟨s6, 0, none⟩) (hg3'.block s6 (Nat.lt_of_lt_of_le hs6 hW2b.size) (fun e => hs6v e.symm))).trans hS2.1, (World.cell?_of_block (a := ⟨s6, 1, none⟩) (hg3'.block s6 (Nat.lt_of_lt_of_le hs6 hW2b.size) (fun e => hs6v e.symm))).trans hS2.2⟩
        refine ⟨hs3, ?_⟩
        simp only [Act.put, List.setIfInBounds_toArray, List.set_cons_zero, List.set_cons_succ]
        refine takeD (i := 10) (d := 10) (v := v3) rfl (by kernel_rfl) (by kernel_rfl) (by kernel_rfl) (fun _ _ _ h => h) (fun oi ho => yields_now ho rfl fun Z hSw => ?_) hs3 ?_
        · obtain ⟨s1, s2⟩ := hSw
          go_simp
        simp only [Act.put, List.setIfInBounds_toArray, List.set_cons_zero, List.set_cons_succ]
        refine wpAnyH_done (by kernel_rfl) ?_ _
        have hx2 : w2.ownsRow Bc 3 1 (.slice a2 c.length c2) c.length (ints c) := by
          rw [HNc.out]
          exact row_low hown2 (show Bc ≤ wY.drew.heap.size from hBcr)
        have hnx : ∀ q, (Value.slice a2 c.length c2).ownBlock = some q → wY.drew.heap.size ≤ q := fun q e => by
          rw [HNc.out] at e
          exact (hown2.lt q e).1
        have hcp := Cp.next (x := ⟨a2, c2, c, sc⟩) hC2 hx2 (fun q e => by
          have h1 := hnx q e
          have h2 : wY.drew.heap.size = wY.heap.size := rfl
          exact ⟨fun e2 => by have := (HCob.out q).1 e2; omega, fun i hi e2 => by have := (HCob.out q).2 i hi e2; omega⟩) (by
            have h9 := hown3
            unfold encW
            simp only
            rw [HNc.out]
            exact h9) hg3' (by
            rcases hat3 with e | e
            · exact .inl e
            · exact .inr ⟨_, e, by rw [World.size_alloc]; omega⟩)
        have HCn : Aside (Cp Bc w3' v3 (ins ++ [⟨a2, c2, c, sc⟩]) 0) := hcp
        have HTn : Aside (toL (ins ++ [⟨a2, c2, c, sc⟩]) = (toL ws).take (k + 1)) := HT2.out _ rfl rfl
        have HBn : Aside (Below w3.heap.size w3 w3') := (HB.out.trans ((hbd.trans (hW2b.mono hbd.size)).mono HB.out.size)).grown hg3' (Nat.le_trans HB.out.size (Nat.le_trans hbd.size hW2b.size)) (fun q e => by have h1 := (HC.out.row.lt q e).1; have h2 := HBc.out; omega)
        have hln : (ins ++ [(⟨a2, c2, c, sc⟩ : WdV)]).length = k + 1 := by rw [List.length_append, List.length_singleton, hkl]
        clear hcp hx2 hnx hown3 hg3 hg3' hat3 hs3 hC2 hbB hS2 hW2b hW2 hown2 hg2 hat2 hRA hbA hSS hS0 hRY hbd
        go_wp2
        go_roundg (ws.length - (k + 1))
        case measure => omega
        case rel => exact ⟨k + 1, _, _, by go_num, rfl, by omega, Nat.le_refl _, hln, HCn, HTn, HBn⟩
      · have hltz : ¬ (k : Int) < (ws.length : Int) := by omega
        have hT := HT.out
        rw [List.take_of_length_le (by rw [toL_len]; omega)] at hT
        have HTT : Aside (toL ins = toL ws) := hT
        have HIL : Aside (ins.length = ws.length) := by show _ = _; omega
        clear hkl
        obtain ⟨ai, ci, hvi⟩ := row_slice HC.out.row
        obtain rfl := hvi
        have HB4 : Aside (Below w.heap.size w wr) := HB3.out.trans (HB.out.mono HB3.out.size)
        have HC4 : Aside (Cp Bc wr (.slice ai ins.length ci) ins 0) := HC.out
        have cX := newX_any (HAL.out wr HB.out) HLS.out ins ai ci (by have := HIL.out; omega) (fun x hx => by
          obtain ⟨i, hi, rfl⟩ := List.mem_iff_getElem.1 hx
          have hil := HIL.out
          have h1 := (ws_ext hT hi (by omega)).1
          have h2 := HWS.out _ (List.getElem_mem (show i < ws.length by omega))
          rw [h1]; omega) HC.out.reads
        rw [hT] at cX
        have HR : Aside (∀ Z, Below w.heap.size w Z → Calls Tryz.prog 10 #[.slice al L.length cl, .slice aw ws.length cw] Z (RNewP Z (newT L (toL ws)))) := fun Z hb => refNewX_any L HLS.out hl40 al cl (HRL.out Z hb) ws aw cw (by omega) HWS.out (HRW.out Z hb)
        have hRok : (newT L (toL ws)).2.2 = 0 → okE L (newT L (toL ws)).1 ∧ SortL (newT L (toL ws)).1 ∧ (newT L (toL ws)).1.length ≤ 1000 := fun h0 => by
          unfold newT at h0 ⊢
          by_cases hb : 1000 < (toL ws).length
          · rw [if_pos hb] at h0; exact absurd h0 (show ¬ (111 : Int) = 0 by decide)
          · rw [if_neg hb]; exact newW_ok _ 0 [] (fun _ h => by cases h) List.Pairwise.nil (by simpa using Nat.not_lt.1 hb)
        have hRnil : (newT L (toL ws)).2.2 ≠ 0 → (newT L (toL ws)).1 = [] := fun h0 => newT_nil h0
        have hRp : (newT L (toL ws)).2.1 ≤ ws.length := by have := newT_le L (toL ws); rw [toL_len] at this; exact this
        unfold NewQ at cX
        generalize newT L (toL ws) = R at *
        obtain ⟨R1, R2, R3⟩ := R
        simp only at hRok hRnil cX HR hRp
        clear HC HT HB HAL hT
        generalize wr = w4 at *
        go_wp2_with fail
        refine cX.mono ?_
        rintro e w5 ⟨⟨v5, rfl, hv1, hv2⟩, hb5⟩
        have cR := HR.out w5 (HB4.out.trans (hb5.mono HB4.out.size))
        unfold RNewP at cR
        simp only at cR
        clear HR
        go_wp2_with fail
        refine cR.mono ?_
        rintro e w6 ⟨⟨v6, es, rfl, hI, hle⟩, hb6⟩
        by_cases hR3 : R3 = 0
        · obtain ⟨xb, rfl, hX⟩ := hv2 hR3
          subst hR3
          obtain ⟨r1, r2, r3⟩ := hRok rfl
          have hX6 : IsLex w6 w4.heap.size xb L (toL es) := by rw [hle]; exact hX.below hb6
          have hI6 : IsWd w5.heap.size w6 v6 es := hI
          have hes : es.length ≤ 1000 := by rw [← toL_len es, hle]; exact r3
          have HTO : Aside (∀ Z, Same w4.heap.size w6 Z → Below w.heap.size w Z → Calls Tryz.prog 12 #[.pointer (some ⟨xb, 0, none⟩), .slice al L.length cl, v6] Z fun e w' => e = .returned (.bool true) ∧ Below Z.heap.size Z w') := fun Z hs hb => told_any (hX6.same hs (Nat.le_refl _)) (hI6.same hs hb5.size) (by rw [hle]; exact r1) (by rw [hle]; exact r2) hes hl40 HLS.out al cl (HRL.out Z hb) (HPW.out Z hb)
          clear hv1 hv2 hRok hRnil hX hI hle hX6 hI6 hes r1 r2 r3
          have HO6 : Aside (∀ i (hi : i < ins.length) (q : Nat), ob ins[i] = some q → q < w4.heap.size ∧ Bc ≤ q) := fun i hi q e => by
            obtain ⟨xs, h1, _⟩ := HC4.out.own i hi
            exact ⟨(h1.lt q e).2, (h1.lt q e).1⟩
          have HC6 : Aside (Cp Bc w6 (.slice ai ins.length ci) ins 0) := (HC4.out.below hb5).below hb6
          have HB6 : Aside (Below w.heap.size w w6) := HB4.out.trans ((hb5.trans (hb6.mono hb5.size)).mono HB4.out.size)
          have HS6 : Aside (Same w4.heap.size w6 w6) := Same.refl _ _
          clear hb5 hb6 cR cX
          go_wp2
          go_loopg [84] ins.length (fun g1 vi wr => ∃ k : Nat, vi = .int .i64 (k : Int) ∧ k ≤ ins.length ∧ ins.length - k ≤ g1 ∧ Aside (Cp Bc wr (.slice ai ins.length ci) ins k) ∧ Aside (Same w4.heap.size w6 wr) ∧ Aside (Below w.heap.size w wr))
          case atStart => exact ⟨0, rfl, Nat.zero_le _, Nat.le_refl _, HC6, HS6, HB6⟩
          case round =>
            clear HC6 HS6 HB6
            obtain ⟨k, rfl, hk, hg1, HC, HS, HB⟩ := hrel
            by_cases hlt : k < ins.length
            · have hltz : (k : Int) < (ins.length : Int) := by omega
              have hkw : k < ws.length := by have := HIL.out; omega
              have hil : ins.length ≤ 1048576 := by have := HIL.out; omega
              have hkwz : (k : Int) < (ws.length : Int) := by omega
              obtain ⟨g2, o2, rfl, _, f3, f4, f5, f6⟩ := HRW.out wr HB.out k hkw
              clear f6
              have hxt := ws_ext HTT.out hlt hkw
              have hmk := HWS.out _ (List.getElem_mem hkw)
              rw [← hxt.1] at f3 f5 hmk
              rw [← hxt.2] at f4
              have HCE : Aside (∀ Z, Cp Bc Z (.slice ai ins.length ci) ins (k + 1) → ∃ g1, ai = some ⟨g1, 0, none⟩ ∧ Z.cell? ⟨g1, k * 2, none⟩ = some (.slice ins[k].ao ins[k].c.length ins[k].cap) ∧ Z.cell? ⟨g1, k * 2 + 1, none⟩ = some (.int .i64 ins[k].s) ∧ g1 < Z.heap.size) := fun Z hz => by
                rcases hz.row.2 with ⟨e, h0⟩ | ⟨g, cap', cur, e1, e2, e3, _⟩
                · omega
                · injection e1 with e1
                  subst e1
                  have := flatW_at hlt
                  refine ⟨g, rfl, ?_, ?_, (Array.getElem?_eq_some_iff.1 e3).1⟩
                  · have k1 := hz.row.cells (g := g) rfl (k * 2) _ this.1
                    rwa [Addr.add_lit, Nat.zero_add] at k1
                  · have k1 := hz.row.cells (g := g) rfl (k * 2 + 1) _ this.2
                    rwa [Addr.add_lit, Nat.zero_add] at k1
              obtain ⟨g1, rfl, f1, f2, hg1l⟩ := HCE.out wr HC.out.more
              obtain ⟨xs, hown, hxs⟩ := HC.out.own k hlt
              obtain rfl := hxs (Nat.le_refl _)
              obtain ⟨a9, c9, e9, hrd9⟩ := row_reads hown
              injection e9 with e9
              subst e9
              have hbd : Below wr.heap.size wr wr.drew := Below.drew (Below.refl _ _)
              have f5d := f5.below hbd
              have f9d := hrd9.o.below hbd
              have cS := sameWord2_any ins[k].c ins[k].s (by omega) ins[k].ao ws[k].ao ins[k].cap ws[k].cap f9d f5d
              have hg2l : g2 < wr.heap.size := by
                rcases Nat.lt_or_ge g2 wr.heap.size with h1 | h1
                · exact h1
                · exfalso; have e : wr.heap[g2]? = none := Array.getElem?_eq_none h1; simp [World.cell?, e] at f3
              have HOk : Aside (∀ q, ob ins[k] = some q → q < w4.heap.size ∧ Bc ≤ q) := fun q e => HO6.out k hlt q e
              have HST : Aside (∀ Z Z' q ys, Cp Bc Z (.slice (some ⟨g1, 0, none⟩) ins.length ci) ins (k + 1) → ob ins[k] = some q → Z'.ownsRow Bc 3 1 (.slice ins[k].ao ins[k].c.length ins[k].cap) ins[k].c.length ys → Z.grownBy Z' (some q) → Cp Bc Z' (.slice (some ⟨g1, 0, none⟩) ins.length ci) ins (k + 1)) := fun Z Z' q ys h1 h2 h3 h4 => h1.store hlt h2 h3 h4
              have HOW : Aside (∀ Z, Cp Bc Z (.slice (some ⟨g1, 0, none⟩) ins.length ci) ins (k + 1) → ∃ xs, Z.ownsRow Bc 3 1 (.slice ins[k].ao ins[k].c.length ins[k].cap) ins[k].c.length xs) := fun Z hz => by obtain ⟨xs, h1, _⟩ := hz.own k hlt; exact ⟨xs, h1⟩
              clear hown hrd9 hxs f5 f9d f5d hxt
              unfold ob at HOk HST
              generalize ins[k].c = c at *
              generalize ins[k].s = sc at *
              generalize ins[k].ao = ia at *
              generalize ins[k].cap = ic at *
              generalize ws[k].ao = wa at *
              generalize ws[k].cap = wc at *
              obtain ⟨N, hN⟩ : ∃ N, c.length = N := ⟨_, rfl⟩
              rw [hN] at f1 f3 cS hmk HCE HOk HST HOW
              clear hN
              have hSS : ∀ Z, Below wr.drew.heap.size wr.drew Z → (Z.cell? ⟨g1, k * 2, none⟩ = some (.slice ia N ic) ∧ Z.cell? ⟨g1, k * 2 + 1, none⟩ = some (.int .i64 sc)) ∧ (Z.cell? ⟨g2, o2 + k * 2, none⟩ = some (.slice wa N wc) ∧ Z.cell? ⟨g2, o2 + k * 2 + 1, none⟩ = some (.int .i64 sc)) := fun Z hb => ⟨⟨(hb.cell (p := ⟨g1, k * 2, none⟩) hg1l).trans f1, (hb.cell (p := ⟨g1, k * 2 + 1, none⟩) hg1l).trans f2⟩, (hb.cell (p := ⟨g2, o2 + k * 2, none⟩) hg2l).trans f3, (hb.cell (p := ⟨g2, o2 + k * 2 + 1, none⟩) hg2l).trans f4⟩
              have hS0 := hSS _ (Below.refl _ _)
              go_wp2
              refine wp_region_held (S := fun Z => (Z.cell? ⟨g1, k * 2, none⟩ = some (.slice ia N ic) ∧ Z.cell? ⟨g1, k * 2 + 1, none⟩ = some (.int .i64 sc)) ∧ (Z.cell? ⟨g2, o2 + k * 2, none⟩ = some (.slice wa N wc) ∧ Z.cell? ⟨g2, o2 + k * 2 + 1, none⟩ = some (.int .i64 sc))) (by kernel_rfl) ?_
              refine (show wpAnyH _ .any _ _ _ 10 (Array.replicate 10 false) _ wr.drew from ?_)
              refine takeD (i := 0) (d := 87) (v := .slice (some ⟨g1, 0, none⟩) ins.length ci) rfl (by kernel_rfl) (by kernel_rfl) (by kernel_rfl) (fun _ _ _ h => h) (fun oi ho => yields_now ho rfl fun Z hSw => ?_) hS0 ?_
              · obtain ⟨⟨s1, s2⟩, s3, s4⟩ := hSw
                go_simp
              simp only [Act.put, List.setIfInBounds_toArray, List.set_cons_zero, List.set_cons_succ]
              refine takeD (i := 1) (d := 88) (v := .int .i64 (k : Int)) rfl (by kernel_rfl) (by kernel_rfl) (by kernel_rfl) (fun _ _ _ h => h) (fun oi ho => yields_now ho rfl fun Z hSw => ?_) hS0 ?_
              · obtain ⟨⟨s1, s2⟩, s3, s4⟩ := hSw
                go_simp
              simp only [Act.put, List.setIfInBounds_toArray, List.set_cons_zero, List.set_cons_succ]
              refine takeD (i := 2) (d := 89) (v := .pointer (some ⟨g1, k * 2, none⟩)) rfl (by kernel_rfl) (by kernel_rfl) (by kernel_rfl) (fun _ _ _ h => h) (fun oi ho => yields_now ho rfl fun Z hSw => ?_) hS0 ?_
              · obtain ⟨⟨s1, s2⟩, s3, s4⟩ := hSw
                go_simp
              simp only [Act.put, List.setIfInBounds_toArray, List.set_cons_zero, List.set_cons_succ]
              refine takeD (i := 3) (d := 90) (v := .agg #[.slice ia N ic, .int .i64 sc]) rfl (by kernel_rfl) (by kernel_rfl) (by kernel_rfl) (fun _ _ _ h => h) (fun oi ho => yields_now ho rfl fun Z hSw => ?_) hS0 ?_
              · obtain ⟨⟨s1, s2⟩, s3, s4⟩ := hSw
                go_simp
              simp only [Act.put, List.setIfInBounds_toArray, List.set_cons_zero, List.set_cons_succ]
              refine takeD (i := 4) (d := 91) (v := .slice (some ⟨g2, o2, none⟩) ws.length cw) rfl (by kernel_rfl) (by kernel_rfl) (by kernel_rfl) (fun _ _ _ h => h) (fun oi ho => yields_now ho rfl fun Z hSw => ?_) hS0 ?_
              · obtain ⟨⟨s1, s2⟩, s3, s4⟩ := hSw
                go_simp
              simp only [Act.put, List.setIfInBounds_toArray, List.set_cons_zero, List.set_cons_succ]
              refine takeD (i := 5) (d := 92) (v := .int .i64 (k : Int)) rfl (by kernel_rfl) (by kernel_rfl) (by kernel_rfl) (fun _ _ _ h => h) (fun oi ho => yields_now ho rfl fun Z hSw => ?_) hS0 ?_
              · obtain ⟨⟨s1, s2⟩, s3, s4⟩ := hSw
                go_simp
              simp only [Act.put, List.setIfInBounds_toArray, List.set_cons_zero, List.set_cons_succ]
              refine takeD (i := 6) (d := 93) (v := .pointer (some ⟨g2, o2 + k * 2, none⟩)) rfl (by kernel_rfl) (by kernel_rfl) (by kernel_rfl) (fun _ _ _ h => h) (fun oi ho => yields_now ho rfl fun Z hSw => ?_) hS0 ?_
              · obtain ⟨⟨s1, s2⟩, s3, s4⟩ := hSw
                go_simp
              simp only [Act.put, List.setIfInBounds_toArray, List.set_cons_zero, List.set_cons_succ]
              refine takeD (i := 7) (d := 94) (v := .agg #[.slice wa N wc, .int .i64 sc]) rfl (by kernel_rfl) (by kernel_rfl) (by kernel_rfl) (fun _ _ _ h => h) (fun oi ho => yields_now ho rfl fun Z hSw => ?_) hS0 ?_
              · obtain ⟨⟨s1, s2⟩, s3, s4⟩ := hSw
                go_simp
              simp only [Act.put, List.setIfInBounds_toArray, List.set_cons_zero, List.set_cons_succ]
              refine wpAnyH_all (rs := [8]) (by kernel_rfl) (by simp) (fun i hi => ?_)
              obtain rfl := List.mem_singleton.1 hi
              refine wpOp_call rfl rfl rfl (by go_simp) cS ?_
              rintro e w7 ⟨rfl, hb7⟩
              have hS7 := hSS w7 hb7
              refine ⟨_, rfl, hS7, ?_⟩
              simp only [Act.put, List.setIfInBounds_toArray, List.set_cons_zero, List.set_cons_succ]
              refine takeD (i := 9) (d := 96) (v := .bool false) rfl (by kernel_rfl) (by kernel_rfl) (by kernel_rfl) (fun _ _ _ h => h) (fun oi ho => yields_now ho rfl fun Z hSw => ?_) hS7 ?_
              · obtain ⟨⟨s1, s2⟩, s3, s4⟩ := hSw
                go_simp
              simp only [Act.put, List.setIfInBounds_toArray, List.set_cons_zero, List.set_cons_succ]
              refine wpAnyH_done (by kernel_rfl) ?_ _
              have HB7 : Aside (Below wr.heap.size wr w7) := hbd.trans hb7
              have HCa : Aside (Cp Bc w7 (.slice (some ⟨g1, 0, none⟩) ins.length ci) ins (k + 1)) := (HC.out.below HB7.out).more
              have HSa : Aside (Same w4.heap.size w6 w7) := HS.out.below HB7.out
              have HBa : Aside (Below w.heap.size w w7) := HB.out.trans (HB7.out.mono HB.out.size)
              obtain ⟨p1, p2⟩ := hS7.1
              clear hS7 hS0 hSS cS hb7 hbd f1 f2 f3 f4 hg1l hg2l HC HS HB HB7
              go_wp2
              generalize wr = wr0 at *
              go_loopg [103] N (fun g2 vj wr => ∃ j : Nat, vj = .int .i64 (j : Int) ∧ j ≤ N ∧ N - j ≤ g2 ∧ Aside (Cp Bc wr (.slice (some ⟨g1, 0, none⟩) ins.length ci) ins (k + 1)) ∧ Aside (Same w4.heap.size w6 wr) ∧ Aside (Below w.heap.size w wr))
              case atStart => exact ⟨0, rfl, Nat.zero_le _, Nat.le_refl _, HCa, HSa, HBa⟩
              case round =>
                clear HCa HSa HBa p1 p2
                obtain ⟨j, rfl, hj, hg2, HCj, HSj, HBj⟩ := hrel
                by_cases hjN : j < N
                · have hjz : (j : Int) < (N : Int) := by omega
                  obtain ⟨g1', eg, p1, p2, _⟩ := HCE.out wr HCj.out
                  obtain rfl : g1 = g1' := by injection eg with eg; injection eg
                  obtain ⟨xs, hrow⟩ := HOW.out wr HCj.out
                  obtain ⟨g6, rfl⟩ : ∃ g6, ia = some ⟨g6, 0, none⟩ := by
                    rcases hrow.2 with ⟨e, h0⟩ | ⟨g', cp', cur, e, _⟩
                    · omega
                    · injection e with e; exact ⟨g', e⟩
                  have hxl : xs.length = N := by have := hrow.1; omega
                  have hfr := hrow.frozenAt j
                  obtain ⟨u, hu⟩ : ∃ u, wr.cell? ⟨g6, j, none⟩ = some u := ⟨_, (hrow.cellAt j (by omega)).trans (List.getElem?_eq_getElem (by omega))⟩
                  have st := hrow.stored j (.int .i64 0)
                  have hob := HOk.out g6 rfl
                  have HC2 : Aside (Cp Bc (wr.setCell ⟨g6, j, none⟩ (.int .i64 0)) (.slice (some ⟨g1, 0, none⟩) ins.length ci) ins (k + 1)) := HST.out _ _ g6 _ HCj.out rfl st.1 st.2
                  have HS2 : Aside (Same w4.heap.size w6 (wr.setCell ⟨g6, j, none⟩ (.int .i64 0))) := HSj.out.grown st.2 (fun q e => by injection e with e; omega)
                  have HB2' : Aside (Below w.heap.size w (wr.setCell ⟨g6, j, none⟩ (.int .i64 0))) := HBj.out.grown st.2 HBj.out.size (fun q e => by injection e with e; have h1 := HBc.out; have h2 := HB3.out.size; omega)
                  clear st hrow hxl eg hob HCj HSj HBj
                  go_wp2
                  go_roundg (N - (j + 1))
                  case measure => omega
                  case rel => exact ⟨j + 1, by go_num, by omega, Nat.le_refl _, HC2, HS2, HB2'⟩
                · have hjz : ¬ (j : Int) < (N : Int) := by omega
                  go_wp2
                  go_roundg (ins.length - (k + 1))
                  case measure => omega
                  case rel => exact ⟨k + 1, by go_num, by omega, Nat.le_refl _, HCj, HSj, HBj⟩
            · have hltz : ¬ (k : Int) < (ins.length : Int) := by omega
              have cTo := HTO.out wr HS.out HB.out
              go_wp2_with fail
              refine cTo.mono ?_
              rintro e w9 ⟨rfl, hb9⟩
              have HF : Aside (Below w.heap.size w w9) := HB.out.trans (hb9.mono HB.out.size)
              go_wp2
              go_ret
              exact ⟨rfl, HF.out⟩
        · have hv := hv1 hR3
          subst hv
          have hn := hRnil hR3
          have hes : es = [] := by
            have h1 := hle.trans hn
            unfold toL at h1
            exact List.map_eq_nil_iff.1 h1
          subst hes
          have hI6 : IsWd w5.heap.size w6 v6 [] := hI
          have HTO : Aside (∀ Z, Same w4.heap.size w6 Z → Below w.heap.size w Z → Calls Tryz.prog 12 #[.pointer none, .slice al L.length cl, v6] Z fun e w' => e = .returned (.bool true) ∧ Below Z.heap.size Z w') := fun Z hs hb => toldNil2_any hl40 HLS.out al cl (HRL.out Z hb) (hI6.same hs hb5.size)
          have hRz : (R3 != 0) = true := by rw [bne_iff_ne]; exact hR3
          have hRz2 : (R3 != R3) = false := by simp
          clear hv1 hv2 hRok hRnil hI hle hI6 hn
          have HO6 : Aside (∀ i (hi : i < ins.length) (q : Nat), ob ins[i] = some q → q < w4.heap.size ∧ Bc ≤ q) := fun i hi q e => by
            obtain ⟨xs, h1, _⟩ := HC4.out.own i hi
            exact ⟨(h1.lt q e).2, (h1.lt q e).1⟩
          have HC6 : Aside (Cp Bc w6 (.slice ai ins.length ci) ins 0) := (HC4.out.below hb5).below hb6
          have HB6 : Aside (Below w.heap.size w w6) := HB4.out.trans ((hb5.trans (hb6.mono hb5.size)).mono HB4.out.size)
          have HS6 : Aside (Same w4.heap.size w6 w6) := Same.refl _ _
          clear hb5 hb6 cR cX
          go_wp2
          go_loopg [84] ins.length (fun g1 vi wr => ∃ k : Nat, vi = .int .i64 (k : Int) ∧ k ≤ ins.length ∧ ins.length - k ≤ g1 ∧ Aside (Cp Bc wr (.slice ai ins.length ci) ins k) ∧ Aside (Same w4.heap.size w6 wr) ∧ Aside (Below w.heap.size w wr))
          case atStart => exact ⟨0, rfl, Nat.zero_le _, Nat.le_refl _, HC6, HS6, HB6⟩
          case round =>
            clear HC6 HS6 HB6
            obtain ⟨k, rfl, hk, hg1, HC, HS, HB⟩ := hrel
            by_cases hlt : k < ins.length
            · have hltz : (k : Int) < (ins.length : Int) := by omega
              have hkw : k < ws.length := by have := HIL.out; omega
              have hil : ins.length ≤ 1048576 := by have := HIL.out; omega
              have hkwz : (k : Int) < (ws.length : Int) := by omega
              obtain ⟨g2, o2, rfl, _, f3, f4, f5, f6⟩ := HRW.out wr HB.out k hkw
              clear f6
              have hxt := ws_ext HTT.out hlt hkw
              have hmk := HWS.out _ (List.getElem_mem hkw)
              rw [← hxt.1] at f3 f5 hmk
              rw [← hxt.2] at f4
              have HCE : Aside (∀ Z, Cp Bc Z (.slice ai ins.length ci) ins (k + 1) → ∃ g1, ai = some ⟨g1, 0, none⟩ ∧ Z.cell? ⟨g1, k * 2, none⟩ = some (.slice ins[k].ao ins[k].c.length ins[k].cap) ∧ Z.cell? ⟨g1, k * 2 + 1, none⟩ = some (.int .i64 ins[k].s) ∧ g1 < Z.heap.size) := fun Z hz => by
                rcases hz.row.2 with ⟨e, h0⟩ | ⟨g, cap', cur, e1, e2, e3, _⟩
                · omega
                · injection e1 with e1
                  subst e1
                  have := flatW_at hlt
                  refine ⟨g, rfl, ?_, ?_, (Array.getElem?_eq_some_iff.1 e3).1⟩
                  · have k1 := hz.row.cells (g := g) rfl (k * 2) _ this.1
                    rwa [Addr.add_lit, Nat.zero_add] at k1
                  · have k1 := hz.row.cells (g := g) rfl (k * 2 + 1) _ this.2
                    rwa [Addr.add_lit, Nat.zero_add] at k1
              obtain ⟨g1, rfl, f1, f2, hg1l⟩ := HCE.out wr HC.out.more
              obtain ⟨xs, hown, hxs⟩ := HC.out.own k hlt
              obtain rfl := hxs (Nat.le_refl _)
              obtain ⟨a9, c9, e9, hrd9⟩ := row_reads hown
              injection e9 with e9
              subst e9
              have hbd : Below wr.heap.size wr wr.drew := Below.drew (Below.refl _ _)
              have f5d := f5.below hbd
              have f9d := hrd9.o.below hbd
              have cS := sameWord2_any ins[k].c ins[k].s (by omega) ins[k].ao ws[k].ao ins[k].cap ws[k].cap f9d f5d
              have hg2l : g2 < wr.heap.size := by
                rcases Nat.lt_or_ge g2 wr.heap.size with h1 | h1
                · exact h1
                · exfalso; have e : wr.heap[g2]? = none := Array.getElem?_eq_none h1; simp [World.cell?, e] at f3
              have HOk : Aside (∀ q, ob ins[k] = some q → q < w4.heap.size ∧ Bc ≤ q) := fun q e => HO6.out k hlt q e
              have HST : Aside (∀ Z Z' q ys, Cp Bc Z (.slice (some ⟨g1, 0, none⟩) ins.length ci) ins (k + 1) → ob ins[k] = some q → Z'.ownsRow Bc 3 1 (.slice ins[k].ao ins[k].c.length ins[k].cap) ins[k].c.length ys → Z.grownBy Z' (some q) → Cp Bc Z' (.slice (some ⟨g1, 0, none⟩) ins.length ci) ins (k + 1)) := fun Z Z' q ys h1 h2 h3 h4 => h1.store hlt h2 h3 h4
              have HOW : Aside (∀ Z, Cp Bc Z (.slice (some ⟨g1, 0, none⟩) ins.length ci) ins (k + 1) → ∃ xs, Z.ownsRow Bc 3 1 (.slice ins[k].ao ins[k].c.length ins[k].cap) ins[k].c.length xs) := fun Z hz => by obtain ⟨xs, h1, _⟩ := hz.own k hlt; exact ⟨xs, h1⟩
              clear hown hrd9 hxs f5 f9d f5d hxt
              unfold ob at HOk HST
              generalize ins[k].c = c at *
              generalize ins[k].s = sc at *
              generalize ins[k].ao = ia at *
              generalize ins[k].cap = ic at *
              generalize ws[k].ao = wa at *
              generalize ws[k].cap = wc at *
              obtain ⟨N, hN⟩ : ∃ N, c.length = N := ⟨_, rfl⟩
              rw [hN] at f1 f3 cS hmk HCE HOk HST HOW
              clear hN
              have hSS : ∀ Z, Below wr.drew.heap.size wr.drew Z → (Z.cell? ⟨g1, k * 2, none⟩ = some (.slice ia N ic) ∧ Z.cell? ⟨g1, k * 2 + 1, none⟩ = some (.int .i64 sc)) ∧ (Z.cell? ⟨g2, o2 + k * 2, none⟩ = some (.slice wa N wc) ∧ Z.cell? ⟨g2, o2 + k * 2 + 1, none⟩ = some (.int .i64 sc)) := fun Z hb => ⟨⟨(hb.cell (p := ⟨g1, k * 2, none⟩) hg1l).trans f1, (hb.cell (p := ⟨g1, k * 2 + 1, none⟩) hg1l).trans f2⟩, (hb.cell (p := ⟨g2, o2 + k * 2, none⟩) hg2l).trans f3, (hb.cell (p := ⟨g2, o2 + k * 2 + 1, none⟩) hg2l).trans f4⟩
              have hS0 := hSS _ (Below.refl _ _)
              go_wp2
              refine wp_region_held (S := fun Z => (Z.cell? ⟨g1, k * 2, none⟩ = some (.slice ia N ic) ∧ Z.cell? ⟨g1, k * 2 + 1, none⟩ = some (.int .i64 sc)) ∧ (Z.cell? ⟨g2, o2 + k * 2, none⟩ = some (.slice wa N wc) ∧ Z.cell? ⟨g2, o2 + k * 2 + 1, none⟩ = some (.int .i64 sc))) (by kernel_rfl) ?_
              refine (show wpAnyH _ .any _ _ _ 10 (Array.replicate 10 false) _ wr.drew from ?_)
              refine takeD (i := 0) (d := 87) (v := .slice (some ⟨g1, 0, none⟩) ins.length ci) rfl (by kernel_rfl) (by kernel_rfl) (by kernel_rfl) (fun _ _ _ h => h) (fun oi ho => yields_now ho rfl fun Z hSw => ?_) hS0 ?_
              · obtain ⟨⟨s1, s2⟩, s3, s4⟩ := hSw
                go_simp
              simp only [Act.put, List.setIfInBounds_toArray, List.set_cons_zero, List.set_cons_succ]
              refine takeD (i := 1) (d := 88) (v := .int .i64 (k : Int)) rfl (by kernel_rfl) (by kernel_rfl) (by kernel_rfl) (fun _ _ _ h => h) (fun oi ho => yields_now ho rfl fun Z hSw => ?_) hS0 ?_
              · obtain ⟨⟨s1, s2⟩, s3, s4⟩ := hSw
                go_simp
              simp only [Act.put, List.setIfInBounds_toArray, List.set_cons_zero, List.set_cons_succ]
              refine takeD (i := 2) (d := 89) (v := .pointer (some ⟨g1, k * 2, none⟩)) rfl (by kernel_rfl) (by kernel_rfl) (by kernel_rfl) (fun _ _ _ h => h) (fun oi ho => yields_now ho rfl fun Z hSw => ?_) hS0 ?_
              · obtain ⟨⟨s1, s2⟩, s3, s4⟩ := hSw
                go_simp
              simp only [Act.put, List.setIfInBounds_toArray, List.set_cons_zero, List.set_cons_succ]
              refine takeD (i := 3) (d := 90) (v := .agg #[.slice ia N ic, .int .i64 sc]) rfl (by kernel_rfl) (by kernel_rfl) (by kernel_rfl) (fun _ _ _ h => h) (fun oi ho => yields_now ho rfl fun Z hSw => ?_) hS0 ?_
              · obtain ⟨⟨s1, s2⟩, s3, s4⟩ := hSw
                go_simp
              simp only [Act.put, List.setIfInBounds_toArray, List.set_cons_zero, List.set_cons_succ]
              refine takeD (i := 4) (d := 91) (v := .slice (some ⟨g2, o2, none⟩) ws.length cw) rfl (by kernel_rfl) (by kernel_rfl) (by kernel_rfl) (fun _ _ _ h => h) (fun oi ho => yields_now ho rfl fun Z hSw => ?_) hS0 ?_
              · obtain ⟨⟨s1, s2⟩, s3, s4⟩ := hSw
                go_simp
              simp only [Act.put, List.setIfInBounds_toArray, List.set_cons_zero, List.set_cons_succ]
              refine takeD (i := 5) (d := 92) (v := .int .i64 (k : Int)) rfl (by kernel_rfl) (by kernel_rfl) (by kernel_rfl) (fun _ _ _ h => h) (fun oi ho => yields_now ho rfl fun Z hSw => ?_) hS0 ?_
              · obtain ⟨⟨s1, s2⟩, s3, s4⟩ := hSw
                go_simp
              simp only [Act.put, List.setIfInBounds_toArray, List.set_cons_zero, List.set_cons_succ]
              refine takeD (i := 6) (d := 93) (v := .pointer (some ⟨g2, o2 + k * 2, none⟩)) rfl (by kernel_rfl) (by kernel_rfl) (by kernel_rfl) (fun _ _ _ h => h) (fun oi ho => yields_now ho rfl fun Z hSw => ?_) hS0 ?_
              · obtain ⟨⟨s1, s2⟩, s3, s4⟩ := hSw
                go_simp
              simp only [Act.put, List.setIfInBounds_toArray, List.set_cons_zero, List.set_cons_succ]
              refine takeD (i := 7) (d := 94) (v := .agg #[.slice wa N wc, .int .i64 sc]) rfl (by kernel_rfl) (by kernel_rfl) (by kernel_rfl) (fun _ _ _ h => h) (fun oi ho => yields_now ho rfl fun Z hSw => ?_) hS0 ?_
              · obtain ⟨⟨s1, s2⟩, s3, s4⟩ := hSw
                go_simp
              simp only [Act.put, List.setIfInBounds_toArray, List.set_cons_zero, List.set_cons_succ]
              refine wpAnyH_all (rs := [8]) (by kernel_rfl) (by simp) (fun i hi => ?_)
              obtain rfl := List.mem_singleton.1 hi
              refine wpOp_call rfl rfl rfl (by go_simp) cS ?_
              rintro e w7 ⟨rfl, hb7⟩
              have hS7 := hSS w7 hb7
              refine ⟨_, rfl, hS7, ?_⟩
              simp only [Act.put, List.setIfInBounds_toArray, List.set_cons_zero, List.set_cons_succ]
              refine takeD (i := 9) (d := 96) (v := .bool false) rfl (by kernel_rfl) (by kernel_rfl) (by kernel_rfl) (fun _ _ _ h => h) (fun oi ho => yields_now ho rfl fun Z hSw => ?_) hS7 ?_
              · obtain ⟨⟨s1, s2⟩, s3, s4⟩ := hSw
                go_simp
              simp only [Act.put, List.setIfInBounds_toArray, List.set_cons_zero, List.set_cons_succ]
              refine wpAnyH_done (by kernel_rfl) ?_ _
              have HB7 : Aside (Below wr.heap.size wr w7) := hbd.trans hb7
              have HCa : Aside (Cp Bc w7 (.slice (some ⟨g1, 0, none⟩) ins.length ci) ins (k + 1)) := (HC.out.below HB7.out).more
              have HSa : Aside (Same w4.heap.size w6 w7) := HS.out.below HB7.out
              have HBa : Aside (Below w.heap.size w w7) := HB.out.trans (HB7.out.mono HB.out.size)
              obtain ⟨p1, p2⟩ := hS7.1
              clear hS7 hS0 hSS cS hb7 hbd f1 f2 f3 f4 hg1l hg2l HC HS HB HB7
              go_wp2
              generalize wr = wr0 at *
              go_loopg [103] N (fun g2 vj wr => ∃ j : Nat, vj = .int .i64 (j : Int) ∧ j ≤ N ∧ N - j ≤ g2 ∧ Aside (Cp Bc wr (.slice (some ⟨g1, 0, none⟩) ins.length ci) ins (k + 1)) ∧ Aside (Same w4.heap.size w6 wr) ∧ Aside (Below w.heap.size w wr))
              case atStart => exact ⟨0, rfl, Nat.zero_le _, Nat.le_refl _, HCa, HSa, HBa⟩
              case round =>
                clear HCa HSa HBa p1 p2
                obtain ⟨j, rfl, hj, hg2, HCj, HSj, HBj⟩ := hrel
                by_cases hjN : j < N
                · have hjz : (j : Int) < (N : Int) := by omega
                  obtain ⟨g1', eg, p1, p2, _⟩ := HCE.out wr HCj.out
                  obtain rfl : g1 = g1' := by injection eg with eg; injection eg
                  obtain ⟨xs, hrow⟩ := HOW.out wr HCj.out
                  obtain ⟨g6, rfl⟩ : ∃ g6, ia = some ⟨g6, 0, none⟩ := by
                    rcases hrow.2 with ⟨e, h0⟩ | ⟨g', cp', cur, e, _⟩
                    · omega
                    · injection e with e; exact ⟨g', e⟩
                  have hxl : xs.length = N := by have := hrow.1; omega
                  have hfr := hrow.frozenAt j
                  obtain ⟨u, hu⟩ : ∃ u, wr.cell? ⟨g6, j, none⟩ = some u := ⟨_, (hrow.cellAt j (by omega)).trans (List.getElem?_eq_getElem (by omega))⟩
                  have st := hrow.stored j (.int .i64 0)
                  have hob := HOk.out g6 rfl
                  have HC2 : Aside (Cp Bc (wr.setCell ⟨g6, j, none⟩ (.int .i64 0)) (.slice (some ⟨g1, 0, none⟩) ins.length ci) ins (k + 1)) := HST.out _ _ g6 _ HCj.out rfl st.1 st.2
                  have HS2 : Aside (Same w4.heap.size w6 (wr.setCell ⟨g6, j, none⟩ (.int .i64 0))) := HSj.out.grown st.2 (fun q e => by injection e with e; omega)
                  have HB2' : Aside (Below w.heap.size w (wr.setCell ⟨g6, j, none⟩ (.int .i64 0))) := HBj.out.grown st.2 HBj.out.size (fun q e => by injection e with e; have h1 := HBc.out; have h2 := HB3.out.size; omega)
                  clear st hrow hxl eg hob HCj HSj HBj
                  go_wp2
                  go_roundg (N - (j + 1))
                  case measure => omega
                  case rel => exact ⟨j + 1, by go_num, by omega, Nat.le_refl _, HC2, HS2, HB2'⟩
                · have hjz : ¬ (j : Int) < (N : Int) := by omega
                  go_wp2
                  go_roundg (ins.length - (k + 1))
                  case measure => omega
                  case rel => exact ⟨k + 1, by go_num, by omega, Nat.le_refl _, HCj, HSj, HBj⟩
            · have hltz : ¬ (k : Int) < (ins.length : Int) := by omega
              have cTo := HTO.out wr HS.out HB.out
              go_wp2_with fail
              refine cTo.mono ?_
              rintro e w9 ⟨rfl, hb9⟩
              have HF : Aside (Below w.heap.size w w9) := HB.out.trans (hb9.mono HB.out.size)
              go_wp2
              go_ret
              exact ⟨rfl, HF.out⟩
  · have hne : (E != 0) = true := by rw [bne_iff_ne]; exact hE
    go_wp2
    go_ret
    exact ⟨rfl, HB2.out⟩
end Go.Proofs.YtikfaalbdnlelaaGreatDoor.Utf
