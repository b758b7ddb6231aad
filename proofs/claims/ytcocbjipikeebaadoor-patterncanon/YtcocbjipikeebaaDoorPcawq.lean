/-
  PatternCanon walked: what was read and printed is read as the same pattern, and printed alike.
-/
import Derived.Test.YtcocbjipikeebaaDoorGpr
import Derived.Test.YtcocbjipikeebaaDoorGpd
import Derived.Test.YtcocbjipikeebaaDoorGpm
namespace Go.Proofs.YtcocbjipikeebaaDoor.Pts
open Go Go.Lib Go.RowKit Utf Msk

theorem sgF_none (s : ByteArray) (p : Nat) : ∀ n, sgF [] s p n = none
  | 0 => rfl
  | n + 1 => by rw [sgF, lkp]; exact sgF_none s p n
theorem sgc_none (s : ByteArray) (p : Nat) : sgc [] s p = (if p < s.size then ((Utf8.decode s p).1 : Int) else -1) := by
  unfold sgc; rw [sgF_none]
theorem sgc_no2 (s : ByteArray) (p : Nat) : sgc [] s p ≠ -2 := by
  rw [sgc_none]; split <;> omega
theorem brk_none (s : ByteArray) (f p said : Nat) : brk [] s f p said = none := brk_no (sgc_no2 s p)
theorem elem_none {s : ByteArray} {all f p m q : Nat} (h : elem [] s all f p = some (m, q)) : m = all ∧ q = sgb [] s p := by
  unfold elem at h
  by_cases h1 : sgc [] s p = 63
  · rw [if_pos h1] at h
    simp only [Option.some.injEq, Prod.mk.injEq] at h
    exact ⟨h.1.symm, h.2.symm⟩
  · rw [if_neg h1, if_neg (sgc_no2 s p)] at h
    by_cases h2 : sgc [] s p = 91
    · rw [if_pos h2, brk_none, brk_none] at h
      split at h <;> cases h
    · rw [if_neg h2] at h; cases h
theorem prs_none (s : ByteArray) (all : Nat) : ∀ f p acc, p ≤ s.size → s.size < p + f → (∃ l, (prs [] s all f p acc).2.2 = acc ++ l ∧ ∀ x ∈ l, x = all) ∨ (prs [] s all f p acc).2.1 ≠ 0
  | 0, p, acc, h1, h2 => by omega
  | f + 1, p, acc, h1, h2 => by
    by_cases e1 : sgc [] s p = -1
    · rw [prs_end e1]; exact .inl ⟨[], by simp, fun x hx => by cases hx⟩
    · by_cases e2 : sgc [] s p = 63 ∨ sgc [] s p = 91 ∨ sgc [] s p = -2
      · by_cases e3 : acc.length = 32
        · rw [prs_long e1 e2 e3]; exact .inr (show (34 : Int) ≠ 0 by decide)
        · rw [prs_el e1 e2 e3]
          cases he : elem [] s all f p with
          | none => exact .inr (show (100 : Int) ≠ 0 by decide)
          | some y =>
            obtain ⟨m, q⟩ := y
            obtain ⟨rfl, rfl⟩ := elem_none he
            have hlt := sgb_lt (L := []) (fun x hx => by cases hx) (s := s) (p := p) e1
            have hle := (sgb_le (L := []) (fun x hx => by cases hx) (s := s) h1).2
            rcases prs_none s m f (sgb [] s p) (acc ++ [m]) hle (by omega) with ⟨l, h3, h4⟩ | h3
            · refine .inl ⟨m :: l, ?_, fun x hx => ?_⟩
              · show (prs [] s m f (sgb [] s p) (acc ++ [m])).2.2 = _
                rw [h3, List.append_assoc]; rfl
              · rcases List.mem_cons.1 hx with e | e
                · exact e
                · exact h4 x e
            · exact .inr h3
      · rw [prs_no e1 e2]; exact .inr (show (100 : Int) ≠ 0 by decide)
theorem allN_nil : allN [] = 0 := rfl
/-- What a text says where there are no letters: nothing, or no letter for each cell. -/
theorem pat_none {s : ByteArray} (h : (patT [] s).2.1 = 0) : s = ⟨#[]⟩ ∨ ∃ l, (patT [] s).2.2 = 0 :: l := by
  have hk := prs_none s (allN []) (s.size + 1) 0 [] (Nat.zero_le _) (by omega)
  rw [show prs [] s (allN []) (s.size + 1) 0 [] = patT [] s from rfl, allN_nil] at hk
  rcases hk with ⟨l, h1, h2⟩ | h1
  · rw [List.nil_append] at h1
    match l with
    | x :: l => exact .inr ⟨l, by rw [h1, h2 x (List.mem_cons_self ..)]⟩
    | [] =>
      left
      by_cases hz : s.size = 0
      · exact ba_eq (by have := ba_len s; rw [hz] at this; exact List.length_eq_zero_iff.1 this)
      · exfalso
        have e1 : sgc [] s 0 ≠ -1 := by rw [sgc_none, if_pos (by omega)]; omega
        have hp : patT [] s = prs [] s (allN []) (s.size + 1) 0 [] := rfl
        by_cases e2 : sgc [] s 0 = 63 ∨ sgc [] s 0 = 91 ∨ sgc [] s 0 = -2
        · rw [hp, prs_el e1 e2 (by simp)] at h h1
          cases he : elem [] s (allN []) s.size 0 with
          | none => rw [he] at h; exact absurd h (show (100 : Int) ≠ 0 by decide)
          | some y =>
            obtain ⟨m, q⟩ := y
            rw [he] at h h1
            obtain ⟨rfl, rfl⟩ := elem_none he
            have hlt := sgb_lt (L := []) (fun x hx => by cases hx) (s := s) (p := 0) e1
            have hle := (sgb_le (L := []) (fun x hx => by cases hx) (s := s) (p := 0) (Nat.zero_le _)).2
            rcases prs_none s (allN []) s.size (sgb [] s 0) [allN []] hle (by omega) with ⟨l, h3, _⟩ | h3
            · have h1' : (prs [] s (allN []) s.size (sgb [] s 0) [allN []]).2.2 = [] := h1
              rw [h3] at h1'
              cases h1'
            · exact h3 h
        · rw [hp, prs_no e1 e2] at h
          exact absurd h (show (100 : Int) ≠ 0 by decide)
  · exact absurd h h1

set_option maxRecDepth 100000 in
set_option maxHeartbeats 6000000 in
theorem patCanon_walk (L : List ByteArray) (al : Option Addr) (cl : Nat) (s : ByteArray) (w : World) (hlen : L.length ≤ 4611686018427387904) (hs : s.size ≤ 140737488355328) (hRL : ReadsO w al (L.map Value.string)) (hT : Tab w) (hU : Lib.Utf8Tabs 1 2 w) :
    Calls Tryd.prog 4 #[.slice al L.length cl, .string s] w fun e w' => e = .returned (.bool true) ∧ Below w.heap.size w w' := by
  have cA := awake10_any w hT hU
  have hw0 := hT.size
  have HRL : Aside (∀ W, Below w.heap.size w W → ReadsO W al (L.map Value.string)) := fun W hb => hRL.below hb
  have HU : Aside (∀ W, Below w.heap.size w W → Tab W ∧ Lib.Utf8Tabs 1 2 W) := fun W hb => ⟨hT.below hw0 hb, tabs_below hb (tabs_size hU) hU⟩
  clear hRL hT hU hw0
  go_enter Tryd.func4, Tryd.ntmps4
  go_wp2_with fail
  refine cA.mono ?_
  rintro e w1 ⟨rfl, hb1⟩
  have cN := new_any L al cl w1 hlen (HRL.out _ hb1)
  have hG := @new_good L
  generalize (newR L).1 = N1 at *
  generalize (newR L).2 = E at *
  clear cA HRL
  go_wp2_with fail
  refine cN.mono ?_
  rintro e w2 ⟨⟨v, rfl, hv1, hv2⟩, hb2⟩
  have HB2 : Aside (Below w.heap.size w w2) := hb1.trans (hb2.mono hb1.size)
  clear cN hb1 hb2
  by_cases hE : E = 0
  · subst hE
    obtain ⟨b, rk, rfl, hA, hRk⟩ := hv2 (by first | rfl | trivial)
    obtain ⟨h1, hl40, hnm, hnd⟩ := hG (by first | rfl | trivial)
    have hLs : ∀ x ∈ L, 1 ≤ x.size ∧ x.size ≤ 12 := fun x hx => name_len (hnm x hx)
    have HA : Aside (∀ W, Below w2.heap.size w2 W → IsAlpha W b L rk) := fun W hb => hA.is.below hb
    have HP : Aside (∀ W (T : ByteArray), Below w2.heap.size w2 W → T.size ≤ 140737488355328 → Calls Tryd.prog 11 #[.pointer (some ⟨b, 0, none⟩), .string T] W (ParseQ W (patT L T))) := fun W T hb hT => parse7_any (HA.out W hb) (HU.out W (HB2.out.trans (hb.mono HB2.out.size))).2 hnd (fun x hx => (hLs x hx).1) T hT
    have HPR : Aside (∀ W (ms : List Nat) (ao : Option Addr) (cap : Nat), Below w2.heap.size w2 W → Low ms → ms.length ≤ 32 → ReadsO W ao (msks ms) → Calls Tryd.prog 7 #[.pointer (some ⟨b, 0, none⟩), .slice ao ms.length cap] W (PrintQ W L ms)) := fun W ms ao cap hb hl h32 hR => print7_any (HA.out W hb) (fun x hx => (hLs x hx).2) (HU.out W (HB2.out.trans (hb.mono HB2.out.size))).1 ms hl (by omega) ao cap hR
    have HM : Aside ((∀ x ∈ L, nameP x) ∧ L.Nodup ∧ L.length ≤ 40 ∧ 1 ≤ L.length ∧ ∀ x ∈ L, 1 ≤ x.size ∧ x.size ≤ 12) := ⟨hnm, hnd, hl40, h1, hLs⟩
    have cP := HP.out w2 s (Below.refl _ _) hs
    have hS := pat_says (fun x hx => (hLs x hx).1) hl40 s
    generalize patT L s = R at *
    obtain ⟨R1, R2, R3⟩ := R
    clear hv1 hv2 hG hA hRk hnm hnd hl40 hLs h1
    go_wp2_with fail
    refine cP.mono ?_
    rintro e w3 ⟨⟨hne, rfl⟩ | ⟨h0, v3, rfl, ho⟩, hb3⟩
    · have HB3 : Aside (Below w.heap.size w w3) := HB2.out.trans (hb3.mono HB2.out.size)
      simp only at hne
      have hnz : (R2 != 0) = true := by rw [bne_iff_ne]; exact hne
      rcases hS with ⟨h0, _⟩ | ⟨he, hlt⟩
      · exact absurd h0 hne
      · simp only at he hlt
        have hltz : (R1 : Int) < (s.size : Int) := by omega
        have hge : (0 : Int) ≤ (R1 : Int) := by omega
        clear cP hb3 HP HPR
        rcases he with rfl | rfl
        · go_wp2
          go_ret
          exact ⟨rfl, HB3.out⟩
        · go_wp2
          go_ret
          exact ⟨rfl, HB3.out⟩
    · simp only at h0 ho
      subst h0
      obtain ⟨ap, cp, _, rfl, hr3⟩ := row_reads7 ho
      rcases hS with ⟨_, h32, hsub⟩ | ⟨h1 | h1, _⟩
      · simp only at h32 hsub
        have HB3 : Aside (Below w2.heap.size w2 w3) := hb3
        have HF3 : Aside (Below w.heap.size w w3) := HB2.out.trans (hb3.mono HB2.out.size)
        have HS : Aside (Low R3 ∧ R3.length ≤ 32 ∧ ∀ m ∈ R3, fineM L m) := ⟨subM_low hsub, h32, fun m hm => subM_fine HM.out.2.2.2.1 HM.out.2.2.1 (hsub m hm)⟩
        have HR3 : Aside (∀ W, Below w3.heap.size w3 W → ReadsO W ap (msks R3)) := fun W hb => hr3.below hb
        have cQ := HPR.out w3 R3 ap cp HB3.out HS.out.1 h32 hr3
        have hpp := pat_print HM.out.1 HM.out.2.1 HM.out.2.2.1 HS.out.1 (fun m hm => (HS.out.2.2 m hm).2) h32
        have htl := txtL_len (fun x hx => (HM.out.2.2.2.2 x hx).2) R3
        have hlz : ((R3.length : Int)) ≤ 32 := by omega
        clear cP hb3 hr3 ho hsub
        go_wp2_with fail
        refine cQ.mono ?_
        rintro e w4 ⟨⟨i, hi, _, hnf, rfl⟩ | ⟨_, ⟨hbig, rfl⟩ | ⟨_, rfl⟩⟩, hb4⟩
        · exact absurd (HS.out.2.2 _ (List.getElem_mem hi)) hnf
        · exact absurd hbig (by omega)
        · have HB4 : Aside (Below w2.heap.size w2 w4) := HB3.out.trans (hb4.mono HB3.out.size)
          have HF4 : Aside (Below w3.heap.size w3 w4) := hb4
          obtain ⟨T, hTT⟩ : ∃ T : ByteArray, T = ⟨(txtL L R3).toArray⟩ := ⟨_, rfl⟩
          have hTs : T.size ≤ 140737488355328 := by
            rw [hTT]
            show (txtL L R3).toArray.size ≤ _
            rw [List.size_toArray]; omega
          have cP2 := HP.out w4 T HB4.out hTs
          rw [← hTT] at hpp ⊢
          rw [hpp] at cP2
          have HTT : Aside (T = ⟨(txtL L R3).toArray⟩) := hTT
          clear cQ hb4 htl hpp hTs hTT
          go_wp2_with fail
          refine cP2.mono ?_
          rintro e w5 ⟨⟨hne, _⟩ | ⟨_, v5, rfl, ho5⟩, hb5⟩
          · exact absurd rfl hne
          · obtain ⟨aq, cq, _, rfl, hr5⟩ := row_reads7 ho5
            have HB5 : Aside (Below w2.heap.size w2 w5) := HB4.out.trans (hb5.mono HB4.out.size)
            have HF5 : Aside (Below w3.heap.size w3 w5) := HF4.out.trans (hb5.mono HF4.out.size)
            have HR5 : Aside (∀ W, Below w5.heap.size w5 W → ReadsO W aq (msks R3)) := fun W hb => hr5.below hb
            have cQ2 := HPR.out w5 R3 aq cq HB5.out HS.out.1 h32 hr5
            clear cP2 hb5 ho5 hr5 HB4 HF4
            go_wp2_with fail
            refine cQ2.mono ?_
            rintro e w6 ⟨⟨i, hi, _, hnf, rfl⟩ | ⟨_, ⟨hbig, rfl⟩ | ⟨_, rfl⟩⟩, hb6⟩
            · exact absurd (HS.out.2.2 _ (List.getElem_mem hi)) hnf
            · exact absurd hbig (by omega)
            · rw [← HTT.out]
              have HF6 : Aside (Below w3.heap.size w3 w6) := HF5.out.trans (hb6.mono HF5.out.size)
              have cS := refSameU_any R3 ap aq cp cq w6 (by omega) (HR3.out w6 HF6.out) (HR5.out w6 hb6)
              have htt : (T.toList == T.toList) = true := beq_self_eq_true _
              clear cQ2 hb6 HTT HP HPR HR3 HR5 HB5 HF5
              go_wp2_with fail
              refine cS.mono ?_
              rintro e w7 ⟨rfl, hb7⟩
              have HF7 : Aside (Below w.heap.size w w7) := HF3.out.trans ((HF6.out.trans (hb7.mono HF6.out.size)).mono HF3.out.size)
              clear cS hb7
              go_wp2
              go_ret
              exact ⟨rfl, HF7.out⟩
      · exact absurd h1 (show ¬ (0 : Int) = 100 by decide)
      · exact absurd h1 (show ¬ (0 : Int) = 34 by decide)
  · obtain rfl := hv1 hE
    have cP := parseP_any (W := w2) (pa := none) (L := []) (.inr ⟨rfl, rfl⟩) (HU.out w2 HB2.out).2 List.nodup_nil (fun x hx => by cases hx) s hs
    have hS := pat_says (L := []) (fun x hx => by cases hx) (Nat.zero_le _) s
    have hPN := @pat_none s
    generalize patT [] s = R at *
    obtain ⟨R1, R2, R3⟩ := R
    clear hv1 hv2 hG
    go_wp2_with fail
    refine cP.mono ?_
    rintro e w3 ⟨⟨hne, rfl⟩ | ⟨h0, v3, rfl, ho⟩, hb3⟩
    · have HB3 : Aside (Below w.heap.size w w3) := HB2.out.trans (hb3.mono HB2.out.size)
      simp only at hne
      have hnz : (R2 != 0) = true := by rw [bne_iff_ne]; exact hne
      rcases hS with ⟨h0, _⟩ | ⟨he, hlt⟩
      · exact absurd h0 hne
      · simp only at he hlt
        have hltz : (R1 : Int) < (s.size : Int) := by omega
        have hge : (0 : Int) ≤ (R1 : Int) := by omega
        clear cP hb3 hPN
        rcases he with rfl | rfl
        · go_wp2
          go_ret
          exact ⟨rfl, HB3.out⟩
        · go_wp2
          go_ret
          exact ⟨rfl, HB3.out⟩
    · simp only at h0 ho
      subst h0
      have HB3 : Aside (Below w.heap.size w w3) := HB2.out.trans (hb3.mono HB2.out.size)
      obtain ⟨ap, cp, _, rfl, hr3⟩ := row_reads7 ho
      rcases hPN rfl with rfl | ⟨l, hl⟩
      · have hem : (((⟨#[]⟩ : ByteArray).toList.isEmpty)) = true := by rw [ByteArray.toList_eq]; rfl
        clear cP hb3 ho hr3 hS hPN
        go_wp2
        go_ret
        exact ⟨rfl, HB3.out⟩
      · subst hl
        have hz : (0 : Int) < (((0 :: l : List Nat).length : Nat) : Int) := by simp
        obtain ⟨g, o, rfl, _, e2⟩ := hr3 0 (by simp [msks])
        have e3 : w3.cell? ⟨g, o, none⟩ = some (.int .u64 0) := by simpa [msks] using e2
        generalize (0 :: l : List Nat).length = n at *
        by_cases hse : s.toList.isEmpty = true
        · clear cP hb3 ho hr3 hS hPN e2
          go_wp2
          go_ret
          exact ⟨rfl, HB3.out⟩
        · have hse2 : s.toList.isEmpty = false := by simpa using hse
          clear cP hb3 ho hr3 hS hPN e2
          go_wp2
          go_ret
          exact ⟨rfl, HB3.out⟩
end Go.Proofs.YtcocbjipikeebaaDoor.Pts
