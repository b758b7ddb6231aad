/-
  PatternHits walked: the hits are just the words that fit, rising.
-/
import Derived.Test.YtcocbjipikeebaaGreatDoorGpr
import Derived.Test.YtcocbjipikeebaaGreatDoorPthq
import Derived.Test.YtcocbjipikeebaaGreatDoorGpm
namespace Go.Proofs.YtcocbjipikeebaaGreatDoor.Pts
open Go Go.Lib Go.RowKit Utf Msk

theorem hlread_big {W : World} (a : Option Addr) (s : ByteArray) (hs : 65536 < s.size) (hs2 : s.size ≤ 4611686018427387904) :
    Calls Tryz.prog 18 #[.pointer a, .string s] W fun e w' => e = .returned (.tuple #[.pointer none, .slice none 0 0, .int .i64 1]) ∧ w' = W := by
  have hz : (65536 : Int) < (s.size : Int) := by omega
  go_enter Tryz.func18, Tryz.ntmps18
  go_wp2
  go_ret3
  exact ⟨rfl, rfl⟩
theorem hitD_at {l : List (List Int × Int)} {p : List Nat} {k : Nat} (hk : k < l.length) : hitD l p (k + 1) = if fitL p l[k].1 = true then hitD l p k ++ [((k : Nat) : Int)] else hitD l p k := by
  rw [hitD, getD_at hk]
theorem hit_split {l : List (List Int × Int)} {p : List Nat} (k : Nat) : ∀ d, k + d ≤ l.length → ∃ t, hitD l p (k + d) = hitD l p k ++ t ∧ ∀ z ∈ t, (k : Int) ≤ z
  | 0, _ => ⟨[], by simp, fun z hz => by cases hz⟩
  | d + 1, h => by
    obtain ⟨t, e, ht⟩ := hit_split (l := l) (p := p) k d (by omega)
    have := hitD_at (l := l) (p := p) (k := k + d) (by omega)
    rw [show k + (d + 1) = k + d + 1 by omega, this]
    split
    · refine ⟨t ++ [((k + d : Nat) : Int)], by rw [e, List.append_assoc], fun z hz => ?_⟩
      rcases List.mem_append.1 hz with h1 | h1
      · exact ht z h1
      · rw [List.mem_singleton.1 h1]; omega
    · exact ⟨t, e, ht⟩
/-- The next hit, or none here. -/
theorem hit_step {l : List (List Int × Int)} {p : List Nat} {k : Nat} (hk : k < l.length) :
    (fitL p l[k].1 = true → (hitD l p l.length)[(hitD l p k).length]? = some (k : Int) ∧ (hitD l p (k + 1)).length = (hitD l p k).length + 1) ∧
    (fitL p l[k].1 = false → (∀ z, (hitD l p l.length)[(hitD l p k).length]? = some z → z ≠ (k : Int)) ∧ (hitD l p (k + 1)).length = (hitD l p k).length) := by
  obtain ⟨t, e, ht⟩ := hit_split (l := l) (p := p) (k + 1) (l.length - (k + 1)) (by omega)
  rw [show k + 1 + (l.length - (k + 1)) = l.length by omega] at e
  have hs := hitD_at (p := p) hk
  constructor
  · intro hf
    rw [if_pos hf] at hs
    rw [hs, List.append_assoc] at e
    refine ⟨?_, by rw [hs, List.length_append]; rfl⟩
    rw [e, List.getElem?_append_right (Nat.le_refl _), Nat.sub_self]; rfl
  · intro hf
    rw [if_neg (by rw [hf]; decide)] at hs
    rw [hs] at e
    refine ⟨fun z hz => ?_, by rw [hs]⟩
    rw [e, List.getElem?_append_right (Nat.le_refl _), Nat.sub_self] at hz
    have := ht _ (List.mem_of_getElem? hz)
    omega
theorem parseQ_one {L : List ByteArray} {s : ByteArray} {W : World} {e : Ending} {w' : World} (hL : ∀ x ∈ L, 1 ≤ x.size) (h40 : L.length ≤ 40) (h : ParseQ W (patT L s) e w') : ∃ (ms : List Nat) (ao : Option Addr) (cap : Nat) (a1 a2 : Int), e = .returned (.tuple #[.slice ao ms.length cap, .int .i64 a1, .int .i64 a2]) ∧ Low ms ∧ ms.length ≤ 32 ∧ ReadsO w' ao (msks ms) ∧ Below W.heap.size W w' := by
  have hS := pat_says hL h40 s
  obtain ⟨⟨_, rfl⟩ | ⟨h0, v, rfl, ho⟩, hb⟩ := h
  · exact ⟨[], none, 0, _, _, rfl, (fun m hm => (by cases hm)), Nat.zero_le _, (fun j hj => (by simp [msks] at hj)), hb⟩
  · obtain ⟨ao, cap, _, rfl, hr⟩ := row_reads7 ho
    rcases hS with ⟨_, h32, hsub⟩ | ⟨h1 | h1, _⟩
    · exact ⟨_, ao, cap, _, _, rfl, subM_low hsub, h32, hr, hb⟩
    · rw [h0] at h1; exact absurd h1 (by decide)
    · rw [h0] at h1; exact absurd h1 (by decide)
theorem hhitQ_slice {W : World} {zs : List Int} {e : Ending} {w' : World} (h : HitQ W zs e w') : ∃ ao cap, e = .returned (.slice ao zs.length cap) ∧ ReadsO w' ao (ints zs) ∧ Below W.heap.size W w' := by
  obtain ⟨⟨v, rfl, ho⟩, hb⟩ := h
  obtain ⟨ao, cap, _, rfl, hr⟩ := row_reads7 ho
  exact ⟨ao, cap, rfl, hr, hb⟩

set_option maxRecDepth 100000 in
set_option maxHeartbeats 6000000 in
theorem patHits_walk (L : List ByteArray) (al : Option Addr) (cl : Nat) (T s : ByteArray) (w : World) (hlen : L.length ≤ 4611686018427387904) (hTs : T.size ≤ 140737488355328) (hs : s.size ≤ 140737488355328) (hRL : ReadsO w al (L.map Value.string)) (hT : Tab w) (hU : Lib.Utf8Tabs 2 3 w) :
    Calls Tryz.prog 4 #[.slice al L.length cl, .string T, .string s] w fun e w' => e = .returned (.bool true) ∧ Below w.heap.size w w' := by
  have cA := awake10_any w hT hU
  have HRL : Aside (∀ W, Below w.heap.size w W → ReadsO W al (L.map Value.string)) := fun W hb => hRL.below hb
  have HU : Aside (∀ W, Below w.heap.size w W → Lib.Utf8Tabs 2 3 W) := fun W hb => tabs_below hb (tabs_size hU) hU
  clear hRL hT hU
  go_enter Tryz.func4, Tryz.ntmps4
  go_wp2_with fail
  refine cA.mono ?_
  rintro e w1 ⟨rfl, hb1⟩
  have cN := new_any L al cl w1 hlen (HRL.out _ hb1)
  have hG := @new_good L
  generalize (newR L).1 = N1 at *
  generalize (newR L).2 = E at *
  clear cA HRL
  go_wp2_with fail
  refine cN.mono ?_
  rintro e w2 ⟨⟨v, rfl, hv1, hv2⟩, hb2⟩
  have HB2 : Aside (Below w.heap.size w w2) := hb1.trans (hb2.mono hb1.size)
  clear cN hb1 hb2
  by_cases hE : E = 0
  · subst hE
    obtain ⟨b, rk, rfl, hA, hRk⟩ := hv2 (by first | rfl | trivial)
    obtain ⟨_, hl40, hnm, hnd⟩ := hG (by first | rfl | trivial)
    have hLs : ∀ x ∈ L, 1 ≤ x.size ∧ x.size ≤ 12 := fun x hx => name_len (hnm x hx)
    have HA : Aside (∀ W, Below w2.heap.size w2 W → IsAlpha W b L rk) := fun W hb => hA.is.below hb
    have HLS : Aside ((∀ x ∈ L, 1 ≤ x.size ∧ x.size ≤ 12) ∧ L.Nodup ∧ L.length ≤ 40) := ⟨hLs, hnd, hl40⟩
    have HSS : Aside (s.size ≤ 140737488355328) := hs
    have HP : Aside (∀ W, Below w2.heap.size w2 W → Calls Tryz.prog 19 #[.pointer (some ⟨b, 0, none⟩), .string s] W (ParseQ W (patT L s))) := fun W hb => parse7_any (HA.out W hb) (HU.out W (HB2.out.trans (hb.mono HB2.out.size))) HLS.out.2.1 (fun x hx => (HLS.out.1 x hx).1) s HSS.out
    by_cases hbig : 65536 < T.size
    · have cR := hlread_big (W := w2) (some ⟨b, 0, none⟩) T hbig (by omega)
      have cP := HP.out w2 (Below.refl _ _)
      clear hv1 hv2 hG hA hRk hnm hnd hLs hs
      go_wp2_with fail
      refine cR.mono ?_
      rintro e w3 ⟨rfl, hw⟩
      obtain rfl := hw.symm
      clear cR hw
      go_wp2_with fail
      refine cP.mono ?_
      rintro e w4 hp
      obtain ⟨ms, ap, cp, a1, a2, rfl, hlow, h32, hR, hb4⟩ := parseQ_one (fun x hx => (HLS.out.1 x hx).1) HLS.out.2.2 hp
      have HB4 : Aside (Below w.heap.size w w4) := HB2.out.trans (hb4.mono HB2.out.size)
      have cH := hits_nil ms (by omega) ap cp w4
      clear cP hp hlow hR hb4
      go_wp2_with fail
      refine cH.mono ?_
      rintro e w5 hh
      obtain ⟨ah, ch, rfl, _, hb5⟩ := hhitQ_slice hh
      have HB5 : Aside (Below w.heap.size w w5) := HB4.out.trans (hb5.mono HB4.out.size)
      have cL := len_nil w5
      clear cH hh hb5
      go_wp2_with fail
      refine cL.mono ?_
      rintro e w6 ⟨rfl, hw⟩
      obtain rfl := hw.symm
      clear cL hw
      go_wp2
      go_loopg [17, 51] 0 (fun g1 vk vi wr => vk = .int .i64 0 ∧ vi = .int .i64 0 ∧ Aside (Below w.heap.size w wr))
      case atStart => exact ⟨rfl, rfl, HB5⟩
      case round =>
        obtain ⟨rfl, rfl, HB⟩ := hrel
        go_wp2
        go_ret
        exact ⟨rfl, HB.out⟩
    · have cR := lread_any hA.is hRk hnd hLs T (by omega)
      obtain ⟨hok, hsrt, hmax⟩ := readT_ok L T
      clear hv1 hv2 hG hA hnm hbig hnd hRk hLs hs
      generalize (readT L T).1 = l at *
      generalize (readT L T).2 = bad at *
      go_wp2_with fail
      refine cR.mono ?_
      rintro e wx ⟨⟨xb, bv, rfl, hX, _⟩, hb3⟩
      have HBX2 : Aside (Below w2.heap.size w2 wx) := hb3
      have HX : Aside (∀ W, Below wx.heap.size wx W → IsLex W w2.heap.size xb L l) := fun W hb => hX.below hb
      have HOK : Aside (okE L l ∧ SortL l ∧ l.length ≤ 1000) := ⟨hok, hsrt, hmax⟩
      have cP := HP.out wx HBX2.out
      clear cR hb3 hX hok hsrt hmax HP
      go_wp2_with fail
      refine cP.mono ?_
      rintro e w4 hp
      obtain ⟨ms, ap, cp, a1, a2, rfl, hlow, h32, hR, hb4⟩ := parseQ_one (fun x hx => (HLS.out.1 x hx).1) HLS.out.2.2 hp
      have HB4 : Aside (Below wx.heap.size wx w4) := hb4
      have HMS : Aside (Low ms ∧ ms.length ≤ 32) := ⟨hlow, h32⟩
      have cH := hits_any (HX.out w4 hb4) HOK.out.2.2 HOK.out.2.1 (fun x hx => ⟨(HOK.out.1 x hx).1, (HOK.out.1 x hx).2.2.2.2⟩) ms hlow (by omega) ap cp hR
      have HR4 : Aside (∀ W, Below w4.heap.size w4 W → ReadsO W ap (msks ms)) := fun W hb => hR.below hb
      clear cP hp hlow hR hb4 h32
      go_wp2_with fail
      refine cH.mono ?_
      rintro e w5 hh
      obtain ⟨ah, ch, rfl, hRh, hb5⟩ := hhitQ_slice hh
      have HB5 : Aside (Below w4.heap.size w4 w5) := hb5
      have HX5 : Aside (∀ W, Below w5.heap.size w5 W → IsLex W w2.heap.size xb L l ∧ ReadsO W ap (msks ms) ∧ ReadsO W ah (ints (hitD l ms l.length))) := fun W hb => ⟨HX.out W (HB4.out.trans ((HB5.out.trans (hb.mono HB5.out.size)).mono HB4.out.size)), HR4.out W (HB5.out.trans (hb.mono HB5.out.size)), hRh.below hb⟩
      have HF5 : Aside (Below w.heap.size w w5) := HB2.out.trans ((HBX2.out.trans ((HB4.out.trans (HB5.out.mono HB4.out.size)).mono HBX2.out.size)).mono HB2.out.size)
      have cL := len_any (HX5.out w5 (Below.refl _ _)).1
      have hhl := hitD_len l ms l.length
      have HST : Aside (∀ k (hk : k < l.length), _) := fun k hk => hit_step (l := l) (p := ms) hk
      have hmax := HOK.out.2.2
      obtain ⟨NH, hNH⟩ : ∃ NH, (hitD l ms l.length).length = NH := ⟨_, rfl⟩
      have HNH : Aside ((hitD l ms l.length).length = NH) := hNH
      obtain ⟨NL, hNL⟩ : ∃ NL, l.length = NL := ⟨_, rfl⟩
      have HNL : Aside (l.length = NL) := hNL
      rw [hNH] at hhl ⊢
      rw [hNL] at hhl cL hmax
      obtain ⟨NM, hNM⟩ : ∃ NM, ms.length = NM := ⟨_, rfl⟩
      have HNM : Aside (ms.length = NM) := hNM
      rw [hNM]
      clear cH hh hb5 hRh hNH hNL hNM HB4 HR4 HB5
      go_wp2_with fail
      refine cL.mono ?_
      rintro e w6 ⟨rfl, hw⟩
      obtain rfl := hw.symm
      clear cL hw
      go_wp2
      go_loopg [17, 51] NL (fun g1 vk vi wr => ∃ k j : Nat, vk = .int .i64 (j : Int) ∧ vi = .int .i64 (k : Int) ∧ k ≤ NL ∧ NL - k ≤ g1 ∧ j ≤ k ∧ Aside ((hitD l ms k).length = j) ∧ Aside (Below w5.heap.size w5 wr))
      case atStart => exact ⟨0, 0, rfl, rfl, Nat.zero_le _, Nat.le_refl _, Nat.le_refl _, rfl, Below.refl _ _⟩
      case round =>
        obtain ⟨k, j, rfl, rfl, hk, hg1, hjk, HJ, HB⟩ := hrel
        by_cases hlt : k < NL
        · have hltz : (k : Int) < (NL : Int) := by omega
          have hkl : k < l.length := by rw [HNL.out]; exact hlt
          obtain ⟨hX, hRm, hRh⟩ := HX5.out wr HB.out
          have hok := HOK.out.1 l[k] (List.getElem_mem hkl)
          have hkk : ((k : Int) == (k : Int)) = true := beq_self_eq_true _
          have cW := word_any hX k hkl hok.2.2.2.2 hok.1
          obtain ⟨hs1, hs2⟩ := HST.out k hkl
          rw [HJ.out] at hs1 hs2
          have HM : Aside (∀ W, Below w5.heap.size w5 W → ∀ (ac : Option Addr) (cc : Nat), ReadsO W ac (ints l[k].1) → Calls Tryz.prog 9 #[.slice ap NM cp, .slice ac l[k].1.length cc] W fun e w' => e = .returned (.bool (fitL ms l[k].1)) ∧ Below W.heap.size W w') := fun W hb ac cc hR => by
            have := match_any ms HMS.out.1 l[k].1 ap cp ac cc W (by have := HMS.out.2; omega) (HX5.out W hb).2.1 hR
            rw [HNM.out] at this
            exact this
          clear hX hRm hok HJ
          generalize l[k].1 = c at *
          generalize l[k].2 = sc at *
          cases hf : fitL ms c with
          | true =>
            obtain ⟨h1, h2⟩ := hs1 hf
            have HJ2 : Aside ((hitD l ms (k + 1)).length = j + 1) := h2
            obtain ⟨hjH, hje⟩ := List.getElem?_eq_some_iff.1 h1
            have hjz : (j : Int) < (NH : Int) := by rw [← HNH.out]; omega
            obtain ⟨g, o, rfl, _, e2⟩ := hRh j (by simpa [Utf.ints] using hjH)
            rw [ints_at' hjH, hje] at e2
            rw [hf] at HM
            clear h1 h2 hjH hje hs1 hs2 hRh hf
            go_wp2_with fail
            refine cW.mono ?_
            rintro e w7 ⟨⟨vw, rfl, how⟩, hb7⟩
            obtain ⟨aw, cw, _, rfl, hrw⟩ := row_reads7 how
            have HB7 : Aside (Below w5.heap.size w5 w7) := HB.out.trans (hb7.mono HB.out.size)
            have cM := HM.out w7 HB7.out aw cw hrw
            generalize c.length = nc at *
            have hfc : ∀ W, (Instr.field 32 (.agg #[.slice aw nc cw, .int .i64 sc]) 0).run Tryz.prog W = .ok (.slice aw nc cw) W := fun W => by kernel_rfl
            clear cW how hrw hb7 HM
            go_wp2_with fail
            refine cM.mono ?_
            rintro e w8 ⟨rfl, hb8⟩
            have HB8 : Aside (Below w5.heap.size w5 w8) := HB7.out.trans (hb8.mono HB7.out.size)
            clear cM hb8
            go_wp2
            go_roundg (NL - (k + 1))
            case measure => omega
            case rel => exact ⟨k + 1, j + 1, by go_num, by go_num, by omega, Nat.le_refl _, by omega, HJ2, HB8⟩
          | false =>
            obtain ⟨h1, h2⟩ := hs2 hf
            have HJ2 : Aside ((hitD l ms (k + 1)).length = j) := h2
            rw [hf] at HM
            by_cases hjh : j < NH
            · have hjz : (j : Int) < (NH : Int) := by omega
              have hjH : j < (hitD l ms l.length).length := by rw [HNH.out]; exact hjh
              obtain ⟨g, o, rfl, _, e2⟩ := hRh j (by simpa [Utf.ints] using hjH)
              rw [ints_at' hjH] at e2
              have hz := h1 _ (List.getElem?_eq_getElem hjH)
              generalize (hitD l ms l.length)[j] = z at *
              have hzk : (z == (k : Int)) = false := by rw [beq_eq_false_iff_ne]; exact hz
              clear h1 h2 hjH hz hs1 hs2 hRh hf
              go_wp2_with fail
              refine cW.mono ?_
              rintro e w7 ⟨⟨vw, rfl, how⟩, hb7⟩
              obtain ⟨aw, cw, _, rfl, hrw⟩ := row_reads7 how
              have HB7 : Aside (Below w5.heap.size w5 w7) := HB.out.trans (hb7.mono HB.out.size)
              have cM := HM.out w7 HB7.out aw cw hrw
              generalize c.length = nc at *
              have hfc : ∀ W, (Instr.field 32 (.agg #[.slice aw nc cw, .int .i64 sc]) 0).run Tryz.prog W = .ok (.slice aw nc cw) W := fun W => by kernel_rfl
              clear cW how hrw hb7 HM
              go_wp2_with fail
              refine cM.mono ?_
              rintro e w8 ⟨rfl, hb8⟩
              have HB8 : Aside (Below w5.heap.size w5 w8) := HB7.out.trans (hb8.mono HB7.out.size)
              clear cM hb8
              go_wp2
              go_roundg (NL - (k + 1))
              case measure => omega
              case rel => exact ⟨k + 1, j, by go_num, rfl, by omega, Nat.le_refl _, by omega, HJ2, HB8⟩
            · have hjz : ¬ (j : Int) < (NH : Int) := by omega
              clear h1 h2 hs1 hs2 hRh hf
              go_wp2_with fail
              refine cW.mono ?_
              rintro e w7 ⟨⟨vw, rfl, how⟩, hb7⟩
              obtain ⟨aw, cw, _, rfl, hrw⟩ := row_reads7 how
              have HB7 : Aside (Below w5.heap.size w5 w7) := HB.out.trans (hb7.mono HB.out.size)
              have cM := HM.out w7 HB7.out aw cw hrw
              generalize c.length = nc at *
              have hfc : ∀ W, (Instr.field 32 (.agg #[.slice aw nc cw, .int .i64 sc]) 0).run Tryz.prog W = .ok (.slice aw nc cw) W := fun W => by kernel_rfl
              clear cW how hrw hb7 HM
              go_wp2_with fail
              refine cM.mono ?_
              rintro e w8 ⟨rfl, hb8⟩
              have HB8 : Aside (Below w5.heap.size w5 w8) := HB7.out.trans (hb8.mono HB7.out.size)
              clear cM hb8
              go_wp2
              go_roundg (NL - (k + 1))
              case measure => omega
              case rel => exact ⟨k + 1, j, by go_num, rfl, by omega, Nat.le_refl _, by omega, HJ2, HB8⟩
        · have hltz : ¬ (k : Int) < (NL : Int) := by omega
          have hjj : ((j : Int) == (NH : Int)) = true := by
            have h1 := HJ.out
            have h2 := HNH.out
            have h3 := HNL.out
            rw [h3, show NL = k by omega, h1] at h2
            rw [beq_iff_eq, h2]
          have HF : Aside (Below w.heap.size w wr) := HF5.out.trans (HB.out.mono HF5.out.size)
          clear HST
          go_wp2
          go_ret
          exact ⟨rfl, HF.out⟩
  · have hEz : (E != 0) = true := by rw [bne_iff_ne]; exact hE
    obtain rfl := hv1 hE
    clear hG hv1 hv2
    go_wp2
    go_ret
    exact ⟨rfl, HB2.out⟩
end Go.Proofs.YtcocbjipikeebaaGreatDoor.Pts
