/-
  The library's merging of two ordered stretches (slices.symMergeCmpFunc) walked: by a search about the middle, a rotation, and the two halves by themselves.
-/
import Derived.Test.YthjgldjjplcncaaSrty
import Derived.Deep.DeepCutAuto
namespace Go.Proofs.Ythjgldjjplcncaa.Srt
open Go Go.Shelf Go.RowKit Go.Lib Go.Sort Go.Proofs
variable {α : Type} [Inhabited α]

set_option maxHeartbeats 8000000 in
set_option maxRecDepth 100000 in
theorem symMerge_mid (enc : α → Value) (cf : α → α → Int) (hO : SWO (ltOf cf)) (g : Nat) (cb : Array Value) (blk off cap sz : Nat) (d0 : Array α) (w0 : World) (R : Row1 enc w0 blk off d0) (hd0 : d0.size = sz) (hsz : sz < 4611686018427387904)
    (eg : ∀ args w, (callFunc g args).run Try.prog w = .ok (.enter g args) w) (hcmp : CmpLays1 Try.prog g cb enc cf blk off d0.size w0) (a m b : Nat) (d : Array α) (w : World) (hds : d.size = sz)
    (S : SW enc w0 blk off d w) (ham : a < m) (hmb : m < b) (hbs : b ≤ sz) (hl : SortedIn (ltOf cf) a m d) (hr : SortedIn (ltOf cf) m b d) (hm1 : ¬ m = a + 1) (hm2 : ¬ b = m + 1)
    (ih : ∀ (a' m' b' : Nat) (za zm zb : Int) (d : Array α) (w : World), b' - a' < b - a → za = a' → zm = m' → zb = b' → d.size = sz → SW enc w0 blk off d w → a' < m' → m' < b' → b' ≤ sz → SortedIn (ltOf cf) a' m' d → SortedIn (ltOf cf) m' b' d →
      Calls Try.prog 52 #[.slice (some ⟨blk, off, none⟩) sz cap, .int .i64 za, .int .i64 zm, .int .i64 zb, .func (.func g) #[] cb] w fun e w' => e = .returned (.tuple #[]) ∧ ∃ d', SW enc w0 blk off d' w' ∧ PermIn a' b' d d' ∧ SortedIn (ltOf cf) a' b' d') :
    Calls Try.prog 52 #[.slice (some ⟨blk, off, none⟩) sz cap, .int .i64 a, .int .i64 m, .int .i64 b, .func (.func g) #[] cb] w fun e w' => e = .returned (.tuple #[]) ∧ ∃ d', SW enc w0 blk off d' w' ∧ PermIn a b d d' ∧ SortedIn (ltOf cf) a b d' := by
  have HC : Aside _ := hcmp
  have S0 : Aside (SW enc w0 blk off d w) := S
  have HLR : Aside (SortedIn (ltOf cf) a m d ∧ SortedIn (ltOf cf) m b d) := ⟨hl, hr⟩
  have IH : Aside _ := ih
  clear S hl hr hcmp ih
  have mixed : Try.prog.follows .mixedOrders = true := by kernel_rfl
  have a3 := Try.isAgg3
  have z3 := Try.sizeOf3
  go_enter Try.func52, Try.ntmps52
  have hb1 : ((m : Int) - (a : Int) == 1) = false := by rw [beq_eq_false_iff_ne]; omega
  have hb2 : ((b : Int) - (m : Int) == 1) = false := by rw [beq_eq_false_iff_ne]; omega
  obtain ⟨mid, hmid⟩ : ∃ q, q = (a + b) / 2 := ⟨_, rfl⟩
  have HMD : Aside (mid = (a + b) / 2) := hmid
  have hmz : ((a : Int) + (b : Int)) / 2 = (mid : Int) := by omega
  have hmb1 : a + b ≤ 2 * mid + 1 ∧ 2 * mid ≤ a + b := by omega
  clear hmid
  obtain ⟨s0, r0, hs0, hr0⟩ : ∃ s0 r0, s0 = (if mid < m then mid + m - b else a) ∧ r0 = (if mid < m then mid else m) := ⟨_, _, rfl, rfl⟩
  have HS0 : Aside (s0 = (if mid < m then mid + m - b else a) ∧ r0 = (if mid < m then mid else m)) := ⟨hs0, hr0⟩
  have hbd : a ≤ s0 ∧ s0 ≤ r0 ∧ r0 ≤ m ∧ r0 ≤ mid ∧ mid + m ≤ b + s0 := by
    by_cases h : mid < m
    · rw [if_pos h] at hs0 hr0; omega
    · rw [if_neg h] at hs0 hr0; omega
  clear hs0 hr0
  go_upto_if 140 with fail
  go_cut [20, 21] from 138 to 148 (fun s20 s21 wd => s20 = .int .i64 s0 ∧ s21 = .int .i64 r0 ∧ wd = w)
  case first =>
    have hs0 := HS0.out.1
    have hr0 := HS0.out.2
    by_cases hmm : mid < m
    · have hmmz : (mid : Int) < (m : Int) := by omega
      rw [if_pos hmm] at hs0 hr0
      have hs0z : (mid : Int) + (m : Int) - (b : Int) = (s0 : Int) := by omega
      have hr0z : (mid : Int) = (r0 : Int) := by omega
      have HZ : Aside ((mid : Int) + (m : Int) - (b : Int) = (s0 : Int) ∧ (mid : Int) = (r0 : Int)) := ⟨hs0z, hr0z⟩
      clear hs0 hr0 hs0z hr0z
      go_wp2
      go_meet
      exact ⟨by rw [← HZ.out.1], by rw [← HZ.out.2], rfl⟩
    · have hmmz : ¬ (mid : Int) < (m : Int) := by omega
      rw [if_neg hmm] at hs0 hr0
      have HZ : Aside (s0 = a ∧ r0 = m) := ⟨hs0, hr0⟩
      clear hs0 hr0
      go_wp2
      go_meet
      exact ⟨by rw [HZ.out.1], by rw [HZ.out.2], rfl⟩
  case rest =>
    obtain ⟨rfl, rfl, rfl⟩ := hcut
    go_wp2
    go_loopg [20, 21] (r0 - s0) (fun g1 vi vj wr => ∃ (i j : Nat), vi = .int .i64 i ∧ vj = .int .i64 j ∧ s0 ≤ i ∧ i ≤ j ∧ j ≤ r0 ∧ j - i ≤ g1 ∧ Aside (SW enc w0 blk off d wr) ∧ Aside ((i = s0 ∨ ltOf cf d[mid + m - i]! d[i - 1]! = false) ∧ (j = r0 ∨ ltOf cf d[mid + m - j - 1]! d[j]! = true)))
    case atStart => exact ⟨s0, r0, rfl, rfl, by omega, by omega, by omega, by omega, S0, ⟨.inl rfl, .inl rfl⟩⟩
    case round =>
      clear S0
      obtain ⟨i, j, rfl, rfl, hmi, hij, hjb, hg1, S1, HF⟩ := hrel
      rename World => wr
      by_cases hlt : i < j
      · have hltz : (i : Int) < (j : Int) := by omega
        have l1 := S1.out.cl R (by omega) ((i + j) / 2) (by omega)
        have l2 := S1.out.cl R (by omega) (mid + m - 1 - (i + j) / 2) (by omega)
        have HX : Aside (ltOf cf d[mid + m - 1 - (i + j) / 2]! d[(i + j) / 2]! = decide (cf d[mid + m - 1 - (i + j) / 2]! d[(i + j) / 2]! < 0)) := rfl
        obtain ⟨x, hx⟩ : ∃ x, x = d[(i + j) / 2]! := ⟨_, rfl⟩
        obtain ⟨y, hy⟩ : ∃ x, x = d[mid + m - 1 - (i + j) / 2]! := ⟨_, rfl⟩
        have HE : Aside (x = d[(i + j) / 2]! ∧ y = d[mid + m - 1 - (i + j) / 2]!) := ⟨hx, hy⟩
        rw [← hx] at l1
        rw [← hy] at l2
        clear hx hy
        have hc := S1.out.cmp HC.out (by omega) y x
        obtain ⟨hN, hhN⟩ : ∃ q, q = (i + j) / 2 := ⟨_, rfl⟩
        obtain ⟨qN, hqN⟩ : ∃ q, q = mid + m - 1 - (i + j) / 2 := ⟨_, rfl⟩
        have e1 : (((i : Int) + (j : Int)) / 2).toNat = hN := by omega
        rw [← hhN] at l1
        rw [← hqN] at l2
        have p1 : (0 : Int) ≤ ((i : Int) + (j : Int)) / 2 := by omega
        have b1 : ((i : Int) + (j : Int)) / 2 < (sz : Int) := by omega
        have e2 : (mid : Int) + (m : Int) - 1 - ((i : Int) + (j : Int)) / 2 = (qN : Int) := by omega
        have p2 : (0 : Int) ≤ (qN : Int) := by omega
        have b2 : (qN : Int) < (sz : Int) := by omega
        have r2 : IntKind.i64.wrap (qN : Int) = (qN : Int) := by rw [IntKind.wrap_i64]; omega
        have HI1 : Aside (mid + m - ((i + j) / 2 + 1) = mid + m - 1 - (i + j) / 2) := by show _ = _; omega
        have HI2 : Aside (mid + m - (i + j) / 2 - 1 = mid + m - 1 - (i + j) / 2) := by show _ = _; omega
        clear hhN hqN
        by_cases hv : cf y x < 0
        · have hd : decide (cf y x < 0) = true := decide_eq_true hv
          go_wp2_with fail
          go_quiet_grown (first | (go_at_fn g; refine Calls.grown_of (hc _ _)))
          have S2 : Aside (SW enc w0 blk off d (grow (wr.drewN nq) osq)) := S1.out.grown nq osq
          clear l1 l2 hc S1 p1 b1 b2 e1 e2 p2 r2
          generalize grow (wr.drewN nq) osq = w2 at S2 ⊢
          clear nq osq
          go_wp2
          go_roundg ((i + j) / 2 - i)
          case measure => omega
          case rel => exact ⟨i, (i + j) / 2, rfl, by go_num, by omega, by omega, by omega, Nat.le_refl _, S2, ⟨HF.out.1, .inr (by rw [HI2.out, HX.out, ← HE.out.1, ← HE.out.2]; exact hd)⟩⟩
        · have hd : decide (cf y x < 0) = false := decide_eq_false hv
          go_wp2_with fail
          go_quiet_grown (first | (go_at_fn g; refine Calls.grown_of (hc _ _)))
          have S2 : Aside (SW enc w0 blk off d (grow (wr.drewN nq) osq)) := S1.out.grown nq osq
          clear l1 l2 hc S1 p1 b1 b2 e1 e2 p2 r2
          generalize grow (wr.drewN nq) osq = w2 at S2 ⊢
          clear nq osq
          go_wp2
          go_roundg (j - ((i + j) / 2 + 1))
          case measure => omega
          case rel => exact ⟨(i + j) / 2 + 1, j, by go_num, rfl, by omega, by omega, by omega, Nat.le_refl _, S2, ⟨.inr (by rw [HI1.out, Nat.add_sub_cancel, HX.out, ← HE.out.1, ← HE.out.2]; exact hd), HF.out.2⟩⟩
      · have hltz : ¬ (i : Int) < (j : Int) := by omega
        obtain rfl : i = j := by omega
        clear hltz hlt hij hg1
        obtain ⟨e, he⟩ : ∃ e, e = mid + m - i := ⟨_, rfl⟩
        have F : Found (ltOf cf) d a m b i := by
          have h1 := HS0.out.1
          have h2 := HS0.out.2
          rw [HMD.out] at h1 h2
          refine ⟨by rw [← h1]; exact hmi, by rw [← h2]; exact hjb, ?_, ?_⟩
          · rw [← h1, ← HMD.out]; exact HF.out.1
          · rw [← h2, ← HMD.out]; exact HF.out.2
        have hFb := F.bounds ham hmb
        have hp : ∀ d1 : Array α, (∀ x, d1[x]! = rotF (fun k => d[k]!) i m e x) → Parts (ltOf cf) d1 a i mid e b := fun d1 h => by
          have := F.parts hO ham hmb HLR.out.1 HLR.out.2 (d1 := d1) (by rw [← HMD.out, ← he]; exact h)
          rw [← HMD.out, ← he] at this
          exact this
        have HP : Aside _ := hp
        rw [← HMD.out, ← he] at hFb
        have hez : (mid : Int) + (m : Int) - (i : Int) = (e : Int) := by omega
        clear F hp he HF HLR
        go_upto_region 39 with fail
        go_cut [185] from 178 to 219 (fun v wd => v = .bool (decide (i < m ∧ m < e)) ∧ wd = wr)
        case first =>
          by_cases h1 : i < m
          · have h1z : (i : Int) < (m : Int) := by omega
            by_cases h2 : m < e
            · have h2z : (m : Int) < (e : Int) := by omega
              go_wp2_with fail
              go_meet
              exact ⟨by rw [decide_eq_true (p := i < m ∧ m < e) ⟨h1, h2⟩], rfl⟩
            · have h2z : ¬ (m : Int) < (e : Int) := by omega
              go_wp2_with fail
              go_meet
              exact ⟨by rw [decide_eq_false (p := i < m ∧ m < e) (fun h => h2 h.2)], rfl⟩
          · have h1z : ¬ (i : Int) < (m : Int) := by omega
            go_wp2_with fail
            go_meet
            exact ⟨by rw [decide_eq_false (p := i < m ∧ m < e) (fun h => h1 h.1)], rfl⟩
        case rest =>
        obtain ⟨rfl, rfl⟩ := hcut
        go_upto_if 185 with fail
        go_cut [191] from 178 to 219 (fun _ wd => ∃ d1, d1.size = sz ∧ Aside (SW enc w0 blk off d1 wd) ∧ Aside (PermIn a b d d1) ∧ Aside (Parts (ltOf cf) d1 a i mid e b))
        case first =>
          by_cases hc1 : i < m ∧ m < e
          · have hd : decide (i < m ∧ m < e) = true := decide_eq_true hc1
            have cR := rotate_any enc g cb blk off cap i m e sz (i : Int) (m : Int) (e : Int) d0 d w0 _ R (by omega) S1.out rfl rfl rfl (by omega) hc1.1 hc1.2 (by omega) (by omega)
            rw [hd]
            go_wp2_with fail
            refine cR.mono ?_
            rintro e' w1 ⟨rfl, d1, S2, P2, D2⟩
            have hP := permIn_mono _ _ _ _ _ _ (show a ≤ i by omega) (show e ≤ b by omega) (by omega) P2
            have HD1 : Aside (d1.size = sz ∧ SW enc w0 blk off d1 w1 ∧ PermIn a b d d1 ∧ Parts (ltOf cf) d1 a i mid e b) := ⟨P2.1.trans hds, S2, hP, HP.out d1 D2⟩
            clear cR S2 P2 D2 hP
            go_wp2_with fail
            go_meet
            exact ⟨d1, HD1.out.1, HD1.out.2.1, HD1.out.2.2.1, HD1.out.2.2.2⟩
          · have hd : decide (i < m ∧ m < e) = false := decide_eq_false hc1
            have hD : Parts (ltOf cf) d a i mid e b := HP.out d (fun x => by
              by_cases h1 : i = m
              · subst h1; exact (rotF_none1 _ _ _ _ (by omega)).symm
              · have : e = m := by omega
                subst this; exact (rotF_none2 _ _ _ _ (by omega)).symm)
            have HD1 : Aside (Parts (ltOf cf) d a i mid e b) := hD
            clear hD
            rw [hd]
            go_wp2_with fail
            go_meet
            exact ⟨d, hds, S1, permIn_refl _ _ _, HD1⟩
        case rest =>
        clear S1 HP
        obtain ⟨d1, hz1, S1, P1, Q1⟩ := hcut
        rename World => wr
        go_upto_region 41 with fail
        go_cut [199] from 178 to 219 (fun v wd => v = .bool (decide (a < i ∧ i < mid)) ∧ wd = wr)
        case first =>
          by_cases h1 : a < i
          · have h1z : (a : Int) < (i : Int) := by omega
            by_cases h2 : i < mid
            · have h2z : (i : Int) < (mid : Int) := by omega
              go_wp2_with fail
              go_meet
              exact ⟨by rw [decide_eq_true (p := a < i ∧ i < mid) ⟨h1, h2⟩], rfl⟩
            · have h2z : ¬ (i : Int) < (mid : Int) := by omega
              go_wp2_with fail
              go_meet
              exact ⟨by rw [decide_eq_false (p := a < i ∧ i < mid) (fun h => h2 h.2)], rfl⟩
          · have h1z : ¬ (a : Int) < (i : Int) := by omega
            go_wp2_with fail
            go_meet
            exact ⟨by rw [decide_eq_false (p := a < i ∧ i < mid) (fun h => h1 h.1)], rfl⟩
        case rest =>
        obtain ⟨rfl, rfl⟩ := hcut
        go_upto_if 199 with fail
        go_cut [205] from 178 to 219 (fun _ wd => ∃ d2, d2.size = sz ∧ Aside (SW enc w0 blk off d2 wd) ∧ Aside (PermIn a mid d1 d2 ∧ SortedIn (ltOf cf) a mid d2))
        case first =>
          by_cases hc1 : a < i ∧ i < mid
          · have hd : decide (a < i ∧ i < mid) = true := decide_eq_true hc1
            have cR := IH.out a i mid (a : Int) (i : Int) (mid : Int) d1 _ (by omega) rfl rfl rfl hz1 S1.out hc1.1 hc1.2 (by omega) Q1.out.s1 Q1.out.s2
            rw [hd]
            go_wp2_with fail
            refine cR.mono ?_
            rintro e' w1 ⟨rfl, d2, S2, P2, D2⟩
            have HD1 : Aside (d2.size = sz ∧ SW enc w0 blk off d2 w1 ∧ PermIn a mid d1 d2 ∧ SortedIn (ltOf cf) a mid d2) := ⟨P2.1.trans hz1, S2, P2, D2⟩
            clear cR S2 P2 D2
            go_wp2_with fail
            go_meet
            exact ⟨d2, HD1.out.1, HD1.out.2.1, HD1.out.2.2⟩
          · have hd : decide (a < i ∧ i < mid) = false := decide_eq_false hc1
            have hD : SortedIn (ltOf cf) a mid d1 := by
              by_cases h1 : a < i
              · have : i = mid := by omega
                subst this; exact Q1.out.s1
              · have : i = a := by omega
                subst this; exact Q1.out.s2
            have HD1 : Aside (SortedIn (ltOf cf) a mid d1) := hD
            clear hD
            rw [hd]
            go_wp2_with fail
            go_meet
            exact ⟨d1, hz1, S1, permIn_refl _ _ _, HD1.out⟩
        case rest =>
        clear S1
        obtain ⟨d2, hz2, S1, P2⟩ := hcut
        rename World => wr
        have hs3 : SortedIn (ltOf cf) mid e d2 := fun p q h1 h2 h3 => by
          rw [P2.out.1.2.1 p (by omega), P2.out.1.2.1 q (by omega)]; exact Q1.out.s3 p q h1 h2 h3
        have hs4 : SortedIn (ltOf cf) e b d2 := fun p q h1 h2 h3 => by
          rw [P2.out.1.2.1 p (by omega), P2.out.1.2.1 q (by omega)]; exact Q1.out.s4 p q h1 h2 h3
        have H34 : Aside (SortedIn (ltOf cf) mid e d2 ∧ SortedIn (ltOf cf) e b d2) := ⟨hs3, hs4⟩
        have hfin : ∀ d3, PermIn mid b d2 d3 → SortedIn (ltOf cf) mid b d3 → PermIn a b d d3 ∧ SortedIn (ltOf cf) a b d3 := fun d3 h1 h2 => by
          have := Q1.out.whole (by omega) (by omega) (by omega) P2.out.1 P2.out.2 h1 h2
          exact ⟨permIn_trans _ _ _ _ _ P1.out this.1, this.2⟩
        have HFN : Aside _ := hfin
        clear hs3 hs4 hfin P1 P2 Q1
        by_cases h1 : mid < e
        · have h1z : (mid : Int) < (e : Int) := by omega
          by_cases h2 : e < b
          · have h2z : (e : Int) < (b : Int) := by omega
            have cR := IH.out mid e b (mid : Int) (e : Int) (b : Int) d2 wr (by omega) rfl rfl rfl hz2 S1.out h1 h2 (by omega) H34.out.1 H34.out.2
            clear S1
            go_wp2_with fail
            refine cR.mono ?_
            rintro e' w1 ⟨rfl, d3, S2, P3, D3⟩
            have HD1 : Aside (SW enc w0 blk off d3 w1 ∧ PermIn a b d d3 ∧ SortedIn (ltOf cf) a b d3) := ⟨S2, HFN.out d3 P3 D3⟩
            clear cR S2 P3 D3
            go_wp2
            go_end0
            exact ⟨rfl, d3, HD1.out.1, HD1.out.2⟩
          · have h2z : ¬ (e : Int) < (b : Int) := by omega
            have heb : e = b := by omega
            have HD1 : Aside (PermIn a b d d2 ∧ SortedIn (ltOf cf) a b d2) := HFN.out d2 (permIn_refl _ _ _) (heb ▸ H34.out.1)
            clear heb
            go_wp2
            go_end0
            exact ⟨rfl, d2, S1.out, HD1.out⟩
        · have h1z : ¬ (mid : Int) < (e : Int) := by omega
          have heb : e = mid := by omega
          have HD1 : Aside (PermIn a b d d2 ∧ SortedIn (ltOf cf) a b d2) := HFN.out d2 (permIn_refl _ _ _) (heb ▸ H34.out.2)
          clear heb
          go_wp2
          go_end0
          exact ⟨rfl, d2, S1.out, HD1.out⟩
end Go.Proofs.Ythjgldjjplcncaa.Srt
