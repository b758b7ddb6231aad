/-
  The library's stable sort (slices.SortStableFunc) of up to forty values of one cell walked: the values, in order.
-/
import Derived.Test.YtikfaalbdnlelaaGreatDoorGsr
import Derived.Test.YtikfaalbdnlelaaGreatDoorIns
namespace Go.Proofs.YtikfaalbdnlelaaGreatDoor.Srt
open Go Go.Shelf Go.RowKit Go.Lib Go.Sort Go.Proofs
variable {α : Type} [Inhabited α]

theorem symMerge_fuel (enc : α → Value) (cf : α → α → Int) (hO : SWO (ltOf cf)) (g : Nat) (cb : Array Value) (blk off cap sz : Nat) (d0 : Array α) (w0 : World) (R : Row1 enc w0 blk off d0) (hd0 : d0.size = sz) (hsz : sz < 4611686018427387904)
    (eg : ∀ args w, (callFunc g args).run Tryz.prog w = .ok (.enter g args) w) (hcmp : CmpLays1 Tryz.prog g cb enc cf blk off d0.size w0) : ∀ (N a m b : Nat) (za zm zb : Int) (d : Array α) (w : World), b - a ≤ N → za = a → zm = m → zb = b → d.size = sz →
    SW enc w0 blk off d w → a < m → m < b → b ≤ sz → SortedIn (ltOf cf) a m d → SortedIn (ltOf cf) m b d →
    Calls Tryz.prog 84 #[.slice (some ⟨blk, off, none⟩) sz cap, .int .i64 za, .int .i64 zm, .int .i64 zb, .func (.func g) #[] cb] w fun e w' => e = .returned (.tuple #[]) ∧ ∃ d', SW enc w0 blk off d' w' ∧ PermIn a b d d' ∧ SortedIn (ltOf cf) a b d' := by
  intro N
  induction N with
  | zero => intro a m b za zm zb d w h1; omega
  | succ N ih =>
    intro a m b za zm zb d w hN hza hzm hzb hds S ham hmb hbs hl hr
    subst hza hzm hzb
    by_cases hm1 : m = a + 1
    · exact symMerge_one enc cf hO g cb blk off cap sz d0 w0 R hd0 hsz eg hcmp a m b d w hds S ham hmb hbs hr hm1
    · by_cases hm2 : b = m + 1
      · exact symMerge_last enc cf hO g cb blk off cap sz d0 w0 R hd0 hsz eg hcmp a m b d w hds S ham hmb hbs hl hm1 hm2
      · exact symMerge_mid enc cf hO g cb blk off cap sz d0 w0 R hd0 hsz eg hcmp a m b d w hds S ham hmb hbs hl hr hm1 hm2
          (fun a' m' b' za zm zb d w h => ih a' m' b' za zm zb d w (by omega))

theorem insertion_any (enc : α → Value) (cf : α → α → Int) (hO : SWO (ltOf cf)) (g : Nat) (cb : Array Value) (blk off cap sz a b : Nat) (za zb : Int) (d0 d : Array α) (w0 w : World) (R : Row1 enc w0 blk off d0) (hd0 : d0.size = sz) (hds : d.size = sz) (hsz : sz < 4611686018427387904)
    (eg : ∀ args w, (callFunc g args).run Tryz.prog w = .ok (.enter g args) w) (hcmp : CmpLays1 Tryz.prog g cb enc cf blk off d0.size w0) (S : SW enc w0 blk off d w) (hza : za = a) (hzb : zb = b) (hab : a ≤ b) (hb : b ≤ sz) :
    Calls Tryz.prog 83 #[.slice (some ⟨blk, off, none⟩) sz cap, .int .i64 za, .int .i64 zb, .func (.func g) #[] cb] w fun e w' => e = .returned (.tuple #[]) ∧ ∃ d', SW enc w0 blk off d' w' ∧ PermIn a b d d' ∧ SortedIn (ltOf cf) a b d' := by
  subst hza hzb
  have h := insertionSort_holds (lt := ltOf cf) hO d a b hab (by omega)
  have := Tryz.insertionSortCmpFunc_s enc cf g cb blk off cap a b d0 d w0 w eg hcmp R (by omega) S hab (by omega) (by omega)
  rw [hds] at this
  exact this.mono fun e w' ⟨he, hS⟩ => ⟨he, _, hS, h.1, h.2⟩

set_option maxHeartbeats 4000000 in
set_option maxRecDepth 100000 in
theorem stable_any (enc : α → Value) (cf : α → α → Int) (hO : SWO (ltOf cf)) (g : Nat) (cb : Array Value) (blk off cap sz : Nat) (d0 : Array α) (w0 : World) (R : Row1 enc w0 blk off d0) (hd0 : d0.size = sz) (h40 : sz ≤ 40)
    (eg : ∀ args w, (callFunc g args).run Tryz.prog w = .ok (.enter g args) w) (hcmp : CmpLays1 Tryz.prog g cb enc cf blk off d0.size w0) :
    Calls Tryz.prog 55 #[.slice (some ⟨blk, off, none⟩) sz cap, .int .i64 sz, .func (.func g) #[] cb] w0 fun e w' => e = .returned (.tuple #[]) ∧ ∃ d', SW enc w0 blk off d' w' ∧ PermIn 0 sz d0 d' ∧ SortedIn (ltOf cf) 0 sz d' := by
  have hI : Aside (∀ (a b : Nat) (za zb : Int) (d : Array α) (w : World), d.size = sz → SW enc w0 blk off d w → za = a → zb = b → a ≤ b → b ≤ sz → _) := fun a b za zb d w h1 h2 h3 h4 h5 h6 => insertion_any enc cf hO g cb blk off cap sz a b za zb d0 d w0 w R hd0 h1 (by omega) eg hcmp h2 h3 h4 h5 h6
  have hM : Aside _ := symMerge_fuel enc cf hO g cb blk off cap sz d0 w0 R hd0 (by omega) eg hcmp sz
  have S0 : SW enc w0 blk off d0 w0 := SW.start R.hH
  clear hcmp
  go_enter Tryz.func55, Tryz.ntmps55
  go_wp2
  go_loopg [7, 8] 3 (fun g1 va vb wr => ∃ (k : Nat) (dk : Array α), va = .int .i64 (20 * (k : Int)) ∧ vb = .int .i64 (20 * (k : Int) + 20) ∧ 20 * k ≤ sz ∧ 3 - k ≤ g1 ∧ dk.size = sz ∧ Aside (SW enc w0 blk off dk wr) ∧ Aside (PermIn 0 sz d0 dk ∧ (1 ≤ k → SortedIn (ltOf cf) 0 20 dk) ∧ (2 ≤ k → SortedIn (ltOf cf) 20 40 dk)))
  case atStart => exact ⟨0, d0, rfl, rfl, by omega, by omega, hd0, S0, ⟨permIn_refl _ _ _, fun h => by omega, fun h => by omega⟩⟩
  case round =>
    clear S0
    obtain ⟨k, dk, rfl, rfl, hk, hg1, hzk, S1, HD⟩ := hrel
    by_cases hlt : 20 * k + 20 ≤ sz
    · have hltz : 20 * (k : Int) + 20 ≤ (sz : Int) := by omega
      have cI := hI.out (20 * k) (20 * k + 20) (20 * (k : Int)) (20 * (k : Int) + 20) dk wr hzk S1.out (by omega) (by omega) (by omega) hlt
      clear S1
      go_wp2_with fail
      refine cI.mono ?_
      rintro e w1 ⟨rfl, d1, S2, P2, D2⟩
      have hP : PermIn 0 sz d0 d1 := permIn_trans _ _ _ _ _ HD.out.1 (permIn_mono _ _ _ _ _ _ (Nat.zero_le _) (by omega) (by omega) P2)
      have h1 : 1 ≤ k + 1 → SortedIn (ltOf cf) 0 20 d1 := fun _ => by
        by_cases h0 : k = 0
        · subst h0; exact D2
        · exact fun p q a1 a2 a3 => by rw [P2.2.1 p (by omega), P2.2.1 q (by omega)]; exact HD.out.2.1 (by omega) p q a1 a2 a3
      have h2 : 2 ≤ k + 1 → SortedIn (ltOf cf) 20 40 d1 := fun h => by
        obtain rfl : k = 1 := by omega
        exact D2
      have HD1 : Aside (d1.size = sz ∧ SW enc w0 blk off d1 w1 ∧ PermIn 0 sz d0 d1 ∧ (1 ≤ k + 1 → SortedIn (ltOf cf) 0 20 d1) ∧ (2 ≤ k + 1 → SortedIn (ltOf cf) 20 40 d1)) := ⟨P2.1.trans hzk, S2, hP, h1, h2⟩
      clear S2 P2 D2 hP h1 h2 HD cI
      go_wp2
      go_roundg (3 - (k + 1))
      case measure => omega
      case rel => exact ⟨k + 1, d1, by first | go_num | (congr 1; omega), by first | go_num | (congr 1; omega), by omega, Nat.le_refl _, HD1.out.1, HD1.out.2.1, HD1.out.2.2⟩
    · have hltz : ¬ 20 * (k : Int) + 20 ≤ (sz : Int) := by omega
      have cI := hI.out (20 * k) sz (20 * (k : Int)) sz dk wr hzk S1.out (by omega) rfl hk (Nat.le_refl _)
      clear S1
      go_wp2_with fail
      refine cI.mono ?_
      rintro e w1 ⟨rfl, d1, S2, P2, D2⟩
      have hP : PermIn 0 sz d0 d1 := permIn_trans _ _ _ _ _ HD.out.1 (permIn_mono _ _ _ _ _ _ (Nat.zero_le _) (Nat.le_refl _) (by omega) P2)
      have h1 : SortedIn (ltOf cf) 0 (min 20 sz) d1 := by
        by_cases h0 : k = 0
        · subst h0; exact fun p q a1 a2 a3 => D2 p q a1 a2 (by omega)
        · exact fun p q a1 a2 a3 => by rw [P2.2.1 p (by omega), P2.2.1 q (by omega)]; exact HD.out.2.1 (by omega) p q a1 a2 (by omega)
      have h2 : SortedIn (ltOf cf) 20 sz d1 := by
        by_cases h0 : k = 2
        · have : sz = 40 := by omega
          exact fun p q a1 a2 a3 => by rw [P2.2.1 p (by omega), P2.2.1 q (by omega)]; exact HD.out.2.2 (by omega) p q a1 a2 (by omega)
        · by_cases h1' : k = 1
          · subst h1'; exact D2
          · exact fun p q a1 a2 a3 => by omega
      have HD1 : Aside (PermIn 0 sz d0 d1 ∧ SortedIn (ltOf cf) 0 (min 20 sz) d1 ∧ SortedIn (ltOf cf) 20 sz d1) := ⟨hP, h1, h2⟩
      have hz1 : d1.size = sz := P2.1.trans hzk
      have S3 : Aside (SW enc w0 blk off d1 w1) := S2
      clear S2 P2 D2 hP h1 h2 HD cI
      go_wp2
      go_loopg [6, 7, 8] 60 (fun g1 vs va vb wr => ∃ (bs : Nat) (dk : Array α), vs = .int .i64 (bs : Int) ∧ 60 - bs ≤ g1 ∧ dk.size = sz ∧ Aside (SW enc w0 blk off dk wr) ∧ Aside ((bs = 20 ∧ PermIn 0 sz d0 dk ∧ SortedIn (ltOf cf) 0 (min 20 sz) dk ∧ SortedIn (ltOf cf) 20 sz dk) ∨ (bs = 40 ∧ PermIn 0 sz d0 dk ∧ SortedIn (ltOf cf) 0 sz dk)))
      case atStart => exact ⟨20, d1, rfl, by omega, hz1, S3, .inl ⟨rfl, HD1.out⟩⟩
      case round =>
        clear S3 HD1 hz1
        obtain ⟨bs, dk, rfl, hg1, hzk, S1, HD⟩ := hrel
        rename World => wr
        rcases HD.out with ⟨hbs, hD⟩ | ⟨hbs, hD⟩
        · subst hbs
          have HE : Aside (PermIn 0 sz d0 dk ∧ SortedIn (ltOf cf) 0 (min 20 sz) dk ∧ SortedIn (ltOf cf) 20 sz dk) := hD
          clear HD hD
          by_cases h20 : 20 < sz
          · have h20z : (20 : Int) < (sz : Int) := by omega
            go_wp2
            go_loopg [7, 8] 2 (fun g1 va vb wq => ∃ (k : Nat) (dq : Array α), va = .int .i64 (40 * (k : Int)) ∧ vb = .int .i64 (40 * (k : Int) + 40) ∧ k ≤ 1 ∧ 2 - k ≤ g1 ∧ dq.size = sz ∧ Aside (SW enc w0 blk off dq wq) ∧ Aside (PermIn 0 sz d0 dq ∧ (k = 0 → SortedIn (ltOf cf) 0 20 dq ∧ SortedIn (ltOf cf) 20 sz dq) ∧ (k = 1 → sz = 40 ∧ SortedIn (ltOf cf) 0 sz dq)))
            case atStart => exact ⟨0, dk, rfl, rfl, by omega, by omega, hzk, S1, ⟨HE.out.1, fun _ => ⟨fun p q a1 a2 a3 => HE.out.2.1 p q a1 a2 (by omega), HE.out.2.2⟩, fun h => by omega⟩⟩
            case round =>
              clear S1 HE hzk
              obtain ⟨k, dk, rfl, rfl, hk1, hg2, hzk, S1, HD⟩ := hrel
              rename World => wr
              by_cases hlt : 40 * k + 40 ≤ sz
              · have hltz : 40 * (k : Int) + 40 ≤ (sz : Int) := by omega
                have hk0 : k = 0 := by omega
                have hs40 : sz = 40 := by omega
                have cM := hM.out (40 * k) (40 * k + 20) (40 * k + 40) (40 * (k : Int)) (40 * (k : Int) + 20) (40 * (k : Int) + 40) dk wr (by omega) (by omega) (by omega) (by omega) hzk S1.out (by omega) (by omega) hlt
                  (by rw [hk0]; exact (HD.out.2.1 hk0).1) (by rw [hk0]; exact fun p q a1 a2 a3 => (HD.out.2.1 hk0).2 p q a1 a2 (by omega))
                have HK : Aside (k = 0 ∧ sz = 40) := ⟨hk0, hs40⟩
                clear S1 hk0 hs40
                go_wp2_with fail
                refine cM.mono ?_
                rintro e w1 ⟨rfl, d1, S2, P2, D2⟩
                have HD1 : Aside (d1.size = sz ∧ SW enc w0 blk off d1 w1 ∧ PermIn 0 sz d0 d1 ∧ (k + 1 = 0 → SortedIn (ltOf cf) 0 20 d1 ∧ SortedIn (ltOf cf) 20 sz d1) ∧ (k + 1 = 1 → sz = 40 ∧ SortedIn (ltOf cf) 0 sz d1)) := by
                  refine ⟨P2.1.trans hzk, S2, permIn_trans _ _ _ _ _ HD.out.1 (permIn_mono _ _ _ _ _ _ (Nat.zero_le _) (by omega) (by omega) P2), fun h => by omega, fun _ => ⟨HK.out.2, fun p q a1 a2 a3 => D2 p q (by have := HK.out.1; omega) a2 (by have := HK.out.2; omega)⟩⟩
                clear S2 P2 D2 HD cM
                go_wp2
                go_roundg (2 - (k + 1))
                case measure => omega
                case rel => exact ⟨k + 1, d1, by first | go_num | (congr 1; omega), by first | go_num | (congr 1; omega), by have := HK.out.1; omega, Nat.le_refl _, HD1.out.1, HD1.out.2.1, HD1.out.2.2⟩
              · have hltz : ¬ 40 * (k : Int) + 40 ≤ (sz : Int) := by omega
                by_cases hk0 : k = 0
                · have hm : 40 * (k : Int) + 20 < (sz : Int) := by omega
                  have cM := hM.out (40 * k) (40 * k + 20) sz (40 * (k : Int)) (40 * (k : Int) + 20) sz dk wr (by omega) (by omega) (by omega) rfl hzk S1.out (by omega) (by omega) (Nat.le_refl _)
                    (by rw [hk0]; exact (HD.out.2.1 hk0).1) (by rw [hk0]; exact (HD.out.2.1 hk0).2)
                  have HK : Aside (k = 0) := hk0
                  clear S1 hk0
                  go_wp2_with fail
                  refine cM.mono ?_
                  rintro e w1 ⟨rfl, d1, S2, P2, D2⟩
                  have HD1 : Aside (d1.size = sz ∧ SW enc w0 blk off d1 w1 ∧ PermIn 0 sz d0 d1 ∧ SortedIn (ltOf cf) 0 sz d1) := by
                    refine ⟨P2.1.trans hzk, S2, permIn_trans _ _ _ _ _ HD.out.1 (permIn_mono _ _ _ _ _ _ (Nat.zero_le _) (by omega) (by omega) P2), fun p q a1 a2 a3 => D2 p q (by have := HK.out; omega) a2 (by omega)⟩
                  clear S2 P2 D2 HD cM
                  go_wp2
                  go_roundg 20
                  case measure => omega
                  case rel => exact ⟨40, d1, rfl, by omega, HD1.out.1, HD1.out.2.1, .inr ⟨rfl, HD1.out.2.2⟩⟩
                · have hm : ¬ 40 * (k : Int) + 20 < (sz : Int) := by omega
                  have HD1 : Aside (PermIn 0 sz d0 dk ∧ SortedIn (ltOf cf) 0 sz dk) := ⟨HD.out.1, (HD.out.2.2 (by omega)).2⟩
                  clear hk0 HD
                  go_wp2
                  go_roundg 20
                  case measure => omega
                  case rel => exact ⟨40, dk, rfl, by omega, hzk, S1, .inr ⟨rfl, HD1.out⟩⟩
          · have h20z : ¬ (20 : Int) < (sz : Int) := by omega
            have HF : Aside (PermIn 0 sz d0 dk ∧ SortedIn (ltOf cf) 0 sz dk) := ⟨HE.out.1, fun p q a1 a2 a3 => HE.out.2.1 p q a1 a2 (by omega)⟩
            go_wp2
            go_end0
            exact ⟨rfl, dk, S1.out, HF.out.1, HF.out.2⟩
        · subst hbs
          have HF : Aside (PermIn 0 sz d0 dk ∧ SortedIn (ltOf cf) 0 sz dk) := hD
          have h40z : ¬ (40 : Int) < (sz : Int) := by omega
          clear HD hD
          go_wp2
          go_end0
          exact ⟨rfl, dk, S1.out, HF.out.1, HF.out.2⟩
set_option maxHeartbeats 1000000 in
theorem sortStable_any (enc : α → Value) (cf : α → α → Int) (hO : SWO (ltOf cf)) (g : Nat) (cb : Array Value) (blk off cap sz : Nat) (d0 : Array α) (w0 : World) (R : Row1 enc w0 blk off d0) (hd0 : d0.size = sz) (h40 : sz ≤ 40)
    (eg : ∀ args w, (callFunc g args).run Tryz.prog w = .ok (.enter g args) w) (hcmp : CmpLays1 Tryz.prog g cb enc cf blk off d0.size w0) :
    Calls Tryz.prog 25 #[.slice (some ⟨blk, off, none⟩) sz cap, .func (.func g) #[] cb] w0 fun e w' => e = .returned (.tuple #[]) ∧ ∃ d', SW enc w0 blk off d' w' ∧ PermIn 0 sz d0 d' ∧ SortedIn (ltOf cf) 0 sz d' := by
  have cS := stable_any enc cf hO g cb blk off cap sz d0 w0 R hd0 h40 eg hcmp
  clear hcmp
  go_enter Tryz.func25, Tryz.ntmps25
  go_wp2_with fail
  refine cS.mono ?_
  rintro e w' ⟨rfl, h⟩
  clear cS
  go_wp2
  go_end0
  exact ⟨rfl, h⟩
end Go.Proofs.YtikfaalbdnlelaaGreatDoor.Srt
