/-
  PatternFits walked: Match, Meet and Hits of any masks and words are the document's; a word fits the meet of two just if it fits both.
-/
import Derived.Test.YtcocbjipikeebaaGreatDoorGpr
import Derived.Test.YtcocbjipikeebaaGreatDoorGpd
import Derived.Test.YtcocbjipikeebaaGreatDoorPthq
import Derived.Test.YtcocbjipikeebaaGreatDoorGnn
import Derived.Test.YtcocbjipikeebaaGreatDoorRnwq
import Derived.Test.YtcocbjipikeebaaGreatDoorEqiq
import Derived.BigQuiet
namespace Go.Proofs.YtcocbjipikeebaaGreatDoor.Pts
open Go Go.Lib Go.RowKit Utf Msk

/-- What Meet answers, nothing where the lengths are unlike. -/
def mt (p q : List Nat) : List Nat := if p.length = q.length then meetL p q else []
theorem mt_low {p q : List Nat} (hp : Low p) : Low (mt p q) := by
  unfold mt
  split
  · exact meetL_low hp
  · intro m hm; cases hm
theorem mt_len {p q : List Nat} : (mt p q).length ≤ p.length := by
  unfold mt
  split
  · rename_i h; rw [meetL_len h]; exact Nat.le_refl _
  · exact Nat.zero_le _
theorem fit_mt {p q : List Nat} {c : List Int} (h : p.length = q.length) : fitL (mt p q) c = (fitL p c && fitL q c) := by
  unfold mt; rw [if_pos h]; exact fitL_meet h
theorem meetQ_one {W : World} {p q : List Nat} {e : Ending} {w' : World} (h : MeetQ W p q e w') : ∃ ao cap, e = .returned (.tuple #[.slice ao (mt p q).length cap, .bool (decide (p.length = q.length))]) ∧ ReadsO w' ao (msks (mt p q)) ∧ Below W.heap.size W w' := by
  obtain ⟨⟨hl, v, rfl, ho⟩ | ⟨hl, rfl⟩, hb⟩ := h
  · obtain ⟨ao, cap, _, rfl, hr⟩ := row_reads7 ho
    refine ⟨ao, cap, ?_, ?_, hb⟩
    · unfold mt; rw [if_pos hl, decide_eq_true hl]
    · unfold mt; rw [if_pos hl]; exact hr
  · refine ⟨none, 0, ?_, ?_, hb⟩
    · unfold mt; rw [if_neg hl, decide_eq_false hl]; rfl
    · unfold mt; rw [if_neg hl]; intro j hj; simp [msks] at hj
theorem hitQ_slice {W : World} {zs : List Int} {e : Ending} {w' : World} (h : HitQ W zs e w') : ∃ ao cap, e = .returned (.slice ao zs.length cap) ∧ ReadsO w' ao (ints zs) ∧ Below W.heap.size W w' := by
  obtain ⟨⟨v, rfl, ho⟩, hb⟩ := h
  obtain ⟨ao, cap, _, rfl, hr⟩ := row_reads7 ho
  exact ⟨ao, cap, rfl, hr, hb⟩

/-- A region that draws, walked in the text's order, over a class of worlds. -/
theorem wp_region_class {P : Program} {C : World → Prop} {id : Nat} {Q : Exit → Act → World → Prop} {a : Act} {w : World} {l : List Oper} (hm : P.follows .mixedOrders = true) (hB : Region.lexB .any l.toArray = true) (hC : C { w with drawn := w.drawn + 1 })
    (h : wpQuiet P l.toArray C (fun a' => ∀ w', C w' → Q .normal a' w') l a) : (Code.region id l.toArray true).wp P Q a w :=
  wp_region_quiet (C := C) hm hB hC (by simpa using h)

set_option maxRecDepth 100000 in
set_option maxHeartbeats 6000000 in
theorem patFits_walk (L : List ByteArray) (al : Option Addr) (cl : Nat) (ws : List WdV) (aw : Option Addr) (cw : Nat) (p q : List Nat) (ap aq : Option Addr) (cp cq : Nat) (w : World) (hlen : L.length ≤ 1048576) (hsm : ∀ x ∈ L, x.size ≤ 1048576) (hcap : L.length ≤ cl) (hRL : ReadsO w al (L.map Value.string)) (hwl : ws.length ≤ 1048576) (hws : ∀ x ∈ ws, x.c.length ≤ 1048576) (hRW : ReadsW w aw ws) (hpl : p.length ≤ 1048576) (hql : q.length ≤ 1048576) (hlp : Low p) (hlq : Low q) (hRp : ReadsO w ap (msks p)) (hRq : ReadsO w aq (msks q)) (hT : Tab w) (hU : Lib.Utf8Tabs 2 3 w) :
    Calls Tryz.prog 3 #[.slice al L.length cl, .slice aw ws.length cw, .agg #[.slice ap p.length cp, .slice aq q.length cq]] w fun e w' => e = .returned (.bool true) ∧ Below w.heap.size w w' := by
  obtain ⟨w0, hw0⟩ : ∃ w0, w0 = w.alloc (.cells #[.slice ap p.length cp, .slice aq q.length cq] 25) := ⟨_, rfl⟩
  have hB0 : Below w.heap.size w w0 := by rw [hw0]; exact below_box' w _
  have hx0 : Bx2 w0 w.heap.size 25 (.slice ap p.length cp) (.slice aq q.length cq) := by rw [hw0]; exact ⟨heap_box w _⟩
  have cA := awake10_any w0 (hT.below hT.size hB0) (tabs_below hB0 (tabs_size hU) hU)
  have HRL : Aside (∀ W, Below w.heap.size w W → ReadsO W al (L.map Value.string)) := fun W hb => hRL.below hb
  have HRW : Aside (∀ W, Below w.heap.size w W → ReadsW W aw ws) := fun W hb => hRW.below hb
  have HRP : Aside (∀ W, Below w.heap.size w W → ReadsO W ap (msks p) ∧ ReadsO W aq (msks q)) := fun W hb => ⟨hRp.below hb, hRq.below hb⟩
  have HSM : Aside (∀ x ∈ L, x.size ≤ 1048576) := hsm
  have HWS : Aside (∀ x ∈ ws, x.c.length ≤ 1048576) := hws
  have HLP : Aside (Low p ∧ Low q) := ⟨hlp, hlq⟩
  have HB0 : Aside (Below w.heap.size w w0) := hB0
  clear hRL hsm hRW hws hRp hRq hT hU hlp hlq hB0
  go_enter Tryz.func3, Tryz.ntmps3
  rw [hw0] at cA
  go_wp2_with fail
  rw [← hw0] at cA ⊢
  refine cA.mono ?_
  rintro e w1 ⟨rfl, hb1⟩
  have hx1 := hx0.keep hb1
  have HB1 : Aside (Below w.heap.size w w1) := HB0.out.trans (hb1.mono HB0.out.size)
  have k0 := hx1.c0
  have k1 := hx1.c1
  clear cA hb1 hx0 hw0 HB0
  go_wp2_with fail
  go_quiet (fail)
  have HB2 : Aside (Below w.heap.size w (w1.drewN nq)) := below_drewN HB1.out _
  generalize w1.drewN nq = w2 at *
  obtain ⟨hr1, hr2⟩ := HRP.out w2 HB2.out
  have cM := meet_any p q HLP.out.1 HLP.out.2 ap aq cp cq w2 hpl hr1 hr2
  clear k0 k1 hx1 HB1 hr1 hr2
  go_wp2_with fail
  refine cM.mono ?_
  rintro e w3 hm
  obtain ⟨am, cm, rfl, hrm, hb3⟩ := meetQ_one hm
  have HB3 : Aside (Below w.heap.size w w3) := HB2.out.trans (hb3.mono HB2.out.size)
  obtain ⟨hr1, hr2⟩ := HRP.out w3 HB3.out
  have cN := refMeetL_any p q HLP.out.1 HLP.out.2 ap aq cp cq w3 hpl hr1 hr2
  have HRM3 : Aside (∀ W, Below w3.heap.size w3 W → ReadsO W am (msks (mt p q))) := fun W hb => hrm.below hb
  clear cM hm hrm hb3 HB2 hr1 hr2
  go_wp2_with fail
  refine cN.mono ?_
  rintro e w4 hn
  obtain ⟨an, cn, rfl, hrn, hb4⟩ := meetQ_one hn
  have HB4 : Aside (Below w.heap.size w w4) := HB3.out.trans (hb4.mono HB3.out.size)
  have HRM4 : Aside (∀ W, Below w4.heap.size w4 W → ReadsO W am (msks (mt p q))) := fun W hb => HRM3.out W (hb4.trans (hb.mono hb4.size))
  have hml := @mt_len p q
  have cS := refSameU_any (mt p q) am an cm cn w4 (by omega) (HRM4.out w4 (Below.refl _ _)) hrn
  have HML : Aside (Low (mt p q)) := mt_low HLP.out.1
  obtain ⟨okb, hok⟩ : ∃ okb, decide (p.length = q.length) = okb := ⟨_, rfl⟩
  have HOKB : Aside (okb = true → ∀ c, fitL (mt p q) c = (fitL p c && fitL q c)) := fun h c => fit_mt (of_decide_eq_true (hok.trans h))
  rw [hok]
  have hbb : (okb != okb) = false := by rw [bne_eq_false_iff_eq]
  generalize mt p q = mm at *
  clear cN hn hrn hb4 HRM3 HB3 hok
  go_wp2_with fail
  refine cS.mono ?_
  rintro e w5 ⟨rfl, hb5⟩
  have HB5 : Aside (Below w.heap.size w w5) := HB4.out.trans (hb5.mono HB4.out.size)
  have HRM5 : Aside (∀ W, Below w5.heap.size w5 W → ReadsO W am (msks mm)) := fun W hb => HRM4.out W (hb5.trans (hb.mono hb5.size))
  clear cS hb5 HRM4 HB4
  go_wp2
  go_loopg [55] ws.length (fun g1 vi wr => ∃ k : Nat, vi = .int .i64 (k : Int) ∧ k ≤ ws.length ∧ ws.length - k ≤ g1 ∧ Aside (Below w5.heap.size w5 wr))
  case atStart => exact ⟨0, rfl, Nat.zero_le _, Nat.le_refl _, Below.refl _ _⟩
  case round =>
    obtain ⟨k, rfl, hk, hg1, HB⟩ := hrel
    have HBw : Aside (Below w.heap.size w wr) := HB5.out.trans (HB.out.mono HB5.out.size)
    by_cases hlt : k < ws.length
    · have hltz : (k : Int) < (ws.length : Int) := by omega
      obtain ⟨g, o, rfl, e2, e3, e4, e5, e6⟩ := HRW.out wr HBw.out k hlt
      have hmk := HWS.out _ (List.getElem_mem hlt)
      generalize ws[k].c = c at *
      generalize ws[k].s = sc at *
      generalize ws[k].ao = ao at *
      generalize ws[k].cap = cap at *
      have hbY : Below wr.heap.size wr (wr.alloc (.cells #[.slice ao c.length cap, .int .i64 sc] 32)) := below_box' wr _
      have hbx : Bx2 (wr.alloc (.cells #[.slice ao c.length cap, .int .i64 sc] 32)) wr.heap.size 32 (.slice ao c.length cap) (.int .i64 sc) := ⟨heap_box wr _⟩
      have HBY : Aside (Below w5.heap.size w5 (wr.alloc (.cells #[.slice ao c.length cap, .int .i64 sc] 32))) := HB.out.trans (hbY.mono HB.out.size)
      have HRC : Aside (ReadsO (wr.alloc (.cells #[.slice ao c.length cap, .int .i64 sc] 32)) ao (ints c)) := e5.below hbY
      have HKc : Aside (okb = true → fitL mm c = (fitL p c && fitL q c)) := fun h => HOKB.out h c
      go_wp2_with fail
      generalize hwY : wr.alloc (.cells #[.slice ao c.length cap, .int .i64 sc] 32) = wY at *
      generalize wr.heap.size = bw at *
      have HBYw : Aside (Below w.heap.size w wY) := HB5.out.trans (HBY.out.mono HB5.out.size)
      have HC : Aside (∀ Z, Below wY.heap.size wY Z → Bx2 Z bw 32 (.slice ao c.length cap) (.int .i64 sc)) := fun Z hb => hbx.keep hb
      have cMp : Aside (∀ Z, Below wY.heap.size wY Z → Calls Tryz.prog 9 #[.slice ap p.length cp, .slice ao c.length cap] Z fun e w' => e = .returned (.bool (fitL p c)) ∧ Below Z.heap.size Z w') := fun Z hb => match_any p HLP.out.1 c ap cp ao cap Z (by omega) ((HRP.out wY HBYw.out).1.below hb) (HRC.out.below hb)
      have cRp : Aside (∀ Z, Below wY.heap.size wY Z → Calls Tryz.prog 10 #[.slice ap p.length cp, .slice ao c.length cap] Z fun e w' => e = .returned (.bool (fitL p c)) ∧ Below Z.heap.size Z w') := fun Z hb => refMatch_any p HLP.out.1 c ap cp ao cap Z (by omega) ((HRP.out wY HBYw.out).1.below hb) (HRC.out.below hb)
      have cMq : Aside (∀ Z, Below wY.heap.size wY Z → Calls Tryz.prog 9 #[.slice aq q.length cq, .slice ao c.length cap] Z fun e w' => e = .returned (.bool (fitL q c)) ∧ Below Z.heap.size Z w') := fun Z hb => match_any q HLP.out.2 c aq cq ao cap Z (by omega) ((HRP.out wY HBYw.out).2.below hb) (HRC.out.below hb)
      have cMm : Aside (∀ Z, Below wY.heap.size wY Z → Calls Tryz.prog 9 #[.slice am mm.length cm, .slice ao c.length cap] Z fun e w' => e = .returned (.bool (fitL mm c)) ∧ Below Z.heap.size Z w') := fun Z hb => match_any mm HML.out c am cm ao cap Z (by omega) ((HRM5.out wY HBY.out).below hb) (HRC.out.below hb)
      generalize fitL p c = bp at *
      generalize fitL q c = bq at *
      generalize fitL mm c = bm at *
      generalize c.length = nc at *
      clear hbY hbx hwY e2 e3 e4 e5 e6 HBw HB HRC hmk
      have FIN : Aside (∀ Z, Below wY.heap.size wY Z → Below w5.heap.size w5 Z) := fun Z hb => HBY.out.trans (hb.mono HBY.out.size)
      clear HBYw HBY
      have HKo : Aside (okb = true → bm = (bp && bq)) := HKc.out
      clear HKc HOKB
      cases okb with
      | false =>
       cases bp with
       | false =>
        refine wp_region_class (C := fun Z => Below wY.heap.size wY Z) (by kernel_rfl) (by kernel_rfl) (Below.drew (Below.refl _ _)) ?_
        repeat (
          first
            | go_big_quiet_skip
            | (go_big_quiet_want; go_big_quiet_op
               first
                 | go_big_quiet_on
                 | (apply Exists.intro
                    refine ⟨fun W hW => ?_, ?_⟩
                    · first
                        | (with_reducible refine (cMp.out W hW).mono ?_; rintro e w6 ⟨rfl, hb6⟩; exact ⟨rfl, hW.trans (hb6.mono hW.size)⟩)
                        | (with_reducible refine (cRp.out W hW).mono ?_; rintro e w6 ⟨rfl, hb6⟩; exact ⟨rfl, hW.trans (hb6.mono hW.size)⟩)
                        | (with_reducible refine (cMm.out W hW).mono ?_; rintro e w6 ⟨rfl, hb6⟩; exact ⟨rfl, hW.trans (hb6.mono hW.size)⟩)
                        | (with_reducible refine (cMq.out W hW).mono ?_; rintro e w6 ⟨rfl, hb6⟩; exact ⟨rfl, hW.trans (hb6.mono hW.size)⟩)
                        | (have k0 := (HC.out W hW).c0; go_simp; exact rfl)
                    go_big_quiet_on)))
        refine wpQuiet_nil ?_
        intro w6 hb6
        have HB6 : Aside (Below w5.heap.size w5 w6) := FIN.out w6 hb6
        clear hb6 cMp cRp cMm cMq HC FIN
        go_wp2
        go_roundg (ws.length - (k + 1))
        case measure => omega
        case rel => exact ⟨k + 1, by go_num, by omega, Nat.le_refl _, HB6⟩
       | true =>
        refine wp_region_class (C := fun Z => Below wY.heap.size wY Z) (by kernel_rfl) (by kernel_rfl) (Below.drew (Below.refl _ _)) ?_
        repeat (
          first
            | go_big_quiet_skip
            | (go_big_quiet_want; go_big_quiet_op
               first
                 | go_big_quiet_on
                 | (apply Exists.intro
                    refine ⟨fun W hW => ?_, ?_⟩
                    · first
                        | (with_reducible refine (cMp.out W hW).mono ?_; rintro e w6 ⟨rfl, hb6⟩; exact ⟨rfl, hW.trans (hb6.mono hW.size)⟩)
                        | (with_reducible refine (cRp.out W hW).mono ?_; rintro e w6 ⟨rfl, hb6⟩; exact ⟨rfl, hW.trans (hb6.mono hW.size)⟩)
                        | (with_reducible refine (cMm.out W hW).mono ?_; rintro e w6 ⟨rfl, hb6⟩; exact ⟨rfl, hW.trans (hb6.mono hW.size)⟩)
                        | (with_reducible refine (cMq.out W hW).mono ?_; rintro e w6 ⟨rfl, hb6⟩; exact ⟨rfl, hW.trans (hb6.mono hW.size)⟩)
                        | (have k0 := (HC.out W hW).c0; go_simp; exact rfl)
                    go_big_quiet_on)))
        refine wpQuiet_nil ?_
        intro w6 hb6
        have HB6 : Aside (Below w5.heap.size w5 w6) := FIN.out w6 hb6
        clear hb6 cMp cRp cMm cMq HC FIN
        go_wp2
        go_roundg (ws.length - (k + 1))
        case measure => omega
        case rel => exact ⟨k + 1, by go_num, by omega, Nat.le_refl _, HB6⟩
      | true =>
       have hbm := HKo.out rfl
       clear HKo
       cases bp with
       | false =>
        obtain rfl : bm = false := hbm
        refine wp_region_class (C := fun Z => Below wY.heap.size wY Z) (by kernel_rfl) (by kernel_rfl) (Below.drew (Below.refl _ _)) ?_
        repeat (
          first
            | go_big_quiet_skip
            | (go_big_quiet_want; go_big_quiet_op
               first
                 | go_big_quiet_on
                 | (apply Exists.intro
                    refine ⟨fun W hW => ?_, ?_⟩
                    · first
                        | (with_reducible refine (cMp.out W hW).mono ?_; rintro e w6 ⟨rfl, hb6⟩; exact ⟨rfl, hW.trans (hb6.mono hW.size)⟩)
                        | (with_reducible refine (cRp.out W hW).mono ?_; rintro e w6 ⟨rfl, hb6⟩; exact ⟨rfl, hW.trans (hb6.mono hW.size)⟩)
                        | (with_reducible refine (cMm.out W hW).mono ?_; rintro e w6 ⟨rfl, hb6⟩; exact ⟨rfl, hW.trans (hb6.mono hW.size)⟩)
                        | (with_reducible refine (cMq.out W hW).mono ?_; rintro e w6 ⟨rfl, hb6⟩; exact ⟨rfl, hW.trans (hb6.mono hW.size)⟩)
                        | (have k0 := (HC.out W hW).c0; go_simp; exact rfl)
                    go_big_quiet_on)))
        refine wpQuiet_nil ?_
        intro w6 hb6
        have HB6 : Aside (Below w5.heap.size w5 w6) := FIN.out w6 hb6
        clear hb6 cMp cRp cMm cMq HC FIN
        go_wp2
        go_roundg (ws.length - (k + 1))
        case measure => omega
        case rel => exact ⟨k + 1, by go_num, by omega, Nat.le_refl _, HB6⟩
       | true =>
        cases bq with
        | false =>
          obtain rfl : bm = false := hbm
          refine wp_region_class (C := fun Z => Below wY.heap.size wY Z) (by kernel_rfl) (by kernel_rfl) (Below.drew (Below.refl _ _)) ?_
          repeat (
            first
              | go_big_quiet_skip
              | (go_big_quiet_want; go_big_quiet_op
                 first
                   | go_big_quiet_on
                   | (apply Exists.intro
                      refine ⟨fun W hW => ?_, ?_⟩
                      · first
                          | (with_reducible refine (cMp.out W hW).mono ?_; rintro e w6 ⟨rfl, hb6⟩; exact ⟨rfl, hW.trans (hb6.mono hW.size)⟩)
                          | (with_reducible refine (cRp.out W hW).mono ?_; rintro e w6 ⟨rfl, hb6⟩; exact ⟨rfl, hW.trans (hb6.mono hW.size)⟩)
                          | (with_reducible refine (cMm.out W hW).mono ?_; rintro e w6 ⟨rfl, hb6⟩; exact ⟨rfl, hW.trans (hb6.mono hW.size)⟩)
                          | (with_reducible refine (cMq.out W hW).mono ?_; rintro e w6 ⟨rfl, hb6⟩; exact ⟨rfl, hW.trans (hb6.mono hW.size)⟩)
                          | (have k0 := (HC.out W hW).c0; go_simp; exact rfl)
                      go_big_quiet_on)))
          refine wpQuiet_nil ?_
          intro w6 hb6
          have HB6 : Aside (Below w5.heap.size w5 w6) := FIN.out w6 hb6
          clear hb6 cMp cRp cMm cMq HC FIN
          go_wp2
          go_roundg (ws.length - (k + 1))
          case measure => omega
          case rel => exact ⟨k + 1, by go_num, by omega, Nat.le_refl _, HB6⟩
        | true =>
          obtain rfl : bm = true := hbm
          refine wp_region_class (C := fun Z => Below wY.heap.size wY Z) (by kernel_rfl) (by kernel_rfl) (Below.drew (Below.refl _ _)) ?_
          repeat (
            first
              | go_big_quiet_skip
              | (go_big_quiet_want; go_big_quiet_op
                 first
                   | go_big_quiet_on
                   | (apply Exists.intro
                      refine ⟨fun W hW => ?_, ?_⟩
                      · first
                          | (with_reducible refine (cMp.out W hW).mono ?_; rintro e w6 ⟨rfl, hb6⟩; exact ⟨rfl, hW.trans (hb6.mono hW.size)⟩)
                          | (with_reducible refine (cRp.out W hW).mono ?_; rintro e w6 ⟨rfl, hb6⟩; exact ⟨rfl, hW.trans (hb6.mono hW.size)⟩)
                          | (with_reducible refine (cMm.out W hW).mono ?_; rintro e w6 ⟨rfl, hb6⟩; exact ⟨rfl, hW.trans (hb6.mono hW.size)⟩)
                          | (with_reducible refine (cMq.out W hW).mono ?_; rintro e w6 ⟨rfl, hb6⟩; exact ⟨rfl, hW.trans (hb6.mono hW.size)⟩)
                          | (have k0 := (HC.out W hW).c0; go_simp; exact rfl)
                      go_big_quiet_on)))
          refine wpQuiet_nil ?_
          intro w6 hb6
          have HB6 : Aside (Below w5.heap.size w5 w6) := FIN.out w6 hb6
          clear hb6 cMp cRp cMm cMq HC FIN
          go_wp2
          go_roundg (ws.length - (k + 1))
          case measure => omega
          case rel => exact ⟨k + 1, by go_num, by omega, Nat.le_refl _, HB6⟩
    · have hltz : ¬ (k : Int) < (ws.length : Int) := by omega
      have cR := refNewB_any L HSM.out al cl (HRL.out _ HBw.out) ws aw cw (by omega) HWS.out (HRW.out _ HBw.out)
      have hRok : (newT L (toL ws)).2.2 = 0 → okE L (newT L (toL ws)).1 ∧ SortL (newT L (toL ws)).1 ∧ (newT L (toL ws)).1.length ≤ 1000 := fun h0 => by
        unfold newT at h0 ⊢
        by_cases hb : 1000 < (toL ws).length
        · rw [if_pos hb] at h0; exact absurd h0 (show ¬ (111 : Int) = 0 by decide)
        · rw [if_neg hb]; exact newW_ok _ 0 [] (fun _ h => by cases h) List.Pairwise.nil (by simpa using Nat.not_lt.1 hb)
      have HXN : Aside (∀ (W : World) (b : Nat) (rk : List Nat), Below w.heap.size w W → IsAlpha W b L rk → (∀ x ∈ L, x.size ≤ 12) → Calls Tryz.prog 14 #[.pointer (some ⟨b, 0, none⟩), .slice aw ws.length cw] W (NewQ W L (toL ws))) := fun W b rk hb hA h12 => newX_any hA h12 ws aw cw (by omega) (fun x hx => by have := HWS.out x hx; omega) (HRW.out W hb)
      unfold RNewP at cR
      unfold NewQ at HXN
      generalize newT L (toL ws) = R at *
      obtain ⟨R1, R2, R3⟩ := R
      simp only at hRok cR HXN
      clear HOKB HML HRM5 HB HB5
      go_wp2_with fail
      refine cR.mono ?_
      rintro e w6 ⟨⟨v2, es, rfl, hI, hle⟩, hb6⟩
      have HB6 : Aside (Below w.heap.size w w6) := HBw.out.trans (hb6.mono HBw.out.size)
      have HI : Aside (∀ Z, Below w6.heap.size w6 Z → IsWd wr.heap.size Z v2 es) := fun Z hb => hI.below hb
      have cF := refNew_any L al cl w6 hcap (by omega) (fun x hx => by have := HSM.out x hx; omega) (HRL.out _ HB6.out)
      have HN : Aside (∀ W, Below w.heap.size w W → _) := fun W hb => new_any L al cl W (by omega) (HRL.out _ hb)
      have hG := @new_good L
      generalize (newR L).1 = N1 at *
      generalize (newR L).2 = E at *
      clear cR hb6 hI HBw
      go_wp2_with fail
      refine cF.mono ?_
      rintro e w7 ⟨rfl, hb7⟩
      have HB7 : Aside (Below w.heap.size w w7) := HB6.out.trans (hb7.mono HB6.out.size)
      have HI7 : Aside (∀ Z, Below w7.heap.size w7 Z → IsWd wr.heap.size Z v2 es) := fun Z hb => HI.out Z (hb7.trans (hb.mono hb7.size))
      clear cF hb7 HI HB6
      by_cases hE : E = 0
      · subst hE
        by_cases hR3 : R3 = 0
        · subst hR3
          obtain ⟨hokE, hso, hll⟩ := hRok (by first | rfl | trivial)
          have cN := HN.out w7 HB7.out
          obtain ⟨_, hl40, hnm, hnd⟩ := hG (by first | rfl | trivial)
          have H12 : Aside (∀ x ∈ L, x.size ≤ 12) := fun x hx => (name_len (hnm x hx)).2
          have HOK : Aside (okE L R1 ∧ SortL R1 ∧ R1.length ≤ 1000) := ⟨hokE, hso, hll⟩
          have HLE : Aside (toL es = R1) := hle
          clear HN hG hnm hnd hRok hokE hso hle hll
          go_wp2_with fail
          refine cN.mono ?_
          rintro e w8 ⟨⟨v, rfl, hv1, hv2⟩, hb8⟩
          have HB8 : Aside (Below w.heap.size w w8) := HB7.out.trans (hb8.mono HB7.out.size)
          have HI8 : Aside (∀ Z, Below w8.heap.size w8 Z → IsWd wr.heap.size Z v2 es) := fun Z hb => HI7.out Z (hb8.trans (hb.mono hb8.size))
          obtain ⟨b, rk, rfl, hA, hRk⟩ := hv2 (by first | rfl | trivial)
          have cX := HXN.out w8 b rk HB8.out hA.is H12.out
          clear cN hv1 hv2 hb8 hA hRk HI7 HXN HB7
          go_wp2_with fail
          refine cX.mono ?_
          rintro e w9 ⟨⟨v9, rfl, hv1, hv2⟩, hb9⟩
          obtain ⟨xb, rfl, hX⟩ := hv2 (by first | rfl | trivial)
          have HB9 : Aside (Below w.heap.size w w9) := HB8.out.trans (hb9.mono HB8.out.size)
          have HRPl : Aside (∀ W, Below w9.heap.size w9 W → ReadsO W ap (msks p) ∧ ReadsO W aq (msks q)) := fun W hb => HRP.out W (HB9.out.trans (hb.mono HB9.out.size))
          have h32 : ∀ x ∈ R1, x.1.length ≤ 32 ∧ 1 ≤ x.1.length := fun x hx => ⟨(HOK.out.1 x hx).1, (HOK.out.1 x hx).2.2.2.2⟩
          have hes : es.length ≤ 1000 := by rw [← toL_len es, HLE.out]; exact HOK.out.2.2
          have hee : hitD (toL es) p es.length = hitD R1 p R1.length ∧ hitD (toL es) q es.length = hitD R1 q R1.length := by
            rw [HLE.out, ← toL_len es, HLE.out]; exact ⟨rfl, rfl⟩
          have HP1 : Aside (∀ W, Below w9.heap.size w9 W → Calls Tryz.prog 16 #[.pointer (some ⟨xb, 0, none⟩), .slice ap p.length cp] W (HitQ W (hitD R1 p R1.length))) := fun W hb => hits_any (hX.below hb) HOK.out.2.2 HOK.out.2.1 h32 p HLP.out.1 hpl ap cp (HRPl.out W hb).1
          have HP2 : Aside (∀ W, Below w9.heap.size w9 W → Calls Tryz.prog 16 #[.pointer (some ⟨xb, 0, none⟩), .slice aq q.length cq] W (HitQ W (hitD R1 q R1.length))) := fun W hb => hits_any (hX.below hb) HOK.out.2.2 HOK.out.2.1 h32 q HLP.out.2 hql aq cq (HRPl.out W hb).2
          have HD1 : Aside (∀ W, Below w9.heap.size w9 W → Calls Tryz.prog 17 #[v2, .slice ap p.length cp] W (HitQ W (hitD R1 p R1.length))) := fun W hb => by
            have := refHits_any (HI8.out W (hb9.trans (hb.mono hb9.size))) hes p HLP.out.1 hpl ap cp (HRPl.out W hb).1
            rw [hee.1] at this
            exact this
          have HD2 : Aside (∀ W, Below w9.heap.size w9 W → Calls Tryz.prog 17 #[v2, .slice aq q.length cq] W (HitQ W (hitD R1 q R1.length))) := fun W hb => by
            have := refHits_any (HI8.out W (hb9.trans (hb.mono hb9.size))) hes q HLP.out.2 hql aq cq (HRPl.out W hb).2
            rw [hee.2] at this
            exact this
          have hz1 : (hitD R1 p R1.length).length ≤ 1000 := Nat.le_trans (hitD_len R1 p _) HOK.out.2.2
          have hz2 : (hitD R1 q R1.length).length ≤ 1000 := Nat.le_trans (hitD_len R1 q _) HOK.out.2.2
          generalize hitD R1 p R1.length = z1 at *
          generalize hitD R1 q R1.length = z2 at *
          clear cX hv1 hv2 hb9 hX HI8 h32 hee hes HB8
          have c1 := HP1.out w9 (Below.refl _ _)
          clear HP1
          go_wp2_with fail
          refine c1.mono ?_
          rintro e w10 hh
          obtain ⟨a1, k1, rfl, hr1, hb10⟩ := hitQ_slice hh
          have HR1 : Aside (∀ W, Below w10.heap.size w10 W → ReadsO W a1 (Utf.ints z1)) := fun W hb => hr1.below hb
          have HB10 : Aside (Below w9.heap.size w9 w10) := hb10
          have c2 := HD1.out w10 hb10
          clear c1 hh hr1 hb10 HD1
          go_wp2_with fail
          refine c2.mono ?_
          rintro e w11 hh
          obtain ⟨a2, k2, rfl, hr2, hb11⟩ := hitQ_slice hh
          have HB11 : Aside (Below w9.heap.size w9 w11) := HB10.out.trans (hb11.mono HB10.out.size)
          have c3 := sameInts_any z1 z1 a1 a2 k1 k2 w11 (by omega) (by omega) (HR1.out _ hb11) hr2
          clear c2 hh hr2 hb11 HB10 HR1
          go_wp2_with fail
          refine c3.mono ?_
          rintro e w12 ⟨⟨_, rfl⟩ | ⟨hno, rfl⟩, hb12⟩
          · have HB12 : Aside (Below w9.heap.size w9 w12) := HB11.out.trans (hb12.mono HB11.out.size)
            have c4 := HP2.out w12 HB12.out
            clear c3 hb12 HP2 HB11
            go_wp2_with fail
            refine c4.mono ?_
            rintro e w13 hh
            obtain ⟨a3, k3, rfl, hr3, hb13⟩ := hitQ_slice hh
            have HR3 : Aside (∀ W, Below w13.heap.size w13 W → ReadsO W a3 (Utf.ints z2)) := fun W hb => hr3.below hb
            have HB13 : Aside (Below w9.heap.size w9 w13) := HB12.out.trans (hb13.mono HB12.out.size)
            have c5 := HD2.out w13 HB13.out
            clear c4 hh hr3 hb13 HD2 HB12
            go_wp2_with fail
            refine c5.mono ?_
            rintro e w14 hh
            obtain ⟨a4, k4, rfl, hr4, hb14⟩ := hitQ_slice hh
            have HB14 : Aside (Below w9.heap.size w9 w14) := HB13.out.trans (hb14.mono HB13.out.size)
            have c6 := sameInts_any z2 z2 a3 a4 k3 k4 w14 (by omega) (by omega) (HR3.out _ hb14) hr4
            clear c5 hh hr4 hb14 HB13 HR3
            go_wp2_with fail
            refine c6.mono ?_
            rintro e w15 ⟨⟨_, rfl⟩ | ⟨hno, rfl⟩, hb15⟩
            · have HB15 : Aside (Below w9.heap.size w9 w15) := HB14.out.trans (hb15.mono HB14.out.size)
              have c7 := hits_nil p hpl ap cp w15
              clear c6 hb15 HB14
              go_wp2_with fail
              refine c7.mono ?_
              rintro e w16 hh
              obtain ⟨a5, k5, rfl, _, hb16⟩ := hitQ_slice hh
              have HB16 : Aside (Below w9.heap.size w9 w16) := HB15.out.trans (hb16.mono HB15.out.size)
              clear c7 hh hb16
              go_wp2
              go_ret
              exact ⟨rfl, HB9.out.trans (HB16.out.mono HB9.out.size)⟩
            · exact absurd trivial hno
          · exact absurd trivial hno
        · have hRz : (R3 != 0) = true := by rw [bne_iff_ne]; exact hR3
          clear HN hG hRok HXN hle
          go_wp2
          go_ret
          exact ⟨rfl, HB7.out⟩
      · have hEz : (E != 0) = true := by rw [bne_iff_ne]; exact hE
        clear HN hG hRok HXN hle
        go_wp2
        go_ret
        exact ⟨rfl, HB7.out⟩
end Go.Proofs.YtcocbjipikeebaaGreatDoor.Pts
