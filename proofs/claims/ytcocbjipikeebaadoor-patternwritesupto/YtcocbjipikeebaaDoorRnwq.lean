/-
  The document's New walked (right, Number, New): a number and an error, for every list of texts of up to 16777216 bytes.
-/
import Derived.Test.YtcocbjipikeebaaDoorNewq
import Derived.Test.YtcocbjipikeebaaDoorGref
import Derived.Test.YtcocbjipikeebaaDoorGrc
import Derived.Lib.TrimU
import Derived.Deep.RegionWith
namespace Go.Proofs.YtcocbjipikeebaaDoor.Utf
open Go Go.Lib Go.RowKit

theorem quiet_same {P : Program} {f : FuncId} {args : Array Value} {W : World} {v : Value} (h : Calls P f args W fun e w' => e = .returned v ∧ w' = W) : Calls P f args W fun e w' => e = .returned v ∧ ∃ q, w' = W.drewN q :=
  h.mono fun _ _ ⟨he, hw⟩ => ⟨he, 0, by rw [hw]; rfl⟩

theorem pairs_rune (s : ByteArray) : ∀ x ∈ pairs s, x.2 ≤ 1114111 := fun x hx => by
  rw [(pairs_mem s _ _ x hx).2]
  exact Lib.rune_le s _

set_option maxRecDepth 100000 in
set_option maxHeartbeats 2000000 in
theorem right_two (s : ByteArray) (w : World) (hs : s.size ≤ 16777216) :
    (nameP s ∧ Calls Tryd.prog 13 #[.string s] w fun e w' => e = .returned (.bool true) ∧ Below w.heap.size w w') ∨ (¬ nameP s ∧ Calls Tryd.prog 13 #[.string s] w fun e w' => e = .returned (.bool false) ∧ Below w.heap.size w w') := by
  have key : ∃ v : Bool, (v = true ↔ nameP s) ∧ Calls Tryd.prog 13 #[.string s] w fun e w' => e = .returned (.bool v) ∧ Below w.heap.size w w' := by
    by_cases hl : 1 ≤ (pairs s).length ∧ (pairs s).length ≤ 3
    · by_cases hall : ∀ x ∈ pairs s, capR x.2
      · refine ⟨true, ⟨fun _ => ⟨hl.1, hl.2, hall⟩, fun _ => rfl⟩, ?_⟩
        have cR := refRunes_any s w hs
        have hcap : ∀ r : Nat, capR r → r ≤ 1119 := fun r h => by have := h.1; unfold isL at this; omega
        go_enter Tryd.func13, Tryd.ntmps13
        go_wp2_with fail
        refine cR.mono ?_
        rintro e w1 ⟨v, rfl, hown, hb1⟩
        obtain ⟨ao, cap, rfl, q⟩ := row_reads hown
        clear hown cR
        have h1z : ¬ ((pairs s).length : Int) < 1 := by omega
        have h3z : ¬ (3 : Int) < ((pairs s).length : Int) := by omega
        go_wp2
        go_loopg [4] (pairs s).length (fun g1 vi wr => ∃ k : Nat, vi = .int .i64 (k : Int) ∧ k ≤ (pairs s).length ∧ (pairs s).length - k ≤ g1 ∧ Aside (Below w1.heap.size w1 wr) ∧ Aside (∀ j (h : j < (pairs s).length), j < k → capR (pairs s)[j].2))
        case atStart => exact ⟨0, rfl, Nat.zero_le _, Nat.le_refl _, Below.refl _ _, fun j _ h => by omega⟩
        case round =>
          obtain ⟨k, rfl, hk, hg1, hB, HN⟩ := hrel
          by_cases hlt : k < (pairs s).length
          · have hltz : (k : Int) < ((pairs s).length : Int) := by omega
            obtain ⟨g, rfl, _, e1⟩ := (q.below hB.out) k (by simp [rnc, rns]; omega)
            have e1' : wr.cell? ⟨g, k, none⟩ = some (.int .i32 (((pairs s)[k].2 : Nat) : Int)) := by rw [e1]; simp [rnc, rns]
            have hrb : (pairs s)[k].2 ≤ 1114111 := pairs_rune s _ (List.getElem_mem hlt)
            have cC := fun W => refClass_any (((pairs s)[k].2 : Nat) : Int) W (by omega) (by omega)
            have cU := fun W => refUpper_any (((pairs s)[k].2 : Nat) : Int) W (by omega) (by omega)
            have hcr : capR (pairs s)[k].2 := hall _ (List.getElem_mem hlt)
            have HX : Aside (∀ j (h : j < (pairs s).length), j < k + 1 → capR (pairs s)[j].2) := fun j h h2 => by
              by_cases hj : j = k
              · subst hj; exact hcr
              · exact HN.out j h (by omega)
            rw [cls_1.2 hcr.1] at cC
            rw [hcr.2] at cU
            clear hcr e1 HN
            generalize hgen : (pairs s)[k].2 = r at *
            clear hgen
            go_wp2_with fail
            go_quiet (first
              | (go_at_call 34; refine Calls.quiet_of_same (cC _))
              | (go_at_call 35; refine Calls.quiet_of_same (cU _)))
            go_wp2
            go_roundg ((pairs s).length - (k + 1))
            case measure => omega
            case rel => exact ⟨k + 1, by go_num, by omega, Nat.le_refl _, below_drewN hB.out _, HX⟩
          · have hltz : ¬ (k : Int) < ((pairs s).length : Int) := by omega
            go_wp2
            go_ret
            exact ⟨rfl, hb1.trans (hB.out.mono hb1.size)⟩
      · refine ⟨false, ⟨fun h => (by cases h), fun h => absurd h.2.2 hall⟩, ?_⟩
        have cR := refRunes_any s w hs
        have hcap : ∀ r : Nat, capR r → r ≤ 1119 := fun r h => by have := h.1; unfold isL at this; omega
        go_enter Tryd.func13, Tryd.ntmps13
        go_wp2_with fail
        refine cR.mono ?_
        rintro e w1 ⟨v, rfl, hown, hb1⟩
        obtain ⟨ao, cap, rfl, q⟩ := row_reads hown
        clear hown cR
        have h1z : ¬ ((pairs s).length : Int) < 1 := by omega
        have h3z : ¬ (3 : Int) < ((pairs s).length : Int) := by omega
        go_wp2
        go_loopg [4] (pairs s).length (fun g1 vi wr => ∃ k : Nat, vi = .int .i64 (k : Int) ∧ k ≤ (pairs s).length ∧ (pairs s).length - k ≤ g1 ∧ Aside (Below w1.heap.size w1 wr) ∧ Aside (∀ j (h : j < (pairs s).length), j < k → capR (pairs s)[j].2))
        case atStart => exact ⟨0, rfl, Nat.zero_le _, Nat.le_refl _, Below.refl _ _, fun j _ h => by omega⟩
        case round =>
          obtain ⟨k, rfl, hk, hg1, hB, HN⟩ := hrel
          by_cases hlt : k < (pairs s).length
          · have hltz : (k : Int) < ((pairs s).length : Int) := by omega
            obtain ⟨g, rfl, _, e1⟩ := (q.below hB.out) k (by simp [rnc, rns]; omega)
            have e1' : wr.cell? ⟨g, k, none⟩ = some (.int .i32 (((pairs s)[k].2 : Nat) : Int)) := by rw [e1]; simp [rnc, rns]
            have hrb : (pairs s)[k].2 ≤ 1114111 := pairs_rune s _ (List.getElem_mem hlt)
            have cC := fun W => refClass_any (((pairs s)[k].2 : Nat) : Int) W (by omega) (by omega)
            have cU := fun W => refUpper_any (((pairs s)[k].2 : Nat) : Int) W (by omega) (by omega)
            by_cases hcr : capR (pairs s)[k].2
            · have hdummy : True := trivial
              have HX : Aside (∀ j (h : j < (pairs s).length), j < k + 1 → capR (pairs s)[j].2) := fun j h h2 => by
                by_cases hj : j = k
                · subst hj; exact hcr
                · exact HN.out j h (by omega)
              rw [cls_1.2 hcr.1] at cC
              rw [hcr.2] at cU
              clear hcr e1 HN
              generalize hgen : (pairs s)[k].2 = r at *
              clear hgen
              go_wp2_with fail
              go_quiet (first
                | (go_at_call 34; refine Calls.quiet_of_same (cC _))
                | (go_at_call 35; refine Calls.quiet_of_same (cU _)))
              go_wp2
              go_roundg ((pairs s).length - (k + 1))
              case measure => omega
              case rel => exact ⟨k + 1, by go_num, by omega, Nat.le_refl _, below_drewN hB.out _, HX⟩
            · by_cases hL : isL (((pairs s)[k].2 : Nat) : Int)
              · have hu : ¬ up (((pairs s)[k].2 : Nat) : Int) = (((pairs s)[k].2 : Nat) : Int) := fun h => hcr ⟨hL, h⟩
                have hub : (up (((pairs s)[k].2 : Nat) : Int) == (((pairs s)[k].2 : Nat) : Int)) = false := by rw [beq_eq_false_iff_ne]; exact hu
                have hub2 : (up (((pairs s)[k].2 : Nat) : Int) != (((pairs s)[k].2 : Nat) : Int)) = true := by rw [bne, hub]; rfl
                rw [cls_1.2 hL] at cC
                clear hcr e1 HN hu hL
                generalize up (((pairs s)[k].2 : Nat) : Int) = u at *
                generalize hgen : (pairs s)[k].2 = r at *
                clear hgen
                go_wp2_with fail
                go_quiet (first
                  | (go_at_call 34; refine Calls.quiet_of_same (cC _))
                  | (go_at_call 35; refine Calls.quiet_of_same (cU _)))
                go_wp2
                go_ret
                exact ⟨rfl, hb1.trans ((below_drewN hB.out _).mono hb1.size)⟩
              · have hq : (cls (((pairs s)[k].2 : Nat) : Int) == 1) = false := by rw [beq_eq_false_iff_ne]; exact fun h => hL (cls_1.1 h)
                have hq2 : (cls (((pairs s)[k].2 : Nat) : Int) != 1) = true := by rw [bne, hq]; rfl
                clear hcr e1 HN hL cU
                generalize cls (((pairs s)[k].2 : Nat) : Int) = C at *
                generalize hgen : (pairs s)[k].2 = r at *
                clear hgen
                go_wp2_with fail
                go_quiet (first
                  | (go_at_call 34; refine Calls.quiet_of_same (cC _)))
                go_wp2
                go_ret
                exact ⟨rfl, hb1.trans ((below_drewN hB.out _).mono hb1.size)⟩
          · have hltz : ¬ (k : Int) < ((pairs s).length : Int) := by omega
            exact absurd (fun x hx => by
              obtain ⟨j, hj, rfl⟩ := List.getElem_of_mem hx
              exact HN.out j hj (by omega)) hall
    · refine ⟨false, ⟨fun h => (by cases h), fun h => absurd ⟨h.1, h.2.1⟩ hl⟩, ?_⟩
      have cR := refRunes_any s w hs
      go_enter Tryd.func13, Tryd.ntmps13
      go_wp2_with fail
      refine cR.mono ?_
      rintro e w1 ⟨v, rfl, hown, hb1⟩
      obtain ⟨ao, cap, rfl, q⟩ := row_reads hown
      clear hown cR
      generalize (pairs s).length = n at *
      by_cases h1 : 1 ≤ n
      · have h3 : (3 : Int) < (n : Int) := by omega
        go_wp2
        go_ret
        exact ⟨rfl, hb1⟩
      · have h3 : (n : Int) < 1 := by omega
        go_wp2
        go_ret
        exact ⟨rfl, hb1⟩
  obtain ⟨v, hv, hc⟩ := key
  cases v with
  | true => exact .inl ⟨hv.1 rfl, hc⟩
  | false => exact .inr ⟨fun h => (by have := hv.2 h; cases this), hc⟩

/-- What Number tells: a number, and whether the list has the text. -/
def NumAns (zs : List ByteArray) (v : ByteArray) (e : Ending) : Prop := ∃ (k : Int) (t : Bool), e = .returned (.tuple #[.int .i64 k, .bool t]) ∧ (t = true ↔ v ∈ zs)

set_option maxHeartbeats 1000000 in
theorem refNumber_two (zs : List ByteArray) (v : ByteArray) (a1 : Option Addr) (c1 : Nat) (w : World) (hl : zs.length ≤ 16777216) (h1 : ReadsO w a1 (zs.map Value.string)) :
    Calls Tryd.prog 14 #[.slice a1 zs.length c1, .string v] w fun e w' => NumAns zs v e ∧ Below w.heap.size w w' := by
  go_enter Tryd.func14, Tryd.ntmps14
  go_wp2
  go_loopg [6] zs.length (fun g1 vi wr => ∃ k : Nat, vi = .int .i64 (k : Int) ∧ k ≤ zs.length ∧ zs.length - k ≤ g1 ∧ Aside (Below w.heap.size w wr) ∧ Aside (∀ j (h : j < zs.length), j < k → v ≠ zs[j]))
  case atStart => exact ⟨0, rfl, Nat.zero_le _, Nat.le_refl _, Below.refl _ _, fun j _ h => by omega⟩
  case round =>
    obtain ⟨k, rfl, hk, hg1, hB, HN⟩ := hrel
    by_cases hlt : k < zs.length
    · have hltz : (k : Int) < (zs.length : Int) := by omega
      obtain ⟨g, o, rfl, _, e1⟩ := (h1.below hB.out) k (by simpa using hlt)
      rw [List.getElem_map] at e1
      by_cases hv : v = zs[k]
      · have HM : Aside (v ∈ zs) := by show v ∈ zs; rw [hv]; exact List.getElem_mem hlt
        rw [← hv] at e1
        clear h1 hv HN
        go_wp2
        (try go_quiet (fail))
        go_wp2
        go_ret2
        exact ⟨⟨k, true, rfl, ⟨fun _ => HM.out, fun _ => rfl⟩⟩, by first | exact hB.out | exact below_drewN hB.out _⟩
      · have hne : (zs[k].toList == v.toList) = false := by rw [beq_eq_false_iff_ne]; exact fun h => hv (toList_inj h.symm)
        have HX : Aside (∀ j (h : j < zs.length), j < k + 1 → v ≠ zs[j]) := fun j h h2 => by
          by_cases hj : j = k
          · subst hj; exact hv
          · exact HN.out j h (by omega)
        clear h1 HN hv
        generalize zs[k] = z at *
        go_wp2
        (try go_quiet (fail))
        go_wp2
        go_roundg (zs.length - (k + 1))
        case measure => omega
        case rel => exact ⟨k + 1, by go_num, by omega, Nat.le_refl _, by first | exact hB | exact below_drewN hB.out _, HX⟩
    · have hltz : ¬ (k : Int) < (zs.length : Int) := by omega
      have HM : Aside (v ∉ zs) := fun h => by
        obtain ⟨j, hj, e⟩ := List.getElem_of_mem h
        exact HN.out j hj (by omega) e.symm
      go_wp2
      go_ret2
      exact ⟨⟨0, false, rfl, ⟨fun h => (by cases h), fun h => absurd h HM.out⟩⟩, hB.out⟩

theorem ReadsO.take {W : World} {ao : Option Addr} {xs : List Value} (h : ReadsO W ao xs) (k : Nat) : ReadsO W ao (xs.take k) := fun j hj => by
  rw [List.length_take] at hj
  obtain ⟨g, o, h1, h2, h3⟩ := h j (by omega)
  exact ⟨g, o, h1, h2, by rw [h3, List.getElem_take]⟩

set_option maxRecDepth 100000 in
set_option maxHeartbeats 2000000 in
theorem refNew_any (L : List ByteArray) (ao : Option Addr) (cap : Nat) (w : World) (hcap : L.length ≤ cap) (hlen : L.length ≤ 4611686018427387904) (hsm : ∀ s ∈ L, s.size ≤ 16777216) (hR : ReadsO w ao (L.map Value.string)) :
    Calls Tryd.prog 6 #[.slice ao L.length cap] w fun e w' => e = .returned (.tuple #[.int .i64 ((newR L).1 : Int), .int .i64 (newR L).2]) ∧ Below w.heap.size w w' := by
  go_enter Tryd.func6, Tryd.ntmps6
  by_cases h0 : L.length < 1
  · have HX : Hid (newR L = (0, 32)) := newR_many (.inl (by omega))
    have hb : (L.length : Int) < 1 := by omega
    go_wp2
    go_ret2
    rw [HX.out]
    exact ⟨rfl, Below.refl _ _⟩
  · have hb : ¬ (L.length : Int) < 1 := by omega
    by_cases h40 : 40 < L.length
    · have HX : Hid (newR L = (0, 32)) := newR_many (.inr h40)
      have h40z : (40 : Int) < (L.length : Int) := by omega
      go_wp2
      go_ret2
      rw [HX.out]
      exact ⟨rfl, Below.refl _ _⟩
    · have h40z : ¬ (40 : Int) < (L.length : Int) := by omega
      have hRR : Hid (newR L = newAt L L.length 0) := newR_few (by omega) (by omega)
      go_wp2
      go_loopg [4] L.length (fun g1 vi wr => ∃ (k : Nat), vi = .int .i64 (k : Int) ∧ k ≤ L.length ∧ L.length - k ≤ g1 ∧ Aside (Below w.heap.size w wr) ∧ Aside (newAt L (L.length - k) k = newR L))
      case atStart => exact ⟨0, rfl, Nat.zero_le _, Nat.le_refl _, Below.refl _ _, hRR.out.symm⟩
      case round =>
        obtain ⟨k, rfl, hk, hg1, hB, HE⟩ := hrel
        by_cases hlt : k < L.length
        · have hltz : (k : Int) < (L.length : Int) := by omega
          obtain ⟨ga, oa, rfl, hga, ec⟩ := hR k (by simpa using hlt)
          rw [List.getElem_map] at ec
          have ec' : wr.cell? ⟨ga, oa + k, none⟩ = some (.string L[k]) := (hB.out.cell (p := ⟨ga, oa + k, none⟩) hga).trans ec
          have HK : Aside (∃ f, L.length - k = f + 1) := ⟨L.length - k - 1, by omega⟩
          have hsz := hsm L[k] (List.getElem_mem hlt)
          rcases right_two L[k] wr hsz with ⟨hn, cR⟩ | ⟨hn, cR⟩
          · have HT : Aside (L[k] ∈ L.take k → newR L = (k, 31)) := fun ht => by
              obtain ⟨f, hf⟩ := HK.out
              have := HE.out
              rw [hf, newAt_twice hlt hn ht] at this
              exact this.symm
            have HF : Aside (¬ L[k] ∈ L.take k → newAt L (L.length - (k + 1)) (k + 1) = newR L) := fun ht => by
              obtain ⟨f, hf⟩ := HK.out
              have := HE.out
              rw [hf, newAt_next hlt hn ht] at this
              rw [show L.length - (k + 1) = f by omega]
              exact this
            have htl : (L.take k).length = k := by rw [List.length_take]; omega
            have cN := fun W (hb : Below w.heap.size w W) => refNumber_two (L.take k) L[k] (some ⟨ga, oa, none⟩) cap W (by omega) (by rw [List.map_take]; exact (hR.below hb).take k)
            rw [htl] at cN
            clear hn ec HE HK hsm htl hR
            generalize L[k] = X at *
            have hkc : (k : Int) ≤ (cap : Int) := by omega
            go_wp2_with (go_at_call 13; refine cR.mono ?_; rintro e w1 ⟨rfl, hb1⟩; have HB1 : Aside (Below w.heap.size w w1) := hB.out.trans (hb1.mono hB.out.size); have ec1 := (hb1.cell (p := ⟨ga, oa + k, none⟩) (by exact Nat.lt_of_lt_of_le hga hB.out.size)).trans ec'; clear hb1)
            go_upto_region 8 with fail
            go_cut [5, 6] from 28 to 38 (fun s5 s6 wd => ∃ (z : Int) (t : Bool), s5 = .int .i64 z ∧ s6 = .bool t ∧ Aside (t = true ↔ X ∈ L.take k) ∧ Aside (Below w.heap.size w wd))
            case first =>
              refine wp_blind ?_
              (first | go_region_with (go_at_call 14; refine (cN _ (Below.drew HB1.out)).mono ?_; rintro e w2 ⟨⟨z, t, rfl, ht⟩, hb2⟩; have HB2 : Aside (Below w.heap.size w w2) := (Below.drew HB1.out).trans (hb2.mono (Below.drew HB1.out).size); have HTT : Aside (t = true ↔ X ∈ L.take k) := ht; clear hb2 ht) | fail)
              all_goals (try go_simp)
              all_goals (go_wp2_with fail)
              all_goals go_meet
              all_goals exact ⟨z, t, rfl, rfl, HTT, HB2⟩
            case rest =>
              obtain ⟨z, t, rfl, rfl, HTT, HB2⟩ := hcut
              cases t with
              | true =>
                have HV : Aside (newR L = (k, 31)) := HT.out (HTT.out.1 rfl)
                go_wp2
                go_ret2
                rw [HV.out]
                exact ⟨rfl, HB2.out⟩
              | false =>
                have HV : Aside (newAt L (L.length - (k + 1)) (k + 1) = newR L) := HF.out (fun h => by have := HTT.out.2 h; cases this)
                go_wp2
                go_roundg (L.length - (k + 1))
                case measure => omega
                case rel => exact ⟨k + 1, by go_num, by omega, Nat.le_refl _, HB2, HV⟩
          · have HV : Aside (newR L = (k, 30)) := by
              obtain ⟨f, hf⟩ := HK.out
              have := HE.out
              rw [hf, newAt_bad hlt hn] at this
              exact this.symm
            clear hn hR ec HE HK hsm
            generalize L[k] = X at *
            go_wp2_with (go_at_call 13; refine cR.mono ?_; rintro e w1 ⟨rfl, hb1⟩; have HB1 : Aside (Below w.heap.size w w1) := hB.out.trans (hb1.mono hB.out.size); clear hb1)
            go_ret2
            rw [HV.out]
            exact ⟨rfl, HB1.out⟩
        · have hltz : ¬ (k : Int) < (L.length : Int) := by omega
          have HV : Aside (newR L = (0, 0)) := by
            have := HE.out
            rw [newAt_end (by omega)] at this
            exact this.symm
          go_wp2
          go_ret2
          rw [HV.out]
          exact ⟨rfl, hB.out⟩
end Go.Proofs.YtcocbjipikeebaaDoor.Utf
