/-
  The document's Fold walked: what folding makes of the text's runes, for every text of up to 16777216 bytes.
-/
import Derived.Test.YtjfkihljgicijaaRefy
import Derived.Test.YtjfkihljgicijaaRefc
import Derived.Test.YtjfkihljgicijaaRefd
import Derived.Test.YtjfkihljgicijaaRefe
import Derived.Test.YtjfkihljgicijaaFldf
import Derived.Test.YtjfkihljgicijaaJoim
namespace Go.Proofs.Ytjfkihljgicijaa.Utf
open Go Go.Lib Go.RowKit

theorem foldRs_take {p : Bool} {vals : List Nat} {k : Nat} (h : k < vals.length) : foldRs p (vals.take (k + 1)) = foldRs p (vals.take k) ++ foldR p (vals[k] : Int) := by
  rw [List.take_succ_eq_append_getElem h, foldRs_append]
  simp [foldRs]

set_option maxHeartbeats 2000000 in
theorem refFold_any (s : ByteArray) (p : Bool) (w : World) (hs : s.size ≤ 16777216) :
    Calls Try.prog 17 #[.string s, .bool p] w fun e w' => e = .returned (.string (foldS p s)) ∧ Below w.heap.size w w' := by
  have cR := refRunes_any s w hs
  have hlen := pairs_le s
  have hvm := rune_le s
  have hfin : ∀ O : ByteArray, O.data.toList = encR (foldRs p (rns (pairs s))) → O = foldS p s := fun O h => by
    apply ba_ext
    rw [h]
    simp [foldS, rns]
  rw [← rns_length] at cR hlen
  generalize rns (pairs s) = vals at *
  generalize foldS p s = F at *
  go_enter Try.func17, Try.ntmps17
  go_wp2_with fail
  refine cR.mono ?_
  rintro e w1 ⟨v, rfl, hown, hb1⟩
  obtain ⟨ao, cap, rfl, hcell⟩ := own_slice hown
  have hcl : (rnc vals).length = vals.length := rnc_length vals
  have hcell2 : ∀ j (hj : j < vals.length), ∃ g, ao = some ⟨g, 0, none⟩ ∧ g < w1.heap.size ∧ w1.cell? ⟨g, j, none⟩ = some (.int .i32 (vals[j] : Int)) := fun j hj => by
    obtain ⟨g, a, _, b, c⟩ := hcell j (by omega)
    refine ⟨g, a, b, ?_⟩
    rw [c]; simp [rnc]
  clear hcell hcl hown cR
  go_wp2
  go_loopw [6, 7] (fun ov iv wr => ∃ (k : Nat) (O : ByteArray), iv = .int .i64 (k : Int) ∧ ov = .string O ∧ k ≤ vals.length ∧ Hid (O.data.toList = encR (foldRs p (vals.take k))) ∧ O.size ≤ 8 * k ∧ Below w1.heap.size w1 wr)
    (fun _ iv _ => vals.length - (RowKit.intOf iv).toNat)
  case atStart => exact ⟨0, ⟨#[]⟩, rfl, rfl, Nat.zero_le _, rfl, Nat.le_refl _, Below.refl _ _⟩
  case round =>
    obtain ⟨k, O, rfl, rfl, hk, HO, hO, hB⟩ := hrel
    by_cases hlt : k < vals.length
    · obtain ⟨g, rfl, hg, hc⟩ := hcell2 k hlt
      have hc' : wr.cell? ⟨g, k, none⟩ = some (.int .i32 (vals[k] : Int)) := (hB.cell (p := ⟨g, k, none⟩) hg).trans hc
      have hr := hvm vals[k] (List.getElem_mem hlt)
      have hts := foldRs_take (p := p) hlt
      generalize vals[k] = x at *
      have c1 := fun w => refClass_any (x : Int) w (by omega) (by omega)
      clear hcell2 hvm hc
      by_cases hL : isL (x : Int)
      · rw [cls_1.2 hL] at c1
        have c2 := fun w => refUpper_any (x : Int) w (by omega) (by omega)
        have hub : -2147483648 ≤ up (x : Int) ∧ up (x : Int) ≤ 2147483647 := by
          have := up_cases (x : Int)
          unfold up32 up1 at this
          omega
        have c3 := fun w => refPlain_any (up (x : Int)) w hub.1 hub.2
        have c4 := fun w => refEncode_any (up (x : Int)) w hub.1 hub.2
        have HTa : encR (foldRs p (vals.take (k + 1))) = encR (foldRs p (vals.take (k + 1))) := rfl
        conv at HTa => rhs; rw [hts, encR_append]
        have hone : encR (foldR p (x : Int)) = (if p then pl (up (x : Int)) else Utf8.encode (up (x : Int))).data.toList := by
          unfold foldR
          rw [if_pos hL]
          cases p
          · exact encR_one _
          · exact (pl_list _).symm
        rw [hone] at HTa
        have HT : Hid (encR (foldRs p (vals.take (k + 1))) = encR (foldRs p (vals.take k)) ++ (if p then pl (up x) else Utf8.encode (up x)).data.toList) := HTa
        clear HTa hone
        have hzp := pl_size (up (x : Int))
        have hze := (enc_size (up (x : Int))).2
        clear hL hub hts
        generalize up (x : Int) = u at *
        generalize pl u = P at *
        generalize Utf8.encode u = E at *
        generalize encR (foldRs p (vals.take k)) = L at *
        cases p
        · have HN : Hid ((O ++ E).data.toList = encR (foldRs false (vals.take (k + 1)))) := by
            show _ = _
            rw [HT.out, ba_append, HO.out]; rfl
          have hON : (O ++ E).size ≤ 8 * (k + 1) := by rw [ByteArray.size_append]; omega
          have hOl : O.size + E.size ≤ 8 * (k + 1) := by omega
          generalize hJ : O ++ E = J at *
          go_wp2_with (first
            | (go_at_call 10; refine (c1 _).mono ?_; rintro e w' ⟨rfl, hw⟩; obtain rfl := hw.symm)
            | (go_at_call 12; refine (c2 _).mono ?_; rintro e w' ⟨rfl, hw⟩; obtain rfl := hw.symm))
          refine (c4 _).mono ?_
          rintro e w2 ⟨rfl, hb2⟩
          go_wp2
          go_roundw
          case rel => exact ⟨k + 1, _, by go_num, rfl, by omega, HN, hON, hB.trans (hb2.mono hB.size)⟩
          case measure => simp [RowKit.intOf]; omega
        · have HN : Hid ((O ++ P).data.toList = encR (foldRs true (vals.take (k + 1)))) := by
            show _ = _
            rw [HT.out, ba_append, HO.out]; rfl
          have hON : (O ++ P).size ≤ 8 * (k + 1) := by rw [ByteArray.size_append]; omega
          have hOl : O.size + P.size ≤ 8 * (k + 1) := by omega
          generalize hJ : O ++ P = J at *
          go_wp2_with (first
            | (go_at_call 10; refine (c1 _).mono ?_; rintro e w' ⟨rfl, hw⟩; obtain rfl := hw.symm)
            | (go_at_call 12; refine (c2 _).mono ?_; rintro e w' ⟨rfl, hw⟩; obtain rfl := hw.symm))
          refine (c3 _).mono ?_
          rintro e w2 ⟨rfl, hb2⟩
          go_wp2
          go_roundw
          case rel => exact ⟨k + 1, _, by go_num, rfl, by omega, HN, hON, hB.trans (hb2.mono hB.size)⟩
          case measure => simp [RowKit.intOf]; omega
      · have hq : (cls (x : Int) == 1) = false := by rw [beq_eq_false_iff_ne]; exact fun h => hL (cls_1.1 h)
        have HN : Hid (O.data.toList = encR (foldRs p (vals.take (k + 1)))) := by
          show _ = _
          rw [hts, encR_append, HO.out]
          unfold foldR
          rw [if_neg hL]
          exact (List.append_nil _).symm
        generalize cls (x : Int) = C at *
        clear hL hts HO
        go_wp2_with (go_at_call 10; refine (c1 _).mono ?_; rintro e w' ⟨rfl, hw⟩; obtain rfl := hw.symm)
        go_roundw
        case rel => exact ⟨k + 1, _, by go_num, rfl, by omega, HN, by omega, hB⟩
        case measure => simp [RowKit.intOf]; omega
    · obtain rfl : k = vals.length := by omega
      rw [List.take_length] at HO
      have hE := hfin O HO.out
      clear hcell2 hvm hfin HO
      subst hE
      go_wp2
      go_ret
      exact ⟨rfl, hb1.trans (hB.mono hb1.size)⟩
end Go.Proofs.Ytjfkihljgicijaa.Utf
