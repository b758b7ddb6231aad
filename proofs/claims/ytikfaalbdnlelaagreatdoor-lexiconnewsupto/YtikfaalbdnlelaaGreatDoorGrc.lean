/-
  The document's Class, Upper and Plain walked: the same answers, for every number that an int32 can be.
-/
import Derived.Test.YtikfaalbdnlelaaGreatDoorGfl
import Derived.Test.YtikfaalbdnlelaaGreatDoorUtfwq
import Derived.Test.YtikfaalbdnlelaaGreatDoorGref
import Derived.Test.YtikfaalbdnlelaaGreatDoorGxm
namespace Go.Proofs.YtikfaalbdnlelaaGreatDoor.Utf
open Go Go.Lib Go.RowKit

set_option maxHeartbeats 4000000 in
theorem refClass_any (r : Int) (w : World) (h0 : -2147483648 ≤ r) (h1 : r ≤ 2147483647) :
    Calls Tryz.prog 48 #[.int .i32 r] w fun e w' => e = .returned (.int .i64 (cls r)) ∧ w' = w := by
  have hc : (isL r ∧ cls r = 1) ∨ ((48 ≤ r ∧ r ≤ 57) ∧ cls r = 2) ∨ (isB r ∧ cls r = 3) ∨ ((768 ≤ r ∧ r ≤ 879) ∧ cls r = 4) ∨ (¬ isL r ∧ ¬ (48 ≤ r ∧ r ≤ 57) ∧ ¬ isB r ∧ ¬ (768 ≤ r ∧ r ≤ 879) ∧ cls r = 0) := by
    by_cases h : isL r
    · exact .inl ⟨h, cls_1.2 h⟩
    · have := cls_cases h
      simp only [h, false_and, not_false_eq_true, true_and, false_or]
      exact this
  unfold isL isB at hc
  generalize cls r = C at *
  go_enter Tryz.func48, Tryz.ntmps48
  go_wp2
  all_goals (go_ret; refine ⟨ret_i ?_, rfl⟩)
  all_goals (try simp only [beq_iff_eq, beq_eq_false_iff_ne, ne_eq] at *)
  all_goals omega
end Go.Proofs.YtikfaalbdnlelaaGreatDoor.Utf
/-
  The document's Upper walked: the same answers, for every number that an int32 can be.
-/
namespace Go.Proofs.YtikfaalbdnlelaaGreatDoor.Utf
open Go Go.Lib Go.RowKit

theorem tm2 (r : Int) : (0 ≤ r ∧ r.tmod 2 = r % 2) ∨ r < 0 := by
  by_cases h : 0 ≤ r
  · exact .inl ⟨h, Int.tmod_eq_emod_of_nonneg h⟩
  · exact .inr (by omega)
set_option maxHeartbeats 8000000 in
theorem refUpper_any (r : Int) (w : World) (h0 : -2147483648 ≤ r) (h1 : r ≤ 2147483647) :
    Calls Tryz.prog 49 #[.int .i32 r] w fun e w' => e = .returned (.int .i32 (up r)) ∧ w' = w := by
  have hc := up_cases r
  unfold up32 up1 at hc
  have ht := tm2 r
  generalize up r = C at *
  go_enter Tryz.func49, Tryz.ntmps49
  go_wp2
  all_goals (go_ret; refine ⟨ret_i ?_, rfl⟩)
  all_goals (try simp only [beq_iff_eq, beq_eq_false_iff_ne, ne_eq, bne_iff_ne, bne_eq_false_iff_eq] at *)
  all_goals omega
end Go.Proofs.YtikfaalbdnlelaaGreatDoor.Utf
/-
  The document's Plain walked: the same answers, for every number that an int32 can be.
-/
namespace Go.Proofs.YtikfaalbdnlelaaGreatDoor.Utf
open Go Go.Lib Go.RowKit

theorem ret_bl {a b : Bool} (h : a = b) : Ending.returned (.bool a) = .returned (.bool b) := by rw [h]
theorem among_two (n a b : Int) (w : World) (h0 : -2147483648 ≤ n) (h1 : n ≤ 2147483647) (ha : 0 ≤ a) (ha' : a ≤ 1000) :
    ((a ≤ n ∧ n ≤ b ∧ (n - a) % 2 = 0) ∧ Calls Tryz.prog 119 #[.int .i64 n, .int .i64 a, .int .i64 b] w fun e w' => e = .returned (.bool true) ∧ w' = w) ∨
    (¬ (a ≤ n ∧ n ≤ b ∧ (n - a) % 2 = 0) ∧ Calls Tryz.prog 119 #[.int .i64 n, .int .i64 a, .int .i64 b] w fun e w' => e = .returned (.bool false) ∧ w' = w) := by
  by_cases h : a ≤ n ∧ n ≤ b ∧ (n - a) % 2 = 0
  · refine .inl ⟨h, ?_⟩
    obtain ⟨h2, h3, h4⟩ := h
    have hq : ((n - a) % 2 == 0) = true := by rw [beq_iff_eq]; exact h4
    clear h4
    go_enter Tryz.func119, Tryz.ntmps119
    go_wp2
    all_goals (go_ret; first | exact ⟨rfl, rfl⟩ | exact ⟨ret_bl hq, rfl⟩ | omega)
  · refine .inr ⟨h, ?_⟩
    by_cases h2 : a ≤ n
    · by_cases h3 : n ≤ b
      · have hq : ((n - a) % 2 == 0) = false := by rw [beq_eq_false_iff_ne]; omega
        clear h
        go_enter Tryz.func119, Tryz.ntmps119
        go_wp2
        all_goals (go_ret; first | exact ⟨rfl, rfl⟩ | exact ⟨ret_bl hq, rfl⟩ | omega)
      · clear h
        go_enter Tryz.func119, Tryz.ntmps119
        go_wp2
        all_goals (go_ret; first | exact ⟨rfl, rfl⟩ | omega)
    · clear h
      go_enter Tryz.func119, Tryz.ntmps119
      go_wp2
      all_goals (go_ret; first | exact ⟨rfl, rfl⟩ | omega)

theorem among_K {n a b : Int} {w : World} {Q : Ending → World → Prop} (h0 : -2147483648 ≤ n) (h1 : n ≤ 2147483647) (hy : (a ≤ n ∧ n ≤ b ∧ (n - a) % 2 = 0) → Q (.returned (.bool true)) w)
    (hn : ¬ (a ≤ n ∧ n ≤ b ∧ (n - a) % 2 = 0) → Q (.returned (.bool false)) w) (ha : 0 ≤ a ∧ a ≤ 1000) : Calls Tryz.prog 119 #[.int .i64 n, .int .i64 a, .int .i64 b] w Q := by
  rcases among_two n a b w h0 h1 ha.1 ha.2 with ⟨h, c⟩ | ⟨h, c⟩
  · exact c.mono fun e w' ⟨he, hw⟩ => by rw [he, hw]; exact hy h
  · exact c.mono fun e w' ⟨he, hw⟩ => by rw [he, hw]; exact hn h
/-- Texts of bytes below 128 are their own runes. -/
theorem encR_ascii : ∀ (l : List UInt8), (l.all fun b => decide (b.toNat < 128)) = true → encR (l.map UInt8.toNat) = l
  | [], _ => rfl
  | b :: r, h => by
    rw [List.all_cons, Bool.and_eq_true, decide_eq_true_iff] at h
    rw [List.map_cons, encR_cons, encR_ascii r h.2, encB, encZ1 (by omega) (by omega)]
    simp
theorem pl_ascii {n : Int} (E : ByteArray) (h : plT n = E.data.toList.map UInt8.toNat) (h1 : (E.data.toList.all fun b => decide (b.toNat < 128)) = true) (h2 : E.data.toList.map UInt8.toNat ≠ []) : E = pl n := by
  rw [pl_hit _ h h2, encR_ascii _ h1]

set_option maxHeartbeats 8000000 in
set_option maxRecDepth 100000 in
theorem refPlain_any (r : Int) (w : World) (h0 : -2147483648 ≤ r) (h1 : r ≤ 2147483647) :
    Calls Tryz.prog 98 #[.int .i32 r] w fun e w' => e = .returned (.string (pl r)) ∧ Below w.heap.size w w' := by
  have cE := refEncode_any r w h0 h1
  go_enter Tryz.func98, Tryz.ntmps98
  go_wp2_with (first
    | (go_at_call 99; refine cE.mono ?_; rintro e w' ⟨rfl, hb⟩)
    | (go_at_call 119; refine among_K h0 h1 (fun h => ?_) (fun h => ?_) (by decide) <;> (try dsimp only)))
  all_goals (go_ret; refine ⟨ret_str' ?_, by first | exact Below.refl _ _ | assumption⟩)
  all_goals (try simp only [beq_iff_eq, beq_eq_false_iff_ne, ne_eq] at *)
  all_goals first
    | (exfalso; omega)
    | (refine pl_ascii _ ?_ (by decide) (by decide)
       unfold plT
       repeat rw [if_neg (by omega)]
       rw [if_pos (by omega)] <;> rfl)
    | (refine (pl_miss ?_).symm
       unfold plT
       repeat rw [if_neg (by omega)])
end Go.Proofs.YtikfaalbdnlelaaGreatDoor.Utf
/-
  The document's Fold walked: what folding makes of the text's runes, for every text of up to 16777216 bytes.
-/
namespace Go.Proofs.YtikfaalbdnlelaaGreatDoor.Utf
open Go Go.Lib Go.RowKit

theorem foldRs_take {p : Bool} {vals : List Nat} {k : Nat} (h : k < vals.length) : foldRs p (vals.take (k + 1)) = foldRs p (vals.take k) ++ foldR p (vals[k] : Int) := by
  rw [List.take_succ_eq_append_getElem h, foldRs_append]
  simp [foldRs]

set_option maxHeartbeats 2000000 in
theorem refFold_any (s : ByteArray) (p : Bool) (w : World) (hs : s.size ≤ 16777216) :
    Calls Tryz.prog 74 #[.string s, .bool p] w fun e w' => e = .returned (.string (foldS p s)) ∧ Below w.heap.size w w' := by
  have cR := refRunes_any s w hs
  have hlen := pairs_le s
  have hvm := rune_le s
  have hfin : ∀ O : ByteArray, O.data.toList = encR (foldRs p (rns (pairs s))) → O = foldS p s := fun O h => by
    apply ba_ext
    rw [h]
    simp [foldS, rns]
  rw [← rns_length] at cR hlen
  generalize rns (pairs s) = vals at *
  generalize foldS p s = F at *
  go_enter Tryz.func74, Tryz.ntmps74
  go_wp2_with fail
  refine cR.mono ?_
  rintro e w1 ⟨v, rfl, hown, hb1⟩
  obtain ⟨ao, cap, rfl, hcell⟩ := own_slice hown
  have hcl : (rnc vals).length = vals.length := rnc_length vals
  have hcell2 : ∀ j (hj : j < vals.length), ∃ g, ao = some ⟨g, 0, none⟩ ∧ g < w1.heap.size ∧ w1.cell? ⟨g, j, none⟩ = some (.int .i32 (vals[j] : Int)) := fun j hj => by
    obtain ⟨g, a, _, b, c⟩ := hcell j (by omega)
    refine ⟨g, a, b, ?_⟩
    rw [c]; simp [rnc]
  clear hcell hcl hown cR
  go_wp2
  go_loopw [6, 7] (fun ov iv wr => ∃ (k : Nat) (O : ByteArray), iv = .int .i64 (k : Int) ∧ ov = .string O ∧ k ≤ vals.length ∧ Hid (O.data.toList = encR (foldRs p (vals.take k))) ∧ O.size ≤ 8 * k ∧ Below w1.heap.size w1 wr)
    (fun _ iv _ => vals.length - (RowKit.intOf iv).toNat)
  case atStart => exact ⟨0, ⟨#[]⟩, rfl, rfl, Nat.zero_le _, rfl, Nat.le_refl _, Below.refl _ _⟩
  case round =>
    obtain ⟨k, O, rfl, rfl, hk, HO, hO, hB⟩ := hrel
    by_cases hlt : k < vals.length
    · obtain ⟨g, rfl, hg, hc⟩ := hcell2 k hlt
      have hc' : wr.cell? ⟨g, k, none⟩ = some (.int .i32 (vals[k] : Int)) := (hB.cell (p := ⟨g, k, none⟩) hg).trans hc
      have hr := hvm vals[k] (List.getElem_mem hlt)
      have hts := foldRs_take (p := p) hlt
      generalize vals[k] = x at *
      have c1 := fun w => refClass_any (x : Int) w (by omega) (by omega)
      clear hcell2 hvm hc
      by_cases hL : isL (x : Int)
      · rw [cls_1.2 hL] at c1
        have c2 := fun w => refUpper_any (x : Int) w (by omega) (by omega)
        have hub : -2147483648 ≤ up (x : Int) ∧ up (x : Int) ≤ 2147483647 := by
          have := up_cases (x : Int)
          unfold up32 up1 at this
          omega
        have c3 := fun w => refPlain_any (up (x : Int)) w hub.1 hub.2
        have c4 := fun w => refEncode_any (up (x : Int)) w hub.1 hub.2
        have HTa : encR (foldRs p (vals.take (k + 1))) = encR (foldRs p (vals.take (k + 1))) := rfl
        conv at HTa => rhs; rw [hts, encR_append]
        have hone : encR (foldR p (x : Int)) = (if p then pl (up (x : Int)) else Utf8.encode (up (x : Int))).data.toList := by
          unfold foldR
          rw [if_pos hL]
          cases p
          · exact encR_one _
          · exact (pl_list _).symm
        rw [hone] at HTa
        have HT : Hid (encR (foldRs p (vals.take (k + 1))) = encR (foldRs p (vals.take k)) ++ (if p then pl (up x) else Utf8.encode (up x)).data.toList) := HTa
        clear HTa hone
        have hzp := pl_size (up (x : Int))
        have hze := (enc_size (up (x : Int))).2
        clear hL hub hts
        generalize up (x : Int) = u at *
        generalize pl u = P at *
        generalize Utf8.encode u = E at *
        generalize encR (foldRs p (vals.take k)) = L at *
        cases p
        · have HN : Hid ((O ++ E).data.toList = encR (foldRs false (vals.take (k + 1)))) := by
            show _ = _
            rw [HT.out, ba_append, HO.out]; rfl
          have hON : (O ++ E).size ≤ 8 * (k + 1) := by rw [ByteArray.size_append]; omega
          have hOl : O.size + E.size ≤ 8 * (k + 1) := by omega
          generalize hJ : O ++ E = J at *
          go_wp2_with (first
            | (go_at_call 48; refine (c1 _).mono ?_; rintro e w' ⟨rfl, hw⟩; obtain rfl := hw.symm)
            | (go_at_call 49; refine (c2 _).mono ?_; rintro e w' ⟨rfl, hw⟩; obtain rfl := hw.symm))
          refine (c4 _).mono ?_
          rintro e w2 ⟨rfl, hb2⟩
          go_wp2
          go_roundw
          case rel => exact ⟨k + 1, _, by go_num, rfl, by omega, HN, hON, hB.trans (hb2.mono hB.size)⟩
          case measure => simp [RowKit.intOf]; omega
        · have HN : Hid ((O ++ P).data.toList = encR (foldRs true (vals.take (k + 1)))) := by
            show _ = _
            rw [HT.out, ba_append, HO.out]; rfl
          have hON : (O ++ P).size ≤ 8 * (k + 1) := by rw [ByteArray.size_append]; omega
          have hOl : O.size + P.size ≤ 8 * (k + 1) := by omega
          generalize hJ : O ++ P = J at *
          go_wp2_with (first
            | (go_at_call 48; refine (c1 _).mono ?_; rintro e w' ⟨rfl, hw⟩; obtain rfl := hw.symm)
            | (go_at_call 49; refine (c2 _).mono ?_; rintro e w' ⟨rfl, hw⟩; obtain rfl := hw.symm))
          refine (c3 _).mono ?_
          rintro e w2 ⟨rfl, hb2⟩
          go_wp2
          go_roundw
          case rel => exact ⟨k + 1, _, by go_num, rfl, by omega, HN, hON, hB.trans (hb2.mono hB.size)⟩
          case measure => simp [RowKit.intOf]; omega
      · have hq : (cls (x : Int) == 1) = false := by rw [beq_eq_false_iff_ne]; exact fun h => hL (cls_1.1 h)
        have HN : Hid (O.data.toList = encR (foldRs p (vals.take (k + 1)))) := by
          show _ = _
          rw [hts, encR_append, HO.out]
          unfold foldR
          rw [if_neg hL]
          exact (List.append_nil _).symm
        generalize cls (x : Int) = C at *
        clear hL hts HO
        go_wp2_with (go_at_call 48; refine (c1 _).mono ?_; rintro e w' ⟨rfl, hw⟩; obtain rfl := hw.symm)
        go_roundw
        case rel => exact ⟨k + 1, _, by go_num, rfl, by omega, HN, by omega, hB⟩
        case measure => simp [RowKit.intOf]; omega
    · obtain rfl : k = vals.length := by omega
      rw [List.take_length] at HO
      have hE := hfin O HO.out
      clear hcell2 hvm hfin HO
      subst hE
      go_wp2
      go_ret
      exact ⟨rfl, hb1.trans (hB.mono hb1.size)⟩
end Go.Proofs.YtikfaalbdnlelaaGreatDoor.Utf
