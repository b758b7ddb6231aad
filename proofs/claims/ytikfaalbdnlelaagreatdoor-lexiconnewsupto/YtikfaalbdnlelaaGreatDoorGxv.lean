/-
  The document's trimmed walked: the text without the blanks at both ends.
-/
import Derived.Test.YtikfaalbdnlelaaGreatDoorGxm
import Derived.Test.YtikfaalbdnlelaaGreatDoorRnwq
import Derived.Test.YtikfaalbdnlelaaGreatDoorGref
import Derived.Test.YtikfaalbdnlelaaGreatDoorRlinq
import Derived.Test.YtikfaalbdnlelaaGreatDoorGxc
import Derived.Test.YtikfaalbdnlelaaGreatDoorRspq
import Derived.Test.YtikfaalbdnlelaaGreatDoorGrc
import Derived.Test.YtikfaalbdnlelaaGreatDoorGxu
import Derived.Test.YtikfaalbdnlelaaGreatDoorGxw
import Derived.Test.YtikfaalbdnlelaaGreatDoorGxd
namespace Go.Proofs.YtikfaalbdnlelaaGreatDoor.Utf
open Go Go.Lib Go.RowKit

theorem trim_fin (s : ByteArray) (P : List (Nat × Nat)) (hPs : pairs s = P) {k j : Nat} (hk : k < j) (hj : j ≤ P.length) (h1 : ∀ i (h : i < P.length), i < k → isB (P[i].2 : Int)) (h2 : ∀ i (h : i < P.length), j ≤ i → isB (P[i].2 : Int)) (h3 : ¬ isB (P[k].2 : Int)) (h4 : ¬ isB (P[j - 1].2 : Int)) (b : Nat) (hb : b = ((P.drop j).head?.map (·.1)).getD s.size) :
    P[k].1 ≤ b ∧ b ≤ s.size ∧ IsTrim s (s.extract P[k].1 b) := by
  have hP : P = P.take k ++ ((P.drop k).take (j - k) ++ P.drop j) := by
    conv => lhs; rw [← List.take_append_drop k P, ← List.take_append_drop (j - k) (P.drop k), List.drop_drop, show k + (j - k) = j by omega]
  have hR := runsP_all s
  rw [hPs, hP] at hR
  obtain ⟨a, r1, r2⟩ := runsP_split s _ _ 0 _ hR
  obtain ⟨c, r3, r4⟩ := runsP_split s _ _ a _ r2
  have hm1 : (P.drop k).take (j - k) = P[k] :: (P.drop (k + 1)).take (j - (k + 1)) := by
    rw [List.drop_eq_getElem_cons (by omega : k < P.length), show j - k = (j - (k + 1)) + 1 by omega, List.take_succ_cons]
  have hm2 : (P.drop k).take (j - k) = (P.drop k).take (j - 1 - k) ++ [P[j - 1]] := by
    rw [show j - k = (j - 1 - k) + 1 by omega, List.take_succ_eq_append_getElem (by rw [List.length_drop]; omega), List.getElem_drop]
    congr 2
    congr 1
    omega
  have hbc : b = c := by
    rw [hb]
    cases e : P.drop j with
    | nil => rw [e] at r4; exact (show s.size = c from (show c = s.size from r4).symm)
    | cons z l => rw [e] at r4; rw [List.head?_cons, Option.map_some, Option.getD_some, r4.2.1]
  have hka : P[k].1 = a := by rw [hm1] at r3; rw [r3.2.1]
  have l1 := runsP_le s _ _ _ r3
  have l2 := runsP_le s _ _ _ r4
  refine ⟨by omega, by omega, .inr ⟨_, _, _, _, _, _, _, b, hPs.trans hP, fun z hz => ?_, fun z hz => ?_, hm1, hm2, h3, h4, hb, rfl⟩⟩
  · obtain ⟨i, hi, rfl⟩ := List.mem_iff_getElem.1 hz
    rw [List.length_take] at hi
    rw [List.getElem_take]
    exact h1 i (by omega) (by omega)
  · obtain ⟨i, hi, rfl⟩ := List.mem_iff_getElem.1 hz
    rw [List.length_drop] at hi
    rw [List.getElem_drop]
    exact h2 (j + i) (by omega) (by omega)
theorem trim_all (s : ByteArray) (P : List (Nat × Nat)) (hPs : pairs s = P) (h : ∀ i (h : i < P.length), isB (P[i].2 : Int)) : IsTrim s ⟨#[]⟩ := .inl ⟨rfl, fun x hx => by
  rw [hPs] at hx
  obtain ⟨i, hi, rfl⟩ := List.mem_iff_getElem.1 hx
  exact h i hi⟩

set_option maxRecDepth 100000 in
set_option maxHeartbeats 4000000 in
theorem trimmed_any (s : ByteArray) (w : World) (hs : s.size ≤ 16777216) :
    Calls Tryz.prog 72 #[.string s] w fun e w' => (∃ t, e = .returned (.string t) ∧ IsTrim s t) ∧ Below w.heap.size w w' := by
  obtain ⟨P, hPs⟩ : ∃ P, pairs s = P := ⟨_, rfl⟩
  have cR := refRunes_any s w hs
  rw [hPs] at cR
  have HPm : Aside (∀ W, Calls Tryz.prog 97 #[.string s] W fun e w' => ∃ v, e = .returned v ∧ w'.ownsRow W.heap.size 3 1 v P.length (plc P) ∧ Below W.heap.size W w') := fun W => by rw [← hPs]; exact refPlaces_any s W hs
  have HRN : Aside (∀ x ∈ P, x.2 ≤ 1114111) := by rw [← hPs]; exact pairs_rune s
  have hle := pairs_le s
  rw [hPs] at hle
  have HF : Aside (∀ {k j : Nat}, (hk : k < j) → (hj : j ≤ P.length) → (h1 : ∀ i (h : i < P.length), i < k → isB (P[i].2 : Int)) → (h2 : ∀ i (h : i < P.length), j ≤ i → isB (P[i].2 : Int)) → (h3 : ¬ isB (P[k].2 : Int)) → (h4 : ¬ isB (P[j - 1].2 : Int)) → (b : Nat) → (hb : b = ((P.drop j).head?.map (·.1)).getD s.size) → P[k].1 ≤ b ∧ b ≤ s.size ∧ IsTrim s (s.extract P[k].1 b)) := fun hk hj h1 h2 h3 h4 b hb => trim_fin s P hPs hk hj h1 h2 h3 h4 b hb
  have HA : Aside ((∀ i (h : i < P.length), isB (P[i].2 : Int)) → IsTrim s ⟨#[]⟩) := trim_all s P hPs
  clear hPs
  go_enter Tryz.func72, Tryz.ntmps72
  go_wp2_with fail
  refine cR.mono ?_
  rintro e w1 ⟨v, rfl, hown, hb1⟩
  obtain ⟨ao, cap, rfl, q⟩ := row_reads hown
  have cP := HPm.out w1
  clear hown cR HPm
  go_wp2_with fail
  refine cP.mono ?_
  rintro e w2 ⟨v2, rfl, hown2, hb2⟩
  obtain ⟨ap, capp, rfl, q2⟩ := row_reads hown2
  have HB2 : Aside (Below w.heap.size w w2) := hb1.trans (hb2.mono hb1.size)
  have HQ : Aside (∀ W, Below w2.heap.size w2 W → ∀ i (hi : i < P.length), ∃ g, ao = some ⟨g, 0, none⟩ ∧ W.cell? ⟨g, i, none⟩ = some (.int .i32 (P[i].2 : Int))) := fun W hb i hi => by
    obtain ⟨g, e1, _, e2⟩ := ((q.below hb2).below hb) i (by simp [rnc, rns]; exact hi)
    exact ⟨g, e1, by rw [e2]; simp [rnc, rns]⟩
  have HQ2 : Aside (∀ W, Below w2.heap.size w2 W → ∀ i (hi : i < P.length), ∃ g, ap = some ⟨g, 0, none⟩ ∧ W.cell? ⟨g, i, none⟩ = some (.int .i64 (P[i].1 : Int))) := fun W hb i hi => by
    obtain ⟨g, e1, _, e2⟩ := (q2.below hb) i (by simp [plc]; exact hi)
    exact ⟨g, e1, by rw [e2]; simp [plc]⟩
  clear hown2 hb1 hb2 q q2 cP
  go_wp2
  go_loopg [5] P.length (fun g1 vf wr => ∃ k : Nat, vf = .int .i64 (k : Int) ∧ k ≤ P.length ∧ P.length - k ≤ g1 ∧ Aside (∀ i (h : i < P.length), i < k → isB (P[i].2 : Int)) ∧ Aside (Below w2.heap.size w2 wr))
  case atStart => exact ⟨0, rfl, Nat.zero_le _, Nat.le_refl _, fun i _ h => by omega, Below.refl _ _⟩
  case round =>
    obtain ⟨k, rfl, hk, hg1, HK, HB⟩ := hrel
    by_cases hlt : k < P.length
    · have hltz : (k : Int) < (P.length : Int) := by omega
      obtain ⟨g, rfl, e1⟩ := HQ.out wr HB.out k hlt
      have hrb := HRN.out P[k] (List.getElem_mem hlt)
      have cC := refClass_any ((P[k].2 : Nat) : Int) wr (by omega) (by omega)
      by_cases hb : isB (P[k].2 : Int)
      · have HK2 : Aside (∀ i (h : i < P.length), i < k + 1 → isB (P[i].2 : Int)) := fun i h h2 => by
          by_cases hik : i = k
          · subst hik; exact hb
          · exact HK.out i h (by omega)
        rw [cls_3.2 hb] at cC
        clear hb HK
        generalize P[k].2 = r at *
        go_wp2_with fail
        refine cC.mono ?_
        rintro e w3 ⟨rfl, hw⟩
        obtain rfl := hw.symm
        clear hw cC
        go_wp2
        go_roundg (P.length - (k + 1))
        case measure => omega
        case rel => exact ⟨k + 1, by go_num, by omega, Nat.le_refl _, HK2, HB⟩
      · have hc3 : (cls (P[k].2 : Int) == 3) = false := by rw [beq_eq_false_iff_ne]; exact fun e => hb (cls_3.1 e)
        have HNB : Aside (¬ isB (P[k].2 : Int)) := hb
        clear hb
        generalize hcc : cls (P[k].2 : Int) = C at *
        clear hcc
        generalize hgen : P[k].2 = r at *
        have HNR : Aside (P[k].2 = r) := hgen
        clear hgen
        go_wp2_with fail
        refine cC.mono ?_
        rintro e w3 ⟨rfl, hw⟩
        obtain rfl := hw.symm
        clear hw cC
        go_wp2
        have HB0 : Aside (Below w2.heap.size w2 wr) := HB.out
        generalize wr = wk at *
        clear e1
        go_loopg [6] P.length (fun g1 vt wr => ∃ j : Nat, vt = .int .i64 (j : Int) ∧ k < j ∧ j ≤ P.length ∧ j ≤ g1 ∧ Aside (∀ i (h : i < P.length), j ≤ i → isB (P[i].2 : Int)) ∧ Aside (Below w2.heap.size w2 wr))
        case atStart => exact ⟨P.length, rfl, hlt, Nat.le_refl _, Nat.le_refl _, fun i h h2 => by omega, HB0⟩
        case round =>
          obtain ⟨j, rfl, hkj, hj, hg2, HJ, HBj⟩ := hrel
          have hjz : (k : Int) < (j : Int) := by omega
          have hj1 : j - 1 < P.length := by omega
          obtain ⟨g', eg, e1⟩ := HQ.out wr HBj.out (j - 1) hj1
          obtain rfl : g = g' := by injection eg with eg; injection eg
          have hrb2 := HRN.out P[j - 1] (List.getElem_mem hj1)
          have cC := refClass_any ((P[j - 1].2 : Nat) : Int) wr (by omega) (by omega)
          have hjm : ((j - 1 : Nat) : Int) = (j : Int) - 1 := by omega
          have hjl : (j : Int) - 1 < (P.length : Int) := by omega
          clear eg
          by_cases hb : isB (P[j - 1].2 : Int)
          · have hne : k ≠ j - 1 := fun e => by
              subst e
              rw [HNR.out] at hb
              exact HNB.out hb
            have HJ2 : Aside (∀ i (h : i < P.length), j - 1 ≤ i → isB (P[i].2 : Int)) := fun i h h2 => by
              by_cases hik : i = j - 1
              · subst hik; exact hb
              · exact HJ.out i h (by omega)
            rw [cls_3.2 hb] at cC
            clear hb HJ
            generalize P[j - 1].2 = r2 at *
            obtain ⟨i, hi⟩ : ∃ i, j - 1 = i := ⟨_, rfl⟩
            rw [hi] at HJ2 hjm e1 hj1
            go_wp2_with fail
            refine cC.mono ?_
            rintro e w3 ⟨rfl, hw⟩
            obtain rfl := hw.symm
            clear hw cC
            go_wp2
            go_roundg i
            case measure => omega
            case rel => exact ⟨i, by go_num, by omega, by omega, Nat.le_refl _, HJ2, HBj⟩
          · have hc3' : (cls (P[j - 1].2 : Int) == 3) = false := by rw [beq_eq_false_iff_ne]; exact fun e => hb (cls_3.1 e)
            have HNJ : Aside (¬ isB (P[j - 1].2 : Int)) := hb
            clear hb
            generalize hcc : cls (P[j - 1].2 : Int) = C2 at *
            clear hcc
            generalize hr2 : P[j - 1].2 = r2 at *
            have HR2 : Aside (P[j - 1].2 = r2) := hr2
            clear hr2
            obtain ⟨gp, rfl, ep⟩ := HQ2.out wr HBj.out k hlt
            have hkne : ((k : Int) == (j : Int)) = false := by rw [beq_eq_false_iff_ne]; omega
            by_cases hjn : j < P.length
            · have hjnz : (j : Int) < (P.length : Int) := by omega
              obtain ⟨gp', eg, ep2⟩ := HQ2.out wr HBj.out j hjn
              obtain rfl : gp = gp' := by injection eg with eg; injection eg
              have hd : P[j].1 = ((P.drop j).head?.map (·.1)).getD s.size := by
                rw [List.drop_eq_getElem_cons hjn]; rfl
              obtain ⟨t1, t2, t3⟩ := HF.out hkj hj HK.out HJ.out (by rw [HNR.out]; exact HNB.out) (by rw [HR2.out]; exact HNJ.out) P[j].1 hd
              have HT : Aside (IsTrim s (s.extract P[k].1 P[j].1)) := t3
              have HBf : Aside (Below w.heap.size w wr) := HB2.out.trans (HBj.out.mono HB2.out.size)
              clear eg hd t3 HF HA HRN HK HJ
              generalize P[k].1 = a at *
              generalize P[j].1 = b at *
              have hsl := fun W => slice_mid W s a b _ rfl t1 t2
              go_wp2_with fail
              refine cC.mono ?_
              rintro e w3 ⟨rfl, hw⟩
              obtain rfl := hw.symm
              clear hw cC
              go_wp2
              go_ret
              exact ⟨⟨_, rfl, HT.out⟩, HBf.out⟩
            · have hjnz : ¬ (j : Int) < (P.length : Int) := by omega
              have hd : s.size = ((P.drop j).head?.map (·.1)).getD s.size := by
                rw [List.drop_eq_nil_of_le (by omega)]; rfl
              obtain ⟨t1, t2, t3⟩ := HF.out hkj hj HK.out HJ.out (by rw [HNR.out]; exact HNB.out) (by rw [HR2.out]; exact HNJ.out) s.size hd
              have HT : Aside (IsTrim s (s.extract P[k].1 s.size)) := t3
              have HBf : Aside (Below w.heap.size w wr) := HB2.out.trans (HBj.out.mono HB2.out.size)
              clear hd t3 HF HA HRN HK HJ
              generalize P[k].1 = a at *
              have hsl := fun W => slice_mid W s a s.size _ rfl t1 t2
              go_wp2_with fail
              refine cC.mono ?_
              rintro e w3 ⟨rfl, hw⟩
              obtain rfl := hw.symm
              clear hw cC
              go_wp2
              go_ret
              exact ⟨⟨_, rfl, HT.out⟩, HBf.out⟩
    · have hltz : ¬ (k : Int) < (P.length : Int) := by omega
      obtain rfl : k = P.length := by omega
      have hT := HA.out (fun i h => HK.out i h h)
      have HT : Aside (IsTrim s ⟨#[]⟩) := hT
      clear hT HF HA HRN HK
      go_wp2
      have HB0 : Aside (Below w2.heap.size w2 wr) := HB.out
      generalize wr = wk at *
      go_loopg [6] 0 (fun g1 vt wr => vt = .int .i64 (P.length : Int) ∧ Aside (Below w2.heap.size w2 wr))
      case atStart => exact ⟨rfl, HB0⟩
      case round =>
        obtain ⟨rfl, HBj⟩ := hrel
        have hjz : ¬ ((P.length : Int) < (P.length : Int)) := by omega
        have hkne : ((P.length : Int) == (P.length : Int)) = true := beq_self_eq_true _
        have HBf : Aside (Below w.heap.size w wr) := HB2.out.trans (HBj.out.mono HB2.out.size)
        go_wp2
        go_ret
        exact ⟨⟨_, rfl, HT.out⟩, HBf.out⟩
end Go.Proofs.YtikfaalbdnlelaaGreatDoor.Utf
/-
  The document's score and line walked.
-/
namespace Go.Proofs.YtikfaalbdnlelaaGreatDoor.Utf
open Go Go.Lib Go.RowKit

def foldD (l : List UInt8) : Nat := l.foldl (fun n b => n * 10 + (b.toNat - 48)) 0
theorem foldD_next {l : List UInt8} {k : Nat} (h : k < l.length) : foldD (l.take (k + 1)) = foldD (l.take k) * 10 + (l[k].toNat - 48) := by
  unfold foldD
  rw [List.take_succ_eq_append_getElem h, List.foldl_append]
  rfl
theorem foldD_lt : ∀ (n : Nat) (l : List UInt8), l.length = n → (∀ b ∈ l, 48 ≤ b.toNat ∧ b.toNat ≤ 57) → foldD l + 1 ≤ 10 ^ n
  | 0, l, hl, _ => by rw [List.length_eq_zero_iff.1 hl]; decide
  | n + 1, l, hl, h => by
    have e : l = l.take n ++ [l[n]'(by omega)] := by rw [← List.take_succ_eq_append_getElem, List.take_of_length_le (by omega)]
    have h1 := foldD_next (l := l) (k := n) (by omega)
    rw [List.take_of_length_le (by omega)] at h1
    have h2 := foldD_lt n (l.take n) (by rw [List.length_take]; omega) (fun b hb => h b (List.mem_of_mem_take hb))
    have h3 := h (l[n]'(by omega)) (List.getElem_mem _)
    have : 10 ^ (n + 1) = 10 ^ n * 10 := Nat.pow_succ ..
    omega

set_option maxRecDepth 100000 in
set_option maxHeartbeats 4000000 in
theorem refScore_any (s : ByteArray) (w : World) (hs : s.size ≤ 16777216) :
    Calls Tryz.prog 73 #[.string s] w fun e w' => (∃ z : Int, e = .returned (.int .i64 z) ∧ (((scoreP s).2 = true ∧ z = ((scoreP s).1 : Nat)) ∨ ((scoreP s).2 = false ∧ z = -1))) ∧ Below w.heap.size w w' := by
  have cT := trimmed_any s w hs
  go_enter Tryz.func73, Tryz.ntmps73
  go_wp2_with fail
  refine cT.mono ?_
  rintro e w1 ⟨⟨t, rfl, hT⟩, hb1⟩
  have hsame := score_same hT
  have HS : Aside (((scoreP s).2 = true ∧ scoreD t = ((scoreP s).1 : Nat)) ∨ ((scoreP s).2 = false ∧ scoreD t = -1)) := hsame
  clear hsame hT cT
  have HE : Aside (∀ z, scoreD t = z → (((scoreP s).2 = true ∧ z = ((scoreP s).1 : Nat)) ∨ ((scoreP s).2 = false ∧ z = -1))) := fun z hz => by rw [← hz]; exact HS.out
  clear HS
  by_cases h1 : t.size < 1
  · have h1z : (t.size : Int) < 1 := by omega
    have HV : Aside (scoreD t = -1) := by show _ = _; unfold scoreD; rw [if_pos (.inl h1)]
    go_wp2
    go_ret
    exact ⟨⟨_, rfl, HE.out _ HV.out⟩, hb1⟩
  · have h1z : ¬ (t.size : Int) < 1 := by omega
    by_cases h3 : 3 < t.size
    · have h3z : (3 : Int) < (t.size : Int) := by omega
      have HV : Aside (scoreD t = -1) := by show _ = _; unfold scoreD; rw [if_pos (.inr h3)]
      go_wp2
      go_ret
      exact ⟨⟨_, rfl, HE.out _ HV.out⟩, hb1⟩
    · have h3z : ¬ (3 : Int) < (t.size : Int) := by omega
      have hsz : t.data.toList.length = t.size := ba_len t
      have HV : Aside ((∀ b ∈ t.data.toList, 48 ≤ b.toNat ∧ b.toNat ≤ 57) → scoreD t = if 100 < foldD t.data.toList then (-1 : Int) else ((foldD t.data.toList : Nat) : Int)) := fun h => by unfold scoreD; rw [if_neg (by omega), if_pos h]; rfl
      have HN : Aside (∀ b ∈ t.data.toList, ¬ (48 ≤ b.toNat ∧ b.toNat ≤ 57) → scoreD t = -1) := fun b hb hn => by unfold scoreD; rw [if_neg (by omega), if_neg (fun h => hn (h b hb))]
      have HB1 : Aside (Below w.heap.size w w1) := hb1
      clear hb1
      go_wp2
      go_loopg [4, 5] t.size (fun g1 vn vi wr => ∃ k n : Nat, vn = .int .i64 (n : Int) ∧ vi = .int .i64 (k : Int) ∧ k ≤ t.size ∧ t.size - k ≤ g1 ∧ n ≤ 999 ∧ Aside (n = foldD (t.data.toList.take k)) ∧ Aside (∀ b ∈ t.data.toList.take k, 48 ≤ b.toNat ∧ b.toNat ≤ 57) ∧ Aside (Below w.heap.size w wr))
      case atStart => exact ⟨0, 0, rfl, rfl, Nat.zero_le _, Nat.le_refl _, by omega, rfl, fun b hb => by simp at hb, HB1⟩
      case round =>
        obtain ⟨k, n, rfl, rfl, hk, hg1, hn, HF, HD, HB⟩ := hrel
        by_cases hlt : k < t.size
        · have hltz : (k : Int) < (t.size : Int) := by omega
          have hkl : k < t.data.toList.length := by omega
          have hbt : t[k]'hlt = t.data.toList[k] := by simp [ByteArray.getElem_eq_getElem_data]
          have HNX := foldD_next hkl
          have HNK := HN.out _ (List.getElem_mem hkl)
          have HTK : t.data.toList.take (k + 1) = t.data.toList.take k ++ [t.data.toList[k]] := List.take_succ_eq_append_getElem hkl
          rw [← hbt] at HNX HNK HTK
          have HNX2 : Aside (foldD (t.data.toList.take (k + 1)) = foldD (t.data.toList.take k) * 10 + ((t[k]'hlt).toNat - 48)) := HNX
          have HNK2 : Aside (¬ (48 ≤ (t[k]'hlt).toNat ∧ (t[k]'hlt).toNat ≤ 57) → scoreD t = -1) := HNK
          have HTK2 : Aside (t.data.toList.take (k + 1) = t.data.toList.take k ++ [t[k]'hlt]) := HTK
          have hlx := (t[k]'hlt).toNat_lt
          clear HNX HNK HTK hbt
          obtain ⟨x, hx⟩ : ∃ x, t[k]'hlt = x := ⟨_, rfl⟩
          rw [hx] at hlx HNX2 HNK2 HTK2
          obtain ⟨y, hy⟩ : ∃ y, x.toNat = y := ⟨_, rfl⟩
          have HY : Aside (x.toNat = y) := hy
          by_cases hd1 : y < 48
          · have hd1z : (y : Int) < 48 := by omega
            have HV2 : Aside (scoreD t = -1) := HNK2.out (by rw [hy]; omega)
            clear HNX2 HNK2 HTK2 HY
            go_wp2
            go_ret
            exact ⟨⟨_, rfl, HE.out _ HV2.out⟩, HB.out⟩
          · have hd1z : ¬ (y : Int) < 48 := by omega
            by_cases hd2 : 57 < y
            · have hd2z : (57 : Int) < (y : Int) := by omega
              have HV2 : Aside (scoreD t = -1) := HNK2.out (by rw [hy]; omega)
              clear HNX2 HNK2 HTK2 HY
              go_wp2
              go_ret
              exact ⟨⟨_, rfl, HE.out _ HV2.out⟩, HB.out⟩
            · have hd2z : ¬ (57 : Int) < (y : Int) := by omega
              have HD2 : Aside (∀ b ∈ t.data.toList.take (k + 1), 48 ≤ b.toNat ∧ b.toNat ≤ 57) := by
                show ∀ b ∈ _, _
                rw [HTK2.out]
                intro b hb
                rcases List.mem_append.1 hb with hb | hb
                · exact HD.out b hb
                · rw [List.mem_singleton.1 hb, HY.out]; omega
              have HF2 : Aside (n * 10 + (y - 48) = foldD (t.data.toList.take (k + 1))) := by show _ = _; rw [HNX2.out, ← HF.out, HY.out]
              have hlim : n * 10 + (y - 48) + 1 ≤ 10 ^ (k + 1) := by
                have h7 := foldD_lt (k + 1) (t.data.toList.take (k + 1)) (by rw [List.length_take]; omega) HD2.out
                rw [← HF2.out] at h7
                exact h7
              have hpow : 10 ^ (k + 1) ≤ 10 ^ 3 := Nat.pow_le_pow_right (by decide) (by omega)
              have hlim2 : n * 10 + (y - 48) ≤ 999 := by have : (10 : Nat) ^ 3 = 1000 := by decide
                                                         omega
              clear hlim hpow HNX2 HNK2 HTK2 HF HD
              obtain ⟨d, hd⟩ : ∃ d, y = 48 + d := ⟨y - 48, by omega⟩
              subst hd
              rw [show 48 + d - 48 = d by omega] at HF2 hlim2
              have hw3 : IntKind.u8.wrap (((48 + d : Nat) : Int) - 48) = (d : Int) := by simp [IntKind.wrap, IntKind.signed, IntKind.bits]; omega
              have hw4 : IntKind.i64.wrap ((n : Int) * 10) = ((n * 10 : Nat) : Int) := by simp [IntKind.wrap, IntKind.signed, IntKind.bits]; omega
              have hw5 : IntKind.i64.wrap (d : Int) = (d : Int) := by simp [IntKind.wrap, IntKind.signed, IntKind.bits]; omega
              have hw6 : IntKind.i64.wrap (((n * 10 : Nat) : Int) + (d : Int)) = ((n * 10 + d : Nat) : Int) := by simp [IntKind.wrap, IntKind.signed, IntKind.bits]; omega
              have hw7 : ((48 + d : Nat) : Int) - 48 = (d : Int) := by omega
              go_wp2
              go_roundg (t.size - (k + 1))
              case measure => omega
              case rel => exact ⟨k + 1, n * 10 + d, by first | rfl | go_num | (simp; done), by go_num, by omega, Nat.le_refl _, hlim2, HF2, HD2, HB⟩
        · have hltz : ¬ (k : Int) < (t.size : Int) := by omega
          have hkk : k = t.size := by omega
          have hD := HD.out
          have hF := HF.out
          rw [List.take_of_length_le (by omega)] at hD hF
          have HV2 : Aside (scoreD t = if 100 < n then (-1 : Int) else ((n : Nat) : Int)) := by show _ = _; rw [HV.out hD, ← hF]
          clear HD HF hD hF
          by_cases h100 : 100 < n
          · have h100z : (100 : Int) < (n : Int) := by omega
            rw [if_pos h100] at HV2
            go_wp2
            go_ret
            exact ⟨⟨_, rfl, HE.out _ HV2.out⟩, HB.out⟩
          · have h100z : ¬ (100 : Int) < (n : Int) := by omega
            rw [if_neg h100] at HV2
            go_wp2
            go_ret
            exact ⟨⟨_, rfl, HE.out _ HV2.out⟩, HB.out⟩
theorem fsc_at (s : ByteArray) (k : Nat) (hk : k < s.size) (h59 : (s.get! k).toNat = 59) (hno : ∀ j, j < k → (s.get! j).toNat ≠ 59) : ∀ f a, s.size ≤ a + f → a ≤ k → fsc (pairsFrom s f a) = some (k, 59)
  | 0, a, h, h2 => by omega
  | f + 1, a, h, h2 => by
    have hp : a < s.size := by omega
    obtain ⟨k1, k2, k3⟩ := decode_low s a hp
    have hd := decode_fits s a hp
    rw [pairsFrom_step hp]
    unfold fsc
    by_cases e : a = k
    · subst e
      rw [k2 (by omega), h59, List.find?_cons_of_pos (by simp)]
    · have hne : (Utf8.decode s a).1 ≠ 59 := fun h5 => by
        have h6 := k1.1 (by omega)
        have h7 := k2 h6
        rw [h7] at h5
        exact hno a (by omega) h5
      rw [List.find?_cons_of_neg (by simpa using hne)]
      refine fsc_at s k hk h59 hno f _ (by omega) ?_
      rcases Nat.lt_or_ge k (a + (Utf8.decode s a).2) with h8 | h8
      · have := k3 (k - a) (by omega) (by omega)
        rw [show a + (k - a) = k by omega] at this
        omega
      · exact h8
theorem fsc_none (s : ByteArray) (hno : ∀ j, j < s.size → (s.get! j).toNat ≠ 59) : fsc (pairs s) = none := by
  unfold fsc
  rw [List.find?_eq_none]
  intro x hx e
  have h1 := pairs_mem s _ _ x hx
  have e : x.2 = 59 := by simpa using e
  rw [h1.2] at e
  obtain ⟨k1, k2, _⟩ := decode_low s x.1 h1.1
  have h6 := k1.1 (by omega)
  rw [k2 h6] at e
  exact hno x.1 h1.1 e
theorem say_trim {s t : ByteArray} (h : IsTrim s t) : (t = ⟨#[]⟩ ∧ sayN (pairs s) = true) ∨ (∃ h0 : 0 < t.size, sayN (pairs s) = ((t[0]'h0).toNat == 35)) := by
  rcases h with ⟨rfl, h⟩ | ⟨pre, mid, post, x, m1, m2, y, b, hps, hpre, hpost, hm1, hm2, hx, hy, hb, rfl⟩
  · left
    refine ⟨rfl, ?_⟩
    unfold sayN fnb
    rw [List.find?_eq_none.2 (fun z hz e => (of_decide_eq_true e) (h z hz))]
  · right
    have hR := runsP_all s
    rw [hps] at hR
    obtain ⟨a, r1, r2⟩ := runsP_split s pre _ 0 _ hR
    obtain ⟨c, r3, r4⟩ := runsP_split s mid post a _ r2
    have hxa : x = (a, (Utf8.decode s a).1) := by
      rw [hm1] at r3
      exact r3.2.1
    have hbc : b = c := by
      rw [hb]
      cases post with
      | nil => exact (show s.size = c from (show c = s.size from r4).symm)
      | cons z l => rw [List.head?_cons, Option.map_some, Option.getD_some, r4.2.1]
    subst hbc
    have hbs : b ≤ s.size := by have := runsP_le s post b _ r4; omega
    have hab := runsP_le s mid a b r3
    have hml : 1 ≤ mid.length := by rw [hm1]; simp
    have hx1 : x.1 = a := by rw [hxa]
    rw [hx1]
    have has : a < s.size := by omega
    refine ⟨by rw [ByteArray.size_extract]; omega, ?_⟩
    have hget : (s.extract a b)[0]'(by rw [ByteArray.size_extract]; omega) = s[a]'has := by
      rw [ByteArray.getElem_extract]
      congr 1
    rw [hget, ← get_eq s has]
    have hf : fnb (pairs s) = some x := by
      unfold fnb
      rw [hps, List.find?_append, List.find?_eq_none.2 (fun z hz e => (of_decide_eq_true e) (hpre z hz)), hm1, List.cons_append, Option.none_or]
      exact List.find?_cons_of_pos (p := fun x : Nat × Nat => decide (¬ isB (x.2 : Int))) (decide_eq_true hx)
    unfold sayN
    rw [hf]
    obtain ⟨k1, k2, _⟩ := decode_low s a has
    show (x.2 == 35) = _
    rw [hxa]
    by_cases hl : (s.get! a).toNat < 128
    · rw [k2 hl]
    · have h1 : ¬ (Utf8.decode s a).1 < 128 := fun h => hl (k1.1 h)
      have e1 : ((Utf8.decode s a).1 == 35) = false := by rw [beq_eq_false_iff_ne]; omega
      have e2 : ((s.get! a).toNat == 35) = false := by rw [beq_eq_false_iff_ne]; omega
      rw [e1, e2]
/-- What the document's line answers. -/
noncomputable def lineD (L : List ByteArray) (s : ByteArray) : List Nat × Int × Int :=
  if sayN (pairs s) = true then ([], 0, -1)
  else if foldS false (cutS s).1 = ⟨#[]⟩ then ([], 0, 90)
  else if (scoreP (cutS s).2).2 = false then ([], 0, 91)
  else ((splitS L (foldS false (cutS s).1)).1, ((scoreP (cutS s).2).1 : Nat), (splitS L (foldS false (cutS s).1)).2.2)
end Go.Proofs.YtikfaalbdnlelaaGreatDoor.Utf
/-
  The document's line and Find walked.
-/
namespace Go.Proofs.YtikfaalbdnlelaaGreatDoor.Utf
open Go Go.Lib Go.RowKit

theorem slice_mid0 (w : World) (s : ByteArray) (k : Nat) (h : k ≤ s.size) : (Instr.slice 9 (.string s) none (some (.int .i64 (k : Int))) none).run Tryz.prog w = .ok (.string (s.extract 0 k)) w := by
  have := run_slice_string_h (P := Tryz.prog) w 9 s Tryz.underlying9 .i64 (k : Int) (by omega) (by omega)
  rw [Int.toNat_natCast] at this
  exact this
theorem slice_tail (w : World) (s : ByteArray) (k : Nat) (z : Int) (hz : z = (k : Int)) (h : k ≤ s.size) : (Instr.slice 9 (.string s) (some (.int .i64 z)) none none).run Tryz.prog w = .ok (.string (s.extract k s.size)) w := by
  subst hz
  have := run_slice_string_l (P := Tryz.prog) w 9 s Tryz.underlying9 .i64 (k : Int) (by omega) (by omega)
  rw [Int.toNat_natCast] at this
  exact this
theorem score_50 : scoreP ⟨#[53, 48]⟩ = (50, true) := by kernel_rfl
theorem lineD_none {L : List ByteArray} {s : ByteArray} (h : sayN (pairs s) = true) : lineD L s = ([], 0, -1) := by unfold lineD; rw [if_pos h]
theorem lineD_form {L : List ByteArray} {s : ByteArray} (h : sayN (pairs s) = false) (h1 : foldS false (cutS s).1 = ⟨#[]⟩) : lineD L s = ([], 0, 90) := by unfold lineD; rw [if_neg (by rw [h]; decide), if_pos h1]
theorem lineD_score {L : List ByteArray} {s : ByteArray} (h : sayN (pairs s) = false) (h1 : ¬ foldS false (cutS s).1 = ⟨#[]⟩) (h2 : (scoreP (cutS s).2).2 = false) : lineD L s = ([], 0, 91) := by unfold lineD; rw [if_neg (by rw [h]; decide), if_neg h1, if_pos h2]
theorem lineD_word {L : List ByteArray} {s : ByteArray} (h : sayN (pairs s) = false) (h1 : ¬ foldS false (cutS s).1 = ⟨#[]⟩) (h2 : (scoreP (cutS s).2).2 = true) : lineD L s = ((splitS L (foldS false (cutS s).1)).1, (((scoreP (cutS s).2).1 : Nat) : Int), (splitS L (foldS false (cutS s).1)).2.2) := by unfold lineD; rw [if_neg (by rw [h]; decide), if_neg h1, if_neg (by rw [h2]; decide)]

set_option maxRecDepth 100000 in
set_option maxHeartbeats 4000000 in
theorem refLine_any {W : World} (L : List ByteArray) (al : Option Addr) (cl : Nat) (h40 : L.length ≤ 40) (hNd : L.Nodup) (hLs : ∀ x ∈ L, 1 ≤ x.size ∧ x.size ≤ 12) (hRL : ReadsO W al (L.map Value.string)) (s : ByteArray) (hs : s.size ≤ 65536) :
    Calls Tryz.prog 40 #[.slice al L.length cl, .string s] W fun e w' => (∃ v, e = .returned (.tuple #[v, .int .i64 (lineD L s).2.1, .int .i64 (lineD L s).2.2]) ∧ w'.ownsRow W.heap.size 3 1 v (lineD L s).1.length (nums (lineD L s).1)) ∧ Below W.heap.size W w' := by
  have HRL : Aside (∀ Z, Below W.heap.size W Z → ReadsO Z al (L.map Value.string)) := fun Z hb => hRL.below hb
  have cT := trimmed_any s W (by omega)
  obtain ⟨D, hD⟩ : ∃ D, lineD L s = D := ⟨_, rfl⟩
  rw [hD]
  have HDD : Aside (lineD L s = D) := hD
  clear hRL hD
  go_enter Tryz.func40, Tryz.ntmps40
  go_wp2_with fail
  refine cT.mono ?_
  rintro e w1 ⟨⟨t, rfl, hT⟩, hb1⟩
  have HB1 : Aside (Below W.heap.size W w1) := hb1
  clear cT hb1
  rcases say_trim hT with ⟨rfl, hN⟩ | ⟨h0, hN⟩
  · have HV : Aside (D = ([], 0, -1)) := HDD.out.symm.trans (lineD_none hN)
    have he : ((⟨#[]⟩ : ByteArray).toList.isEmpty) = true := by rw [ByteArray.toList_eq]; rfl
    clear hT hN
    go_wp2
    go_ret3
    rw [HV.out]
    exact ⟨⟨_, rfl, World.ownsRow_nil _ _ _ _⟩, HB1.out⟩
  · have he : (t.toList.isEmpty) = false := by
      cases e : t.toList.isEmpty with
      | false => rfl
      | true =>
        exfalso
        have : t.toList.length = 0 := by rw [List.isEmpty_iff.1 e]; rfl
        rw [Lib.toList_data, ba_len] at this
        omega
    have h0z : (0 : Int) < (t.size : Int) := by omega
    clear hT
    obtain ⟨x, hx⟩ : ∃ x, t[0]'h0 = x := ⟨_, rfl⟩
    rw [hx] at hN
    have hlx := x.toNat_lt
    obtain ⟨xn, hxn⟩ : ∃ xn, x.toNat = xn := ⟨_, rfl⟩
    rw [hxn] at hN hlx
    by_cases h35 : xn = 35
    · have h35z : ((xn : Int) == 35) = true := by rw [beq_iff_eq]; omega
      have HV : Aside (D = ([], 0, -1)) := HDD.out.symm.trans (lineD_none (by rw [hN, h35]; rfl))
      clear hN
      go_wp2
      go_ret3
      rw [HV.out]
      exact ⟨⟨_, rfl, World.ownsRow_nil _ _ _ _⟩, HB1.out⟩
    · have h35z : ((xn : Int) == 35) = false := by rw [beq_eq_false_iff_ne]; omega
      have hN2 : sayN (pairs s) = false := by rw [hN, beq_eq_false_iff_ne]; exact h35
      have HN2 : Aside (sayN (pairs s) = false) := hN2
      clear hN hN2
      go_wp2
      go_loopg [8, 9, 10] s.size (fun g1 vw vn vi wr => ∃ k : Nat, vi = .int .i64 (k : Int) ∧ vw = .string s ∧ vn = .int .i64 50 ∧ k ≤ s.size ∧ s.size - k ≤ g1 ∧ Aside (∀ j, j < k → (s.get! j).toNat ≠ 59) ∧ Aside (Below W.heap.size W wr))
      case atStart => exact ⟨0, rfl, rfl, rfl, Nat.zero_le _, Nat.le_refl _, fun j h => by omega, HB1⟩
      case round =>
        obtain ⟨k, rfl, rfl, rfl, hk, hg1, HK, HB⟩ := hrel
        by_cases hlt : k < s.size
        · have hltz : (k : Int) < (s.size : Int) := by omega
          have hgk := get_eq s hlt
          obtain ⟨y, hy⟩ : ∃ y, s[k]'hlt = y := ⟨_, rfl⟩
          rw [hy] at hgk
          have hly := y.toNat_lt
          obtain ⟨yn, hyn⟩ : ∃ yn, y.toNat = yn := ⟨_, rfl⟩
          rw [hyn] at hly
          by_cases h59 : yn = 59
          · have h59z : ((yn : Int) == 59) = true := by rw [beq_iff_eq]; omega
            have hcut : cutS s = (s.extract 0 k, s.extract (k + 1) s.size) := by
              unfold cutS
              rw [show fsc (pairs s) = some (k, 59) from fsc_at s k hlt (by rw [hgk, hyn]; exact h59) HK.out _ 0 (by omega) (Nat.zero_le _)]
            have hc1 : (cutS s).1 = s.extract 0 k := by rw [hcut]
            have hc2 : (cutS s).2 = s.extract (k + 1) s.size := by rw [hcut]
            have HD1 : Aside (foldS false (s.extract 0 k) = ⟨#[]⟩ → D = ([], 0, 90)) := fun h => HDD.out.symm.trans (lineD_form HN2.out (by rw [hc1]; exact h))
            have HD2 : Aside (¬ foldS false (s.extract 0 k) = ⟨#[]⟩ → (scoreP (s.extract (k + 1) s.size)).2 = false → D = ([], 0, 91)) := fun h h2 => HDD.out.symm.trans (lineD_score HN2.out (by rw [hc1]; exact h) (by rw [hc2]; exact h2))
            have HD3 : Aside (¬ foldS false (s.extract 0 k) = ⟨#[]⟩ → (scoreP (s.extract (k + 1) s.size)).2 = true → D = ((splitS L (foldS false (s.extract 0 k))).1, (((scoreP (s.extract (k + 1) s.size)).1 : Nat) : Int), (splitS L (foldS false (s.extract 0 k))).2.2)) := fun h h2 => by
              have := HDD.out.symm.trans (lineD_word (L := L) HN2.out (by rw [hc1]; exact h) (by rw [hc2]; exact h2))
              rw [hc1, hc2] at this
              exact this
            have hsl1 := fun Z => slice_mid0 Z s k (by omega)
            have hsl2 := fun Z => slice_tail Z s (k + 1) ((k : Int) + 1) (by omega) (by omega)
            have cSc := fun Z => refScore_any (s.extract (k + 1) s.size) Z (by rw [ByteArray.size_extract]; omega)
            have hwd : (s.extract 0 k).size ≤ 65536 := by rw [ByteArray.size_extract]; omega
            have hbd : Below W.heap.size W wr.drew := Below.drew HB.out
            clear hgk HK hcut hc1 hc2
            generalize s.extract 0 k = wd at *
            generalize s.extract (k + 1) s.size = sc at *
            obtain ⟨sn, hsn⟩ : ∃ sn, (scoreP sc).1 = sn := ⟨_, rfl⟩
            obtain ⟨sb, hsb0⟩ : ∃ sb, (scoreP sc).2 = sb := ⟨_, rfl⟩
            rw [hsn, hsb0] at HD3
            rw [hsb0] at HD2
            simp only [hsn, hsb0] at cSc
            clear hsn hsb0
            go_wp2
            have hwk : IntKind.i64.wrap ((k : Int) + 1) = (k : Int) + 1 := by simp [IntKind.wrap, IntKind.signed, IntKind.bits]; omega
            refine wp_region_held (S := fun _ => True) (by kernel_rfl) ?_
            refine (show wpAnyH _ .any _ _ _ 10 (Array.replicate 10 false) _ wr.drew from ?_)
            refine takeD (i := 0) (d := 35) (v := .string s) rfl (by kernel_rfl) (by kernel_rfl) (by kernel_rfl) (fun _ _ _ h => h) (fun oi ho => yields_now ho rfl fun Z hSw => ?_) trivial ?_
            · go_simp
            simp only [Act.put, List.setIfInBounds_toArray, List.set_cons_zero, List.set_cons_succ]
            refine takeD (i := 1) (d := 36) (v := .int .i64 (k : Int)) rfl (by kernel_rfl) (by kernel_rfl) (by kernel_rfl) (fun _ _ _ h => h) (fun oi ho => yields_now ho rfl fun Z hSw => ?_) trivial ?_
            · go_simp
            simp only [Act.put, List.setIfInBounds_toArray, List.set_cons_zero, List.set_cons_succ]
            refine takeD (i := 2) (d := 37) (v := .string wd) rfl (by kernel_rfl) (by kernel_rfl) (by kernel_rfl) (fun _ _ _ h => h) (fun oi ho => yields_now ho rfl fun Z hSw => ?_) trivial ?_
            · go_simp
            simp only [Act.put, List.setIfInBounds_toArray, List.set_cons_zero, List.set_cons_succ]
            refine takeD (i := 3) (d := 38) (v := .string s) rfl (by kernel_rfl) (by kernel_rfl) (by kernel_rfl) (fun _ _ _ h => h) (fun oi ho => yields_now ho rfl fun Z hSw => ?_) trivial ?_
            · go_simp
            simp only [Act.put, List.setIfInBounds_toArray, List.set_cons_zero, List.set_cons_succ]
            refine takeD (i := 4) (d := 39) (v := .int .i64 (k : Int)) rfl (by kernel_rfl) (by kernel_rfl) (by kernel_rfl) (fun _ _ _ h => h) (fun oi ho => yields_now ho rfl fun Z hSw => ?_) trivial ?_
            · go_simp
            simp only [Act.put, List.setIfInBounds_toArray, List.set_cons_zero, List.set_cons_succ]
            refine takeD (i := 5) (d := 40) (v := .int .i64 ((k : Int) + 1)) rfl (by kernel_rfl) (by kernel_rfl) (by kernel_rfl) (fun _ _ _ h => h) (fun oi ho => yields_now ho rfl fun Z hSw => ?_) trivial ?_
            · go_simp
            simp only [Act.put, List.setIfInBounds_toArray, List.set_cons_zero, List.set_cons_succ]
            refine takeD (i := 6) (d := 41) (v := .string sc) rfl (by kernel_rfl) (by kernel_rfl) (by kernel_rfl) (fun _ _ _ h => h) (fun oi ho => yields_now ho rfl fun Z hSw => ?_) trivial ?_
            · go_simp
            simp only [Act.put, List.setIfInBounds_toArray, List.set_cons_zero, List.set_cons_succ]
            refine wpAnyH_all (rs := [7]) (by kernel_rfl) (by simp) (fun i hi => ?_)
            obtain rfl := List.mem_singleton.1 hi
            refine wpOp_call rfl rfl rfl (by go_simp) (cSc wr.drew) ?_
            rintro e wx ⟨⟨z, rfl, HZ0⟩, hbx⟩
            have HZ : Aside ((sb = true ∧ z = ((sn : Nat) : Int)) ∨ (sb = false ∧ z = -1)) := HZ0
            clear HZ0
            have HBx : Aside (Below W.heap.size W wx) := hbd.trans (hbx.mono hbd.size)
            refine ⟨_, rfl, trivial, ?_⟩
            clear hbx
            simp only [Act.put, List.setIfInBounds_toArray, List.set_cons_zero, List.set_cons_succ]
            refine takeD (i := 8) (d := 8) (v := .string wd) rfl (by kernel_rfl) (by kernel_rfl) (by kernel_rfl) (fun _ _ _ h => h) (fun oi ho => yields_now ho rfl fun Z hSw => ?_) trivial ?_
            · go_simp
            simp only [Act.put, List.setIfInBounds_toArray, List.set_cons_zero, List.set_cons_succ]
            refine takeD (i := 9) (d := 9) (v := .int .i64 z) rfl (by kernel_rfl) (by kernel_rfl) (by kernel_rfl) (fun _ _ _ h => h) (fun oi ho => yields_now ho rfl fun Z hSw => ?_) trivial ?_
            · go_simp
            simp only [Act.put, List.setIfInBounds_toArray, List.set_cons_zero, List.set_cons_succ]
            refine wpAnyH_done (by kernel_rfl) ?_ _
            have cF := refFold_any wd false wx (by omega)
            have hfs := foldS_fits false wd
            go_wp2_with fail
            refine cF.mono ?_
            rintro e wf ⟨rfl, hbf⟩
            have HBF : Aside (Below W.heap.size W wf) := HBx.out.trans (hbf.mono HBx.out.size)
            clear cF hbf
            generalize foldS false wd = f at *
            by_cases hf : f = ⟨#[]⟩
            · have HV := HD1.out hf
              subst hf
              have he : ((⟨#[]⟩ : ByteArray).toList.isEmpty) = true := by rw [ByteArray.toList_eq]; rfl
              clear HD2 HD3 HD1
              go_wp2
              go_ret3
              rw [HV]
              exact ⟨⟨_, rfl, World.ownsRow_nil _ _ _ _⟩, HBF.out⟩
            · have he : (f.toList.isEmpty) = false := by
                cases e : f.toList.isEmpty with
                | false => rfl
                | true => exact absurd (ba_eq (by rw [← Lib.toList_data, List.isEmpty_iff.1 e])) hf
              rcases HZ.out with ⟨hsb, rfl⟩ | ⟨hsb, rfl⟩
              · have hz0 : ¬ ((sn : Nat) : Int) < 0 := by omega
                have HV := HD3.out hf hsb
                have cS := refSplit_any L al cl wf h40 hNd hLs (HRL.out wf HBF.out) f (by omega)
                have HV2 : Aside (D = ((splitS L f).1, ((sn : Nat) : Int), (splitS L f).2.2)) := HV
                clear HV HD1 HD2 HD3
                generalize splitS L f = sp at *
                obtain ⟨sp1, sp2, sp3⟩ := sp
                go_wp2_with fail
                refine cS.mono ?_
                rintro e ws ⟨vs, rfl, hbs, hrow⟩
                have HBS : Aside (Below W.heap.size W ws) := HBF.out.trans (hbs.mono HBF.out.size)
                have hrow2 := row_low hrow HBF.out.size
                clear cS hbs hrow
                go_wp2
                go_ret3
                rw [HV2.out]
                exact ⟨⟨_, rfl, hrow2⟩, HBS.out⟩
              · have hz0 : (-1 : Int) < 0 := by omega
                have HV := HD2.out hf hsb
                clear HD1 HD2 HD3
                go_wp2
                go_ret3
                rw [HV]
                exact ⟨⟨_, rfl, World.ownsRow_nil _ _ _ _⟩, HBF.out⟩
          · have h59z : ((yn : Int) == 59) = false := by rw [beq_eq_false_iff_ne]; omega
            have HK2 : Aside (∀ j, j < k + 1 → (s.get! j).toNat ≠ 59) := fun j h => by
              by_cases hj : j = k
              · subst hj; rw [hgk, hyn]; exact h59
              · exact HK.out j (by omega)
            clear hgk HK
            go_wp2
            go_roundg (s.size - (k + 1))
            case measure => omega
            case rel => exact ⟨k + 1, by go_num, rfl, rfl, by omega, Nat.le_refl _, HK2, HB⟩
        · have hltz : ¬ (k : Int) < (s.size : Int) := by omega
          have hcut : cutS s = (s, ⟨#[53, 48]⟩) := by
            unfold cutS
            rw [fsc_none s (fun j hj => HK.out j (by omega))]
          have hc1 : (cutS s).1 = s := by rw [hcut]
          have hc2 : scoreP (cutS s).2 = (50, true) := by rw [hcut]; exact score_50
          obtain ⟨sn, hsn⟩ : ∃ sn : Nat, sn = 50 := ⟨_, rfl⟩
          obtain ⟨sb, hsb0⟩ : ∃ sb : Bool, sb = true := ⟨_, rfl⟩
          obtain ⟨wd, hwd0⟩ : ∃ wd, wd = s := ⟨_, rfl⟩
          have HD1 : Aside (foldS false wd = ⟨#[]⟩ → D = ([], 0, 90)) := fun h => HDD.out.symm.trans (lineD_form HN2.out (by rw [hc1, ← hwd0]; exact h))
          have HD2 : Aside (¬ foldS false wd = ⟨#[]⟩ → sb = false → D = ([], 0, 91)) := fun h h2 => by rw [hsb0] at h2; cases h2
          have HD3 : Aside (¬ foldS false wd = ⟨#[]⟩ → sb = true → D = ((splitS L (foldS false wd)).1, ((sn : Nat) : Int), (splitS L (foldS false wd)).2.2)) := fun h h2 => by
            have := HDD.out.symm.trans (lineD_word (L := L) HN2.out (by rw [hc1, ← hwd0]; exact h) (by rw [hc2]))
            rw [hc1, hc2] at this
            rw [hwd0, hsn]
            exact this
          have HZ : Aside ((sb = true ∧ (50 : Int) = ((sn : Nat) : Int)) ∨ (sb = false ∧ (50 : Int) = -1)) := .inl ⟨hsb0, by rw [hsn]; rfl⟩
          have hwd : wd.size ≤ 65536 := by rw [hwd0]; exact hs
          have HBx : Aside (Below W.heap.size W wr) := HB.out
          generalize wr = wx at *
          generalize (50 : Int) = z at HZ ⊢
          clear hcut hc1 hc2 HK hsn hsb0
          subst hwd0
          have cF := refFold_any wd false wx (by omega)
          have hfs := foldS_fits false wd
          go_wp2_with fail
          refine cF.mono ?_
          rintro e wf ⟨rfl, hbf⟩
          have HBF : Aside (Below W.heap.size W wf) := HBx.out.trans (hbf.mono HBx.out.size)
          clear cF hbf
          generalize foldS false wd = f at *
          by_cases hf : f = ⟨#[]⟩
          · have HV := HD1.out hf
            subst hf
            have he : ((⟨#[]⟩ : ByteArray).toList.isEmpty) = true := by rw [ByteArray.toList_eq]; rfl
            clear HD2 HD3 HD1
            go_wp2
            go_ret3
            rw [HV]
            exact ⟨⟨_, rfl, World.ownsRow_nil _ _ _ _⟩, HBF.out⟩
          · have he : (f.toList.isEmpty) = false := by
              cases e : f.toList.isEmpty with
              | false => rfl
              | true => exact absurd (ba_eq (by rw [← Lib.toList_data, List.isEmpty_iff.1 e])) hf
            rcases HZ.out with ⟨hsb, rfl⟩ | ⟨hsb, rfl⟩
            · have hz0 : ¬ ((sn : Nat) : Int) < 0 := by omega
              have HV := HD3.out hf hsb
              have cS := refSplit_any L al cl wf h40 hNd hLs (HRL.out wf HBF.out) f (by omega)
              have HV2 : Aside (D = ((splitS L f).1, ((sn : Nat) : Int), (splitS L f).2.2)) := HV
              clear HV HD1 HD2 HD3
              generalize splitS L f = sp at *
              obtain ⟨sp1, sp2, sp3⟩ := sp
              go_wp2_with fail
              refine cS.mono ?_
              rintro e ws ⟨vs, rfl, hbs, hrow⟩
              have HBS : Aside (Below W.heap.size W ws) := HBF.out.trans (hbs.mono HBF.out.size)
              have hrow2 := row_low hrow HBF.out.size
              clear cS hbs hrow
              go_wp2
              go_ret3
              rw [HV2.out]
              exact ⟨⟨_, rfl, hrow2⟩, HBS.out⟩
            · have hz0 : (-1 : Int) < 0 := by omega
              have HV := HD2.out hf hsb
              clear HD1 HD2 HD3
              go_wp2
              go_ret3
              rw [HV]
              exact ⟨⟨_, rfl, World.ownsRow_nil _ _ _ _⟩, HBF.out⟩
/-- What the document's Find answers. -/
def FindP (l : List (List Int × Int)) (c : List Int) (n : Int) (b : Bool) : Prop := (b = true ∧ ∃ k, ∃ h : k < l.length, l[k].1 = c ∧ n = (k : Int)) ∨ (b = false ∧ n = 0 ∧ ∀ k (h : k < l.length), l[k].1 ≠ c)

def FindQ (W : World) (l : List (List Int × Int)) (c : List Int) (e : Ending) (w' : World) : Prop := (∃ n b, e = .returned (.tuple #[.int .i64 n, .bool b]) ∧ FindP l c n b) ∧ Below W.heap.size W w'

set_option maxRecDepth 100000 in
set_option maxHeartbeats 4000000 in
theorem refFind_any {B : Nat} {W : World} {v : Value} {es : List WdV} (h : IsWd B W v es) (hes : es.length ≤ 1000) (h32 : ∀ x ∈ es, x.c.length ≤ 32) (c : List Int) (ac : Option Addr) (cc : Nat) (hR : ReadsO W ac (ints c)) :
    Calls Tryz.prog 41 #[v, .slice ac c.length cc] W (FindQ W (toL es) c) := by
  obtain ⟨ao, cap, rfl, hnil, -⟩ := h.slice
  have H : Aside (∀ Z, Below W.heap.size W Z → IsWd B Z (.slice ao es.length cap) es) := fun Z hb => h.below hb
  have HR : Aside (∀ Z, Below W.heap.size W Z → ReadsO Z ac (ints c)) := fun Z hb => hR.below hb
  have H32 : Aside (∀ x ∈ es, x.c.length ≤ 32) := h32
  clear h hR h32
  go_enter Tryz.func41, Tryz.ntmps41
  go_wp2
  go_loopg [6] es.length (fun g1 vk wr => ∃ k : Nat, vk = .int .i64 (k : Int) ∧ k ≤ es.length ∧ es.length - k ≤ g1 ∧ Aside (∀ i (hi : i < es.length), i < k → es[i].c ≠ c) ∧ Aside (Below W.heap.size W wr))
  case atStart => exact ⟨0, rfl, Nat.zero_le _, Nat.le_refl _, fun i _ h => by omega, Below.refl _ _⟩
  case round =>
    obtain ⟨k, rfl, hk, hg1, HK, HB⟩ := hrel
    by_cases hlt : k < es.length
    · have hltz : (k : Int) < (es.length : Int) := by omega
      obtain ⟨g, rfl, q1, q2⟩ := (H.out wr HB.out).at' hlt
      have hmk := (H.out wr HB.out).mem es[k] (List.getElem_mem hlt)
      have hk32 := H32.out es[k] (List.getElem_mem hlt)
      have cO := refOrder_any es[k].c c (by omega) es[k].ao ac es[k].cap cc wr hmk.1 (HR.out wr HB.out)
      obtain ⟨od, hod⟩ : ∃ od, ordI es[k].c c = od := ⟨_, rfl⟩
      have HOD : Aside (ordI es[k].c c = od) := hod
      rw [hod] at cO
      clear hmk hod
      by_cases h1 : od = 0
      · have h1b : (od == 0) = true := by rw [beq_iff_eq]; exact h1
        have HF : Aside (FindP (toL es) c (k : Int) true) := .inl ⟨rfl, k, by rw [toL_len]; exact hlt, by rw [toL_at hlt]; exact ordI_zero.1 (HOD.out.trans h1), rfl⟩
        clear HOD HK
        generalize es[k].c.length = N at *
        go_wp2_with fail
        refine cO.mono ?_
        rintro e w2 ⟨rfl, hb2⟩
        have HB2 : Aside (Below W.heap.size W w2) := HB.out.trans (hb2.mono HB.out.size)
        go_wp2
        go_ret2
        exact ⟨⟨_, _, rfl, HF.out⟩, HB2.out⟩
      · have h1b : (od == 0) = false := by rw [beq_eq_false_iff_ne]; exact h1
        have HK2 : Aside (∀ i (hi : i < es.length), i < k + 1 → es[i].c ≠ c) := fun i hi h2 => by
          by_cases hik : i = k
          · subst hik; exact fun e => h1 (HOD.out.symm.trans (ordI_zero.2 e))
          · exact HK.out i hi (by omega)
        clear HK HOD
        generalize es[k].c.length = N at *
        go_wp2_with fail
        refine cO.mono ?_
        rintro e w2 ⟨rfl, hb2⟩
        have HB2 : Aside (Below W.heap.size W w2) := HB.out.trans (hb2.mono HB.out.size)
        clear cO q1 q2
        go_wp2
        go_roundg (es.length - (k + 1))
        case measure => omega
        case rel => exact ⟨k + 1, by go_num, by omega, Nat.le_refl _, HK2, HB2⟩
    · have hltz : ¬ (k : Int) < (es.length : Int) := by omega
      have HF : Aside (FindP (toL es) c 0 false) := .inr ⟨rfl, rfl, fun i hi => by rw [toL_len] at hi; rw [toL_at hi]; exact HK.out i hi (by omega)⟩
      clear HK
      go_wp2
      go_ret2
      exact ⟨⟨_, _, rfl, HF.out⟩, HB.out⟩
end Go.Proofs.YtikfaalbdnlelaaGreatDoor.Utf
/-
  The document's Read walked: every line taken in, or refused.
-/
namespace Go.Proofs.YtikfaalbdnlelaaGreatDoor.Utf
open Go Go.Lib Go.RowKit

theorem splitR_err (L : List ByteArray) (s : ByteArray) : ∀ (f pos : Nat) (done : List Nat), (splitR L s f pos done).2.2 = 0 ∨ 0 < (splitR L s f pos done).2.2
  | 0, pos, done => by simp [splitR]
  | f + 1, pos, done => by
    by_cases he : pos = s.size
    · rw [splitR_end he]; exact .inl rfl
    · by_cases h32 : done.length = 32
      · rw [splitR_long he h32]; exact .inr (show (0 : Int) < 34 by decide)
      · cases hb : best L (s.extract pos s.size) with
        | none => rw [splitR_none he h32 hb]; exact .inr (show (0 : Int) < 33 by decide)
        | some i => rw [splitR_next he h32 hb]; exact splitR_err L s f _ _
theorem splitS_err (L : List ByteArray) (s : ByteArray) : (splitS L s).2.2 = 0 ∨ 0 < (splitS L s).2.2 := splitR_err L s 33 0 []
/-- What a line says, on both sides. -/
theorem read_line {L : List ByteArray} {x : ByteArray} (l : List (List Int × Int)) (h : sayN (pairs x) = false) :
    ((lineD L x).2.2 ≠ 0 ∧ 0 < (lineD L x).2.2 ∧ readL L x l = ((lineD L x).2.2, l)) ∨
    ((lineD L x).2.2 = 0 ∧ readL L x l = if lookL l ((lineD L x).1.map fun r : Nat => (r : Int)) = none ∧ l.length = 1000 then (111, l) else (0, putL l ((lineD L x).1.map fun r : Nat => (r : Int)) (lineD L x).2.1)) := by
  by_cases h1 : foldS false (cutS x).1 = ⟨#[]⟩
  · left
    rw [lineD_form h h1]
    exact ⟨by decide, by decide, by unfold readL; rw [if_pos h1]⟩
  · cases h2 : (scoreP (cutS x).2).2 with
    | false =>
      left
      rw [lineD_score h h1 h2]
      exact ⟨by decide, by decide, by unfold readL; rw [if_neg h1, if_pos h2]⟩
    | true =>
      rw [lineD_word h h1 h2]
      rcases splitS_err L (foldS false (cutS x).1) with h3 | h3
      · right
        refine ⟨h3, ?_⟩
        unfold readL
        rw [if_neg h1, if_neg (by rw [h2]; decide), if_neg (fun e => e h3)]
        rfl
      · left
        have h4 : (splitS L (foldS false (cutS x).1)).2.2 ≠ 0 := by omega
        refine ⟨h4, h3, ?_⟩
        unfold readL
        rw [if_neg h1, if_neg (by rw [h2]; decide), if_pos (fun e => by rw [e] at h3; exact absurd h3 (by decide))]
/-- The document's words and refused lines while it reads. -/
structure RdSt (B : Nat) (W : World) (vl : Value) (es : List WdV) (vb : Value) (bad : List (Int × Int)) : Prop where
  wd : IsWd B W vl es
  row : W.ownsRow B 48 2 vb bad.length (badC bad)
  ne : ∀ b, vb.ownBlock = some b → vl.ownBlock ≠ some b ∧ ∀ x ∈ es, ∀ o, x.ao ≠ some ⟨b, o, none⟩
theorem IsWd.turn2 {B : Nat} {W W' : World} {v : Value} {es : List WdV} {row : Option Nat} (h : IsWd B W v es) (hg : W.grownBy W' row) (hr : ∀ b, row = some b → v.ownBlock ≠ some b ∧ ∀ x ∈ es, ∀ o, x.ao ≠ some ⟨b, o, none⟩) : IsWd B W' v es := by
  refine ⟨row_turn h.row hg (fun b hb e e2 => (hr b e2.symm).1 e), fun x hx => ?_⟩
  obtain ⟨h1, h0, h2⟩ := h.mem x hx
  exact ⟨readsO_turn h1 hg (fun b o e e2 => (hr b e2.symm).2 x hx o e), h0, fun b o e => ⟨(h2 b o e).1, Nat.lt_of_lt_of_le (h2 b o e).2.1 hg.size, (h2 b o e).2.2⟩⟩
theorem RdSt.below {B : Nat} {W W' : World} {vl : Value} {es : List WdV} {vb : Value} {bad : List (Int × Int)} (h : RdSt B W vl es vb bad) (hb : Below W.heap.size W W') : RdSt B W' vl es vb bad :=
  ⟨h.wd.below hb, row_turn h.row (below_but hb none) (fun _ _ _ => by simp), h.ne⟩
/-- Behind a put. -/
theorem RdSt.put {B : Nat} {W0 W W' : World} {vl : Value} {es : List WdV} {vb : Value} {bad : List (Int × Int)} (h : RdSt B W vl es vb bad) {v' : Value} {es' : List WdV} (h1 : IsWd B W' v' es') (hg : W.grownBy W' vl.ownBlock) (ho : v'.ownBlock = vl.ownBlock ∨ ∃ b, v'.ownBlock = some b ∧ W.heap.size ≤ b) (hx : ∀ x ∈ es', (∃ y ∈ es, x.ao = y.ao) ∨ ∀ b o, x.ao = some ⟨b, o, none⟩ → W.heap.size ≤ b) (hw : Below W0.heap.size W0 W) (hB : W0.heap.size ≤ B) : RdSt B W' v' es' vb bad ∧ Below W0.heap.size W0 W' := by
  refine ⟨⟨h1, row_turn h.row hg (fun b _ e e2 => (h.ne b e).1 e2.symm), fun b e => ⟨fun e2 => ?_, fun x hxm o e2 => ?_⟩⟩, hw.grown hg hw.size (fun k e => Nat.le_trans hB (h.wd.row.lt k e).1)⟩
  · have hlt := (h.row.lt b e).2
    rcases ho with e3 | ⟨c, e3, e4⟩
    · exact (h.ne b e).1 (e3.symm.trans e2)
    · rw [e3] at e2; injection e2 with e2; omega
  · have hlt := (h.row.lt b e).2
    rcases hx x hxm with ⟨y, hy, e3⟩ | e3
    · exact (h.ne b e).2 y hy o (e3.symm.trans e2)
    · have := e3 b o e2; omega
/-- Behind one more refused line. -/
theorem RdSt.more {B : Nat} {W0 W W' : World} {vl : Value} {es : List WdV} {vb v' : Value} {bad : List (Int × Int)} {x : Int × Int} (o : Obj) (h : RdSt B W vl es vb bad) (hown : W'.ownsRow B 48 2 v' (bad.length + 1) (badC bad ++ [.int .i64 x.1, .int .i64 x.2])) (hg : (W.alloc o).grownBy W' vb.ownBlock) (hat : v'.ownBlock = vb.ownBlock ∨ v'.ownBlock = some (W.heap.size + 1)) (hw : Below W0.heap.size W0 W) (hB : W0.heap.size ≤ B) : RdSt B W' vl es v' (bad ++ [x]) ∧ Below W0.heap.size W0 W' := by
  have hg2 : W.grownBy W' vb.ownBlock := (World.grownBy_alloc W o _).trans hg
  refine ⟨⟨h.wd.turn2 hg2 (fun b e => h.ne b e), ?_, fun b e => ?_⟩, hw.grown hg2 hw.size (fun k e => Nat.le_trans hB (h.row.lt k e).1)⟩
  · rw [badC_snoc, List.length_append]
    exact hown
  · rcases hat with e2 | e2
    · exact h.ne b (e2.symm.trans e)
    · rw [e2] at e
      injection e with e
      subst e
      refine ⟨fun e3 => ?_, fun y hy o e3 => ?_⟩
      · have := (h.wd.row.lt _ e3).2; omega
      · have := ((h.wd.mem y hy).2.2 _ o e3).2.1; omega
/-- What the document's Read answers. -/
def ReadQ (W : World) (L : List ByteArray) (s : ByteArray) (e : Ending) (w' : World) : Prop := (∃ v es bv, e = .returned (.tuple #[v, bv, .int .i64 0]) ∧ IsWd W.heap.size w' v es ∧ toL es = (readT L s).1 ∧ w'.ownsRow W.heap.size 48 2 bv (readT L s).2.length (badC (readT L s).2)) ∧ Below W.heap.size W w'

set_option maxRecDepth 100000 in
set_option maxHeartbeats 4000000 in
theorem refRead_any {W : World} (L : List ByteArray) (al : Option Addr) (cl : Nat) (h40 : L.length ≤ 40) (hNd : L.Nodup) (hLs : ∀ x ∈ L, 1 ≤ x.size ∧ x.size ≤ 12) (hRL : ReadsO W al (L.map Value.string)) (s : ByteArray) (hs : s.size ≤ 65536) :
    Calls Tryz.prog 14 #[.slice al L.length cl, .string s] W (ReadQ W L s) := by
  obtain ⟨i0, hi0, hz0, hz1, hz2⟩ := info_parts infoRef
  have HRL : Aside (∀ Z, Below W.heap.size W Z → ReadsO Z al (L.map Value.string)) := fun Z hb => hRL.below hb
  have cL := refLines_any s W (by omega)
  have hnl := lines_len s.data.toList
  have hsz : s.data.toList.length = s.size := (Lib.size_eq s).symm
  have hea : ∀ x ∈ txts (lines s.data.toList), x.size ≤ 65536 := fun x hx => by
    obtain ⟨y, hy, rfl⟩ := List.mem_map.1 hx
    have := linesL_each _ _ _ hy
    rw [txt_size]
    omega
  have HT : Aside (readT L s = rdL L (txts (lines s.data.toList)) 0 [] []) := rfl
  obtain ⟨R, hR⟩ : ∃ R, readT L s = R := ⟨_, rfl⟩
  unfold ReadQ
  rw [hR] at HT ⊢
  have htl := txts_length (lines s.data.toList)
  generalize txts (lines s.data.toList) = T at *
  rw [← htl] at cL hnl
  clear hRL htl hR
  have hbig : ¬ (65536 : Int) < (s.size : Int) := by omega
  go_enter Tryz.func14, Tryz.ntmps14
  go_wp2_with fail
  refine cL.mono ?_
  rintro e wl ⟨vl, rfl, hownl, hbl⟩
  obtain ⟨tl, cpl, rfl, hrl⟩ := row_reads hownl
  clear cL
  have HWl : Aside (Below W.heap.size W wl) := hbl
  have HLN : Aside (∀ w k (hk : k < T.length), Below wl.heap.size wl w → ∃ gl, tl = some ⟨gl, 0, none⟩ ∧ w.cell? ⟨gl, k, none⟩ = some (.string T[k])) := fun w k hk hb => by
    obtain ⟨gl, e1, hgl, el⟩ := hrl k (by rw [List.length_map]; exact hk)
    rw [List.getElem_map] at el
    exact ⟨gl, e1, (hb.cell (p := ⟨gl, k, none⟩) hgl).trans el⟩
  have HS0 : Aside (RdSt wl.heap.size wl (.slice none 0 0) [] (.slice none 0 0) []) := ⟨IsWd.nil _ _, World.ownsRow_nil _ _ _ _, fun b e => by cases e⟩
  clear hbl hownl hrl
  go_wp2
  go_loopg [7, 8, 10] T.length (fun g1 vl vb vi wr => ∃ (k : Nat) (l : List (List Int × Int)) (es : List WdV) (bad : List (Int × Int)) (v1 v2 : Value), vi = .int .i64 (k : Int) ∧ vl = v1 ∧ vb = v2 ∧ k ≤ T.length ∧ T.length - k ≤ g1 ∧ Aside (RdSt wl.heap.size wr v1 es v2 bad) ∧ Aside (toL es = l) ∧ Aside (okE L l ∧ SortL l ∧ l.length ≤ 1000) ∧ bad.length ≤ k ∧ Aside (Below wl.heap.size wl wr) ∧ Aside (R = rdL L (T.drop k) k l bad))
  case atStart => exact ⟨0, [], [], [], _, _, rfl, rfl, rfl, Nat.zero_le _, Nat.le_refl _, HS0, rfl, ⟨fun _ h => (by cases h), List.Pairwise.nil, Nat.zero_le _⟩, Nat.le_refl _, Below.refl _ _, HT⟩
  case round =>
    clear HS0 HT
    obtain ⟨k, l, es, bad, vl, vb, rfl, q1, q2, hk, hg1, HS, HL, HK, hbk, HB, HR⟩ := hrel
    obtain rfl := q1.symm
    obtain rfl := q2.symm
    clear q1 q2
    by_cases hlt : k < T.length
    · have hltz : (k : Int) < (T.length : Int) := by omega
      obtain ⟨gl, rfl, el⟩ := HLN.out wr k hlt HB.out
      have hx := hea T[k] (List.getElem_mem hlt)
      have HRx : Aside (R = rdL L (T[k] :: T.drop (k + 1)) k l bad) := by
        show _ = _
        rw [← List.drop_eq_getElem_cons hlt]
        exact HR.out
      clear HR
      generalize T[k] = x at *
      have cN := refLine_any (W := wr) L al cl h40 hNd hLs (HRL.out wr (HWl.out.trans (HB.out.mono HWl.out.size))) x hx
      have hrl := @read_line L x l
      have hln := @lineD_none L x
      generalize lineD L x = D at *
      obtain ⟨D1, D2, D3⟩ := D
      simp only at cN hrl
      go_wp2_with fail
      refine cN.mono ?_
      clear cN
      rintro e w2 ⟨⟨vc, rfl, hrowc⟩, hb2⟩
      have HB2 : Aside (Below wl.heap.size wl w2) := HB.out.trans (hb2.mono HB.out.size)
      have HS2 : Aside (RdSt wl.heap.size w2 vl es vb bad) := HS.out.below hb2
      have HVW : Aside (∀ b, vl.ownBlock = some b → b < wr.heap.size) := fun b e => (HS.out.wd.row.lt b e).2
      clear el HB hb2
      by_cases hN : sayN (pairs x) = true
      · have HR2 : Aside (R = rdL L (T.drop (k + 1)) (k + 1) l bad) := by
          show _ = _
          rw [HRx.out, rdL, if_pos hN]
        have e3 := hln hN
        injection e3 with e3 e4
        injection e4 with e4 e5
        subst e5
        clear hrl hln HRx HS hrowc
        go_wp2
        go_roundg (T.length - (k + 1))
        case measure => omega
        case rel => exact ⟨k + 1, l, es, bad, _, _, by go_num, rfl, rfl, by omega, Nat.le_refl _, HS2, HL, HK, by omega, HB2, HR2⟩
      · have hN2 : sayN (pairs x) = false := by simpa using hN
        have HRn : Aside (R = if (readL L x l).1 = 0 then rdL L (T.drop (k + 1)) (k + 1) (readL L x l).2 bad else rdL L (T.drop (k + 1)) (k + 1) (readL L x l).2 (bad ++ [((k : Int), (readL L x l).1)])) := by
          show _ = _
          rw [HRx.out, rdL, if_neg hN]
        have hkk := @readL_keeps L x l HK.out.1 HK.out.2.1 HK.out.2.2
        clear hln HRx HS
        rcases hrl hN2 with ⟨he0, he1, hre⟩ | ⟨he0, hre⟩
        · have HR2 : Aside (R = rdL L (T.drop (k + 1)) (k + 1) l (bad ++ [((k : Int), D3)])) := by
            have h5 := HRn.out
            rw [hre] at h5
            simp only at h5
            rw [if_neg he0] at h5
            exact h5
          have e0b : (D3 == 0) = false := by rw [beq_eq_false_iff_ne]; exact he0
          clear hrl hre HRn hkk he0 hrowc
          have hrow2 := HS2.out.row
          go_wp2_with (at_builtin; refine wpList_append_own_at _ rfl _ _ 42 rfl wl.heap.size 48 i0 (.agg #[.int .i64 0, .int .i64 0]) 2 16 Tryz.underlying42 hi0 hz0 hz1 hz2 rfl (by decide) _ _ _ rfl (hrow2.alloc _) ⟨w2.heap.size, 0, none⟩ 1 1 [.int .i64 (k : Int), .int .i64 D3] rfl rfl (cells2_new _ _ _ _) (by simp [Value.oneCell']) (by unfold maxLen; omega) (by omega) (by rw [World.size_alloc]; have := HB2.out.size; omega) ?_)
          intro v' w4 hown' hgrow _ hat
          have hmore := RdSt.more (W0 := wl) (x := ((k : Int), D3)) _ HS2.out hown' hgrow hat HB2.out (Nat.le_refl _)
          have HS4 : Aside (RdSt wl.heap.size w4 vl es v' (bad ++ [((k : Int), D3)])) := hmore.1
          have HB4 : Aside (Below wl.heap.size wl w4) := hmore.2
          clear hown' hgrow hat hmore hrow2 HS2
          go_wp2
          go_roundg (T.length - (k + 1))
          case measure => omega
          case rel => exact ⟨k + 1, l, es, _, _, _, by go_num, rfl, rfl, by omega, Nat.le_refl _, HS4, HL, HK, by rw [List.length_append]; simp; omega, HB4, HR2⟩
        · subst he0
          obtain ⟨ca, cc, rfl, hrdc⟩ := row_reads hrowc
          have hca : ca = none → cc = 0 := fun e => by
            subst e
            rcases hrowc.2 with ⟨e3, _⟩ | ⟨g, cp, cur, e1, _⟩
            · injection e3
            · injection e1 with e1; cases e1
          have hcb : ∀ b o, ca = some ⟨b, o, none⟩ → wr.heap.size ≤ b ∧ b < w2.heap.size := fun b o e => by
            subst e
            exact hrowc.lt b (by simp [Value.ownBlock])
          have hcl : (D1.map fun r : Nat => (r : Int)).length = D1.length := List.length_map ..
          have hnc : nums D1 = ints (D1.map fun r : Nat => (r : Int)) := by simp [nums, ints]
          rw [hnc] at hrdc
          rw [← hcl]
          have HM : Aside (∀ y ∈ es, y.c.length ≤ 32) := fun y hy => (HK.out.1 (y.c, y.s) (by rw [← HL.out]; exact List.mem_map_of_mem (f := fun y : WdV => (y.c, y.s)) hy)).1
          have hlen : es.length ≤ 1000 := by have h5 := HK.out.2.2; rw [← HL.out, toL_len] at h5; exact h5
          have HRC : Aside (∀ Z, Below w2.heap.size w2 Z → ReadsO Z ca (ints (D1.map fun r : Nat => (r : Int)))) := fun Z hb => hrdc.o.below hb
          generalize (D1.map fun r : Nat => (r : Int)) = c at *
          have cF := refFind_any HS2.out.wd hlen HM.out c ca cc (HRC.out w2 (Below.refl _ _))
          clear hrl hrowc hrdc hnc hcl
          go_wp2_with fail
          refine cF.mono ?_
          rintro e w3 ⟨⟨n, b, rfl, hF⟩, hb3⟩
          have HB3 : Aside (Below wl.heap.size wl w3) := HB2.out.trans (hb3.mono HB2.out.size)
          have HS3 : Aside (RdSt wl.heap.size w3 vl es vb bad) := HS2.out.below hb3
          have HRC3 : Aside (ReadsO w3 ca (ints c)) := HRC.out w3 hb3
          have hcb3 : ∀ b o, ca = some ⟨b, o, none⟩ → b < w3.heap.size ∧ vl.ownBlock ≠ some b := fun b o e => ⟨Nat.lt_of_lt_of_le (hcb b o e).2 hb3.size, fun e2 => by
            have h5 := (HS2.out.wd.row.lt b e2).2
            have h6 := (hcb b o e).1
            have h7 := HVW.out b e2
            omega⟩
          clear cF hb3 HS2 HB2 HRC
          have hlook : b = (lookL l c).isSome := by
            have hl := HL.out
            have hs2 := HK.out.2.1
            subst hl
            rcases hF with ⟨rfl, q, hq, e1, _⟩ | ⟨rfl, _, hq⟩
            · have hm := (lookL_mem hs2 (c := c) (s := ((toL es)[q]'hq).2)).2 (by rw [← e1]; exact List.getElem_mem _)
              rw [hm]; rfl
            · cases e5 : lookL (toL es) c with
              | none => rfl
              | some t =>
                exfalso
                have hm := (lookL_mem hs2).1 e5
                obtain ⟨q, hq2, e6⟩ := List.mem_iff_getElem.1 hm
                exact hq q hq2 (by rw [e6])
          have hok2 : lookL l c = none ∧ l.length = 1000 ∨ ¬ (lookL l c = none ∧ l.length = 1000) := Classical.em _
          have hll : l.length = es.length := by rw [← HL.out, toL_len]
          clear hF
          rcases hok2 with ⟨k1, k2⟩ | hno
          · have hb0 : b = false := by rw [hlook, k1]; rfl
            subst hb0
            have HR2 : Aside (R = rdL L (T.drop (k + 1)) (k + 1) l (bad ++ [((k : Int), 111)])) := by
              have h5 := HRn.out
              have hre2 : readL L x l = (111, l) := by rw [hre, if_pos ⟨k1, k2⟩]
              rw [hre2, if_neg (show ¬ (111 : Int) = 0 by decide)] at h5
              exact h5
            have h1000 : es.length = 1000 := by omega
            have h1000b : ((es.length : Int) == 1000) = true := by rw [beq_iff_eq]; omega
            obtain ⟨aw, cw, rfl, -, -⟩ := HS3.out.wd.slice
            clear hre HRn hkk hlook k1 k2 hll h1000
            have hrow3 := HS3.out.row
            go_wp2_with (at_builtin; refine wpList_append_own_at _ rfl _ _ 42 rfl wl.heap.size 48 i0 (.agg #[.int .i64 0, .int .i64 0]) 2 16 Tryz.underlying42 hi0 hz0 hz1 hz2 rfl (by decide) _ _ _ rfl (hrow3.alloc _) ⟨w3.heap.size, 0, none⟩ 1 1 [.int .i64 (k : Int), .int .i64 111] rfl rfl (cells2_new _ _ _ _) (by simp [Value.oneCell']) (by unfold maxLen; omega) (by omega) (by rw [World.size_alloc]; have := HB3.out.size; omega) ?_)
            intro v' w4 hown' hgrow _ hat
            have hmore := RdSt.more (W0 := wl) (x := ((k : Int), 111)) _ HS3.out hown' hgrow hat HB3.out (Nat.le_refl _)
            have HS4 : Aside (RdSt wl.heap.size w4 (.slice aw es.length cw) es v' (bad ++ [((k : Int), 111)])) := hmore.1
            have HB4 : Aside (Below wl.heap.size wl w4) := hmore.2
            clear hown' hgrow hat hmore hrow3 HS3
            go_wp2
            go_roundg (T.length - (k + 1))
            case measure => omega
            case rel => exact ⟨k + 1, l, es, _, _, _, by go_num, rfl, rfl, by omega, Nat.le_refl _, HS4, HL, HK, by rw [List.length_append]; simp; omega, HB4, HR2⟩
          · rw [if_neg hno] at hre
            have HR2 : Aside (R = rdL L (T.drop (k + 1)) (k + 1) (putL l c D2) bad) := by
              have h5 := HRn.out
              rw [hre, if_pos rfl] at h5
              exact h5
            have HK2 : Aside (okE L (putL l c D2) ∧ SortL (putL l c D2) ∧ (putL l c D2).length ≤ 1000) := by
              rw [hre] at hkk
              exact hkk
            have hc32 : c.length ≤ 32 := by
              have hm : ∃ n, lookL (putL l c D2) c = some n := ⟨_, by rw [lookL_put HK.out.2.1, if_pos rfl]⟩
              obtain ⟨n2, hm⟩ := hm
              have := (lookL_mem HK2.out.2.1).1 hm
              exact (HK2.out.1 _ this).1
            have cP := put_any HS3.out.wd (B := wl.heap.size) HB3.out.size hlen HM.out c hc32 ca cc hca HRC3.out hcb3 D2
            have HPM : Aside (∀ e w', PutP wl.heap.size w3 vl es c D2 e w' → ∃ v' es', e = .returned v' ∧ RdSt wl.heap.size w' v' es' vb bad ∧ toL es' = putL l c D2 ∧ Below wl.heap.size wl w') := fun e w' ⟨v', es', e1, p1, p2, p3, p4, p5⟩ => by
              have := RdSt.put (W0 := wl) HS3.out p1 p3 p4 p5 HB3.out (Nat.le_refl _)
              exact ⟨v', es', e1, this.1, by rw [p2, HL.out], this.2⟩
            obtain ⟨aw, cw, rfl, -, -⟩ := HS3.out.wd.slice
            have hcase : b = true ∨ b = false ∧ ((es.length : Int) == 1000) = false := by
              cases hb : b with
              | true => exact .inl rfl
              | false =>
                right
                refine ⟨rfl, ?_⟩
                rw [beq_eq_false_iff_ne]
                intro e5
                apply hno
                refine ⟨?_, by omega⟩
                rw [hb] at hlook
                cases e6 : lookL l c with
                | none => rfl
                | some t => rw [e6] at hlook; cases hlook
            clear hre HRn hkk hlook hll hno
            rcases hcase with rfl | ⟨rfl, hne⟩
            · go_wp2_with fail
              refine cP.mono ?_
              rintro e w4 hpp
              obtain ⟨v', es', rfl, hs4, ht4, hb4⟩ := HPM.out e w4 hpp
              have HS4 : Aside (RdSt wl.heap.size w4 v' es' vb bad) := hs4
              have HL4 : Aside (toL es' = putL l c D2) := ht4
              have HB4 : Aside (Below wl.heap.size wl w4) := hb4
              clear cP hpp hs4 ht4 hb4 HPM
              go_wp2
              go_roundg (T.length - (k + 1))
              case measure => omega
              case rel => exact ⟨k + 1, _, es', bad, _, _, by go_num, rfl, rfl, by omega, Nat.le_refl _, HS4, HL4, HK2, by omega, HB4, HR2⟩
            · go_wp2_with fail
              refine cP.mono ?_
              rintro e w4 hpp
              obtain ⟨v', es', rfl, hs4, ht4, hb4⟩ := HPM.out e w4 hpp
              have HS4 : Aside (RdSt wl.heap.size w4 v' es' vb bad) := hs4
              have HL4 : Aside (toL es' = putL l c D2) := ht4
              have HB4 : Aside (Below wl.heap.size wl w4) := hb4
              clear cP hpp hs4 ht4 hb4 HPM
              go_wp2
              go_roundg (T.length - (k + 1))
              case measure => omega
              case rel => exact ⟨k + 1, _, es', bad, _, _, by go_num, rfl, rfl, by omega, Nat.le_refl _, HS4, HL4, HK2, by omega, HB4, HR2⟩
    · have hltz : ¬ (k : Int) < (T.length : Int) := by omega
      have HR2 : Aside (R = (l, bad)) := by
        show _ = _
        rw [HR.out, List.drop_eq_nil_of_le (by omega), rdL]
      have HWF : Aside (Below W.heap.size W wr) := HWl.out.trans (HB.out.mono HWl.out.size)
      have HI : Aside (IsWd W.heap.size wr vl es) := HS.out.wd.low HWl.out.size
      have HRO : Aside (wr.ownsRow W.heap.size 48 2 vb bad.length (badC bad)) := row_low HS.out.row HWl.out.size
      clear HR HS
      go_wp2
      go_ret3
      rw [HR2.out]
      exact ⟨⟨_, es, _, rfl, HI.out, HL.out, HRO.out⟩, HWF.out⟩
end Go.Proofs.YtikfaalbdnlelaaGreatDoor.Utf
