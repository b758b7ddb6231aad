/-
  The document's stands and Split walked: the longest letter at each place, found by looking at all.
-/
import Derived.Test.YtikfaalbdnlelaaGreatDoorSplmq
import Derived.Test.YtikfaalbdnlelaaGreatDoorNewq
import Derived.Test.YtikfaalbdnlelaaGreatDoorSplq
import Derived.Maps.AppendAt
namespace Go.Proofs.YtikfaalbdnlelaaGreatDoor.Utf
open Go Go.Lib Go.RowKit

theorem extract_list (s : ByteArray) (a b : Nat) : (s.extract a b).data.toList = (s.data.toList.drop a).take (b - a) := by
  rw [ByteArray.data_extract, Array.toList_extract, List.extract_eq_take_drop]
theorem begins_slice (s X : ByteArray) (pos : Nat) (h : X.size ≤ s.size - pos) : begins (s.extract pos s.size) X = true ↔ s.extract pos (pos + X.size) = X := by
  rw [begins_iff, List.prefix_iff_eq_take, extract_list, List.take_take, ba_sz]
  rw [show min X.size (s.size - pos) = X.size by omega]
  constructor
  · intro e
    refine ba_eq ?_
    rw [extract_list, show pos + X.size - pos = X.size by omega, ← e]
  · intro e
    have := congrArg (fun x : ByteArray => x.data.toList) e
    rw [extract_list, show pos + X.size - pos = X.size by omega] at this
    exact this.symm
theorem begins_long (s X : ByteArray) (pos : Nat) (h : ¬ X.size ≤ s.size - pos) : begins (s.extract pos s.size) X = false := by
  cases hb : begins (s.extract pos s.size) X with
  | false => rfl
  | true =>
    have := begins_size hb
    rw [rest_size] at this
    exact absurd this h

set_option maxHeartbeats 1000000 in
theorem stands_any (s X : ByteArray) (pos : Nat) (w : World) (hp : pos ≤ s.size) (hs : s.size ≤ 4611686018427387904) (h1 : 1 ≤ X.size) :
    Calls Tryz.prog 100 #[.string s, .int .i64 (pos : Int), .string X] w fun e w' => e = .returned (.bool (begins (s.extract pos s.size) X)) ∧ w' = w := by
  go_enter Tryz.func100, Tryz.ntmps100
  have h1z : (0 : Int) < (X.size : Int) := by omega
  by_cases hle : X.size ≤ s.size - pos
  · have hlez : (X.size : Int) ≤ (s.size : Int) - (pos : Int) := by omega
    have hsl : ∀ w, (Instr.slice 9 (.string s) (some (.int .i64 (pos : Int))) (some (.int .i64 ((pos : Int) + (X.size : Int)))) none).run Tryz.prog w = .ok (.string (s.extract pos (pos + X.size))) w := fun w => by
      have := run_slice_string (P := Tryz.prog) w 9 s .i64 .i64 (pos : Int) ((pos : Int) + (X.size : Int)) Tryz.underlying9 (by omega) (by omega) (by omega)
      rw [Int.toNat_natCast, show ((pos : Int) + (X.size : Int)).toNat = pos + X.size by omega] at this
      exact this
    by_cases hb : s.extract pos (pos + X.size) = X
    · have HV : Aside (begins (s.extract pos s.size) X = true) := (begins_slice s X pos hle).2 hb
      rw [hb] at hsl
      clear hb
      go_wp2
      go_ret
      rw [HV.out]
      exact ⟨rfl, rfl⟩
    · have hv : begins (s.extract pos s.size) X = false := by
        cases h : begins (s.extract pos s.size) X with
        | false => rfl
        | true => exact absurd ((begins_slice s X pos hle).1 h) hb
      have HV : Aside (begins (s.extract pos s.size) X = false) := hv
      have hne : ((s.extract pos (pos + X.size)).toList == X.toList) = false := by rw [beq_eq_false_iff_ne]; exact fun h => hb (toList_inj h)
      clear hb hv
      generalize s.extract pos (pos + X.size) = Y at *
      go_wp2
      go_ret
      rw [HV.out]
      exact ⟨rfl, rfl⟩
  · have hlez : ¬ (X.size : Int) ≤ (s.size : Int) - (pos : Int) := by omega
    have HV : Aside (begins (s.extract pos s.size) X = false) := begins_long s X pos hle
    go_wp2
    go_ret
    rw [HV.out]
    exact ⟨rfl, rfl⟩

/-- The best among the first letters. -/
def BestTo (L : List ByteArray) (t : ByteArray) (k : Nat) (z : Int) : Prop :=
  (z = -1 ∧ ∀ j (h : j < L.length), j < k → begins t L[j] = false) ∨ ∃ (i : Nat) (hi : i < L.length), z = (i : Int) ∧ i < k ∧ begins t L[i] = true ∧ ∀ j (h : j < L.length), j < k → begins t L[j] = true → L[j].size ≤ L[i].size
theorem BestTo.skip {L : List ByteArray} {t : ByteArray} {k : Nat} {z : Int} (h : BestTo L t k z) (hk : k < L.length) (hb : begins t L[k] = false) : BestTo L t (k + 1) z := by
  rcases h with ⟨rfl, h⟩ | ⟨i, hi, rfl, h1, h2, h3⟩
  · refine .inl ⟨rfl, fun j hj hjk => ?_⟩
    by_cases e : j = k
    · subst e; exact hb
    · exact h j hj (by omega)
  · refine .inr ⟨i, hi, rfl, by omega, h2, fun j hj hjk hbj => ?_⟩
    by_cases e : j = k
    · subst e; rw [hb] at hbj; cases hbj
    · exact h3 j hj (by omega) hbj
theorem BestTo.first {L : List ByteArray} {t : ByteArray} {k : Nat} (h : BestTo L t k (-1)) (hk : k < L.length) (hb : begins t L[k] = true) : BestTo L t (k + 1) (k : Int) := by
  rcases h with ⟨_, h⟩ | ⟨i, hi, h1, _⟩
  · refine .inr ⟨k, hk, rfl, by omega, hb, fun j hj hjk hbj => ?_⟩
    by_cases e : j = k
    · subst e; exact Nat.le_refl _
    · rw [h j hj (by omega)] at hbj; cases hbj
  · omega
theorem BestTo.more {L : List ByteArray} {t : ByteArray} {k i : Nat} (h : BestTo L t k (i : Int)) (hi : i < L.length) (hk : k < L.length) (hb : begins t L[k] = true) (hs : L[i].size < L[k].size) : BestTo L t (k + 1) (k : Int) := by
  rcases h with ⟨h0, _⟩ | ⟨i', hi', h1, _, h2, h3⟩
  · omega
  · obtain rfl : i = i' := by omega
    refine .inr ⟨k, hk, rfl, by omega, hb, fun j hj hjk hbj => ?_⟩
    by_cases e : j = k
    · subst e; exact Nat.le_refl _
    · have := h3 j hj (by omega) hbj
      omega
theorem BestTo.less {L : List ByteArray} {t : ByteArray} {k i : Nat} (h : BestTo L t k (i : Int)) (hi : i < L.length) (hk : k < L.length) (hs : ¬ L[i].size < L[k].size) : BestTo L t (k + 1) (i : Int) := by
  rcases h with ⟨h0, _⟩ | ⟨i', hi', h1, h2, h3, h4⟩
  · omega
  · obtain rfl : i = i' := by omega
    refine .inr ⟨i, hi, rfl, by omega, h3, fun j hj hjk hbj => ?_⟩
    by_cases e : j = k
    · subst e; omega
    · exact h4 j hj (by omega) hbj
theorem BestTo.done {L : List ByteArray} (hN : L.Nodup) {t : ByteArray} {z : Int} (h : BestTo L t L.length z) : (z = -1 ∧ best L t = none) ∨ ∃ (i : Nat) (hi : i < L.length), z = (i : Int) ∧ best L t = some i ∧ begins t L[i] = true := by
  rcases h with ⟨rfl, h⟩ | ⟨i, hi, rfl, _, h2, h3⟩
  · exact .inl ⟨rfl, best_none fun j hj => h j hj hj⟩
  · exact .inr ⟨i, hi, rfl, best_some hN ⟨hi, h2, fun j hj hb => h3 j hj hj hb⟩, h2⟩

set_option maxRecDepth 100000 in
set_option maxHeartbeats 4000000 in
theorem refSplit_any (L : List ByteArray) (al : Option Addr) (cl : Nat) (W : World) (h40 : L.length ≤ 40) (hNd : L.Nodup) (hLs : ∀ x ∈ L, 1 ≤ x.size ∧ x.size ≤ 12) (hRL : ReadsO W al (L.map Value.string)) (s : ByteArray) (hs : s.size ≤ 4611686018427387904) :
    Calls Tryz.prog 75 #[.slice al L.length cl, .string s] W fun e w' => ∃ v, e = .returned (.tuple #[v, .int .i64 ((splitS L s).2.1 : Int), .int .i64 (splitS L s).2.2]) ∧ Below W.heap.size W w' ∧ w'.ownsRow W.heap.size 3 1 v (splitS L s).1.length (nums (splitS L s).1) := by
  obtain ⟨i0, hi, hz0, hz1, hz2⟩ := info_parts infoInt'
  go_enter Tryz.func75, Tryz.ntmps75
  go_wp2
  go_loopg [7, 8] 33 (fun g1 v va wq => ∃ (pos : Nat) (done : List Nat), va = .int .i64 (pos : Int) ∧ wq.ownsRow W.heap.size 3 1 v done.length (nums done) ∧ 33 - done.length ≤ g1 ∧ pos ≤ s.size ∧ done.length ≤ 32 ∧ Aside (Below W.heap.size W wq) ∧ Aside (splitR L s (33 - done.length) pos done = splitS L s))
  case atStart => exact ⟨0, [], rfl, World.ownsRow_nil _ _ _ _, Nat.le_refl _, Nat.zero_le _, Nat.zero_le _, Below.refl _ _, rfl⟩
  case round =>
    obtain ⟨pos, done, rfl, hown, hg1, hps, hdl, hB, HP⟩ := hrel
    rename World => wq
    obtain ⟨ao, cp, rfl, _⟩ := row_reads hown
    by_cases he : pos < s.size
    · have hez : (pos : Int) < (s.size : Int) := by omega
      by_cases h32 : done.length = 32
      · have h32b : ((done.length : Int) == 32) = true := by rw [beq_iff_eq]; omega
        have HV : Aside (splitS L s = ([], pos, 34)) := by
          have := HP.out
          rw [show 33 - done.length = (32 - done.length) + 1 by omega, splitR_long (by omega) h32] at this
          exact this.symm
        clear h32
        go_wp2
        go_ret3
        rw [HV.out]
        exact ⟨_, rfl, hB.out, World.ownsRow_nil _ _ _ _⟩
      · have h32b : ((done.length : Int) == 32) = false := by rw [beq_eq_false_iff_ne]; omega
        have hd31 : done.length + 1 ≤ 32 := by omega
        have HQ : Aside (∀ i, best L (s.extract pos s.size) = some i → splitR L s (33 - (done ++ [i]).length) (pos + lsz L i) (done ++ [i]) = splitS L s) := fun i hi => by
          have := HP.out
          rw [show 33 - done.length = (32 - done.length) + 1 by omega, splitR_next (by omega) h32 hi] at this
          rw [← this, List.length_append, List.length_singleton, show 33 - (done.length + 1) = 32 - done.length by omega]
        have HO : Aside (best L (s.extract pos s.size) = none → splitS L s = ([], pos, 33)) := fun hi => by
          have := HP.out
          rw [show 33 - done.length = (32 - done.length) + 1 by omega, splitR_none (by omega) h32 hi] at this
          exact this.symm
        clear HP h32
        go_wp2
        go_loopg [9, 10] L.length (fun g2 vb vi wr => ∃ (k : Nat) (z : Int), vi = .int .i64 (k : Int) ∧ vb = .int .i64 z ∧ k ≤ L.length ∧ L.length - k ≤ g2 ∧ Aside (Below wq.heap.size wq wr) ∧ Aside (BestTo L (s.extract pos s.size) k z))
        case atStart => exact ⟨0, -1, rfl, rfl, Nat.zero_le _, Nat.le_refl _, Below.refl _ _, .inl ⟨rfl, fun j _ h => by omega⟩⟩
        case round =>
          obtain ⟨k, z, rfl, rfl, hk, hg2, hBr, HBT⟩ := hrel
          rename World => wr
          have HBW : Aside (Below W.heap.size W wr) := hB.out.trans (hBr.out.mono hB.out.size)
          by_cases hlt : k < L.length
          · have hltz : (k : Int) < (L.length : Int) := by omega
            obtain ⟨ga, oa, rfl, _, ec⟩ := (hRL.below HBW.out) k (by simpa using hlt)
            rw [List.getElem_map] at ec
            have hsz := hLs L[k] (List.getElem_mem hlt)
            have cT := fun w => stands_any s L[k] pos w hps hs hsz.1
            cases hb : begins (s.extract pos s.size) L[k] with
            | false =>
              have HX : Aside (BestTo L (s.extract pos s.size) (k + 1) z) := HBT.out.skip hlt hb
              rw [hb] at cT
              clear hb HBT
              generalize L[k] = X at *
              go_wp2_with fail
              go_quiet (first | (go_at_call 100; refine Calls.quiet_of_same (cT _)))
              go_wp2
              go_roundg (L.length - (k + 1))
              case measure => omega
              case rel => exact ⟨k + 1, z, by go_num, rfl, by omega, Nat.le_refl _, below_drewN hBr.out _, HX⟩
            | true =>
              rw [hb] at cT
              rcases HBT.out with ⟨hz, _⟩ | ⟨i, hi', hz, _⟩
              · subst hz
                have HX : Aside (BestTo L (s.extract pos s.size) (k + 1) (k : Int)) := HBT.out.first hlt hb
                clear hb HBT
                generalize L[k] = X at *
                go_wp2_with fail
                go_quiet (first | (go_at_call 100; refine Calls.quiet_of_same (cT _)))
                go_wp2
                go_roundg (L.length - (k + 1))
                case measure => omega
                case rel => exact ⟨k + 1, k, by go_num, rfl, by omega, Nat.le_refl _, below_drewN hBr.out _, HX⟩
              · subst hz
                obtain ⟨gb, ob, he2, _, ed⟩ := (hRL.below HBW.out) i (by simpa using hi')
                obtain ⟨rfl, rfl⟩ : ga = gb ∧ oa = ob := by injection he2 with h; injection h; exact ⟨by assumption, by assumption⟩
                rw [List.getElem_map] at ed
                have hsi := hLs L[i] (List.getElem_mem hi')
                have hiz : (i : Int) < (L.length : Int) := by omega
                have hi0 : ¬ (i : Int) < 0 := by omega
                by_cases hcmp : L[i].size < L[k].size
                · have hcz : ((L[i].size : Nat) : Int) < ((L[k].size : Nat) : Int) := by omega
                  have HX : Aside (BestTo L (s.extract pos s.size) (k + 1) (k : Int)) := HBT.out.more hi' hlt hb hcmp
                  clear hb HBT hcmp he2
                  generalize L[k] = X at *
                  generalize L[i] = Y at *
                  go_wp2_with fail
                  go_quiet (first | (go_at_call 100; refine Calls.quiet_of_same (cT _)))
                  go_wp2
                  go_roundg (L.length - (k + 1))
                  case measure => omega
                  case rel => exact ⟨k + 1, k, by go_num, rfl, by omega, Nat.le_refl _, below_drewN hBr.out _, HX⟩
                · have hcz : ¬ ((L[i].size : Nat) : Int) < ((L[k].size : Nat) : Int) := by omega
                  have HX : Aside (BestTo L (s.extract pos s.size) (k + 1) (i : Int)) := HBT.out.less hi' hlt hcmp
                  clear hb HBT hcmp he2
                  generalize L[k] = X at *
                  generalize L[i] = Y at *
                  go_wp2_with fail
                  go_quiet (first | (go_at_call 100; refine Calls.quiet_of_same (cT _)))
                  go_wp2
                  go_roundg (L.length - (k + 1))
                  case measure => omega
                  case rel => exact ⟨k + 1, i, by go_num, rfl, by omega, Nat.le_refl _, below_drewN hBr.out _, HX⟩
          · have hltz : ¬ (k : Int) < (L.length : Int) := by omega
            obtain rfl : k = L.length := by omega
            have hown1 := row_keeps hown hBr.out
            rcases HBT.out.done hNd with ⟨hz, hbn⟩ | ⟨i, hi', hz, hbs, hbg⟩
            · subst hz
              have HV : Aside (splitS L s = ([], pos, 33)) := HO.out hbn
              clear hbn HBT hlt
              go_wp2
              go_ret3
              rw [HV.out]
              exact ⟨_, rfl, HBW.out, World.ownsRow_nil _ _ _ _⟩
            · subst hz
              have HQ2 : Aside (splitR L s (33 - (done ++ [i]).length) (pos + lsz L i) (done ++ [i]) = splitS L s) := HQ.out i hbs
              obtain ⟨ga, oa, rfl, hga, ec⟩ := hRL i (by simpa using hi')
              rw [List.getElem_map] at ec
              have hsz := hLs L[i] (List.getElem_mem hi')
              have hls := lsz_at hi'
              have hbsz := begins_size hbg
              rw [rest_size] at hbsz
              rw [← hls] at hbsz hsz
              have hsz' : L[i].size = lsz L i := hls.symm
              have hiz : (i : Int) < (L.length : Int) := by omega
              have hi0 : ¬ (i : Int) < 0 := by omega
              clear hbs hbg HBT HQ HO hlt hls hown
              generalize L[i] = X at *
              generalize lsz L i = zz at *
              go_wp2_with (first
                | (at_builtin; refine wpList_append_own _ rfl _ _ 31 rfl W.heap.size 3 i0 (.int .i64 0) 1 8 Tryz.underlying31 hi hz0 hz1 hz2 rfl (by decide) _ _ _ rfl (hown1.alloc _) ⟨wr.heap.size, 0, none⟩ 1 1 [.int .i64 (i : Int)] rfl rfl (cell_one_new _ _ _) (by simp [Value.oneCell']) (by unfold maxLen; omega) (by omega) (by have := HBW.out.size; simp; omega) ?_))
              intro v' w2 hown' hgrow _
              have HB2 : Aside (Below W.heap.size W w2) := Below.grown (HBW.out.alloc (by have := HBW.out.size; omega) _) hgrow (by have := HBW.out.size; simp; omega) (fun j hj => (hown1.lt _ hj).1)
              have hown3 : w2.ownsRow W.heap.size 3 1 v' (done ++ [i]).length (nums (done ++ [i])) := by
                rw [nums_snoc, List.length_append]; exact hown'
              have ec2 : w2.cell? ⟨ga, oa + i, none⟩ = some (.string X) := (HB2.out.cell (p := ⟨ga, oa + i, none⟩) hga).trans ec
              obtain ⟨g', cap', rfl⟩ := ownsRow_succ hown'
              clear hown' hgrow hown1 ec
              go_wp2
              go_roundg (33 - (done ++ [i]).length)
              case measure => rw [List.length_append, List.length_singleton]; omega
              case rel => exact ⟨pos + zz, done ++ [i], by go_num, hown3, Nat.le_refl _, by omega, by rw [List.length_append, List.length_singleton]; omega, HB2, HQ2⟩
    · have hez : ¬ (pos : Int) < (s.size : Int) := by omega
      have HV : Aside (splitS L s = (done, 0, 0)) := by
        have := HP.out
        rw [show 33 - done.length = (32 - done.length) + 1 by omega, splitR_end (by omega)] at this
        exact this.symm
      go_wp2
      go_ret3
      rw [HV.out]
      exact ⟨_, rfl, hB.out, hown⟩
end Go.Proofs.YtikfaalbdnlelaaGreatDoor.Utf
