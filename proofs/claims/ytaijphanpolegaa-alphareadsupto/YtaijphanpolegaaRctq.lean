/-
  The document's counts and Ways walked: of each place of the text, in how many ways what stands from it on is letters.
-/
import Derived.Test.YtaijphanpolegaaGall
import Derived.Test.YtaijphanpolegaaRspq
import Derived.Test.YtaijphanpolegaaNumq
namespace Go.Proofs.Ytaijphanpolegaa.Utf
open Go Go.Lib Go.RowKit

theorem nums_set (l : List Nat) (i v : Nat) : nums (l.set i v) = (nums l).set i (.int .i64 (v : Int)) := by unfold nums; rw [List.map_set]

set_option maxRecDepth 100000 in
set_option maxHeartbeats 4000000 in
theorem refCounts_any {W : World} (L : List ByteArray) (al : Option Addr) (cl : Nat) (h40 : L.length ≤ 40) (hLs : ∀ x ∈ L, 1 ≤ x.size ∧ x.size ≤ 12) (hRL : ReadsO W al (L.map Value.string)) (s : ByteArray) (hs : s.size ≤ 16777216) :
    Calls Try.prog 40 #[.slice al L.length cl, .string s] W fun e w' => (∃ g ws, e = .returned (.slice (some ⟨g, 0, none⟩) (s.size + 1) (s.size + 1)) ∧ w'.ownsRow W.heap.size 3 1 (.slice (some ⟨g, 0, none⟩) (s.size + 1) (s.size + 1)) (s.size + 1) (nums ws) ∧ CountsTo L s 0 ws) ∧ Below W.heap.size W w' := by
  obtain ⟨i0, hi, hz0, hz1, hz2⟩ := info_parts infoInt'
  have HRL : Aside (∀ W', Below W.heap.size W W' → ReadsO W' al (L.map Value.string)) := fun W' hb => hRL.below hb
  have HLs : Aside (∀ x ∈ L, 1 ≤ x.size ∧ x.size ≤ 12) := hLs
  clear hRL hLs
  obtain ⟨M, hM⟩ : ∃ M, M = madeCells #[.int .i64 0] (s.size + 1) := ⟨_, rfl⟩
  have hmk : ∀ W : World, (Instr.makeSlice 37 (.int .i64 ((s.size : Int) + 1)) (.int .i64 ((s.size : Int) + 1))).run Try.prog W = .ok (.slice (some ⟨W.heap.size, 0, none⟩) (s.size + 1) (s.size + 1)) (W.alloc (.cells M 3)) := fun W => by
    have h := run_make (P := Try.prog) W 37 3 i0 (.int .i64 0) Try.underlying37 hi hz0 .i64 .i64 ((s.size : Int) + 1) ((s.size : Int) + 1) (by omega) (by omega) (by rw [hz2]; omega) (by omega)
    have e1 : ((s.size : Int) + 1).toNat = s.size + 1 := by omega
    rw [e1, hz1, Nat.mul_one] at h
    rw [hM]
    exact h
  have o0 := ownsRow_ints W (s.size + 1) (by unfold maxLen; omega)
  rw [← hM] at o0
  have hb0 : Below W.heap.size W (W.alloc (.cells M 3)) := (Below.refl _ _).alloc (Nat.le_refl _) _
  have st1 := (o0.stored s.size (.int .i64 1)).1
  have hcg : (W.alloc (.cells M 3)).cell? ⟨W.heap.size, s.size, none⟩ = some (.int .i64 0) := by
    rw [o0.cellAt s.size (by omega)]; simp
  have hfg := o0.frozenAt s.size
  have hB1 : Below W.heap.size W ((W.alloc (.cells M 3)).setCell ⟨W.heap.size, s.size, none⟩ (.int .i64 1)) := hb0.setCell (p := ⟨W.heap.size, s.size, none⟩) (Nat.le_refl _) _
  have HW0 := CountsTo.start L s
  have ho1 : ((W.alloc (.cells M 3)).setCell ⟨W.heap.size, s.size, none⟩ (.int .i64 1)).ownsRow W.heap.size 3 1 (.slice (some ⟨W.heap.size, 0, none⟩) (s.size + 1) (s.size + 1)) (s.size + 1) (nums ((List.replicate (s.size + 1) 0).set s.size 1)) := by
    rw [nums_set]
    have : nums (List.replicate (s.size + 1) 0) = List.replicate (s.size + 1) (.int .i64 0) := by unfold nums; rw [List.map_replicate]; rfl
    rw [this]
    exact st1
  rw [World.setCell_alloc_at _ _ _ _ _ rfl] at ho1 hB1
  clear hM o0 st1 hb0
  go_enter Try.func40, Try.ntmps40
  go_wp2
  go_loopg [6] (s.size + 1) (fun g1 va wq => ∃ (z : Int) (m : Nat) (ws : List Nat), va = .int .i64 z ∧ z + 1 = (m : Int) ∧ m ≤ s.size ∧ m + 1 ≤ g1 + 1 ∧ wq.ownsRow W.heap.size 3 1 (.slice (some ⟨W.heap.size, 0, none⟩) (s.size + 1) (s.size + 1)) (s.size + 1) (nums ws) ∧ Aside (Below W.heap.size W wq) ∧ Aside (CountsTo L s m ws))
  case atStart => exact ⟨(s.size : Int) - 1, s.size, _, by first | rfl | go_num, by omega, Nat.le_refl _, by omega, ho1, hB1, HW0⟩
  case round =>
    clear ho1 hB1 HW0 hcg hfg hmk
    obtain ⟨z, m, ws, rfl, hzm, hms, hg1, hown, hB, HWt⟩ := hrel
    rename World => wq
    cases m with
    | zero =>
      obtain rfl : z = -1 := by omega
      clear hzm
      go_wp2
      go_ret
      exact ⟨⟨_, ws, rfl, hown, HWt.out⟩, hB.out⟩
    | succ a =>
      obtain rfl : z = (a : Int) := by omega
      clear hzm
      have haz : (a : Int) ≤ (s.size : Int) := by omega
      have hrow0 : wq.ownsRow W.heap.size 3 1 (.slice (some ⟨W.heap.size, 0, none⟩) (s.size + 1) (s.size + 1)) (s.size + 1) (nums (ws.set a (min (sumC L (s.extract a s.size) ws a 0) 100000))) := by
        have h0 := HWt.out.rest a (by omega) (by omega)
        have e : ws.set a (min (sumC L (s.extract a s.size) ws a 0) 100000) = ws := by
          obtain ⟨h1, h2⟩ := List.getElem?_eq_some_iff.1 h0
          refine List.ext_getElem? fun i => ?_
          by_cases e : i = a
          · rw [e, List.getElem?_set_self h1, h0]
            rfl
          · rw [List.getElem?_set_ne (by omega)]
        rw [e]
        exact hown
      clear hown
      go_wp2
      go_loopg [7] L.length (fun g2 vi wr => ∃ k : Nat, vi = .int .i64 (k : Int) ∧ k ≤ L.length ∧ L.length - k ≤ g2 ∧ wr.ownsRow W.heap.size 3 1 (.slice (some ⟨W.heap.size, 0, none⟩) (s.size + 1) (s.size + 1)) (s.size + 1) (nums (ws.set a (min (sumC L (s.extract a s.size) ws a k) 100000))) ∧ Aside (Below W.heap.size W wr))
      case atStart => exact ⟨0, rfl, Nat.zero_le _, Nat.le_refl _, hrow0, hB⟩
      case round =>
        clear hrow0 hB
        obtain ⟨k, rfl, hk, hg2, hown, hBr⟩ := hrel
        rename World => wr
        by_cases hlt : k < L.length
        · have hltz : (k : Int) < (L.length : Int) := by omega
          obtain ⟨ga, oa, rfl, _, ec⟩ := (HRL.out _ hBr.out) k (by simpa using hlt)
          rw [List.getElem_map] at ec
          have hsz := HLs.out L[k] (List.getElem_mem hlt)
          have cT := fun w => stands_any s L[k] a w (by omega) (by omega) hsz.1
          have hgd : (L[k]?).getD ⟨#[]⟩ = L[k] := by rw [List.getElem?_eq_getElem hlt]; rfl
          have hls := lsz_at hlt
          obtain ⟨S, hS⟩ : ∃ S, S = sumC L (s.extract a s.size) ws a k := ⟨_, rfl⟩
          have hlw := HWt.out.len
          have hown0 := hown
          rw [← hS] at hown
          cases hb : begins (s.extract a s.size) L[k] with
          | false =>
            have HX : Aside (sumC L (s.extract a s.size) ws a (k + 1) = sumC L (s.extract a s.size) ws a k) := by
              show _ = _
              rw [sumC, hgd, hb]
              simp
            rw [hb] at cT
            clear hb hown
            generalize L[k] = X at *
            go_wp2_with fail
            refine (cT _).mono ?_
            rintro e w' ⟨rfl, hw⟩
            obtain rfl := hw.symm
            go_wp2
            go_roundg (L.length - (k + 1))
            case measure => omega
            case rel => exact ⟨k + 1, by go_num, by omega, Nat.le_refl _, by rw [HX.out]; exact hown0, hBr⟩
          | true =>
            have hbs := begins_size hb
            rw [rest_size] at hbs
            obtain ⟨x, hx⟩ : ∃ x, ws[a + L[k].size]? = some x := ⟨_, List.getElem?_eq_getElem (l := ws) (i := a + L[k].size) (by omega)⟩
            have hxs := HWt.out.small x (List.mem_of_getElem? hx)
            have HX : Aside (sumC L (s.extract a s.size) ws a (k + 1) = S + x) := by
              show _ = _
              rw [sumC, hgd, hb, if_pos rfl, ← hS, hls, List.getD_eq_getElem?_getD, hx]
              rfl
            have cw : wr.cell? ⟨W.heap.size, a, none⟩ = some (.int .i64 ((min S 100000 : Nat) : Int)) := by
              rw [hown.cellAt a (by omega), nums_set, List.getElem?_set_self (by rw [nums_len]; omega)]
            have cx : wr.cell? ⟨W.heap.size, a + L[k].size, none⟩ = some (.int .i64 (x : Int)) := by
              rw [hown.cellAt _ (by omega), nums_set, List.getElem?_set_ne (by omega)]
              unfold nums
              rw [List.getElem?_map, hx]
              rfl
            have fw := hown.frozenAt a
            have st := (hown.stored a (.int .i64 (min (((min S 100000 : Nat) : Int) + (x : Int)) 100000))).1
            have HOW : Aside ((wr.setCell ⟨W.heap.size, a, none⟩ (.int .i64 (min (((min S 100000 : Nat) : Int) + (x : Int)) 100000))).ownsRow W.heap.size 3 1 (.slice (some ⟨W.heap.size, 0, none⟩) (s.size + 1) (s.size + 1)) (s.size + 1) (nums (ws.set a (min (sumC L (s.extract a s.size) ws a (k + 1)) 100000)))) := by
              show World.ownsRow _ _ _ _ _ _ _
              rw [HX.out]
              have e1 : (min (((min S 100000 : Nat) : Int) + (x : Int)) 100000) = ((min (S + x) 100000 : Nat) : Int) := by omega
              rw [e1] at st ⊢
              rw [← nums_set, List.set_set] at st
              exact st
            have HBn : Aside (Below W.heap.size W (wr.setCell ⟨W.heap.size, a, none⟩ (.int .i64 (min (((min S 100000 : Nat) : Int) + (x : Int)) 100000)))) := hBr.out.setCell (p := ⟨W.heap.size, a, none⟩) (Nat.le_refl _) _
            rw [hb] at cT
            have hS100 : min S 100000 ≤ 100000 := Nat.min_le_right _ _
            have haz2 : (a : Int) < (s.size : Int) + 1 := by omega
            have hidx : (a : Int) + ((L[k].size : Nat) : Int) < (s.size : Int) + 1 := by omega
            clear hb hown hown0 st hx hgd hls HX hS
            generalize L[k] = X at *
            generalize min S 100000 = v at *
            go_wp2_with fail
            refine (cT _).mono ?_
            rintro e w' ⟨rfl, hw⟩
            obtain rfl := hw.symm
            go_wp2
            go_big_region
            go_wp2
            go_roundg (L.length - (k + 1))
            case measure => omega
            case rel => exact ⟨k + 1, by go_num, by omega, Nat.le_refl _, HOW.out.drew, Below.drew HBn.out⟩
        · have hltz : ¬ (k : Int) < (L.length : Int) := by omega
          obtain rfl : k = L.length := by omega
          have HST : Aside (CountsTo L s a (ws.set a (min (sumC L (s.extract a s.size) ws a L.length) 100000))) := HWt.out.step (fun x hx => (HLs.out x hx).1) (by omega)
          generalize ws.set a (min (sumC L (s.extract a s.size) ws a L.length) 100000) = ws2 at *
          go_wp2
          go_roundg a
          case measure => omega
          case rel => exact ⟨(a : Int) - 1, a, _, by first | rfl | go_num, by omega, by omega, Nat.le_refl _, hown, hBr, HST⟩
end Go.Proofs.Ytaijphanpolegaa.Utf
