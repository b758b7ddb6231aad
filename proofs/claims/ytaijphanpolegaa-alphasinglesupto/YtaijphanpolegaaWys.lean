/-
  The program's endings and Ways walked: the list of counts, and its first.
-/
import Derived.Test.YtaijphanpolegaaWysm
import Derived.Test.YtaijphanpolegaaNew
import Derived.Test.YtaijphanpolegaaLnt
import Derived.Laws.OwnMore
namespace Go.Proofs.Ytaijphanpolegaa.Utf
open Go Go.Lib Go.RowKit

theorem infoI32 : (Try.prog.info? 21).map (fun i => (i.zero, i.size, i.bytes)) = some (some (.int .i32 0), 1, 4) := by kernel_rfl

theorem nm_pos {W : World} {b : Nat} {L : List ByteArray} {rk : List Nat} (hA : IsAlpha W b L rk) (hLs : ∀ x ∈ L, 1 ≤ x.size ∧ x.size ≤ 12) (r : Nat) (hr : r < L.length) : 1 ≤ (nmR L rk r).size ∧ (nmR L rk r).size ≤ 12 := by
  obtain ⟨k, _, hk, e⟩ := hA.nm r hr
  rw [e]
  exact hLs _ (List.getElem_mem hk)
theorem ownsRow_full (w : World) (n : Nat) (hm : n ≤ maxLen) : (w.alloc (.cells (madeCells #[.int .i32 0] n) 21)).ownsRow w.heap.size 21 1 (.slice (some ⟨w.heap.size, 0, none⟩) n n) n (List.replicate n (.int .i32 0)) := by
  refine ⟨by simp, .inr ⟨w.heap.size, n, _, rfl, Nat.le_refl _, heap_alloc_new w _, Nat.le_refl _, hm, by simp [size_madeCells], ?_⟩⟩
  rw [toList_madeCells_one, Nat.mul_one, List.take_of_length_le (by simp)]

set_option maxRecDepth 100000 in
set_option maxHeartbeats 4000000 in
theorem endings_any {W : World} {b : Nat} {L : List ByteArray} {rk : List Nat} (hA : IsAlpha W b L rk) (hLs : ∀ x ∈ L, 1 ≤ x.size ∧ x.size ≤ 12) (s : ByteArray) (hs : s.size ≤ 16777216) :
    Calls Try.prog 39 #[.pointer (some ⟨b, 0, none⟩), .string s] W fun e w' => (∃ g ws, e = .returned (.slice (some ⟨g, 0, none⟩) (s.size + 1) (s.size + 1)) ∧ w'.ownsRow W.heap.size 21 1 (.slice (some ⟨g, 0, none⟩) (s.size + 1) (s.size + 1)) (s.size + 1) (w32 ws) ∧ WaysTo L rk s 0 ws) ∧ Below W.heap.size W w' := by
  obtain ⟨i0, hi, hz0, hz1, hz2⟩ := info_parts infoI32
  have h40 := hA.small
  have HP : Aside (∀ r, r < L.length → 1 ≤ (nmR L rk r).size ∧ (nmR L rk r).size ≤ 12) := fun r hr => nm_pos hA hLs r hr
  have HA : Aside (∀ w, Below W.heap.size W w → IsAlpha w b L rk) := fun w hb => hA.below hb
  clear hA hLs
  obtain ⟨M, hM⟩ : ∃ M, M = madeCells #[.int .i32 0] (s.size + 1) := ⟨_, rfl⟩
  have hmk : ∀ W : World, (Instr.makeSlice 66 (.int .i64 ((s.size : Int) + 1)) (.int .i64 ((s.size : Int) + 1))).run Try.prog W = .ok (.slice (some ⟨W.heap.size, 0, none⟩) (s.size + 1) (s.size + 1)) (W.alloc (.cells M 21)) := fun W => by
    have h := run_make (P := Try.prog) W 66 21 i0 (.int .i32 0) Try.underlying66 hi hz0 .i64 .i64 ((s.size : Int) + 1) ((s.size : Int) + 1) (by omega) (by omega) (by rw [hz2]; omega) (by omega)
    have e1 : ((s.size : Int) + 1).toNat = s.size + 1 := by omega
    rw [e1, hz1, Nat.mul_one] at h
    rw [hM]
    exact h
  have o0 := ownsRow_full W (s.size + 1) (by unfold maxLen; omega)
  rw [← hM] at o0
  have hb0 : Below W.heap.size W (W.alloc (.cells M 21)) := (Below.refl _ _).alloc (Nat.le_refl _) _
  obtain ⟨st1, st2⟩ := o0.stored s.size (.int .i32 1)
  have hcg : (W.alloc (.cells M 21)).cell? ⟨W.heap.size, s.size, none⟩ = some (.int .i32 0) := by
    rw [o0.cellAt s.size (by omega)]; simp
  have hfg := o0.frozenAt s.size
  have hB1 : Below W.heap.size W ((W.alloc (.cells M 21)).setCell ⟨W.heap.size, s.size, none⟩ (.int .i32 1)) := hb0.setCell (p := ⟨W.heap.size, s.size, none⟩) (Nat.le_refl _) _
  have HW0 := WaysTo.start L rk s
  have ho1 : ((W.alloc (.cells M 21)).setCell ⟨W.heap.size, s.size, none⟩ (.int .i32 1)).ownsRow W.heap.size 21 1 (.slice (some ⟨W.heap.size, 0, none⟩) (s.size + 1) (s.size + 1)) (s.size + 1) (w32 ((List.replicate (s.size + 1) 0).set s.size 1)) := by
    rw [w32_set]
    have : w32 (List.replicate (s.size + 1) 0) = List.replicate (s.size + 1) (.int .i32 0) := by unfold w32; rw [List.map_replicate]; rfl
    rw [this]
    exact st1
  rw [World.setCell_alloc_at _ _ _ _ _ rfl] at ho1 hB1
  clear hM o0 st1 st2 hb0
  go_enter Try.func39, Try.ntmps39
  go_wp2
  go_loopg [6] (s.size + 1) (fun g1 va wq => ∃ (z : Int) (m : Nat) (ws : List Nat), va = .int .i64 z ∧ z + 1 = (m : Int) ∧ m ≤ s.size ∧ m + 1 ≤ g1 + 1 ∧ wq.ownsRow W.heap.size 21 1 (.slice (some ⟨W.heap.size, 0, none⟩) (s.size + 1) (s.size + 1)) (s.size + 1) (w32 ws) ∧ Aside (Below W.heap.size W wq) ∧ Aside (WaysTo L rk s m ws))
  case atStart => exact ⟨(s.size : Int) - 1, s.size, _, by first | rfl | go_num, by omega, Nat.le_refl _, by omega, ho1, hB1, HW0⟩
  case round =>
    clear ho1 hB1 HW0 hcg hfg hmk
    obtain ⟨z, m, ws, rfl, hzm, hms, hg1, hown, hB, HWt⟩ := hrel
    rename World => wq
    have HLW : Aside (ws.length = s.size + 1) := HWt.out.len
    cases m with
    | zero =>
      obtain rfl : z = -1 := by omega
      clear hzm
      go_wp2
      go_ret
      exact ⟨⟨_, ws, rfl, hown, HWt.out⟩, hB.out⟩
    | succ a =>
      obtain rfl : z = (a : Int) := by omega
      clear hzm
      have cT := standing_any (HA.out _ hB.out) (s.extract a s.size) 0 (Nat.zero_le _)
      have haz : (a : Int) ≤ (s.size : Int) := by omega
      go_wp2_with fail
      refine cT.mono ?_
      rintro e w1 ⟨⟨k, rfl, _, hkn, hk1, hk2⟩, hb1⟩
      have hown1 := row_keeps hown hb1
      have HB1 : Aside (Below W.heap.size W w1) := hB.out.trans (hb1.mono hB.out.size)
      have HK : Aside ((k < L.length → begins (s.extract a s.size) (nmR L rk k) = true) ∧ 0 = sumW L rk (s.extract a s.size) ws a k) := ⟨hk1, (sumW_skip 0 k (Nat.zero_le _) hk2).symm⟩
      clear hb1 cT hk1 hk2 hown
      go_wp2
      go_loopg [7, 8] L.length (fun g2 vs vr wr => ∃ (sum : Nat) (k : Nat), vs = .int .i32 (sum : Int) ∧ vr = .int .i64 (k : Int) ∧ k ≤ L.length ∧ L.length - k ≤ g2 ∧ sum ≤ 4000000 ∧ wr.ownsRow W.heap.size 21 1 (.slice (some ⟨W.heap.size, 0, none⟩) (s.size + 1) (s.size + 1)) (s.size + 1) (w32 ws) ∧ Aside (Below W.heap.size W wr) ∧ Aside ((k < L.length → begins (s.extract a s.size) (nmR L rk k) = true) ∧ sum = sumW L rk (s.extract a s.size) ws a k))
      case atStart => exact ⟨0, k, rfl, rfl, hkn, by omega, by omega, hown1, HB1, HK⟩
      case round =>
        clear hown1 HB1 HK hkn
        obtain ⟨sum, k, rfl, rfl, hkn, hg2, hsum, hown, hBr, HK⟩ := hrel
        rename World => wr
        have cZ := size_any (HA.out _ hBr.out)
        by_cases hk : k < L.length
        · have hkz : (k : Int) < (L.length : Int) := by omega
          have hbg := HK.out.1 hk
          have hpz := HP.out k hk
          have hbs := begins_size hbg
          rw [rest_size] at hbs
          have cF := nameOf_any (HA.out _ hBr.out) k hk
          obtain ⟨x, hx⟩ : ∃ x, ws[a + (nmR L rk k).size]? = some x := ⟨_, List.getElem?_eq_getElem (by have := HLW.out; omega)⟩
          have hxs := HWt.out.small x (List.mem_of_getElem? hx)
          have HK2 : Aside (sum + x = sumW L rk (s.extract a s.size) ws a (k + 1)) := by
            show _ = _
            rw [sumW_hit hbg, List.getD_eq_getElem?_getD, hx, ← HK.out.2]
            rfl
          have hsb : sumW L rk (s.extract a s.size) ws a (k + 1) ≤ 100000 * (k + 1) := sumW_le HWt.out.small (k + 1)
          have hsx : sum + x ≤ 4000000 := by have := HK2.out; omega
          have HC : Aside (∀ w' : World, w'.ownsRow W.heap.size 21 1 (.slice (some ⟨W.heap.size, 0, none⟩) (s.size + 1) (s.size + 1)) (s.size + 1) (w32 ws) → w'.cell? ⟨W.heap.size, a + (nmR L rk k).size, none⟩ = some (.int .i32 (x : Int))) := fun w' h => by
            rw [h.cellAt _ (by omega)]
            unfold w32
            rw [List.getElem?_map, hx]
            rfl
          have cT2 := fun (w' : World) (h : Below W.heap.size W w') => standing_any (HA.out _ h) (s.extract a s.size) (k + 1) (by omega)
          clear hx hsb hbg
          have HNM : Aside (1 ≤ (nmR L rk k).size) := hpz.1
          generalize hX : nmR L rk k = X at cF HC hpz hbs
          clear hX
          have hidx : (a : Int) + (X.size : Int) < (s.size : Int) + 1 := by omega
          go_wp2_with (first
            | (go_at_call 14; refine cZ.mono ?_; rintro e w' ⟨rfl, hw⟩; obtain rfl := hw.symm)
            | (go_at_call 37; refine cF.mono ?_; rintro e w2 ⟨rfl, hb2⟩; have hown2 := row_keeps hown hb2; have HB2 : Aside (Below W.heap.size W w2) := hBr.out.trans (hb2.mono hBr.out.size); have cx2 := HC.out w2 hown2; clear hb2))
          have cT3 := cT2 w2 HB2.out
          clear cT2 cF cZ cx2 HC hown
          refine cT3.mono ?_
          rintro e w3 ⟨⟨k', rfl, hkk, hkn', hk1, hk2⟩, hb3⟩
          have hown3 := row_keeps hown2 hb3
          have HB3 : Aside (Below W.heap.size W w3) := HB2.out.trans (hb3.mono HB2.out.size)
          have HK3 : Aside ((k' < L.length → begins (s.extract a s.size) (nmR L rk k') = true) ∧ sum + x = sumW L rk (s.extract a s.size) ws a k') := ⟨hk1, HK2.out.trans (sumW_skip (k + 1) k' hkk hk2).symm⟩
          clear hb3 cT3 hk1 hk2 hown2 HK2 HK
          go_wp2
          go_roundg (L.length - k')
          case measure => omega
          case rel => exact ⟨sum + x, k', by go_num, rfl, hkn', Nat.le_refl _, hsx, hown3, HB3, HK3⟩
        · have hkz : ¬ (k : Int) < (L.length : Int) := by omega
          obtain rfl : k = L.length := by omega
          have HST : Aside (WaysTo L rk s a (ws.set a (min sum 100000))) := by
            show WaysTo _ _ _ _ _
            rw [HK.out.2]
            exact HWt.out.step (fun r hr => (HP.out r hr).1) (by omega)
          obtain ⟨u, hcg⟩ : ∃ u, wr.cell? ⟨W.heap.size, a, none⟩ = some u := ⟨(w32 ws)[a]'(by rw [w32_len]; have := HLW.out; omega), by rw [hown.cellAt a (by omega)]; exact List.getElem?_eq_getElem _⟩
          have hfg := hown.frozenAt a
          have st := (hown.stored a (.int .i32 (min (sum : Int) 100000))).1
          have hmn : (min (sum : Int) 100000) = ((min sum 100000 : Nat) : Int) := by omega
          have HOW : Aside ((wr.setCell ⟨W.heap.size, a, none⟩ (.int .i32 (min (sum : Int) 100000))).ownsRow W.heap.size 21 1 (.slice (some ⟨W.heap.size, 0, none⟩) (s.size + 1) (s.size + 1)) (s.size + 1) (w32 (ws.set a (min sum 100000)))) := by
            show World.ownsRow _ _ _ _ _ _ _
            rw [w32_set, ← hmn]
            exact st
          have HBn : Aside (Below W.heap.size W (wr.setCell ⟨W.heap.size, a, none⟩ (.int .i32 (min (sum : Int) 100000)))) := hBr.out.setCell (p := ⟨W.heap.size, a, none⟩) (Nat.le_refl _) _
          clear HK HWt hown st hmn
          have haz2 : (a : Int) < (s.size : Int) + 1 := by omega
          go_wp2_with (first
            | (go_at_call 14; refine cZ.mono ?_; rintro e w' ⟨rfl, hw⟩; obtain rfl := hw.symm))
          go_roundg a
          case measure => omega
          case rel => exact ⟨(a : Int) - 1, a, _, by first | rfl | go_num, by omega, by omega, Nat.le_refl _, HOW.out, HBn, HST⟩
set_option maxHeartbeats 1000000 in
theorem ways_any {W : World} {b : Nat} {L : List ByteArray} {rk : List Nat} (hA : IsAlpha W b L rk) (hLs : ∀ x ∈ L, 1 ≤ x.size ∧ x.size ≤ 12) (s : ByteArray) (hs : s.size ≤ 16777216) :
    Calls Try.prog 20 #[.pointer (some ⟨b, 0, none⟩), .string s] W fun e w' => (∃ (n : Nat) (ws : List Nat), e = .returned (.int .i64 (n : Int)) ∧ ws[0]? = some n ∧ WaysTo L rk s 0 ws) ∧ Below W.heap.size W w' := by
  have cE := endings_any hA hLs s hs
  clear hA hLs
  go_enter Try.func20, Try.ntmps20
  go_wp2_with fail
  refine cE.mono ?_
  rintro e w1 ⟨⟨g, ws, rfl, hown, hW⟩, hb1⟩
  have hl := hW.len
  obtain ⟨n, hn⟩ : ∃ n, ws[0]? = some n := ⟨_, List.getElem?_eq_getElem (by omega)⟩
  have hns := hW.small n (List.mem_of_getElem? hn)
  have hc : w1.cell? ⟨g, 0, none⟩ = some (.int .i32 (n : Int)) := by
    rw [hown.cellAt 0 (by omega)]
    unfold w32
    rw [List.getElem?_map, hn]
    rfl
  have HZ : Aside (ws[0]? = some n ∧ WaysTo L rk s 0 ws) := ⟨hn, hW⟩
  clear hown hW hn hl cE
  go_wp2
  go_ret
  exact ⟨⟨n, ws, rfl, HZ.out.1, HZ.out.2⟩, hb1⟩
end Go.Proofs.Ytaijphanpolegaa.Utf
