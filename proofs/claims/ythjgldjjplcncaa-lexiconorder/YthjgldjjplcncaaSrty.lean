/-
  The library's merging of two ordered stretches (slices.symMergeCmpFunc) walked where one of them is a single value: that value put into its place.
-/
import Derived.Test.YthjgldjjplcncaaSrtw
namespace Go.Proofs.Ythjgldjjplcncaa.Srt
open Go Go.Shelf Go.RowKit Go.Lib Go.Sort Go.Proofs
variable {α : Type} [Inhabited α]

set_option maxHeartbeats 8000000 in
set_option maxRecDepth 100000 in
theorem symMerge_one (enc : α → Value) (cf : α → α → Int) (hO : SWO (ltOf cf)) (g : Nat) (cb : Array Value) (blk off cap sz : Nat) (d0 : Array α) (w0 : World) (R : Row1 enc w0 blk off d0) (hd0 : d0.size = sz) (hsz : sz < 4611686018427387904)
    (eg : ∀ args w, (callFunc g args).run Try.prog w = .ok (.enter g args) w) (hcmp : CmpLays1 Try.prog g cb enc cf blk off d0.size w0) (a m b : Nat) (d : Array α) (w : World) (hds : d.size = sz)
    (S : SW enc w0 blk off d w) (ham : a < m) (hmb : m < b) (hbs : b ≤ sz) (hl : SortedIn (ltOf cf) m b d) (hm1 : m = a + 1) :
    Calls Try.prog 52 #[.slice (some ⟨blk, off, none⟩) sz cap, .int .i64 a, .int .i64 m, .int .i64 b, .func (.func g) #[] cb] w fun e w' => e = .returned (.tuple #[]) ∧ ∃ d', SW enc w0 blk off d' w' ∧ PermIn a b d d' ∧ SortedIn (ltOf cf) a b d' := by
  have hcl0 := R.hO.cells
  simp only [Value.cells] at hcl0
  have hst := R.hO.store Try.prog
  have HC : Aside _ := hcmp
  have S0 : Aside (SW enc w0 blk off d w) := S
  have HL : Aside (SortedIn (ltOf cf) m b d) := hl
  clear S hl hcmp
  have mixed : Try.prog.follows .mixedOrders = true := by kernel_rfl
  have a3 := Try.isAgg3
  have z3 := Try.sizeOf3
  go_enter Try.func52, Try.ntmps52
  have hb1 : ((m : Int) - (a : Int) == 1) = true := by rw [beq_iff_eq]; omega
  have HM : Aside (m = a + 1) := hm1
  clear hm1
  go_wp2
  go_loopg [10, 11] (b - m) (fun g1 vi vj wr => ∃ (i j : Nat), vi = .int .i64 i ∧ vj = .int .i64 j ∧ m ≤ i ∧ i ≤ j ∧ j ≤ b ∧ j - i ≤ g1 ∧ Aside (SW enc w0 blk off d wr) ∧ Aside ((i = m ∨ ltOf cf d[i - 1]! d[a]! = true) ∧ (j = b ∨ ltOf cf d[j]! d[a]! = false)))
  case atStart => exact ⟨m, b, rfl, rfl, by omega, by omega, by omega, by omega, S0, ⟨.inl rfl, .inl rfl⟩⟩
  case round =>
    clear S0
    obtain ⟨i, j, rfl, rfl, hmi, hij, hjb, hg1, S1, HF⟩ := hrel
    by_cases hlt : i < j
    · have hltz : (i : Int) < (j : Int) := by omega
      have l1 := S1.out.cl R (by omega) ((i + j) / 2) (by omega)
      have l2 := S1.out.cl R (by omega) a (by omega)
      have HX : Aside (ltOf cf d[(i + j) / 2]! d[a]! = decide (cf d[(i + j) / 2]! d[a]! < 0)) := rfl
      obtain ⟨x, hx⟩ : ∃ x, x = d[(i + j) / 2]! := ⟨_, rfl⟩
      obtain ⟨y, hy⟩ : ∃ x, x = d[a]! := ⟨_, rfl⟩
      have HE : Aside (x = d[(i + j) / 2]! ∧ y = d[a]!) := ⟨hx, hy⟩
      rw [← hx] at l1
      rw [← hy] at l2
      clear hx hy
      have hc := S1.out.cmp HC.out (by omega) x y
      obtain ⟨hN, hhN⟩ : ∃ q, q = (i + j) / 2 := ⟨_, rfl⟩
      have e1 : (((i : Int) + (j : Int)) / 2).toNat = hN := by omega
      rw [← hhN] at l1
      clear hhN
      have p1 : (0 : Int) ≤ ((i : Int) + (j : Int)) / 2 := by omega
      have b1 : ((i : Int) + (j : Int)) / 2 < (sz : Int) := by omega
      have b2 : (a : Int) < (sz : Int) := by omega
      by_cases hv : cf x y < 0
      · have hd : decide (cf x y < 0) = true := decide_eq_true hv
        go_wp2_with fail
        go_quiet_grown (first | (go_at_fn g; refine Calls.grown_of (hc _ _)))
        have S2 : Aside (SW enc w0 blk off d (grow (wr.drewN nq) osq)) := S1.out.grown nq osq
        clear l1 l2 hc S1 p1 b1 b2 e1
        generalize grow (wr.drewN nq) osq = w2 at S2 ⊢
        clear nq osq
        go_wp2
        go_roundg (j - ((i + j) / 2 + 1))
        case measure => omega
        case rel => exact ⟨(i + j) / 2 + 1, j, by go_num, rfl, by omega, by omega, by omega, Nat.le_refl _, S2, ⟨.inr (by rw [Nat.add_sub_cancel, HX.out, ← HE.out.1, ← HE.out.2]; exact hd), HF.out.2⟩⟩
      · have hd : decide (cf x y < 0) = false := decide_eq_false hv
        go_wp2_with fail
        go_quiet_grown (first | (go_at_fn g; refine Calls.grown_of (hc _ _)))
        have S2 : Aside (SW enc w0 blk off d (grow (wr.drewN nq) osq)) := S1.out.grown nq osq
        clear l1 l2 hc S1 p1 b1 b2 e1
        generalize grow (wr.drewN nq) osq = w2 at S2 ⊢
        clear nq osq
        go_wp2
        go_roundg ((i + j) / 2 - i)
        case measure => omega
        case rel => exact ⟨i, (i + j) / 2, rfl, by go_num, by omega, by omega, by omega, Nat.le_refl _, S2, ⟨HF.out.1, .inr (by rw [HX.out, ← HE.out.1, ← HE.out.2]; exact hd)⟩⟩
    · have hltz : ¬ (i : Int) < (j : Int) := by omega
      obtain rfl : i = j := by omega
      clear hltz hlt hij hg1
      have hi1 : m ≤ i ∧ i ≤ b := ⟨hmi, hjb⟩
      go_wp2
      go_loopg [13] (i - 1 - a) (fun g1 vk wr => ∃ (k : Nat) (dk : Array α), vk = .int .i64 k ∧ a ≤ k ∧ k + 1 ≤ i ∧ i - 1 - k ≤ g1 ∧ dk.size = sz ∧ Aside (SW enc w0 blk off dk wr) ∧ Aside (PermIn a b d dk ∧ ∀ x, dk[x]! = upF d a k x))
      case atStart => exact ⟨a, d, rfl, Nat.le_refl _, by omega, Nat.le_refl _, hds, S1, ⟨permIn_refl _ _ _, fun x => (upF_start d a x).symm⟩⟩
      case round =>
        clear S1
        obtain ⟨k, dj, rfl, hak, hki, hg1, hsj, S1, HU⟩ := hrel
        rename World => wr
        by_cases hlt : k < i - 1
        · have hltz : (k : Int) < (i : Int) - 1 := by omega
          have hP : PermIn a b d (swp dj k (k + 1)) := permIn_trans _ _ _ _ _ HU.out.1 (swp_permIn dj a b k (k + 1) (by omega) (by omega) (by omega) (by omega) (by omega))
          have hU := upF_step HU.out.2 (by omega) (by omega) hak
          have HU2 : Aside (PermIn a b d (swp dj k (k + 1)) ∧ ∀ x, (swp dj k (k + 1))[x]! = upF d a (k + 1) x) := ⟨hP, hU⟩
          clear hP hU HU
          obtain ⟨iN, hiN⟩ : ∃ q, q = k := ⟨_, rfl⟩
          obtain ⟨jN, hjN⟩ : ∃ q, q = k + 1 := ⟨_, rfl⟩
          have ea : ((k : Int)).toNat = iN := by omega
          have pa : (0 : Int) ≤ (k : Int) := by omega
          have ba : (k : Int) < (sz : Int) := by omega
          have ec : ((k : Int) + 1).toNat = jN := by omega
          have pc : (0 : Int) ≤ (k : Int) + 1 := by omega
          have bc : (k : Int) + 1 < (sz : Int) := by omega
          have rc : IntKind.i64.wrap ((k : Int) + 1) = (k : Int) + 1 := by rw [IntKind.wrap_i64]; omega
          obtain ⟨x, hx⟩ : ∃ x, x = dj[k]! := ⟨_, rfl⟩
          obtain ⟨y, hy⟩ : ∃ x, x = dj[k + 1]! := ⟨_, rfl⟩
          have S3 : Aside (SW enc w0 blk off (swp dj k (k + 1)) ((wr.setCell ⟨blk, off + iN, none⟩ (enc y)).setCell ⟨blk, off + jN, none⟩ (enc x)).drew) := by rw [hiN, hjN, hx, hy]; exact S1.out.swapped R k (k + 1) (by omega) (by omega)
          have ca := S1.out.c1 R (by omega) k (by omega)
          have cb' := S1.out.c1 R (by omega) (k + 1) (by omega)
          have fa := S1.out.f1 R (by omega) k (by omega)
          have fb := S1.out.f1 R (by omega) (k + 1) (by omega)
          obtain ⟨u, cc⟩ := S1.out.c2 R (by omega) k (k + 1) (by omega) (by omega) (enc y)
          rw [← hjN, ← hiN] at cc
          rw [← hx, ← hiN] at ca
          rw [← hy, ← hjN] at cb'
          rw [← hiN] at fa
          rw [← hjN] at fb
          clear S1 hx hy hiN hjN
          go_wp2_with fail
          go_big_region
          clear ca cb' cc fa fb
          generalize ((wr.setCell ⟨blk, off + iN, none⟩ (enc y)).setCell ⟨blk, off + jN, none⟩ (enc x)).drew = w3 at S3 ⊢
          clear ea ec
          go_wp2
          go_roundg (i - 1 - (k + 1))
          case measure => omega
          case rel => exact ⟨k + 1, swp dj k (k + 1), by go_num, by omega, by omega, Nat.le_refl _, by rw [swp_size]; exact hsj, S3, HU2⟩
        · have hltz : ¬ (k : Int) < (i : Int) - 1 := by omega
          have hki2 : k = i - 1 := by omega
          have HE : Aside (PermIn a b d dj ∧ SortedIn (ltOf cf) a b dj) := by
            refine ⟨HU.out.1, up_sorted hO (i := i) (by rw [← HM.out]; exact HL.out) (by rw [← hki2]; exact HU.out.2) (by omega) (by omega) ?_ HF.out.2⟩
            rcases HF.out.1 with h | h
            · left; have := HM.out; omega
            · exact .inr h
          clear HU hki2 hlt
          go_wp2
          (try simp only [Exit.inBlock, Exit.then])
          refine bodyPost_ret (results_none rfl _ _ _) rfl ?_
          exact ⟨rfl, dj, S1.out, HE.out.1, HE.out.2⟩

set_option maxHeartbeats 8000000 in
set_option maxRecDepth 100000 in
theorem symMerge_last (enc : α → Value) (cf : α → α → Int) (hO : SWO (ltOf cf)) (g : Nat) (cb : Array Value) (blk off cap sz : Nat) (d0 : Array α) (w0 : World) (R : Row1 enc w0 blk off d0) (hd0 : d0.size = sz) (hsz : sz < 4611686018427387904)
    (eg : ∀ args w, (callFunc g args).run Try.prog w = .ok (.enter g args) w) (hcmp : CmpLays1 Try.prog g cb enc cf blk off d0.size w0) (a m b : Nat) (d : Array α) (w : World) (hds : d.size = sz)
    (S : SW enc w0 blk off d w) (ham : a < m) (hmb : m < b) (hbs : b ≤ sz) (hl : SortedIn (ltOf cf) a m d) (hm1 : ¬ m = a + 1) (hm2 : b = m + 1) :
    Calls Try.prog 52 #[.slice (some ⟨blk, off, none⟩) sz cap, .int .i64 a, .int .i64 m, .int .i64 b, .func (.func g) #[] cb] w fun e w' => e = .returned (.tuple #[]) ∧ ∃ d', SW enc w0 blk off d' w' ∧ PermIn a b d d' ∧ SortedIn (ltOf cf) a b d' := by
  have hcl0 := R.hO.cells
  simp only [Value.cells] at hcl0
  have hst := R.hO.store Try.prog
  have HC : Aside _ := hcmp
  have S0 : Aside (SW enc w0 blk off d w) := S
  have HL : Aside (SortedIn (ltOf cf) a m d) := hl
  clear S hl hcmp
  have mixed : Try.prog.follows .mixedOrders = true := by kernel_rfl
  have a3 := Try.isAgg3
  have z3 := Try.sizeOf3
  go_enter Try.func52, Try.ntmps52
  have hb1 : ((m : Int) - (a : Int) == 1) = false := by rw [beq_eq_false_iff_ne]; omega
  have hb2 : ((b : Int) - (m : Int) == 1) = true := by rw [beq_iff_eq]; omega
  have HM : Aside (b = m + 1) := hm2
  clear hm2 hm1
  go_wp2
  go_loopg [14, 15] (m - a) (fun g1 vi vj wr => ∃ (i j : Nat), vi = .int .i64 i ∧ vj = .int .i64 j ∧ a ≤ i ∧ i ≤ j ∧ j ≤ m ∧ j - i ≤ g1 ∧ Aside (SW enc w0 blk off d wr) ∧ Aside ((i = a ∨ ltOf cf d[m]! d[i - 1]! = false) ∧ (j = m ∨ ltOf cf d[m]! d[j]! = true)))
  case atStart => exact ⟨a, m, rfl, rfl, by omega, by omega, by omega, by omega, S0, ⟨.inl rfl, .inl rfl⟩⟩
  case round =>
    clear S0
    obtain ⟨i, j, rfl, rfl, hmi, hij, hjb, hg1, S1, HF⟩ := hrel
    by_cases hlt : i < j
    · have hltz : (i : Int) < (j : Int) := by omega
      have l1 := S1.out.cl R (by omega) ((i + j) / 2) (by omega)
      have l2 := S1.out.cl R (by omega) m (by omega)
      have HX : Aside (ltOf cf d[m]! d[(i + j) / 2]! = decide (cf d[m]! d[(i + j) / 2]! < 0)) := rfl
      obtain ⟨x, hx⟩ : ∃ x, x = d[(i + j) / 2]! := ⟨_, rfl⟩
      obtain ⟨y, hy⟩ : ∃ x, x = d[m]! := ⟨_, rfl⟩
      have HE : Aside (x = d[(i + j) / 2]! ∧ y = d[m]!) := ⟨hx, hy⟩
      rw [← hx] at l1
      rw [← hy] at l2
      clear hx hy
      have hc := S1.out.cmp HC.out (by omega) y x
      obtain ⟨hN, hhN⟩ : ∃ q, q = (i + j) / 2 := ⟨_, rfl⟩
      have e1 : (((i : Int) + (j : Int)) / 2).toNat = hN := by omega
      rw [← hhN] at l1
      clear hhN
      have p1 : (0 : Int) ≤ ((i : Int) + (j : Int)) / 2 := by omega
      have b1 : ((i : Int) + (j : Int)) / 2 < (sz : Int) := by omega
      have b2 : (m : Int) < (sz : Int) := by omega
      by_cases hv : cf y x < 0
      · have hd : decide (cf y x < 0) = true := decide_eq_true hv
        go_wp2_with fail
        go_quiet_grown (first | (go_at_fn g; refine Calls.grown_of (hc _ _)))
        have S2 : Aside (SW enc w0 blk off d (grow (wr.drewN nq) osq)) := S1.out.grown nq osq
        clear l1 l2 hc S1 p1 b1 b2 e1
        generalize grow (wr.drewN nq) osq = w2 at S2 ⊢
        clear nq osq
        go_wp2
        go_roundg ((i + j) / 2 - i)
        case measure => omega
        case rel => exact ⟨i, (i + j) / 2, rfl, by go_num, by omega, by omega, by omega, Nat.le_refl _, S2, ⟨HF.out.1, .inr (by rw [HX.out, ← HE.out.1, ← HE.out.2]; exact hd)⟩⟩
      · have hd : decide (cf y x < 0) = false := decide_eq_false hv
        go_wp2_with fail
        go_quiet_grown (first | (go_at_fn g; refine Calls.grown_of (hc _ _)))
        have S2 : Aside (SW enc w0 blk off d (grow (wr.drewN nq) osq)) := S1.out.grown nq osq
        clear l1 l2 hc S1 p1 b1 b2 e1
        generalize grow (wr.drewN nq) osq = w2 at S2 ⊢
        clear nq osq
        go_wp2
        go_roundg (j - ((i + j) / 2 + 1))
        case measure => omega
        case rel => exact ⟨(i + j) / 2 + 1, j, by go_num, rfl, by omega, by omega, by omega, Nat.le_refl _, S2, ⟨.inr (by rw [Nat.add_sub_cancel, HX.out, ← HE.out.1, ← HE.out.2]; exact hd), HF.out.2⟩⟩
    · have hltz : ¬ (i : Int) < (j : Int) := by omega
      obtain rfl : i = j := by omega
      clear hltz hlt hij hg1
      have hi1 : a ≤ i ∧ i ≤ m := ⟨hmi, hjb⟩
      go_wp2
      go_loopg [17] (m - i) (fun g1 vk wr => ∃ (k : Nat) (dk : Array α), vk = .int .i64 k ∧ i ≤ k ∧ k ≤ m ∧ k - i ≤ g1 ∧ dk.size = sz ∧ Aside (SW enc w0 blk off dk wr) ∧ Aside (PermIn a b d dk ∧ ∀ x, dk[x]! = dnF d m k x))
      case atStart => exact ⟨m, d, rfl, by omega, Nat.le_refl _, Nat.le_refl _, hds, S1, ⟨permIn_refl _ _ _, fun x => (dnF_start d m x).symm⟩⟩
      case round =>
        clear S1
        obtain ⟨k, dj, rfl, hak, hki, hg1, hsj, S1, HU⟩ := hrel
        rename World => wr
        by_cases hlt : i < k
        · obtain ⟨k, rfl⟩ : ∃ q, k = q + 1 := ⟨k - 1, by omega⟩
          have hltz : (i : Int) < (k : Int) + 1 := by omega
          have hP : PermIn a b d (swp dj (k + 1) k) := permIn_trans _ _ _ _ _ HU.out.1 (swp_permIn dj a b (k + 1) k (by omega) (by omega) (by omega) (by omega) (by omega))
          have hU := dnF_step HU.out.2 (by omega) (by omega) (by omega)
          have HU2 : Aside (PermIn a b d (swp dj (k + 1) k) ∧ ∀ x, (swp dj (k + 1) k)[x]! = dnF d m k x) := ⟨hP, hU⟩
          clear hP hU HU
          obtain ⟨iN, hiN⟩ : ∃ q, q = k + 1 := ⟨_, rfl⟩
          obtain ⟨jN, hjN⟩ : ∃ q, q = k := ⟨_, rfl⟩
          have ea : ((k : Int) + 1).toNat = iN := by omega
          have pa : (0 : Int) ≤ (k : Int) + 1 := by omega
          have ba : (k : Int) + 1 < (sz : Int) := by omega
          have ra : IntKind.i64.wrap ((k : Int) + 1) = (k : Int) + 1 := by rw [IntKind.wrap_i64]; omega
          have ec : ((k : Int)).toNat = jN := by omega
          have pc : (0 : Int) ≤ (k : Int) := by omega
          have bc : (k : Int) < (sz : Int) := by omega
          have rc : IntKind.i64.wrap ((k : Int)) = (k : Int) := by rw [IntKind.wrap_i64]; omega
          obtain ⟨x, hx⟩ : ∃ x, x = dj[k + 1]! := ⟨_, rfl⟩
          obtain ⟨y, hy⟩ : ∃ x, x = dj[k]! := ⟨_, rfl⟩
          have S3 : Aside (SW enc w0 blk off (swp dj (k + 1) k) ((wr.setCell ⟨blk, off + iN, none⟩ (enc y)).setCell ⟨blk, off + jN, none⟩ (enc x)).drew) := by rw [hiN, hjN, hx, hy]; exact S1.out.swapped R (k + 1) k (by omega) (by omega)
          have ca := S1.out.c1 R (by omega) (k + 1) (by omega)
          have cb' := S1.out.c1 R (by omega) k (by omega)
          have fa := S1.out.f1 R (by omega) (k + 1) (by omega)
          have fb := S1.out.f1 R (by omega) k (by omega)
          obtain ⟨u, cc⟩ := S1.out.c2 R (by omega) (k + 1) k (by omega) (by omega) (enc y)
          rw [← hiN, ← hjN] at cc
          rw [← hx, ← hiN] at ca
          rw [← hy, ← hjN] at cb'
          rw [← hiN] at fa
          rw [← hjN] at fb
          clear S1 hx hy hiN hjN
          go_wp2_with fail
          go_big_region
          clear ca cb' cc fa fb
          generalize ((wr.setCell ⟨blk, off + iN, none⟩ (enc y)).setCell ⟨blk, off + jN, none⟩ (enc x)).drew = w3 at S3 ⊢
          clear ea ec
          go_wp2
          go_roundg (k - i)
          case measure => omega
          case rel => exact ⟨k, swp dj (k + 1) k, by first | rfl | go_num | (congr 1; omega), by omega, by omega, Nat.le_refl _, by rw [swp_size]; exact hsj, S3, HU2⟩
        · have hltz : ¬ (i : Int) < (k : Int) := by omega
          have hki2 : k = i := by omega
          have HE : Aside (PermIn a b d dj ∧ SortedIn (ltOf cf) a b dj) := by
            refine ⟨HU.out.1, ?_⟩
            rw [HM.out]
            exact dn_sorted hO (i := i) HL.out (by rw [← hki2]; exact HU.out.2) (by omega) (by omega) HF.out.1 HF.out.2
          clear HU hki2 hlt
          go_wp2
          (try simp only [Exit.inBlock, Exit.then])
          refine bodyPost_ret (results_none rfl _ _ _) rfl ?_
          exact ⟨rfl, dj, S1.out, HE.out.1, HE.out.2⟩
end Go.Proofs.Ythjgldjjplcncaa.Srt
