/-
  The law on letters of one rune walked: for every list of texts and every list of numbers (up to 2^62 of each) it answers true.
-/
import Derived.Test.YtaijphanpolegaaSngm
import Derived.Test.YtaijphanpolegaaWys
import Derived.Test.YtaijphanpolegaaAwk3
import Derived.Test.YtaijphanpolegaaRefx
namespace Go.Proofs.Ytaijphanpolegaa.Utf
open Go Go.Lib Go.RowKit

theorem quest_cat (L : List ByteArray) (zs : List Int) : (joinT L zs ++ ⟨#[63]⟩).data.toList = joinL L zs ++ [63] := by
  rw [ba_cat]; rfl
theorem ints_snoc (l : List Nat) (i : Nat) : ints ((l ++ [i]).map fun r : Nat => (r : Int)) = ints (l.map fun r : Nat => (r : Int)) ++ [Value.int .i64 (i : Int)] := by simp [ints]

set_option maxRecDepth 100000 in
set_option maxHeartbeats 4000000 in
theorem alphaSingles_walk (L : List ByteArray) (al : Option Addr) (cl : Nat) (zs : List Int) (ao : Option Addr) (cap : Nat) (w : World) (hlen : L.length ≤ 4611686018427387904) (hl : zs.length ≤ 4611686018427387904) (hRL : ReadsO w al (L.map Value.string)) (hR : ReadsO w ao (ints zs)) :
    Calls Try.prog 8 #[.slice al L.length cl, .slice ao zs.length cap] w fun e w' => e = .returned (.bool true) ∧ Below w.heap.size w w' := by
  obtain ⟨i0, hi, hz0, hz1, hz2⟩ := info_parts infoInt'
  have cA := awake3_any w
  have HRL : Aside (∀ W, Below w.heap.size w W → ReadsO W al (L.map Value.string)) := fun W hb => hRL.below hb
  have HR : Aside (∀ W, Below w.heap.size w W → ReadsO W ao (ints zs)) := fun W hb => hR.below hb
  clear hRL hR
  go_enter Try.func8, Try.ntmps8
  go_wp2_with fail
  refine cA.mono ?_
  rintro e w1 ⟨rfl, hb1⟩
  have HB1 : Aside (Below w.heap.size w w1) := hb1
  have cN := new_any L al cl w1 (by omega) (HRL.out _ hb1)
  clear cA hb1
  have hG := @new_good L
  generalize (newR L).1 = N1 at *
  generalize (newR L).2 = E at *
  go_wp2_with fail
  refine cN.mono ?_
  rintro e w3 ⟨⟨v, rfl, hv1, hv2⟩, hb3⟩
  have HB3 : Aside (Below w.heap.size w w3) := HB1.out.trans (hb3.mono HB1.out.size)
  clear cN hb3
  by_cases hE : E = 0
  · subst hE
    obtain ⟨b, rk, rfl, hA, hRk⟩ := hv2 (by first | rfl | trivial)
    obtain ⟨_, hl40, hnm, hnd⟩ := hG (by first | rfl | trivial)
    have hLs : ∀ x ∈ L, 1 ≤ x.size ∧ x.size ≤ 12 := fun x hx => name_len (hnm x hx)
    have HA : Aside (∀ W, Below w3.heap.size w3 W → IsAlpha W b L rk) := fun W h => (hA.below h).is
    clear hv1 hv2 hG hA
    go_wp2
    go_loopg [36] L.length (fun g1 iv wr => ∃ k : Nat, iv = .int .i64 (k : Int) ∧ k ≤ L.length ∧ L.length - k ≤ g1 ∧ Aside (Below w3.heap.size w3 wr) ∧ Aside (∀ j (h : j < L.length), j < k → (pairs L[j]).length = 1))
    case atStart => exact ⟨0, rfl, Nat.zero_le _, Nat.le_refl _, Below.refl _ _, fun j _ h => by omega⟩
    case round =>
      obtain ⟨k, rfl, hk, hg1, hB, HN⟩ := hrel
      have HBw : Aside (Below w.heap.size w wr) := HB3.out.trans (hB.out.mono HB3.out.size)
      by_cases hlt : k < L.length
      · have hltz : (k : Int) < (L.length : Int) := by omega
        obtain ⟨ga, oa, rfl, _, ec⟩ := (HRL.out _ HBw.out) k (by simpa using hlt)
        rw [List.getElem_map] at ec
        have cC := refCount_any L[k] wr (by have := hLs L[k] (List.getElem_mem hlt); omega)
        rw [← pairs_length] at cC
        by_cases h1 : (pairs L[k]).length = 1
        · have HX : Aside (∀ j (h : j < L.length), j < k + 1 → (pairs L[j]).length = 1) := fun j h h2 => by
            by_cases hj : j = k
            · subst hj; exact h1
            · exact HN.out j h (by omega)
          rw [h1] at cC
          clear h1 HN
          generalize L[k] = X at *
          go_wp2_with fail
          refine cC.mono ?_
          rintro e w4 ⟨rfl, hb4⟩
          have HB4 : Aside (Below w3.heap.size w3 w4) := hB.out.trans (hb4.mono hB.out.size)
          clear hb4 cC
          go_wp2
          go_roundg (L.length - (k + 1))
          case measure => omega
          case rel => exact ⟨k + 1, by go_num, by omega, Nat.le_refl _, HB4, HX⟩
        · have h1b : (((pairs L[k]).length : Int) == 1) = false := by rw [beq_eq_false_iff_ne]; omega
          have h1c : (((pairs L[k]).length : Int) != 1) = true := by rw [bne, h1b]; rfl
          clear h1 HN
          generalize (pairs L[k]).length = PL at *
          generalize L[k] = X at *
          go_wp2_with fail
          refine cC.mono ?_
          rintro e w4 ⟨rfl, hb4⟩
          have HB4 : Aside (Below w.heap.size w w4) := HBw.out.trans (hb4.mono HBw.out.size)
          clear hb4 cC
          go_wp2
          go_ret
          exact ⟨rfl, HB4.out⟩
      · have hltz : ¬ (k : Int) < (L.length : Int) := by omega
        have hSg : Singles L := fun X hX => by
          obtain ⟨j, hj, rfl⟩ := List.getElem_of_mem hX
          exact ⟨hnm _ (List.getElem_mem hj), HN.out j hj (by omega)⟩
        have HSG : Aside (Singles L) := hSg
        clear hSg HN hlt
        go_wp2
        go_loopg [10, 46] zs.length (fun g1 v iv wq => ∃ (m : Nat) (l : List Nat), iv = .int .i64 (m : Int) ∧ m ≤ zs.length ∧ zs.length - m ≤ g1 ∧ l.length ≤ 32 ∧ wq.ownsRow wr.heap.size 3 1 v l.length (ints (l.map fun r : Nat => (r : Int))) ∧ Aside (Below wr.heap.size wr wq) ∧ Aside (∀ r ∈ l, r < L.length))
        case atStart => exact ⟨0, [], rfl, Nat.zero_le _, Nat.le_refl _, Nat.zero_le _, World.ownsRow_nil _ _ _ _, Below.refl _ _, fun r h => by cases h⟩
        case round =>
          obtain ⟨m, l, rfl, hm, hg2, hl32, hown, hBq, HLL⟩ := hrel
          rename World => wq
          have HBW : Aside (Below w.heap.size w wq) := HBw.out.trans (hBq.out.mono HBw.out.size)
          obtain ⟨av, cv, rfl, qv⟩ := row_reads hown
          by_cases hmt : m < zs.length
          · have hmtz : (m : Int) < (zs.length : Int) := by omega
            obtain ⟨gz, oz, rfl, _, ez⟩ := (HR.out _ HBW.out) m (by simpa [ints] using hmt)
            have ez' : wq.cell? ⟨gz, oz + m, none⟩ = some (.int .i64 zs[m]) := by rw [ez]; simp [ints]
            clear ez qv
            generalize zs[m] = z at *
            by_cases hin : (0 ≤ z ∧ z < (L.length : Int)) ∧ l.length < 32
            · obtain ⟨i, rfl⟩ := Int.eq_ofNat_of_zero_le hin.1.1
              have hi1 : (i : Int) < (L.length : Int) := hin.1.2
              have hi2 : (l.length : Int) < 32 := by omega
              have hi3 : l.length + 1 ≤ 32 := by omega
              have HLL2 : Aside (∀ r ∈ l ++ [i], r < L.length) := fun r hr => by
                rcases List.mem_append.1 hr with h | h
                · exact HLL.out r h
                · rw [List.mem_singleton.1 h]; omega
              clear hin
              go_wp2_with (first
                | (at_builtin; refine wpList_append_own _ rfl _ _ 37 rfl wr.heap.size 3 i0 (.int .i64 0) 1 8 Try.underlying37 hi hz0 hz1 hz2 rfl (by decide) _ _ _ rfl (hown.alloc _) ⟨wq.heap.size, 0, none⟩ 1 1 [.int .i64 (i : Int)] rfl rfl (cell_one_new _ _ _) (by simp [Value.oneCell']) (by unfold maxLen; omega) (by omega) (by have := hBq.out.size; simp; omega) ?_))
              intro v' w5 hown' hgrow _
              have HB5 : Aside (Below wr.heap.size wr w5) := Below.grown (hBq.out.alloc (by have := hBq.out.size; omega) _) hgrow (by have := hBq.out.size; simp; omega) (fun j hj => (hown.lt _ hj).1)
              have hown3 : w5.ownsRow wr.heap.size 3 1 v' (l ++ [i]).length (ints ((l ++ [i]).map fun r : Nat => (r : Int))) := by
                rw [ints_snoc, List.length_append]; exact hown'
              obtain ⟨g', cap', rfl⟩ := ownsRow_succ hown'
              clear hown' hgrow hown
              go_wp2
              go_roundg (zs.length - (m + 1))
              case measure => omega
              case rel => exact ⟨m + 1, l ++ [i], by go_num, by omega, Nat.le_refl _, by rw [List.length_append, List.length_singleton]; omega, hown3, HB5, HLL2⟩
            · by_cases hz1' : 0 ≤ z
              · by_cases hz2' : z < (L.length : Int)
                · have h32 : ¬ (l.length : Int) < 32 := by omega
                  clear hin
                  go_wp2
                  go_roundg (zs.length - (m + 1))
                  case measure => omega
                  case rel => exact ⟨m + 1, l, by go_num, by omega, Nat.le_refl _, hl32, hown, hBq, HLL⟩
                · clear hin
                  go_wp2
                  go_roundg (zs.length - (m + 1))
                  case measure => omega
                  case rel => exact ⟨m + 1, l, by go_num, by omega, Nat.le_refl _, hl32, hown, hBq, HLL⟩
              · clear hin
                go_wp2
                go_roundg (zs.length - (m + 1))
                case measure => omega
                case rel => exact ⟨m + 1, l, by go_num, by omega, Nat.le_refl _, hl32, hown, hBq, HLL⟩
          · have hmtz : ¬ (m : Int) < (zs.length : Int) := by omega
            have hok : okNums L (l.map fun r : Nat => (r : Int)) := fun z hz => by
              obtain ⟨r, hr, rfl⟩ := List.mem_map.1 hz
              have := HLL.out r hr
              omega
            have hml : (l.map fun r : Nat => (r : Int)).length = l.length := List.length_map _
            have hsure := single_sure HSG.out hnd hok (by rw [hml]; exact hl32)
            have HW1 : Aside (∀ ws n, WaysTo L rk (joinT L (l.map fun r : Nat => (r : Int))) 0 ws → ws[0]? = some n → n = 1) := fun ws n h h0 => by
              have := ways_one hRk HSG.out hnd hok h
              rw [this] at h0
              exact (Option.some.inj h0).symm
            have HW0 : Aside (∀ ws n, WaysTo L rk (joinT L (l.map fun r : Nat => (r : Int)) ++ ⟨#[63]⟩) 0 ws → ws[0]? = some n → n = 0) := fun ws n h h0 => by
              have := ways_zero hRk HSG.out hnd hok (quest_cat _ _) h
              rw [this] at h0
              exact (Option.some.inj h0).symm
            have hjs := joinT_size (fun x hx => (hLs x hx).2) (l.map fun r : Nat => (r : Int)) (L := L)
            rw [hml] at hjs
            have HAq : Aside (∀ W, Below wq.heap.size wq W → IsAlpha W b L rk) := fun W h => HA.out W ((hB.out.trans (hBq.out.mono hB.out.size)).trans (h.mono (by have := hB.out.size; have := hBq.out.size; omega)))
            have cJ := join_any (HAq.out wq (Below.refl _ _)) (fun x hx => (hLs x hx).2) (l.map fun r : Nat => (r : Int)) av cv (by rw [hml]; omega) qv.any
            have cU := fun W (h : Below wq.heap.size wq W) => sure_any (HAq.out W h) hRk hnd hLs (l.map fun r : Nat => (r : Int)) av cv (by rw [hml]; omega) (qv.any.below h)
            rw [hml] at cJ cU
            have HOK : Aside (okNums L (l.map fun r : Nat => (r : Int)) ∧ sureP L (l.map fun r : Nat => (r : Int))) := ⟨hok, hsure⟩
            have hq3 : (joinT L (l.map fun r : Nat => (r : Int)) ++ ⟨#[63]⟩).size ≤ 16777216 := by
              rw [ByteArray.size_append]
              show _ + 1 ≤ _
              omega
            have cW1 := fun W (h : Below wq.heap.size wq W) => ways_any (HAq.out W h) hLs (joinT L (l.map fun r : Nat => (r : Int))) (by omega)
            have cW0 := fun W (h : Below wq.heap.size wq W) => ways_any (HAq.out W h) hLs (joinT L (l.map fun r : Nat => (r : Int)) ++ ⟨#[63]⟩) hq3
            clear hok hsure hown qv HA hml
            generalize joinT L (l.map fun r : Nat => (r : Int)) = T at *
            go_wp2_with fail
            refine cJ.mono ?_
            rintro e w4 ⟨hor, hb4⟩
            obtain rfl : e = .returned (.tuple #[.string T, .int .i64 0]) := by
              rcases hor with ⟨_, h⟩ | ⟨h, _⟩
              · exact h
              · exact absurd HOK.out.1 h
            have cU2 := cU w4 hb4
            have HB4 : Aside (Below wq.heap.size wq w4) := hb4
            clear hor cJ hb4 cU
            go_wp2_with fail
            refine cU2.mono ?_
            rintro e w5 ⟨hor, hb5⟩
            obtain rfl : e = .returned (.bool true) := by
              rcases hor with ⟨_, h⟩ | ⟨h, _⟩
              · exact h
              · exact absurd HOK.out.2 h
            have HB5 : Aside (Below wq.heap.size wq w5) := HB4.out.trans (hb5.mono HB4.out.size)
            have cX := cW1 w5 HB5.out
            clear hor cU2 hb5 cW1
            go_wp2_with fail
            refine cX.mono ?_
            rintro e w6 ⟨⟨n, ws, rfl, h0, hw⟩, hb6⟩
            obtain rfl := HW1.out ws n hw h0
            have HB6 : Aside (Below wq.heap.size wq w6) := HB5.out.trans (hb6.mono HB5.out.size)
            have cY := cW0 w6 HB6.out
            clear cX hb6 cW0 h0 hw
            go_wp2_with fail
            refine cY.mono ?_
            rintro e w7 ⟨⟨n, ws2, rfl, h0, hw⟩, hb7⟩
            obtain rfl := HW0.out ws2 n hw h0
            have HB7 : Aside (Below w.heap.size w w7) := HBW.out.trans ((HB6.out.trans (hb7.mono HB6.out.size)).mono HBW.out.size)
            clear cY hb7 h0 hw
            go_wp2
            go_ret
            exact ⟨rfl, HB7.out⟩
  · obtain rfl := hv1 hE
    have hEb : (E == 0) = false := by rw [beq_eq_false_iff_ne]; exact hE
    have hEb2 : (E != 0) = true := by rw [bne, hEb]; rfl
    clear hE hv1 hv2 hG
    go_wp2
    go_ret
    exact ⟨rfl, HB3.out⟩
end Go.Proofs.Ytaijphanpolegaa.Utf
