/-
  The document's Read.
-/
import Derived.Test.YtilokjcbkhhifaaDoorNmd
namespace Go.Proofs.YtilokjcbkhhifaaDoor.Grd
open Go Go.Lib Go.RowKit

set_option maxRecDepth 20000 in
set_option maxHeartbeats 2000000 in
theorem refRead_any (s : ByteArray) (w : World) (hs : s.size ≤ 281474976710656) :
    Calls Tryd.prog 25 #[.string s] w fun e w' => e = .returned (rdV (rd s)) ∧ Below w.heap.size w w' := by
  by_cases h4 : 4 < s.size
  · have h4z : (4 : Int) < (s.size : Int) := by omega
    have HV : Aside (rdV (rd s) = .tuple #[.int .i64 0, .bool false, .bool false]) := by
      show _ = _
      rw [rd_none fun n dn h => by
        have e : s.size = (nmL n dn).length := by rw [h.2.2]; rfl
        have := nmL_len n dn
        omega]
      rfl
    clear h4
    go_enter Tryd.func25, Tryd.ntmps25
    go_wp2
    go_ret3
    exact ⟨by rw [HV.out]; rfl, Below.refl _ _⟩
  · have h4z : ¬ (4 : Int) < (s.size : Int) := by omega
    have HN : Aside (∀ (v : Int) dn W, Calls Tryd.prog 27 #[.int .i64 v, .bool dn] W fun e w' => e = .returned (.string (nameS v dn)) ∧ Below W.heap.size W w') := fun v dn W => refName_any v dn W
    clear h4
    go_enter Tryd.func25, Tryd.ntmps25
    go_wp2
    go_loopg [5] 1000 (fun g1 iv wr => ∃ k : Nat, iv = .int .i64 (k : Int) ∧ 1 ≤ k ∧ k ≤ 1000 ∧ 1000 - k ≤ g1 ∧ Aside (∀ m dn, m < k → ¬ Reads s m dn) ∧ Aside (Below w.heap.size w wr))
    case atStart => exact ⟨1, rfl, by omega, by omega, by omega, (fun m dn hm h => by have := h.1; omega), Below.refl _ _⟩
    case round =>
      obtain ⟨k, rfl, hk1, hk, hg, HNO, HB⟩ := hrel
      by_cases hlt : k < 1000
      · have hltz : (k : Int) < 1000 := by omega
        have HRK : Aside (∀ dn, nameS (k : Int) dn = s → Reads s k dn) := fun dn h => by
          refine ⟨hk1, hlt, ?_⟩
          rw [← h]
          unfold nameS
          rw [if_pos (by omega), Int.toNat_natCast]
        have cN := HN.out (k : Int) false wr
        by_cases hf : nameS (k : Int) false = s
        · have hf2 : (s.toList == (nameS (k : Int) false).toList) = true := by rw [hf]; exact beq_self_eq_true _
          have HV : Aside (rdV (rd s) = .tuple #[.int .i64 k, .bool false, .bool true]) := by show _ = _; rw [rd_some (HRK.out false hf)]; rfl
          clear hf
          generalize nameS (k : Int) false = nm at *
          go_wp2_with fail
          refine cN.mono ?_
          rintro e w2 ⟨rfl, hb2⟩
          have HB2 : Aside (Below w.heap.size w w2) := HB.out.trans (hb2.mono HB.out.size)
          clear cN hb2
          go_wp2
          go_ret3
          exact ⟨by rw [HV.out]; rfl, HB2.out⟩
        · have hf2 : (s.toList == (nameS (k : Int) false).toList) = false := by rw [beq_eq_false_iff_ne]; exact fun h => hf (toList_inj h.symm)
          have HNF : Aside (¬ Reads s k false) := fun h => hf (reads_nameS h)
          clear hf
          generalize nameS (k : Int) false = nm at *
          go_wp2_with fail
          refine cN.mono ?_
          rintro e w2 ⟨rfl, hb2⟩
          have HB2 : Aside (Below w.heap.size w w2) := HB.out.trans (hb2.mono HB.out.size)
          have cM := HN.out (k : Int) true w2
          clear cN hb2
          by_cases ht : nameS (k : Int) true = s
          · have ht2 : (s.toList == (nameS (k : Int) true).toList) = true := by rw [ht]; exact beq_self_eq_true _
            have HV : Aside (rdV (rd s) = .tuple #[.int .i64 k, .bool true, .bool true]) := by show _ = _; rw [rd_some (HRK.out true ht)]; rfl
            clear ht
            generalize nameS (k : Int) true = nt at *
            go_wp2_with fail
            refine cM.mono ?_
            rintro e w3 ⟨rfl, hb3⟩
            have HB3 : Aside (Below w.heap.size w w3) := HB2.out.trans (hb3.mono HB2.out.size)
            clear cM hb3
            go_wp2
            go_ret3
            exact ⟨by rw [HV.out]; rfl, HB3.out⟩
          · have ht2 : (s.toList == (nameS (k : Int) true).toList) = false := by rw [beq_eq_false_iff_ne]; exact fun h => ht (toList_inj h.symm)
            have HN2 : Aside (∀ m dn, m < k + 1 → ¬ Reads s m dn) := fun m dn hm h => by
              by_cases e : m = k
              · subst e
                cases dn with
                | false => exact HNF.out h
                | true => exact ht (reads_nameS h)
              · exact HNO.out m dn (by omega) h
            clear ht
            generalize nameS (k : Int) true = nt at *
            go_wp2_with fail
            refine cM.mono ?_
            rintro e w3 ⟨rfl, hb3⟩
            have HB3 : Aside (Below w.heap.size w w3) := HB2.out.trans (hb3.mono HB2.out.size)
            clear cM hb3
            go_wp2
            go_roundg (1000 - (k + 1))
            case measure => omega
            case rel => exact ⟨k + 1, by go_num, by omega, by omega, Nat.le_refl _, HN2, HB3⟩
      · have hltz : ¬ (k : Int) < 1000 := by omega
        have HV : Aside (rdV (rd s) = .tuple #[.int .i64 0, .bool false, .bool false]) := by
          show _ = _
          rw [rd_none fun n dn h => HNO.out n dn (by have := h.2.1; omega) h]
          rfl
        go_wp2
        go_ret3
        exact ⟨by rw [HV.out]; rfl, HB.out⟩
end Go.Proofs.YtilokjcbkhhifaaDoor.Grd
