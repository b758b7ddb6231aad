/-
  The program's Plain: the plain form of every number that an int32 can be.
-/
import Derived.Test.YtikfaalbdnlelaaGreatDoorFldw
namespace Go.Proofs.YtikfaalbdnlelaaGreatDoor.Utf
open Go Go.Lib Go.RowKit

def plKeys : List Int := [192, 193, 194, 195, 196, 197, 256, 258, 260, 198, 199, 262, 264, 266, 268, 270, 272, 200, 201, 202, 203, 274, 276, 278, 280, 282, 284, 286, 288, 290, 292, 294, 204, 205, 206, 207, 296, 298, 300, 302, 304, 308, 310, 313, 315, 317, 319, 321, 209, 323, 325, 327, 210, 211, 212, 213, 214, 216, 332, 334, 336, 338, 340, 342, 344, 346, 348, 350, 352, 223, 354, 356, 358, 217, 218, 219, 220, 360, 362, 364, 366, 368, 370, 372, 221, 374, 376, 377, 379, 381]
theorem plT_keys {r : Int} (h : r ∉ plKeys) : plT r = [] := by
  simp only [plKeys, List.mem_cons, List.not_mem_nil, or_false, not_or] at h
  unfold plT
  repeat (first | rw [if_neg (by omega)] | rfl)
theorem pl_hit {n : Int} (l : List Nat) (h : plT n = l) (hl : l ≠ []) : pl n = ⟨(encR l).toArray⟩ := by
  subst h
  unfold pl plR
  rw [if_neg hl]
theorem pl_miss {n : Int} (h : plT n = []) : pl n = Utf8.encode n := by
  unfold pl plR
  rw [if_pos h, encR_cons]
  have e : encB (wr n) = (Utf8.encode n).data.toList := by rw [encB, enc_of_wr (wr_wr n)]
  rw [e]
  generalize Utf8.encode n = E
  cases E
  simp [encR]
theorem plKeys_not {r : Int} (h : ∀ k ∈ plKeys, (r == k) = false) : r ∉ plKeys := fun hm => by
  have := h r hm
  simp at this
theorem ret_str' {a b : ByteArray} (h : a = b) : Ending.returned (.string a) = .returned (.string b) := by rw [h]

set_option maxHeartbeats 4000000 in
set_option maxRecDepth 100000 in
theorem plain_any (r : Int) (w : World) :
    Calls Tryz.prog 92 #[.int .i32 r] w fun e w' => e = .returned (.string (pl r)) ∧ w' = w := by
  go_enter Tryz.func92, Tryz.ntmps92
  go_wp2_with (go_at_call 93; refine (encode_any _ _).mono ?_; rintro e w' ⟨rfl, rfl⟩)
  all_goals (go_ret; refine ⟨ret_str' ?_, rfl⟩)
  all_goals first
    | (have e := eq_of_beq ‹(r == _) = true›; rw [e] <;> rfl)
    | (refine (pl_miss (plT_keys (plKeys_not ?_))).symm
       unfold plKeys
       repeat (refine List.forall_mem_cons.2 ⟨by assumption, ?_⟩)
       exact fun _ h => by cases h)
end Go.Proofs.YtikfaalbdnlelaaGreatDoor.Utf
