/-
  The program's Plain: the plain form of every number that an int32 can be.
-/
import Derived.Test.YtcocbjipikeebaaGreatDoorFldwq
import Derived.Test.YtcocbjipikeebaaGreatDoorGub
namespace Go.Proofs.YtcocbjipikeebaaGreatDoor.Utf
open Go Go.Lib Go.RowKit

def plKeys : List Int := [192, 193, 194, 195, 196, 197, 256, 258, 260, 198, 199, 262, 264, 266, 268, 270, 272, 200, 201, 202, 203, 274, 276, 278, 280, 282, 284, 286, 288, 290, 292, 294, 204, 205, 206, 207, 296, 298, 300, 302, 304, 308, 310, 313, 315, 317, 319, 321, 209, 323, 325, 327, 210, 211, 212, 213, 214, 216, 332, 334, 336, 338, 340, 342, 344, 346, 348, 350, 352, 223, 354, 356, 358, 217, 218, 219, 220, 360, 362, 364, 366, 368, 370, 372, 221, 374, 376, 377, 379, 381]
theorem plT_keys {r : Int} (h : r ∉ plKeys) : plT r = [] := by
  simp only [plKeys, List.mem_cons, List.not_mem_nil, or_false, not_or] at h
  unfold plT
  repeat (first | rw [if_neg (by omega)] | rfl)
theorem pl_hit {n : Int} (l : List Nat) (h : plT n = l) (hl : l ≠ []) : pl n = ⟨(encR l).toArray⟩ := by
  subst h
  unfold pl plR
  rw [if_neg hl]
theorem pl_miss {n : Int} (h : plT n = []) : pl n = Utf8.encode n := by
  unfold pl plR
  rw [if_pos h, encR_cons]
  have e : encB (wr n) = (Utf8.encode n).data.toList := by rw [encB, enc_of_wr (wr_wr n)]
  rw [e]
  generalize Utf8.encode n = E
  cases E
  simp [encR]
theorem plKeys_not {r : Int} (h : ∀ k ∈ plKeys, (r == k) = false) : r ∉ plKeys := fun hm => by
  have := h r hm
  simp at this
theorem ret_str' {a b : ByteArray} (h : a = b) : Ending.returned (.string a) = .returned (.string b) := by rw [h]

set_option maxHeartbeats 4000000 in
set_option maxRecDepth 100000 in
theorem plain_any (r : Int) (w : World) :
    Calls Tryz.prog 99 #[.int .i32 r] w fun e w' => e = .returned (.string (pl r)) ∧ w' = w := by
  go_enter Tryz.func99, Tryz.ntmps99
  go_wp2_with (go_at_call 100; refine (encode_any _ _).mono ?_; rintro e w' ⟨rfl, rfl⟩)
  all_goals (go_ret; refine ⟨ret_str' ?_, rfl⟩)
  all_goals first
    | (have e := eq_of_beq ‹(r == _) = true›; rw [e] <;> rfl)
    | (refine (pl_miss (plT_keys (plKeys_not ?_))).symm
       unfold plKeys
       repeat (refine List.forall_mem_cons.2 ⟨by assumption, ?_⟩)
       exact fun _ h => by cases h)
end Go.Proofs.YtcocbjipikeebaaGreatDoor.Utf
/-
  The program's Fold: what folding makes of the text's runes, one behind the other, for every text short enough for a builder.
-/
namespace Go.Proofs.YtcocbjipikeebaaGreatDoor.Utf
open Go Go.Lib Go.RowKit Go.Shelf
attribute [local go_sem] Oper.semAt_some

/-- The bytes of what folding makes of the runes of a list of pairs. -/
def fl (p : Bool) (l : List (Nat × Nat)) : List UInt8 := encR (foldRs p (l.map fun x => x.2))
theorem fl_nil (p : Bool) : fl p [] = [] := rfl
theorem fl_snoc (p : Bool) (l : List (Nat × Nat)) (x : Nat × Nat) : fl p (l ++ [x]) = fl p l ++ encR (foldR p x.2) := by
  unfold fl
  rw [List.map_append, foldRs_append, encR_append]
  simp [foldRs]
theorem fl_le (p : Bool) (l : List (Nat × Nat)) : (fl p l).length ≤ 8 * l.length := by
  have h1 := encR_le (foldRs p (l.map fun x => x.2))
  have h2 := foldRs_len p (l.map fun x => x.2)
  rw [List.length_map] at h2
  unfold fl
  omega
theorem pl_list (n : Int) : (pl n).data.toList = encR (plR n) := by simp [pl]
theorem pl_size (n : Int) : (pl n).size ≤ 8 := by
  have h1 := encR_le (plR n)
  have h2 := plR_len n
  rw [← ba_len, pl_list]
  omega
theorem encR_one (n : Int) : encR [wr n] = (Utf8.encode n).data.toList := by
  rw [encR_cons, encB, enc_of_wr (wr_wr n)]
  simp [encR]

set_option maxRecDepth 100000 in
set_option maxHeartbeats 2000000 in
theorem fold_any (s : ByteArray) (p : Bool) (w : World) (hs : s.size ≤ 8796093022208) :
    Calls Tryz.prog 73 #[.string s, .bool p] w fun e W' => e = .returned (.string (foldS p s)) ∧ Below w.heap.size w W' := by
  refine (callsIn_wide (n := 3)).1 ?_
  have hro : Fence.wide.round = none := rfl
  have hpl := pairs_le s
  refine callsIn_of_wp_marks Tryz.func73 rfl trivial ?_ hro
  simp only [Tryz.ntmps73, List.size_toArray, List.length_cons, List.length_nil, Nat.reduceAdd, Nat.reduceSub, Array.replicate_succ, Array.replicate_zero, List.push_toArray, List.append_toArray, List.nil_append, List.cons_append]
  gi_wp2_with (refine ⟨trivial, ?_⟩; gi_at_call 57; refine (all_in Fence.wide _ trivial hro _ _).mono ?_; rintro e w' ⟨rfl, rfl⟩)
  have hbP := (Below.refl w.heap.size w).alloc (Nat.le_refl _) (.cells #[.bool p] 4)
  have hcP := (Boxed.new w 4 (.bool p)).cell
  have hzP : (w.alloc (.cells #[.bool p] 4)).heap.size = w.heap.size + 1 := World.size_alloc _ _
  generalize w.alloc (.cells #[.bool p] 4) = w1 at *
  have hlt : w.heap.size < w1.heap.size := by omega
  rw [← hzP]
  clear hzP
  have bS := Boxed.new (w1.alloc (.cells #[.pointer none, .slice none 0 0] 100)) 9 (.string s)
  rw [World.size_alloc] at bS
  have hB0 : Below w1.heap.size w1 ((w1.alloc (.cells #[.pointer none, .slice none 0 0] 100)).alloc (.cells #[.string s] 9)) := ((Below.refl _ w1).alloc (Nat.le_refl _) _).alloc (by simp) _
  have hI0 : Lib.IsBuilderF 100 5 w1.heap.size w1.heap.size (Lib.byteCells (fl p [])) ((w1.alloc (.cells #[.pointer none, .slice none 0 0] 100)).alloc (.cells #[.string s] 9)) := (isBuilderF_new 100 5 w1).alloc _
  refine wpIn_rangeFunc_ownG hro (by omega) (gf := 86) (lb := #[.pointer (some ⟨w1.heap.size + 1, 0, none⟩)]) rfl trivial (enters_of Tryz.func86 (by kernel_rfl) rfl)
    (all_stops Fence.wide _ trivial hro (by omega) (w1.heap.size + 1) s _ (by simp) bS.cell) walksK_t walksK_b (Below.refl _ _) (fun _ => rfl)
    (fun pre W => Lib.IsBuilderF 100 5 w1.heap.size w1.heap.size (Lib.byteCells (fl p pre)) W ∧ Below w1.heap.size w1 W)
    (fun _ _ _ => False)
    (OwnFrom.and (Own.from (builder_own 100 5 w1.heap.size w1.heap.size (fun pre => Lib.byteCells (fl p pre))) _) (ownFrom_below (Nat.le_refl _) (by simp; omega)))
    (fun _ _ _ _ _ hs _ _ => hs)
    ⟨hI0, hB0⟩
    (fun x => { tmps := #[.string s, .bool p, undef, .pointer (some ⟨w.heap.size, 0, none⟩), .string ⟨#[]⟩, .pointer (some ⟨w1.heap.size, 0, none⟩), undef, .int .i32 (x.2 : Int), .string s, .func (.func 86) #[] #[.pointer (some ⟨w1.heap.size + 1, 0, none⟩)], .int .i64 (x.1 : Int), .int .i32 (x.2 : Int), undef, undef, undef, undef, undef, undef, undef, undef, undef, undef, undef, undef, undef], defers := [] }) ?assign ?body ?done ?stop
  case assign =>
    intro l x W K hK
    gi_wp2
    exact hK
  case body =>
    rintro l pre x W ⟨hI, hB⟩ hpre
    have hel := fl_le p pre
    have cC := class_any (x.2 : Int) W
    have hcell : W.cell? ⟨w.heap.size, 0, none⟩ = some (.bool p) := (hB.cell (p := ⟨w.heap.size, 0, none⟩) hlt).trans hcP
    by_cases hL : isL (x.2 : Int)
    · have hbd : (x.2 : Int) ≤ 1119 := by unfold isL at hL; omega
      rw [cls_1.2 hL] at cC
      have cU := fun W => upper_any (x.2 : Int) W (by omega) (by omega)
      have cW : ∀ S : ByteArray, S.size ≤ 8 → _ := fun S hS => writeString_any w1.heap.size w1.heap.size (Lib.byteCells (fl p pre)) S W hI (by rw [Lib.byteCells_length]; omega) hB.size
      have e1 : Lib.byteCells (fl p (pre ++ [x])) = Lib.byteCells (fl p pre) ++ Lib.strCells (if p then pl (up x.2) else Utf8.encode (up x.2)) := by
        rw [fl_snoc, byteCells_append, strCells_bytes]
        congr 2
        unfold foldR
        rw [if_pos hL]
        cases p
        · exact encR_one _
        · exact (pl_list _).symm
      have hzp := pl_size (up x.2)
      have hze := (enc_size (up x.2)).2
      clear hI hL hel
      generalize up (x.2 : Int) = u at *
      have cE := fun W => encode_any u W
      have cP := fun W => plain_any u W
      cases p
      · have cW' := cW (Utf8.encode u) (by omega)
        rw [if_neg Bool.false_ne_true] at e1
        generalize Utf8.encode u = E at *
        clear cW
        gi_wp2_with (refine ⟨trivial, ?_⟩; first
          | (gi_at_call 58; refine (CallsIn.inRound l (callsIn_wide.2 cC)).mono ?_; rintro e w' ⟨rfl, rfl⟩)
          | (gi_at_call 59; refine (CallsIn.inRound l (callsIn_wide.2 (cU _))).mono ?_; rintro e w' ⟨rfl, rfl⟩)
          | (gi_at_call 100; refine (CallsIn.inRound l (callsIn_wide.2 (cE _))).mono ?_; rintro e w' ⟨rfl, rfl⟩))
        refine ⟨trivial, ?_⟩
        refine (CallsIn.inRound l (callsIn_wide.2 cW')).mono ?_
        rintro e w2 ⟨rfl, hA, hb2, hk2⟩
        gi_wp2
        refine ⟨hk2.from _, hk2.walks, ?_, hB.trans hb2⟩
        rw [e1]
        exact .inr hA
      · have cW' := cW (pl u) hzp
        rw [if_pos rfl] at e1
        clear cE hze
        generalize pl u = E at *
        clear cW
        gi_wp2_with (refine ⟨trivial, ?_⟩; first
          | (gi_at_call 58; refine (CallsIn.inRound l (callsIn_wide.2 cC)).mono ?_; rintro e w' ⟨rfl, rfl⟩)
          | (gi_at_call 59; refine (CallsIn.inRound l (callsIn_wide.2 (cU _))).mono ?_; rintro e w' ⟨rfl, rfl⟩)
          | (gi_at_call 99; refine (CallsIn.inRound l (callsIn_wide.2 (cP _))).mono ?_; rintro e w' ⟨rfl, rfl⟩))
        refine ⟨trivial, ?_⟩
        refine (CallsIn.inRound l (callsIn_wide.2 cW')).mono ?_
        rintro e w2 ⟨rfl, hA, hb2, hk2⟩
        gi_wp2
        refine ⟨hk2.from _, hk2.walks, ?_, hB.trans hb2⟩
        rw [e1]
        exact .inr hA
    · have hq : (cls (x.2 : Int) == 1) = false := by rw [beq_eq_false_iff_ne]; exact fun h => hL (cls_1.1 h)
      have e1 : fl p (pre ++ [x]) = fl p pre := by
        rw [fl_snoc]
        unfold foldR
        rw [if_neg hL]
        exact List.append_nil _
      generalize cls (x.2 : Int) = C at *
      gi_wp2_with (refine ⟨trivial, ?_⟩; gi_at_call 58; refine (CallsIn.inRound l (callsIn_wide.2 cC)).mono ?_; rintro e w' ⟨rfl, rfl⟩)
      refine ⟨(KeepsOthers.refl _).from _, (KeepsOthers.refl _).walks, ?_, hB⟩
      rw [e1]
      exact hI
  case done =>
    rintro D ys W hD rfl ⟨hI, hB⟩ hK
    gi_wp2_with (refine ⟨trivial, ?_⟩; gi_at_call 50; refine (callsIn_wide.2 (string_any w1.heap.size w1.heap.size _ _ hI hB.size)).mono ?_)
    rintro e w2 ⟨rfl, hb2, hk2⟩
    have hK2 := hk2.same D _ hK rfl
    gi_wp2
    refine ⟨by simp, .inl ⟨_, _, rfl, run_takeDeferred hK2, ?_⟩⟩
    exact ⟨_, results_tmp rfl _ _ _, rfl, hbP.trans (((hB.trans hb2).trans (belowK_b (w := w1) (Nat.le_refl _) _ D _ _ (by simp at hD; omega) hK2 rfl rfl)).mono (by omega))⟩
  case stop =>
    rintro D c pre W _ _ h _
    exact h.elim
end Go.Proofs.YtcocbjipikeebaaGreatDoor.Utf
