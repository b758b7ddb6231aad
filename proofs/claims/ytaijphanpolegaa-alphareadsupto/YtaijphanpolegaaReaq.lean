/-
  The document's Ways and Each walked; Split of no alphabet.
-/
import Derived.Test.YtaijphanpolegaaRwyq
import Derived.Test.YtaijphanpolegaaSplq
namespace Go.Proofs.Ytaijphanpolegaa.Utf
open Go Go.Lib Go.RowKit

set_option maxHeartbeats 1000000 in
theorem refWaysN_any {W : World} (L : List ByteArray) (al : Option Addr) (cl : Nat) (h40 : L.length ≤ 40) (hLs : ∀ x ∈ L, 1 ≤ x.size ∧ x.size ≤ 12) (hRL : ReadsO W al (L.map Value.string)) (s : ByteArray) (hs : s.size ≤ 16777216) :
    Calls Try.prog 21 #[.slice al L.length cl, .string s] W fun e w' => (∃ (n : Nat) (ws : List Nat), e = .returned (.int .i64 (n : Int)) ∧ ws[0]? = some n ∧ CountsTo L s 0 ws) ∧ Below W.heap.size W w' := by
  have cE := refCounts_any L al cl h40 hLs hRL s hs
  clear hRL hLs
  go_enter Try.func21, Try.ntmps21
  go_wp2_with fail
  refine cE.mono ?_
  rintro e w1 ⟨⟨g, ws, rfl, hown, hW⟩, hb1⟩
  have hl := hW.len
  obtain ⟨n, hn⟩ : ∃ n, ws[0]? = some n := ⟨_, List.getElem?_eq_getElem (by omega)⟩
  have hc : w1.cell? ⟨g, 0, none⟩ = some (.int .i64 (n : Int)) := by
    rw [hown.cellAt 0 (by omega)]
    unfold nums
    rw [List.getElem?_map, hn]
    rfl
  have HZ : Aside (ws[0]? = some n ∧ CountsTo L s 0 ws) := ⟨hn, hW⟩
  clear hown hW hn hl cE
  go_wp2
  go_ret
  exact ⟨⟨n, ws, rfl, HZ.out.1, HZ.out.2⟩, hb1⟩
set_option maxRecDepth 100000 in
set_option maxHeartbeats 1000000 in
theorem refEach_any {W : World} (L : List ByteArray) (al : Option Addr) (cl : Nat) (h40 : L.length ≤ 40) (hN : L.Nodup) (hLs : ∀ x ∈ L, 1 ≤ x.size ∧ x.size ≤ 12) (hRL : ReadsO W al (L.map Value.string)) (s : ByteArray) (hs : s.size ≤ 16777216) {rk : List Nat} (hRk : Ranked L rk) (hw : ∀ r, r < L.length → 1 ≤ wid L rk r) (most : Nat) (hmost : most ≤ 1048576) :
    Calls Try.prog 22 #[.slice al L.length cl, .string s, .int .i64 (most : Int)] W fun e w' => (∃ (v : Value) (ws : List Nat), e = .returned v ∧ WaysTo L rk s 0 ws ∧ LL W.heap.size (fun _ => True) v ((waysN L rk s ws).take most) w') ∧ Below W.heap.size W w' := by
  have cE := refCounts_any L al cl h40 hLs hRL s hs
  have HRL : Aside (∀ W', Below W.heap.size W W' → ReadsO W' al (L.map Value.string)) := fun W' hb => hRL.below hb
  clear hRL
  go_enter Try.func22, Try.ntmps22
  go_wp2_with fail
  refine cE.mono ?_
  rintro e w1 ⟨⟨g, ws, rfl, hown, hW⟩, hb1⟩
  have hWs := hb1.size
  have cR := refWays_any (WB := w1) L al cl h40 hN hLs (fun W' h => HRL.out _ (hb1.trans (h.mono hWs))) s hs hRk hw ws (hW.ways hRk) g (s.size + 1) (fun W' h p n hp => by
    have hl := hW.len
    have hlt := (List.getElem?_eq_some_iff.1 hp).1
    rw [h.cell (p := ⟨g, p, none⟩) (hown.lt g rfl).2, hown.cellAt p (by omega)]
    unfold nums
    rw [List.getElem?_map, hp]
    rfl) most hmost (s.size + 1) 0 [] (.slice none 0 0) (.slice none 0 0) [] w1 (by omega) (Nat.zero_le _) (Nat.le_refl _) (Nat.zero_le _) (Below.refl _ _) (World.ownsRow_nil _ _ _ _) (LL.nil _ _ _)
  have HW : Aside (WaysTo L rk s 0 ws) := hW.ways hRk
  have HB1 : Aside (Below W.heap.size W w1) := hb1
  clear hown hW cE hb1 HRL
  go_wp2_with fail
  refine cR.mono ?_
  rintro e w2 ⟨v', rfl, hl, he, _⟩
  obtain ⟨a3, c3, n3, hv3⟩ : ∃ a3 c3 n3, v' = .slice a3 n3 c3 := by
    obtain ⟨⟨us', hrowo, _⟩, _⟩ := hl
    obtain ⟨ao, co, hvo, _⟩ := row_reads hrowo
    exact ⟨ao, co, _, hvo⟩
  subst hv3
  have HL : Aside (LL W.heap.size (fun _ => True) (.slice a3 n3 c3) ((waysN L rk s ws).take most) w2) := by
    have e1 : upTo most [] ((waysL L rk s ws 0).map ([] ++ ·)) = (waysN L rk s ws).take most := by
      unfold upTo waysL waysN
      simp
      rfl
    rw [e1] at hl
    obtain ⟨⟨us', k1, k2⟩, k3⟩ := hl
    exact ⟨⟨us', ownsRow_base k1 hWs, k2.1, fun i hi => by obtain ⟨u, q1, q2, q3⟩ := k2.2 i hi; exact ⟨u, q1, ownsRow_base q2 hWs, q3⟩⟩, k3⟩
  have HB2 : Aside (Below W.heap.size W w2) := HB1.out.trans (he.below (fun k _ _ h => nomatch h) hWs)
  clear hl he cR
  go_wp2
  go_ret
  exact ⟨⟨_, ws, rfl, HW.out, HL.out⟩, HB2.out⟩
set_option maxRecDepth 100000 in
set_option maxHeartbeats 1000000 in
theorem split_nil (s : ByteArray) (W : World) :
    Calls Try.prog 17 #[.pointer none, .string s] W fun e w' => e = .returned (.tuple #[.slice none 0 0, .int .i64 0, .int .i64 (if s.size = 0 then 0 else 33)]) ∧ Below W.heap.size W w' := by
  go_enter Try.func17, Try.ntmps17
  go_wp2
  refine wp_scope_jumps2 0 (fun a' wq => ∃ (u9 u10 u11 u12 u13 u14 u15 u16 u17 u18 u19 u20 u21 u22 u23 u24 u25 u26 u27 u28 u29 u30 u31 u32 u33 u34 u35 u36 u37 u38 u39 u40 u41 u42 u43 u44 : Value), a' = { tmps := #[.pointer none, .string s, undef, undef, .slice none 0 0, .int .i64 0, .int .i64 0, .slice none 0 0, .int .i64 0, u9, u10, u11, u12, u13, u14, u15, u16, u17, u18, u19, u20, u21, u22, u23, u24, u25, u26, u27, u28, u29, u30, u31, u32, u33, u34, u35, u36, u37, u38, u39, u40, u41, u42, u43, u44], defers := [] } ∧ wq = W) (fun _ _ => 0) rfl ?first ?pass
  case first =>
    intro hpass
    go_wp2
    go_step3
    rename_i K hK
    refine hK _ _ ?_
    refine (hpass _ _ ⟨_, _, _, _, _, _, _, _, _, _, _, _, _, _, _, _, _, _, _, _, _, _, _, _, _, _, _, _, _, _, _, _, _, _, _, _, rfl, rfl⟩)
  case pass =>
    rintro a' wq ⟨u9, u10, u11, u12, u13, u14, u15, u16, u17, u18, u19, u20, u21, u22, u23, u24, u25, u26, u27, u28, u29, u30, u31, u32, u33, u34, u35, u36, u37, u38, u39, u40, u41, u42, u43, u44, rfl, rfl⟩
    by_cases h0 : s.size = 0
    · have heb : ((0 : Int) == (s.size : Int)) = true := by rw [beq_iff_eq]; omega
      have HV : Aside (s.size = 0) := h0
      clear h0
      go_wp2
      (try simp only [Exit.jump])
      go_ret3
      rw [if_pos HV.out]
      exact ⟨rfl, Below.refl _ _⟩
    · have heb : ((0 : Int) == (s.size : Int)) = false := by rw [beq_eq_false_iff_ne]; omega
      have HV : Aside (¬ s.size = 0) := h0
      have cT := fun t => standing_nil t wq
      have cZ := size_nil wq
      clear h0
      go_wp2_with (first
        | (go_at_call 36; refine (cT _).mono ?_; rintro e w' ⟨rfl, hw⟩; obtain rfl := hw.symm)
        | (go_at_call 14; refine cZ.mono ?_; rintro e w' ⟨rfl, hw⟩; obtain rfl := hw.symm))
      (try simp only [Exit.jump])
      go_ret3
      rw [if_neg HV.out]
      exact ⟨rfl, Below.refl _ _⟩
end Go.Proofs.Ytaijphanpolegaa.Utf
