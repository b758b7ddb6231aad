/-
  The program's Read: every line taken in, or refused.
-/
import Derived.Test.YtcocbjipikeebaaGreatDoorGxl
import Derived.Test.YtcocbjipikeebaaGreatDoorGxc
import Derived.Test.YtcocbjipikeebaaGreatDoorGli
namespace Go.Proofs.YtcocbjipikeebaaGreatDoor.Utf
open Go Go.Lib Go.RowKit

theorem trim_le (l : List UInt8) : (Lib.trimSuffix l [13]).length ≤ l.length := by
  unfold Lib.trimSuffix
  split
  · rw [List.length_take]; omega
  · exact Nat.le_refl _
theorem linesL_each : ∀ (f : Nat) (l x : List UInt8), x ∈ linesL f l → x.length ≤ l.length
  | 0, l, x, h => by simp [linesL] at h
  | f + 1, l, x, h => by
    by_cases hn : l = []
    · subst hn; rw [linesL_nil] at h; cases h
    · rcases index_cases l with h3 | ⟨i, hi, hl⟩
      · rw [linesL_last hn h3, List.mem_singleton] at h
        rw [h]; exact Nat.le_refl _
      · rw [linesL_step hn hi] at h
        rcases List.mem_cons.1 h with h | h
        · rw [h]; refine Nat.le_trans (trim_le _) ?_; rw [List.length_take]; omega
        · refine Nat.le_trans (linesL_each f _ x h) ?_; rw [List.length_drop]; omega
/-- Lines from number i on: the words, and what was refused. -/
noncomputable def rdL (L : List ByteArray) : List ByteArray → Nat → List (List Int × Int) → List (Int × Int) → List (List Int × Int) × List (Int × Int)
  | [], _, l, bad => (l, bad)
  | x :: xs, i, l, bad => if sayN (pairs x) = true then rdL L xs (i + 1) l bad else if (readL L x l).1 = 0 then rdL L xs (i + 1) (readL L x l).2 bad else rdL L xs (i + 1) (readL L x l).2 (bad ++ [((i : Int), (readL L x l).1)])
/-- What a text says. -/
noncomputable def readT (L : List ByteArray) (s : ByteArray) : List (List Int × Int) × List (Int × Int) := rdL L (txts (lines s.data.toList)) 0 [] []
def badC (bad : List (Int × Int)) : List Value := bad.flatMap fun x => [.int .i64 x.1, .int .i64 x.2]
theorem badC_snoc (bad : List (Int × Int)) (x : Int × Int) : badC (bad ++ [x]) = badC bad ++ [.int .i64 x.1, .int .i64 x.2] := by simp [badC]
theorem readL_keeps {L : List ByteArray} {line : ByteArray} {l : List (List Int × Int)} (h : okE L l) (hs : SortL l) (hl : l.length ≤ 1000) : okE L (readL L line l).2 ∧ SortL (readL L line l).2 ∧ (readL L line l).2.length ≤ 1000 := by
  unfold readL
  by_cases h1 : foldS false (cutS line).1 = ⟨#[]⟩
  · rw [if_pos h1]; exact ⟨h, hs, hl⟩
  · rw [if_neg h1]
    by_cases h2 : (scoreP (cutS line).2).2 = false
    · rw [if_pos h2]; exact ⟨h, hs, hl⟩
    · rw [if_neg h2]
      have hsc := score_le (cutS line).2 (by simpa using h2)
      by_cases h3 : (splitS L (foldS false (cutS line).1)).2.2 ≠ 0
      · rw [if_pos h3]; exact ⟨h, hs, hl⟩
      · rw [if_neg h3]
        obtain ⟨hjo, hok, h32⟩ := splb_back (Classical.not_not.1 h3)
        have hne : 1 ≤ (wordOf L (foldS false (cutS line).1)).length := by
          rcases Nat.eq_zero_or_pos (wordOf L (foldS false (cutS line).1)).length with e | e
          · exfalso
            have := List.eq_nil_of_length_eq_zero e
            unfold wordOf at this
            rw [this] at hjo
            exact h1 (by rw [← hjo]; rfl)
          · exact e
        by_cases h4 : lookL l (wordOf L (foldS false (cutS line).1)) = none ∧ l.length = 1000
        · rw [if_pos h4]; exact ⟨h, hs, hl⟩
        · rw [if_neg h4]
          refine ⟨fun x hx => ?_, putL_sort hs _ _, ?_⟩
          · have hv := (lookL_mem (putL_sort hs _ _) (c := x.1) (s := x.2)).2 hx
            rw [lookL_put hs] at hv
            by_cases e : x.1 = wordOf L (foldS false (cutS line).1)
            · rw [if_pos e] at hv
              injection hv with hv
              have hb : 0 ≤ x.2 ∧ x.2 ≤ 100 := by
                cases ek : lookL l (wordOf L (foldS false (cutS line).1)) with
                | none => rw [ek] at hv; simp only at hv; omega
                | some t =>
                  rw [ek] at hv
                  simp only at hv
                  have := (h _ ((lookL_mem hs).1 ek)).2.2
                  simp only at this
                  omega
              rw [e]
              exact ⟨by unfold wordOf; rw [List.length_map]; exact h32, hok, hb.1, hb.2, hne⟩
            · rw [if_neg e] at hv
              exact h _ ((lookL_mem hs).1 hv)
          · rw [putL_len hs]
            cases ek : lookL l (wordOf L (foldS false (cutS line).1)) with
            | none => rw [ek] at h4; have : l.length ≠ 1000 := fun e => h4 ⟨rfl, e⟩; simp; omega
            | some t => simp; exact hl
theorem rdL_ok (L : List ByteArray) : ∀ (xs : List ByteArray) (i : Nat) (l : List (List Int × Int)) (bad : List (Int × Int)), okE L l → SortL l → l.length ≤ 1000 → okE L (rdL L xs i l bad).1 ∧ SortL (rdL L xs i l bad).1 ∧ (rdL L xs i l bad).1.length ≤ 1000
  | [], _, _, _, h1, h2, h3 => ⟨h1, h2, h3⟩
  | x :: xs, i, l, bad, h1, h2, h3 => by
    rw [rdL]
    by_cases hN : sayN (pairs x) = true
    · rw [if_pos hN]; exact rdL_ok L xs _ _ _ h1 h2 h3
    · rw [if_neg hN]
      obtain ⟨k1, k2, k3⟩ := readL_keeps (line := x) h1 h2 h3
      by_cases h0 : (readL L x l).1 = 0
      · rw [if_pos h0]; exact rdL_ok L xs _ _ _ k1 k2 k3
      · rw [if_neg h0]; exact rdL_ok L xs _ _ _ k1 k2 k3
theorem readT_ok (L : List ByteArray) (s : ByteArray) : okE L (readT L s).1 ∧ SortL (readT L s).1 ∧ (readT L s).1.length ≤ 1000 := rdL_ok L _ 0 [] [] (fun _ h => (by cases h)) List.Pairwise.nil (Nat.zero_le _)
theorem IsLex.base {W : World} {b b' xb : Nat} {L : List ByteArray} {l : List (List Int × Int)} (h : IsLex W b xb L l) (hb : b' ≤ b) : IsLex W b' xb L l := by
  obtain ⟨⟨wo, cap, h1, h2⟩, h3⟩ := h
  refine ⟨⟨wo, cap, h1, fun i hi => ?_⟩, Nat.le_trans hb h3⟩
  obtain ⟨g, ao, cp, e1, e2, e3, e4, e5, e6⟩ := h2 i hi
  exact ⟨g, ao, cp, e1, ⟨Nat.le_trans hb e2.1, e2.2⟩, e3, ⟨e4.1, fun b o e => Nat.le_trans hb (e4.2 b o e)⟩, e5, e6⟩
theorem row_low {W : World} {B B' n z : Nat} {e : TypeId} {v : Value} {xs : List Value} (h : W.ownsRow B e z v n xs) (hb : B' ≤ B) : W.ownsRow B' e z v n xs := by
  rcases h with ⟨h1, h2 | ⟨g, cap, cur, e1, e2, e3⟩⟩
  · exact ⟨h1, .inl h2⟩
  · exact ⟨h1, .inr ⟨g, cap, cur, e1, Nat.le_trans hb e2, e3⟩⟩
theorem infoRef : (Tryz.prog.info? 84).map (fun i => (i.zero, i.size, i.bytes)) = some (some (.agg #[.int .i64 0, .int .i64 0]), 2, 16) := by kernel_rfl
theorem cells2_new (w : World) (x y : Value) (t : TypeId) : ∀ j u, [x, y][j]? = some u → (w.alloc (.cells #[x, y] t)).cell? ((⟨w.heap.size, 0, none⟩ : Addr).add j) = some u := by
  intro j u h
  have : (w.alloc (.cells #[x, y] t)).cell? ⟨w.heap.size, j, none⟩ = some u := box_at w _ t j (by simpa using h)
  rw [Addr.add_lit]
  simpa using this

set_option maxRecDepth 100000 in
set_option maxHeartbeats 4000000 in
theorem lread_any {W : World} {b : Nat} {L : List ByteArray} {rk : List Nat} (hA : IsAlpha W b L rk) (hRk : Ranked L rk) (hNd : L.Nodup) (hLs : ∀ x ∈ L, 1 ≤ x.size ∧ x.size ≤ 12) (s : ByteArray) (hs : s.size ≤ 65536) :
    Calls Tryz.prog 18 #[.pointer (some ⟨b, 0, none⟩), .string s] W fun e w' => (∃ xb v, e = .returned (.tuple #[.pointer (some ⟨xb, 0, none⟩), v, .int .i64 0]) ∧ IsLex w' W.heap.size xb L (readT L s).1 ∧ w'.ownsRow W.heap.size 84 2 v (readT L s).2.length (badC (readT L s).2)) ∧ Below W.heap.size W w' := by
  obtain ⟨i0, hi0, hz0, hz1, hz2⟩ := info_parts infoRef
  have HA : Aside (∀ w, Below W.heap.size W w → IsAlpha w b L rk) := fun w hb => hA.below hb
  have hmm := @run_makeMap Tryz.prog
  have hown := World.ownsMap_made W Tryz.prog 9 (plainElem (H := Unit) Tryz.prog 3)
  have cL := lines_any s (W.alloc (.map #[] 0)) (by omega)
  have hnl := lines_len s.data.toList
  have hsz : s.data.toList.length = s.size := (Lib.size_eq s).symm
  have hea : ∀ x ∈ txts (lines s.data.toList), x.size ≤ 65536 := fun x hx => by
    obtain ⟨y, hy, rfl⟩ := List.mem_map.1 hx
    have := linesL_each _ _ _ hy
    rw [txt_size]
    omega
  have HT : Aside (readT L s = rdL L (txts (lines s.data.toList)) 0 [] []) := rfl
  have htl := txts_length (lines s.data.toList)
  generalize readT L s = R at *
  generalize txts (lines s.data.toList) = T at *
  rw [← htl] at cL hnl
  clear hA htl
  have hbig : ¬ (65536 : Int) < (s.size : Int) := by omega
  go_enter Tryz.func18, Tryz.ntmps18
  go_wp2_with fail
  refine cL.mono ?_
  rintro e wl ⟨vl, rfl, hownl, hbl⟩
  obtain ⟨al, cpl, rfl, hrl⟩ := row_reads hownl
  clear cL
  have hslt : W.heap.size < wl.heap.size := by have := hbl.size; simp at this; omega
  have hWl : Below W.heap.size W wl := (below_box' W _).trans (hbl.mono (by simp))
  have HA2 : Aside (∀ w, wl.grownBy w (some W.heap.size) → IsAlpha w b L rk ∧ Below W.heap.size W w) := fun w hg => by
    have := hWl.grown hg (Nat.le_of_lt hslt) (fun k e => by injection e with e; omega)
    exact ⟨HA.out w this, this⟩
  have HLN : Aside (∀ w k (hk : k < T.length), wl.grownBy w (some W.heap.size) → ∃ gl, al = some ⟨gl, 0, none⟩ ∧ w.cell? ⟨gl, k, none⟩ = some (.string T[k])) := fun w k hk hg => by
    obtain ⟨gl, e1, hgl, el⟩ := hrl k (by rw [List.length_map]; exact hk)
    subst e1
    have hlow := (hownl.lt gl rfl).1
    simp at hlow
    rw [List.getElem_map] at el
    exact ⟨gl, rfl, (World.cell?_of_block (a := ⟨gl, k, none⟩) (hg.block gl hgl (fun e => by injection e with e; omega))).trans el⟩
  have HS0 : Aside (ScW wl W.heap.size 0 []) := by
    have : ScW (W.alloc (.map #[] 0)) W.heap.size 0 [] := ⟨_, ScD.empty, hown⟩
    exact this.grown hbl
  clear hown hbl hownl hrl HA hmm
  go_wp2
  go_loopg [19, 8] T.length (fun g1 vi v wr => ∃ (k : Nat) (l : List (List Int × Int)) (bad : List (Int × Int)), vi = .int .i64 (k : Int) ∧ k ≤ T.length ∧ T.length - k ≤ g1 ∧ Aside (ScW wr W.heap.size k l) ∧ Aside (okE L l ∧ SortL l ∧ l.length ≤ 1000) ∧ wr.ownsRow wl.heap.size 84 2 v bad.length (badC bad) ∧ bad.length ≤ k ∧ Aside (wl.grownBy wr (some W.heap.size)) ∧ Aside (R = rdL L (T.drop k) k l bad))
  case atStart => exact ⟨0, [], [], rfl, Nat.zero_le _, Nat.le_refl _, HS0, ⟨fun _ h => (by cases h), List.Pairwise.nil, Nat.zero_le _⟩, World.ownsRow_nil _ _ _ _, Nat.le_refl _, World.grownBy.refl _ _, HT⟩
  case round =>
    obtain ⟨k, l, bad, rfl, hk, hg1, HS, HK, hrow, hbk, HG, HR⟩ := hrel
    by_cases hlt : k < T.length
    · have hltz : (k : Int) < (T.length : Int) := by omega
      obtain ⟨gl, rfl, el⟩ := HLN.out wr k hlt HG.out
      have hx := hea T[k] (List.getElem_mem hlt)
      have HRx : Aside (R = rdL L (T[k] :: T.drop (k + 1)) k l bad) := by
        show _ = _
        rw [← List.drop_eq_getElem_cons hlt]
        exact HR.out
      clear HR
      generalize T[k] = x at *
      have cN := saysNothing_any x wr
      go_wp2_with fail
      refine cN.mono ?_
      rintro e w2 ⟨rfl, hb2⟩
      clear cN
      have HG2 : Aside (wl.grownBy w2 (some W.heap.size)) := HG.out.trans (below_but hb2 _)
      have HS2 := HS.out.grown hb2
      have hrow2 := row_turn hrow (below_but hb2 none) (fun _ _ _ => by simp)
      by_cases hN : sayN (pairs x) = true
      · have HR2 : Aside (R = rdL L (T.drop (k + 1)) (k + 1) l bad) := by
          show _ = _
          rw [HRx.out, rdL, if_pos hN]
        rw [hN]
        have HS3 := HS2.more
        clear el HRx hrow
        go_wp2
        go_roundg (T.length - (k + 1))
        case measure => omega
        case rel => exact ⟨k + 1, l, bad, by go_num, by omega, Nat.le_refl _, HS3, HK, hrow2, by omega, HG2, HR2⟩
      · have cR := read_any (HA2.out w2 HG2.out).1 hRk hNd hLs W.heap.size k l HS2 (by omega) x hx
        have HK2 : Aside (okE L (readL L x l).2 ∧ SortL (readL L x l).2 ∧ (readL L x l).2.length ≤ 1000) := readL_keeps HK.out.1 HK.out.2.1 HK.out.2.2
        have HR2 : Aside (R = if (readL L x l).1 = 0 then rdL L (T.drop (k + 1)) (k + 1) (readL L x l).2 bad else rdL L (T.drop (k + 1)) (k + 1) (readL L x l).2 (bad ++ [((k : Int), (readL L x l).1)])) := by
          show _ = _
          rw [HRx.out, rdL, if_neg hN]
        rw [Bool.not_eq_true] at hN
        rw [hN]
        clear el HRx hrow
        generalize readL L x l = r at *
        obtain ⟨r1, r2⟩ := r
        simp only at cR HK2 HR2
        go_wp2_with fail
        refine cR.mono ?_
        clear cR
        rintro e w3 ⟨rfl, hS3, hg3⟩
        have HG3 : Aside (wl.grownBy w3 (some W.heap.size)) := HG2.out.trans hg3
        have hrow3 := row_turn hrow2 hg3 (fun b hb _ e => by injection e with e; omega)
        clear hrow2 HS2 hg3
        by_cases h0 : r1 = 0
        · rw [h0]
          rw [if_pos h0] at HR2
          go_wp2
          go_roundg (T.length - (k + 1))
          case measure => omega
          case rel => exact ⟨k + 1, r2, bad, by go_num, by omega, Nat.le_refl _, hS3, HK2, hrow3, by omega, HG3, HR2⟩
        · have hne : (r1 != 0) = true := by rw [bne_iff_ne]; exact h0
          rw [if_neg h0] at HR2
          have hs3 := HG3.out.size
          clear h0
          go_wp2_with (at_builtin; refine wpList_append_own_at _ rfl _ _ 49 rfl wl.heap.size 84 i0 (.agg #[.int .i64 0, .int .i64 0]) 2 16 Tryz.underlying49 hi0 hz0 hz1 hz2 rfl (by decide) _ _ _ rfl (hrow3.alloc _) ⟨w3.heap.size, 0, none⟩ 1 1 [.int .i64 (k : Int), .int .i64 r1] rfl rfl (cells2_new _ _ _ _) (by simp [Value.oneCell']) (by unfold maxLen; omega) (by omega) (by rw [World.size_alloc]; omega) ?_)
          intro v' w4 hown' hgrow _ _
          have HG4 : Aside (wl.grownBy w4 (some W.heap.size)) := (HG3.out.trans (World.grownBy_alloc _ _ _)).andThen hgrow (fun j e => .inl (hrow3.lt j e).1)
          have HS4 : Aside (ScW w4 W.heap.size (k + 1) r2) := by
            obtain ⟨D, hD, ho⟩ := hS3
            exact ⟨D, hD, (ho.alloc _).kept hgrow (fun e => by have := (hrow3.lt _ e.symm).1; omega)⟩
          have hown2 : w4.ownsRow wl.heap.size 84 2 v' (bad ++ [((k : Int), r1)]).length (badC (bad ++ [((k : Int), r1)])) := by
            rw [badC_snoc, List.length_append]
            exact hown'
          clear hown' hgrow hrow3 hS3
          go_wp2
          go_roundg (T.length - (k + 1))
          case measure => omega
          case rel => exact ⟨k + 1, r2, _, by go_num, by omega, Nat.le_refl _, HS4, HK2, hown2, by rw [List.length_append]; simp; omega, HG4, HR2⟩
    · have hltz : ¬ (k : Int) < (T.length : Int) := by omega
      have HR2 : Aside (R = (l, bad)) := by
        show _ = _
        rw [HR.out, List.drop_eq_nil_of_le (by omega), rdL]
      have hal := HA2.out wr HG.out
      have cX := lexi_any hal.1 (fun x hx => (hLs x hx).2) W.heap.size k l HS.out HK.out.1 HK.out.2.2
      clear HR
      go_wp2_with fail
      refine cX.mono ?_
      clear cX
      rintro e w2 ⟨rfl, hX, hb2⟩
      have hrow2 := row_turn hrow (below_but hb2 none) (fun _ _ _ => by simp)
      have hws := hal.2.size
      have hfin : Below W.heap.size W w2 := hal.2.trans (hb2.mono hws)
      have hX2 := hX.base hws
      have hrow4 := row_low hrow2 (Nat.le_of_lt hslt)
      clear hX hrow hrow2
      go_wp2
      go_ret3
      rw [HR2.out]
      exact ⟨⟨_, _, rfl, hX2, hrow4⟩, hfin⟩
end Go.Proofs.YtcocbjipikeebaaGreatDoor.Utf
/-
  The program's Len, first, Span, Letters, Word, Text.
-/
namespace Go.Proofs.YtcocbjipikeebaaGreatDoor.Utf
open Go Go.Lib Go.RowKit

theorem IsLex.below {W W' : World} {base xb : Nat} {L : List ByteArray} {l : List (List Int × Int)} (h : IsLex W base xb L l) (hb : Below W.heap.size W W') : IsLex W' base xb L l := by
  obtain ⟨⟨wo, cap, h1, h2⟩, h3⟩ := h
  refine ⟨⟨wo, cap, (hb.block xb (Array.getElem?_eq_some_iff.1 h1).1).trans h1, fun i hi => ?_⟩, h3⟩
  obtain ⟨g, ao, cp, e1, e2, e3, e4, e5, e6⟩ := h2 i hi
  exact ⟨g, ao, cp, e1, ⟨e2.1, Nat.lt_of_lt_of_le e2.2 hb.size⟩, (hb.cell (p := ⟨g, _, none⟩) e2.2).trans e3, ⟨e4.1.below hb, e4.2⟩, (hb.cell (p := ⟨g, _, none⟩) e2.2).trans e5, (hb.cell (p := ⟨g, _, none⟩) e2.2).trans e6⟩
theorem len_any {W : World} {base xb : Nat} {L : List ByteArray} {l : List (List Int × Int)} (h : IsLex W base xb L l) :
    Calls Tryz.prog 20 #[.pointer (some ⟨xb, 0, none⟩)] W fun e w' => e = .returned (.int .i64 (l.length : Nat)) ∧ w' = W := by
  obtain ⟨⟨wo, cap, h1, h2⟩, h3⟩ := h
  have cx : W.cell? ⟨xb, 0, none⟩ = some (.slice wo l.length cap) := (show Boxed W xb 91 _ from h1).cell
  clear h1 h2 h3
  generalize l.length = n at *
  go_enter Tryz.func20, Tryz.ntmps20
  go_wp2
  go_ret
  exact ⟨rfl, rfl⟩
theorem len_nil (W : World) : Calls Tryz.prog 20 #[.pointer none] W fun e w' => e = .returned (.int .i64 0) ∧ w' = W := by
  go_enter Tryz.func20, Tryz.ntmps20
  go_wp2
  go_ret
  exact ⟨rfl, rfl⟩

set_option maxRecDepth 10000 in
set_option maxHeartbeats 2000000 in
theorem first_any {W : World} {base xb : Nat} {L : List ByteArray} {l : List (List Int × Int)} (h : IsLex W base xb L l) (hl : l.length ≤ 1000) (P : List Int → Bool) (g : Nat) (cb : Array Value)
    (eg : ∀ args w, (callFunc g args).run Tryz.prog w = .ok (.enter g args) w)
    (hc : ∀ (x : List Int × Int) (ao : Option Addr) (cp : Nat) (w : World), x ∈ l → Below W.heap.size W w → ReadsO w ao (ints x.1) → Calls Tryz.prog g (#[.slice ao x.1.length cp] ++ cb) w fun e w' => e = .returned (.bool (P x.1)) ∧ Below w.heap.size w w')
    (hm : ∀ i j (hi : i < l.length) (hj : j < l.length), i ≤ j → P l[i].1 = true → P l[j].1 = true) :
    Calls Tryz.prog 67 #[.pointer (some ⟨xb, 0, none⟩), .func (.func g) #[] cb] W fun e w' => (∃ r : Nat, e = .returned (.int .i64 (r : Nat)) ∧ r ≤ l.length ∧ ∀ i (hi : i < l.length), (P l[i].1 = true ↔ r ≤ i)) ∧ Below W.heap.size W w' := by
  have HX : Aside (∀ w, Below W.heap.size W w → IsLex w base xb L l) := fun w hb => h.below hb
  have cL := len_any h
  have HC : Aside (∀ (x : List Int × Int) (ao : Option Addr) (cp : Nat) (w : World), x ∈ l → Below W.heap.size W w → ReadsO w ao (ints x.1) → Calls Tryz.prog g (#[.slice ao x.1.length cp] ++ cb) w fun e w' => e = .returned (.bool (P x.1)) ∧ Below w.heap.size w w') := hc
  have HM : Aside (∀ i j (hi : i < l.length) (hj : j < l.length), i ≤ j → P l[i].1 = true → P l[j].1 = true) := hm
  clear h hc hm
  go_enter Tryz.func67, Tryz.ntmps67
  go_wp2_with fail
  refine cL.mono ?_
  rintro e w1 ⟨rfl, hw⟩
  obtain rfl := hw.symm
  clear cL hw
  go_wp2
  go_loopg [5, 6] l.length (fun g1 v5 v6 wr => ∃ lo hi : Nat, v5 = .int .i64 (lo : Int) ∧ v6 = .int .i64 (hi : Int) ∧ lo ≤ hi ∧ hi ≤ l.length ∧ hi - lo ≤ g1 ∧ Aside (∀ i (h : i < l.length), (i < lo → P l[i].1 = false) ∧ (hi ≤ i → P l[i].1 = true)) ∧ Aside (Below W.heap.size W wr))
  case atStart => exact ⟨0, l.length, rfl, rfl, Nat.zero_le _, Nat.le_refl _, Nat.le_refl _, fun i h => ⟨fun h => by omega, fun h2 => by omega⟩, Below.refl _ _⟩
  case round =>
    obtain ⟨lo, hi, rfl, rfl, hlh, hhl, hg1, HI, HB⟩ := hrel
    by_cases hlt : lo < hi
    · have hltz : (lo : Int) < (hi : Int) := by omega
      obtain ⟨m, hmd⟩ : ∃ m, m = (lo + hi) / 2 := ⟨_, rfl⟩
      have hml : m < l.length := by omega
      have hmz : ((lo : Int) + (hi : Int)).tdiv 2 = (m : Int) := by rw [Int.tdiv_eq_ediv_of_nonneg (by omega), hmd]; omega
      have hmll : (m : Int) < (l.length : Int) := by omega
      obtain ⟨⟨wo, cap, h1, h2⟩, _⟩ := HX.out wr HB.out
      obtain ⟨gb, ao, cp, rfl, e2, e3, e4, _, _⟩ := h2 m hml
      have cx : wr.cell? ⟨xb, 0, none⟩ = some (.slice (some ⟨gb, 0, none⟩) l.length cap) := (show Boxed wr xb 91 _ from h1).cell
      have cC := HC.out l[m] ao cp wr (List.getElem_mem hml) HB.out e4.1
      have HMM : Aside (P l[m].1 = true → ∀ i (hi : i < l.length), m ≤ i → P l[i].1 = true) := fun hp i hi hmi => HM.out m i hml hi hmi hp
      have HMF : Aside (P l[m].1 = false → ∀ i (hi : i < l.length), i ≤ m → P l[i].1 = false) := fun hp i hi him => by
        cases e : P l[i].1 with
        | false => rfl
        | true => have := HM.out i m hi hml him e; rw [hp] at this; cases this
      rw [Nat.add_zero] at e3
      have HQ : Aside (lo ≤ m ∧ m < hi ∧ (m : Int) = ((lo : Int) + (hi : Int)) / 2) := ⟨by omega, by omega, by omega⟩
      clear h1 h2 e2 e4 hmz hmll
      generalize hq : P l[m].1 = q at *
      clear hq
      generalize l[m].1.length = N at *
      subst hmd
      go_wp2_with fail
      refine cC.mono ?_
      clear cC
      rintro e w2 ⟨rfl, hb2⟩
      have HB2 : Aside (Below W.heap.size W w2) := HB.out.trans (hb2.mono HB.out.size)
      cases q with
      | true =>
        go_wp2
        go_roundg ((lo + hi) / 2 - lo)
        case measure => omega
        case rel => exact ⟨lo, (lo + hi) / 2, rfl, by first | rfl | go_num | (simp; done) | omega, by omega, by omega, Nat.le_refl _, fun i h => ⟨(HI.out i h).1, fun hm => HMM.out (by first | trivial | rfl) i h hm⟩, HB2⟩
      | false =>
        go_wp2
        go_roundg (hi - ((lo + hi) / 2 + 1))
        case measure => omega
        case rel => exact ⟨(lo + hi) / 2 + 1, hi, by go_num, rfl, by omega, by omega, Nat.le_refl _, fun i h => ⟨fun hm => HMF.out (by first | trivial | rfl) i h (by omega), (HI.out i h).2⟩, HB2⟩
    · have hltz : ¬ (lo : Int) < (hi : Int) := by omega
      obtain rfl : lo = hi := by omega
      go_wp2
      go_ret
      refine ⟨⟨lo, rfl, hhl, fun i h => ?_⟩, HB.out⟩
      constructor
      · intro hp
        rcases Nat.lt_or_ge i lo with h1 | h1
        · have := (HI.out i h).1 h1; rw [hp] at this; cases this
        · exact h1
      · exact (HI.out i h).2
end Go.Proofs.YtcocbjipikeebaaGreatDoor.Utf
