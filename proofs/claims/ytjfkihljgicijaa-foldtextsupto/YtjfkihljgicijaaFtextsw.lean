/-
  The law on texts walked: for every text of up to 1048576 bytes it answers true.
-/
import Derived.Test.YtjfkihljgicijaaRefh
import Derived.Test.YtjfkihljgicijaaSamet
import Derived.Test.YtjfkihljgicijaaOwn
namespace Go.Proofs.Ytjfkihljgicijaa.Utf
open Go Go.Lib Go.RowKit

theorem reads_cells {W : World} {ao : Option Addr} {ts : List ByteArray} (h : ∀ j (hj : j < ts.length), ∃ g cur, ao = some ⟨g, 0, none⟩ ∧ W.heap[g]? = some (.cells cur 9) ∧ W.cell? ⟨g, j, none⟩ = some (.string ts[j])) : Reads W ao (ts.map Value.string) := fun j hj => by
  obtain ⟨g, cur, h1, h2, h3⟩ := h j (by simpa using hj)
  refine ⟨g, h1, (Array.getElem?_eq_some_iff.1 h2).1, ?_⟩
  rw [h3]; simp
theorem reads_own {W : World} {B : Nat} {v : Value} {ts : List ByteArray} (h : W.ownsRow B 9 1 v ts.length (ts.map Value.string)) : ∃ ao cap, v = .slice ao ts.length cap ∧ Reads W ao (ts.map Value.string) := by
  obtain ⟨ao, cap, hv, hc⟩ := row_cells h
  exact ⟨ao, cap, hv, reads_cells fun j hj => by obtain ⟨g, cur, a, _, b, c⟩ := hc j hj; exact ⟨g, cur, a, b, c⟩⟩

theorem row_lower {W : World} {B B' : Nat} {e : TypeId} {v : Value} {n : Nat} {xs : List Value} (h : W.ownsRow B e 1 v n xs) (hb : B' ≤ B) : W.ownsRow B' e 1 v n xs := by
  refine ⟨h.1, ?_⟩
  rcases h.2 with hn | ⟨g, cap, cur, hv, hbg, rest⟩
  · exact .inl hn
  · exact .inr ⟨g, cap, cur, hv, by omega, rest⟩

set_option maxHeartbeats 4000000 in
theorem foldTexts_walk (s : ByteArray) (w : World) (hs : s.size ≤ 1048576) :
    Calls Try.prog 4 #[.string s] w fun e w' => e = .returned (.bool true) ∧ Below w.heap.size w w' := by
  obtain ⟨i0, hi, hz0, hz1, hz2⟩ := info_parts infoStr
  have cA := awake2_any w
  have hwl := words_len s
  have cW := fun w => words_any s w (by omega)
  have cV := fun w => refWords_any s w (by omega)
  have cT := fun w => fold_any s true w (by omega)
  have cF := fun w => fold_any s false w (by omega)
  have dT := fun w => refFold_any s true w (by omega)
  have dF := fun w => refFold_any s false w (by omega)
  have cI := fun w => initials_any s w hs
  have dI := fun w => refInitials_any s w hs
  rw [← wordsT_len] at cW cV hwl
  generalize wordsT s = ts at *
  generalize foldS true s = FT at *
  generalize foldS false s = FF at *
  generalize (⟨(inis ts).toArray⟩ : ByteArray) = I at *
  have cS := fun a1 a2 c1 c2 w => sameTexts_eq ts a1 a2 c1 c2 w (by omega)
  go_enter Try.func4, Try.ntmps4
  go_wp2_with fail
  refine cA.mono ?_
  rintro e w1 ⟨rfl, hb1⟩
  go_wp2_with fail
  refine (cW _).mono ?_
  rintro e w2 ⟨v, rfl, hown2, hb2⟩
  have hb12 := hb1.trans (hb2.mono hb1.size)
  obtain ⟨ao, cap, rfl, hr2⟩ := reads_own hown2
  go_wp2_with fail
  refine (cT _).mono ?_
  rintro e w3 ⟨rfl, hb3⟩
  go_wp2_with fail
  refine (dT _).mono ?_
  rintro e w4 ⟨rfl, hb4⟩
  go_wp2_with fail
  refine (cF _).mono ?_
  rintro e w5 ⟨rfl, hb5⟩
  go_wp2_with fail
  refine (dF _).mono ?_
  rintro e w6 ⟨rfl, hb6⟩
  go_wp2_with fail
  refine (cV _).mono ?_
  rintro e w7 ⟨v, rfl, hown7, hb7⟩
  obtain ⟨ao7, cap7, rfl, hr7⟩ := reads_own hown7
  have hb24 := hb3.trans (hb4.mono hb3.size)
  have hb25 := hb24.trans (hb5.mono hb24.size)
  have hb26 := hb25.trans (hb6.mono hb25.size)
  have hb27 := hb26.trans (hb7.mono hb26.size)
  clear hb3 hb4 hb5 hb6 hb7 hb24 hb25 hb26
  go_wp2_with fail
  refine (cS _ _ _ _ _ (hr2.below hb27) hr7).mono ?_
  rintro e w8 ⟨rfl, hb8⟩
  have hb28 := hb27.trans (hb8.mono hb27.size)
  have hown8 := ownsRow_below hown2 hb28
  have hb18 := hb12.trans (hb28.mono hb12.size)
  clear hown7 hr7 hown2 hr2 hb27 hb8 hb12 hb2
  go_wp2_with fail
  generalize hk : ts.length = k at *
  go_loopw [30] (fun iv wr => ∃ i : Nat, iv = .int .i64 (i : Int) ∧ i ≤ k ∧ (∃ ys, wr.ownsRow (w1.heap.size + 1) 9 1 (.slice ao k cap) k ys) ∧ Below w.heap.size w wr) (fun iv _ => k - (RowKit.intOf iv).toNat)
  case atStart => exact ⟨0, rfl, Nat.zero_le _, ⟨_, hown8⟩, hb18⟩
  case round =>
    obtain ⟨i, rfl, hik, ⟨ys, og⟩, hB⟩ := hrel
    by_cases hlt : i < k
    · obtain ⟨g, rfl, hgl⟩ : ∃ g, ao = some ⟨g, 0, none⟩ ∧ w1.heap.size + 1 ≤ g := by
        rcases og.2 with ⟨hv, h0⟩ | ⟨g, cap, cur, hv, hb, _⟩
        · omega
        · injection hv with hv _ _
          exact ⟨g, hv, hb⟩
      have hyl : ys.length = k := by have := og.1; omega
      have hcg : wr.cell? ⟨g, i, none⟩ = some (ys[i]'(by omega)) := by
        rw [og.cellAt i (by omega)]; exact List.getElem?_eq_getElem (by omega)
      have hfg := og.frozenAt i
      obtain ⟨st1, st2⟩ := og.stored i (.string ⟨#[42]⟩)
      have hB2 : Below w.heap.size w (wr.setCell ⟨g, i, none⟩ (.string ⟨#[42]⟩)) := hB.setCell (p := ⟨g, i, none⟩) (by have := hb1.size; show w.heap.size ≤ g; omega) _
      clear og st2 hB hown8 cW cV cT cF dT dF cI dI cS hb18
      have hiI : (i : Int) < (k : Int) := by omega
      go_wp2
      go_roundw
      case rel => exact ⟨i + 1, by simp, by omega, ⟨_, st1⟩, hB2⟩
      case measure => simp [RowKit.intOf]; omega
    · have og0 : wr.ownsRow w.heap.size 9 1 (.slice ao k cap) k ys := row_lower og (by have := hb1.size; omega)
      clear hown8 hb18 hb28
      have hBz := hB.size
      have hbz1 := hb1.size
      go_wp2_with (at_builtin; refine wpList_append_own _ rfl _ _ 27 rfl w.heap.size 9 i0 (.string ⟨#[]⟩) 1 16 Try.underlying27 hi hz0 hz1 hz2 rfl (by decide) _ _ _ rfl (og0.alloc _) ⟨wr.heap.size, 0, none⟩ 1 1 [.string ⟨#[42]⟩] rfl rfl (cell_one_new _ _ _) (by simp [Value.oneCell']) (by unfold maxLen; omega) (by omega) (by simp; omega) ?_)
      intro v' wa hown' hgrow _
      have hBa : Below w.heap.size w wa := Below.grown (hB.alloc (by omega) _) hgrow (by simp; omega) (fun j hj => (og0.lt _ hj).1)
      obtain ⟨g', cap', rfl⟩ := ownsRow_succ hown'
      clear hown' hgrow og0 hB og
      go_wp2_with fail
      refine (cW _).mono ?_
      rintro e wb ⟨v, rfl, hownb, hbb⟩
      obtain ⟨aob, capb, rfl⟩ := ownsRow_slice hownb
      have hBb := hBa.trans (hbb.mono hBa.size)
      clear hownb
      go_wp2_with fail
      refine (cW _).mono ?_
      rintro e wc ⟨v, rfl, hownc, hbc⟩
      rw [← hk] at hownc
      obtain ⟨aoc, capc, rfl, hrc⟩ := reads_own hownc
      rw [hk]
      have hBc := hBb.trans (hbc.mono hBb.size)
      clear hownc
      go_wp2_with fail
      refine (cV _).mono ?_
      rintro e wd ⟨v, rfl, hownd, hbd⟩
      rw [← hk] at hownd
      obtain ⟨aod, capd, rfl, hrd⟩ := reads_own hownd
      rw [hk]
      have hBd := hBc.trans (hbd.mono hBc.size)
      clear hownd
      go_wp2_with fail
      refine (cS _ _ _ _ _ (hrc.below hbd) hrd).mono ?_
      rintro e we ⟨rfl, hbe⟩
      have hBe := hBd.trans (hbe.mono hBd.size)
      clear hrc hrd
      go_wp2_with fail
      refine (cI _).mono ?_
      rintro e wf ⟨rfl, hbf⟩
      have hBf := hBe.trans (hbf.mono hBe.size)
      go_wp2_with fail
      refine (dI _).mono ?_
      rintro e wg ⟨rfl, hbg⟩
      have hBg := hBf.trans (hbg.mono hBf.size)
      go_wp2
      go_ret
      exact ⟨rfl, hBg⟩
end Go.Proofs.Ytjfkihljgicijaa.Utf
