/-
  The document's Initials walked: the first letters of the words, for every text of up to 1048576 bytes.
-/
import Derived.Test.YtjfkihljgicijaaIni
import Derived.Test.YtjfkihljgicijaaRefg
import Derived.Test.YtjfkihljgicijaaReff
namespace Go.Proofs.Ytjfkihljgicijaa.Utf
open Go Go.Lib Go.RowKit Go.Shelf

theorem ini_packr (T : ByteArray) (hT : T.size ≤ 1048576) : ∃ F X : ByteArray, X.size ≤ 8388608 ∧ ini T = X ∧ (∀ w, Calls Try.prog 17 #[.string T, .bool true] w fun e W' => e = .returned (.string F) ∧ Below w.heap.size w W') ∧
    (∀ w, Calls Try.prog 35 #[.string F, .int .i64 1] w fun e w' => e = .returned (.string X) ∧ Below w.heap.size w w') := by
  have hz := foldS_size true T
  refine ⟨foldS true T, ini T, ?_, rfl, fun w => refFold_any T true w (by omega), fun w => ?_⟩
  · have := ini_size T
    omega
  · have c := refCut_any (foldS true T) 1 w (by omega) (by omega) (by omega)
    rw [ini_def] at c
    exact c

set_option maxHeartbeats 2000000 in
theorem refInitials_any (s : ByteArray) (w : World) (hs : s.size ≤ 1048576) :
    Calls Try.prog 21 #[.string s] w fun e w' => e = .returned (.string ⟨(inis (wordsT s)).toArray⟩) ∧ Below w.heap.size w w' := by
  have cW := fun w => refWords_any s w (by omega)
  have hwl := words_len s
  have hws := word_size s
  rw [← wordsT_len] at cW hwl
  generalize wordsT s = ts at *
  go_enter Try.func21, Try.ntmps21
  go_wp2_with fail
  refine (cW _).mono ?_
  rintro e w1 ⟨v, rfl, hown, hb1⟩
  obtain ⟨ao, cap, rfl, hcell⟩ := row_cells hown
  clear hown cW
  go_wp2
  go_loopw [4, 5] (fun ov iv wr => ∃ (k : Nat) (O : ByteArray), iv = .int .i64 (k : Int) ∧ ov = .string O ∧ k ≤ ts.length ∧ Hid (O.data.toList = inis (ts.take k)) ∧ O.size ≤ 8388608 * k ∧ Below w1.heap.size w1 wr)
    (fun _ iv _ => ts.length - (RowKit.intOf iv).toNat)
  case atStart => exact ⟨0, ⟨#[]⟩, rfl, rfl, Nat.zero_le _, rfl, Nat.le_refl _, Below.refl _ _⟩
  case round =>
    obtain ⟨k, O, rfl, rfl, hk, HO, hO, hB⟩ := hrel
    by_cases hlt : k < ts.length
    · obtain ⟨g, cur, rfl, hgb, hg, hc⟩ := hcell k hlt
      have hgl := (Array.getElem?_eq_some_iff.1 hg).1
      have hc' : wr.cell? ⟨g, k, none⟩ = some (.string ts[k]) := (hB.cell (p := ⟨g, k, none⟩) hgl).trans hc
      have hts := hws ts[k] (List.getElem_mem hlt)
      have hit := inis_take hlt
      generalize ts[k] = T at *
      obtain ⟨F, X, hiz, hX, cF, cC⟩ := ini_packr T (by omega)
      rw [hX] at hit
      have HN : Hid ((O ++ X).data.toList = inis (ts.take (k + 1))) := by
        show _ = _
        rw [hit, ba_append, HO.out]
      have hON : (O ++ X).size ≤ 8388608 * (k + 1) := by rw [ByteArray.size_append]; omega
      have hOl : O.size + X.size ≤ 8388608 * (k + 1) := by omega
      clear hcell hws hc hit hX hg HO
      generalize hJ : O ++ X = J at *
      go_wp2_with fail
      refine (cF _).mono ?_
      rintro e w2 ⟨rfl, hb2⟩
      go_wp2_with fail
      refine (cC _).mono ?_
      rintro e w3 ⟨rfl, hb3⟩
      have hb23 := hb2.trans (hb3.mono hb2.size)
      go_wp2
      go_roundw
      case rel => exact ⟨k + 1, _, by go_num, rfl, by omega, HN, hON, hB.trans (hb23.mono hB.size)⟩
      case measure => simp [RowKit.intOf]; omega
    · obtain rfl : k = ts.length := by omega
      rw [List.take_length] at HO
      have hE : Hid (O = ⟨(inis ts).toArray⟩) := ba_ext (by rw [HO.out])
      clear hcell hws HO
      go_wp2
      go_ret
      exact ⟨ret_str' hE.out, hb1.trans (hB.mono hb1.size)⟩
end Go.Proofs.Ytjfkihljgicijaa.Utf
