/-
  The program's Initials: the first letters of the words, for every text of up to 1048576 bytes.
-/
import Derived.Test.YtjfkihljgicijaaAwk2
import Derived.Test.YtjfkihljgicijaaBldk
import Derived.Test.YtjfkihljgicijaaCutw
import Derived.Test.YtjfkihljgicijaaRefx
import Derived.Test.YtjfkihljgicijaaJoim
namespace Go.Proofs.Ytjfkihljgicijaa.Utf
open Go Go.Lib Go.RowKit Go.Shelf

/-- The first letter of a word, and those of words. -/
def ini (T : ByteArray) : ByteArray := (foldS true T).extract 0 (cutPos (foldS true T) 1)
def inis (l : List ByteArray) : List UInt8 := l.flatMap fun T => (ini T).data.toList
theorem flatMap_take {α β : Type} (f : α → List β) {l : List α} {k : Nat} (h : k < l.length) : (l.take (k + 1)).flatMap f = (l.take k).flatMap f ++ f l[k] := by
  rw [List.take_succ_eq_append_getElem h, List.flatMap_append, List.flatMap_cons, List.flatMap_nil, List.append_nil]
theorem inis_take {l : List ByteArray} {k : Nat} (h : k < l.length) : inis (l.take (k + 1)) = inis (l.take k) ++ (ini l[k]).data.toList := by
  unfold inis
  exact flatMap_take (fun T => (ini T).data.toList) h
theorem ini_def (T : ByteArray) : (foldS true T).extract 0 (cutPos (foldS true T) 1) = ini T := by rw [ini]
theorem ini_size (T : ByteArray) : (ini T).size ≤ 8 * T.size := by
  have := foldS_size true T
  unfold ini
  rw [ByteArray.size_extract]
  omega
theorem word_size (s : ByteArray) : ∀ T ∈ wordsT s, T.size ≤ s.size := by
  intro T hT
  unfold wordsT wtx at hT
  obtain ⟨x, _, rfl⟩ := List.mem_map.1 hT
  rw [ByteArray.size_extract]
  omega
theorem wordsFrom_len (s : ByteArray) : ∀ f pos st, s.size ≤ pos + f → pos ≤ s.size → (wordsFrom s f pos st).length ≤ s.size - pos + (if st = none then 0 else 1)
  | 0, pos, st, h, h2 => by
    rw [wordsFrom]
    cases st <;> simp [wEnd]
  | f + 1, pos, st, h, h2 => by
    by_cases hp : pos < s.size
    · have hw := decode_fits s pos hp
      by_cases hb : isB ((Utf8.decode s pos).1 : Int)
      · rw [wordsFrom_blank hp hb, List.length_append]
        have ih := wordsFrom_len s f (pos + (Utf8.decode s pos).2) none (by omega) (by omega)
        rw [if_pos rfl] at ih
        have : (wCut st pos).length ≤ (if st = none then 0 else 1) := by cases st <;> simp [wCut]
        omega
      · rw [wordsFrom_step hp hb]
        have ih := wordsFrom_len s f (pos + (Utf8.decode s pos).2) (some (st.getD pos)) (by omega) (by omega)
        rw [if_neg (by simp)] at ih
        omega
    · rw [wordsFrom_end s _ pos st hp]
      cases st <;> simp [wEnd]
theorem words_len (s : ByteArray) : (wordsP s).length ≤ s.size := by
  have := wordsFrom_len s s.size 0 none (by omega) (by omega)
  rw [if_pos rfl] at this
  exact this
theorem wordsT_len (s : ByteArray) : (wordsT s).length = (wordsP s).length := wtx_length _ _

/-- A list that a call has made: its row, and what its cells read. -/
theorem row_cells {W : World} {B : Nat} {v : Value} {ts : List ByteArray} (h : W.ownsRow B 9 1 v ts.length (ts.map Value.string)) :
    ∃ ao cap, v = .slice ao ts.length cap ∧ ∀ j (hj : j < ts.length), ∃ g cur, ao = some ⟨g, 0, none⟩ ∧ B ≤ g ∧ W.heap[g]? = some (.cells cur 9) ∧ W.cell? ⟨g, j, none⟩ = some (.string ts[j]) := by
  obtain ⟨ao, cap, hv, hc⟩ := own_slice h
  refine ⟨ao, cap, hv, fun j hj => ?_⟩
  obtain ⟨g, rfl, hB, _, hcell⟩ := hc j (by simpa using hj)
  rcases h.2 with ⟨hv', hn⟩ | ⟨g', cap', cur, hv', _, hg, _⟩
  · omega
  · rw [hv] at hv'
    cases hv'
    refine ⟨g, cur, rfl, hB, hg, ?_⟩
    rw [hcell]; simp

theorem ini_pack (T : ByteArray) (hT : T.size ≤ 1048576) : ∃ F X : ByteArray, X.size ≤ 8388608 ∧ ini T = X ∧ (∀ w, Calls Try.prog 16 #[.string T, .bool true] w fun e W' => e = .returned (.string F) ∧ Below w.heap.size w W') ∧
    (∀ w, Calls Try.prog 34 #[.string F, .int .i64 1] w fun e w' => e = .returned (.string X) ∧ Below w.heap.size w w') := by
  refine ⟨foldS true T, ini T, ?_, rfl, fun w => fold_any T true w (by omega), fun w => ?_⟩
  · have := ini_size T
    omega
  · have c := cut_any (foldS true T) 1 w (by omega) (by omega)
    rw [ini_def] at c
    exact c

set_option maxHeartbeats 2000000 in
theorem initials_any (s : ByteArray) (w : World) (hs : s.size ≤ 1048576) :
    Calls Try.prog 20 #[.string s] w fun e w' => e = .returned (.string ⟨(inis (wordsT s)).toArray⟩) ∧ Below w.heap.size w w' := by
  have cW := fun w => words_any s w (by omega)
  have hwl := words_len s
  have hws := word_size s
  rw [← wordsT_len] at cW hwl
  generalize wordsT s = ts at *
  go_enter Try.func20, Try.ntmps20
  go_wp2_with fail
  refine (cW _).mono ?_
  rintro e w1 ⟨v, rfl, hown, hb1⟩
  have hb1' : Below w.heap.size w w1 := ((Below.refl _ w).alloc (Nat.le_refl _) _).trans (hb1.mono (by simp))
  have hI1 : Lib.IsBuilderF 40 5 w.heap.size w.heap.size (Lib.byteCells (inis (ts.take 0))) w1 := isBuilderF_below (isBuilderF_new 40 5 w) hb1
  rw [World.size_alloc] at hown
  obtain ⟨ao, cap, rfl, hcell⟩ := row_cells hown
  clear hown cW hb1
  go_wp2
  go_loopw [9] (fun iv wr => ∃ k : Nat, iv = .int .i64 (k : Int) ∧ k ≤ ts.length ∧ Lib.IsBuilderF 40 5 w.heap.size w.heap.size (Lib.byteCells (inis (ts.take k))) wr ∧ Below w.heap.size w wr ∧ Hid (∀ g, ao = some ⟨g, 0, none⟩ → wr.heap[g]? = w1.heap[g]?) ∧ (inis (ts.take k)).length ≤ 8388608 * k)
    (fun iv _ => ts.length - (RowKit.intOf iv).toNat)
  case atStart => exact ⟨0, rfl, Nat.zero_le _, hI1, hb1', fun _ _ => rfl, Nat.le_refl _⟩
  case round =>
    obtain ⟨k, rfl, hk, hI, hB, HG, hL⟩ := hrel
    by_cases hlt : k < ts.length
    · obtain ⟨g, cur, rfl, hgb, hg, hc⟩ := hcell k hlt
      have hgw := (HG.out g rfl).trans hg
      have hc' : wr.cell? ⟨g, k, none⟩ = some (.string ts[k]) := by rw [Lib.cell_of_heap hgw, ← Lib.cell_of_heap hg]; exact hc
      have hts := hws ts[k] (List.getElem_mem hlt)
      have hit := inis_take hlt
      generalize ts[k] = T at *
      obtain ⟨F, X, hiz, hX, cF, cC⟩ := ini_pack T (by omega)
      rw [hX] at hit
      have HT : Hid (inis (ts.take (k + 1)) = inis (ts.take k) ++ X.data.toList) := hit
      have hL2 : Hid ((inis (ts.take (k + 1))).length ≤ 8388608 * (k + 1)) := by show _ ≤ _; rw [hit, List.length_append, ba_len]; omega
      clear hcell hws hc hit hX
      generalize inis (ts.take k) = L at *
      go_wp2_with fail
      refine (cF _).mono ?_
      rintro e w2 ⟨rfl, hb2⟩
      go_wp2_with fail
      refine (cC _).mono ?_
      rintro e w3 ⟨rfl, hb3⟩
      have hb23 := hb2.trans (hb3.mono hb2.size)
      have hI3 := isBuilderF_below hI hb23
      have hB3 := hB.trans (hb23.mono hB.size)
      have hg3 : w3.heap[g]? = some (.cells cur 9) := (hb23.block g (Array.getElem?_eq_some_iff.1 hgw).1).trans hgw
      have cW := writeString_kept w.heap.size w.heap.size (Lib.byteCells L) X w3 hI3 (by rw [Lib.byteCells_length]; omega) hB3.size
      clear hc' hgw hI hB hb2 hb3 HG hI3 cF cC
      go_wp2_with fail
      refine cW.mono ?_
      rintro e w4 ⟨rfl, hA, hb4, hk4⟩
      have hg4 := hk4 g _ hg3 (by intro e; cases e; omega) (by intro c fz e; cases e)
      have hI4 : Lib.IsBuilderF 40 5 w.heap.size w.heap.size (Lib.byteCells (inis (ts.take (k + 1)))) w4 := by
        rw [HT.out, byteCells_append, ← strCells_bytes]
        exact .inr hA
      clear cW hA HT hk4 hg3
      go_wp2
      go_roundw
      case rel => exact ⟨k + 1, by go_num, by omega, hI4, hB3.trans hb4, fun g' e => by cases e; exact hg4.trans hg.symm, hL2.out⟩
      case measure => simp [RowKit.intOf]; omega
    · obtain rfl : k = ts.length := by omega
      rw [List.take_length] at hI
      have cS := string_any w.heap.size w.heap.size _ _ hI hB.size
      clear hcell hws hI HG hI1
      go_wp2_with fail
      refine cS.mono ?_
      rintro e w2 ⟨rfl, hb2, _⟩
      go_wp2
      go_ret
      exact ⟨rfl, hB.trans hb2⟩
end Go.Proofs.Ytjfkihljgicijaa.Utf
