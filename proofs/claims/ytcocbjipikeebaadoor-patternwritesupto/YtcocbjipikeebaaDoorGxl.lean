/-
  The laws' list in longer memory (lent); the program's Number.
-/
import Derived.Test.YtcocbjipikeebaaDoorNewq
import Derived.Deep.DeepAppendRoom
import Derived.Laws.AppendOwnNone
import Derived.Laws.MakeOwn
import Derived.Test.YtcocbjipikeebaaDoorGxr
import Derived.Test.YtcocbjipikeebaaDoorGxt
import Derived.Test.YtcocbjipikeebaaDoorGsj
import Derived.Maps.AppendAt
import Derived.Laws.OwnMore
namespace Go.Proofs.YtcocbjipikeebaaDoor.Utf
open Go Go.Lib Go.RowKit

/-- The text behind the list's end. -/
def spareT : ByteArray := ⟨#[115, 112, 97, 114, 101]⟩

/-- What Number tells: the first number of the text. -/
def NumAt (zs : List ByteArray) (v : ByteArray) (e : Ending) : Prop := ∃ (k : Nat) (t : Bool), e = .returned (.tuple #[.int .i64 (k : Int), .bool t]) ∧ (t = false → k = 0 ∧ v ∉ zs) ∧ (t = true → zs[k]? = some v)

set_option maxHeartbeats 1000000 in
theorem number_any {W : World} {b : Nat} {L : List ByteArray} {rk : List Nat} (hA : IsAlpha W b L rk) (v : ByteArray) :
    Calls Tryd.prog 68 #[.pointer (some ⟨b, 0, none⟩), .string v] W fun e w' => NumAt L v e ∧ Below W.heap.size W w' := by
  have h40 := hA.small
  have cS := size_any hA
  obtain ⟨⟨a1, c1, a2, c2, g1, g2, _⟩, h4, h5, _⟩ := hA
  have hbl := (Array.getElem?_eq_some_iff.1 g1).1
  obtain ⟨e1, e2⟩ := cells_two g1
  clear g1
  go_enter Tryd.func68, Tryd.ntmps68
  go_wp2_with (first | (go_at_call 16; refine cS.mono ?_; rintro e w' ⟨rfl, hw⟩; obtain rfl := hw.symm))
  go_loopg [9] L.length (fun g1 vi wr => ∃ k : Nat, vi = .int .i64 (k : Int) ∧ k ≤ L.length ∧ L.length - k ≤ g1 ∧ Aside (Below W.heap.size W wr) ∧ Aside (∀ j (h : j < L.length), j < k → v ≠ L[j]))
  case atStart => exact ⟨0, rfl, Nat.zero_le _, Nat.le_refl _, Below.refl _ _, fun j _ h => by omega⟩
  case round =>
    obtain ⟨k, rfl, hk, hg1, hB, HN⟩ := hrel
    have e1' := (hB.out.cell (p := ⟨b, 0, none⟩) hbl).trans e1
    by_cases hlt : k < L.length
    · have hltz : (k : Int) < (L.length : Int) := by omega
      obtain ⟨g, rfl, _, ec⟩ := (g2.below hB.out) k (by simpa using hlt)
      rw [List.getElem_map] at ec
      by_cases hv : v = L[k]
      · have HM : Aside (L[k]? = some v) := by show _ = _; rw [hv]; exact List.getElem?_eq_getElem hlt
        rw [← hv] at ec
        clear hv HN g2 e1 e2
        go_wp2
        (try go_quiet (fail))
        go_wp2
        go_ret2
        exact ⟨⟨k, true, rfl, fun h => (by cases h), fun _ => HM.out⟩, by first | exact hB.out | exact below_drewN hB.out _⟩
      · have hne : (L[k].toList == v.toList) = false := by rw [beq_eq_false_iff_ne]; exact fun h => hv (toList_inj h.symm)
        have HX : Aside (∀ j (h : j < L.length), j < k + 1 → v ≠ L[j]) := fun j h h2 => by
          by_cases hj : j = k
          · subst hj; exact hv
          · exact HN.out j h (by omega)
        clear HN hv g2 e1 e2
        generalize L[k] = z at *
        go_wp2
        (try go_quiet (fail))
        go_wp2
        go_roundg (L.length - (k + 1))
        case measure => omega
        case rel => exact ⟨k + 1, by go_num, by omega, Nat.le_refl _, by first | exact hB | exact below_drewN hB.out _, HX⟩
    · have hltz : ¬ (k : Int) < (L.length : Int) := by omega
      have HM : Aside (v ∉ L) := fun h => by
        obtain ⟨j, hj, e⟩ := List.getElem_of_mem h
        exact HN.out j hj (by omega) e.symm
      go_wp2
      go_ret2
      exact ⟨⟨0, false, rfl, fun _ => ⟨rfl, HM.out⟩, fun h => (by cases h)⟩, hB.out⟩
end Go.Proofs.YtcocbjipikeebaaDoor.Utf
/-
  The program's lexicon, its state: entries collected from the map.
-/
namespace Go.Proofs.YtcocbjipikeebaaDoor.Utf
open Go Go.Lib Go.RowKit

/-- An entry's list that may stand. -/
def okE (L : List ByteArray) (l : List (List Int × Int)) : Prop := ∀ x ∈ l, x.1.length ≤ 32 ∧ okNums L x.1 ∧ 0 ≤ x.2 ∧ x.2 ≤ 100 ∧ 1 ≤ x.1.length
theorem readsO_turn {w w' : World} {ao : Option Addr} {xs : List Value} {row : Option Nat} (h : ReadsO w ao xs) (hg : w.grownBy w' row) (hr : ∀ b o, ao = some ⟨b, o, none⟩ → some b ≠ row) : ReadsO w' ao xs := fun j hj => by
  obtain ⟨g, o, h1, h2, h3⟩ := h j hj
  exact ⟨g, o, h1, Nat.lt_of_lt_of_le h2 hg.size, (World.cell?_of_block (a := ⟨g, o + j, none⟩) (hg.block g h2 (hr g o h1))).trans h3⟩
theorem row_turn {W W' : World} {B n z : Nat} {e : TypeId} {v : Value} {xs : List Value} {row : Option Nat} (h : W.ownsRow B e z v n xs) (hg : W.grownBy W' row) (hr : ∀ b, B ≤ b → v.ownBlock = some b → some b ≠ row) : W'.ownsRow B e z v n xs := by
  rcases h with ⟨h1, h2 | ⟨g, cap, cur, e1, e2, e3, e4⟩⟩
  · exact ⟨h1, .inl h2⟩
  · exact ⟨h1, .inr ⟨g, cap, cur, e1, e2, (hg.block g (Array.getElem?_eq_some_iff.1 e3).1 (hr g e2 (by rw [e1]; rfl))).trans e3, e4⟩⟩
theorem flat_snoc (es : List EntV) (x : EntV) : (es ++ [x]).flatMap encE = es.flatMap encE ++ encE x := by simp
end Go.Proofs.YtcocbjipikeebaaDoor.Utf
/-
  The program's numbers walked: the letters of the ranks, as a new list.
-/
namespace Go.Proofs.YtcocbjipikeebaaDoor.Utf
open Go Go.Lib Go.RowKit

/-- The number of the letter of a rank. -/
def rkN (rk : List Nat) (r : Nat) : Nat := (rk[r]?).getD 0
theorem ownsRow_ints (w : World) (n : Nat) (hm : n ≤ maxLen) : (w.alloc (.cells (madeCells #[.int .i64 0] n) 3)).ownsRow w.heap.size 3 1 (.slice (some ⟨w.heap.size, 0, none⟩) n n) n (List.replicate n (.int .i64 0)) := by
  refine ⟨by simp, .inr ⟨w.heap.size, n, _, rfl, Nat.le_refl _, heap_alloc_new w _, Nat.le_refl _, hm, by simp [size_madeCells], ?_⟩⟩
  rw [toList_madeCells_one, Nat.mul_one, List.take_of_length_le (by simp)]
/-- Some letters' numbers, and noughts for the rest. -/
def numFill (rk : List Nat) (p : List Nat) (k : Nat) : List Value := nums ((p.take k).map (rkN rk)) ++ List.replicate (p.length - k) (Value.int .i64 0)
theorem numFill_zero (rk p : List Nat) : numFill rk p 0 = List.replicate p.length (Value.int .i64 0) := by simp [numFill, nums]
theorem numFill_full (rk p : List Nat) : numFill rk p p.length = nums (p.map (rkN rk)) := by simp [numFill]
theorem numFill_next (rk p : List Nat) {k : Nat} (h : k < p.length) : (numFill rk p k).set k (.int .i64 ((rkN rk p[k] : Nat) : Int)) = numFill rk p (k + 1) := by
  unfold numFill
  have hl : (nums ((p.take k).map (rkN rk))).length = k := by rw [nums_len, List.length_map, List.length_take]; omega
  rw [List.set_append_right _ _ (by omega), hl, Nat.sub_self, show p.length - k = (p.length - (k + 1)) + 1 by omega, List.replicate_succ, List.set_cons_zero, List.take_succ_eq_append_getElem h, List.map_append, show List.map (rkN rk) [p[k]] = [rkN rk p[k]] from rfl, nums_snoc, List.append_assoc]
  rfl

end Go.Proofs.YtcocbjipikeebaaDoor.Utf
/-
  The program's lexicon: the map's entries, in their order, each with its text.
-/
namespace Go.Proofs.YtcocbjipikeebaaDoor.Utf
open Go Go.Lib Go.RowKit

/-- What is left to come, and what has come. -/
def LeftE (l : List (List Int × Int)) (left : Lit → Bool) (es : List EntV) : Prop := ∀ x ∈ l, (left (.string (mkB x.1)) = false ↔ x.1 ∈ es.map (·.c))
theorem LeftE.start {D : DU} {l : List (List Int × Int)} (h : ScD D l) : LeftE l (Maps.has D) [] := fun x hx => by
  have := Maps.has_true_of_atKey (h.at_ x.1 x.2 hx)
  rw [this]
  simp
theorem LeftE.step {D : DU} {l : List (List Int × Int)} (h : ScD D l) {left : Lit → Bool} {es : List EntV} (hL : LeftE l left es) (y : EntV) (hb2 : ∀ z ∈ y.c, isBt z) :
    LeftE l (fun z => left z && !z.sameKey (.string (mkB y.c))) (es ++ [y]) := fun x hx => by
  have hb1 := h.byt _ hx
  rw [List.map_append, List.mem_append]
  show (left _ && !Lit.sameKey _ _) = false ↔ _
  by_cases e : x.1 = y.c
  · rw [e, WideAt.sameKey_self (a := .string (mkB y.c)) trivial]
    simp
  · have : (Lit.string (mkB x.1)).sameKey (.string (mkB y.c)) = false := Maps.sameKey_ne (fun hh => by injection hh with hh; exact e (mkB_inj hb1 hb2 hh))
    rw [this]
    simp only [Bool.not_false, Bool.and_true]
    rw [hL x hx]
    simp [e]
/-- What comes out of the map is an entry. -/
theorem came {D : DU} {l : List (List Int × Int)} (h : ScD D l) {x : ByteArray} {c : Int} {kl : Lit} {y : DU × List MemPlace} (hk : keyOf Tryd.prog 9 (.string x) = some kl) (hv : plainElem Tryd.prog 3 (.int .i64 c) = some y) (hat : ∀ zd, D.atKey kl zd = y.1) :
    ∃ p, (p, c) ∈ l ∧ x = ⟨(mkB p).toArray⟩ ∧ kl = .string (mkB p) := by
  have hh := Maps.has_true_of_atKey hat
  obtain ⟨e, he, rfl⟩ := h.keys _ hh
  obtain ⟨s, e1, e2, _⟩ := WideMaps.string_of_keyOf Tryd.underlying9 hk
  injection e1 with e1
  subst e1
  injection e2 with e2
  obtain ⟨a, e3, e4, _⟩ := plainElem_int_inv Tryd.underlying3 hv
  injection e3 with _ e3
  have h1 := h.at_ e.1 e.2 he (.lit (.int .i64 0))
  rw [hat, e4] at h1
  injection h1 with h1
  injection h1 with _ h1
  refine ⟨e.1, by rw [e3, h1]; exact he, ba_eq (by rw [← e2]), rfl⟩

theorem nodup_le : ∀ (a b : List (List Int)), a.Nodup → (∀ x ∈ a, x ∈ b) → a.length ≤ b.length
  | [], _, _, _ => Nat.zero_le _
  | x :: a, b, hn, hs => by
    obtain ⟨h1, h2⟩ := List.nodup_cons.1 hn
    have hx := hs x (by simp)
    have := nodup_le a (b.erase x) h2 (fun y hy => (List.mem_erase_of_ne (fun e : y = x => h1 (by rw [← e]; exact hy))).2 (hs y (by simp [hy])))
    rw [List.length_erase_of_mem hx] at this
    have := List.length_pos_of_mem hx
    simp only [List.length_cons]
    omega
theorem cells3_new (w : World) (x y z : Value) (t : TypeId) : ∀ j u, [x, y, z][j]? = some u → (w.alloc (.cells #[x, y, z] t)).cell? ((⟨w.heap.size, 0, none⟩ : Addr).add j) = some u := by
  intro j u h
  have : (w.alloc (.cells #[x, y, z] t)).cell? ⟨w.heap.size, j, none⟩ = some u := box_at w _ t j (by simpa using h)
  rw [Addr.add_lit]
  simpa using this
theorem row_slice {W : World} {B n z : Nat} {e : TypeId} {v : Value} {xs : List Value} (h : W.ownsRow B e z v n xs) : ∃ ao cap, v = .slice ao n cap := by
  rcases h.2 with ⟨rfl, h0⟩ | ⟨g, cap, cur, e1, _⟩
  · exact ⟨none, 0, by rw [h0]⟩
  · exact ⟨_, cap, e1⟩
def inF (p : List Int) (k : Nat) : List Value := (p.take k).map (Value.int .i64) ++ List.replicate (p.length - k) (Value.int .i64 0)
theorem inF_zero (p : List Int) : inF p 0 = List.replicate p.length (Value.int .i64 0) := by simp [inF]
theorem inF_full (p : List Int) : inF p p.length = ints p := by unfold inF ints; rw [List.take_length, Nat.sub_self, List.replicate_zero, List.append_nil]
theorem inF_next (p : List Int) {k : Nat} (h : k < p.length) : (inF p k).set k (.int .i64 p[k]) = inF p (k + 1) := by
  unfold inF
  have hl : ((p.take k).map (Value.int .i64)).length = k := by rw [List.length_map, List.length_take]; omega
  rw [List.set_append_right _ _ (by omega), hl, Nat.sub_self, show p.length - k = (p.length - (k + 1)) + 1 by omega, List.replicate_succ, List.set_cons_zero, List.take_succ_eq_append_getElem h, List.map_append, List.append_assoc]
  rfl
theorem key_at {p : List Int} (hp : ∀ z ∈ p, isBt z) {k : Nat} (h : k < p.length) (w : World) : (Instr.index 9 (.string ⟨(mkB p).toArray⟩) (.int .i64 (k : Int))).run Tryd.prog w = .ok (.int .u8 p[k]) w := by
  have hk : ((⟨(mkB p).toArray⟩ : ByteArray)).size = p.length := by show (mkB p).toArray.size = _; rw [List.size_toArray, mkB_length]
  have hz := hp p[k] (List.getElem_mem h)
  unfold isBt at hz
  have hb : ((⟨(mkB p).toArray⟩ : ByteArray)[k]'(by omega)).toNat = p[k].toNat := by
    show ((mkB p).toArray[k]'_).toNat = _
    simp only [mkB, List.getElem_toArray, List.getElem_map]
    rw [UInt8.toNat_ofNat', Nat.mod_eq_of_lt (by omega)]
  rw [run_index_string w 9 _ .i64 _ Tryd.underlying9, dif_pos ⟨by omega, by rw [hk]; omega⟩]
  simp only [Int.toNat_natCast]
  rw [hb, show ((p[k].toNat : Nat) : Int) = p[k] by omega]

theorem flat_enc : ∀ (es : List EntV) (i r : Nat) (hi : i < es.length), r < 3 → (es.flatMap encE)[i * 3 + r]? = (encE es[i])[r]?
  | [], i, _, hi, _ => by cases hi
  | x :: es, 0, r, _, hr => by
    rw [List.flatMap_cons, Nat.zero_mul, Nat.zero_add, List.getElem?_append_left (by show r < 3; omega)]
    rfl
  | x :: es, i + 1, r, hi, hr => by
    rw [List.flatMap_cons, List.getElem?_append_right (by show 3 ≤ _; omega), show (i + 1) * 3 + r - (encE x).length = i * 3 + r by show (i + 1) * 3 + r - 3 = _; omega, flat_enc es i r (by simpa using hi) hr]
    rfl
end Go.Proofs.YtcocbjipikeebaaDoor.Utf
