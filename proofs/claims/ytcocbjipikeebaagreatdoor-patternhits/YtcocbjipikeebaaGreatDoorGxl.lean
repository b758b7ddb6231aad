/-
  The laws' list in longer memory (lent); the program's Number.
-/
import Derived.Test.YtcocbjipikeebaaGreatDoorNewq
import Derived.Deep.DeepAppendRoom
import Derived.Laws.AppendOwnNone
import Derived.Laws.MakeOwn
import Derived.Test.YtcocbjipikeebaaGreatDoorGxr
import Derived.Test.YtcocbjipikeebaaGreatDoorGxt
import Derived.Test.YtcocbjipikeebaaGreatDoorGsj
import Derived.Maps.AppendAt
import Derived.Laws.OwnMore
namespace Go.Proofs.YtcocbjipikeebaaGreatDoor.Utf
open Go Go.Lib Go.RowKit

/-- The text behind the list's end. -/
def spareT : ByteArray := ⟨#[115, 112, 97, 114, 101]⟩

/-- What Number tells: the first number of the text. -/
def NumAt (zs : List ByteArray) (v : ByteArray) (e : Ending) : Prop := ∃ (k : Nat) (t : Bool), e = .returned (.tuple #[.int .i64 (k : Int), .bool t]) ∧ (t = false → k = 0 ∧ v ∉ zs) ∧ (t = true → zs[k]? = some v)

set_option maxHeartbeats 1000000 in
theorem number_any {W : World} {b : Nat} {L : List ByteArray} {rk : List Nat} (hA : IsAlpha W b L rk) (v : ByteArray) :
    Calls Tryz.prog 105 #[.pointer (some ⟨b, 0, none⟩), .string v] W fun e w' => NumAt L v e ∧ Below W.heap.size W w' := by
  have h40 := hA.small
  have cS := size_any hA
  obtain ⟨⟨a1, c1, a2, c2, g1, g2, _⟩, h4, h5, _⟩ := hA
  have hbl := (Array.getElem?_eq_some_iff.1 g1).1
  obtain ⟨e1, e2⟩ := cells_two g1
  clear g1
  go_enter Tryz.func105, Tryz.ntmps105
  go_wp2_with (first | (go_at_call 46; refine cS.mono ?_; rintro e w' ⟨rfl, hw⟩; obtain rfl := hw.symm))
  go_loopg [9] L.length (fun g1 vi wr => ∃ k : Nat, vi = .int .i64 (k : Int) ∧ k ≤ L.length ∧ L.length - k ≤ g1 ∧ Aside (Below W.heap.size W wr) ∧ Aside (∀ j (h : j < L.length), j < k → v ≠ L[j]))
  case atStart => exact ⟨0, rfl, Nat.zero_le _, Nat.le_refl _, Below.refl _ _, fun j _ h => by omega⟩
  case round =>
    obtain ⟨k, rfl, hk, hg1, hB, HN⟩ := hrel
    have e1' := (hB.out.cell (p := ⟨b, 0, none⟩) hbl).trans e1
    by_cases hlt : k < L.length
    · have hltz : (k : Int) < (L.length : Int) := by omega
      obtain ⟨g, rfl, _, ec⟩ := (g2.below hB.out) k (by simpa using hlt)
      rw [List.getElem_map] at ec
      by_cases hv : v = L[k]
      · have HM : Aside (L[k]? = some v) := by show _ = _; rw [hv]; exact List.getElem?_eq_getElem hlt
        rw [← hv] at ec
        clear hv HN g2 e1 e2
        go_wp2
        (try go_quiet (fail))
        go_wp2
        go_ret2
        exact ⟨⟨k, true, rfl, fun h => (by cases h), fun _ => HM.out⟩, by first | exact hB.out | exact below_drewN hB.out _⟩
      · have hne : (L[k].toList == v.toList) = false := by rw [beq_eq_false_iff_ne]; exact fun h => hv (toList_inj h.symm)
        have HX : Aside (∀ j (h : j < L.length), j < k + 1 → v ≠ L[j]) := fun j h h2 => by
          by_cases hj : j = k
          · subst hj; exact hv
          · exact HN.out j h (by omega)
        clear HN hv g2 e1 e2
        generalize L[k] = z at *
        go_wp2
        (try go_quiet (fail))
        go_wp2
        go_roundg (L.length - (k + 1))
        case measure => omega
        case rel => exact ⟨k + 1, by go_num, by omega, Nat.le_refl _, by first | exact hB | exact below_drewN hB.out _, HX⟩
    · have hltz : ¬ (k : Int) < (L.length : Int) := by omega
      have HM : Aside (v ∉ L) := fun h => by
        obtain ⟨j, hj, e⟩ := List.getElem_of_mem h
        exact HN.out j hj (by omega) e.symm
      go_wp2
      go_ret2
      exact ⟨⟨0, false, rfl, fun _ => ⟨rfl, HM.out⟩, fun h => (by cases h)⟩, hB.out⟩
end Go.Proofs.YtcocbjipikeebaaGreatDoor.Utf
/-
  The program's lexicon, its state: entries collected from the map.
-/
namespace Go.Proofs.YtcocbjipikeebaaGreatDoor.Utf
open Go Go.Lib Go.RowKit

/-- An entry's list that may stand. -/
def okE (L : List ByteArray) (l : List (List Int × Int)) : Prop := ∀ x ∈ l, x.1.length ≤ 32 ∧ okNums L x.1 ∧ 0 ≤ x.2 ∧ x.2 ≤ 100 ∧ 1 ≤ x.1.length
/-- What has been collected, in memory from the second block behind w0 on. -/
structure LxM (w0 : World) (L : List ByteArray) (l : List (List Int × Int)) (wr : World) (v : Value) (es : List EntV) : Prop where
  box : wr.heap[w0.heap.size]? = some (.cells #[v] 91)
  row : wr.ownsRow (w0.heap.size + 2) 94 3 v es.length (es.flatMap encE)
  mem : ∀ x ∈ es, ReadsO wr x.ao (ints x.c) ∧ (∀ b o, x.ao = some ⟨b, o, none⟩ → w0.heap.size + 2 ≤ b ∧ b < wr.heap.size ∧ v.ownBlock ≠ some b)
  ent : ∀ x ∈ es, (x.c, x.s) ∈ l ∧ x.t = joinT L x.c
  nod : (es.map (·.c)).Nodup
  bel : Below w0.heap.size w0 wr
theorem readsO_turn {w w' : World} {ao : Option Addr} {xs : List Value} {row : Option Nat} (h : ReadsO w ao xs) (hg : w.grownBy w' row) (hr : ∀ b o, ao = some ⟨b, o, none⟩ → some b ≠ row) : ReadsO w' ao xs := fun j hj => by
  obtain ⟨g, o, h1, h2, h3⟩ := h j hj
  exact ⟨g, o, h1, Nat.lt_of_lt_of_le h2 hg.size, (World.cell?_of_block (a := ⟨g, o + j, none⟩) (hg.block g h2 (hr g o h1))).trans h3⟩
theorem row_turn {W W' : World} {B n z : Nat} {e : TypeId} {v : Value} {xs : List Value} {row : Option Nat} (h : W.ownsRow B e z v n xs) (hg : W.grownBy W' row) (hr : ∀ b, B ≤ b → v.ownBlock = some b → some b ≠ row) : W'.ownsRow B e z v n xs := by
  rcases h with ⟨h1, h2 | ⟨g, cap, cur, e1, e2, e3, e4⟩⟩
  · exact ⟨h1, .inl h2⟩
  · exact ⟨h1, .inr ⟨g, cap, cur, e1, e2, (hg.block g (Array.getElem?_eq_some_iff.1 e3).1 (hr g e2 (by rw [e1]; rfl))).trans e3, e4⟩⟩
theorem LxM.turn {w0 : World} {L : List ByteArray} {l : List (List Int × Int)} {wr w' : World} {v : Value} {es : List EntV} (h : LxM w0 L l wr v es) (hg : wr.grownBy w' (some (w0.heap.size + 1))) : LxM w0 L l w' v es := by
  have hlt : w0.heap.size < wr.heap.size := (Array.getElem?_eq_some_iff.1 h.box).1
  refine ⟨(hg.block _ hlt (fun e => by injection e with e; omega)).trans h.box, row_turn h.row hg (fun b hb _ e => by injection e with e; omega), fun x hx => ?_, h.ent, h.nod, h.bel.grown hg (Nat.le_of_lt hlt) (fun k e => by injection e with e; omega)⟩
  obtain ⟨h1, h2⟩ := h.mem x hx
  exact ⟨readsO_turn h1 hg (fun b o e e2 => by injection e2 with e2; have := (h2 b o e).1; omega), fun b o e => ⟨(h2 b o e).1, Nat.lt_of_lt_of_le (h2 b o e).2.1 hg.size, (h2 b o e).2.2⟩⟩
theorem flat_snoc (es : List EntV) (x : EntV) : (es ++ [x]).flatMap encE = es.flatMap encE ++ encE x := by simp
/-- One more entry is behind the others. -/
theorem LxM.next {w0 : World} {L : List ByteArray} {l : List (List Int × Int)} {w3 w4 : World} {v v' : Value} {es : List EntV} {x : EntV} (h : LxM w0 L l w3 v es) (o : Obj)
    (hr : ReadsO w3 x.ao (ints x.c)) (hb : ∀ b o, x.ao = some ⟨b, o, none⟩ → w0.heap.size + 2 ≤ b ∧ b < w3.heap.size ∧ v.ownBlock ≠ some b)
    (hx : (x.c, x.s) ∈ l ∧ x.t = joinT L x.c) (hn : x.c ∉ es.map (·.c))
    (hown : w4.ownsRow (w0.heap.size + 2) 94 3 v' (es.length + 1) (es.flatMap encE ++ encE x)) (hg : (w3.alloc o).grownBy w4 v.ownBlock) (hat : v'.ownBlock = v.ownBlock ∨ v'.ownBlock = some (w3.heap.size + 1)) :
    LxM w0 L l (w4.setCell ⟨w0.heap.size, 0, none⟩ v') v' (es ++ [x]) ∧ w3.grownBy w4 v.ownBlock := by
  have hlt : w0.heap.size < w3.heap.size := (Array.getElem?_eq_some_iff.1 h.box).1
  have hg3 : w3.grownBy w4 v.ownBlock := (World.grownBy_alloc w3 o v.ownBlock).trans hg
  have hvb : ∀ k, v.ownBlock = some k → w0.heap.size + 2 ≤ k := fun k hk => (h.row.lt _ hk).1
  have hbox4 : w4.heap[w0.heap.size]? = some (.cells #[v] 91) := (hg3.block _ hlt (fun e => by have := hvb _ e.symm; omega)).trans h.box
  have hgs : w4.grownBy (w4.setCell ⟨w0.heap.size, 0, none⟩ v') (some w0.heap.size) := grownBy_setCell' w4 w0.heap.size v'
  have hmem4 : ∀ y : EntV, ReadsO w3 y.ao (ints y.c) → (∀ b o, y.ao = some ⟨b, o, none⟩ → w0.heap.size + 2 ≤ b ∧ b < w3.heap.size ∧ v.ownBlock ≠ some b) →
      ReadsO (w4.setCell ⟨w0.heap.size, 0, none⟩ v') y.ao (ints y.c) ∧ (∀ b o, y.ao = some ⟨b, o, none⟩ → w0.heap.size + 2 ≤ b ∧ b < (w4.setCell ⟨w0.heap.size, 0, none⟩ v').heap.size ∧ v'.ownBlock ≠ some b) := by
    intro y h1 h2
    refine ⟨readsO_turn (readsO_turn h1 hg3 (fun b o e e2 => (h2 b o e).2.2 e2.symm)) hgs (fun b o e e2 => by injection e2 with e2; have := (h2 b o e).1; omega), fun b o e => ⟨(h2 b o e).1, ?_, ?_⟩⟩
    · exact Nat.lt_of_lt_of_le (h2 b o e).2.1 (Nat.le_trans hg3.size hgs.size)
    · rcases hat with e2 | e2
      · rw [e2]; exact (h2 b o e).2.2
      · rw [e2]; intro e3; injection e3 with e3; have := (h2 b o e).2.1; omega
  refine ⟨⟨?_, ?_, ?_, ?_, ?_, ?_⟩, hg3⟩
  · exact (show Boxed w4 w0.heap.size 91 v from hbox4).set v'
  · rw [flat_snoc, List.length_append]
    exact row_turn hown hgs (fun b hb _ e => by injection e with e; omega)
  · intro y hy
    rcases List.mem_append.1 hy with hy | hy
    · exact hmem4 y (h.mem y hy).1 (h.mem y hy).2
    · rw [List.mem_singleton.1 hy]; exact hmem4 x hr hb
  · intro y hy
    rcases List.mem_append.1 hy with hy | hy
    · exact h.ent y hy
    · rw [List.mem_singleton.1 hy]; exact hx
  · rw [List.map_append, List.nodup_append]
    refine ⟨h.nod, by simp, fun a ha b hb e => ?_⟩
    simp at hb
    rw [e, hb] at ha
    exact hn ha
  · exact ((h.bel.grown hg3 (Nat.le_of_lt hlt) (fun k e => by have := hvb k e; omega)).grown hgs (Nat.le_trans (Nat.le_of_lt hlt) hg3.size) (fun k e => by injection e with e; omega))
end Go.Proofs.YtcocbjipikeebaaGreatDoor.Utf
/-
  The program's numbers walked: the letters of the ranks, as a new list.
-/
namespace Go.Proofs.YtcocbjipikeebaaGreatDoor.Utf
open Go Go.Lib Go.RowKit

/-- The number of the letter of a rank. -/
def rkN (rk : List Nat) (r : Nat) : Nat := (rk[r]?).getD 0
theorem ownsRow_ints (w : World) (n : Nat) (hm : n ≤ maxLen) : (w.alloc (.cells (madeCells #[.int .i64 0] n) 3)).ownsRow w.heap.size 3 1 (.slice (some ⟨w.heap.size, 0, none⟩) n n) n (List.replicate n (.int .i64 0)) := by
  refine ⟨by simp, .inr ⟨w.heap.size, n, _, rfl, Nat.le_refl _, heap_alloc_new w _, Nat.le_refl _, hm, by simp [size_madeCells], ?_⟩⟩
  rw [toList_madeCells_one, Nat.mul_one, List.take_of_length_le (by simp)]
/-- Some letters' numbers, and noughts for the rest. -/
def numFill (rk : List Nat) (p : List Nat) (k : Nat) : List Value := nums ((p.take k).map (rkN rk)) ++ List.replicate (p.length - k) (Value.int .i64 0)
theorem numFill_zero (rk p : List Nat) : numFill rk p 0 = List.replicate p.length (Value.int .i64 0) := by simp [numFill, nums]
theorem numFill_full (rk p : List Nat) : numFill rk p p.length = nums (p.map (rkN rk)) := by simp [numFill]
theorem numFill_next (rk p : List Nat) {k : Nat} (h : k < p.length) : (numFill rk p k).set k (.int .i64 ((rkN rk p[k] : Nat) : Int)) = numFill rk p (k + 1) := by
  unfold numFill
  have hl : (nums ((p.take k).map (rkN rk))).length = k := by rw [nums_len, List.length_map, List.length_take]; omega
  rw [List.set_append_right _ _ (by omega), hl, Nat.sub_self, show p.length - k = (p.length - (k + 1)) + 1 by omega, List.replicate_succ, List.set_cons_zero, List.take_succ_eq_append_getElem h, List.map_append, show List.map (rkN rk) [p[k]] = [rkN rk p[k]] from rfl, nums_snoc, List.append_assoc]
  rfl

end Go.Proofs.YtcocbjipikeebaaGreatDoor.Utf
/-
  The program's lexicon: the map's entries, in their order, each with its text.
-/
namespace Go.Proofs.YtcocbjipikeebaaGreatDoor.Utf
open Go Go.Lib Go.RowKit

theorem infoEnt : (Tryz.prog.info? 94).map (fun i => (i.zero, i.size, i.bytes)) = some (some (.agg #[.slice none 0 0, .string ⟨#[]⟩, .int .i64 0]), 3, 48) := by kernel_rfl
/-- What is left to come, and what has come. -/
def LeftE (l : List (List Int × Int)) (left : Lit → Bool) (es : List EntV) : Prop := ∀ x ∈ l, (left (.string (mkB x.1)) = false ↔ x.1 ∈ es.map (·.c))
theorem LeftE.start {D : DU} {l : List (List Int × Int)} (h : ScD D l) : LeftE l (Maps.has D) [] := fun x hx => by
  have := Maps.has_true_of_atKey (h.at_ x.1 x.2 hx)
  rw [this]
  simp
theorem LeftE.step {D : DU} {l : List (List Int × Int)} (h : ScD D l) {left : Lit → Bool} {es : List EntV} (hL : LeftE l left es) (y : EntV) (hb2 : ∀ z ∈ y.c, isBt z) :
    LeftE l (fun z => left z && !z.sameKey (.string (mkB y.c))) (es ++ [y]) := fun x hx => by
  have hb1 := h.byt _ hx
  rw [List.map_append, List.mem_append]
  show (left _ && !Lit.sameKey _ _) = false ↔ _
  by_cases e : x.1 = y.c
  · rw [e, WideAt.sameKey_self (a := .string (mkB y.c)) trivial]
    simp
  · have : (Lit.string (mkB x.1)).sameKey (.string (mkB y.c)) = false := Maps.sameKey_ne (fun hh => by injection hh with hh; exact e (mkB_inj hb1 hb2 hh))
    rw [this]
    simp only [Bool.not_false, Bool.and_true]
    rw [hL x hx]
    simp [e]
/-- What comes out of the map is an entry. -/
theorem came {D : DU} {l : List (List Int × Int)} (h : ScD D l) {x : ByteArray} {c : Int} {kl : Lit} {y : DU × List MemPlace} (hk : keyOf Tryz.prog 9 (.string x) = some kl) (hv : plainElem Tryz.prog 3 (.int .i64 c) = some y) (hat : ∀ zd, D.atKey kl zd = y.1) :
    ∃ p, (p, c) ∈ l ∧ x = ⟨(mkB p).toArray⟩ ∧ kl = .string (mkB p) := by
  have hh := Maps.has_true_of_atKey hat
  obtain ⟨e, he, rfl⟩ := h.keys _ hh
  obtain ⟨s, e1, e2, _⟩ := WideMaps.string_of_keyOf Tryz.underlying9 hk
  injection e1 with e1
  subst e1
  injection e2 with e2
  obtain ⟨a, e3, e4, _⟩ := plainElem_int_inv Tryz.underlying3 hv
  injection e3 with _ e3
  have h1 := h.at_ e.1 e.2 he (.lit (.int .i64 0))
  rw [hat, e4] at h1
  injection h1 with h1
  injection h1 with _ h1
  refine ⟨e.1, by rw [e3, h1]; exact he, ba_eq (by rw [← e2]), rfl⟩

theorem nodup_le : ∀ (a b : List (List Int)), a.Nodup → (∀ x ∈ a, x ∈ b) → a.length ≤ b.length
  | [], _, _, _ => Nat.zero_le _
  | x :: a, b, hn, hs => by
    obtain ⟨h1, h2⟩ := List.nodup_cons.1 hn
    have hx := hs x (by simp)
    have := nodup_le a (b.erase x) h2 (fun y hy => (List.mem_erase_of_ne (fun e : y = x => h1 (by rw [← e]; exact hy))).2 (hs y (by simp [hy])))
    rw [List.length_erase_of_mem hx] at this
    have := List.length_pos_of_mem hx
    simp only [List.length_cons]
    omega
theorem LxM.len {w0 : World} {L : List ByteArray} {l : List (List Int × Int)} {wr : World} {v : Value} {es : List EntV} (h : LxM w0 L l wr v es) : es.length ≤ l.length := by
  have := nodup_le (es.map (·.c)) (l.map (·.1)) h.nod (fun x hx => by
    obtain ⟨y, hy, rfl⟩ := List.mem_map.1 hx
    exact List.mem_map.2 ⟨_, (h.ent y hy).1, rfl⟩)
  simpa using this
theorem cells3_new (w : World) (x y z : Value) (t : TypeId) : ∀ j u, [x, y, z][j]? = some u → (w.alloc (.cells #[x, y, z] t)).cell? ((⟨w.heap.size, 0, none⟩ : Addr).add j) = some u := by
  intro j u h
  have : (w.alloc (.cells #[x, y, z] t)).cell? ⟨w.heap.size, j, none⟩ = some u := box_at w _ t j (by simpa using h)
  rw [Addr.add_lit]
  simpa using this
theorem row_slice {W : World} {B n z : Nat} {e : TypeId} {v : Value} {xs : List Value} (h : W.ownsRow B e z v n xs) : ∃ ao cap, v = .slice ao n cap := by
  rcases h.2 with ⟨rfl, h0⟩ | ⟨g, cap, cur, e1, _⟩
  · exact ⟨none, 0, by rw [h0]⟩
  · exact ⟨_, cap, e1⟩
def inF (p : List Int) (k : Nat) : List Value := (p.take k).map (Value.int .i64) ++ List.replicate (p.length - k) (Value.int .i64 0)
theorem inF_zero (p : List Int) : inF p 0 = List.replicate p.length (Value.int .i64 0) := by simp [inF]
theorem inF_full (p : List Int) : inF p p.length = ints p := by unfold inF ints; rw [List.take_length, Nat.sub_self, List.replicate_zero, List.append_nil]
theorem inF_next (p : List Int) {k : Nat} (h : k < p.length) : (inF p k).set k (.int .i64 p[k]) = inF p (k + 1) := by
  unfold inF
  have hl : ((p.take k).map (Value.int .i64)).length = k := by rw [List.length_map, List.length_take]; omega
  rw [List.set_append_right _ _ (by omega), hl, Nat.sub_self, show p.length - k = (p.length - (k + 1)) + 1 by omega, List.replicate_succ, List.set_cons_zero, List.take_succ_eq_append_getElem h, List.map_append, List.append_assoc]
  rfl
theorem key_at {p : List Int} (hp : ∀ z ∈ p, isBt z) {k : Nat} (h : k < p.length) (w : World) : (Instr.index 9 (.string ⟨(mkB p).toArray⟩) (.int .i64 (k : Int))).run Tryz.prog w = .ok (.int .u8 p[k]) w := by
  have hk : ((⟨(mkB p).toArray⟩ : ByteArray)).size = p.length := by show (mkB p).toArray.size = _; rw [List.size_toArray, mkB_length]
  have hz := hp p[k] (List.getElem_mem h)
  unfold isBt at hz
  have hb : ((⟨(mkB p).toArray⟩ : ByteArray)[k]'(by omega)).toNat = p[k].toNat := by
    show ((mkB p).toArray[k]'_).toNat = _
    simp only [mkB, List.getElem_toArray, List.getElem_map]
    rw [UInt8.toNat_ofNat', Nat.mod_eq_of_lt (by omega)]
  rw [run_index_string w 9 _ .i64 _ Tryz.underlying9, dif_pos ⟨by omega, by rw [hk]; omega⟩]
  simp only [Int.toNat_natCast]
  rw [hb, show ((p[k].toNat : Nat) : Int) = p[k] by omega]

/-- The lexicon of the entries l, in memory from base on. -/
structure IsLex (W : World) (base xb : Nat) (L : List ByteArray) (l : List (List Int × Int)) : Prop where
  obj : ∃ wo cap, W.heap[xb]? = some (.cells #[.slice wo l.length cap] 91) ∧ ∀ i (hi : i < l.length), ∃ g ao cp, wo = some ⟨g, 0, none⟩ ∧ (base ≤ g ∧ g < W.heap.size) ∧
    W.cell? ⟨g, i * 3 + 0, none⟩ = some (.slice ao l[i].1.length cp) ∧ (ReadsO W ao (ints l[i].1) ∧ ∀ b o, ao = some ⟨b, o, none⟩ → base ≤ b) ∧ W.cell? ⟨g, i * 3 + 1, none⟩ = some (.string (joinT L l[i].1)) ∧ W.cell? ⟨g, i * 3 + 2, none⟩ = some (.int .i64 l[i].2)
  at_ : base ≤ xb
theorem flat_enc : ∀ (es : List EntV) (i r : Nat) (hi : i < es.length), r < 3 → (es.flatMap encE)[i * 3 + r]? = (encE es[i])[r]?
  | [], i, _, hi, _ => by cases hi
  | x :: es, 0, r, _, hr => by
    rw [List.flatMap_cons, Nat.zero_mul, Nat.zero_add, List.getElem?_append_left (by show r < 3; omega)]
    rfl
  | x :: es, i + 1, r, hi, hr => by
    rw [List.flatMap_cons, List.getElem?_append_right (by show 3 ≤ _; omega), show (i + 1) * 3 + r - (encE x).length = i * 3 + r by show (i + 1) * 3 + r - 3 = _; omega, flat_enc es i r (by simpa using hi) hr]
    rfl
theorem rowE_owns {W : World} {B g cap : Nat} {es : List EntV} (h : W.ownsRow B 94 3 (.slice (some ⟨g, 0, none⟩) es.length cap) es.length (es.flatMap encE)) : RowE W g es := by
  have key : ∀ i r (hi : i < es.length) (hr : r < 3), W.cell? ⟨g, i * 3 + r, none⟩ = (encE es[i])[r]? := fun i r hi hr => by
    rw [← flat_enc es i r hi hr]
    exact h.cellAt (i * 3 + r) (by omega)
  exact fun i hi => ⟨⟨key i 0 hi (by decide), h.frozenAt _⟩, ⟨key i 1 hi (by decide), h.frozenAt _⟩, ⟨key i 2 hi (by decide), h.frozenAt _⟩⟩
theorem LxM.lex {w0 : World} {L : List ByteArray} {l : List (List Int × Int)} {wr w' : World} {g cap : Nat} {es es' : List EntV} (h : LxM w0 L l wr (.slice (some ⟨g, 0, none⟩) es.length cap) es) (hall : ∀ x ∈ l, x.1 ∈ es.map (·.c)) (hs : SortL l)
    (hS : Sorts es es') (hR : RowE w' g es') (hg : wr.grownBy w' (some g)) : IsLex w' w0.heap.size w0.heap.size L l ∧ Below w0.heap.size w0 w' := by
  have hgb := h.row.lt g rfl
  have hlt : w0.heap.size < wr.heap.size := (Array.getElem?_eq_some_iff.1 h.box).1
  have he : es'.map (fun x => (x.c, x.s)) = l := by
    refine sortL_unique ?_ hs (fun x => ?_)
    · unfold SortL
      rw [List.pairwise_map]
      exact hS.sort
    · constructor
      · intro hx
        obtain ⟨y, hy, rfl⟩ := List.mem_map.1 hx
        exact (h.ent y (hS.perm.mem_iff.1 hy)).1
      · intro hx
        obtain ⟨y, hy, hc⟩ := List.mem_map.1 (hall x hx)
        have h1 := (lookL_mem hs).2 (h.ent y hy).1
        have h2 := (lookL_mem hs (c := x.1) (s := x.2)).2 hx
        rw [hc, h2] at h1
        injection h1 with h1
        refine List.mem_map.2 ⟨y, hS.perm.mem_iff.2 hy, ?_⟩
        exact Prod.ext hc h1.symm
  have hll : es.length = l.length := by rw [← he, List.length_map, hS.perm.length_eq]
  have hel : es'.length = l.length := by rw [← he, List.length_map]
  refine ⟨⟨⟨some ⟨g, 0, none⟩, cap, ?_, fun i hi => ?_⟩, Nat.le_refl _⟩, h.bel.grown hg (Nat.le_of_lt hlt) (fun k e => by injection e with e; omega)⟩
  · rw [← hll]
    exact (hg.block _ hlt (fun e => by injection e with e; omega)).trans h.box
  · obtain ⟨k0, k1, k2⟩ := hR i (by omega)
    have hm := hS.perm.mem_iff.1 (List.getElem_mem (l := es') (n := i) (by omega))
    obtain ⟨m1, m2⟩ := h.mem _ hm
    have hli : l[i] = (es'[i].c, es'[i].s) := by
      have := List.getElem_map (fun x : EntV => (x.c, x.s)) (l := es') (i := i) (h := by rw [List.length_map]; omega)
      rw [← this]
      congr 1
      exact he.symm
    rw [hli]
    refine ⟨g, es'[i].ao, es'[i].cap, rfl, ⟨by omega, Nat.lt_of_lt_of_le hgb.2 hg.size⟩, k0.1, ⟨readsO_turn m1 hg (fun b o e e2 => (m2 b o e).2.2 e2.symm), fun b o e => by have := (m2 b o e).1; omega⟩, ?_, k2.1⟩
    rw [← (h.ent _ hm).2]
    exact k1.1

set_option maxRecDepth 100000 in
set_option maxHeartbeats 4000000 in
theorem lexi_any {W : World} {b : Nat} {L : List ByteArray} {rk : List Nat} (hA : IsAlpha W b L rk) (hLs : ∀ x ∈ L, x.size ≤ 12) (B n : Nat) (l : List (List Int × Int)) (hW : ScW W B n l) (hok : okE L l) (hl : l.length ≤ 1000) :
    Calls Tryz.prog 38 #[.map (some B), .pointer (some ⟨b, 0, none⟩)] W fun e w' => e = .returned (.pointer (some ⟨W.heap.size, 0, none⟩)) ∧ IsLex w' W.heap.size W.heap.size L l ∧ Below W.heap.size W w' := by
  obtain ⟨i0, hi0, hz0, hz1, hz2⟩ := info_parts infoEnt
  obtain ⟨D, hD, hown0⟩ := hW
  have hBlt := hown0.lt
  have HA : Aside (∀ w, Below W.heap.size W w → IsAlpha w b L rk) := fun w hb => hA.below hb
  have hown := hown0.alloc (.cells #[.slice none 0 0] 91)
  clear hA hown0
  have HST : Aside (LeftE l (Maps.has D) []) := LeftE.start hD
  go_enter Tryz.func38, Tryz.ntmps38
  go_wp2_with (first | (at_range; refine wpList_range_own _ rfl _ 75 rfl 9 3 keyStr Tryz.underlying75 _ B n D rfl hown ?_; intro w0 hrg0 hg0 hs0) | fail)
  go_frame
  rw [World.size_alloc] at hrg0 hs0
  simp only [World.size_alloc]
  have hM0 : LxM W L l w0 (.slice none 0 0) [] := by
    refine ⟨(hg0.block _ (by simp) (by simp)).trans (heap_box W _), World.ownsRow_nil _ _ _ _, fun _ h => (by cases h), fun _ h => (by cases h), List.nodup_nil, (below_box' W _).grown hg0 (by simp) (fun k e => by cases e)⟩
  have HM0 : Aside (LxM W L l w0 (.slice none 0 0) []) := hM0
  clear hM0 hg0 hown
  go_loopw [6] (fun _ wr => ∃ left cnt v es, wr.ranges Tryz.prog 9 (plainElem Tryz.prog 3) B (W.heap.size + 1) n D left cnt ∧ Aside (LxM W L l wr v es) ∧ Aside (LeftE l left es)) (fun _ wr => wr.rangeLeft B (W.heap.size + 1))
  case atStart => exact ⟨_, _, _, _, hrg0, HM0, HST⟩
  case round =>
    obtain ⟨left, cnt, v, es, hrg, HM, HL⟩ := hrel
    go_wp2_with (first | (at_next; refine wpList_next_ranges _ rfl _ rfl 9 keyStr _ Value.string (Value.int .i64) (fun key kl hkey => by obtain ⟨s, e1, _⟩ := WideMaps.string_of_keyOf Tryz.underlying9 hkey; exact ⟨s, e1⟩) (fun u y hv => by obtain ⟨c, rfl, _⟩ := plainElem_int_inv Tryz.underlying3 hv; exact ⟨c, rfl⟩) B (W.heap.size + 1) n D left cnt rfl hrg ?_ ?_) | fail)
    · intro hc0 hl0
      have hall : ∀ x ∈ l, x.1 ∈ es.map (·.c) := fun x hx => (HL.out x hx).1 (hl0 _)
      obtain ⟨av, cv, rfl⟩ := row_slice HM.out.row
      have bx : Boxed wr W.heap.size 91 (.slice av es.length cv) := HM.out.box
      have hsrt := hD.sort
      have hlen := HM.out.len
      by_cases h0 : es.length = 0
      · obtain rfl := List.eq_nil_of_length_eq_zero h0
        have hl2 : l = [] := by
          cases l with
          | nil => rfl
          | cons x l => have := hall x (by simp); cases this
        have cS := Go.Proofs.AnyF.slices_SortFunc_none Go.Proofs.Tryz.sortEn av cv (.func (.func 65) #[] #[]) wr
        change Calls Tryz.prog 64 _ _ _ at cS
        simp only [List.length_nil] at bx
        have cx := bx.cell
        have HF : Aside (IsLex wr W.heap.size W.heap.size L l ∧ Below W.heap.size W wr) := by
          subst hl2
          exact ⟨⟨⟨av, cv, bx, fun i hi => by cases hi⟩, Nat.le_refl _⟩, HM.out.bel⟩
        clear bx hrg hl0 hall
        go_wp2_with fail
        refine cS.mono ?_
        rintro e w2 ⟨rfl, hw⟩
        obtain rfl := hw.symm
        go_wp2
        go_ret
        exact ⟨rfl, HF.out.1, HF.out.2⟩
      · obtain ⟨g, rfl⟩ : ∃ g, av = some ⟨g, 0, none⟩ := by
          rcases HM.out.row.2 with ⟨_, h⟩ | ⟨g, cap, cur, e, _⟩
          · exact absurd h h0
          · injection e with e; exact ⟨g, e⟩
        have cS := sort_any es (by omega) (by omega) g cv wr (HM.out.row.lt g rfl).2 (rowE_owns HM.out.row) (fun x hx => by have : x.c.length ≤ 32 := (hok _ (HM.out.ent x hx).1).1; omega) (fun x hx => ⟨(HM.out.mem x hx).1, fun b o e h => ((HM.out.mem x hx).2 b o e).2.2 (by rw [h]; rfl)⟩) (by
          have := HM.out.nod
          unfold List.Nodup at this
          rw [List.pairwise_map] at this
          exact this)
        have cx := bx.cell
        have HF : Aside (∀ w2 es', Sorts es es' → RowE w2 g es' → wr.grownBy w2 (some g) → IsLex w2 W.heap.size W.heap.size L l ∧ Below W.heap.size W w2) := fun w2 es' h1 h2 h3 => HM.out.lex hall hsrt h1 h2 h3
        clear bx hrg hl0 hall
        go_wp2_with fail
        refine cS.mono ?_
        rintro e w2 ⟨rfl, ⟨es', hS, hR⟩, hg⟩
        have HG := HF.out w2 es' hS hR hg
        clear hS hR hg cS
        go_wp2
        go_ret
        exact ⟨rfl, HG.1, HG.2⟩
    · intro x c kl a1 b1 w1 cnt1 hkx hlk hv hat hrg1 hlt hg1 hs1 hen
      obtain ⟨p, hp, rfl, rfl⟩ := came hD hkx (y := (a1, b1)) hv hat
      obtain ⟨hp32, hpn, hc1, hc2, _⟩ := hok _ hp
      have hpb : ∀ z ∈ p, isBt z := hD.byt _ hp
      replace hp32 : p.length ≤ 32 := hp32
      replace hc1 : 0 ≤ c := hc1
      replace hc2 : c ≤ 100 := hc2
      replace hpn : okNums L p := hpn
      have HM1 : Aside (LxM W L l w1 v es) := HM.out.turn hg1
      have HNW : Aside (p ∉ es.map (·.c)) := fun h => by
        have := ((HL.out _ hp).2 h)
        rw [hlk] at this
        cases this
      have HLN : Aside (∀ y : EntV, y.c = p → LeftE l (fun z => left z && !z.sameKey (.string (mkB p))) (es ++ [y])) := fun y hy => by
        have := LeftE.step hD HL.out y (by rw [hy]; exact hpb)
        rw [hy] at this
        exact this
      have HKI : Aside (∀ (k : Nat) (h : k < p.length) (w : World), (Instr.index 9 (.string ⟨(mkB p).toArray⟩) (.int .i64 (k : Int))).run Tryz.prog w = .ok (.int .u8 p[k]) w) := fun k h w => key_at hpb h w
      have hks : ((⟨(mkB p).toArray⟩ : ByteArray)).size = p.length := by show (mkB p).toArray.size = _; rw [List.size_toArray, mkB_length]
      have HMS : Aside (wr.rangeLeft B (W.heap.size + 1) = cnt ∧ cnt1 < cnt) := ⟨hrg.left_eq, hlt⟩
      have HPN : Aside (okNums L p ∧ ∀ z ∈ p, isBt z) := ⟨hpn, hpb⟩
      have hb1 : W.heap.size + 2 ≤ w1.heap.size := hrg1.lt
      have HRG : Aside (w1.ranges Tryz.prog 9 (plainElem Tryz.prog 3) B (W.heap.size + 1) n D (fun z => left z && !z.sameKey (.string (mkB p))) cnt1) := hrg1
      clear hkx hlk hv hat hrg1 hlt hg1 hs1 hrg hpn hpb HM HL
      generalize (⟨(mkB p).toArray⟩ : ByteArray) = K at *
      obtain ⟨M, hM⟩ : ∃ M, M = madeCells #[.int .i64 0] p.length := ⟨_, rfl⟩
      obtain ⟨j0, hi, hy0, hy1, hy2⟩ := info_parts infoInt'
      have hmk : ∀ W : World, (Instr.makeSlice 30 (.int .i64 (p.length : Int)) (.int .i64 (p.length : Int))).run Tryz.prog W = .ok (.slice (some ⟨W.heap.size, 0, none⟩) p.length p.length) (W.alloc (.cells M 3)) := fun W => by
        have h := run_make (P := Tryz.prog) W 30 3 j0 (.int .i64 0) Tryz.underlying30 hi hy0 .i64 .i64 (p.length : Int) (p.length : Int) (by omega) (by omega) (by rw [hy2]; omega) (by omega)
        rw [Int.toNat_natCast, hy1, Nat.mul_one] at h
        rw [hM]
        exact h
      have o0 := ownsRow_ints w1 p.length (by unfold maxLen; omega)
      rw [← hM, ← inF_zero p] at o0
      have hb0 : Below w1.heap.size w1 (w1.alloc (.cells M 3)) := (Below.refl _ _).alloc (Nat.le_refl _) _
      clear hM hy0 hy1 hy2 hi
      go_wp2
      go_loopg [26] p.length (fun g1 vi wq => ∃ k : Nat, vi = .int .i64 (k : Int) ∧ k ≤ p.length ∧ p.length - k ≤ g1 ∧ wq.ownsRow w1.heap.size 3 1 (.slice (some ⟨w1.heap.size, 0, none⟩) p.length p.length) p.length (inF p k) ∧ Aside (Below w1.heap.size w1 wq))
      case atStart => exact ⟨0, rfl, Nat.zero_le _, Nat.le_refl _, o0, hb0⟩
      case round =>
        clear o0 hb0 hmk
        obtain ⟨k, rfl, hk, hg1, hown, hB⟩ := hrel
        by_cases hlt : k < p.length
        · have hltz : (k : Int) < (p.length : Int) := by omega
          have hki := HKI.out k hlt
          have hpk := HPN.out.2 p[k] (List.getElem_mem hlt)
          unfold isBt at hpk
          have hn := inF_next p hlt
          obtain ⟨u, hcg⟩ : ∃ u, wr.cell? ⟨w1.heap.size, k, none⟩ = some u := ⟨(inF p k)[k]'(by unfold inF; rw [List.length_append, List.length_map, List.length_take, List.length_replicate]; omega), by rw [hown.cellAt k (by omega)]; exact List.getElem?_eq_getElem _⟩
          have hfg := hown.frozenAt k
          have st := (hown.stored k (.int .i64 p[k])).1
          rw [hn] at st
          have HBn : Aside (Below w1.heap.size w1 (wr.setCell ⟨w1.heap.size, k, none⟩ (.int .i64 p[k]))) := hB.out.setCell (p := ⟨w1.heap.size, k, none⟩) (Nat.le_refl _) _
          clear hn hown
          generalize p[k] = x at *
          go_wp2
          (try go_big_region)
          go_wp2
          go_roundg (p.length - (k + 1))
          case measure => omega
          case rel => exact ⟨k + 1, by go_num, by omega, Nat.le_refl _, by first | exact st | exact st.drew, by first | exact HBn | exact Below.drew HBn.out⟩
        · have hltz : ¬ (k : Int) < (p.length : Int) := by omega
          obtain rfl : k = p.length := by omega
          rw [inF_full] at hown
          have HM2 : Aside (LxM W L l wr v es) := HM1.out.turn (below_but hB.out _)
          have cJ := join_any (HA.out wr HM2.out.bel) hLs p (some ⟨w1.heap.size, 0, none⟩) p.length (by omega) (row_reads hown |> fun h => by obtain ⟨ao, cap, e, h⟩ := h; injection e with e1 e2 e3; rw [e1]; exact h.o)
          have hRo : ReadsO wr (some ⟨w1.heap.size, 0, none⟩) (ints p) := by
            obtain ⟨ao, cap, e, h⟩ := row_reads hown
            injection e with e1 e2 e3
            rw [e1]
            exact h.o
          have hw1 : w1.heap.size < wr.heap.size := (hown.lt w1.heap.size rfl).2
          have hbw := HM1.out.bel.size
          have hvb : ∀ k, v.ownBlock = some k → k < w1.heap.size := fun k hk => (HM1.out.row.lt k hk).2
          clear hown HKI hks HM1
          go_wp2_with fail
          refine cJ.mono ?_
          clear cJ
          rintro e w3 ⟨(⟨_, rfl⟩ | ⟨hno, _⟩), hb3⟩
          · have HM3 : Aside (LxM W L l w3 v es) := HM2.out.turn (below_but hb3 _)
            have hlen := HM3.out.len
            have bx : Boxed w3 W.heap.size 91 v := HM3.out.box
            have cx := bx.cell
            have hR3 : Aside (ReadsO w3 (some ⟨w1.heap.size, 0, none⟩) (ints p)) := hRo.below hb3
            have hs3 := hb3.size
            go_wp2_with (at_builtin; refine wpList_append_own_at _ rfl _ _ 89 rfl (W.heap.size + 2) 94 i0 (.agg #[.slice none 0 0, .string ⟨#[]⟩, .int .i64 0]) 3 48 Tryz.underlying89 hi0 hz0 hz1 hz2 rfl (by decide) _ _ _ rfl (HM3.out.row.alloc _) ⟨w3.heap.size, 0, none⟩ 1 1 [.slice (some ⟨w1.heap.size, 0, none⟩) p.length p.length, .string (joinT L p), .int .i64 c] rfl rfl (cells3_new _ _ _ _ _) (by simp [Value.oneCell']) (by unfold maxLen; omega) (by omega) (by rw [World.size_alloc]; omega) ?_)
            intro v' w4 hown' hgrow _ hat'
            obtain ⟨ao', cap', rfl⟩ := row_slice hown'
            have hne : (⟨some ⟨w1.heap.size, 0, none⟩, p.length, p, joinT L p, c⟩ : EntV).c ∉ es.map (·.c) := HNW.out
            have hvne : ∀ k, v.ownBlock = some k → W.heap.size + 2 ≤ k := fun k hk => (HM3.out.row.lt k hk).1
            have hnx := LxM.next HM3.out (x := ⟨some ⟨w1.heap.size, 0, none⟩, p.length, p, joinT L p, c⟩) _ hR3.out (fun b o e => by
              injection e with e; injection e with e1 e2
              subst e1
              exact ⟨hb1, by omega, fun h => absurd (hvb _ h) (by omega)⟩) ⟨hp, rfl⟩ hne hown' hgrow (by first | exact hat' | (rw [World.size_alloc] at hat'; exact hat'))
            have bx4 : Boxed w4 W.heap.size 91 v := (hnx.2.block _ bx.lt (fun e => by have := hvne _ e.symm; omega)).trans bx
            have cx4 := bx4.cell
            have fx4 := bx4.frozen
            have hr3 : Aside ((w4.setCell ⟨W.heap.size, 0, none⟩ (.slice ao' (es.length + 1) cap')).ranges Tryz.prog 9 (plainElem Tryz.prog 3) B (W.heap.size + 1) n D (fun z => left z && !z.sameKey (.string (mkB p))) cnt1) := by
              have k3 := (HRG.out.kept (row := none) (w' := w3) ⟨(hB.out.trans (hb3.mono hB.out.size)).os, (hB.out.trans (hb3.mono hB.out.size)).tape, (hB.out.trans (hb3.mono hB.out.size)).output, (hB.out.trans (hb3.mono hB.out.size)).size, fun k hk _ => (hB.out.trans (hb3.mono hB.out.size)).block k hk⟩ (by simp) (by simp))
              have k4 := k3.kept hnx.2 (fun e => by have := hvne _ e.symm; omega) (fun e => by have := hvne _ e.symm; omega)
              exact k4.kept (grownBy_setCell' w4 W.heap.size (.slice ao' (es.length + 1) cap')) (fun e => by injection e with e; omega) (fun e => by injection e with e; omega)
            have HX : Aside (LxM W L l (w4.setCell ⟨W.heap.size, 0, none⟩ (.slice ao' (es.length + 1) cap')) (.slice ao' (es.length + 1) cap') (es ++ [⟨some ⟨w1.heap.size, 0, none⟩, p.length, p, joinT L p, c⟩])) := hnx.1
            have HLX : Aside (LeftE l (fun z => left z && !z.sameKey (.string (mkB p))) (es ++ [⟨some ⟨w1.heap.size, 0, none⟩, p.length, p, joinT L p, c⟩])) := HLN.out _ rfl
            clear hown' hgrow hat' hnx bx4 bx cx HM3 HM2 hR3 hRo hvb hvne hne HNW HLN HRG hB hb3
            go_wp2
            go_roundw
            case rel => exact ⟨_, _, _, _, hr3.out, HX, HLX⟩
            case measure => rw [hr3.out.left_eq, HMS.out.1]; exact HMS.out.2
          · exact absurd HPN.out.1 hno
end Go.Proofs.YtcocbjipikeebaaGreatDoor.Utf
