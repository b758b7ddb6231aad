/-
  The document's Order: the order of words.
-/
import Derived.Test.YtcocbjipikeebaaGreatDoorGxt
import Derived.Deep.RegionWith
import Derived.Test.YtcocbjipikeebaaGreatDoorGxl
import Derived.Maps.AppendAt
namespace Go.Proofs.YtcocbjipikeebaaGreatDoor.Utf
open Go Go.Lib Go.RowKit

set_option maxRecDepth 10000 in
set_option maxHeartbeats 2000000 in
theorem refOrder_any (p q : List Int) (hl : p.length ≤ 4611686018427387904) (ap aq : Option Addr) (cp cq : Nat) (w : World) (hp : ReadsO w ap (ints p)) (hq : ReadsO w aq (ints q)) :
    Calls Tryz.prog 53 #[.slice ap p.length cp, .slice aq q.length cq] w fun e w' => e = .returned (.int .i64 (ordI p q)) ∧ Below w.heap.size w w' := by
  by_cases hpq : p.length = q.length
  · have HO : Aside (ordI p q = cmpL p q) := by show _ = _; unfold ordI; rw [if_pos (cmpI_zero.2 (by rw [hpq]))]
    have HP : Aside (∀ W, Below w.heap.size w W → ReadsO W ap (ints p)) := fun W hb => hp.below hb
    have HQ : Aside (∀ W, Below w.heap.size w W → ReadsO W aq (ints q)) := fun W hb => hq.below hb
    clear hp hq
    have hne : ((p.length : Int) != (q.length : Int)) = false := by rw [hpq]; simp
    go_enter Tryz.func53, Tryz.ntmps53
    go_wp2
    go_loopg [5] p.length (fun g1 iv wr => ∃ k : Nat, iv = .int .i64 (k : Int) ∧ k ≤ p.length ∧ p.length - k ≤ g1 ∧ Aside (cmpL p q = cmpL (p.drop k) (q.drop k)) ∧ Aside (Below w.heap.size w wr))
    case atStart => exact ⟨0, rfl, Nat.zero_le _, Nat.le_refl _, rfl, Below.refl _ _⟩
    case round =>
      obtain ⟨k, rfl, hk, hg1, HE, HB⟩ := hrel
      by_cases hlt : k < p.length
      · have hltz : (k : Int) < (p.length : Int) := by omega
        have hlq : k < q.length := by omega
        have hlqz : (k : Int) < (q.length : Int) := by omega
        obtain ⟨ga, oa, rfl, _, ea⟩ := HP.out wr HB.out k (by simpa [ints] using hlt)
        rw [ints_at _ hlt] at ea
        obtain ⟨gb, ob, rfl, _, eb⟩ := HQ.out wr HB.out k (by simpa [ints] using hlq)
        rw [ints_at _ hlq] at eb
        have HN : Aside (cmpL p q = if cmpI p[k] q[k] = 0 then cmpL (p.drop (k + 1)) (q.drop (k + 1)) else cmpI p[k] q[k]) := by
          show _ = _
          rw [HE.out, drop_at hlt, drop_at hlq, cmpL_cons]
        clear HE
        generalize p[k] = x at *
        generalize q[k] = y at *
        by_cases he : x = y
        · subst he
          rw [if_pos (cmpI_zero.2 rfl)] at HN
          have hb1 : Aside (Below w.heap.size w wr.drew) := Below.drew HB.out
          go_wp2
          go_big_region
          go_wp2
          go_roundg (p.length - (k + 1))
          case measure => omega
          case rel => exact ⟨k + 1, by go_num, by omega, Nat.le_refl _, HN, hb1⟩
        · have hxy : (x != y) = true := by rw [bne_iff_ne]; exact he
          rw [if_neg (fun h => he (cmpI_zero.1 h))] at HN
          have hb2 : Aside (Below w.heap.size w wr.drew.drew) := Below.drew (Below.drew HB.out)
          have ea2 : wr.drew.cell? ⟨ga, oa + k, none⟩ = some (.int .i64 x) := ea
          have eb2 : wr.drew.cell? ⟨gb, ob + k, none⟩ = some (.int .i64 y) := eb
          by_cases hxl : x < y
          · have HV : Aside (ordI p q = -1) := by show _ = _; rw [HO.out, HN.out]; unfold cmpI; rw [if_pos hxl]
            clear HN HO
            go_wp2
            go_big_region
            go_wp2
            go_big_region
            go_wp2
            go_ret
            rw [HV.out]
            exact ⟨rfl, hb2.out⟩
          · have HV : Aside (ordI p q = 1) := by show _ = _; rw [HO.out, HN.out]; unfold cmpI; rw [if_neg hxl, if_pos (by omega)]
            clear HN HO
            go_wp2
            go_big_region
            go_wp2
            go_big_region
            go_wp2
            go_ret
            rw [HV.out]
            exact ⟨rfl, hb2.out⟩
      · have hltz : ¬ (k : Int) < (p.length : Int) := by omega
        have HV : Aside (ordI p q = 0) := by
          show _ = _
          rw [HO.out, HE.out, List.drop_eq_nil_of_le (by omega), List.drop_eq_nil_of_le (by omega)]
          rfl
        clear HE HO
        go_wp2
        go_ret
        rw [HV.out]
        exact ⟨rfl, HB.out⟩
  · have hne : ((p.length : Int) != (q.length : Int)) = true := by rw [bne_iff_ne]; omega
    by_cases hlt : p.length < q.length
    · have HV : Aside (ordI p q = -1) := by
        show _ = _
        unfold ordI
        have : cmpI (p.length : Int) q.length = -1 := by unfold cmpI; rw [if_pos (by omega)]
        rw [this, if_neg (by decide)]
      have hltz : (p.length : Int) < (q.length : Int) := by omega
      clear hp hq
      go_enter Tryz.func53, Tryz.ntmps53
      go_wp2
      go_ret
      rw [HV.out]
      exact ⟨rfl, Below.refl _ _⟩
    · have HV : Aside (ordI p q = 1) := by
        show _ = _
        unfold ordI
        have : cmpI (p.length : Int) q.length = 1 := by unfold cmpI; rw [if_neg (by omega), if_pos (by omega)]
        rw [this, if_neg (by decide)]
      have hltz : ¬ (p.length : Int) < (q.length : Int) := by omega
      clear hp hq
      go_enter Tryz.func53, Tryz.ntmps53
      go_wp2
      go_ret
      rw [HV.out]
      exact ⟨rfl, Below.refl _ _⟩
end Go.Proofs.YtcocbjipikeebaaGreatDoor.Utf
/-
  The document's list of words in memory; its put and Find.
-/
namespace Go.Proofs.YtcocbjipikeebaaGreatDoor.Utf
open Go Go.Lib Go.RowKit

structure WdV where
  ao : Option Addr
  cap : Nat
  c : List Int
  s : Int
def encW (x : WdV) : List Value := [.slice x.ao x.c.length x.cap, .int .i64 x.s]
def toL (es : List WdV) : List (List Int × Int) := es.map fun x => (x.c, x.s)
theorem toL_len (es : List WdV) : (toL es).length = es.length := by simp [toL]
theorem toL_at {es : List WdV} {i : Nat} (h : i < es.length) : (toL es)[i]'(by rw [toL_len]; exact h) = (es[i].c, es[i].s) := by simp [toL]
theorem flatW_len (es : List WdV) : (es.flatMap encW).length = es.length * 2 := by
  induction es with
  | nil => rfl
  | cons x es ih => rw [List.flatMap_cons, List.length_append, ih, List.length_cons]; show 2 + _ = _; omega
theorem flatW_at : ∀ {es : List WdV} {i : Nat} (h : i < es.length), (es.flatMap encW)[i * 2]? = some (.slice es[i].ao es[i].c.length es[i].cap) ∧ (es.flatMap encW)[i * 2 + 1]? = some (.int .i64 es[i].s)
  | x :: es, 0, _ => ⟨rfl, rfl⟩
  | x :: es, i + 1, h => by
    have := flatW_at (es := es) (i := i) (by simpa using h)
    rw [List.flatMap_cons]
    have e1 : (encW x).length = 2 := rfl
    rw [show (i + 1) * 2 = i * 2 + 2 by omega, List.getElem?_append_right (by omega), e1, Nat.add_sub_cancel, show i * 2 + 2 + 1 = i * 2 + 1 + 2 by omega, List.getElem?_append_right (by omega), e1, Nat.add_sub_cancel]
    exact this
theorem flatW_set1 : ∀ {es : List WdV} {i : Nat} (_ : i < es.length) (n : Int), (es.flatMap encW).set (i * 2 + 1) (.int .i64 n) = (es.set i { es[i] with s := n }).flatMap encW
  | x :: es, 0, _, n => rfl
  | x :: es, i + 1, h, n => by
    have := flatW_set1 (es := es) (i := i) (by simpa using h) n
    have e1 : (encW x).length = 2 := rfl
    rw [List.flatMap_cons, List.set_append_right _ _ (by omega), e1, show (i + 1) * 2 + 1 - 2 = i * 2 + 1 by omega, this]
    rfl
theorem flatW_set : ∀ {es : List WdV} {i : Nat} (_ : i < es.length) (y : WdV), ((es.flatMap encW).set (i * 2) (.slice y.ao y.c.length y.cap)).set (i * 2 + 1) (.int .i64 y.s) = (es.set i y).flatMap encW
  | x :: es, 0, _, y => rfl
  | x :: es, i + 1, h, y => by
    have := flatW_set (es := es) (i := i) (by simpa using h) y
    have e1 : (encW x).length = 2 := rfl
    rw [List.flatMap_cons, List.set_append_right _ _ (by omega), e1, show (i + 1) * 2 - 2 = i * 2 by omega, List.set_append_right _ _ (by omega), e1, show (i + 1) * 2 + 1 - 2 = i * 2 + 1 by omega, this]
    rfl
/-- The document's words, in memory from B on. -/
structure IsWd (B : Nat) (W : World) (v : Value) (es : List WdV) : Prop where
  row : W.ownsRow B 32 2 v es.length (es.flatMap encW)
  mem : ∀ x ∈ es, ReadsO W x.ao (ints x.c) ∧ (x.ao = none → x.cap = 0) ∧ (∀ b o, x.ao = some ⟨b, o, none⟩ → B ≤ b ∧ b < W.heap.size ∧ v.ownBlock ≠ some b)
theorem IsWd.nil (B : Nat) (W : World) : IsWd B W (.slice none 0 0) [] := ⟨World.ownsRow_nil _ _ _ _, fun x h => by cases h⟩
theorem IsWd.turn {B : Nat} {W W' : World} {v : Value} {es : List WdV} {row : Option Nat} (h : IsWd B W v es) (hg : W.grownBy W' row) (hr : ∀ b, B ≤ b → some b ≠ row) : IsWd B W' v es := by
  refine ⟨row_turn h.row hg (fun b hb _ => hr b hb), fun x hx => ?_⟩
  obtain ⟨h1, h0, h2⟩ := h.mem x hx
  exact ⟨readsO_turn h1 hg (fun b o e => hr b (h2 b o e).1), h0, fun b o e => ⟨(h2 b o e).1, Nat.lt_of_lt_of_le (h2 b o e).2.1 hg.size, (h2 b o e).2.2⟩⟩
theorem IsWd.below {B : Nat} {W W' : World} {v : Value} {es : List WdV} (h : IsWd B W v es) (hb : Below W.heap.size W W') : IsWd B W' v es := h.turn (below_but hb none) (fun _ _ => by simp)
theorem IsWd.low {B B' : Nat} {W : World} {v : Value} {es : List WdV} (h : IsWd B W v es) (hb : B' ≤ B) : IsWd B' W v es := by
  refine ⟨?_, fun x hx => ⟨(h.mem x hx).1, (h.mem x hx).2.1, fun b o e => ⟨Nat.le_trans hb ((h.mem x hx).2.2 b o e).1, ((h.mem x hx).2.2 b o e).2⟩⟩⟩
  rcases h.row with ⟨h1, h2 | ⟨g, cap, cur, e1, e2, e3⟩⟩
  · exact ⟨h1, .inl h2⟩
  · exact ⟨h1, .inr ⟨g, cap, cur, e1, Nat.le_trans hb e2, e3⟩⟩
theorem IsWd.slice {B : Nat} {W : World} {v : Value} {es : List WdV} (h : IsWd B W v es) : ∃ ao cap, v = .slice ao es.length cap ∧ (ao = none → es = [] ∧ cap = 0) ∧ ∀ b o, ao = some ⟨b, o, none⟩ → o = 0 := by
  rcases h.row.2 with ⟨rfl, h0⟩ | ⟨g, cap, cur, e1, _⟩
  · exact ⟨none, 0, by rw [h0], fun _ => ⟨List.eq_nil_of_length_eq_zero h0, rfl⟩, fun b o e => by cases e⟩
  · exact ⟨_, cap, e1, fun e => (by cases e), fun b o e => by injection e with e; injection e with _ e; exact e.symm⟩
/-- The cells of an element. -/
theorem IsWd.at' {B : Nat} {W : World} {ao : Option Addr} {n cap : Nat} {es : List WdV} (h : IsWd B W (.slice ao n cap) es) {i : Nat} (hi : i < es.length) : ∃ g, ao = some ⟨g, 0, none⟩ ∧ W.cell? ⟨g, i * 2, none⟩ = some (.slice es[i].ao es[i].c.length es[i].cap) ∧ W.cell? ⟨g, i * 2 + 1, none⟩ = some (.int .i64 es[i].s) := by
  rcases h.row.2 with ⟨e, h0⟩ | ⟨g, cap', cur, e1, e2, e3, _⟩
  · omega
  · injection e1 with e1 e4 e5
    subst e1
    have := flatW_at hi
    refine ⟨g, rfl, ?_, ?_⟩
    · have k := h.row.cells (g := g) rfl (i * 2) _ this.1
      rwa [Addr.add_lit, Nat.zero_add] at k
    · have k := h.row.cells (g := g) rfl (i * 2 + 1) _ this.2
      rwa [Addr.add_lit, Nat.zero_add] at k

/-- append of a list that came in (it may be nil) to one of the call's own. -/
theorem wpList_append_src {P : Program} {w : World} {ops : Array Oper} {rest : List Oper} {o : Oper} {a : Act} {Q : Exit → Act → World → Prop} (hgd : o.guard = none) (s x : Operand) (t : TypeId)
    (ho : o.op = .call { callee := .builtin .append, args := #[s, x], argTypes := #[t, t] })
    (base : Nat) (e : TypeId) (i : TypeInfo) (z : Value) (bytes : Nat) (ht : P.underlying t = some (.slice e)) (hi : P.info? e = some i) (hz : i.zero = some z)
    (hsize : i.size = 1) (hby : i.bytes = bytes) (hzs : z.cells.size = 1)
    (v : Value) (n : Nat) (xs : List Value) (hs : a.eval s = v) (hown : w.ownsRow base e 1 v n xs)
    (ao : Option Addr) (m c : Nat) (news : List Value) (hx : a.eval x = .slice ao m c) (hao : ao = none → c = 0) (hm : news.length = m) (hsrc : ReadsO w ao news) (h1 : ∀ u ∈ news, u.oneCell' = true)
    (h63 : n + m ≤ maxLen) (hbytes : (n + m) * bytes ≤ 140737488355328) (hbase : base ≤ w.heap.size)
    (h : ∀ v' w', w'.ownsRow base e 1 v' (n + m) (xs ++ news) → w.grownBy w' v.ownBlock → (v'.ownBlock = v.ownBlock ∨ v'.ownBlock = some w.heap.size) → wpList P ops Q rest (a.put o.dst v') w') :
    wpList P ops Q (o :: rest) a w := by
  cases ao with
  | none =>
    obtain rfl := hao rfl
    have hn : news = [] := by
      cases news with
      | nil => rfl
      | cons u r => obtain ⟨g, o, h, _⟩ := hsrc 0 (by simp); cases h
    subst hn
    have hm0 : m = 0 := hm.symm
    subst hm0
    refine wpList_append_own_none hgd s x t ho base e i 1 ht hi v n xs hs hown hx (h v w ?_ ?_ (.inl rfl))
    · rw [List.append_nil, Nat.add_zero]; exact hown
    · exact ⟨rfl, rfl, rfl, Nat.le_refl _, fun _ _ _ => rfl⟩
  | some ad =>
    refine wpList_append_own_at w hgd s x t ho base e i z 1 bytes ht hi hz hsize hby hzs (by decide) v n xs hs hown ad m c news hx (by omega) (fun j u hu => ?_) h1 h63 hbytes hbase fun v' w' k1 k2 _ k4 => h v' w' k1 k2 k4
    have hj := (List.getElem?_eq_some_iff.1 hu).1
    obtain ⟨g, o, e1, e2, e3⟩ := hsrc j hj
    injection e1 with e1
    subst e1
    rw [Addr.add_lit, e3, ← hu, List.getElem?_eq_getElem hj]
theorem ints_one (zs : List Int) : ∀ u ∈ ints zs, u.oneCell' = true := fun u hu => by
  obtain ⟨x, _, rfl⟩ := List.mem_map.1 hu
  rfl
/-- Where a word belongs. -/
theorem putL_at {l : List (List Int × Int)} {k : Nat} {c : List Int} {s : Int} (hk : k ≤ l.length) (h1 : ∀ i (h : i < l.length), i < k → ordI l[i].1 c < 0) (h2 : ∀ h : k < l.length, 0 ≤ ordI l[k].1 c) :
    putL l c s = if h : k < l.length then (if ordI l[k].1 c = 0 then l.set k (l[k].1, max l[k].2 s) else l.take k ++ (c, s) :: l.drop k) else l ++ [(c, s)] := by
  induction l generalizing k with
  | nil =>
    have : k = 0 := by simpa using hk
    subst this
    rfl
  | cons x l ih =>
    cases k with
    | zero =>
      have h2 := h2 (by simp)
      have hlt : ¬ ordI x.1 c < 0 := by have : ((x :: l)[0]'(by simp)).1 = x.1 := rfl
                                        rw [this] at h2; omega
      rw [dif_pos (by simp), putL, if_neg hlt]
      by_cases e : ordI x.1 c = 0
      · rw [if_pos e]
        show _ = if ordI x.1 c = 0 then _ else _
        rw [if_pos e]; rfl
      · rw [if_neg e]
        show _ = if ordI x.1 c = 0 then _ else _
        rw [if_neg e]; rfl
    | succ k =>
      have hx : ordI x.1 c < 0 := h1 0 (by simp) (by omega)
      have hk' : k ≤ l.length := by simpa using hk
      have := ih hk' (fun i h hi => h1 (i + 1) (by simp; omega) (by omega)) (fun h => h2 (by simp; omega))
      rw [putL, if_pos hx, this]
      by_cases hl : k < l.length
      · rw [dif_pos hl, dif_pos (by simp; omega)]
        show _ = if ordI (l[k]'hl).1 c = 0 then _ else _
        by_cases e : ordI (l[k]'hl).1 c = 0
        · rw [if_pos e, if_pos e]; rfl
        · rw [if_neg e, if_neg e]; rfl
      · rw [dif_neg hl, dif_neg (by simp; omega)]; rfl
end Go.Proofs.YtcocbjipikeebaaGreatDoor.Utf
/-
  The document's put walked: a word into its place.
-/
namespace Go.Proofs.YtcocbjipikeebaaGreatDoor.Utf
open Go Go.Lib Go.RowKit

theorem infoWord : (Tryz.prog.info? 32).map (fun i => (i.zero, i.size, i.bytes)) = some (some (.agg #[.slice none 0 0, .int .i64 0]), 2, 32) := by kernel_rfl
theorem infoI : (Tryz.prog.info? 3).map (fun i => (i.zero, i.size, i.bytes)) = some (some (.int .i64 0), 1, 8) := by kernel_rfl
theorem cellsW_new (w : World) (x y : Value) (t : TypeId) : ∀ j u, [x, y][j]? = some u → (w.alloc (.cells #[x, y] t)).cell? ((⟨w.heap.size, 0, none⟩ : Addr).add j) = some u := by
  intro j u h
  have : (w.alloc (.cells #[x, y] t)).cell? ⟨w.heap.size, j, none⟩ = some u := box_at w _ t j (by simpa using h)
  rw [Addr.add_lit]
  simpa using this
theorem heap_alloc_old' (w : World) (o : Obj) {i : Nat} (h : i < w.heap.size) : (w.alloc o).heap[i]? = w.heap[i]? := Lib.alloc_old w o i h
theorem own_empty (w : World) (t : TypeId) (z : Nat) : (w.alloc (.cells #[] t)).ownsRow w.heap.size t z (.slice (some ⟨w.heap.size, 0, none⟩) 0 0) 0 [] :=
  ⟨by simp, .inr ⟨w.heap.size, 0, #[], rfl, Nat.le_refl _, World.alloc_heap_new w _, Nat.le_refl _, by unfold maxLen; omega, by simp, by simp⟩⟩
def zW : WdV := ⟨none, 0, [], 0⟩
/-- While the words behind a place move up by one. -/
def shF (es : List WdV) (j : Nat) : List WdV := (es ++ [zW]).take (j + 1) ++ es.drop j
theorem shF_start (es : List WdV) : (shF es es.length).flatMap encW = es.flatMap encW ++ [.slice none 0 0, .int .i64 0] := by
  unfold shF
  rw [List.take_of_length_le (by simp), List.drop_length, List.append_nil, List.flatMap_append]
  rfl
theorem shF_len {es : List WdV} {j : Nat} (h : j ≤ es.length) : (shF es j).length = es.length + 1 := by
  unfold shF
  rw [List.length_append, List.length_take, List.length_append, List.length_drop, List.length_singleton]
  omega
theorem shF_step {es : List WdV} {j : Nat} (h0 : 0 < j) (h : j ≤ es.length) : (shF es j).set j ((shF es j)[j - 1]'(by rw [shF_len h]; omega)) = shF es (j - 1) := by
  apply List.ext_getElem?
  intro i
  have hl := shF_len h
  have hl2 := shF_len (es := es) (j := j - 1) (by omega)
  have hat : ∀ q (hq : q ≤ es.length) i, (shF es q)[i]? = if i ≤ q then (es ++ [zW])[i]? else es[i - 1]? := fun q hq i => by
    unfold shF
    have e : ((es ++ [zW]).take (q + 1)).length = q + 1 := by rw [List.length_take, List.length_append, List.length_singleton]; omega
    by_cases hi : i ≤ q
    · rw [if_pos hi, List.getElem?_append_left (by omega), List.getElem?_take_of_lt (by omega)]
    · rw [if_neg hi, List.getElem?_append_right (by omega), e, List.getElem?_drop]
      congr 1
      omega
  have hj1 : (shF es j)[j - 1]'(by omega) = es[j - 1]'(by omega) := by
    have := hat j h (j - 1)
    rw [if_pos (by omega), List.getElem?_append_left (by omega), List.getElem?_eq_getElem (by omega), List.getElem?_eq_getElem (by omega)] at this
    exact Option.some.inj this
  rw [hj1, List.getElem?_set, hat (j - 1) (by omega) i]
  by_cases e : j = i
  · subst e
    rw [if_pos rfl, if_pos (by omega), if_neg (by omega), List.getElem?_eq_getElem (by omega)]
  · rw [if_neg e, hat j h i]
    by_cases hi : i ≤ j
    · rw [if_pos hi, if_pos (by omega)]
    · rw [if_neg hi, if_neg (by omega)]
theorem shF_put {es : List WdV} {k : Nat} (h : k ≤ es.length) (x : WdV) : (shF es k).set k x = es.take k ++ x :: es.drop k := by
  unfold shF
  have hk : k < (es ++ [zW]).length := by rw [List.length_append, List.length_singleton]; omega
  rw [List.take_succ_eq_append_getElem hk, List.append_assoc, List.set_append_right _ _ (by rw [List.length_take]; omega)]
  rw [List.length_take, show k - min k (es ++ [zW]).length = 0 by omega, List.take_append_of_le_length h]
  rfl
theorem shF_set_mem {es : List WdV} {k : Nat} (h : k ≤ es.length) {x y : WdV} (hx : x ∈ (shF es k).set k y) : x ∈ es ∨ x = y := by
  rw [shF_put h] at hx
  rcases List.mem_append.1 hx with hx | hx
  · exact .inl (List.mem_of_mem_take hx)
  · rcases List.mem_cons.1 hx with hx | hx
    · exact .inr hx
    · exact .inl (List.mem_of_mem_drop hx)

/-- What put answers. -/
def PutP (B : Nat) (W : World) (v : Value) (es : List WdV) (c : List Int) (s : Int) (e : Ending) (w' : World) : Prop := ∃ v' es', e = .returned v' ∧ IsWd B w' v' es' ∧ toL es' = putL (toL es) c s ∧ W.grownBy w' v.ownBlock ∧ (v'.ownBlock = v.ownBlock ∨ ∃ b, v'.ownBlock = some b ∧ W.heap.size ≤ b) ∧ ∀ x ∈ es', (∃ y ∈ es, x.ao = y.ao) ∨ ∀ b o, x.ao = some ⟨b, o, none⟩ → W.heap.size ≤ b

set_option maxRecDepth 100000 in
set_option maxHeartbeats 4000000 in
theorem put_any {B : Nat} {W : World} {v : Value} {es : List WdV} (h : IsWd B W v es) (hB : B ≤ W.heap.size) (hes : es.length ≤ 1000) (h32 : ∀ x ∈ es, x.c.length ≤ 32) (c : List Int) (hc : c.length ≤ 32) (ac : Option Addr) (cc : Nat) (hac : ac = none → cc = 0) (hR : ReadsO W ac (ints c)) (hcl : ∀ b o, ac = some ⟨b, o, none⟩ → b < W.heap.size ∧ v.ownBlock ≠ some b) (s : Int) :
    Calls Tryz.prog 27 #[v, .slice ac c.length cc, .int .i64 s] W (PutP B W v es c s) := by
  obtain ⟨i0, hi0, hz0, hz1, hz2⟩ := info_parts infoWord
  obtain ⟨i1, hi1, hy0, hy1, hy2⟩ := info_parts infoI
  obtain ⟨ao, cap, rfl, hnil, -⟩ := h.slice
  have h0 := h
  have H : Aside (∀ Z, Below W.heap.size W Z → IsWd B Z (.slice ao es.length cap) es) := fun Z hb => h.below hb
  have HR : Aside (∀ Z, Below W.heap.size W Z → ReadsO Z ac (ints c)) := fun Z hb => hR.below hb
  have HCV : Aside (∀ b o, ac = some ⟨b, o, none⟩ → (Value.slice ao es.length cap).ownBlock ≠ some b) := fun b o e => (hcl b o e).2
  have HCL : Aside (∀ b o, ac = some ⟨b, o, none⟩ → b < W.heap.size) := fun b o e => (hcl b o e).1
  have H32 : Aside (∀ x ∈ es, x.c.length ≤ 32) := h32
  clear h hR hcl h32
  go_enter Tryz.func27, Tryz.ntmps27
  go_wp2
  go_loopg [7] es.length (fun g1 vk wr => ∃ k : Nat, vk = .int .i64 (k : Int) ∧ k ≤ es.length ∧ es.length - k ≤ g1 ∧ Aside (∀ i (hi : i < es.length), i < k → ordI es[i].c c < 0) ∧ Aside (Below W.heap.size W wr))
  case atStart => exact ⟨0, rfl, Nat.zero_le _, Nat.le_refl _, fun i _ h => by omega, Below.refl _ _⟩
  case round =>
    obtain ⟨k, rfl, hk, hg1, HK, HB⟩ := hrel
    by_cases hlt : k < es.length
    · have hltz : (k : Int) < (es.length : Int) := by omega
      obtain ⟨g, rfl, q1, q2⟩ := (H.out wr HB.out).at' hlt
      have hmk := (H.out wr HB.out).mem es[k] (List.getElem_mem hlt)
      have hk32 := H32.out es[k] (List.getElem_mem hlt)
      have cO := refOrder_any es[k].c c (by omega) es[k].ao ac es[k].cap cc wr hmk.1 (HR.out wr HB.out)
      have HO : Aside (ordI es[k].c c = ordI es[k].c c) := rfl
      obtain ⟨od, hod⟩ : ∃ od, ordI es[k].c c = od := ⟨_, rfl⟩
      have HOD : Aside (ordI es[k].c c = od) := hod
      rw [hod] at cO
      clear hmk HO hod
      by_cases h1 : od < 0
      · have HK2 : Aside (∀ i (hi : i < es.length), i < k + 1 → ordI es[i].c c < 0) := fun i hi h2 => by
          by_cases hik : i = k
          · subst hik; rw [HOD.out]; exact h1
          · exact HK.out i hi (by omega)
        clear HK HOD
        generalize es[k].c.length = N at *
        go_wp2_with fail
        refine cO.mono ?_
        rintro e w2 ⟨rfl, hb2⟩
        have HB2 : Aside (Below W.heap.size W w2) := HB.out.trans (hb2.mono HB.out.size)
        clear cO q1 q2
        go_wp2
        go_roundg (es.length - (k + 1))
        case measure => omega
        case rel => exact ⟨k + 1, by go_num, by omega, Nat.le_refl _, HK2, HB2⟩
      · obtain ⟨N, hN⟩ : ∃ N, es[k].c.length = N := ⟨_, rfl⟩
        have HN : Aside (es[k].c.length = N) := hN
        rw [hN] at q1 cO hk32
        clear hN
        go_wp2_with fail
        refine cO.mono ?_
        rintro e w2 ⟨rfl, hb2⟩
        have HB2 : Aside (Below W.heap.size W w2) := HB.out.trans (hb2.mono HB.out.size)
        clear cO q1 q2 hb2
        obtain ⟨g', eg, q1, q2⟩ := (H.out w2 HB2.out).at' hlt
        obtain rfl : g = g' := by injection eg with eg; injection eg
        have hmk := (H.out w2 HB2.out).mem es[k] (List.getElem_mem hlt)
        have cO := refOrder_any es[k].c c (by rw [HN.out]; omega) es[k].ao ac es[k].cap cc w2 hmk.1 (HR.out w2 HB2.out)
        rw [HOD.out, HN.out] at cO
        rw [HN.out] at q1
        clear hmk eg
        by_cases h2 : od = 0
        · have h2b : (od == 0) = true := by rw [beq_iff_eq]; exact h2
          go_wp2_with fail
          refine cO.mono ?_
          rintro e w3 ⟨rfl, hb3⟩
          have HB3 : Aside (Below W.heap.size W w3) := HB2.out.trans (hb3.mono HB2.out.size)
          clear cO q1 q2 hb3
          have hI3 := H.out w3 HB3.out
          obtain ⟨g', eg, q1, q2⟩ := hI3.at' hlt
          obtain rfl : g = g' := by injection eg with eg; injection eg
          have hfr := hI3.row.frozenAt (k * 2 + 1)
          have st := hI3.row.stored (k * 2 + 1) (.int .i64 (max es[k].s s))
          have HFIN : Aside (IsWd B (w3.setCell ⟨g, k * 2 + 1, none⟩ (.int .i64 (max es[k].s s))) (.slice (some ⟨g, 0, none⟩) es.length cap) (es.set k { es[k] with s := max es[k].s s })) := by
            have hr4 := st.1
            rw [flatW_set1 hlt] at hr4
            refine ⟨by rw [List.length_set]; exact hr4, fun x hx => ?_⟩
            have hx2 : ∃ y ∈ es, x.ao = y.ao ∧ x.c = y.c ∧ x.cap = y.cap := by
              rcases List.mem_or_eq_of_mem_set hx with hx | rfl
              · exact ⟨x, hx, rfl, rfl, rfl⟩
              · exact ⟨es[k], List.getElem_mem hlt, rfl, rfl, rfl⟩
            obtain ⟨y, hy, e1, e2, e3⟩ := hx2
            obtain ⟨m1, m0, m2⟩ := hI3.mem y hy
            rw [e1, e2, e3]
            exact ⟨readsO_turn m1 st.2 (fun b o e e5 => (m2 b o e).2.2 (by rw [e5]; rfl)), m0, fun b o e => ⟨(m2 b o e).1, by rw [World.size_setCell]; exact (m2 b o e).2.1, (m2 b o e).2.2⟩⟩
          have HPUT : Aside (toL (es.set k { es[k] with s := max es[k].s s }) = putL (toL es) c s) := by
            show _ = _
            rw [putL_at (k := k) (by rw [toL_len]; exact hk) (fun i hi hik => by rw [toL_at (by rw [toL_len] at hi; exact hi)]; exact HK.out i (by rw [toL_len] at hi; exact hi) hik) (fun hh => by rw [toL_at hlt]; show 0 ≤ ordI es[k].c c; rw [HOD.out]; omega)]
            rw [dif_pos (by rw [toL_len]; exact hlt), if_pos (by rw [toL_at hlt]; show ordI es[k].c c = 0; rw [HOD.out]; exact h2), toL_at hlt]
            unfold toL
            rw [List.map_set]
          have HGF : Aside (W.grownBy (w3.setCell ⟨g, k * 2 + 1, none⟩ (.int .i64 (max es[k].s s))) (some g)) := (below_but HB3.out _).trans st.2
          have HORG : Aside (∀ x ∈ es.set k { es[k] with s := max es[k].s s }, (∃ y ∈ es, x.ao = y.ao) ∨ ∀ b o, x.ao = some ⟨b, o, none⟩ → W.heap.size ≤ b) := fun x hx => by
            rcases List.mem_or_eq_of_mem_set hx with hx | rfl
            · exact .inl ⟨x, hx, rfl⟩
            · exact .inl ⟨es[k], List.getElem_mem hlt, rfl⟩
          clear eg st hI3
          generalize es[k].s = ss at *
          go_wp2
          go_ret
          exact ⟨_, _, rfl, HFIN.out, HPUT.out, HGF.out, .inl rfl, HORG.out⟩
        · have h2b : (od == 0) = false := by rw [beq_eq_false_iff_ne]; exact h2
          have HPL : Aside (∀ x : WdV, (x.c, x.s) = (c, s) → toL (es.take k ++ x :: es.drop k) = putL (toL es) c s) := fun x hx => by
            rw [putL_at (k := k) (by rw [toL_len]; exact hk) (fun i hi hik => by rw [toL_at (by rw [toL_len] at hi; exact hi)]; exact HK.out i (by rw [toL_len] at hi; exact hi) hik) (fun hh => by rw [toL_at hlt]; show 0 ≤ ordI es[k].c c; rw [HOD.out]; omega)]
            rw [dif_pos (by rw [toL_len]; exact hlt), if_neg (by rw [toL_at hlt]; show ¬ ordI es[k].c c = 0; rw [HOD.out]; exact h2)]
            unfold toL
            rw [List.map_append, List.map_cons, List.map_take, List.map_drop, hx]
          go_wp2_with fail
          refine cO.mono ?_
          rintro e wr2 ⟨rfl, hb3⟩
          have HB : Aside (Below W.heap.size W wr2) := HB2.out.trans (hb3.mono HB2.out.size)
          clear cO q1 q2 hb3 HB2 HN
          generalize wr2 = wr at *
          have HB0 : Aside (Below W.heap.size W wr) := HB.out
          generalize wr = wk at *
          have hIk := h0.below HB0.out
          have hrowk := hIk.row
          have hszk := HB0.out.size
          go_wp2_with (at_builtin; refine wpList_append_own_at _ rfl _ _ 23 rfl B 32 i0 (.agg #[.slice none 0 0, .int .i64 0]) 2 32 Tryz.underlying23 hi0 hz0 hz1 hz2 rfl (by decide) _ _ _ rfl (hrowk.alloc _) ⟨wk.heap.size, 0, none⟩ 1 1 [.slice none 0 0, .int .i64 0] rfl rfl (cellsW_new _ _ _ _) (by simp [Value.oneCell']) (by unfold maxLen; omega) (by omega) (by rw [World.size_alloc]; omega) ?_)
          intro v1 w1 hown1 hgrow1 hnil1 hat1
          obtain ⟨g1, cap1, rfl⟩ : ∃ g1 cap1, v1 = .slice (some ⟨g1, 0, none⟩) (es.length + 1) cap1 := by
            rcases hown1.2 with ⟨_, h0⟩ | ⟨g, cp, cur, e1, _⟩
            · omega
            · exact ⟨g, cp, e1⟩
          have HOW : Aside (w1.ownsRow B 32 2 (.slice (some ⟨g1, 0, none⟩) (es.length + 1) cap1) (es.length + 1) ((shF es es.length).flatMap encW)) := by
            rw [shF_start]
            exact hown1
          have HG1 : Aside (wk.grownBy w1 (Value.slice (some ⟨g, 0, none⟩) es.length cap).ownBlock) := (World.grownBy_alloc _ _ _).trans hgrow1
          have HAT : Aside ((Value.slice (some ⟨g, 0, none⟩) es.length cap).ownBlock = some g1 ∨ wk.heap.size ≤ g1) := by
            rcases hat1 with e | e
            · exact .inl e.symm
            · right
              injection e with e
              have e5 : g1 = wk.heap.size + 1 := by simpa using e
              omega
          clear hown1 hgrow1 hnil1 hat1 hrowk hIk
          have hi8 : ((es.length + 1 : Nat) : Int) - 1 = (es.length : Int) := by omega
          clear HOD
          go_wp2
          go_loopg [8] es.length (fun g2 vi wr => ∃ j : Nat, vi = .int .i64 (j : Int) ∧ k ≤ j ∧ j ≤ es.length ∧ j ≤ g2 ∧ Aside (wr.ownsRow B 32 2 (.slice (some ⟨g1, 0, none⟩) (es.length + 1) cap1) (es.length + 1) ((shF es j).flatMap encW)) ∧ Aside (w1.grownBy wr (some g1)))
          case atStart => exact ⟨es.length, by first | rfl | go_num | (rw [← hi8]; rfl), hk, Nat.le_refl _, Nat.le_refl _, HOW, World.grownBy.refl _ _⟩
          case round =>
            clear HOW
            obtain ⟨j, rfl, hkj, hjn, hg2, HOJ, HGJ⟩ := hrel
            have hlj : (shF es j).length = es.length + 1 := shF_len hjn
            by_cases hkl : k < j
            · have hklz : (k : Int) < (j : Int) := by omega
              have hj1 : j - 1 < (shF es j).length := by omega
              obtain ⟨q1, q2⟩ := flatW_at hj1
              have hfr0 := HOJ.out.frozenAt (j * 2)
              have hfr1 := HOJ.out.frozenAt (j * 2 + 1)
              have hc0 : wr.cell? ⟨g1, (j - 1) * 2, none⟩ = some (.slice (shF es j)[j - 1].ao (shF es j)[j - 1].c.length (shF es j)[j - 1].cap) := by
                rw [HOJ.out.cellAt _ (by omega)]; exact q1
              have hc1 : wr.cell? ⟨g1, (j - 1) * 2 + 1, none⟩ = some (.int .i64 (shF es j)[j - 1].s) := by
                rw [HOJ.out.cellAt _ (by omega)]; exact q2
              obtain ⟨y, hy⟩ : ∃ y, (shF es j)[j - 1] = y := ⟨_, rfl⟩
              rw [hy] at hc0 hc1
              have HNX : Aside ((shF es j).set j y = shF es (j - 1)) := by show _ = _; rw [← hy]; exact shF_step (by omega) hjn
              obtain ⟨u0, hu0⟩ : ∃ u, wr.cell? ⟨g1, j * 2, none⟩ = some u := ⟨_, (HOJ.out.cellAt _ (by omega)).trans (flatW_at (show j < (shF es j).length by omega)).1⟩
              obtain ⟨u1, hu1⟩ : ∃ u, wr.cell? ⟨g1, j * 2 + 1, none⟩ = some u := ⟨_, (HOJ.out.cellAt _ (by omega)).trans (flatW_at (show j < (shF es j).length by omega)).2⟩
              have st := HOJ.out.stored (j * 2) (.slice y.ao y.c.length y.cap)
              have st2 := st.1.stored (j * 2 + 1) (.int .i64 y.s)
              have HOJ2 : Aside (((wr.setCell ⟨g1, j * 2, none⟩ (.slice y.ao y.c.length y.cap)).setCell ⟨g1, j * 2 + 1, none⟩ (.int .i64 y.s)).ownsRow B 32 2 (.slice (some ⟨g1, 0, none⟩) (es.length + 1) cap1) (es.length + 1) ((shF es (j - 1)).flatMap encW)) := by
                have := st2.1
                rw [flatW_set (show j < (shF es j).length by omega), HNX.out] at this
                exact this
              have HGJ2 : Aside (w1.grownBy ((wr.setCell ⟨g1, j * 2, none⟩ (.slice y.ao y.c.length y.cap)).setCell ⟨g1, j * 2 + 1, none⟩ (.int .i64 y.s)) (some g1)) := (HGJ.out.trans st.2).trans st2.2
              clear HNX hy st st2 q1 q2 HOJ HGJ
              obtain ⟨i, rfl⟩ : ∃ i, j = i + 1 := ⟨j - 1, by omega⟩
              have hi : i + 1 - 1 = i := rfl
              rw [hi] at hc0 hc1 HOJ2
              clear hi hj1
              obtain ⟨yao, ycap, yc, ys⟩ := y
              simp only at hc0 hc1 HOJ2 HGJ2
              generalize yc.length = yl at *
              have hjl : (i : Int) + 1 < (es.length : Int) + 1 := by omega
              have hil : (i : Int) < (es.length : Int) + 1 := by omega
              have hkz2 : (k : Int) < (i : Int) + 1 := by omega
              go_wp2
              go_roundg i
              case measure => omega
              case rel => exact ⟨i, by go_num, by omega, by omega, Nat.le_refl _, HOJ2, HGJ2⟩
            · have hklz : ¬ (k : Int) < (j : Int) := by omega
              obtain rfl : j = k := by omega
              have HRC : Aside (ReadsO wr ac (ints c)) := readsO_turn (readsO_turn (HR.out wk HB0.out) HG1.out (fun b o e e2 => HCV.out b o e e2.symm)) HGJ.out (fun b o e e2 => by
                injection e2 with e2
                rcases HAT.out with e3 | e3
                · exact HCV.out b o e (by rw [e3, e2])
                · have := (HCL.out b o e)
                  omega)
              have oe : (wr.alloc (.cells #[] 3)).ownsRow wr.heap.size 3 1 (.slice (some ⟨wr.heap.size, 0, none⟩) 0 0) 0 [] := own_empty wr 3 1
              have hRC2 : ReadsO (wr.alloc (.cells #[] 3)) ac (ints c) := HRC.out.below (below_box' wr _)
              go_wp2_with (at_builtin; refine wpList_append_src rfl _ _ 30 rfl wr.heap.size 3 i1 (.int .i64 0) 8 Tryz.underlying30 hi1 hy0 hy1 hy2 rfl _ 0 [] rfl oe ac c.length cc (ints c) rfl hac (by simp [ints]) hRC2 (ints_one c) (by unfold maxLen; omega) (by omega) (by simp) ?_)
              intro v2 w2 hown2 hg2 hat2
              try rw [List.nil_append] at hown2
              try rw [Nat.zero_add] at hown2
              obtain ⟨a2, c2, rfl, hrd2⟩ := row_reads hown2
              have hl2 : (ints c).length = c.length := by simp [ints]
              have HG2 : Aside (wr.grownBy w2 none) := ⟨hg2.os, hg2.tape, hg2.output, Nat.le_trans (by simp) hg2.size, fun i hi _ => (hg2.block i (by simp; omega) (fun e => (Nat.ne_of_lt hi) (by simpa [Value.ownBlock] using e))).trans (heap_alloc_old' wr _ hi)⟩
              have hrow3 := row_turn HOJ.out HG2.out (fun _ _ _ => by simp)
              have hfr0 := hrow3.frozenAt (j * 2)
              have hfr1 := hrow3.frozenAt (j * 2 + 1)
              obtain ⟨u0, hu0⟩ : ∃ u, w2.cell? ⟨g1, j * 2, none⟩ = some u := ⟨_, (hrow3.cellAt _ (by omega)).trans (flatW_at (show j < (shF es j).length by omega)).1⟩
              obtain ⟨u1, hu1⟩ : ∃ u, w2.cell? ⟨g1, j * 2 + 1, none⟩ = some u := ⟨_, (hrow3.cellAt _ (by omega)).trans (flatW_at (show j < (shF es j).length by omega)).2⟩
              have st := hrow3.stored (j * 2) (.slice a2 c.length c2)
              have st2 := st.1.stored (j * 2 + 1) (.int .i64 s)
              have HFIN : Aside (IsWd B ((w2.setCell ⟨g1, j * 2, none⟩ (.slice a2 c.length c2)).setCell ⟨g1, j * 2 + 1, none⟩ (.int .i64 s)) (.slice (some ⟨g1, 0, none⟩) (es.length + 1) cap1) ((shF es j).set j ⟨a2, c2, c, s⟩)) := by
                have hgx : w2.grownBy ((w2.setCell ⟨g1, j * 2, none⟩ (.slice a2 c.length c2)).setCell ⟨g1, j * 2 + 1, none⟩ (.int .i64 s)) (some g1) := st.2.trans st2.2
                have hr4 := st2.1
                rw [flatW_set (y := ⟨a2, c2, c, s⟩) (show j < (shF es j).length by omega)] at hr4
                refine ⟨?_, fun x hx => ?_⟩
                · rw [List.length_set, hlj]; exact hr4
                · have hs1 := HG1.out.size
                  have hs2 := HGJ.out.size
                  have hs3 := HG2.out.size
                  rcases shF_set_mem hjn hx with hx | rfl
                  · obtain ⟨m1, m0, m2⟩ := (h0.below HB0.out).mem x hx
                    have hne : ∀ b o, x.ao = some ⟨b, o, none⟩ → some b ≠ some g1 := fun b o e e2 => by
                      injection e2 with e2
                      rcases HAT.out with e3 | e3
                      · exact (m2 b o e).2.2 (by rw [e3, e2])
                      · have := (m2 b o e).2.1; omega
                    refine ⟨readsO_turn (readsO_turn (readsO_turn (readsO_turn m1 HG1.out (fun b o e e2 => (m2 b o e).2.2 e2.symm)) HGJ.out hne) HG2.out (fun _ _ _ => by simp)) hgx hne, m0, fun b o e => ⟨(m2 b o e).1, ?_, fun e2 => hne b o e e2.symm⟩⟩
                    have := (m2 b o e).2.1
                    simp only [World.size_setCell]
                    omega
                  · have hgw : g1 < wr.heap.size := (HOJ.out.lt g1 rfl).2
                    have hab : ∀ b o, a2 = some ⟨b, o, none⟩ → wr.heap.size ≤ b ∧ b < w2.heap.size := fun b o e => by
                      subst e
                      have := hown2.lt b (by simp [Value.ownBlock])
                      exact this
                    refine ⟨readsO_turn hrd2.o hgx (fun b o e e2 => by injection e2 with e2; have := (hab b o e).1; omega), fun e => ?_, fun b o e => ?_⟩
                    · subst e
                      rcases hown2.2 with ⟨e3, _⟩ | ⟨g, cp, cur, e1, _⟩
                      · injection e3
                      · injection e1 with e1; cases e1
                    · obtain ⟨k1, k2⟩ := hab b o e
                      refine ⟨by omega, by simp only [World.size_setCell]; exact k2, fun e2 => ?_⟩
                      simp only [Value.ownBlock] at e2
                      injection e2 with e2
                      omega
              have HPUT : Aside (toL ((shF es j).set j ⟨a2, c2, c, s⟩) = putL (toL es) c s) := by
                show _ = _
                rw [shF_put hk]
                exact HPL.out _ rfl
              have HGF : Aside (W.grownBy ((w2.setCell ⟨g1, j * 2, none⟩ (.slice a2 c.length c2)).setCell ⟨g1, j * 2 + 1, none⟩ (.int .i64 s)) (Value.slice (some ⟨g, 0, none⟩) es.length cap).ownBlock) := by
                have hgx : w2.grownBy ((w2.setCell ⟨g1, j * 2, none⟩ (.slice a2 c.length c2)).setCell ⟨g1, j * 2 + 1, none⟩ (.int .i64 s)) (some g1) := st.2.trans st2.2
                have hb1 : W.grownBy w1 (Value.slice (some ⟨g, 0, none⟩) es.length cap).ownBlock := (below_but HB0.out _).trans HG1.out
                have hor : ∀ q, some g1 = some q → W.heap.size ≤ q ∨ (Value.slice (some ⟨g, 0, none⟩) es.length cap).ownBlock = some q := fun q e => by
                  injection e with e
                  subst e
                  rcases HAT.out with e3 | e3
                  · exact .inr e3
                  · exact .inl (by omega)
                exact ((hb1.andThen HGJ.out hor).andThen HG2.out (fun q e => by cases e)).andThen hgx hor
              have HORG : Aside (∀ x ∈ (shF es j).set j ⟨a2, c2, c, s⟩, (∃ y ∈ es, x.ao = y.ao) ∨ ∀ b o, x.ao = some ⟨b, o, none⟩ → W.heap.size ≤ b) := fun x hx => by
                rcases shF_set_mem hjn hx with hx | rfl
                · exact .inl ⟨x, hx, rfl⟩
                · right
                  intro b o e
                  have hs1 := HG1.out.size
                  have hs2 := HGJ.out.size
                  have hlow : wr.heap.size ≤ b := by
                    simp only at e
                    subst e
                    exact (hown2.lt b (by simp [Value.ownBlock])).1
                  omega
              have HOB : Aside ((Value.slice (some ⟨g1, 0, none⟩) (es.length + 1) cap1).ownBlock = (Value.slice (some ⟨g, 0, none⟩) es.length cap).ownBlock ∨ W.heap.size ≤ g1) := by
                rcases HAT.out with e3 | e3
                · exact .inl e3.symm
                · exact .inr (by omega)
              rw [hl2] at *
              have hjl : (j : Int) < (es.length : Int) + 1 := by omega
              clear hrow3 st st2 hown2 hg2 hat2 hrd2 hRC2 oe
              go_wp2
              go_ret
              exact ⟨_, _, rfl, HFIN.out, HPUT.out, HGF.out, HOB.out.imp id fun h => ⟨_, rfl, h⟩, HORG.out⟩
    · have hltz : ¬ (k : Int) < (es.length : Int) := by omega
      have hke : k = es.length := by omega
      have HPL : Aside (∀ x : WdV, (x.c, x.s) = (c, s) → toL (es.take k ++ x :: es.drop k) = putL (toL es) c s) := fun x hx => by
        rw [putL_at (k := k) (by rw [toL_len]; exact hk) (fun i hi hik => by rw [toL_at (by rw [toL_len] at hi; exact hi)]; exact HK.out i (by rw [toL_len] at hi; exact hi) hik) (fun hh => by rw [toL_len] at hh; omega)]
        rw [dif_neg (by rw [toL_len]; omega)]
        unfold toL
        rw [List.map_append, List.map_cons, hx, hke, List.take_length, List.drop_length]
        rfl
      clear hke
      have HB0 : Aside (Below W.heap.size W wr) := HB.out
      generalize wr = wk at *
      have hIk := h0.below HB0.out
      have hrowk := hIk.row
      have hszk := HB0.out.size
      go_wp2_with (at_builtin; refine wpList_append_own_at _ rfl _ _ 23 rfl B 32 i0 (.agg #[.slice none 0 0, .int .i64 0]) 2 32 Tryz.underlying23 hi0 hz0 hz1 hz2 rfl (by decide) _ _ _ rfl (hrowk.alloc _) ⟨wk.heap.size, 0, none⟩ 1 1 [.slice none 0 0, .int .i64 0] rfl rfl (cellsW_new _ _ _ _) (by simp [Value.oneCell']) (by unfold maxLen; omega) (by omega) (by rw [World.size_alloc]; omega) ?_)
      intro v1 w1 hown1 hgrow1 hnil1 hat1
      obtain ⟨g1, cap1, rfl⟩ : ∃ g1 cap1, v1 = .slice (some ⟨g1, 0, none⟩) (es.length + 1) cap1 := by
        rcases hown1.2 with ⟨_, h0⟩ | ⟨g, cp, cur, e1, _⟩
        · omega
        · exact ⟨g, cp, e1⟩
      have HOW : Aside (w1.ownsRow B 32 2 (.slice (some ⟨g1, 0, none⟩) (es.length + 1) cap1) (es.length + 1) ((shF es es.length).flatMap encW)) := by
        rw [shF_start]
        exact hown1
      have HG1 : Aside (wk.grownBy w1 (Value.slice ao es.length cap).ownBlock) := (World.grownBy_alloc _ _ _).trans hgrow1
      have HAT : Aside ((Value.slice ao es.length cap).ownBlock = some g1 ∨ wk.heap.size ≤ g1) := by
        rcases hat1 with e | e
        · exact .inl e.symm
        · right
          injection e with e
          have e5 : g1 = wk.heap.size + 1 := by simpa using e
          omega
      clear hown1 hgrow1 hnil1 hat1 hrowk hIk
      have hi8 : ((es.length + 1 : Nat) : Int) - 1 = (es.length : Int) := by omega
      clear hlt hltz
      go_wp2
      go_loopg [8] es.length (fun g2 vi wr => ∃ j : Nat, vi = .int .i64 (j : Int) ∧ k ≤ j ∧ j ≤ es.length ∧ j ≤ g2 ∧ Aside (wr.ownsRow B 32 2 (.slice (some ⟨g1, 0, none⟩) (es.length + 1) cap1) (es.length + 1) ((shF es j).flatMap encW)) ∧ Aside (w1.grownBy wr (some g1)))
      case atStart => exact ⟨es.length, by first | rfl | go_num | (rw [← hi8]; rfl), hk, Nat.le_refl _, Nat.le_refl _, HOW, World.grownBy.refl _ _⟩
      case round =>
        clear HOW
        obtain ⟨j, rfl, hkj, hjn, hg2, HOJ, HGJ⟩ := hrel
        have hlj : (shF es j).length = es.length + 1 := shF_len hjn
        by_cases hkl : k < j
        · have hklz : (k : Int) < (j : Int) := by omega
          have hj1 : j - 1 < (shF es j).length := by omega
          obtain ⟨q1, q2⟩ := flatW_at hj1
          have hfr0 := HOJ.out.frozenAt (j * 2)
          have hfr1 := HOJ.out.frozenAt (j * 2 + 1)
          have hc0 : wr.cell? ⟨g1, (j - 1) * 2, none⟩ = some (.slice (shF es j)[j - 1].ao (shF es j)[j - 1].c.length (shF es j)[j - 1].cap) := by
            rw [HOJ.out.cellAt _ (by omega)]; exact q1
          have hc1 : wr.cell? ⟨g1, (j - 1) * 2 + 1, none⟩ = some (.int .i64 (shF es j)[j - 1].s) := by
            rw [HOJ.out.cellAt _ (by omega)]; exact q2
          obtain ⟨y, hy⟩ : ∃ y, (shF es j)[j - 1] = y := ⟨_, rfl⟩
          rw [hy] at hc0 hc1
          have HNX : Aside ((shF es j).set j y = shF es (j - 1)) := by show _ = _; rw [← hy]; exact shF_step (by omega) hjn
          obtain ⟨u0, hu0⟩ : ∃ u, wr.cell? ⟨g1, j * 2, none⟩ = some u := ⟨_, (HOJ.out.cellAt _ (by omega)).trans (flatW_at (show j < (shF es j).length by omega)).1⟩
          obtain ⟨u1, hu1⟩ : ∃ u, wr.cell? ⟨g1, j * 2 + 1, none⟩ = some u := ⟨_, (HOJ.out.cellAt _ (by omega)).trans (flatW_at (show j < (shF es j).length by omega)).2⟩
          have st := HOJ.out.stored (j * 2) (.slice y.ao y.c.length y.cap)
          have st2 := st.1.stored (j * 2 + 1) (.int .i64 y.s)
          have HOJ2 : Aside (((wr.setCell ⟨g1, j * 2, none⟩ (.slice y.ao y.c.length y.cap)).setCell ⟨g1, j * 2 + 1, none⟩ (.int .i64 y.s)).ownsRow B 32 2 (.slice (some ⟨g1, 0, none⟩) (es.length + 1) cap1) (es.length + 1) ((shF es (j - 1)).flatMap encW)) := by
            have := st2.1
            rw [flatW_set (show j < (shF es j).length by omega), HNX.out] at this
            exact this
          have HGJ2 : Aside (w1.grownBy ((wr.setCell ⟨g1, j * 2, none⟩ (.slice y.ao y.c.length y.cap)).setCell ⟨g1, j * 2 + 1, none⟩ (.int .i64 y.s)) (some g1)) := (HGJ.out.trans st.2).trans st2.2
          clear HNX hy st st2 q1 q2 HOJ HGJ
          obtain ⟨i, rfl⟩ : ∃ i, j = i + 1 := ⟨j - 1, by omega⟩
          have hi : i + 1 - 1 = i := rfl
          rw [hi] at hc0 hc1 HOJ2
          clear hi hj1
          obtain ⟨yao, ycap, yc, ys⟩ := y
          simp only at hc0 hc1 HOJ2 HGJ2
          generalize yc.length = yl at *
          have hjl : (i : Int) + 1 < (es.length : Int) + 1 := by omega
          have hil : (i : Int) < (es.length : Int) + 1 := by omega
          have hkz2 : (k : Int) < (i : Int) + 1 := by omega
          go_wp2
          go_roundg i
          case measure => omega
          case rel => exact ⟨i, by go_num, by omega, by omega, Nat.le_refl _, HOJ2, HGJ2⟩
        · have hklz : ¬ (k : Int) < (j : Int) := by omega
          obtain rfl : j = k := by omega
          have HRC : Aside (ReadsO wr ac (ints c)) := readsO_turn (readsO_turn (HR.out wk HB0.out) HG1.out (fun b o e e2 => HCV.out b o e e2.symm)) HGJ.out (fun b o e e2 => by
            injection e2 with e2
            rcases HAT.out with e3 | e3
            · exact HCV.out b o e (by rw [e3, e2])
            · have := (HCL.out b o e)
              omega)
          have oe : (wr.alloc (.cells #[] 3)).ownsRow wr.heap.size 3 1 (.slice (some ⟨wr.heap.size, 0, none⟩) 0 0) 0 [] := own_empty wr 3 1
          have hRC2 : ReadsO (wr.alloc (.cells #[] 3)) ac (ints c) := HRC.out.below (below_box' wr _)
          go_wp2_with (at_builtin; refine wpList_append_src rfl _ _ 30 rfl wr.heap.size 3 i1 (.int .i64 0) 8 Tryz.underlying30 hi1 hy0 hy1 hy2 rfl _ 0 [] rfl oe ac c.length cc (ints c) rfl hac (by simp [ints]) hRC2 (ints_one c) (by unfold maxLen; omega) (by omega) (by simp) ?_)
          intro v2 w2 hown2 hg2 hat2
          try rw [List.nil_append] at hown2
          try rw [Nat.zero_add] at hown2
          obtain ⟨a2, c2, rfl, hrd2⟩ := row_reads hown2
          have hl2 : (ints c).length = c.length := by simp [ints]
          have HG2 : Aside (wr.grownBy w2 none) := ⟨hg2.os, hg2.tape, hg2.output, Nat.le_trans (by simp) hg2.size, fun i hi _ => (hg2.block i (by simp; omega) (fun e => (Nat.ne_of_lt hi) (by simpa [Value.ownBlock] using e))).trans (heap_alloc_old' wr _ hi)⟩
          have hrow3 := row_turn HOJ.out HG2.out (fun _ _ _ => by simp)
          have hfr0 := hrow3.frozenAt (j * 2)
          have hfr1 := hrow3.frozenAt (j * 2 + 1)
          obtain ⟨u0, hu0⟩ : ∃ u, w2.cell? ⟨g1, j * 2, none⟩ = some u := ⟨_, (hrow3.cellAt _ (by omega)).trans (flatW_at (show j < (shF es j).length by omega)).1⟩
          obtain ⟨u1, hu1⟩ : ∃ u, w2.cell? ⟨g1, j * 2 + 1, none⟩ = some u := ⟨_, (hrow3.cellAt _ (by omega)).trans (flatW_at (show j < (shF es j).length by omega)).2⟩
          have st := hrow3.stored (j * 2) (.slice a2 c.length c2)
          have st2 := st.1.stored (j * 2 + 1) (.int .i64 s)
          have HFIN : Aside (IsWd B ((w2.setCell ⟨g1, j * 2, none⟩ (.slice a2 c.length c2)).setCell ⟨g1, j * 2 + 1, none⟩ (.int .i64 s)) (.slice (some ⟨g1, 0, none⟩) (es.length + 1) cap1) ((shF es j).set j ⟨a2, c2, c, s⟩)) := by
            have hgx : w2.grownBy ((w2.setCell ⟨g1, j * 2, none⟩ (.slice a2 c.length c2)).setCell ⟨g1, j * 2 + 1, none⟩ (.int .i64 s)) (some g1) := st.2.trans st2.2
            have hr4 := st2.1
            rw [flatW_set (y := ⟨a2, c2, c, s⟩) (show j < (shF es j).length by omega)] at hr4
            refine ⟨?_, fun x hx => ?_⟩
            · rw [List.length_set, hlj]; exact hr4
            · have hs1 := HG1.out.size
              have hs2 := HGJ.out.size
              have hs3 := HG2.out.size
              rcases shF_set_mem hjn hx with hx | rfl
              · obtain ⟨m1, m0, m2⟩ := (h0.below HB0.out).mem x hx
                have hne : ∀ b o, x.ao = some ⟨b, o, none⟩ → some b ≠ some g1 := fun b o e e2 => by
                  injection e2 with e2
                  rcases HAT.out with e3 | e3
                  · exact (m2 b o e).2.2 (by rw [e3, e2])
                  · have := (m2 b o e).2.1; omega
                refine ⟨readsO_turn (readsO_turn (readsO_turn (readsO_turn m1 HG1.out (fun b o e e2 => (m2 b o e).2.2 e2.symm)) HGJ.out hne) HG2.out (fun _ _ _ => by simp)) hgx hne, m0, fun b o e => ⟨(m2 b o e).1, ?_, fun e2 => hne b o e e2.symm⟩⟩
                have := (m2 b o e).2.1
                simp only [World.size_setCell]
                omega
              · have hgw : g1 < wr.heap.size := (HOJ.out.lt g1 rfl).2
                have hab : ∀ b o, a2 = some ⟨b, o, none⟩ → wr.heap.size ≤ b ∧ b < w2.heap.size := fun b o e => by
                  subst e
                  have := hown2.lt b (by simp [Value.ownBlock])
                  exact this
                refine ⟨readsO_turn hrd2.o hgx (fun b o e e2 => by injection e2 with e2; have := (hab b o e).1; omega), fun e => ?_, fun b o e => ?_⟩
                · subst e
                  rcases hown2.2 with ⟨e3, _⟩ | ⟨g, cp, cur, e1, _⟩
                  · injection e3
                  · injection e1 with e1; cases e1
                · obtain ⟨k1, k2⟩ := hab b o e
                  refine ⟨by omega, by simp only [World.size_setCell]; exact k2, fun e2 => ?_⟩
                  simp only [Value.ownBlock] at e2
                  injection e2 with e2
                  omega
          have HPUT : Aside (toL ((shF es j).set j ⟨a2, c2, c, s⟩) = putL (toL es) c s) := by
            show _ = _
            rw [shF_put hk]
            exact HPL.out _ rfl
          have HGF : Aside (W.grownBy ((w2.setCell ⟨g1, j * 2, none⟩ (.slice a2 c.length c2)).setCell ⟨g1, j * 2 + 1, none⟩ (.int .i64 s)) (Value.slice ao es.length cap).ownBlock) := by
            have hgx : w2.grownBy ((w2.setCell ⟨g1, j * 2, none⟩ (.slice a2 c.length c2)).setCell ⟨g1, j * 2 + 1, none⟩ (.int .i64 s)) (some g1) := st.2.trans st2.2
            have hb1 : W.grownBy w1 (Value.slice ao es.length cap).ownBlock := (below_but HB0.out _).trans HG1.out
            have hor : ∀ q, some g1 = some q → W.heap.size ≤ q ∨ (Value.slice ao es.length cap).ownBlock = some q := fun q e => by
              injection e with e
              subst e
              rcases HAT.out with e3 | e3
              · exact .inr e3
              · exact .inl (by omega)
            exact ((hb1.andThen HGJ.out hor).andThen HG2.out (fun q e => by cases e)).andThen hgx hor
          have HORG : Aside (∀ x ∈ (shF es j).set j ⟨a2, c2, c, s⟩, (∃ y ∈ es, x.ao = y.ao) ∨ ∀ b o, x.ao = some ⟨b, o, none⟩ → W.heap.size ≤ b) := fun x hx => by
            rcases shF_set_mem hjn hx with hx | rfl
            · exact .inl ⟨x, hx, rfl⟩
            · right
              intro b o e
              have hs1 := HG1.out.size
              have hs2 := HGJ.out.size
              have hlow : wr.heap.size ≤ b := by
                simp only at e
                subst e
                exact (hown2.lt b (by simp [Value.ownBlock])).1
              omega
          have HOB : Aside ((Value.slice (some ⟨g1, 0, none⟩) (es.length + 1) cap1).ownBlock = (Value.slice ao es.length cap).ownBlock ∨ W.heap.size ≤ g1) := by
            rcases HAT.out with e3 | e3
            · exact .inl e3.symm
            · exact .inr (by omega)
          rw [hl2] at *
          have hjl : (j : Int) < (es.length : Int) + 1 := by omega
          clear hrow3 st st2 hown2 hg2 hat2 hrd2 hRC2 oe
          go_wp2
          go_ret
          exact ⟨_, _, rfl, HFIN.out, HPUT.out, HGF.out, HOB.out.imp id fun h => ⟨_, rfl, h⟩, HORG.out⟩
end Go.Proofs.YtcocbjipikeebaaGreatDoor.Utf
