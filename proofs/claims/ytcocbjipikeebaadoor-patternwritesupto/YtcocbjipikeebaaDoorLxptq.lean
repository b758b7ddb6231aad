/-
  The document's list of words in memory; its put and Find.
-/
import Derived.Test.YtcocbjipikeebaaDoorLxfq
import Derived.Test.YtcocbjipikeebaaDoorGxl
import Derived.Maps.AppendAt
namespace Go.Proofs.YtcocbjipikeebaaDoor.Utf
open Go Go.Lib Go.RowKit

structure WdV where
  ao : Option Addr
  cap : Nat
  c : List Int
  s : Int
def encW (x : WdV) : List Value := [.slice x.ao x.c.length x.cap, .int .i64 x.s]
def toL (es : List WdV) : List (List Int × Int) := es.map fun x => (x.c, x.s)
theorem toL_len (es : List WdV) : (toL es).length = es.length := by simp [toL]
theorem toL_at {es : List WdV} {i : Nat} (h : i < es.length) : (toL es)[i]'(by rw [toL_len]; exact h) = (es[i].c, es[i].s) := by simp [toL]
theorem flatW_len (es : List WdV) : (es.flatMap encW).length = es.length * 2 := by
  induction es with
  | nil => rfl
  | cons x es ih => rw [List.flatMap_cons, List.length_append, ih, List.length_cons]; show 2 + _ = _; omega
theorem flatW_at : ∀ {es : List WdV} {i : Nat} (h : i < es.length), (es.flatMap encW)[i * 2]? = some (.slice es[i].ao es[i].c.length es[i].cap) ∧ (es.flatMap encW)[i * 2 + 1]? = some (.int .i64 es[i].s)
  | x :: es, 0, _ => ⟨rfl, rfl⟩
  | x :: es, i + 1, h => by
    have := flatW_at (es := es) (i := i) (by simpa using h)
    rw [List.flatMap_cons]
    have e1 : (encW x).length = 2 := rfl
    rw [show (i + 1) * 2 = i * 2 + 2 by omega, List.getElem?_append_right (by omega), e1, Nat.add_sub_cancel, show i * 2 + 2 + 1 = i * 2 + 1 + 2 by omega, List.getElem?_append_right (by omega), e1, Nat.add_sub_cancel]
    exact this
theorem flatW_set1 : ∀ {es : List WdV} {i : Nat} (_ : i < es.length) (n : Int), (es.flatMap encW).set (i * 2 + 1) (.int .i64 n) = (es.set i { es[i] with s := n }).flatMap encW
  | x :: es, 0, _, n => rfl
  | x :: es, i + 1, h, n => by
    have := flatW_set1 (es := es) (i := i) (by simpa using h) n
    have e1 : (encW x).length = 2 := rfl
    rw [List.flatMap_cons, List.set_append_right _ _ (by omega), e1, show (i + 1) * 2 + 1 - 2 = i * 2 + 1 by omega, this]
    rfl
theorem flatW_set : ∀ {es : List WdV} {i : Nat} (_ : i < es.length) (y : WdV), ((es.flatMap encW).set (i * 2) (.slice y.ao y.c.length y.cap)).set (i * 2 + 1) (.int .i64 y.s) = (es.set i y).flatMap encW
  | x :: es, 0, _, y => rfl
  | x :: es, i + 1, h, y => by
    have := flatW_set (es := es) (i := i) (by simpa using h) y
    have e1 : (encW x).length = 2 := rfl
    rw [List.flatMap_cons, List.set_append_right _ _ (by omega), e1, show (i + 1) * 2 - 2 = i * 2 by omega, List.set_append_right _ _ (by omega), e1, show (i + 1) * 2 + 1 - 2 = i * 2 + 1 by omega, this]
    rfl
/-- append of a list that came in (it may be nil) to one of the call's own. -/
theorem wpList_append_src {P : Program} {w : World} {ops : Array Oper} {rest : List Oper} {o : Oper} {a : Act} {Q : Exit → Act → World → Prop} (hgd : o.guard = none) (s x : Operand) (t : TypeId)
    (ho : o.op = .call { callee := .builtin .append, args := #[s, x], argTypes := #[t, t] })
    (base : Nat) (e : TypeId) (i : TypeInfo) (z : Value) (bytes : Nat) (ht : P.underlying t = some (.slice e)) (hi : P.info? e = some i) (hz : i.zero = some z)
    (hsize : i.size = 1) (hby : i.bytes = bytes) (hzs : z.cells.size = 1)
    (v : Value) (n : Nat) (xs : List Value) (hs : a.eval s = v) (hown : w.ownsRow base e 1 v n xs)
    (ao : Option Addr) (m c : Nat) (news : List Value) (hx : a.eval x = .slice ao m c) (hao : ao = none → c = 0) (hm : news.length = m) (hsrc : ReadsO w ao news) (h1 : ∀ u ∈ news, u.oneCell' = true)
    (h63 : n + m ≤ maxLen) (hbytes : (n + m) * bytes ≤ 140737488355328) (hbase : base ≤ w.heap.size)
    (h : ∀ v' w', w'.ownsRow base e 1 v' (n + m) (xs ++ news) → w.grownBy w' v.ownBlock → (v'.ownBlock = v.ownBlock ∨ v'.ownBlock = some w.heap.size) → wpList P ops Q rest (a.put o.dst v') w') :
    wpList P ops Q (o :: rest) a w := by
  cases ao with
  | none =>
    obtain rfl := hao rfl
    have hn : news = [] := by
      cases news with
      | nil => rfl
      | cons u r => obtain ⟨g, o, h, _⟩ := hsrc 0 (by simp); cases h
    subst hn
    have hm0 : m = 0 := hm.symm
    subst hm0
    refine wpList_append_own_none hgd s x t ho base e i 1 ht hi v n xs hs hown hx (h v w ?_ ?_ (.inl rfl))
    · rw [List.append_nil, Nat.add_zero]; exact hown
    · exact ⟨rfl, rfl, rfl, Nat.le_refl _, fun _ _ _ => rfl⟩
  | some ad =>
    refine wpList_append_own_at w hgd s x t ho base e i z 1 bytes ht hi hz hsize hby hzs (by decide) v n xs hs hown ad m c news hx (by omega) (fun j u hu => ?_) h1 h63 hbytes hbase fun v' w' k1 k2 _ k4 => h v' w' k1 k2 k4
    have hj := (List.getElem?_eq_some_iff.1 hu).1
    obtain ⟨g, o, e1, e2, e3⟩ := hsrc j hj
    injection e1 with e1
    subst e1
    rw [Addr.add_lit, e3, ← hu, List.getElem?_eq_getElem hj]
theorem ints_one (zs : List Int) : ∀ u ∈ ints zs, u.oneCell' = true := fun u hu => by
  obtain ⟨x, _, rfl⟩ := List.mem_map.1 hu
  rfl
/-- Where a word belongs. -/
theorem putL_at {l : List (List Int × Int)} {k : Nat} {c : List Int} {s : Int} (hk : k ≤ l.length) (h1 : ∀ i (h : i < l.length), i < k → ordI l[i].1 c < 0) (h2 : ∀ h : k < l.length, 0 ≤ ordI l[k].1 c) :
    putL l c s = if h : k < l.length then (if ordI l[k].1 c = 0 then l.set k (l[k].1, max l[k].2 s) else l.take k ++ (c, s) :: l.drop k) else l ++ [(c, s)] := by
  induction l generalizing k with
  | nil =>
    have : k = 0 := by simpa using hk
    subst this
    rfl
  | cons x l ih =>
    cases k with
    | zero =>
      have h2 := h2 (by simp)
      have hlt : ¬ ordI x.1 c < 0 := by have : ((x :: l)[0]'(by simp)).1 = x.1 := rfl
                                        rw [this] at h2; omega
      rw [dif_pos (by simp), putL, if_neg hlt]
      by_cases e : ordI x.1 c = 0
      · rw [if_pos e]
        show _ = if ordI x.1 c = 0 then _ else _
        rw [if_pos e]; rfl
      · rw [if_neg e]
        show _ = if ordI x.1 c = 0 then _ else _
        rw [if_neg e]; rfl
    | succ k =>
      have hx : ordI x.1 c < 0 := h1 0 (by simp) (by omega)
      have hk' : k ≤ l.length := by simpa using hk
      have := ih hk' (fun i h hi => h1 (i + 1) (by simp; omega) (by omega)) (fun h => h2 (by simp; omega))
      rw [putL, if_pos hx, this]
      by_cases hl : k < l.length
      · rw [dif_pos hl, dif_pos (by simp; omega)]
        show _ = if ordI (l[k]'hl).1 c = 0 then _ else _
        by_cases e : ordI (l[k]'hl).1 c = 0
        · rw [if_pos e, if_pos e]; rfl
        · rw [if_neg e, if_neg e]; rfl
      · rw [dif_neg hl, dif_neg (by simp; omega)]; rfl
end Go.Proofs.YtcocbjipikeebaaDoor.Utf
