/-
  The scanner's scan: from label to label.
-/
import Derived.Test.YtkkeoonglcfhnaaDoorSkb
import Derived.Test.YtkkeoonglcfhnaaDoorSkc
namespace Go.Proofs.YtkkeoonglcfhnaaDoor.Skt
open Go Go.Lib Go.RowKit Utf Grd

/-- The frame of scan. -/
def fr99 (b : Nat) (u : Nat → Value) : Array Value := #[.pointer (some ⟨b, 0, none⟩), u 1, u 2, u 3, u 4, u 5, u 6, u 7, u 8, u 9, u 10, u 11, u 12, u 13, u 14, u 15, u 16, u 17, u 18, u 19, u 20, u 21, u 22, u 23, u 24, u 25, u 26, u 27, u 28, u 29, u 30, u 31, u 32, u 33, u 34, u 35, u 36, u 37, u 38, u 39, u 40, u 41, u 42, u 43, u 44, u 45, u 46, u 47, u 48, u 49, u 50, u 51, u 52, u 53, u 54, u 55, u 56, u 57, u 58, u 59, u 60, u 61, u 62, u 63, u 64, u 65, u 66, u 67, u 68, u 69, u 70, u 71, u 72, u 73, u 74, u 75, u 76, u 77, u 78, u 79, u 80, u 81, u 82, u 83, u 84, u 85, u 86, u 87, u 88, u 89, u 90, u 91, u 92, u 93, u 94, u 95, u 96, u 97, u 98]
def Fr (b : Nat) (a : Act) : Prop := ∃ u : Nat → Value, a = { tmps := fr99 b u, defers := [] }
def ff (l : List Value) (i : Nat) : Value := l[i]?.getD undef
theorem Fr.of (b : Nat) (u1 u2 u3 u4 u5 u6 u7 u8 u9 u10 u11 u12 u13 u14 u15 u16 u17 u18 u19 u20 u21 u22 u23 u24 u25 u26 u27 u28 u29 u30 u31 u32 u33 u34 u35 u36 u37 u38 u39 u40 u41 u42 u43 u44 u45 u46 u47 u48 u49 u50 u51 u52 u53 u54 u55 u56 u57 u58 u59 u60 u61 u62 u63 u64 u65 u66 u67 u68 u69 u70 u71 u72 u73 u74 u75 u76 u77 u78 u79 u80 u81 u82 u83 u84 u85 u86 u87 u88 u89 u90 u91 u92 u93 u94 u95 u96 u97 u98 : Value) : Fr b { tmps := #[.pointer (some ⟨b, 0, none⟩), u1, u2, u3, u4, u5, u6, u7, u8, u9, u10, u11, u12, u13, u14, u15, u16, u17, u18, u19, u20, u21, u22, u23, u24, u25, u26, u27, u28, u29, u30, u31, u32, u33, u34, u35, u36, u37, u38, u39, u40, u41, u42, u43, u44, u45, u46, u47, u48, u49, u50, u51, u52, u53, u54, u55, u56, u57, u58, u59, u60, u61, u62, u63, u64, u65, u66, u67, u68, u69, u70, u71, u72, u73, u74, u75, u76, u77, u78, u79, u80, u81, u82, u83, u84, u85, u86, u87, u88, u89, u90, u91, u92, u93, u94, u95, u96, u97, u98], defers := [] } := ⟨ff [undef, u1, u2, u3, u4, u5, u6, u7, u8, u9, u10, u11, u12, u13, u14, u15, u16, u17, u18, u19, u20, u21, u22, u23, u24, u25, u26, u27, u28, u29, u30, u31, u32, u33, u34, u35, u36, u37, u38, u39, u40, u41, u42, u43, u44, u45, u46, u47, u48, u49, u50, u51, u52, u53, u54, u55, u56, u57, u58, u59, u60, u61, u62, u63, u64, u65, u66, u67, u68, u69, u70, u71, u72, u73, u74, u75, u76, u77, u78, u79, u80, u81, u82, u83, u84, u85, u86, u87, u88, u89, u90, u91, u92, u93, u94, u95, u96, u97, u98], rfl⟩

theorem wp_scope_six {P : Program} {a : Act} {w : World} {Q : Exit → Act → World → Prop} {c b0 b1 b2 b3 b4 b5 : Code} (J : Nat → Act → World → Prop) (μ : Nat → Act → World → Nat) (h6 : ∀ l a w, 6 ≤ l → ¬ J l a w)
    (f0 : findLabel c 0 = some (Code.skip.seq b0)) (f1 : findLabel c 1 = some (Code.skip.seq b1)) (f2 : findLabel c 2 = some (Code.skip.seq b2)) (f3 : findLabel c 3 = some (Code.skip.seq b3)) (f4 : findLabel c 4 = some (Code.skip.seq b4)) (f5 : findLabel c 5 = some (Code.skip.seq b5))
    (first : (∀ a w, J 0 a w → b0.wp P (Exit.many J Q) a w) → c.wp P (Exit.many J Q) a w)
    (p0 : ∀ a w, J 0 a w → b0.wp P (Exit.many (fun l' a' w' => J l' a' w' ∧ μ l' a' w' < μ 0 a w) Q) a w)
    (p1 : (∀ a w, J 4 a w → b4.wp P (Exit.many (fun l' a' w' => J l' a' w' ∧ μ l' a' w' < μ 4 a w) Q) a w) → ∀ a w, J 1 a w → b1.wp P (Exit.many (fun l' a' w' => J l' a' w' ∧ μ l' a' w' < μ 1 a w) Q) a w)
    (p2 : ∀ a w, J 2 a w → b2.wp P (Exit.many (fun l' a' w' => J l' a' w' ∧ μ l' a' w' < μ 2 a w) Q) a w)
    (p3 : ∀ a w, J 3 a w → b3.wp P (Exit.many (fun l' a' w' => J l' a' w' ∧ μ l' a' w' < μ 3 a w) Q) a w)
    (p4 : ∀ a w, J 4 a w → b4.wp P (Exit.many (fun l' a' w' => J l' a' w' ∧ μ l' a' w' < μ 4 a w) Q) a w)
    (p5 : ∀ a w, J 5 a w → b5.wp P (Exit.many (fun l' a' w' => J l' a' w' ∧ μ l' a' w' < μ 5 a w) Q) a w) : (Code.scope c).wp P Q a w := by
  refine wp_scope_many (fun l => match l with | 0 => Code.skip.seq b0 | 1 => Code.skip.seq b1 | 2 => Code.skip.seq b2 | 3 => Code.skip.seq b3 | 4 => Code.skip.seq b4 | _ => Code.skip.seq b5) J μ (fun l a w hJ => ?_) (first fun a w h => wp_many_weaken (fun _ _ _ h => h.1) (p0 a w h)) (fun l a w hJ => ?_)
  · match l, hJ with
    | 0, _ => exact f0
    | 1, _ => exact f1
    | 2, _ => exact f2
    | 3, _ => exact f3
    | 4, _ => exact f4
    | 5, _ => exact f5
    | n + 6, h => exact absurd h (h6 _ _ _ (by omega))
  · match l, hJ with
    | 0, h => exact wp_seq (wp_skip (p0 a w h))
    | 1, h => exact wp_seq (wp_skip (p1 p4 a w h))
    | 2, h => exact wp_seq (wp_skip (p2 a w h))
    | 3, h => exact wp_seq (wp_skip (p3 a w h))
    | 4, h => exact wp_seq (wp_skip (p4 a w h))
    | 5, h => exact wp_seq (wp_skip (p5 a w h))
    | n + 6, h => exact absurd h (h6 _ _ _ (by omega))

/-- Where the scanner is: what it holds, of the rows and the row at hand. -/
structure St (W wq : World) (b : Nat) (s : ByteArray) (x1 x2 x3 x4 x5 : Value) (rows : List (List C3)) (cur : List C3) : Prop where
  box : ∃ v8 v9 v10, S11 wq b (.string s) x1 x2 x3 x4 x5 (.int .i64 (rows.length : Int)) (.int .i64 ((rows.headD []).length : Int)) v8 v9 v10 ∧ L3 wq b v8 v9 v10 ((rows.flatten ++ cur).map (·.b)) ((rows.flatten ++ cur).map (·.r)) ((rows.flatten ++ cur).map (·.d))
  ok : RowsOk rows cur
  below : Below b W wq
theorem flat_le {n : Nat} : ∀ {rows : List (List C3)}, (∀ r ∈ rows, r.length ≤ n) → rows.flatten.length ≤ n * rows.length
  | [], _ => by simp
  | r :: rs, h => by
    have h1 := h r (List.mem_cons_self ..)
    have h2 := flat_le (n := n) (rows := rs) (fun x hx => h x (List.mem_cons_of_mem _ hx))
    rw [List.flatten_cons, List.length_append, List.length_cons, Nat.mul_succ]
    omega
theorem RowsOk.len {rows : List (List C3)} {cur : List C3} (h : RowsOk rows cur) : (rows.flatten ++ cur).length ≤ 1024 := by
  have h1 := flat_le (n := 16) (rows := rows) (fun r hr => (h.some r hr).2)
  have h2 := h.few
  have h3 := h.short
  rw [List.length_append]
  omega
theorem last_split {cur : List C3} {c : C3} (h : cur.getLast? = some c) : cur = cur.dropLast ++ [c] := by
  have hne : cur ≠ [] := by rintro rfl; cases h
  rw [List.getLast?_eq_some_getLast hne] at h
  cases h
  exact (List.dropLast_concat_getLast hne).symm
theorem last_bt {F cur : List C3} {c : C3} (f : C3 → Bool) (h : cur.getLast? = some c) : bt ((F ++ cur).map f) (((F ++ cur).map f).length - 1) = f c := by
  rw [last_split h, ← List.append_assoc, List.map_append, List.length_append, List.map_cons, List.map_nil, List.length_singleton, Nat.add_sub_cancel]
  unfold bt
  rw [List.getElem?_append_right (Nat.le_refl _), Nat.sub_self]
  rfl
theorem last_set {F cur : List C3} {c c' : C3} (f : C3 → Bool) (h : cur.getLast? = some c) : ((F ++ cur).map f).set (((F ++ cur).map f).length - 1) (f c') = (F ++ (cur.dropLast ++ [c'])).map f := by
  have e : (F ++ cur).map f = (F ++ cur.dropLast).map f ++ [f c] := by
    conv => lhs; rw [last_split h, ← List.append_assoc, List.map_append]
    rfl
  rw [e, List.length_append, List.length_singleton, Nat.add_sub_cancel, List.set_append_right _ _ (Nat.le_refl _), Nat.sub_self, ← List.append_assoc]
  simp
theorem last_map {F cur : List C3} {c c' : C3} (f : C3 → Bool) (h : cur.getLast? = some c) (e : f c' = f c) : (F ++ (cur.dropLast ++ [c'])).map f = (F ++ cur).map f := by
  conv => rhs; rw [last_split h]
  simp [e]
/-- A bar set in one of the lists. -/
theorem L3.bar {W W' : World} {b : Nat} {v8 v9 v10 : Value} {xs ys zs ys' : List Bool} {g : Nat} (h : L3 W b v8 v9 v10 xs ys zs) (hg : v9.ownBlock = some g) (hl : ys'.length = ys.length) (hr : W'.ownsRow (b + 1) 4 1 v9 ys.length (cellsB ys')) (hd : Dif (fun k => k = g) W W') : L3 W' b v8 v9 v10 xs ys' zs := by
  have key : ∀ {n : Nat} {v : Value} {l : List Value}, W.ownsRow (b + 1) 4 1 v n l → v.ownBlock ≠ some g → W'.ownsRow (b + 1) 4 1 v n l := by
    intro n v l h hne
    rcases h with ⟨h1, h2 | ⟨g', cap, cur, e1, e2, e3, e4⟩⟩
    · exact ⟨h1, .inl h2⟩
    · subst e1
      exact ⟨h1, .inr ⟨g', cap, cur, rfl, e2, (hd.block g' (Array.getElem?_eq_some_iff.1 e3).1 (fun e => hne (by rw [← e]; rfl))).trans e3, e4⟩⟩
  exact ⟨key h.r8 (fun e => h.a89 g e hg), by rw [hl]; exact hr, key h.r10 (fun e => h.a910 g hg e), h.a89, h.a810, h.a910⟩
theorem row_some {W : World} {B n : Nat} {v : Value} {l : List Value} (h : W.ownsRow B 4 1 v n l) (hn : 1 ≤ n) : ∃ g cap, v = .slice (some ⟨g, 0, none⟩) n cap ∧ B ≤ g := by
  rcases h.2 with ⟨_, h0⟩ | ⟨g, cap, cur, e, e2, _⟩
  · omega
  · exact ⟨g, cap, e, e2⟩

/-- What scan leaves. -/
def Out (W : World) (b : Nat) (s : ByteArray) (R : (Nat × Nat) ⊕ List (List C3)) (e : Ending) (W' : World) : Prop :=
  (∃ a er, R = .inl (a, er) ∧ e = .returned (.tuple #[.int .i64 ((a : Nat) : Int), .int .i64 ((er : Nat) : Int)]) ∧ Below b W W') ∨
  ∃ rows x1 x2 x3 x4 x5, R = .inr rows ∧ e = .returned (.tuple #[.int .i64 0, .int .i64 0]) ∧ St W W' b s x1 x2 x3 x4 x5 rows []
/-- What holds at the labels. -/
def At (W : World) (b : Nat) (s : ByteArray) (R : (Nat × Nat) ⊕ List (List C3)) (l : Nat) (a : Act) (wq : World) : Prop :=
  Fr b a ∧ match l with
  | 0 => ∃ (p : Nat) (rows : List (List C3)) (x1 x2 x4 x5 : Value), p ≤ s.size ∧ St W wq b s x1 x2 (.int .i64 (p : Int)) x4 x5 rows [] ∧ scan s p p rows [] = R
  | 1 => ∃ (q ls : Nat) (rows : List (List C3)) (cur : List C3), q < s.size ∧ (sigA s q = 46 ∨ sigA s q = 35) ∧ (∀ _ : q < s.size, ¬ ((Utf8.decode s q).1 ≠ 10 ∧ cls ((Utf8.decode s q).1 : Int) = 3)) ∧ St W wq b s (.int .i32 (sigA s q)) (.int .i64 (q : Int)) (.int .i64 (aft s q : Nat)) (.int .i64 (ls : Int)) (.int .i64 (cur.length : Int)) rows cur ∧ scan s q ls rows cur = R
  | 2 => ∃ (q : Nat) (x1 x3 x4 x5 : Value) (rows : List (List C3)) (cur : List C3), q ≤ s.size ∧ St W wq b s x1 (.int .i64 (q : Int)) x3 x4 x5 rows cur ∧ R = .inl (q, 83)
  | 3 => ∃ (q : Nat) (x1 x3 x4 x5 : Value) (rows : List (List C3)) (cur : List C3), q ≤ s.size ∧ St W wq b s x1 (.int .i64 (q : Int)) x3 x4 x5 rows cur ∧ R = .inl (q, 80)
  | 4 => ∃ (p ls : Nat) (rows : List (List C3)) (cur : List C3) (x1 x2 : Value), p ≤ s.size ∧ cur ≠ [] ∧ St W wq b s x1 x2 (.int .i64 (p : Int)) (.int .i64 (ls : Int)) (.int .i64 (cur.length : Int)) rows cur ∧ scan s p ls rows cur = R
  | 5 => ∃ (q ls : Nat) (rows : List (List C3)) (cur : List C3), q ≤ s.size ∧ cur ≠ [] ∧ (sigA s q = 10 ∨ sigA s q = -1) ∧ (∀ _ : q < s.size, ¬ ((Utf8.decode s q).1 ≠ 10 ∧ cls ((Utf8.decode s q).1 : Int) = 3)) ∧ St W wq b s (.int .i32 (sigA s q)) (.int .i64 (q : Int)) (.int .i64 (aft s q : Nat)) (.int .i64 (ls : Int)) (.int .i64 (cur.length : Int)) rows cur ∧ scan s q ls rows cur = R
  | _ => False
def rank : Nat → Nat | 1 => 3 | 4 => 2 | 5 => 1 | _ => 0
def mu (s : ByteArray) (b : Nat) (l : Nat) (_ : Act) (wq : World) : Nat := 4 * (s.size - rdN wq b 3) + rank l
theorem St.bh {W wq : World} {b : Nat} {s : ByteArray} {x1 x2 x4 x5 : Value} {p : Nat} {rows : List (List C3)} {cur : List C3} (h : St W wq b s x1 x2 (.int .i64 (p : Int)) x4 x5 rows cur) : rdN wq b 3 = p := by
  obtain ⟨v8, v9, v10, hS, _⟩ := h.box
  exact rdN_of hS.c3
/-- Next, where the scanner is. -/
theorem next_st (s : ByteArray) (b p : Nat) (W wq : World) (x1 x2 x4 x5 : Value) (rows : List (List C3)) (cur : List C3) (hp : p ≤ s.size) (hs : s.size ≤ 65536) (hT : Lib.Utf8Tabs 2 3 W) (hb : 3 < b) (h : St W wq b s x1 x2 (.int .i64 (p : Int)) x4 x5 rows cur) :
    Calls Tryd.prog 52 #[.pointer (some ⟨b, 0, none⟩)] wq fun e W' => e = .returned (.tuple #[]) ∧ St W W' b s (.int .i32 (sigA s (skip s p))) (.int .i64 (skip s p : Nat)) (.int .i64 (aft s (skip s p) : Nat)) x4 x5 rows cur := by
  obtain ⟨v8, v9, v10, hS, hL⟩ := h.box
  refine (next_scan s b p wq _ _ _ _ _ _ _ _ _ hp hs (tabs_below h.below hb hT) hb hS).mono ?_
  rintro e W' ⟨rfl, hS', hd⟩
  exact ⟨rfl, ⟨_, _, _, hS', hL.dif hd⟩, h.ok, h.below.trans (hd.below (fun k hk _ e => by omega) (Nat.le_of_lt hS.lt))⟩

end Go.Proofs.YtkkeoonglcfhnaaDoor.Skt
