/-
  The scanner's scan: from label to label.
-/
import Derived.Test.YthjgldjjplcncabDoorSkbq
import Derived.Test.YthjgldjjplcncabDoorSkcq
import Derived.Test.YthjgldjjplcncabDoorGge
import Derived.Test.YthjgldjjplcncabDoorTrnrq
namespace Go.Proofs.YthjgldjjplcncabDoor.Skt
open Go Go.Lib Go.RowKit Utf Grd

/-- The frame of scan. -/
def fr99 (b : Nat) (u : Nat → Value) : Array Value := #[.pointer (some ⟨b, 0, none⟩), u 1, u 2, u 3, u 4, u 5, u 6, u 7, u 8, u 9, u 10, u 11, u 12, u 13, u 14, u 15, u 16, u 17, u 18, u 19, u 20, u 21, u 22, u 23, u 24, u 25, u 26, u 27, u 28, u 29, u 30, u 31, u 32, u 33, u 34, u 35, u 36, u 37, u 38, u 39, u 40, u 41, u 42, u 43, u 44, u 45, u 46, u 47, u 48, u 49, u 50, u 51, u 52, u 53, u 54, u 55, u 56, u 57, u 58, u 59, u 60, u 61, u 62, u 63, u 64, u 65, u 66, u 67, u 68, u 69, u 70, u 71, u 72, u 73, u 74, u 75, u 76, u 77, u 78, u 79, u 80, u 81, u 82, u 83, u 84, u 85, u 86, u 87, u 88, u 89, u 90, u 91, u 92, u 93, u 94, u 95, u 96, u 97, u 98]
def Fr (b : Nat) (a : Act) : Prop := ∃ u : Nat → Value, a = { tmps := fr99 b u, defers := [] }
def ff (l : List Value) (i : Nat) : Value := l[i]?.getD undef
theorem Fr.of (b : Nat) (u1 u2 u3 u4 u5 u6 u7 u8 u9 u10 u11 u12 u13 u14 u15 u16 u17 u18 u19 u20 u21 u22 u23 u24 u25 u26 u27 u28 u29 u30 u31 u32 u33 u34 u35 u36 u37 u38 u39 u40 u41 u42 u43 u44 u45 u46 u47 u48 u49 u50 u51 u52 u53 u54 u55 u56 u57 u58 u59 u60 u61 u62 u63 u64 u65 u66 u67 u68 u69 u70 u71 u72 u73 u74 u75 u76 u77 u78 u79 u80 u81 u82 u83 u84 u85 u86 u87 u88 u89 u90 u91 u92 u93 u94 u95 u96 u97 u98 : Value) : Fr b { tmps := #[.pointer (some ⟨b, 0, none⟩), u1, u2, u3, u4, u5, u6, u7, u8, u9, u10, u11, u12, u13, u14, u15, u16, u17, u18, u19, u20, u21, u22, u23, u24, u25, u26, u27, u28, u29, u30, u31, u32, u33, u34, u35, u36, u37, u38, u39, u40, u41, u42, u43, u44, u45, u46, u47, u48, u49, u50, u51, u52, u53, u54, u55, u56, u57, u58, u59, u60, u61, u62, u63, u64, u65, u66, u67, u68, u69, u70, u71, u72, u73, u74, u75, u76, u77, u78, u79, u80, u81, u82, u83, u84, u85, u86, u87, u88, u89, u90, u91, u92, u93, u94, u95, u96, u97, u98], defers := [] } := ⟨ff [undef, u1, u2, u3, u4, u5, u6, u7, u8, u9, u10, u11, u12, u13, u14, u15, u16, u17, u18, u19, u20, u21, u22, u23, u24, u25, u26, u27, u28, u29, u30, u31, u32, u33, u34, u35, u36, u37, u38, u39, u40, u41, u42, u43, u44, u45, u46, u47, u48, u49, u50, u51, u52, u53, u54, u55, u56, u57, u58, u59, u60, u61, u62, u63, u64, u65, u66, u67, u68, u69, u70, u71, u72, u73, u74, u75, u76, u77, u78, u79, u80, u81, u82, u83, u84, u85, u86, u87, u88, u89, u90, u91, u92, u93, u94, u95, u96, u97, u98], rfl⟩

theorem wp_scope_six {P : Program} {a : Act} {w : World} {Q : Exit → Act → World → Prop} {c b0 b1 b2 b3 b4 b5 : Code} (J : Nat → Act → World → Prop) (μ : Nat → Act → World → Nat) (h6 : ∀ l a w, 6 ≤ l → ¬ J l a w)
    (f0 : findLabel c 0 = some (Code.skip.seq b0)) (f1 : findLabel c 1 = some (Code.skip.seq b1)) (f2 : findLabel c 2 = some (Code.skip.seq b2)) (f3 : findLabel c 3 = some (Code.skip.seq b3)) (f4 : findLabel c 4 = some (Code.skip.seq b4)) (f5 : findLabel c 5 = some (Code.skip.seq b5))
    (first : (∀ a w, J 0 a w → b0.wp P (Exit.many J Q) a w) → c.wp P (Exit.many J Q) a w)
    (p0 : ∀ a w, J 0 a w → b0.wp P (Exit.many (fun l' a' w' => J l' a' w' ∧ μ l' a' w' < μ 0 a w) Q) a w)
    (p1 : (∀ a w, J 4 a w → b4.wp P (Exit.many (fun l' a' w' => J l' a' w' ∧ μ l' a' w' < μ 4 a w) Q) a w) → ∀ a w, J 1 a w → b1.wp P (Exit.many (fun l' a' w' => J l' a' w' ∧ μ l' a' w' < μ 1 a w) Q) a w)
    (p2 : ∀ a w, J 2 a w → b2.wp P (Exit.many (fun l' a' w' => J l' a' w' ∧ μ l' a' w' < μ 2 a w) Q) a w)
    (p3 : ∀ a w, J 3 a w → b3.wp P (Exit.many (fun l' a' w' => J l' a' w' ∧ μ l' a' w' < μ 3 a w) Q) a w)
    (p4 : ∀ a w, J 4 a w → b4.wp P (Exit.many (fun l' a' w' => J l' a' w' ∧ μ l' a' w' < μ 4 a w) Q) a w)
    (p5 : ∀ a w, J 5 a w → b5.wp P (Exit.many (fun l' a' w' => J l' a' w' ∧ μ l' a' w' < μ 5 a w) Q) a w) : (Code.scope c).wp P Q a w := by
  refine wp_scope_many (fun l => match l with | 0 => Code.skip.seq b0 | 1 => Code.skip.seq b1 | 2 => Code.skip.seq b2 | 3 => Code.skip.seq b3 | 4 => Code.skip.seq b4 | _ => Code.skip.seq b5) J μ (fun l a w hJ => ?_) (first fun a w h => wp_many_weaken (fun _ _ _ h => h.1) (p0 a w h)) (fun l a w hJ => ?_)
  · match l, hJ with
    | 0, _ => exact f0
    | 1, _ => exact f1
    | 2, _ => exact f2
    | 3, _ => exact f3
    | 4, _ => exact f4
    | 5, _ => exact f5
    | n + 6, h => exact absurd h (h6 _ _ _ (by omega))
  · match l, hJ with
    | 0, h => exact wp_seq (wp_skip (p0 a w h))
    | 1, h => exact wp_seq (wp_skip (p1 p4 a w h))
    | 2, h => exact wp_seq (wp_skip (p2 a w h))
    | 3, h => exact wp_seq (wp_skip (p3 a w h))
    | 4, h => exact wp_seq (wp_skip (p4 a w h))
    | 5, h => exact wp_seq (wp_skip (p5 a w h))
    | n + 6, h => exact absurd h (h6 _ _ _ (by omega))

/-- Where the scanner is: what it holds, of the rows and the row at hand. -/
structure St (W wq : World) (b : Nat) (s : ByteArray) (x1 x2 x3 x4 x5 : Value) (rows : List (List C3)) (cur : List C3) : Prop where
  box : ∃ v8 v9 v10, S11 wq b (.string s) x1 x2 x3 x4 x5 (.int .i64 (rows.length : Int)) (.int .i64 ((rows.headD []).length : Int)) v8 v9 v10 ∧ L3 wq b v8 v9 v10 ((rows.flatten ++ cur).map (·.b)) ((rows.flatten ++ cur).map (·.r)) ((rows.flatten ++ cur).map (·.d))
  ok : RowsOk rows cur
  below : Below b W wq
theorem flat_le {n : Nat} : ∀ {rows : List (List C3)}, (∀ r ∈ rows, r.length ≤ n) → rows.flatten.length ≤ n * rows.length
  | [], _ => by simp
  | r :: rs, h => by
    have h1 := h r (List.mem_cons_self ..)
    have h2 := flat_le (n := n) (rows := rs) (fun x hx => h x (List.mem_cons_of_mem _ hx))
    rw [List.flatten_cons, List.length_append, List.length_cons, Nat.mul_succ]
    omega
theorem RowsOk.len {rows : List (List C3)} {cur : List C3} (h : RowsOk rows cur) : (rows.flatten ++ cur).length ≤ 1024 := by
  have h1 := flat_le (n := 16) (rows := rows) (fun r hr => (h.some r hr).2)
  have h2 := h.few
  have h3 := h.short
  rw [List.length_append]
  omega
theorem last_split {cur : List C3} {c : C3} (h : cur.getLast? = some c) : cur = cur.dropLast ++ [c] := by
  have hne : cur ≠ [] := by rintro rfl; cases h
  rw [List.getLast?_eq_some_getLast hne] at h
  cases h
  exact (List.dropLast_concat_getLast hne).symm
theorem last_bt {F cur : List C3} {c : C3} (f : C3 → Bool) (h : cur.getLast? = some c) : bt ((F ++ cur).map f) (((F ++ cur).map f).length - 1) = f c := by
  rw [last_split h, ← List.append_assoc, List.map_append, List.length_append, List.map_cons, List.map_nil, List.length_singleton, Nat.add_sub_cancel]
  unfold bt
  rw [List.getElem?_append_right (Nat.le_refl _), Nat.sub_self]
  rfl
theorem last_set {F cur : List C3} {c c' : C3} (f : C3 → Bool) (h : cur.getLast? = some c) : ((F ++ cur).map f).set (((F ++ cur).map f).length - 1) (f c') = (F ++ (cur.dropLast ++ [c'])).map f := by
  have e : (F ++ cur).map f = (F ++ cur.dropLast).map f ++ [f c] := by
    conv => lhs; rw [last_split h, ← List.append_assoc, List.map_append]
    rfl
  rw [e, List.length_append, List.length_singleton, Nat.add_sub_cancel, List.set_append_right _ _ (Nat.le_refl _), Nat.sub_self, ← List.append_assoc]
  simp
theorem last_map {F cur : List C3} {c c' : C3} (f : C3 → Bool) (h : cur.getLast? = some c) (e : f c' = f c) : (F ++ (cur.dropLast ++ [c'])).map f = (F ++ cur).map f := by
  conv => rhs; rw [last_split h]
  simp [e]
/-- A bar set in one of the lists. -/
theorem L3.bar {W W' : World} {b : Nat} {v8 v9 v10 : Value} {xs ys zs ys' : List Bool} {g : Nat} (h : L3 W b v8 v9 v10 xs ys zs) (hg : v9.ownBlock = some g) (hl : ys'.length = ys.length) (hr : W'.ownsRow (b + 1) 4 1 v9 ys.length (cellsB ys')) (hd : Dif (fun k => k = g) W W') : L3 W' b v8 v9 v10 xs ys' zs := by
  have key : ∀ {n : Nat} {v : Value} {l : List Value}, W.ownsRow (b + 1) 4 1 v n l → v.ownBlock ≠ some g → W'.ownsRow (b + 1) 4 1 v n l := by
    intro n v l h hne
    rcases h with ⟨h1, h2 | ⟨g', cap, cur, e1, e2, e3, e4⟩⟩
    · exact ⟨h1, .inl h2⟩
    · subst e1
      exact ⟨h1, .inr ⟨g', cap, cur, rfl, e2, (hd.block g' (Array.getElem?_eq_some_iff.1 e3).1 (fun e => hne (by rw [← e]; rfl))).trans e3, e4⟩⟩
  exact ⟨key h.r8 (fun e => h.a89 g e hg), by rw [hl]; exact hr, key h.r10 (fun e => h.a910 g hg e), h.a89, h.a810, h.a910⟩
theorem row_some {W : World} {B n : Nat} {v : Value} {l : List Value} (h : W.ownsRow B 4 1 v n l) (hn : 1 ≤ n) : ∃ g cap, v = .slice (some ⟨g, 0, none⟩) n cap ∧ B ≤ g := by
  rcases h.2 with ⟨_, h0⟩ | ⟨g, cap, cur, e, e2, _⟩
  · omega
  · exact ⟨g, cap, e, e2⟩

/-- What scan leaves. -/
def Out (W : World) (b : Nat) (s : ByteArray) (R : (Nat × Nat) ⊕ List (List C3)) (e : Ending) (W' : World) : Prop :=
  (∃ a er, R = .inl (a, er) ∧ e = .returned (.tuple #[.int .i64 ((a : Nat) : Int), .int .i64 ((er : Nat) : Int)]) ∧ Below b W W') ∨
  ∃ rows x1 x2 x3 x4 x5, R = .inr rows ∧ e = .returned (.tuple #[.int .i64 0, .int .i64 0]) ∧ St W W' b s x1 x2 x3 x4 x5 rows []
/-- What holds at the labels. -/
def At (W : World) (b : Nat) (s : ByteArray) (R : (Nat × Nat) ⊕ List (List C3)) (l : Nat) (a : Act) (wq : World) : Prop :=
  Fr b a ∧ match l with
  | 0 => ∃ (p : Nat) (rows : List (List C3)) (x1 x2 x4 x5 : Value), p ≤ s.size ∧ St W wq b s x1 x2 (.int .i64 (p : Int)) x4 x5 rows [] ∧ scan s p p rows [] = R
  | 1 => ∃ (q ls : Nat) (rows : List (List C3)) (cur : List C3), q < s.size ∧ (sigA s q = 46 ∨ sigA s q = 35) ∧ (∀ _ : q < s.size, ¬ ((Utf8.decode s q).1 ≠ 10 ∧ cls ((Utf8.decode s q).1 : Int) = 3)) ∧ St W wq b s (.int .i32 (sigA s q)) (.int .i64 (q : Int)) (.int .i64 (aft s q : Nat)) (.int .i64 (ls : Int)) (.int .i64 (cur.length : Int)) rows cur ∧ scan s q ls rows cur = R
  | 2 => ∃ (q : Nat) (x1 x3 x4 x5 : Value) (rows : List (List C3)) (cur : List C3), q ≤ s.size ∧ St W wq b s x1 (.int .i64 (q : Int)) x3 x4 x5 rows cur ∧ R = .inl (q, 83)
  | 3 => ∃ (q : Nat) (x1 x3 x4 x5 : Value) (rows : List (List C3)) (cur : List C3), q ≤ s.size ∧ St W wq b s x1 (.int .i64 (q : Int)) x3 x4 x5 rows cur ∧ R = .inl (q, 80)
  | 4 => ∃ (p ls : Nat) (rows : List (List C3)) (cur : List C3) (x1 x2 : Value), p ≤ s.size ∧ cur ≠ [] ∧ St W wq b s x1 x2 (.int .i64 (p : Int)) (.int .i64 (ls : Int)) (.int .i64 (cur.length : Int)) rows cur ∧ scan s p ls rows cur = R
  | 5 => ∃ (q ls : Nat) (rows : List (List C3)) (cur : List C3), q ≤ s.size ∧ cur ≠ [] ∧ (sigA s q = 10 ∨ sigA s q = -1) ∧ (∀ _ : q < s.size, ¬ ((Utf8.decode s q).1 ≠ 10 ∧ cls ((Utf8.decode s q).1 : Int) = 3)) ∧ St W wq b s (.int .i32 (sigA s q)) (.int .i64 (q : Int)) (.int .i64 (aft s q : Nat)) (.int .i64 (ls : Int)) (.int .i64 (cur.length : Int)) rows cur ∧ scan s q ls rows cur = R
  | _ => False
def rank : Nat → Nat | 1 => 3 | 4 => 2 | 5 => 1 | _ => 0
def mu (s : ByteArray) (b : Nat) (l : Nat) (_ : Act) (wq : World) : Nat := 4 * (s.size - rdN wq b 3) + rank l
theorem St.bh {W wq : World} {b : Nat} {s : ByteArray} {x1 x2 x4 x5 : Value} {p : Nat} {rows : List (List C3)} {cur : List C3} (h : St W wq b s x1 x2 (.int .i64 (p : Int)) x4 x5 rows cur) : rdN wq b 3 = p := by
  obtain ⟨v8, v9, v10, hS, _⟩ := h.box
  exact rdN_of hS.c3
/-- Next, where the scanner is. -/
theorem next_st (s : ByteArray) (b p : Nat) (W wq : World) (x1 x2 x4 x5 : Value) (rows : List (List C3)) (cur : List C3) (hp : p ≤ s.size) (hs : s.size ≤ 65536) (hT : Lib.Utf8Tabs 1 2 W) (hb : 2 < b) (h : St W wq b s x1 x2 (.int .i64 (p : Int)) x4 x5 rows cur) :
    Calls Tryd.prog 38 #[.pointer (some ⟨b, 0, none⟩)] wq fun e W' => e = .returned (.tuple #[]) ∧ St W W' b s (.int .i32 (sigA s (skip s p))) (.int .i64 (skip s p : Nat)) (.int .i64 (aft s (skip s p) : Nat)) x4 x5 rows cur := by
  obtain ⟨v8, v9, v10, hS, hL⟩ := h.box
  refine (next_scan s b p wq _ _ _ _ _ _ _ _ _ hp hs (tabs_below h.below hb hT) hb hS).mono ?_
  rintro e W' ⟨rfl, hS', hd⟩
  exact ⟨rfl, ⟨_, _, _, hS', hL.dif hd⟩, h.ok, h.below.trans (hd.below (fun k hk _ e => by omega) (Nat.le_of_lt hS.lt))⟩

end Go.Proofs.YthjgldjjplcncabDoor.Skt
/-
  The scanner's scan walked: for every text.
-/
namespace Go.Proofs.YthjgldjjplcncabDoor.Skt
open Go Go.Lib Go.RowKit Utf Grd

theorem sigN_nn (r : Nat) : 0 ≤ sigN r := by
  unfold sigN
  split
  · decide
  · split
    · decide
    · omega
theorem sigA_in {s : ByteArray} {q : Nat} (h : sigA s q ≠ -1) : q < s.size := by
  unfold sigA at h
  by_cases k : q < s.size
  · exact k
  · rw [if_neg k] at h
    exact absurd rfl h
theorem St.to {W wq w1 : World} {b : Nat} {s : ByteArray} {y1 y2 y3 y4 y5 z1 z2 z3 z4 z5 v8 v9 v10 : Value} {rows : List (List C3)} {cur : List C3} (h : St W wq b s y1 y2 y3 y4 y5 rows cur) (hlt : b ≤ wq.heap.size)
    (hL : L3 wq b v8 v9 v10 ((rows.flatten ++ cur).map (·.b)) ((rows.flatten ++ cur).map (·.r)) ((rows.flatten ++ cur).map (·.d)))
    (hS : S11 w1 b (.string s) z1 z2 z3 z4 z5 (.int .i64 (rows.length : Int)) (.int .i64 ((rows.headD []).length : Int)) v8 v9 v10) (hd : Dif (fun k => k = b) wq w1) : St W w1 b s z1 z2 z3 z4 z5 rows cur :=
  ⟨⟨v8, v9, v10, hS, hL.dif hd⟩, h.ok, h.below.trans (hd.below (fun k hk _ e => by omega) hlt)⟩
theorem beq_no {a c : Int} (h : a ≠ c) : (a == c) = false := by rw [beq_eq_false_iff_ne]; exact h
theorem St.cell {W wq w1 : World} {b : Nat} {s : ByteArray} {y1 y2 y3 y4 y5 z1 z2 z3 z4 z5 u8 u9 u10 : Value} {rows : List (List C3)} {cur : List C3} {sg : Int} (h : St W wq b s y1 y2 y3 y4 y5 rows cur) (hn : ¬ (cur.length = 16 ∨ rows.length = 16))
    (hS : S11 w1 b (.string s) z1 z2 z3 z4 z5 (.int .i64 (rows.length : Int)) (.int .i64 ((rows.headD []).length : Int)) u8 u9 u10)
    (hL : L3 w1 b u8 u9 u10 ((rows.flatten ++ cur).map (·.b) ++ [sg == 35]) ((rows.flatten ++ cur).map (·.r) ++ [false]) ((rows.flatten ++ cur).map (·.d) ++ [false])) (hb : Below b wq w1) :
    St W w1 b s z1 z2 z3 z4 z5 rows (cur ++ [⟨decide (sg = 35), false, false⟩]) := by
  refine ⟨⟨u8, u9, u10, hS, ?_⟩, h.ok.cell hn _, h.below.trans hb⟩
  have e1 : (rows.flatten ++ (cur ++ [(⟨decide (sg = 35), false, false⟩ : C3)])).map (·.b) = (rows.flatten ++ cur).map (·.b) ++ [sg == 35] := by simp; rfl
  have e2 : (rows.flatten ++ (cur ++ [(⟨decide (sg = 35), false, false⟩ : C3)])).map (·.r) = (rows.flatten ++ cur).map (·.r) ++ [false] := by simp
  have e3 : (rows.flatten ++ (cur ++ [(⟨decide (sg = 35), false, false⟩ : C3)])).map (·.d) = (rows.flatten ++ cur).map (·.d) ++ [false] := by simp
  rw [e1, e2, e3]
  exact hL
theorem head_row {rows : List (List C3)} {cur : List C3} : ((rows ++ [cur]).headD []).length = if rows.length = 0 then cur.length else (rows.headD []).length := by
  cases rows with
  | nil => rfl
  | cons r rs => rfl
theorem St.row {W wq w1 : World} {b : Nat} {s : ByteArray} {y1 y2 y3 y4 y5 z1 z2 z3 z4 z5 v8 v9 v10 : Value} {rows : List (List C3)} {cur : List C3} (h : St W wq b s y1 y2 y3 y4 y5 rows cur) (hlt : b ≤ wq.heap.size) (hc : cur ≠ []) (he : rows.length = 0 ∨ cur.length = (rows.headD []).length)
    (hL : L3 wq b v8 v9 v10 ((rows.flatten ++ cur).map (·.b)) ((rows.flatten ++ cur).map (·.r)) ((rows.flatten ++ cur).map (·.d)))
    (hS : S11 w1 b (.string s) z1 z2 z3 z4 z5 (.int .i64 ((rows.length + 1 : Nat) : Int)) (.int .i64 ((if rows.length = 0 then cur.length else (rows.headD []).length : Nat) : Int)) v8 v9 v10) (hd : Dif (fun k => k = b) wq w1) : St W w1 b s z1 z2 z3 z4 z5 (rows ++ [cur]) [] := by
  have ef : (rows ++ [cur]).flatten ++ [] = rows.flatten ++ cur := by simp
  refine ⟨⟨v8, v9, v10, ?_, ?_⟩, h.ok.row hc (he.imp List.length_eq_zero_iff.1 fun e => e.symm), h.below.trans (hd.below (fun k hk _ e => by omega) hlt)⟩
  · rw [head_row, List.length_append]
    exact hS
  · rw [ef]
    exact hL.dif hd
theorem endRow_no {rows : List (List C3)} {cur : List C3} {ls : Nat} (hc : cur ≠ []) (he : ¬ (rows.length = 0 ∨ cur.length = (rows.headD []).length)) : endRow rows cur ls = .inl (ls, 81) := by
  unfold endRow
  rw [if_neg hc, if_neg]
  exact fun k => he (k.imp (fun e => by rw [e]; rfl) fun e => e.symm)
theorem endRow_yes {rows : List (List C3)} {cur : List C3} {ls : Nat} (hc : cur ≠ []) (he : rows.length = 0 ∨ cur.length = (rows.headD []).length) : endRow rows cur ls = .inr (rows ++ [cur]) := by
  unfold endRow
  rw [if_neg hc, if_pos]
  exact he.imp List.length_eq_zero_iff.1 fun e => e.symm
theorem St.setBarR {W wq w1 : World} {b g : Nat} {s : ByteArray} {y1 y2 y3 y4 y5 v8 v9 v10 : Value} {rows : List (List C3)} {cur : List C3} {c : C3} (h : St W wq b s y1 y2 y3 y4 y5 rows cur) (hl : cur.getLast? = some c)
    (hS : S11 wq b (.string s) y1 y2 y3 y4 y5 (.int .i64 (rows.length : Int)) (.int .i64 ((rows.headD []).length : Int)) v8 v9 v10)
    (hL : L3 wq b v8 v9 v10 ((rows.flatten ++ cur).map (·.b)) ((rows.flatten ++ cur).map (·.r)) ((rows.flatten ++ cur).map (·.d))) (hg : v9.ownBlock = some g)
    (hr : w1.ownsRow (b + 1) 4 1 v9 ((rows.flatten ++ cur).map (·.r)).length (cellsB (((rows.flatten ++ cur).map (·.r)).set (((rows.flatten ++ cur).map (·.r)).length - 1) true))) (hd : Dif (fun k => k = g) wq w1) :
    St W w1 b s y1 y2 y3 y4 y5 rows (cur.dropLast ++ [setR c]) := by
  have hne : cur ≠ [] := by rintro rfl; cases hl
  have hgb := (hL.r9.lt g hg).1
  refine ⟨⟨v8, v9, v10, hS.dif hd (fun e => by omega), ?_⟩, h.ok.last hne _, h.below.trans (hd.below (fun k hk _ e => by omega) (Nat.le_of_lt hS.lt))⟩
  rw [last_map (c' := setR c) (·.b) hl rfl, last_map (c' := setR c) (·.d) hl rfl, ← last_set (c' := setR c) (·.r) hl]
  exact hL.bar hg (List.length_set ..) hr hd
theorem St.setBarD {W wq w1 : World} {b g : Nat} {s : ByteArray} {y1 y2 y3 y4 y5 v8 v9 v10 : Value} {rows : List (List C3)} {cur : List C3} {c : C3} (h : St W wq b s y1 y2 y3 y4 y5 rows cur) (hl : cur.getLast? = some c)
    (hS : S11 wq b (.string s) y1 y2 y3 y4 y5 (.int .i64 (rows.length : Int)) (.int .i64 ((rows.headD []).length : Int)) v8 v9 v10)
    (hL : L3 wq b v8 v9 v10 ((rows.flatten ++ cur).map (·.b)) ((rows.flatten ++ cur).map (·.r)) ((rows.flatten ++ cur).map (·.d))) (hg : v10.ownBlock = some g)
    (hr : w1.ownsRow (b + 1) 4 1 v10 ((rows.flatten ++ cur).map (·.d)).length (cellsB (((rows.flatten ++ cur).map (·.d)).set (((rows.flatten ++ cur).map (·.d)).length - 1) true))) (hd : Dif (fun k => k = g) wq w1) :
    St W w1 b s y1 y2 y3 y4 y5 rows (cur.dropLast ++ [setD c]) := by
  have hne : cur ≠ [] := by rintro rfl; cases hl
  have hgb := (hL.r10.lt g hg).1
  refine ⟨⟨v8, v9, v10, hS.dif hd (fun e => by omega), ?_⟩, h.ok.last hne _, h.below.trans (hd.below (fun k hk _ e => by omega) (Nat.le_of_lt hS.lt))⟩
  rw [last_map (c' := setD c) (·.b) hl rfl, last_map (c' := setD c) (·.r) hl rfl, ← last_set (c' := setD c) (·.d) hl]
  exact (hL.rot.bar hg (List.length_set ..) hr hd).rot.rot

set_option maxRecDepth 100000 in
set_option maxHeartbeats 8000000 in
theorem scan_any (s : ByteArray) (b : Nat) (W : World) (x1 x2 x4 x5 : Value) (hs : s.size ≤ 65536) (hT : Lib.Utf8Tabs 1 2 W) (hb : 2 < b)
    (h : S11 W b (.string s) x1 x2 (.int .i64 0) x4 x5 (.int .i64 0) (.int .i64 0) (.slice none 0 0) (.slice none 0 0) (.slice none 0 0)) :
    Calls Tryd.prog 20 #[.pointer (some ⟨b, 0, none⟩)] W fun e W' => Out W b s (scan s 0 0 [] []) e W' := by
  have H0 : St W W b s x1 x2 (.int .i64 ((0 : Nat) : Int)) x4 x5 [] [] := ⟨⟨_, _, _, h, L3.nil W b⟩, RowsOk.nil, Below.refl _ _⟩
  have HN : Aside (∀ wq p x1 x2 x4 x5 rows cur (_ : p ≤ s.size) (_ : St W wq b s x1 x2 (.int .i64 ((p : Nat) : Int)) x4 x5 rows cur), Calls Tryd.prog 38 #[.pointer (some ⟨b, 0, none⟩)] wq fun e W' => e = .returned (.tuple #[]) ∧ St W W' b s (.int .i32 (sigA s (skip s p))) (.int .i64 (skip s p : Nat)) (.int .i64 (aft s (skip s p) : Nat)) x4 x5 rows cur) := fun wq p x1 x2 x4 x5 rows cur hp h => next_st s b p W wq x1 x2 x4 x5 rows cur hp hs hT hb h
  clear h hT
  generalize hR : scan s 0 0 [] [] = R
  go_enter Tryd.func20, Tryd.ntmps20
  go_wp2
  refine wp_scope_six (At W b s R) (mu s b) (fun l a w hl h => ?h6) rfl rfl rfl rfl rfl rfl ?first ?p0 ?p1 ?p2 ?p3 ?p4 ?p5
  case h6 =>
    obtain ⟨n, rfl⟩ : ∃ n, l = n + 6 := ⟨l - 6, by omega⟩
    exact h.2
  case first =>
    intro hpass
    go_wp2
    go_step3
    rename_i K hK
    refine hK _ _ ?_
    exact hpass _ _ ⟨Fr.of b _ _ _ _ _ _ _ _ _ _ _ _ _ _ _ _ _ _ _ _ _ _ _ _ _ _ _ _ _ _ _ _ _ _ _ _ _ _ _ _ _ _ _ _ _ _ _ _ _ _ _ _ _ _ _ _ _ _ _ _ _ _ _ _ _ _ _ _ _ _ _ _ _ _ _ _ _ _ _ _ _ _ _ _ _ _ _ _ _ _ _ _ _ _ _ _ _ _, 0, [], x1, x2, x4, x5, Nat.zero_le _, H0, hR⟩

  case p2 =>
    rintro a wq ⟨⟨u, rfl⟩, q, y1, y3, y4, y5, rows, cur, hq, hSt, hE⟩
    obtain ⟨v8, v9, v10, hS, hL⟩ := hSt.box
    have k2 := hS.c2
    have HB : Aside (Below b W wq ∧ R = .inl (q, 83)) := ⟨hSt.below, hE⟩
    clear hS hL hSt hR H0 hE HN
    unfold fr99
    generalize mu s b 2 _ wq = m0
    generalize (fun (l' : Nat) (a' : Act) (w' : World) => At W b s R l' a' w' ∧ mu s b l' a' w' < m0) = J
    go_wp2
    simp only [Exit.many]
    go_ret2
    exact Or.inl ⟨q, 83, HB.out.2, rfl, HB.out.1⟩
  case p3 =>
    rintro a wq ⟨⟨u, rfl⟩, q, y1, y3, y4, y5, rows, cur, hq, hSt, hE⟩
    obtain ⟨v8, v9, v10, hS, hL⟩ := hSt.box
    have k2 := hS.c2
    have HB : Aside (Below b W wq ∧ R = .inl (q, 80)) := ⟨hSt.below, hE⟩
    clear hS hL hSt hR H0 hE HN
    unfold fr99
    generalize mu s b 3 _ wq = m0
    generalize (fun (l' : Nat) (a' : Act) (w' : World) => At W b s R l' a' w' ∧ mu s b l' a' w' < m0) = J
    go_wp2
    simp only [Exit.many]
    go_ret2
    exact Or.inl ⟨q, 80, HB.out.2, rfl, HB.out.1⟩
  case p0 =>
    rintro a wq ⟨⟨u, rfl⟩, p, rows, y1, y2, y4, y5, hp, hSt, hE⟩
    unfold fr99
    generalize hm : mu s b 0 _ wq = m0
    generalize hJ : (fun (l' : Nat) (a' : Act) (w' : World) => At W b s R l' a' w' ∧ mu s b l' a' w' < m0) = J
    unfold mu rank at hm
    rw [hSt.bh] at hm
    obtain ⟨v8, v9, v10, hS, hL⟩ := hSt.box
    have k3 := hS.c3
    have k4 := hS.c4
    have k5 := hS.c5
    have f4 := hS.fr 4
    have f5 := hS.fr 5
    have hSt1 : St W ((wq.setCell ⟨b, 4, none⟩ (.int .i64 (p : Int))).setCell ⟨b, 5, none⟩ (.int .i64 0)) b s y1 y2 (.int .i64 (p : Int)) (.int .i64 (p : Int)) (.int .i64 (([] : List C3).length : Int)) rows [] := hSt.to (Nat.le_of_lt hS.lt) hL ((hS.set4 _).set5 _) (((Dif.refl (fun k => k = b) wq).set b _ _ rfl).set b _ _ rfl)
    have cN := HN.out _ p _ _ _ _ _ _ hp hSt1
    obtain ⟨q1, q2, q3⟩ := skip_spec s p hp
    rw [scan_skip] at hE
    generalize skip s p = q at *
    have HQ : Aside (scan s q p rows [] = R ∧ p ≤ q ∧ q ≤ s.size ∧ (∀ _ : q < s.size, ¬ ((Utf8.decode s q).1 ≠ 10 ∧ cls ((Utf8.decode s q).1 : Int) = 3)) ∧ 4 * (s.size - p) + 0 = m0) := ⟨hE, q1, q2, q3, hm⟩
    have HJ : Aside ((fun (l' : Nat) (a' : Act) (w' : World) => At W b s R l' a' w' ∧ mu s b l' a' w' < m0) = J) := hJ
    clear hS hL hSt hSt1 hE q1 q2 q3 hm hJ HN H0 hR
    go_wp2_with fail
    refine cN.mono ?_
    rintro e w2 ⟨rfl, hSt2⟩
    have HS2 : Aside (St W w2 b s (.int .i32 (sigA s q)) (.int .i64 (q : Int)) (.int .i64 (aft s q : Nat)) (.int .i64 (p : Int)) (.int .i64 (([] : List C3).length : Int)) rows []) := hSt2
    obtain ⟨v8, v9, v10, hS2, _⟩ := hSt2.box
    have k1 := hS2.c1
    have HG : Aside (_ ∧ _) := scan_sig (ls := p) (rows := rows) (cur := []) HQ.out.2.2.2.1
    clear hSt2 hS2 cN k3 k4 k5 f4 f5
    by_cases h46 : sigA s q = 46
    · rw [h46] at k1
      have hin := sigA_in (s := s) (q := q) (by rw [h46]; decide)
      have HI : Aside (q < s.size ∧ q < aft s q ∧ aft s q ≤ s.size ∧ sigA s q = 46) := ⟨hin, aft_in hin, (aft_le HQ.out.2.2.1).2, h46⟩
      clear hin h46
      go_wp2
      go_step3
      show J _ _ _
      rw [← HJ.out]
      refine ⟨⟨Fr.of b _ _ _ _ _ _ _ _ _ _ _ _ _ _ _ _ _ _ _ _ _ _ _ _ _ _ _ _ _ _ _ _ _ _ _ _ _ _ _ _ _ _ _ _ _ _ _ _ _ _ _ _ _ _ _ _ _ _ _ _ _ _ _ _ _ _ _ _ _ _ _ _ _ _ _ _ _ _ _ _ _ _ _ _ _ _ _ _ _ _ _ _ _ _ _ _ _ _, q, p, rows, [], HI.out.1, Or.inl HI.out.2.2.2, HQ.out.2.2.2.1, HS2.out, HQ.out.1⟩, ?_⟩
      show 4 * (s.size - rdN w2 b 3) + 3 < m0
      rw [HS2.out.bh]
      have := HQ.out
      have := HI.out
      omega
    by_cases h35 : sigA s q = 35
    · rw [h35] at k1
      have hin := sigA_in (s := s) (q := q) (by rw [h35]; decide)
      have HI : Aside (q < s.size ∧ q < aft s q ∧ aft s q ≤ s.size ∧ sigA s q = 35) := ⟨hin, aft_in hin, (aft_le HQ.out.2.2.1).2, h35⟩
      clear hin h35
      go_wp2
      go_step3
      show J _ _ _
      rw [← HJ.out]
      refine ⟨⟨Fr.of b _ _ _ _ _ _ _ _ _ _ _ _ _ _ _ _ _ _ _ _ _ _ _ _ _ _ _ _ _ _ _ _ _ _ _ _ _ _ _ _ _ _ _ _ _ _ _ _ _ _ _ _ _ _ _ _ _ _ _ _ _ _ _ _ _ _ _ _ _ _ _ _ _ _ _ _ _ _ _ _ _ _ _ _ _ _ _ _ _ _ _ _ _ _ _ _ _ _, q, p, rows, [], HI.out.1, Or.inr HI.out.2.2.2, HQ.out.2.2.2.1, HS2.out, HQ.out.1⟩, ?_⟩
      show 4 * (s.size - rdN w2 b 3) + 3 < m0
      rw [HS2.out.bh]
      have := HQ.out
      have := HI.out
      omega
    by_cases h124 : sigA s q = 124
    · rw [h124] at k1
      have hin := sigA_in (s := s) (q := q) (by rw [h124]; decide)
      have HI : Aside (q < s.size ∧ q < aft s q ∧ aft s q ≤ s.size) := ⟨hin, aft_in hin, (aft_le HQ.out.2.2.1).2⟩
      have HE : Aside (R = .inl (q, 83)) := HQ.out.1.symm.trans (HG.out.2.2.2.1 h124)
      clear hin h124
      go_wp2
      go_step3
      show J _ _ _
      rw [← HJ.out]
      refine ⟨⟨Fr.of b _ _ _ _ _ _ _ _ _ _ _ _ _ _ _ _ _ _ _ _ _ _ _ _ _ _ _ _ _ _ _ _ _ _ _ _ _ _ _ _ _ _ _ _ _ _ _ _ _ _ _ _ _ _ _ _ _ _ _ _ _ _ _ _ _ _ _ _ _ _ _ _ _ _ _ _ _ _ _ _ _ _ _ _ _ _ _ _ _ _ _ _ _ _ _ _ _ _, q, _, _, _, _, rows, [], Nat.le_of_lt HI.out.1, HS2.out, HE.out⟩, ?_⟩
      show 4 * (s.size - rdN w2 b 3) + 0 < m0
      rw [HS2.out.bh]
      have := HQ.out
      have := HI.out
      omega
    by_cases h95 : sigA s q = 95
    · rw [h95] at k1
      have hin := sigA_in (s := s) (q := q) (by rw [h95]; decide)
      have HI : Aside (q < s.size ∧ q < aft s q ∧ aft s q ≤ s.size) := ⟨hin, aft_in hin, (aft_le HQ.out.2.2.1).2⟩
      have HE : Aside (R = .inl (q, 83)) := HQ.out.1.symm.trans (HG.out.2.2.2.2.1 h95)
      clear hin h95
      go_wp2
      go_step3
      show J _ _ _
      rw [← HJ.out]
      refine ⟨⟨Fr.of b _ _ _ _ _ _ _ _ _ _ _ _ _ _ _ _ _ _ _ _ _ _ _ _ _ _ _ _ _ _ _ _ _ _ _ _ _ _ _ _ _ _ _ _ _ _ _ _ _ _ _ _ _ _ _ _ _ _ _ _ _ _ _ _ _ _ _ _ _ _ _ _ _ _ _ _ _ _ _ _ _ _ _ _ _ _ _ _ _ _ _ _ _ _ _ _ _ _, q, _, _, _, _, rows, [], Nat.le_of_lt HI.out.1, HS2.out, HE.out⟩, ?_⟩
      show 4 * (s.size - rdN w2 b 3) + 0 < m0
      rw [HS2.out.bh]
      have := HQ.out
      have := HI.out
      omega
    by_cases h10 : sigA s q = 10
    · rw [h10] at k1
      have hin := sigA_in (s := s) (q := q) (by rw [h10]; decide)
      have HI : Aside (q < s.size ∧ q < aft s q ∧ aft s q ≤ s.size) := ⟨hin, aft_in hin, (aft_le HQ.out.2.2.1).2⟩
      have HE : Aside (scan s (aft s q) (aft s q) rows [] = R) := (HG.out.2.1 h10).symm.trans HQ.out.1
      clear hin h10
      go_wp2
      go_step3
      show J _ _ _
      rw [← HJ.out]
      refine ⟨⟨Fr.of b _ _ _ _ _ _ _ _ _ _ _ _ _ _ _ _ _ _ _ _ _ _ _ _ _ _ _ _ _ _ _ _ _ _ _ _ _ _ _ _ _ _ _ _ _ _ _ _ _ _ _ _ _ _ _ _ _ _ _ _ _ _ _ _ _ _ _ _ _ _ _ _ _ _ _ _ _ _ _ _ _ _ _ _ _ _ _ _ _ _ _ _ _ _ _ _ _ _, aft s q, rows, _, _, _, _, HI.out.2.2, HS2.out, HE.out⟩, ?_⟩
      show 4 * (s.size - rdN w2 b 3) + 0 < m0
      rw [HS2.out.bh]
      have := HQ.out
      have := HI.out
      omega
    by_cases hm1 : sigA s q = -1
    · rw [hm1] at k1
      have HE : Aside (R = .inr rows) := HQ.out.1.symm.trans (HG.out.1 hm1)
      clear hm1
      go_wp2
      simp only [Exit.many]
      go_ret2
      exact Or.inr ⟨rows, _, _, _, _, _, HE.out, rfl, HS2.out⟩
    have hin := sigA_in hm1
    have HI : Aside (q < s.size ∧ q < aft s q ∧ aft s q ≤ s.size) := ⟨hin, aft_in hin, (aft_le HQ.out.2.2.1).2⟩
    have HE : Aside (R = .inl (q, 80)) := HQ.out.1.symm.trans (HG.out.2.2.2.2.2 hm1 h10 h46 h35 h124 h95)
    have b46 := beq_no h46
    have b35 := beq_no h35
    have b124 := beq_no h124
    have b95 := beq_no h95
    have b10 := beq_no h10
    have bm1 := beq_no hm1
    generalize sigA s q = sg at *
    clear hin h46 h35 h124 h95 h10 hm1 HG
    go_wp2
    go_step3
    show J _ _ _
    rw [← HJ.out]
    refine ⟨⟨Fr.of b _ _ _ _ _ _ _ _ _ _ _ _ _ _ _ _ _ _ _ _ _ _ _ _ _ _ _ _ _ _ _ _ _ _ _ _ _ _ _ _ _ _ _ _ _ _ _ _ _ _ _ _ _ _ _ _ _ _ _ _ _ _ _ _ _ _ _ _ _ _ _ _ _ _ _ _ _ _ _ _ _ _ _ _ _ _ _ _ _ _ _ _ _ _ _ _ _ _, q, _, _, _, _, rows, [], Nat.le_of_lt HI.out.1, HS2.out, HE.out⟩, ?_⟩
    show 4 * (s.size - rdN w2 b 3) + 0 < m0
    rw [HS2.out.bh]
    have := HQ.out
    have := HI.out
    omega
  case p1 =>
    rintro hp4 a wq ⟨⟨u, rfl⟩, q, ls, rows, cur, hq, hsg, hnb, hSt, hE⟩
    unfold fr99
    generalize hm : mu s b 1 _ wq = m0
    generalize hJ : (fun (l' : Nat) (a' : Act) (w' : World) => At W b s R l' a' w' ∧ mu s b l' a' w' < m0) = J
    unfold mu rank at hm
    rw [hSt.bh] at hm
    obtain ⟨v8, v9, v10, hS, hL⟩ := hSt.box
    have hG := (scan_sig (ls := ls) (rows := rows) (cur := cur) hnb).2.2.1 hsg
    have k2 := hS.c2
    have k5 := hS.c5
    have k6 := hS.c6
    have hr16 := hSt.ok.few
    have hc16 := hSt.ok.short
    by_cases hf : cur.length = 16 ∨ rows.length = 16
    · rw [if_pos hf] at hG
      have HE : Aside (R = .inl (q, 50) ∧ Below b W wq) := ⟨hE.symm.trans hG, hSt.below⟩
      clear hG hE hSt hS hL hsg hnb hm hJ hp4 HN H0 hR
      by_cases h1 : cur.length = 16
      · rw [h1] at k5
        clear hf h1
        go_wp2
        simp only [Exit.many]
        go_ret2
        exact Or.inl ⟨q, 50, HE.out.1, rfl, HE.out.2⟩
      · have h2 : rows.length = 16 := hf.resolve_left h1
        rw [h2] at k6
        have hc : ((cur.length : Int) == 16) = false := beq_no (by omega)
        clear hf h1 h2
        go_wp2
        simp only [Exit.many]
        go_ret2
        exact Or.inl ⟨q, 50, HE.out.1, rfl, HE.out.2⟩
    · rw [if_neg hf] at hG
      have hc : ((cur.length : Int) == 16) = false := beq_no (by omega)
      have hr : ((rows.length : Int) == 16) = false := beq_no (by omega)
      have hlen := hSt.ok.len
      have cA := addCell_any b cur.length (sigA s q) _ _ _ _ _ _ _ _ _ _ _ _ wq hc16 (by rw [List.length_map]; exact hlen) (by rw [List.length_map]; exact hlen) (by rw [List.length_map]; exact hlen) hS hL
      have HA : Aside (St W wq b s (.int .i32 (sigA s q)) (.int .i64 (q : Int)) (.int .i64 (aft s q : Nat)) (.int .i64 (ls : Int)) (.int .i64 (cur.length : Int)) rows cur ∧ ¬ (cur.length = 16 ∨ rows.length = 16) ∧ scan s (aft s q) ls rows (cur ++ [⟨decide (sigA s q = 35), false, false⟩]) = R ∧ aft s q ≤ s.size ∧ 4 * (s.size - aft s q) + 3 = m0) := ⟨hSt, hf, hG.symm.trans hE, (aft_le (Nat.le_of_lt hq)).2, hm⟩
      have HJ : Aside ((fun (l' : Nat) (a' : Act) (w' : World) => At W b s R l' a' w' ∧ mu s b l' a' w' < m0) = J) := hJ
      have HP4 : Aside (∀ a w, At W b s R 4 a w → Code.wp _ _ _ a w) := hp4
      clear hG hE hSt hS hL hsg hnb hm hJ hp4 HN H0 hR hf hlen
      go_wp2_with fail
      refine cA.mono ?_
      rintro e w2 ⟨rfl, z8, z9, z10, hS2, hL2, hb2⟩
      have HS2 : Aside (St W w2 b s (.int .i32 (sigA s q)) (.int .i64 (q : Int)) (.int .i64 (aft s q : Nat)) (.int .i64 (ls : Int)) (.int .i64 ((cur ++ [(⟨decide (sigA s q = 35), false, false⟩ : C3)]).length : Int)) rows (cur ++ [⟨decide (sigA s q = 35), false, false⟩])) := by
        rw [List.length_append, List.length_singleton]
        exact HA.out.1.cell HA.out.2.1 hS2 hL2 hb2
      clear hS2 hL2 hb2 cA
      go_wp2
      go_step3
      rename_i K hK
      refine hK _ _ ?_
      refine wp_many_weaken ?_ (HP4.out _ _ ⟨Fr.of b _ _ _ _ _ _ _ _ _ _ _ _ _ _ _ _ _ _ _ _ _ _ _ _ _ _ _ _ _ _ _ _ _ _ _ _ _ _ _ _ _ _ _ _ _ _ _ _ _ _ _ _ _ _ _ _ _ _ _ _ _ _ _ _ _ _ _ _ _ _ _ _ _ _ _ _ _ _ _ _ _ _ _ _ _ _ _ _ _ _ _ _ _ _ _ _ _ _, aft s q, ls, rows, _, _, _, HA.out.2.2.2.1, (by simp), HS2.out, HA.out.2.2.1⟩)
      intro l a' w' h
      rw [← HJ.out]
      refine ⟨h.1, Nat.lt_of_lt_of_le h.2 ?_⟩
      show 4 * (s.size - rdN w2 b 3) + 2 ≤ m0
      rw [HS2.out.bh]
      have := HA.out.2.2.2.2
      omega
  case p4 =>
    rintro a wq ⟨⟨u, rfl⟩, p, ls, rows, cur, y1, y2, hp, hcn, hSt, hE⟩
    unfold fr99
    generalize hm : mu s b 4 _ wq = m0
    generalize hJ : (fun (l' : Nat) (a' : Act) (w' : World) => At W b s R l' a' w' ∧ mu s b l' a' w' < m0) = J
    unfold mu rank at hm
    rw [hSt.bh] at hm
    have cN := HN.out _ p _ _ _ _ _ _ hp hSt
    obtain ⟨q1, q2, q3⟩ := skip_spec s p hp
    rw [scan_skip] at hE
    generalize skip s p = q at *
    have HQ : Aside (scan s q ls rows cur = R ∧ p ≤ q ∧ q ≤ s.size ∧ (∀ _ : q < s.size, ¬ ((Utf8.decode s q).1 ≠ 10 ∧ cls ((Utf8.decode s q).1 : Int) = 3)) ∧ 4 * (s.size - p) + 2 = m0 ∧ cur ≠ []) := ⟨hE, q1, q2, q3, hm, hcn⟩
    have HJ : Aside ((fun (l' : Nat) (a' : Act) (w' : World) => At W b s R l' a' w' ∧ mu s b l' a' w' < m0) = J) := hJ
    clear hSt hE q1 q2 q3 hm hJ HN H0 hR hcn
    go_wp2_with fail
    refine cN.mono ?_
    rintro e w2 ⟨rfl, hSt2⟩
    have HS2 : Aside (St W w2 b s (.int .i32 (sigA s q)) (.int .i64 (q : Int)) (.int .i64 (aft s q : Nat)) (.int .i64 (ls : Int)) (.int .i64 (cur.length : Int)) rows cur) := hSt2
    obtain ⟨v8, v9, v10, hS2, hL2⟩ := hSt2.box
    have k1 := hS2.c1
    have HG : Aside (_ ∧ _) := scan_sig (ls := ls) (rows := rows) (cur := cur) HQ.out.2.2.2.1
    obtain ⟨c, hlast⟩ : ∃ c, cur.getLast? = some c := ⟨_, List.getLast?_eq_some_getLast HQ.out.2.2.2.2.2⟩
    have hpos : 1 ≤ (rows.flatten ++ cur).length := by
      have := List.length_pos_iff.2 HQ.out.2.2.2.2.2
      rw [List.length_append]
      omega
    have hlen := hSt2.ok.len
    have HSL : Aside (S11 w2 b (.string s) (.int .i32 (sigA s q)) (.int .i64 (q : Int)) (.int .i64 (aft s q : Nat)) (.int .i64 (ls : Int)) (.int .i64 (cur.length : Int)) (.int .i64 (rows.length : Int)) (.int .i64 ((rows.headD []).length : Int)) v8 v9 v10 ∧ L3 w2 b v8 v9 v10 ((rows.flatten ++ cur).map (·.b)) ((rows.flatten ++ cur).map (·.r)) ((rows.flatten ++ cur).map (·.d))) := ⟨hS2, hL2⟩
    clear hSt2 hS2 hL2 cN
    by_cases h46 : sigA s q = 46
    · rw [h46] at k1
      have hin := sigA_in (s := s) (q := q) (by rw [h46]; decide)
      have HI : Aside (q < s.size ∧ q < aft s q ∧ aft s q ≤ s.size ∧ sigA s q = 46) := ⟨hin, aft_in hin, (aft_le HQ.out.2.2.1).2, h46⟩
      clear hlast hpos hlen HSL hin h46
      go_wp2
      go_step3
      show J _ _ _
      rw [← HJ.out]
      refine ⟨⟨Fr.of b _ _ _ _ _ _ _ _ _ _ _ _ _ _ _ _ _ _ _ _ _ _ _ _ _ _ _ _ _ _ _ _ _ _ _ _ _ _ _ _ _ _ _ _ _ _ _ _ _ _ _ _ _ _ _ _ _ _ _ _ _ _ _ _ _ _ _ _ _ _ _ _ _ _ _ _ _ _ _ _ _ _ _ _ _ _ _ _ _ _ _ _ _ _ _ _ _ _, q, ls, rows, cur, HI.out.1, Or.inl HI.out.2.2.2, HQ.out.2.2.2.1, HS2.out, HQ.out.1⟩, ?_⟩
      show 4 * (s.size - rdN w2 b 3) + 3 < m0
      rw [HS2.out.bh]
      have := HQ.out
      have := HI.out
      omega
    by_cases h35 : sigA s q = 35
    · rw [h35] at k1
      have hin := sigA_in (s := s) (q := q) (by rw [h35]; decide)
      have HI : Aside (q < s.size ∧ q < aft s q ∧ aft s q ≤ s.size ∧ sigA s q = 35) := ⟨hin, aft_in hin, (aft_le HQ.out.2.2.1).2, h35⟩
      clear hlast hpos hlen HSL hin h35
      go_wp2
      go_step3
      show J _ _ _
      rw [← HJ.out]
      refine ⟨⟨Fr.of b _ _ _ _ _ _ _ _ _ _ _ _ _ _ _ _ _ _ _ _ _ _ _ _ _ _ _ _ _ _ _ _ _ _ _ _ _ _ _ _ _ _ _ _ _ _ _ _ _ _ _ _ _ _ _ _ _ _ _ _ _ _ _ _ _ _ _ _ _ _ _ _ _ _ _ _ _ _ _ _ _ _ _ _ _ _ _ _ _ _ _ _ _ _ _ _ _ _, q, ls, rows, cur, HI.out.1, Or.inr HI.out.2.2.2, HQ.out.2.2.2.1, HS2.out, HQ.out.1⟩, ?_⟩
      show 4 * (s.size - rdN w2 b 3) + 3 < m0
      rw [HS2.out.bh]
      have := HQ.out
      have := HI.out
      omega
    by_cases h124 : sigA s q = 124
    · rw [h124] at k1
      have hin := sigA_in (s := s) (q := q) (by rw [h124]; decide)
      have HI : Aside (q < s.size ∧ q < aft s q ∧ aft s q ≤ s.size) := ⟨hin, aft_in hin, (aft_le HQ.out.2.2.1).2⟩
      have hg := HG.out.2.2.2.1 h124
      rw [hlast] at hg
      simp only at hg
      obtain ⟨gb, cap, rfl, hgb⟩ := row_some HSL.out.2.r9 (by rw [List.length_map]; exact hpos)
      have cB := addBar_any (b + 1) gb cap ((rows.flatten ++ cur).map (·.r)) w2 (by rw [List.length_map]; exact hpos) (by rw [List.length_map]; exact hlen) HSL.out.2.r9
      rw [last_bt (F := rows.flatten) (·.r) hlast] at cB
      have k9 := HSL.out.1.c9
      obtain ⟨ys, hys⟩ : ∃ ys, ys = (rows.flatten ++ cur).map (·.r) := ⟨_, rfl⟩
      rw [← hys] at cB k9
      have HYS : Aside (ys = (rows.flatten ++ cur).map (·.r)) := hys
      clear hys
      have HLS : Aside (cur.getLast? = some c) := hlast
      clear hin h124 HG hgb
      cases hcr : c.r with
      | true =>
        rw [hcr] at hg cB
        have HE : Aside (R = .inl (q, 83)) := HQ.out.1.symm.trans (hg.trans (if_pos rfl))
        clear hg hlast hpos hlen
        go_wp2_with fail
        refine cB.mono ?_
        rintro e w3 ⟨rfl, hr3, hd3⟩
        rw [HYS.out] at hr3
        have HS3 : Aside (St W w3 b s (.int .i32 (sigA s q)) (.int .i64 (q : Int)) (.int .i64 (aft s q : Nat)) (.int .i64 (ls : Int)) (.int .i64 (cur.length : Int)) rows (cur.dropLast ++ [setR c])) := HS2.out.setBarR HLS.out HSL.out.1 HSL.out.2 rfl hr3 hd3
        clear hr3 hd3 cB
        go_wp2
        go_step3
        show J _ _ _
        rw [← HJ.out]
        refine ⟨⟨Fr.of b _ _ _ _ _ _ _ _ _ _ _ _ _ _ _ _ _ _ _ _ _ _ _ _ _ _ _ _ _ _ _ _ _ _ _ _ _ _ _ _ _ _ _ _ _ _ _ _ _ _ _ _ _ _ _ _ _ _ _ _ _ _ _ _ _ _ _ _ _ _ _ _ _ _ _ _ _ _ _ _ _ _ _ _ _ _ _ _ _ _ _ _ _ _ _ _ _ _, q, _, _, _, _, rows, _, Nat.le_of_lt HI.out.1, HS3.out, HE.out⟩, ?_⟩
        show 4 * (s.size - rdN w3 b 3) + 0 < m0
        rw [HS3.out.bh]
        have := HQ.out
        have := HI.out
        omega
      | false =>
        rw [hcr] at hg cB
        have HE : Aside (scan s (aft s q) ls rows (cur.dropLast ++ [setR c]) = R) := by
          have := HQ.out.1
          rw [hg] at this
          exact this
        clear hg hlast hpos hlen
        go_wp2_with fail
        refine cB.mono ?_
        rintro e w3 ⟨rfl, hr3, hd3⟩
        rw [HYS.out] at hr3
        have HS3 : Aside (St W w3 b s (.int .i32 (sigA s q)) (.int .i64 (q : Int)) (.int .i64 (aft s q : Nat)) (.int .i64 (ls : Int)) (.int .i64 ((cur.dropLast ++ [setR c]).length : Int)) rows (cur.dropLast ++ [setR c])) := by
          have e : (cur.dropLast ++ [setR c]).length = cur.length := by
            have := List.length_pos_iff.2 HQ.out.2.2.2.2.2
            rw [List.length_append, List.length_dropLast, List.length_singleton]
            omega
          rw [e]
          exact HS2.out.setBarR HLS.out HSL.out.1 HSL.out.2 rfl hr3 hd3
        clear hr3 hd3 cB
        go_wp2
        go_step3
        show J _ _ _
        rw [← HJ.out]
        refine ⟨⟨Fr.of b _ _ _ _ _ _ _ _ _ _ _ _ _ _ _ _ _ _ _ _ _ _ _ _ _ _ _ _ _ _ _ _ _ _ _ _ _ _ _ _ _ _ _ _ _ _ _ _ _ _ _ _ _ _ _ _ _ _ _ _ _ _ _ _ _ _ _ _ _ _ _ _ _ _ _ _ _ _ _ _ _ _ _ _ _ _ _ _ _ _ _ _ _ _ _ _ _ _, aft s q, ls, rows, _, _, _, HI.out.2.2, (by simp), HS3.out, HE.out⟩, ?_⟩
        show 4 * (s.size - rdN w3 b 3) + 2 < m0
        rw [HS3.out.bh]
        have := HQ.out
        have := HI.out
        omega
    by_cases h95 : sigA s q = 95
    · rw [h95] at k1
      have hin := sigA_in (s := s) (q := q) (by rw [h95]; decide)
      have HI : Aside (q < s.size ∧ q < aft s q ∧ aft s q ≤ s.size) := ⟨hin, aft_in hin, (aft_le HQ.out.2.2.1).2⟩
      have hg := HG.out.2.2.2.2.1 h95
      rw [hlast] at hg
      simp only at hg
      obtain ⟨gb, cap, rfl, hgb⟩ := row_some HSL.out.2.r10 (by rw [List.length_map]; exact hpos)
      have cB := addBar_any (b + 1) gb cap ((rows.flatten ++ cur).map (·.d)) w2 (by rw [List.length_map]; exact hpos) (by rw [List.length_map]; exact hlen) HSL.out.2.r10
      rw [last_bt (F := rows.flatten) (·.d) hlast] at cB
      have k10 := HSL.out.1.c10
      obtain ⟨ys, hys⟩ : ∃ ys, ys = (rows.flatten ++ cur).map (·.d) := ⟨_, rfl⟩
      rw [← hys] at cB k10
      have HYS : Aside (ys = (rows.flatten ++ cur).map (·.d)) := hys
      clear hys
      have HLS : Aside (cur.getLast? = some c) := hlast
      clear hin h95 HG hgb
      cases hcr : c.d with
      | true =>
        rw [hcr] at hg cB
        have HE : Aside (R = .inl (q, 83)) := HQ.out.1.symm.trans (hg.trans (if_pos rfl))
        clear hg hlast hpos hlen
        go_wp2_with fail
        refine cB.mono ?_
        rintro e w3 ⟨rfl, hr3, hd3⟩
        rw [HYS.out] at hr3
        have HS3 : Aside (St W w3 b s (.int .i32 (sigA s q)) (.int .i64 (q : Int)) (.int .i64 (aft s q : Nat)) (.int .i64 (ls : Int)) (.int .i64 (cur.length : Int)) rows (cur.dropLast ++ [setD c])) := HS2.out.setBarD HLS.out HSL.out.1 HSL.out.2 rfl hr3 hd3
        clear hr3 hd3 cB
        go_wp2
        go_step3
        show J _ _ _
        rw [← HJ.out]
        refine ⟨⟨Fr.of b _ _ _ _ _ _ _ _ _ _ _ _ _ _ _ _ _ _ _ _ _ _ _ _ _ _ _ _ _ _ _ _ _ _ _ _ _ _ _ _ _ _ _ _ _ _ _ _ _ _ _ _ _ _ _ _ _ _ _ _ _ _ _ _ _ _ _ _ _ _ _ _ _ _ _ _ _ _ _ _ _ _ _ _ _ _ _ _ _ _ _ _ _ _ _ _ _ _, q, _, _, _, _, rows, _, Nat.le_of_lt HI.out.1, HS3.out, HE.out⟩, ?_⟩
        show 4 * (s.size - rdN w3 b 3) + 0 < m0
        rw [HS3.out.bh]
        have := HQ.out
        have := HI.out
        omega
      | false =>
        rw [hcr] at hg cB
        have HE : Aside (scan s (aft s q) ls rows (cur.dropLast ++ [setD c]) = R) := by
          have := HQ.out.1
          rw [hg] at this
          exact this
        clear hg hlast hpos hlen
        go_wp2_with fail
        refine cB.mono ?_
        rintro e w3 ⟨rfl, hr3, hd3⟩
        rw [HYS.out] at hr3
        have HS3 : Aside (St W w3 b s (.int .i32 (sigA s q)) (.int .i64 (q : Int)) (.int .i64 (aft s q : Nat)) (.int .i64 (ls : Int)) (.int .i64 ((cur.dropLast ++ [setD c]).length : Int)) rows (cur.dropLast ++ [setD c])) := by
          have e : (cur.dropLast ++ [setD c]).length = cur.length := by
            have := List.length_pos_iff.2 HQ.out.2.2.2.2.2
            rw [List.length_append, List.length_dropLast, List.length_singleton]
            omega
          rw [e]
          exact HS2.out.setBarD HLS.out HSL.out.1 HSL.out.2 rfl hr3 hd3
        clear hr3 hd3 cB
        go_wp2
        go_step3
        show J _ _ _
        rw [← HJ.out]
        refine ⟨⟨Fr.of b _ _ _ _ _ _ _ _ _ _ _ _ _ _ _ _ _ _ _ _ _ _ _ _ _ _ _ _ _ _ _ _ _ _ _ _ _ _ _ _ _ _ _ _ _ _ _ _ _ _ _ _ _ _ _ _ _ _ _ _ _ _ _ _ _ _ _ _ _ _ _ _ _ _ _ _ _ _ _ _ _ _ _ _ _ _ _ _ _ _ _ _ _ _ _ _ _ _, aft s q, ls, rows, _, _, _, HI.out.2.2, (by simp), HS3.out, HE.out⟩, ?_⟩
        show 4 * (s.size - rdN w3 b 3) + 2 < m0
        rw [HS3.out.bh]
        have := HQ.out
        have := HI.out
        omega
    by_cases h10 : sigA s q = 10
    · rw [h10] at k1
      have HI : Aside (sigA s q = 10) := h10
      clear h10 hlast hpos hlen HSL HG
      go_wp2
      go_step3
      show J _ _ _
      rw [← HJ.out]
      refine ⟨⟨Fr.of b _ _ _ _ _ _ _ _ _ _ _ _ _ _ _ _ _ _ _ _ _ _ _ _ _ _ _ _ _ _ _ _ _ _ _ _ _ _ _ _ _ _ _ _ _ _ _ _ _ _ _ _ _ _ _ _ _ _ _ _ _ _ _ _ _ _ _ _ _ _ _ _ _ _ _ _ _ _ _ _ _ _ _ _ _ _ _ _ _ _ _ _ _ _ _ _ _ _, q, ls, rows, cur, HQ.out.2.2.1, HQ.out.2.2.2.2.2, Or.inl HI.out, HQ.out.2.2.2.1, HS2.out, HQ.out.1⟩, ?_⟩
      show 4 * (s.size - rdN w2 b 3) + 1 < m0
      rw [HS2.out.bh]
      have := HQ.out
      have := aft_le HQ.out.2.2.1
      omega
    by_cases hm1 : sigA s q = -1
    · rw [hm1] at k1
      have HI : Aside (sigA s q = -1) := hm1
      clear hm1 hlast hpos hlen HSL HG
      go_wp2
      go_step3
      show J _ _ _
      rw [← HJ.out]
      refine ⟨⟨Fr.of b _ _ _ _ _ _ _ _ _ _ _ _ _ _ _ _ _ _ _ _ _ _ _ _ _ _ _ _ _ _ _ _ _ _ _ _ _ _ _ _ _ _ _ _ _ _ _ _ _ _ _ _ _ _ _ _ _ _ _ _ _ _ _ _ _ _ _ _ _ _ _ _ _ _ _ _ _ _ _ _ _ _ _ _ _ _ _ _ _ _ _ _ _ _ _ _ _ _, q, ls, rows, cur, HQ.out.2.2.1, HQ.out.2.2.2.2.2, Or.inr HI.out, HQ.out.2.2.2.1, HS2.out, HQ.out.1⟩, ?_⟩
      show 4 * (s.size - rdN w2 b 3) + 1 < m0
      rw [HS2.out.bh]
      have := HQ.out
      have := aft_le HQ.out.2.2.1
      omega
    have hin := sigA_in hm1
    have HI : Aside (q < s.size ∧ q < aft s q ∧ aft s q ≤ s.size) := ⟨hin, aft_in hin, (aft_le HQ.out.2.2.1).2⟩
    have HE : Aside (R = .inl (q, 80)) := HQ.out.1.symm.trans (HG.out.2.2.2.2.2 hm1 h10 h46 h35 h124 h95)
    have b46 := beq_no h46
    have b35 := beq_no h35
    have b124 := beq_no h124
    have b95 := beq_no h95
    have b10 := beq_no h10
    have bm1 := beq_no hm1
    generalize sigA s q = sg at *
    clear hlast hpos hlen HSL hin h46 h35 h124 h95 h10 hm1 HG
    go_wp2
    go_step3
    show J _ _ _
    rw [← HJ.out]
    refine ⟨⟨Fr.of b _ _ _ _ _ _ _ _ _ _ _ _ _ _ _ _ _ _ _ _ _ _ _ _ _ _ _ _ _ _ _ _ _ _ _ _ _ _ _ _ _ _ _ _ _ _ _ _ _ _ _ _ _ _ _ _ _ _ _ _ _ _ _ _ _ _ _ _ _ _ _ _ _ _ _ _ _ _ _ _ _ _ _ _ _ _ _ _ _ _ _ _ _ _ _ _ _ _, q, _, _, _, _, rows, cur, Nat.le_of_lt HI.out.1, HS2.out, HE.out⟩, ?_⟩
    show 4 * (s.size - rdN w2 b 3) + 0 < m0
    rw [HS2.out.bh]
    have := HQ.out
    have := HI.out
    omega
  case p5 =>
    rintro a wq ⟨⟨u, rfl⟩, q, ls, rows, cur, hq, hcn, hsg, hnb, hSt, hE⟩
    unfold fr99
    generalize hm : mu s b 5 _ wq = m0
    generalize hJ : (fun (l' : Nat) (a' : Act) (w' : World) => At W b s R l' a' w' ∧ mu s b l' a' w' < m0) = J
    unfold mu rank at hm
    rw [hSt.bh] at hm
    obtain ⟨v8, v9, v10, hS, hL⟩ := hSt.box
    have hG := scan_sig (ls := ls) (rows := rows) (cur := cur) hnb
    have k1 := hS.c1
    have k4 := hS.c4
    have cA := addRow_any b cur.length rows.length (rows.headD []).length _ _ _ _ _ _ _ _ wq hSt.ok.few hS
    have HLT : Aside (b ≤ wq.heap.size ∧ L3 wq b v8 v9 v10 ((rows.flatten ++ cur).map (·.b)) ((rows.flatten ++ cur).map (·.r)) ((rows.flatten ++ cur).map (·.d))) := ⟨Nat.le_of_lt hS.lt, hL⟩
    have HSt : Aside (St W wq b s (.int .i32 (sigA s q)) (.int .i64 (q : Int)) (.int .i64 (aft s q : Nat)) (.int .i64 (ls : Int)) (.int .i64 (cur.length : Int)) rows cur) := hSt
    have HJ : Aside ((fun (l' : Nat) (a' : Act) (w' : World) => At W b s R l' a' w' ∧ mu s b l' a' w' < m0) = J) := hJ
    have HM : Aside (4 * (s.size - aft s q) + 1 = m0) := hm
    have HH : Aside (4 * (s.size - aft s q) + 1 = m0 ∧ cur ≠ [] ∧ q ≤ s.size) := ⟨hm, hcn, hq⟩
    by_cases hy : rows.length = 0 ∨ cur.length = (rows.headD []).length
    · rw [decide_eq_true hy] at cA
      have HY : Aside (rows.length = 0 ∨ cur.length = (rows.headD []).length) := hy
      have hey := endRow_yes (ls := ls) hcn hy
      rcases hsg with h10 | hm1
      · have HE : Aside (scan s (aft s q) (aft s q) (rows ++ [cur]) [] = R) := by
          have := hG.2.1 h10
          rw [hey] at this
          exact this.symm.trans hE
        have H10 : Aside (sigA s q = 10) := h10
        clear hS hL hSt hm hJ HN H0 hR hcn hnb hE hG hy hey h10 k1 k4
        go_wp2_with fail
        refine cA.mono ?_
        rintro e w3 ⟨rfl, hS3, hd3⟩
        have HS3 : Aside (St W w3 b s (.int .i32 (sigA s q)) (.int .i64 (q : Int)) (.int .i64 (aft s q : Nat)) (.int .i64 (ls : Int)) (.int .i64 (cur.length : Int)) (rows ++ [cur]) []) := HSt.out.row HLT.out.1 HH.out.2.1 HY.out HLT.out.2 hS3 hd3
        have k1 := hS3.c1
        rw [H10.out] at k1
        clear hS3 hd3 cA
        go_wp2
        go_step3
        show J _ _ _
        rw [← HJ.out]
        refine ⟨⟨Fr.of b _ _ _ _ _ _ _ _ _ _ _ _ _ _ _ _ _ _ _ _ _ _ _ _ _ _ _ _ _ _ _ _ _ _ _ _ _ _ _ _ _ _ _ _ _ _ _ _ _ _ _ _ _ _ _ _ _ _ _ _ _ _ _ _ _ _ _ _ _ _ _ _ _ _ _ _ _ _ _ _ _ _ _ _ _ _ _ _ _ _ _ _ _ _ _ _ _ _, aft s q, _, _, _, _, _, (aft_le HH.out.2.2).2, HS3.out, HE.out⟩, ?_⟩
        show 4 * (s.size - rdN w3 b 3) + 0 < m0
        rw [HS3.out.bh]
        have := HM.out
        omega
      · have HE : Aside (R = .inr (rows ++ [cur])) := by
          have := hG.1 hm1
          rw [hey] at this
          exact hE.symm.trans this
        have H10 : Aside (sigA s q = -1) := hm1
        clear hS hL hSt hm hJ HN H0 hR hcn hnb hE hG hy hey hm1 k1 k4
        go_wp2_with fail
        refine cA.mono ?_
        rintro e w3 ⟨rfl, hS3, hd3⟩
        have HS3 : Aside (St W w3 b s (.int .i32 (sigA s q)) (.int .i64 (q : Int)) (.int .i64 (aft s q : Nat)) (.int .i64 (ls : Int)) (.int .i64 (cur.length : Int)) (rows ++ [cur]) []) := HSt.out.row HLT.out.1 HH.out.2.1 HY.out HLT.out.2 hS3 hd3
        have k1 := hS3.c1
        rw [H10.out] at k1
        clear hS3 hd3 cA
        go_wp2
        simp only [Exit.many]
        go_ret2
        exact Or.inr ⟨_, _, _, _, _, _, HE.out, rfl, HS3.out⟩
    · rw [decide_eq_false hy] at cA
      have hey := endRow_no (ls := ls) hcn hy
      have HE : Aside (R = .inl (ls, 81)) := by
        rcases hsg with h10 | hm1
        · have := hG.2.1 h10
          rw [hey] at this
          exact hE.symm.trans this
        · have := hG.1 hm1
          rw [hey] at this
          exact hE.symm.trans this
      clear hL hSt hm hJ HN H0 hR hcn hnb hE hG hy hey hsg k1 k4 hS
      go_wp2_with fail
      refine cA.mono ?_
      rintro e w3 ⟨rfl, hS3, hd3⟩
      have HB3 : Aside (Below b W w3) := HSt.out.below.trans (hd3.below (fun k hk _ e => by omega) HLT.out.1)
      have k4 := hS3.c4
      clear hS3 hd3 cA
      go_wp2
      simp only [Exit.many]
      go_ret2
      exact Or.inl ⟨ls, 81, HE.out, rfl, HB3.out⟩
end Go.Proofs.YthjgldjjplcncabDoor.Skt
/-
  The program's Parse walked.
-/
namespace Go.Proofs.YthjgldjjplcncabDoor.Skt
open Go Go.Lib Go.RowKit Utf Grd

theorem results_g3 {fn : Func} {p q r : Tmp} (h : fn.results = #[.cell p 27, .tmp q, .tmp r]) (tmps : Array Value) (w : World) (b : Nat) (x0 x1 x2 x3 x4 : Value)
    (hp : tmps.getD p undef = .pointer (some ⟨b, 0, none⟩)) (hb : Five w b x0 x1 x2 x3 x4) :
    (results fn tmps).run Tryd.prog w = .ok (.tuple #[.agg #[x0, x1, x2, x3, x4], tmps.getD q undef, tmps.getD r undef]) w := by
  have hp' : tmps[p]?.getD undef = .pointer (some ⟨b, 0, none⟩) := by simpa using hp
  have c0 := hb.c0
  have c1 := hb.c1
  have c2 := hb.c2
  have c3 := hb.c3
  have c4 := hb.c4
  simp only [results, h]
  simp [hp', asAddr]
  go_simp
theorem scan_err (s : ByteArray) (p ls : Nat) (rows : List (List C3)) (cur : List C3) (a er : Nat) (hp : p ≤ s.size) (hls : ls ≤ s.size) (h : scan s p ls rows cur = .inl (a, er)) : (50 ≤ er ∧ er ≤ 83) ∧ a ≤ s.size := by
  generalize hn : s.size - p = n
  induction n using Nat.strongRecOn generalizing p ls rows cur with
  | _ n ih =>
    have hend : ∀ rows cur ls, ls ≤ s.size → endRow rows cur ls = .inl (a, er) → (50 ≤ er ∧ er ≤ 83) ∧ a ≤ s.size := by
      intro rows cur ls hls he
      unfold endRow at he
      by_cases e : cur = []
      · rw [if_pos e] at he; cases he
      · rw [if_neg e] at he
        by_cases k : rows = [] ∨ (rows.headD []).length = cur.length
        · rw [if_pos k] at he; cases he
        · rw [if_neg k] at he
          cases he
          exact ⟨by omega, hls⟩
    by_cases hlt : p < s.size
    · have hf := decode_fits s p hlt
      by_cases h10 : (Utf8.decode s p).1 = 10
      · rw [scan_line hlt h10] at h
        cases hr : endRow rows cur ls with
        | inl x =>
          rw [hr] at h
          exact hend rows cur ls hls (hr.trans h)
        | inr r2 =>
          rw [hr] at h
          exact ih _ (by omega) (p + (Utf8.decode s p).2) _ r2 [] (by omega) (by omega) h rfl
      · rw [scan_put hlt h10] at h
        cases hr : putC (Utf8.decode s p).1 p rows.length cur with
        | inl x =>
          rw [hr] at h
          cases h
          unfold putC at hr
          repeat' split at hr
          all_goals first | (cases hr; done) | (cases hr; exact ⟨by omega, hp⟩)
        | inr c2 =>
          rw [hr] at h
          exact ih _ (by omega) (p + (Utf8.decode s p).2) ls rows c2 (by omega) hls h rfl
    · rw [scan_end hlt] at h
      exact hend rows cur ls hls h
theorem prs_err {s : ByteArray} {a er : Nat} (hs : ¬ 65536 < s.size) (h : scan s 0 0 [] [] = .inl (a, er)) : prs s = (zeroG, a, er) := by
  unfold prs
  rw [if_neg hs]
  simp only [h]
theorem prs_none {s : ByteArray} (hs : ¬ 65536 < s.size) (h : scan s 0 0 [] [] = .inr []) : prs s = (zeroG, s.size, 82) := by
  unfold prs
  rw [if_neg hs]
  simp only [h, if_true]
theorem prs_rows {s : ByteArray} {rows : List (List C3)} (hs : ¬ 65536 < s.size) (h : scan s 0 0 [] [] = .inr rows) (hr : rows ≠ []) : prs s = if (mkG rows).chk = 0 then (mkG rows, 0, 0) else (zeroG, 0, (mkG rows).chk) := by
  unfold prs
  rw [if_neg hs]
  simp only [h, if_neg hr]
theorem row_readsB2 {W : World} {B n : Nat} {ao : Option Addr} {cp : Nat} {zs : List Bool} (h : W.ownsRow B 4 1 (.slice ao n cp) zs.length (cellsB zs)) : ReadsB W ao zs := fun i hi => by
  rcases h.2 with ⟨_, h0⟩ | ⟨g, cap, cur, e, _, e3, e4⟩
  · omega
  · cases e
    have := h.cellAt i (by omega)
    rw [cellsB_at hi] at this
    exact ⟨g, 0, rfl, (Array.getElem?_eq_some_iff.1 e3).1, by rw [Nat.zero_add]; exact this⟩
theorem row_len {W : World} {B m n : Nat} {ao : Option Addr} {cp : Nat} {l : List Value} (h : W.ownsRow B 4 1 (.slice ao m cp) n l) : m = n := by
  rcases h.2 with ⟨e, h0⟩ | ⟨g, cap, cur, e, _⟩
  · cases e; exact h0.symm
  · cases e; rfl
theorem L3.low {W W' : World} {b c : Nat} {v8 v9 v10 : Value} {xs ys zs : List Bool} (h : L3 W b v8 v9 v10 xs ys zs) (hc : c ≤ b) (hd : Dif (fun k => k = c) W W') : L3 W' b v8 v9 v10 xs ys zs := by
  have key : ∀ {n : Nat} {v : Value} {l : List Value}, W.ownsRow (b + 1) 4 1 v n l → W'.ownsRow (b + 1) 4 1 v n l := by
    intro n v l h
    rcases h with ⟨h1, h2 | ⟨g, cap, cur, e1, e2, e3, e4⟩⟩
    · exact ⟨h1, .inl h2⟩
    · exact ⟨h1, .inr ⟨g, cap, cur, e1, e2, (hd.block g (Array.getElem?_eq_some_iff.1 e3).1 (by omega)).trans e3, e4⟩⟩
  exact ⟨key h.r8, key h.r9, key h.r10, h.a89, h.a810, h.a910⟩
theorem rg_zero (W : World) : RG W zeroG ⟨none, 0, none, 0, none, 0⟩ := ⟨fun i hi => absurd hi (Nat.not_lt_zero i), fun i hi => absurd hi (Nat.not_lt_zero i), fun i hi => absurd hi (Nat.not_lt_zero i)⟩

set_option maxRecDepth 100000 in
set_option maxHeartbeats 2000000 in
theorem parse_any (s : ByteArray) (W : World) (hT : Lib.Utf8Tabs 1 2 W) (hw : Wy W) (hs0 : s.size ≤ 140737488355328) :
    Calls Tryd.prog 7 #[.string s] W fun e W' => ∃ p : Ad, e = .returned (.tuple #[gv (prs s).1 p, .int .i64 ((prs s).2.1 : Nat), .int .i64 ((prs s).2.2 : Nat)]) ∧ RG W' (prs s).1 p ∧ Below W.heap.size W W' := by
  by_cases hs : 65536 < s.size
  · have e : prs s = (zeroG, 65536, 1) := by unfold prs; rw [if_pos hs]
    rw [e]
    go_enter Tryd.func7, Tryd.ntmps7
    go_wp2
    refine bodyPost_ret (results_g3 rfl _ _ W.heap.size _ _ _ _ _ rfl ⟨heap_alloc_new W _⟩) rfl ⟨⟨none, 0, none, 0, none, 0⟩, rfl, rg_zero _, below_box W _⟩
  · have hsz : s.size ≤ 65536 := by omega
    obtain ⟨W0, hW0⟩ : ∃ W0, W0 = ((W.alloc (.cells #[.int .i64 0, .int .i64 0, .slice none 0 0, .slice none 0 0, .slice none 0 0] 27)).alloc (.cells #[.string s, .int .i32 0, .int .i64 0, .int .i64 0, .int .i64 0, .int .i64 0, .int .i64 0, .int .i64 0, .slice none 0 0, .slice none 0 0, .slice none 0 0] 61)) := ⟨_, rfl⟩
    have hF0 : Five W0 W.heap.size (.int .i64 0) (.int .i64 0) (.slice none 0 0) (.slice none 0 0) (.slice none 0 0) := ⟨by rw [hW0]; exact heap_alloc2_old W _ _⟩
    have hS0 : S11 W0 (W.heap.size + 1) (.string s) (.int .i32 0) (.int .i64 0) (.int .i64 0) (.int .i64 0) (.int .i64 0) (.int .i64 0) (.int .i64 0) (.slice none 0 0) (.slice none 0 0) (.slice none 0 0) := ⟨by rw [hW0]; exact heap_alloc2_new W _ _⟩
    have hB0 : Below W.heap.size W W0 := by rw [hW0]; exact (below_box W _).alloc (below_box W _).size _
    have hsT := tabs_size hT
    have cS := scan_any s (W.heap.size + 1) W0 _ _ _ _ hsz (tabs_below hB0 hsT hT) (by omega) hS0
    have HF0 : Aside (Five W0 W.heap.size (.int .i64 0) (.int .i64 0) (.slice none 0 0) (.slice none 0 0) (.slice none 0 0)) := hF0
    have HB0 : Aside (Below W.heap.size W W0 ∧ W.heap.size + 1 < W0.heap.size) := ⟨hB0, hS0.lt⟩
    have HW : Aside (Wy W) := hw
    clear hF0 hS0 hB0 hT hw hs hsT
    go_enter Tryd.func7, Tryd.ntmps7
    go_wp2_with fail
    rw [← hW0]
    clear hW0
    refine cS.mono ?_
    clear cS
    rintro e w1 (⟨a, er, hE, rfl, hb1⟩ | ⟨rows, y1, y2, y3, y4, y5, hE, rfl, hSt⟩)
    · have hq := scan_err s 0 0 [] [] a er (Nat.zero_le _) (Nat.zero_le _) hE
      have HP : Aside (prs s = (zeroG, a, er)) := prs_err (by omega) hE
      have hb2 : Below W.heap.size W w1 := HB0.out.1.trans (hb1.mono (by omega))
      have hF1 : Five w1 W.heap.size (.int .i64 0) (.int .i64 0) (.slice none 0 0) (.slice none 0 0) (.slice none 0 0) := ⟨(hb1.block W.heap.size (by omega)).trans HF0.out.blk⟩
      have HF1 : Aside (Five w1 W.heap.size (.int .i64 0) (.int .i64 0) (.slice none 0 0) (.slice none 0 0) (.slice none 0 0) ∧ Below W.heap.size W w1) := ⟨hF1, hb2⟩
      have her : ((er : Int) != 0) = true := by rw [bne_iff_ne]; omega
      have z0 := hF1.c0
      have z1 := hF1.c1
      have z2 := hF1.c2
      have z3 := hF1.c3
      have z4 := hF1.c4
      have f0 := hF1.fr 0
      have f1 := hF1.fr 1
      have f2 := hF1.fr 2
      have f3 := hF1.fr 3
      have f4 := hF1.fr 4
      clear hE hb1 hb2 hF1 hq
      go_wp2
      have hF5 := HF1.out.1.all (.int .i64 0) (.int .i64 0) (.slice none 0 0) (.slice none 0 0) (.slice none 0 0)
      rw [HP.out]
      refine bodyPost_ret (results_g3 rfl _ _ W.heap.size _ _ _ _ _ rfl hF5) rfl ⟨⟨none, 0, none, 0, none, 0⟩, rfl, rg_zero _, Below.all HF1.out.2 (Nat.le_refl _) HF1.out.2.size _ _ _ _ _⟩
    · obtain ⟨v8, v9, v10, hS, hL⟩ := hSt.box
      rw [List.append_nil] at hL
      obtain ⟨o8, m8, c8, rfl⟩ := row_slice hL.r8
      obtain ⟨o9, m9, c9, rfl⟩ := row_slice hL.r9
      obtain ⟨o10, m10, c10, rfl⟩ := row_slice hL.r10
      obtain rfl := row_len hL.r8
      obtain rfl := row_len hL.r9
      obtain rfl := row_len hL.r10
      by_cases hr : rows = []
      · have HP : Aside (prs s = (zeroG, s.size, 82)) := by subst hr; exact prs_none (by omega) hE
        have k6 := hS.c6
        rw [hr] at k6
        have hb2 : Below W.heap.size W w1 := HB0.out.1.trans (hSt.below.mono (by omega))
        have hF1 : Five w1 W.heap.size (.int .i64 0) (.int .i64 0) (.slice none 0 0) (.slice none 0 0) (.slice none 0 0) := ⟨(hSt.below.block W.heap.size (by omega)).trans HF0.out.blk⟩
        have HF1 : Aside (Five w1 W.heap.size (.int .i64 0) (.int .i64 0) (.slice none 0 0) (.slice none 0 0) (.slice none 0 0) ∧ Below W.heap.size W w1) := ⟨hF1, hb2⟩
        have z0 := hF1.c0
        have z1 := hF1.c1
        have z2 := hF1.c2
        have z3 := hF1.c3
        have z4 := hF1.c4
        have f0 := hF1.fr 0
        have f1 := hF1.fr 1
        have f2 := hF1.fr 2
        have f3 := hF1.fr 3
        have f4 := hF1.fr 4
        clear hE hb2 hF1 hS hL hSt hr
        go_wp2
        have hF5 := HF1.out.1.all (.int .i64 0) (.int .i64 0) (.slice none 0 0) (.slice none 0 0) (.slice none 0 0)
        rw [HP.out]
        refine bodyPost_ret (results_g3 rfl _ _ W.heap.size _ _ _ _ _ rfl hF5) rfl ⟨⟨none, 0, none, 0, none, 0⟩, rfl, rg_zero _, Below.all HF1.out.2 (Nat.le_refl _) HF1.out.2.size _ _ _ _ _⟩
      · have hrl : 1 ≤ rows.length := List.length_pos_iff.2 hr
        have hr16 := hSt.ok.few
        have hrb : ((rows.length : Int) == 0) = false := beq_no (by omega)
        have hb2 : Below W.heap.size W w1 := HB0.out.1.trans (hSt.below.mono (by omega))
        have hF1 : Five w1 W.heap.size (.int .i64 0) (.int .i64 0) (.slice none 0 0) (.slice none 0 0) (.slice none 0 0) := ⟨(hSt.below.block W.heap.size (by omega)).trans HF0.out.blk⟩
        have hRG : ∀ w2, L3 w2 (W.heap.size + 1) (.slice o8 (mkG rows).B.length c8) (.slice o9 (mkG rows).R.length c9) (.slice o10 (mkG rows).D.length c10) (mkG rows).B (mkG rows).R (mkG rows).D → RG w2 (mkG rows) ⟨o8, c8, o9, c9, o10, c10⟩ := fun w2 h => ⟨row_readsB2 h.r8, row_readsB2 h.r9, row_readsB2 h.r10⟩
        have cC := check_any (mkG rows) ⟨o8, c8, o9, c9, o10, c10⟩ w1 (HW.out.below HW.out.size hb2) (hRG w1 hL)
        have HPR : Aside (prs s = if (mkG rows).chk = 0 then (mkG rows, 0, 0) else (zeroG, 0, (mkG rows).chk)) := prs_rows (by omega) hE hr
        have HL : Aside (L3 w1 (W.heap.size + 1) (.slice o8 (mkG rows).B.length c8) (.slice o9 (mkG rows).R.length c9) (.slice o10 (mkG rows).D.length c10) (mkG rows).B (mkG rows).R (mkG rows).D ∧ ∀ w2, L3 w2 (W.heap.size + 1) (.slice o8 (mkG rows).B.length c8) (.slice o9 (mkG rows).R.length c9) (.slice o10 (mkG rows).D.length c10) (mkG rows).B (mkG rows).R (mkG rows).D → RG w2 (mkG rows) ⟨o8, c8, o9, c9, o10, c10⟩) := ⟨hL, hRG⟩
        have HS : Aside (S11 w1 (W.heap.size + 1) (.string s) y1 y2 y3 y4 y5 (.int .i64 (mkG rows).h) (.int .i64 (mkG rows).w) (.slice o8 (mkG rows).B.length c8) (.slice o9 (mkG rows).R.length c9) (.slice o10 (mkG rows).D.length c10)) := hS
        have HF1 : Aside (Five w1 W.heap.size (.int .i64 0) (.int .i64 0) (.slice none 0 0) (.slice none 0 0) (.slice none 0 0) ∧ Below W.heap.size W w1) := ⟨hF1, hb2⟩
        have hh : (mkG rows).h = (rows.length : Int) := rfl
        unfold gv at cC
        clear hE hb2 hF1 hS hL hSt hr hRG
        have hrb2 : ((mkG rows).h == 0) = false := by rw [hh]; exact hrb
        have hhb : 0 ≤ (mkG rows).h ∧ (mkG rows).h ≤ 16 := by omega
        generalize mkG rows = g at *
        clear hh hrb
        have k6 := HS.out.c6
        have k7 := HS.out.c7
        have k8 := HS.out.c8
        have k9 := HS.out.c9
        have k10 := HS.out.c10
        go_wp2_with fail
        refine cC.mono ?_
        rintro e w2 ⟨rfl, hb12⟩
        have hF2 := HF1.out.1.keep hb12
        have HF2 : Aside (Five w2 W.heap.size (.int .i64 0) (.int .i64 0) (.slice none 0 0) (.slice none 0 0) (.slice none 0 0) ∧ Below W.heap.size W w2) := ⟨hF2, HF1.out.2.trans (hb12.mono HF1.out.2.size)⟩
        have hS2 := HS.out.keep hb12
        have HL2 : Aside (L3 w2 (W.heap.size + 1) (.slice o8 g.B.length c8) (.slice o9 g.R.length c9) (.slice o10 g.D.length c10) g.B g.R g.D) := HL.out.1.keep hb12
        clear k6 k7 k8 k9 k10 cC hb12
        by_cases hc : g.chk = 0
        · have HP : Aside (prs s = (g, 0, 0)) := HPR.out.trans (if_pos hc)
          rw [hc]
          have k6 := hS2.c6
          have k7 := hS2.c7
          have k8 := hS2.c8
          have k9 := hS2.c9
          have k10 := hS2.c10
          have z0 := hF2.c0
          have f0 := hF2.fr 0
          have z1 := hF2.c1
          have f1 := hF2.fr 1
          have z2 := hF2.c2
          have f2 := hF2.fr 2
          have z3 := hF2.c3
          have f3 := hF2.fr 3
          have z4 := hF2.c4
          have f4 := hF2.fr 4
          clear hS2 hF2 HPR
          go_wp2
          have hF5 := HF2.out.1.all (.int .i64 g.h) (.int .i64 g.w) (.slice o8 g.B.length c8) (.slice o9 g.R.length c9) (.slice o10 g.D.length c10)
          have hd5 := Dif.st5 (Dif.refl (fun k => k = W.heap.size) w2) rfl (.int .i64 g.h) (.int .i64 g.w) (.slice o8 g.B.length c8) (.slice o9 g.R.length c9) (.slice o10 g.D.length c10)
          rw [HP.out]
          refine bodyPost_ret (results_g3 rfl _ _ W.heap.size _ _ _ _ _ rfl hF5) rfl ⟨⟨o8, c8, o9, c9, o10, c10⟩, rfl, HL.out.2 _ (HL2.out.low (by omega) hd5), Below.all HF2.out.2 (Nat.le_refl _) HF2.out.2.size _ _ _ _ _⟩
        · have HP : Aside (prs s = (zeroG, 0, g.chk)) := HPR.out.trans (if_neg hc)
          have hcb : ((g.chk : Int) != 0) = true := by rw [bne_iff_ne]; omega
          have hcb2 : g.chk ≤ 52 := by
            unfold Gr.chk
            repeat' split
            all_goals omega
          generalize g.chk = ck at *
          have z0 := hF2.c0
          have f0 := hF2.fr 0
          have z1 := hF2.c1
          have f1 := hF2.fr 1
          have z2 := hF2.c2
          have f2 := hF2.fr 2
          have z3 := hF2.c3
          have f3 := hF2.fr 3
          have z4 := hF2.c4
          have f4 := hF2.fr 4
          clear hS2 hF2 HPR hc
          go_wp2
          have hF5 := HF2.out.1.all (.int .i64 0) (.int .i64 0) (.slice none 0 0) (.slice none 0 0) (.slice none 0 0)
          rw [HP.out]
          refine bodyPost_ret (results_g3 rfl _ _ W.heap.size _ _ _ _ _ rfl hF5) rfl ⟨⟨none, 0, none, 0, none, 0⟩, rfl, rg_zero _, Below.all HF2.out.2 (Nat.le_refl _) HF2.out.2.size _ _ _ _ _⟩
end Go.Proofs.YthjgldjjplcncabDoor.Skt
