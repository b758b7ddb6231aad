/-
  Meet of patterns, the program's and the document's; the document's Same.
-/
import Derived.Test.YtcocbjipikeebaaDoorGps
import Derived.Test.YtcocbjipikeebaaDoorGxa
import Derived.Test.YtcocbjipikeebaaDoorGxx
import Derived.Test.YtcocbjipikeebaaDoorGpb
namespace Go.Proofs.YtcocbjipikeebaaDoor.Utf
open Go Go.Lib Go.RowKit

theorem infoU64 : (Tryd.prog.info? 39).map (fun i => (i.zero, i.size, i.bytes)) = some (some (.int .u64 0), 1, 8) := by kernel_rfl
theorem info_partsU {e : TypeId} {z : Value} {n b : Nat} (h : (Tryd.prog.info? e).map (fun i => (i.zero, i.size, i.bytes)) = some (some z, n, b)) : ∃ i, Tryd.prog.info? e = some i ∧ i.zero = some z ∧ i.size = n ∧ i.bytes = b := by
  cases hi : Tryd.prog.info? e with
  | none => rw [hi] at h; cases h
  | some i =>
    rw [hi] at h
    injection h with h
    injection h with h1 h2
    injection h2 with h2 h3
    exact ⟨i, rfl, h1, h2, h3⟩
theorem meet4_step (a b k : Nat) : (a &&& b) % 2 ^ (k + 1) = (a &&& b) % 2 ^ k + (if (a.testBit k && b.testBit k) = true then 2 ^ k else 0) := by
  rw [← Nat.testBit_and]
  generalize a &&& b = x
  rw [Nat.pow_succ, Nat.mod_mul, Msk.bit_div]
  by_cases h : x / 2 ^ k % 2 = 1
  · rw [if_pos (decide_eq_true h), h, Nat.mul_one]
  · have h0 : x / 2 ^ k % 2 = 0 := by omega
    rw [if_neg (by rw [decide_eq_false h]; decide), h0, Nat.mul_zero]
set_option maxRecDepth 100000 in
set_option maxHeartbeats 2000000 in
theorem refMeet4_any (a b : Nat) (ha : a < 18446744073709551616) (hb : b < 18446744073709551616) (w : World) :
    Calls Tryd.prog 27 #[.int .u64 a, .int .u64 b] w fun e w' => e = .returned (.int .u64 ((a &&& b : Nat) : Int)) ∧ w' = w := by
  have HF : Aside ((a &&& b) % 2 ^ 64 = (a &&& b)) := Nat.mod_eq_of_lt (Nat.lt_of_le_of_lt Nat.and_le_left ha)
  go_enter Tryd.func27, Tryd.ntmps27
  go_wp2
  go_loopg [5, 6] 64 (fun g1 mv iv wr => ∃ k m : Nat, iv = .int .i64 (k : Int) ∧ mv = .int .u64 (m : Nat) ∧ k ≤ 64 ∧ 64 - k ≤ g1 ∧ Aside ((a &&& b) % 2 ^ k = m) ∧ wr = w)
  case atStart => exact ⟨0, 0, rfl, rfl, Nat.zero_le _, Nat.le_refl _, by show _ = _; rw [Nat.pow_zero, Nat.mod_one], rfl⟩
  case round =>
    obtain ⟨k, m, rfl, rfl, hk, hg1, HM, rfl⟩ := hrel
    by_cases hlt : k < 64
    · have hltz : (k : Int) < 64 := by omega
      have cA := Msk.refHas_any a k ha wr
      have cB := Msk.refHas_any b k hb wr
      have cT := Msk.refBit_any k hlt wr
      rw [decide_eq_true (show 0 ≤ (k : Int) ∧ (k : Int) < 64 by omega), Bool.true_and, show ((k : Int)).toNat = k from rfl] at cA cB
      have HS := meet4_step a b k
      have hml : (a &&& b) % 2 ^ (k + 1) < 18446744073709551616 := Nat.lt_of_le_of_lt (Nat.mod_le _ _) (Nat.lt_of_le_of_lt Nat.and_le_left ha)
      rw [HM.out] at HS
      obtain ⟨q, hq⟩ : ∃ q, (a &&& b) % 2 ^ (k + 1) = q := ⟨_, rfl⟩
      have HQ : Aside ((a &&& b) % 2 ^ (k + 1) = q) := hq
      rw [hq] at HS hml
      clear hq HM
      generalize 2 ^ k = p at *
      generalize a.testBit k = ba at *
      generalize b.testBit k = bb at *
      cases ba with
      | false =>
        rw [if_neg (by simp)] at HS
        have HS2 : Aside (q = m) := by show _ = _; omega
        clear HS cT cB
        go_wp2_with (go_at_call 49; refine cA.mono ?_; rintro e w' ⟨rfl, hw⟩; obtain rfl := hw.symm)
        go_roundg (64 - (k + 1))
        case measure => omega
        case rel => exact ⟨k + 1, m, by go_num, rfl, by omega, Nat.le_refl _, by show _ = _; rw [HQ.out, HS2.out], by first | rfl | trivial⟩
      | true =>
        cases bb with
        | false =>
          rw [if_neg (by simp)] at HS
          have HS2 : Aside (q = m) := by show _ = _; omega
          clear HS cT
          go_wp2_with (first | (go_at_call 49; with_reducible refine cA.mono ?_; rintro e w' ⟨rfl, hw⟩; obtain rfl := hw.symm) | (go_at_call 49; with_reducible refine cB.mono ?_; rintro e w' ⟨rfl, hw⟩; obtain rfl := hw.symm))
          go_roundg (64 - (k + 1))
          case measure => omega
          case rel => exact ⟨k + 1, m, by go_num, rfl, by omega, Nat.le_refl _, by show _ = _; rw [HQ.out, HS2.out], by first | rfl | trivial⟩
        | true =>
          rw [if_pos (by rfl)] at HS
          have e : IntKind.u64.wrap ((m : Int) + (p : Int)) = (q : Int) := by rw [IntKind.wrap_u64]; omega
          have HS2 : Aside (q = m + p) := HS
          clear HS
          go_wp2_with (first | (go_at_call 49; with_reducible refine cA.mono ?_; rintro e w' ⟨rfl, hw⟩; obtain rfl := hw.symm) | (go_at_call 49; with_reducible refine cB.mono ?_; rintro e w' ⟨rfl, hw⟩; obtain rfl := hw.symm) | (go_at_call 48; refine cT.mono ?_; rintro e w' ⟨rfl, hw⟩; obtain rfl := hw.symm))
          go_roundg (64 - (k + 1))
          case measure => omega
          case rel => exact ⟨k + 1, q, by go_num, by first | rfl | go_num | (simp only [HS2.out]; push_cast; rfl) | (congr 1; omega), by omega, Nat.le_refl _, HQ, by first | rfl | trivial⟩
    · have hltz : ¬ (k : Int) < 64 := by omega
      obtain rfl : k = 64 := by omega
      have HM2 : Aside (m = a &&& b) := by show _ = _; rw [← HM.out, HF.out]
      clear HM HF
      go_wp2
      go_ret
      rw [HM2.out]
      exact ⟨rfl, rfl⟩

/-- The first k masks, nought behind. -/
def muF (r : List Nat) (k : Nat) : List Value := msks (r.take k) ++ List.replicate (r.length - k) (.int .u64 0)
theorem muF_zero (r : List Nat) : muF r 0 = List.replicate r.length (.int .u64 0) := by unfold muF; simp [msks]
theorem muF_full (r : List Nat) : muF r r.length = msks r := by unfold muF; simp
theorem muF_len (r : List Nat) {k : Nat} (h : k ≤ r.length) : (muF r k).length = r.length := by
  unfold muF; rw [List.length_append, msks_len, List.length_take, List.length_replicate]; omega
theorem muF_next (r : List Nat) {k : Nat} (h : k < r.length) : (muF r k).set k (.int .u64 ((r[k] : Nat) : Int)) = muF r (k + 1) := by
  unfold muF
  have hl : (msks (r.take k)).length = k := by rw [msks_len, List.length_take]; omega
  rw [List.set_append_right _ _ (by omega), hl, Nat.sub_self, show r.length - k = (r.length - (k + 1)) + 1 by omega, List.replicate_succ, List.set_cons_zero, List.take_succ_eq_append_getElem h, msks, msks, List.map_append, List.append_assoc]
  rfl
theorem ownsRow_u64 (w : World) (n : Nat) (hn : n ≤ maxLen) : (w.alloc (.cells (madeCells #[.int .u64 0] n) 39)).ownsRow w.heap.size 39 1 (.slice (some ⟨w.heap.size, 0, none⟩) n n) n (List.replicate n (.int .u64 0)) := by
  refine ⟨by simp, .inr ⟨w.heap.size, n, madeCells #[.int .u64 0] n, rfl, Nat.le_refl _, heap_box w _, Nat.le_refl _, hn, by simp [madeCells], ?_⟩⟩
  rw [toList_madeCells_one]; simp
theorem meetL_at {p q : List Nat} {i : Nat} (hp : i < p.length) (hq : i < q.length) (h : i < (meetL p q).length) : (meetL p q)[i] = p[i] &&& q[i] := by
  simp [meetL]

/-- What Meet answers. -/
def MeetQ (W : World) (p q : List Nat) (e : Ending) (w' : World) : Prop := ((p.length = q.length ∧ ∃ v, e = .returned (.tuple #[v, .bool true]) ∧ w'.ownsRow W.heap.size 39 1 v (meetL p q).length (msks (meetL p q))) ∨ (p.length ≠ q.length ∧ e = .returned (.tuple #[.slice none 0 0, .bool false]))) ∧ Below W.heap.size W w'

theorem meetL_snoc {p q : List Nat} {k : Nat} (hp : k < p.length) (hq : k < q.length) : meetL (p.take (k + 1)) (q.take (k + 1)) = meetL (p.take k) (q.take k) ++ [p[k] &&& q[k]] := by
  unfold meetL
  rw [List.take_succ_eq_append_getElem hp, List.take_succ_eq_append_getElem hq, List.zipWith_append (by rw [List.length_take, List.length_take]; omega)]
  rfl
set_option maxRecDepth 100000 in
set_option maxHeartbeats 2000000 in
/-- The document's Same, of the same patterns. -/
theorem refSameU_any (p : List Nat) (ap aq : Option Addr) (cp cq : Nat) (W : World) (hl : p.length ≤ 1048576) (hR : ReadsO W ap (msks p)) (hC : ReadsO W aq (msks p)) :
    Calls Tryd.prog 10 #[.slice ap p.length cp, .slice aq p.length cq] W fun e w' => e = .returned (.bool true) ∧ Below W.heap.size W w' := by
  have HR : Aside (∀ Z, Below W.heap.size W Z → ReadsO Z ap (msks p) ∧ ReadsO Z aq (msks p)) := fun Z hb => ⟨hR.below hb, hC.below hb⟩
  obtain ⟨N, hN⟩ : ∃ N, p.length = N := ⟨_, rfl⟩
  have HN : Aside (p.length = N) := hN
  rw [hN] at hl ⊢
  have hne : ((N : Int) != (N : Int)) = false := by rw [bne_eq_false_iff_eq]
  clear hR hC hN
  go_enter Tryd.func10, Tryd.ntmps10
  go_wp2
  go_loopg [5] N (fun g1 vk wr => ∃ k : Nat, vk = .int .i64 (k : Int) ∧ k ≤ N ∧ N - k ≤ g1 ∧ Aside (Below W.heap.size W wr))
  case atStart => exact ⟨0, rfl, Nat.zero_le _, Nat.le_refl _, Below.refl _ _⟩
  case round =>
    obtain ⟨k, rfl, hk, hg1, HB⟩ := hrel
    by_cases hlt : k < N
    · have hltz : (k : Int) < (N : Int) := by omega
      have hkp : k < p.length := by rw [HN.out]; exact hlt
      obtain ⟨gp, op, rfl, _, ep⟩ := (HR.out _ HB.out).1 k (by rw [msks_len]; exact hkp)
      obtain ⟨gq, oq, rfl, _, eq⟩ := (HR.out _ HB.out).2 k (by rw [msks_len]; exact hkp)
      rw [msks_at hkp] at ep eq
      generalize p[k] = x at *
      have hxx : ((x : Int) != (x : Int)) = false := by rw [bne_eq_false_iff_eq]
      have HB1 : Aside (Below W.heap.size W wr.drew) := Below.drew HB.out
      go_wp2
      (try go_big_region)
      go_wp2
      go_roundg (N - (k + 1))
      case measure => omega
      case rel => exact ⟨k + 1, by go_num, by omega, Nat.le_refl _, by first | exact HB | exact HB1⟩
    · have hltz : ¬ (k : Int) < (N : Int) := by omega
      go_wp2
      go_ret
      exact ⟨rfl, HB.out⟩
end Go.Proofs.YtcocbjipikeebaaDoor.Utf
/-
  What holds at the labels of the pattern scanner's scan.
-/
namespace Go.Proofs.YtcocbjipikeebaaDoor.Pts
open Go Go.Lib Go.RowKit Utf

/-- The frame of scan. -/
def fr98 (b : Nat) (x4 x5 x6 x7 : Value) (u : Nat → Value) : Array Value := #[.pointer (some ⟨b, 0, none⟩), u 1, u 2, u 3, x4, x5, x6, x7, u 8, u 9, u 10, u 11, u 12, u 13, u 14, u 15, u 16, u 17, u 18, u 19, u 20, u 21, u 22, u 23, u 24, u 25, u 26, u 27, u 28, u 29, u 30, u 31, u 32, u 33, u 34, u 35, u 36, u 37, u 38, u 39, u 40, u 41, u 42, u 43, u 44, u 45, u 46, u 47, u 48, u 49, u 50, u 51, u 52, u 53, u 54, u 55, u 56, u 57, u 58, u 59, u 60, u 61, u 62, u 63, u 64, u 65, u 66, u 67, u 68, u 69, u 70, u 71, u 72, u 73, u 74, u 75, u 76, u 77, u 78, u 79, u 80, u 81, u 82, u 83, u 84, u 85, u 86, u 87, u 88, u 89, u 90, u 91, u 92, u 93, u 94, u 95, u 96, u 97, u 98]
def ff7 (l : List Value) (i : Nat) : Value := l[i]?.getD undef
theorem Fr7.of (b : Nat) (u1 u2 u3 u4 u5 u6 u7 u8 u9 u10 u11 u12 u13 u14 u15 u16 u17 u18 u19 u20 u21 u22 u23 u24 u25 u26 u27 u28 u29 u30 u31 u32 u33 u34 u35 u36 u37 u38 u39 u40 u41 u42 u43 u44 u45 u46 u47 u48 u49 u50 u51 u52 u53 u54 u55 u56 u57 u58 u59 u60 u61 u62 u63 u64 u65 u66 u67 u68 u69 u70 u71 u72 u73 u74 u75 u76 u77 u78 u79 u80 u81 u82 u83 u84 u85 u86 u87 u88 u89 u90 u91 u92 u93 u94 u95 u96 u97 u98 : Value) : ∃ u, ({ tmps := #[.pointer (some ⟨b, 0, none⟩), u1, u2, u3, u4, u5, u6, u7, u8, u9, u10, u11, u12, u13, u14, u15, u16, u17, u18, u19, u20, u21, u22, u23, u24, u25, u26, u27, u28, u29, u30, u31, u32, u33, u34, u35, u36, u37, u38, u39, u40, u41, u42, u43, u44, u45, u46, u47, u48, u49, u50, u51, u52, u53, u54, u55, u56, u57, u58, u59, u60, u61, u62, u63, u64, u65, u66, u67, u68, u69, u70, u71, u72, u73, u74, u75, u76, u77, u78, u79, u80, u81, u82, u83, u84, u85, u86, u87, u88, u89, u90, u91, u92, u93, u94, u95, u96, u97, u98], defers := [] } : Act) = { tmps := fr98 b u4 u5 u6 u7 u, defers := [] } :=
  ⟨ff7 [undef, u1, u2, u3, u4, u5, u6, u7, u8, u9, u10, u11, u12, u13, u14, u15, u16, u17, u18, u19, u20, u21, u22, u23, u24, u25, u26, u27, u28, u29, u30, u31, u32, u33, u34, u35, u36, u37, u38, u39, u40, u41, u42, u43, u44, u45, u46, u47, u48, u49, u50, u51, u52, u53, u54, u55, u56, u57, u58, u59, u60, u61, u62, u63, u64, u65, u66, u67, u68, u69, u70, u71, u72, u73, u74, u75, u76, u77, u78, u79, u80, u81, u82, u83, u84, u85, u86, u87, u88, u89, u90, u91, u92, u93, u94, u95, u96, u97, u98], rfl⟩

/-- Where the scanner is: what it holds. -/
structure St7 (W0 wq : World) (b : Nat) (pa : Option Addr) (s : ByteArray) (acc : List Nat) (x2 x3 x4 x5 : Value) : Prop where
  box : ∃ v6, S7 wq b (.pointer pa) (.string s) x2 x3 x4 x5 v6 ∧ wq.ownsRow (b + 1) 39 1 v6 acc.length (msks acc)
  below : Below b W0 wq
theorem row_keepsU {w w' : World} {B : Nat} {e : TypeId} {sz : Nat} {v : Value} {n : Nat} {l : List Value} (h : w.ownsRow B e sz v n l) (hb : Below w.heap.size w w') : w'.ownsRow B e sz v n l := Dif.own (O := fun _ => False) (Dif.of_below hb) h (fun _ _ h => h)
theorem St7.keep {W0 wq w' : World} {b : Nat} {pa : Option Addr} {s : ByteArray} {acc : List Nat} {x2 x3 x4 x5 : Value} (h : St7 W0 wq b pa s acc x2 x3 x4 x5) (hb : Below wq.heap.size wq w') : St7 W0 w' b pa s acc x2 x3 x4 x5 := by
  obtain ⟨v6, hS, hr⟩ := h.box
  exact ⟨⟨v6, hS.keep hb, row_keepsU hr hb⟩, h.below.trans (hb.mono (Nat.le_of_lt hS.lt))⟩
theorem St7.bh {W0 wq : World} {b : Nat} {pa : Option Addr} {s : ByteArray} {acc : List Nat} {x2 x3 x4 : Value} {p : Nat} (h : St7 W0 wq b pa s acc x2 x3 x4 (.int .i64 (p : Nat))) : rdN wq b 5 = p := by
  obtain ⟨v6, hS, _⟩ := h.box
  exact rdN_of hS.c5
/-- What scan leaves. -/
def Out7 (W0 : World) (b : Nat) (pa : Option Addr) (s : ByteArray) (R : Nat × Int × List Nat) (e : Ending) (W' : World) : Prop :=
  e = .returned (.tuple #[.int .i64 (R.1 : Nat), .int .i64 R.2.1]) ∧ (R.2.1 = 0 → ∃ x2 x3 x4 x5, St7 W0 W' b pa s R.2.2 x2 x3 x4 x5) ∧ Below b W0 W'
/-- What holds at the labels. -/
def At7 (W0 : World) (b : Nat) (pa : Option Addr) (L : List ByteArray) (s : ByteArray) (all : Nat) (R : Nat × Int × List Nat) (l : Nat) (a : Act) (wq : World) : Prop :=
  ∃ (u : Nat → Value) (x5 x6 x7 : Value), a = { tmps := fr98 b (.int .u64 (all : Nat)) x5 x6 x7 u, defers := [] } ∧ match l with
  | 0 => ∃ (f p : Nat) (acc : List Nat) (y2 y3 y4 : Value), p ≤ s.size ∧ s.size < p + (f + 1) ∧ acc.length ≤ 32 ∧ Low acc ∧ St7 W0 wq b pa s acc y2 y3 y4 (.int .i64 (p : Nat)) ∧ prs L s all (f + 1) p acc = R
  | 1 => ∃ (p : Nat) (acc : List Nat) (y2 y3 y4 y5 : Value), x5 = .int .i64 (p : Nat) ∧ St7 W0 wq b pa s acc y2 y3 y4 y5 ∧ R = (p, 100, [])
  | 2 => ∃ (f q m : Nat) (acc : List Nat) (y2 y3 y4 : Value), x6 = .int .u64 (m : Nat) ∧ m < 18446744073709551616 ∧ q ≤ s.size ∧ s.size < q + f ∧ acc.length < 32 ∧ Low acc ∧ St7 W0 wq b pa s acc y2 y3 y4 (.int .i64 (q : Nat)) ∧ prs L s all f q (acc ++ [m]) = R
  | 3 => ∃ (f0 f p q said : Nat) (io : Bool) (acc : List Nat) (y3 : Value), x5 = .int .i64 (p : Nat) ∧ x6 = .int .u64 (said : Nat) ∧ x7 = .bool io ∧ said < 18446744073709551616 ∧ q ≤ s.size ∧ s.size < q + f ∧ s.size < q + f0 ∧ acc.length < 32 ∧ Low acc ∧ (sgc L s q = -2 → y3 = .int .i64 (sgn L s q : Nat)) ∧ St7 W0 wq b pa s acc (.int .i32 (sgc L s q)) y3 (.int .i64 (q : Nat)) (.int .i64 (sgb L s q : Nat)) ∧ thenP L s all f0 p acc (wth io all (brk L s f q said)) = R
  | _ => False
def rank7 : Nat → Nat | 2 => 1 | 3 => 1 | _ => 0
def mu7 (s : ByteArray) (b : Nat) (l : Nat) (_ : Act) (wq : World) : Nat := 4 * (s.size - rdN wq b 5) + rank7 l
theorem reads_one7 (w : World) (c : Int) (t : TypeId) : Msk.ReadsI (w.alloc (.cells #[.int .i64 c] t)) (some ⟨w.heap.size, 0, none⟩) [c] := fun i hi => by
  have : i = 0 := by simpa using hi
  subst this
  exact ⟨w.heap.size, 0, rfl, by simp, box_at w _ t 0 rfl⟩
theorem low_snoc {acc : List Nat} {m : Nat} (h : Low acc) (hm : m < 18446744073709551616) : Low (acc ++ [m]) := fun x hx => by
  rcases List.mem_append.1 hx with h1 | h1
  · exact h x h1
  · rw [List.mem_singleton.1 h1]; exact hm
theorem next_st7 {W0 : World} {pa : Option Addr} {L : List ByteArray} (hA : AlphaP W0 pa L) (hT : Lib.Utf8Tabs 1 2 W0) (hNd : L.Nodup) (s : ByteArray) (hs : s.size ≤ 140737488355328) (p : Nat) (hp : p ≤ s.size) (wq : World) (acc : List Nat) (x2 x3 x4 : Value)
    (h : St7 W0 wq W0.heap.size pa s acc x2 x3 x4 (.int .i64 (p : Nat))) :
    Calls Tryd.prog 52 #[.pointer (some ⟨W0.heap.size, 0, none⟩)] wq fun e W' => e = .returned (.tuple #[]) ∧ ∃ y3, (sgc L s p = -2 → y3 = .int .i64 (sgn L s p : Nat)) ∧ St7 W0 W' W0.heap.size pa s acc (.int .i32 (sgc L s p)) y3 (.int .i64 (p : Nat)) (.int .i64 (sgb L s p : Nat)) := by
  obtain ⟨v6, hS, hr⟩ := h.box
  refine (pnext_any hA hT hNd s hs p hp wq h.below x2 x3 x4 v6 hS).mono ?_
  rintro e W' ⟨rfl, ⟨y3, hS', hy⟩, hd⟩
  refine ⟨rfl, y3, hy, ⟨v6, hS', Dif.own hd hr (fun g hg => ?_)⟩, h.below.trans (hd.below (fun k hk _ => ?_) (Nat.le_of_lt hS.lt))⟩
  · have := (hr.lt g hg).1; omega
  · omega
theorem elem_q {L : List ByteArray} {s : ByteArray} {all f p : Nat} (h : sgc L s p = 63) : elem L s all f p = some (all, sgb L s p) := by unfold elem; rw [if_pos h]
theorem elem_l {L : List ByteArray} {s : ByteArray} {all f p : Nat} (h : sgc L s p = -2) : elem L s all f p = some (oneN (sgn L s p), sgb L s p) := by unfold elem; rw [if_neg (by rw [h]; decide), if_pos h]
theorem elem_o {L : List ByteArray} {s : ByteArray} {all f p : Nat} (h : sgc L s p = 91) (h2 : sgc L s (sgb L s p) = 94) : elem L s all f p = wth true all (brk L s f (sgb L s (sgb L s p)) 0) := by unfold elem; rw [if_neg (by rw [h]; decide), if_neg (by rw [h]; decide), if_pos h, if_pos h2]
theorem elem_b {L : List ByteArray} {s : ByteArray} {all f p : Nat} (h : sgc L s p = 91) (h2 : sgc L s (sgb L s p) ≠ 94) : elem L s all f p = wth false all (brk L s f (sgb L s p) 0) := by unfold elem; rw [if_neg (by rw [h]; decide), if_neg (by rw [h]; decide), if_pos h, if_neg h2]
theorem brk_no {L : List ByteArray} {s : ByteArray} {f q said : Nat} (h : sgc L s q ≠ -2) : brk L s f q said = none := by
  cases f with
  | zero => rfl
  | succ f => rw [brk, if_neg h]
theorem brk_c {L : List ByteArray} {s : ByteArray} {f q said : Nat} (h : sgc L s q = -2) (h2 : sgc L s (sgb L s q) = 44) : brk L s (f + 1) q said = brk L s f (sgb L s (sgb L s q)) (said ||| oneN (sgn L s q)) := by rw [brk, if_pos h, if_pos h2]
theorem brk_s {L : List ByteArray} {s : ByteArray} {f q said : Nat} (h : sgc L s q = -2) (h2 : sgc L s (sgb L s q) = 93) : brk L s (f + 1) q said = some (said ||| oneN (sgn L s q), sgb L s (sgb L s q)) := by rw [brk, if_pos h, if_neg (by rw [h2]; decide), if_pos h2]
theorem brk_x {L : List ByteArray} {s : ByteArray} {f q said : Nat} (h : sgc L s (sgb L s q) ≠ 44) (h2 : sgc L s (sgb L s q) ≠ 93) : brk L s f q said = none := by
  cases f with
  | zero => rfl
  | succ f =>
    rw [brk, if_neg h, if_neg h2]
    split <;> rfl
end Go.Proofs.YtcocbjipikeebaaDoor.Pts
/-
  The pattern scanner's scan walked: for every text.
-/
namespace Go.Proofs.YtcocbjipikeebaaDoor.Pts
open Go Go.Lib Go.RowKit Utf

set_option maxRecDepth 100000 in
set_option maxHeartbeats 8000000 in
theorem scan7_any {W0 : World} {pa : Option Addr} {L : List ByteArray} (hA : AlphaP W0 pa L) (hT : Lib.Utf8Tabs 1 2 W0) (hNd : L.Nodup) (hL1 : ∀ x ∈ L, 1 ≤ x.size) (s : ByteArray) (hs : s.size ≤ 140737488355328) (W : World) (x2 x3 x4 : Value)
    (h : St7 W0 W W0.heap.size pa s [] x2 x3 x4 (.int .i64 ((0 : Nat) : Int))) :
    Calls Tryd.prog 31 #[.pointer (some ⟨W0.heap.size, 0, none⟩)] W fun e W' => Out7 W0 W0.heap.size pa s (prs L s (Msk.fullN (L.length : Int)) (s.size + 1) 0 []) e W' := by
  have HN : Aside (∀ p (_ : p ≤ s.size) wq acc x2 x3 x4 (_ : St7 W0 wq W0.heap.size pa s acc x2 x3 x4 (.int .i64 (p : Nat))), Calls Tryd.prog 52 #[.pointer (some ⟨W0.heap.size, 0, none⟩)] wq fun e W' => e = .returned (.tuple #[]) ∧ ∃ y3, (sgc L s p = -2 → y3 = .int .i64 (sgn L s p : Nat)) ∧ St7 W0 W' W0.heap.size pa s acc (.int .i32 (sgc L s p)) y3 (.int .i64 (p : Nat)) (.int .i64 (sgb L s p : Nat))) := fun p hp wq acc x2 x3 x4 h => next_st7 hA hT hNd s hs p hp wq acc x2 x3 x4 h
  have cS : ∀ Z, Below W0.heap.size W0 Z → Calls Tryd.prog 16 #[.pointer pa] Z fun e w' => e = .returned (.int .i64 L.length) ∧ w' = Z := fun Z hb => sizeP_any (hA.below hb)
  have cSz := cS W h.below
  have cFl := Msk.full_any (L.length : Int) W
  have HLE : Aside (∀ p, p ≤ s.size → p ≤ sgb L s p ∧ sgb L s p ≤ s.size) := fun p hp => sgb_le hL1 hp
  have HLT : Aside (∀ p, sgc L s p ≠ -1 → p < sgb L s p) := fun p hp => sgb_lt hL1 hp
  have HAL : Aside (Msk.fullN (L.length : Int) < 18446744073709551616) := by
    have h1 : 2 ^ (min (L.length : Int) 64).toNat ≤ 2 ^ 64 := Nat.pow_le_pow_right (by decide) (by omega)
    have h2 := Nat.two_pow_pos (min (L.length : Int) 64).toNat
    show Msk.fullN _ < _
    unfold Msk.fullN
    omega
  obtain ⟨i0, hi, hz0, hz1, hz2⟩ := info_partsU infoU64
  have HI : Aside (Tryd.prog.info? 39 = some i0 ∧ i0.zero = some (.int .u64 0) ∧ i0.size = 1 ∧ i0.bytes = 8) := ⟨hi, hz0, hz1, hz2⟩
  clear hA hT hNd hL1 cS hi hz0 hz1 hz2
  generalize Msk.fullN (L.length : Int) = all at *
  obtain ⟨b, hb⟩ : ∃ b, W0.heap.size = b := ⟨_, rfl⟩
  rw [hb] at h HN ⊢
  clear hb
  obtain ⟨v6, hS, _⟩ := h.box
  have k0 := hS.c0
  have H0 : Aside (St7 W0 W b pa s [] x2 x3 x4 (.int .i64 ((0 : Nat) : Int))) := h
  clear h hS
  generalize hR : prs L s all (s.size + 1) 0 [] = R
  have HR : Aside (prs L s all (s.size + 1) 0 [] = R) := hR
  clear hR
  generalize L.length = ln at *
  go_enter Tryd.func31, Tryd.ntmps31
  go_wp2
  have HCF : Aside (Calls _ _ _ _ _ ∧ Calls _ _ _ _ _ ∧ _ = _) := ⟨cSz, cFl, k0⟩
  clear cSz cFl k0
  refine wp_scope_four (At7 W0 b pa L s all R) (mu7 s b) (fun l a w hl h => ?h4) rfl rfl rfl rfl ?first ?p0 ?p1 ?p2 ?p3
  case h4 =>
    obtain ⟨n, rfl⟩ : ∃ n, l = n + 4 := ⟨l - 4, by omega⟩
    obtain ⟨_, _, _, _, _, h⟩ := h
    exact h
  case first =>
    intro hpass
    have HPS : Aside (∀ a w, At7 W0 b pa L s all R 0 a w → Code.wp _ _ _ a w) := hpass
    clear hpass
    obtain ⟨cSz, cFl, k0⟩ := HCF.out
    go_wp2_with (first | (go_at_call 16; refine cSz.mono ?_; rintro e w' ⟨rfl, hw⟩; obtain rfl := hw.symm) | (go_at_call 15; refine cFl.mono ?_; rintro e w' ⟨rfl, hw⟩; obtain rfl := hw.symm))
    go_step3
    rename_i K hK
    refine hK _ _ ?_
    obtain ⟨u', hu'⟩ := Fr7.of b _ _ _ _ _ _ _ _ _ _ _ _ _ _ _ _ _ _ _ _ _ _ _ _ _ _ _ _ _ _ _ _ _ _ _ _ _ _ _ _ _ _ _ _ _ _ _ _ _ _ _ _ _ _ _ _ _ _ _ _ _ _ _ _ _ _ _ _ _ _ _ _ _ _ _ _ _ _ _ _ _ _ _ _ _ _ _ _ _ _ _ _ _ _ _ _ _ _
    exact HPS.out _ _ ⟨u', _, _, _, hu', s.size, 0, [], x2, x3, x4, Nat.zero_le _, by omega, by simp, fun _ h => (by cases h), H0.out, HR.out⟩
  case p1 =>
    rintro a wq ⟨u, x5, x6, x7, rfl, p, acc, y2, y3, y4, y5, rfl, hSt, hE⟩
    have HB : Aside (Below b W0 wq ∧ R = (p, 100, [])) := ⟨hSt.below, hE⟩
    clear hSt hE HR H0 HN
    unfold fr98
    generalize mu7 s b 1 _ wq = m0
    generalize (fun (l' : Nat) (a' : Act) (w' : World) => At7 W0 b pa L s all R l' a' w' ∧ mu7 s b l' a' w' < m0) = J
    go_wp2
    simp only [Exit.many]
    go_ret2
    refine ⟨?_, fun h => ?_, HB.out.1⟩
    · rw [HB.out.2]; rfl
    · rw [HB.out.2] at h
      exact absurd h (show ¬ (100 : Int) = 0 by decide)
  case p2 =>
    rintro a wq ⟨u, x5, x6, x7, rfl, f, q, m, acc, y2, y3, y4, rfl, hm, hq, hf, hal, hlow, hSt, hE⟩
    unfold fr98
    generalize hmm : mu7 s b 2 _ wq = m0
    generalize hJ : (fun (l' : Nat) (a' : Act) (w' : World) => At7 W0 b pa L s all R l' a' w' ∧ mu7 s b l' a' w' < m0) = J
    unfold mu7 rank7 at hmm
    rw [hSt.bh] at hmm
    obtain ⟨v6, hS, hrow⟩ := hSt.box
    have k6 := hS.c6
    have HJ : Aside ((fun (l' : Nat) (a' : Act) (w' : World) => At7 W0 b pa L s all R l' a' w' ∧ mu7 s b l' a' w' < m0) = J) := hJ
    have HQ : Aside (m < 18446744073709551616 ∧ q ≤ s.size ∧ s.size < q + f ∧ Low acc ∧ prs L s all f q (acc ++ [m]) = R ∧ 4 * (s.size - q) + 1 = m0) := ⟨hm, hq, hf, hlow, hE, hmm⟩
    have HS : Aside (S7 wq b (.pointer pa) (.string s) y2 y3 y4 (.int .i64 (q : Nat)) v6) := hS
    have HB : Aside (Below b W0 wq) := hSt.below
    have hbl := hS.lt
    obtain ⟨hi, hz0, hz1, hz2⟩ := HI.out
    have hvb : ∀ g, v6.ownBlock = some g → b + 1 ≤ g := fun g hg => (hrow.lt g hg).1
    have HVB : Aside (∀ g, v6.ownBlock = some g → b + 1 ≤ g) := hvb
    clear hvb hS hSt hE hm hq hf hlow hmm hJ HR H0 HN
    go_wp2_with (at_builtin; refine wpList_append_own _ rfl _ _ 23 rfl (b + 1) 39 i0 (.int .u64 0) 1 8 Tryd.underlying23 hi hz0 hz1 hz2 rfl (by decide) v6 _ _ rfl (hrow.alloc _) ⟨wq.heap.size, 0, none⟩ 1 1 [.int .u64 (m : Nat)] rfl rfl (cell_one_new _ _ _) (by simp [Value.oneCell']) (by unfold maxLen; omega) (by omega) (by simp; omega) ?_)
    intro v' wa hown' hgrow hat
    obtain ⟨a9, c9, rfl⟩ := row_slice hown'
    have hgw : wq.grownBy wa v6.ownBlock := (World.grownBy_alloc _ _ _).trans hgrow
    have hSa : S7 wa b (.pointer pa) (.string s) y2 y3 y4 (.int .i64 (q : Nat)) v6 := ⟨(hgw.block b hbl (fun e => by have := HVB.out b e.symm; omega)).trans HS.out.blk⟩
    have HBa : Aside (Below b W0 wa) := HB.out.grown hgw (Nat.le_of_lt hbl) (fun j hj => by have := HVB.out j hj; omega)
    have ha6 := hSa.c6
    have fa6 := hSa.fr 6
    have HSt2 : Aside (St7 W0 (wa.setCell ⟨b, 6, none⟩ (.slice a9 (acc.length + 1) c9)) b pa s (acc ++ [m]) y2 y3 y4 (.int .i64 (q : Nat))) := by
      refine ⟨⟨_, hSa.set6 _, ?_⟩, HBa.out.setCell (p := ⟨b, 6, none⟩) (Nat.le_refl _) _⟩
      have h1 : wa.ownsRow (b + 1) 39 1 (.slice a9 (acc.length + 1) c9) (acc ++ [m]).length (msks (acc ++ [m])) := by
        simp only [msks, List.map_append, List.map_cons, List.map_nil, List.length_append, List.length_cons, List.length_nil]
        exact hown'
      exact ownsRow_setCell_below h1 (a := ⟨b, 6, none⟩) (by show b < b + 1; omega) _
    have hacl : (acc ++ [m]).length ≤ 32 := by rw [List.length_append, List.length_singleton]; omega
    have HAC : Aside ((acc ++ [m]).length ≤ 32) := hacl
    clear hacl hown' hgrow hat hgw hSa k6 hrow
    go_wp2
    go_step3
    show J _ _ _
    rw [← HJ.out]
    obtain ⟨f', rfl⟩ : ∃ f', f = f' + 1 := ⟨f - 1, by have := HQ.out; omega⟩
    obtain ⟨u', hu'⟩ := Fr7.of b _ _ _ _ _ _ _ _ _ _ _ _ _ _ _ _ _ _ _ _ _ _ _ _ _ _ _ _ _ _ _ _ _ _ _ _ _ _ _ _ _ _ _ _ _ _ _ _ _ _ _ _ _ _ _ _ _ _ _ _ _ _ _ _ _ _ _ _ _ _ _ _ _ _ _ _ _ _ _ _ _ _ _ _ _ _ _ _ _ _ _ _ _ _ _ _ _ _
    refine ⟨⟨u', _, _, _, hu', f', q, acc ++ [m], y2, y3, y4, HQ.out.2.1, HQ.out.2.2.1, HAC.out, low_snoc HQ.out.2.2.2.1 HQ.out.1, HSt2.out, HQ.out.2.2.2.2.1⟩, ?_⟩
    show 4 * (s.size - rdN (wa.setCell ⟨b, 6, none⟩ (.slice a9 (acc.length + 1) c9)) b 5) + 0 < m0
    rw [HSt2.out.bh]
    have := HQ.out
    omega
  case p0 =>
    rintro hp3 a wq ⟨u, x5, x6, x7, rfl, f, p, acc, y2, y3, y4, hp, hf, hal, hlow, hSt, hE⟩
    unfold fr98
    generalize hmm : mu7 s b 0 _ wq = m0
    generalize hJ : (fun (l' : Nat) (a' : Act) (w' : World) => At7 W0 b pa L s all R l' a' w' ∧ mu7 s b l' a' w' < m0) = J
    unfold mu7 rank7 at hmm
    rw [hSt.bh] at hmm
    have HJ : Aside ((fun (l' : Nat) (a' : Act) (w' : World) => At7 W0 b pa L s all R l' a' w' ∧ mu7 s b l' a' w' < m0) = J) := hJ
    have HP3 : Aside (∀ a w, At7 W0 b pa L s all R 3 a w → Code.wp _ _ _ a w) := hp3
    have cN := HN.out p hp wq acc _ _ _ hSt
    have HQ : Aside (p ≤ s.size ∧ s.size < p + (f + 1) ∧ acc.length ≤ 32 ∧ Low acc ∧ prs L s all (f + 1) p acc = R ∧ 4 * (s.size - p) + 0 = m0 ∧ p ≤ sgb L s p ∧ sgb L s p ≤ s.size) := ⟨hp, hf, hal, hlow, hE, hmm, HLE.out p hp⟩
    clear hp3 hJ hSt hp hf hlow hE hmm HR H0
    go_wp2_with fail
    refine cN.mono ?_
    rintro e w2 ⟨rfl, z3, hz3, hSt2⟩
    have HS2 : Aside (St7 W0 w2 b pa s acc (.int .i32 (sgc L s p)) z3 (.int .i64 (p : Nat)) (.int .i64 (sgb L s p : Nat))) := hSt2
    have HZ : Aside (sgc L s p = -2 → z3 = .int .i64 (sgn L s p : Nat)) := hz3
    obtain ⟨v6, hS, hrow⟩ := hSt2.box
    obtain ⟨a6, c6, rfl⟩ := row_slice hrow
    have k2 := hS.c2
    have k3 := hS.c3
    have k4 := hS.c4
    have k6 := hS.c6
    have cB := begins_any b (sgc L s p) w2 k2
    have HLp : Aside (sgc L s p ≠ -1 → p < sgb L s p) := HLT.out p
    clear cN hz3 hSt2 hS hrow
    obtain ⟨c, hc⟩ : ∃ c, sgc L s p = c := ⟨_, rfl⟩
    have HC : Aside (sgc L s p = c) := hc
    rw [hc] at k2 cB
    clear hc
    by_cases hm1 : c = -1
    · have HE : Aside (R = (0, 0, acc)) := by
        show _ = _
        rw [← HQ.out.2.2.2.2.1, prs_end (HC.out.trans hm1)]
      subst hm1
      go_wp2
      simp only [Exit.many]
      go_ret2
      refine ⟨?_, fun _ => ?_, HS2.out.below⟩
      · rw [HE.out]; rfl
      · rw [HE.out]; exact ⟨_, _, _, _, HS2.out⟩
    · have bm1 := beq_no7 hm1
      have HM1 : Aside (sgc L s p ≠ -1) := by show _ ≠ _; rw [HC.out]; exact hm1
      have HLQ : Aside (p < sgb L s p) := HLp.out HM1.out
      by_cases hbg : c = 63 ∨ c = 91 ∨ c = -2
      · rw [decide_eq_true hbg] at cB
        have HBG : Aside (sgc L s p = 63 ∨ sgc L s p = 91 ∨ sgc L s p = -2) := by show _ ∨ _; rw [HC.out]; exact hbg
        by_cases h32 : acc.length = 32
        · have HE : Aside (R = (p, 34, [])) := by
            show _ = _
            rw [← HQ.out.2.2.2.2.1, prs_long HM1.out HBG.out h32]
          rw [h32] at k6
          clear hbg h32
          go_wp2_with (go_at_call 53; refine cB.mono ?_; rintro e w' ⟨rfl, hw⟩; obtain rfl := hw.symm)
          simp only [Exit.many]
          go_ret2
          refine ⟨?_, fun h => ?_, HS2.out.below⟩
          · rw [HE.out]; rfl
          · rw [HE.out] at h
            exact absurd h (show ¬ (34 : Int) = 0 by decide)
        · have h32b : ((acc.length : Int) == 32) = false := beq_no7 (by omega)
          have HEL : Aside (thenP L s all f p acc (elem L s all f p) = R) := by
            show _ = _
            rw [← HQ.out.2.2.2.2.1, prs_el HM1.out HBG.out h32]
          have HAC : Aside (acc.length < 32) := by show _ < _; omega
          clear h32 bm1 hm1
          rcases hbg with h63 | h91 | hlt
          · have HEQ : Aside (prs L s all f (sgb L s p) (acc ++ [all]) = R) := by
              have := HEL.out
              rw [elem_q (HC.out.trans h63)] at this
              exact this
            subst h63
            go_wp2_with (go_at_call 53; refine cB.mono ?_; rintro e w' ⟨rfl, hw⟩; obtain rfl := hw.symm)
            go_step3
            show J _ _ _
            rw [← HJ.out]
            obtain ⟨u', hu'⟩ := Fr7.of b _ _ _ _ _ _ _ _ _ _ _ _ _ _ _ _ _ _ _ _ _ _ _ _ _ _ _ _ _ _ _ _ _ _ _ _ _ _ _ _ _ _ _ _ _ _ _ _ _ _ _ _ _ _ _ _ _ _ _ _ _ _ _ _ _ _ _ _ _ _ _ _ _ _ _ _ _ _ _ _ _ _ _ _ _ _ _ _ _ _ _ _ _ _ _ _ _ _
            refine ⟨⟨u', _, _, _, hu', f, sgb L s p, all, acc, _, _, _, rfl, HAL.out, HQ.out.2.2.2.2.2.2.2, ?_, HAC.out, HQ.out.2.2.2.1, HS2.out, HEQ.out⟩, ?_⟩
            · have := HQ.out; have := HLQ.out; omega
            · show 4 * (s.size - rdN w2 b 5) + 1 < m0
              rw [HS2.out.bh]
              have := HQ.out
              have := HLQ.out
              omega
          · subst h91
            have cN2 := HN.out (sgb L s p) HQ.out.2.2.2.2.2.2.2 w2 acc _ _ _ HS2.out
            clear k3
            go_wp2_with (first | (go_at_call 53; refine cB.mono ?_; rintro e w' ⟨rfl, hw⟩; obtain rfl := hw.symm) | fail)
            refine cN2.mono ?_
            rintro e w3 ⟨rfl, z4, hz4, hSt3⟩
            have HS3 : Aside (St7 W0 w3 b pa s acc (.int .i32 (sgc L s (sgb L s p))) z4 (.int .i64 (sgb L s p : Nat)) (.int .i64 (sgb L s (sgb L s p) : Nat))) := hSt3
            have HZ4 : Aside (sgc L s (sgb L s p) = -2 → z4 = .int .i64 (sgn L s (sgb L s p) : Nat)) := hz4
            have HL2 : Aside (sgb L s p ≤ sgb L s (sgb L s p) ∧ sgb L s (sgb L s p) ≤ s.size) := HLE.out _ HQ.out.2.2.2.2.2.2.2
            have HLT2 : Aside (sgc L s (sgb L s p) ≠ -1 → sgb L s p < sgb L s (sgb L s p)) := HLT.out _
            obtain ⟨v6, hS3, _⟩ := hSt3.box
            have j2 := hS3.c2
            clear cN2 hz4 hSt3 hS3 k2 k4 k6 cB
            by_cases h94 : sgc L s (sgb L s p) = 94
            · have HEQ : Aside (thenP L s all f p acc (wth true all (brk L s f (sgb L s (sgb L s p)) 0)) = R) := by
                show _ = _
                rw [← HEL.out, elem_o HC.out h94]
              have HG : Aside (sgb L s p < sgb L s (sgb L s p)) := HLT2.out (by rw [h94]; decide)
              rw [h94] at j2
              have cN3 := HN.out (sgb L s (sgb L s p)) HL2.out.2 w3 acc _ _ _ HS3.out
              clear h94
              go_wp2_with fail
              refine cN3.mono ?_
              rintro e w4 ⟨rfl, z5, hz5, hSt4⟩
              have HS4 : Aside (St7 W0 w4 b pa s acc (.int .i32 (sgc L s (sgb L s (sgb L s p)))) z5 (.int .i64 (sgb L s (sgb L s p) : Nat)) (.int .i64 (sgb L s (sgb L s (sgb L s p)) : Nat))) := hSt4
              have HZ5 : Aside (sgc L s (sgb L s (sgb L s p)) = -2 → z5 = .int .i64 (sgn L s (sgb L s (sgb L s p)) : Nat)) := hz5
              have HL3 : Aside (sgb L s (sgb L s p) ≤ sgb L s (sgb L s (sgb L s p)) ∧ sgb L s (sgb L s (sgb L s p)) ≤ s.size) := HLE.out _ HL2.out.2
              clear cN3 hz5 hSt4 j2
              go_wp2
              go_step3
              rename_i K hK
              refine hK _ _ ?_
              obtain ⟨u', hu'⟩ := Fr7.of b _ _ _ _ _ _ _ _ _ _ _ _ _ _ _ _ _ _ _ _ _ _ _ _ _ _ _ _ _ _ _ _ _ _ _ _ _ _ _ _ _ _ _ _ _ _ _ _ _ _ _ _ _ _ _ _ _ _ _ _ _ _ _ _ _ _ _ _ _ _ _ _ _ _ _ _ _ _ _ _ _ _ _ _ _ _ _ _ _ _ _ _ _ _ _ _ _ _
              refine wp_many_weaken ?_ (HP3.out _ _ ⟨u', _, _, _, hu', f, f, p, sgb L s (sgb L s p), 0, true, acc, z5, rfl, rfl, rfl, by decide, HL2.out.2, ?_, ?_, HAC.out, HQ.out.2.2.2.1, HZ5.out, HS4.out, HEQ.out⟩)
              · intro l a' w' h
                rw [← HJ.out]
                refine ⟨h.1, Nat.lt_of_lt_of_le h.2 ?_⟩
                show 4 * (s.size - rdN w4 b 5) + 1 ≤ m0
                rw [HS4.out.bh]
                have := HQ.out
                have := HLQ.out
                have := HL3.out
                have := HL2.out
                have := HG.out
                omega
              · have := HQ.out; have := HLQ.out; have := HG.out; omega
              · have := HQ.out; have := HLQ.out; have := HG.out; omega
            · have HEQ : Aside (thenP L s all f p acc (wth false all (brk L s f (sgb L s p) 0)) = R) := by
                show _ = _
                rw [← HEL.out, elem_b HC.out h94]
              have b94 := beq_no7 h94
              go_wp2
              go_step3
              rename_i K hK
              refine hK _ _ ?_
              obtain ⟨u', hu'⟩ := Fr7.of b _ _ _ _ _ _ _ _ _ _ _ _ _ _ _ _ _ _ _ _ _ _ _ _ _ _ _ _ _ _ _ _ _ _ _ _ _ _ _ _ _ _ _ _ _ _ _ _ _ _ _ _ _ _ _ _ _ _ _ _ _ _ _ _ _ _ _ _ _ _ _ _ _ _ _ _ _ _ _ _ _ _ _ _ _ _ _ _ _ _ _ _ _ _ _ _ _ _
              refine wp_many_weaken ?_ (HP3.out _ _ ⟨u', _, _, _, hu', f, f, p, sgb L s p, 0, false, acc, z4, rfl, rfl, rfl, by decide, HQ.out.2.2.2.2.2.2.2, ?_, ?_, HAC.out, HQ.out.2.2.2.1, HZ4.out, HS3.out, HEQ.out⟩)
              · intro l a' w' h
                rw [← HJ.out]
                refine ⟨h.1, Nat.lt_of_lt_of_le h.2 ?_⟩
                show 4 * (s.size - rdN w3 b 5) + 1 ≤ m0
                rw [HS3.out.bh]
                have := HQ.out
                have := HLQ.out
                have := HL2.out
                omega
              · have := HQ.out; have := HLQ.out; omega
              · have := HQ.out; have := HLQ.out; omega
          · have hz : z3 = .int .i64 (sgn L s p : Nat) := HZ.out (HC.out.trans hlt)
            have HEQ : Aside (prs L s all f (sgb L s p) (acc ++ [oneN (sgn L s p)]) = R) := by
              have := HEL.out
              rw [elem_l (HC.out.trans hlt)] at this
              exact this
            subst hlt
            rw [hz] at k3 HS2
            have cO : Calls Tryd.prog 54 #[.slice (some ⟨w2.heap.size, 0, none⟩) 1 1] (w2.alloc (.cells #[.int .i64 (sgn L s p : Nat)] 3)) fun e w' => e = .returned (.int .u64 (oneN (sgn L s p) : Nat)) ∧ w' = w2.alloc (.cells #[.int .i64 (sgn L s p : Nat)] 3) := Msk.of_any [(sgn L s p : Int)] _ 1 _ (by simp) (reads_one7 w2 _ 3)
            have HS3 : Aside (St7 W0 (w2.alloc (.cells #[.int .i64 (sgn L s p : Nat)] 3)) b pa s acc (.int .i32 (sgc L s p)) (.int .i64 (sgn L s p : Nat)) (.int .i64 (p : Nat)) (.int .i64 (sgb L s p : Nat))) := HS2.out.keep (below_box' _ _)
            have HON : Aside (oneN (sgn L s p) < 18446744073709551616) := oneN_lt _
            clear hz
            generalize oneN (sgn L s p) = on at *
            generalize sgn L s p = sn at *
            go_wp2_with (first | (go_at_call 53; refine cB.mono ?_; rintro e w' ⟨rfl, hw⟩; obtain rfl := hw.symm) | (go_at_call 54; refine cO.mono ?_; rintro e w' ⟨rfl, hw⟩; obtain rfl := hw.symm))
            go_step3
            show J _ _ _
            rw [← HJ.out]
            obtain ⟨u', hu'⟩ := Fr7.of b _ _ _ _ _ _ _ _ _ _ _ _ _ _ _ _ _ _ _ _ _ _ _ _ _ _ _ _ _ _ _ _ _ _ _ _ _ _ _ _ _ _ _ _ _ _ _ _ _ _ _ _ _ _ _ _ _ _ _ _ _ _ _ _ _ _ _ _ _ _ _ _ _ _ _ _ _ _ _ _ _ _ _ _ _ _ _ _ _ _ _ _ _ _ _ _ _ _
            refine ⟨⟨u', _, _, _, hu', f, sgb L s p, on, acc, _, _, _, rfl, HON.out, HQ.out.2.2.2.2.2.2.2, ?_, HAC.out, HQ.out.2.2.2.1, HS3.out, HEQ.out⟩, ?_⟩
            · have := HQ.out; have := HLQ.out; omega
            · show 4 * (s.size - rdN (w2.alloc (.cells #[.int .i64 (sn : Nat)] 3)) b 5) + 1 < m0
              rw [HS3.out.bh]
              have := HQ.out
              have := HLQ.out
              omega
      · rw [decide_eq_false hbg] at cB
        have HE : Aside (R = (p, 100, [])) := by
          show _ = _
          rw [← HQ.out.2.2.2.2.1, prs_no HM1.out (by rw [HC.out]; exact hbg)]
        clear hbg
        go_wp2_with (go_at_call 53; refine cB.mono ?_; rintro e w' ⟨rfl, hw⟩; obtain rfl := hw.symm)
        go_step3
        show J _ _ _
        rw [← HJ.out]
        obtain ⟨u', hu'⟩ := Fr7.of b _ _ _ _ _ _ _ _ _ _ _ _ _ _ _ _ _ _ _ _ _ _ _ _ _ _ _ _ _ _ _ _ _ _ _ _ _ _ _ _ _ _ _ _ _ _ _ _ _ _ _ _ _ _ _ _ _ _ _ _ _ _ _ _ _ _ _ _ _ _ _ _ _ _ _ _ _ _ _ _ _ _ _ _ _ _ _ _ _ _ _ _ _ _ _ _ _ _
        refine ⟨⟨u', _, _, _, hu', p, acc, _, _, _, _, rfl, HS2.out, HE.out⟩, ?_⟩
        show 4 * (s.size - rdN w2 b 5) + 0 < m0
        rw [HS2.out.bh]
        have := HQ.out
        have := HLQ.out
        omega
  case p3 =>
    rintro a wq ⟨u, x5, x6, x7, rfl, f0, f, p, q, said, io, acc, y3, rfl, rfl, rfl, hsd, hq, hf, hf0, hal, hlow, hy, hSt, hE⟩
    unfold fr98
    generalize hmm : mu7 s b 3 _ wq = m0
    generalize hJ : (fun (l' : Nat) (a' : Act) (w' : World) => At7 W0 b pa L s all R l' a' w' ∧ mu7 s b l' a' w' < m0) = J
    unfold mu7 rank7 at hmm
    rw [hSt.bh] at hmm
    have HJ : Aside ((fun (l' : Nat) (a' : Act) (w' : World) => At7 W0 b pa L s all R l' a' w' ∧ mu7 s b l' a' w' < m0) = J) := hJ
    obtain ⟨f', rfl⟩ : ∃ f', f = f' + 1 := ⟨f - 1, by omega⟩
    have HQ : Aside (q ≤ s.size ∧ s.size < q + (f' + 1) ∧ s.size < q + f0 ∧ acc.length < 32 ∧ Low acc ∧ thenP L s all f0 p acc (wth io all (brk L s (f' + 1) q said)) = R ∧ 4 * (s.size - sgb L s q) + 1 = m0 ∧ q ≤ sgb L s q ∧ sgb L s q ≤ s.size ∧ said < 18446744073709551616) := ⟨hq, hf, hf0, hal, hlow, hE, hmm, (HLE.out q hq).1, (HLE.out q hq).2, hsd⟩
    obtain ⟨v6, hS, _⟩ := hSt.box
    have k2 := hS.c2
    have k3 := hS.c3
    have HS : Aside (St7 W0 wq b pa s acc (.int .i32 (sgc L s q)) y3 (.int .i64 (q : Nat)) (.int .i64 (sgb L s q : Nat))) := hSt
    clear hSt hE hq hf hf0 hal hlow hmm hJ hS HR H0
    by_cases hl : sgc L s q = -2
    · have hz : y3 = .int .i64 (sgn L s q : Nat) := hy hl
      subst hz
      have HLTq : Aside (q < sgb L s q) := HLT.out q (by rw [hl]; decide)
      have cO : Calls Tryd.prog 54 #[.slice (some ⟨wq.heap.size, 0, none⟩) 1 1] (wq.alloc (.cells #[.int .i64 (sgn L s q : Nat)] 3)) fun e w' => e = .returned (.int .u64 (oneN (sgn L s q) : Nat)) ∧ w' = wq.alloc (.cells #[.int .i64 (sgn L s q : Nat)] 3) := Msk.of_any [(sgn L s q : Int)] _ 1 _ (by simp) (reads_one7 wq _ 3)
      have cN := HN.out (sgb L s q) HQ.out.2.2.2.2.2.2.2.2.1 _ acc _ _ _ (HS.out.keep (below_box' wq (.cells #[.int .i64 (sgn L s q : Nat)] 3)))
      have HL : Aside (sgc L s q = -2) := hl
      have hor := bits_or_u64_nat said (oneN (sgn L s q)) hsd (oneN_lt _)
      have HSD : Aside (said ||| oneN (sgn L s q) < 18446744073709551616) := or_lt hsd (oneN_lt _)
      have HSL : Aside (∀ x, said ||| oneN (sgn L s q) = x → said ||| oneN (sgn L s q) = x) := fun _ h => h
      have hll : (sgc L s q != -2) = false := by rw [hl]; rfl
      rw [hl] at k2
      clear hl hy
      obtain ⟨sd, hsde⟩ : ∃ sd, said ||| oneN (sgn L s q) = sd := ⟨_, rfl⟩
      have HSE : Aside (said ||| oneN (sgn L s q) = sd) := hsde
      rw [hsde] at hor HSD
      clear hsde HSL hll
      generalize hon : oneN (sgn L s q) = on at *
      have HON : Aside (oneN (sgn L s q) = on) := hon
      clear hon
      generalize hsn : sgn L s q = sn at *
      have HSN : Aside (sgn L s q = sn) := hsn
      clear hsn
      go_wp2_with (go_at_call 54; refine cO.mono ?_; rintro e w' ⟨rfl, hw⟩; obtain rfl := hw.symm)
      refine cN.mono ?_
      rintro e w3 ⟨rfl, z4, hz4, hSt3⟩
      have HS3 : Aside (St7 W0 w3 b pa s acc (.int .i32 (sgc L s (sgb L s q))) z4 (.int .i64 (sgb L s q : Nat)) (.int .i64 (sgb L s (sgb L s q) : Nat))) := hSt3
      have HL2 : Aside (sgb L s q ≤ sgb L s (sgb L s q) ∧ sgb L s (sgb L s q) ≤ s.size) := HLE.out _ HQ.out.2.2.2.2.2.2.2.2.1
      have HLT2 : Aside (sgc L s (sgb L s q) ≠ -1 → sgb L s q < sgb L s (sgb L s q)) := HLT.out _
      obtain ⟨v6, hS3, _⟩ := hSt3.box
      have j2 := hS3.c2
      clear cN hz4 hSt3 hS3 k2 k3 cO
      by_cases h44 : sgc L s (sgb L s q) = 44
      · have HG : Aside (sgb L s q < sgb L s (sgb L s q)) := HLT2.out (by rw [h44]; decide)
        have HEQ : Aside (thenP L s all f0 p acc (wth io all (brk L s f' (sgb L s (sgb L s q)) sd)) = R) := by
          show _ = _
          rw [← HQ.out.2.2.2.2.2.1, brk_c HL.out h44, HSN.out, HON.out, HSE.out]
        rw [h44] at j2
        have cN3 := HN.out (sgb L s (sgb L s q)) HL2.out.2 w3 acc _ _ _ HS3.out
        clear h44
        go_wp2_with fail
        refine cN3.mono ?_
        rintro e w4 ⟨rfl, z5, hz5, hSt4⟩
        have HS4 : Aside (St7 W0 w4 b pa s acc (.int .i32 (sgc L s (sgb L s (sgb L s q)))) z5 (.int .i64 (sgb L s (sgb L s q) : Nat)) (.int .i64 (sgb L s (sgb L s (sgb L s q)) : Nat))) := hSt4
        have HZ5 : Aside (sgc L s (sgb L s (sgb L s q)) = -2 → z5 = .int .i64 (sgn L s (sgb L s (sgb L s q)) : Nat)) := hz5
        have HL3 : Aside (sgb L s (sgb L s q) ≤ sgb L s (sgb L s (sgb L s q)) ∧ sgb L s (sgb L s (sgb L s q)) ≤ s.size) := HLE.out _ HL2.out.2
        clear cN3 hz5 hSt4 j2
        go_wp2
        go_step3
        show J _ _ _
        rw [← HJ.out]
        obtain ⟨u', hu'⟩ := Fr7.of b _ _ _ _ _ _ _ _ _ _ _ _ _ _ _ _ _ _ _ _ _ _ _ _ _ _ _ _ _ _ _ _ _ _ _ _ _ _ _ _ _ _ _ _ _ _ _ _ _ _ _ _ _ _ _ _ _ _ _ _ _ _ _ _ _ _ _ _ _ _ _ _ _ _ _ _ _ _ _ _ _ _ _ _ _ _ _ _ _ _ _ _ _ _ _ _ _ _
        refine ⟨⟨u', _, _, _, hu', f0, f', p, sgb L s (sgb L s q), sd, io, acc, z5, rfl, rfl, rfl, HSD.out, HL2.out.2, ?_, ?_, HQ.out.2.2.2.1, HQ.out.2.2.2.2.1, HZ5.out, HS4.out, HEQ.out⟩, ?_⟩
        · have := HQ.out; have := HG.out; omega
        · have := HQ.out; have := HG.out; omega
        · show 4 * (s.size - rdN w4 b 5) + 1 < m0
          rw [HS4.out.bh]
          have := HQ.out
          have := HG.out
          have := HL3.out
          have := HL2.out
          omega
      · by_cases h93 : sgc L s (sgb L s q) = 93
        · have HG : Aside (sgb L s q < sgb L s (sgb L s q)) := HLT2.out (by rw [h93]; decide)
          have HBK : Aside (brk L s (f' + 1) q said = some (sd, sgb L s (sgb L s q))) := by
            show _ = _
            rw [brk_s HL.out h93, HSN.out, HON.out, HSE.out]
          rw [h93] at j2
          clear h93 h44
          cases io with
          | true =>
            have HEQ : Aside (prs L s all f0 (sgb L s (sgb L s q)) (acc ++ [notN all sd]) = R) := by
              have := HQ.out.2.2.2.2.2.1
              rw [HBK.out] at this
              exact this
            have han := andNot_nat all sd HAL.out HSD.out
            have HNL : Aside (notN all sd < 18446744073709551616) := notN_lt HAL.out
            generalize notN all sd = nt at *
            go_wp2
            go_step3
            show J _ _ _
            rw [← HJ.out]
            obtain ⟨u', hu'⟩ := Fr7.of b _ _ _ _ _ _ _ _ _ _ _ _ _ _ _ _ _ _ _ _ _ _ _ _ _ _ _ _ _ _ _ _ _ _ _ _ _ _ _ _ _ _ _ _ _ _ _ _ _ _ _ _ _ _ _ _ _ _ _ _ _ _ _ _ _ _ _ _ _ _ _ _ _ _ _ _ _ _ _ _ _ _ _ _ _ _ _ _ _ _ _ _ _ _ _ _ _ _
            refine ⟨⟨u', _, _, _, hu', f0, sgb L s (sgb L s q), nt, acc, _, _, _, rfl, HNL.out, HL2.out.2, ?_, HQ.out.2.2.2.1, HQ.out.2.2.2.2.1, HS3.out, HEQ.out⟩, ?_⟩
            · have := HQ.out; have := HG.out; omega
            · show 4 * (s.size - rdN w3 b 5) + 1 < m0
              rw [HS3.out.bh]
              have := HQ.out
              have := HG.out
              have := HL2.out
              omega
          | false =>
            have HEQ : Aside (prs L s all f0 (sgb L s (sgb L s q)) (acc ++ [sd]) = R) := by
              have := HQ.out.2.2.2.2.2.1
              rw [HBK.out] at this
              exact this
            go_wp2
            go_step3
            show J _ _ _
            rw [← HJ.out]
            obtain ⟨u', hu'⟩ := Fr7.of b _ _ _ _ _ _ _ _ _ _ _ _ _ _ _ _ _ _ _ _ _ _ _ _ _ _ _ _ _ _ _ _ _ _ _ _ _ _ _ _ _ _ _ _ _ _ _ _ _ _ _ _ _ _ _ _ _ _ _ _ _ _ _ _ _ _ _ _ _ _ _ _ _ _ _ _ _ _ _ _ _ _ _ _ _ _ _ _ _ _ _ _ _ _ _ _ _ _
            refine ⟨⟨u', _, _, _, hu', f0, sgb L s (sgb L s q), sd, acc, _, _, _, rfl, HSD.out, HL2.out.2, ?_, HQ.out.2.2.2.1, HQ.out.2.2.2.2.1, HS3.out, HEQ.out⟩, ?_⟩
            · have := HQ.out; have := HG.out; omega
            · show 4 * (s.size - rdN w3 b 5) + 1 < m0
              rw [HS3.out.bh]
              have := HQ.out
              have := HG.out
              have := HL2.out
              omega
        · have HE : Aside (R = (p, 100, [])) := by
            have := HQ.out.2.2.2.2.2.1
            rw [brk_x h44 h93] at this
            exact this.symm
          have b44 := beq_no7 h44
          have b93 := beq_no7 h93
          generalize sgc L s (sgb L s q) = c1 at *
          clear h44 h93
          go_wp2
          go_step3
          show J _ _ _
          rw [← HJ.out]
          obtain ⟨u', hu'⟩ := Fr7.of b _ _ _ _ _ _ _ _ _ _ _ _ _ _ _ _ _ _ _ _ _ _ _ _ _ _ _ _ _ _ _ _ _ _ _ _ _ _ _ _ _ _ _ _ _ _ _ _ _ _ _ _ _ _ _ _ _ _ _ _ _ _ _ _ _ _ _ _ _ _ _ _ _ _ _ _ _ _ _ _ _ _ _ _ _ _ _ _ _ _ _ _ _ _ _ _ _ _
          refine ⟨⟨u', _, _, _, hu', p, acc, _, _, _, _, rfl, HS3.out, HE.out⟩, ?_⟩
          show 4 * (s.size - rdN w3 b 5) + 0 < m0
          rw [HS3.out.bh]
          have := HQ.out
          have := HL2.out
          omega
    · have HE : Aside (R = (p, 100, [])) := by
        have := HQ.out.2.2.2.2.2.1
        rw [brk_no hl] at this
        exact this.symm
      have bl : (sgc L s q != -2) = true := by rw [bne_iff_ne]; exact hl
      generalize sgc L s q = c1 at *
      clear hl hy
      go_wp2
      go_step3
      show J _ _ _
      rw [← HJ.out]
      obtain ⟨u', hu'⟩ := Fr7.of b _ _ _ _ _ _ _ _ _ _ _ _ _ _ _ _ _ _ _ _ _ _ _ _ _ _ _ _ _ _ _ _ _ _ _ _ _ _ _ _ _ _ _ _ _ _ _ _ _ _ _ _ _ _ _ _ _ _ _ _ _ _ _ _ _ _ _ _ _ _ _ _ _ _ _ _ _ _ _ _ _ _ _ _ _ _ _ _ _ _ _ _ _ _ _ _ _ _
      refine ⟨⟨u', _, _, _, hu', p, acc, _, _, _, _, rfl, HS.out, HE.out⟩, ?_⟩
      show 4 * (s.size - rdN wq b 5) + 0 < m0
      rw [HS.out.bh]
      have := HQ.out
      omega
end Go.Proofs.YtcocbjipikeebaaDoor.Pts
/-
  The program's Parse, for every text: what the scanner has read.
-/
namespace Go.Proofs.YtcocbjipikeebaaDoor.Pts
open Go Go.Lib Go.RowKit Utf

theorem row_low7 {W : World} {B B' n sz : Nat} {e : TypeId} {v : Value} {l : List Value} (h : W.ownsRow B e sz v n l) (hb : B' ≤ B) : W.ownsRow B' e sz v n l := by
  rcases h with ⟨h1, h2 | ⟨g, cap, cur, e1, e2, e3⟩⟩
  · exact ⟨h1, .inl h2⟩
  · exact ⟨h1, .inr ⟨g, cap, cur, e1, Nat.le_trans hb e2, e3⟩⟩
/-- What Parse answers. -/
def patT (L : List ByteArray) (s : ByteArray) : Nat × Int × List Nat := prs L s (Msk.fullN (L.length : Int)) (s.size + 1) 0 []
def ParseQ (W : World) (R : Nat × Int × List Nat) (e : Ending) (w' : World) : Prop := ((R.2.1 ≠ 0 ∧ e = .returned (.tuple #[.slice none 0 0, .int .i64 (R.1 : Nat), .int .i64 R.2.1])) ∨ (R.2.1 = 0 ∧ ∃ v, e = .returned (.tuple #[v, .int .i64 0, .int .i64 0]) ∧ w'.ownsRow W.heap.size 39 1 v R.2.2.length (msks R.2.2))) ∧ Below W.heap.size W w'

set_option maxRecDepth 100000 in
set_option maxHeartbeats 4000000 in
theorem parseP_any {W : World} {pa : Option Addr} {L : List ByteArray} (hA : AlphaP W pa L) (hT : Lib.Utf8Tabs 1 2 W) (hNd : L.Nodup) (hL1 : ∀ x ∈ L, 1 ≤ x.size) (s : ByteArray) (hs : s.size ≤ 140737488355328) :
    Calls Tryd.prog 11 #[.pointer pa, .string s] W (ParseQ W (patT L s)) := by
  have hB := below_box' W (.cells #[.pointer pa, .string s, .int .i32 0, .int .i64 0, .int .i64 0, .int .i64 0, .slice none 0 0] 69)
  have hS : S7 (W.alloc (.cells #[.pointer pa, .string s, .int .i32 0, .int .i64 0, .int .i64 0, .int .i64 0, .slice none 0 0] 69)) W.heap.size (.pointer pa) (.string s) (.int .i32 0) (.int .i64 0) (.int .i64 0) (.int .i64 0) (.slice none 0 0) := ⟨heap_box W _⟩
  have cS := scan7_any hA hT hNd hL1 s hs _ _ _ _ (⟨⟨_, hS, World.ownsRow_nil _ _ _ _⟩, hB⟩ : St7 W _ W.heap.size pa s [] (.int .i32 0) (.int .i64 0) (.int .i64 0) (.int .i64 ((0 : Nat) : Int)))
  rw [show prs L s (Msk.fullN (L.length : Int)) (s.size + 1) 0 [] = patT L s from rfl] at cS
  generalize patT L s = R at *
  clear hA hT hNd hL1 hB hS
  go_enter Tryd.func11, Tryd.ntmps11
  go_wp2_with fail
  refine cS.mono ?_
  rintro e w2 ⟨rfl, hok, hb⟩
  obtain ⟨R1, R2, R3⟩ := R
  simp only at hok ⊢
  by_cases h0 : R2 = 0
  · subst h0
    obtain ⟨y2, y3, y4, y5, hSt⟩ := hok rfl
    obtain ⟨v6, hS2, hrow⟩ := hSt.box
    have k6 := hS2.c6
    have HR : Aside (w2.ownsRow (W.heap.size + 1) 39 1 v6 R3.length (msks R3)) := hrow
    clear hok hSt hS2 hrow
    go_wp2
    go_ret3
    exact ⟨.inr ⟨rfl, _, rfl, row_low7 HR.out (Nat.le_succ _)⟩, hb⟩
  · have hn : (R2 != 0) = true := by rw [bne_iff_ne]; exact h0
    clear hok
    go_wp2
    go_ret3
    exact ⟨.inl ⟨h0, rfl⟩, hb⟩
theorem parse7_any {W : World} {al : Nat} {L : List ByteArray} {rk : List Nat} (hA : IsAlpha W al L rk) (hT : Lib.Utf8Tabs 1 2 W) (hNd : L.Nodup) (hL1 : ∀ x ∈ L, 1 ≤ x.size) (s : ByteArray) (hs : s.size ≤ 140737488355328) :
    Calls Tryd.prog 11 #[.pointer (some ⟨al, 0, none⟩), .string s] W (ParseQ W (patT L s)) := parseP_any (.inl ⟨al, rk, rfl, hA⟩) hT hNd hL1 s hs
end Go.Proofs.YtcocbjipikeebaaDoor.Pts
