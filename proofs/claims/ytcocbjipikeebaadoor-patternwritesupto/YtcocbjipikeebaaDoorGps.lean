/-
  Patterns: Match and Meet, the program's and the document's; the document's Same.
-/
import Derived.Test.YtcocbjipikeebaaDoorGms
import Derived.Test.YtcocbjipikeebaaDoorGxt
import Derived.Deep.RegionWith
import Derived.Test.YtcocbjipikeebaaDoorProg
import Derived.Test.YtcocbjipikeebaaDoorGutf
import Derived.WalkKit
import Derived.Lib.Walk
import Derived.Laws.RangeString
import Derived.Laws.RangeAny
import Derived.LoopTactic
import Derived.Test.YtcocbjipikeebaaDoorGxl
import Derived.Test.YtcocbjipikeebaaDoorUtfaq
namespace Go.Proofs.YtcocbjipikeebaaDoor.Utf
open Go Go.Lib Go.RowKit

/-- Masks as words of the program have them. -/
def msks (p : List Nat) : List Value := p.map fun m => .int .u64 ((m : Nat) : Int)
def Low (p : List Nat) : Prop := ∀ m ∈ p, m < 18446744073709551616
def hasB (m : Nat) (i : Int) : Bool := decide (0 ≤ i ∧ i < 64) && m.testBit i.toNat
def fitL : List Nat → List Int → Bool
  | [], [] => true
  | m :: p, i :: c => hasB m i && fitL p c
  | _, _ => false
def meetL (p q : List Nat) : List Nat := List.zipWith (· &&& ·) p q
theorem fitL_len : ∀ {p : List Nat} {c : List Int}, p.length ≠ c.length → fitL p c = false
  | [], [], h => absurd rfl h
  | [], _ :: _, _ => rfl
  | _ :: _, [], _ => rfl
  | m :: p, i :: c, h => by
    rw [fitL, fitL_len (p := p) (c := c) (fun e => h (by simp [e])), Bool.and_false]
theorem fitL_drop {p : List Nat} {c : List Int} {k : Nat} (hp : k < p.length) (hc : k < c.length) : fitL (p.drop k) (c.drop k) = (hasB p[k] c[k] && fitL (p.drop (k + 1)) (c.drop (k + 1))) := by
  rw [List.drop_eq_getElem_cons hp, List.drop_eq_getElem_cons hc, fitL]
theorem fitL_end {p : List Nat} {c : List Int} {k : Nat} (hp : p.length ≤ k) (hc : c.length ≤ k) : fitL (p.drop k) (c.drop k) = true := by
  rw [List.drop_eq_nil_of_le hp, List.drop_eq_nil_of_le hc]; rfl
theorem fitL_meet : ∀ {p q : List Nat} {c : List Int}, p.length = q.length → fitL (meetL p q) c = (fitL p c && fitL q c)
  | [], [], [], _ => rfl
  | [], [], _ :: _, _ => rfl
  | _ :: _, [], _, h => by simp at h
  | [], _ :: _, _, h => by simp at h
  | m :: p, n :: q, [], h => rfl
  | m :: p, n :: q, i :: c, h => by
    have ih := fitL_meet (p := p) (q := q) (c := c) (by simpa using h)
    show (hasB (m &&& n) i && fitL (meetL p q) c) = _
    rw [ih]
    show _ = ((hasB m i && fitL p c) && (hasB n i && fitL q c))
    have : hasB (m &&& n) i = (hasB m i && hasB n i) := by
      unfold hasB
      rw [Nat.testBit_and]
      cases decide (0 ≤ i ∧ i < 64) <;> cases m.testBit i.toNat <;> cases n.testBit i.toNat <;> rfl
    rw [this]
    cases hasB m i <;> cases hasB n i <;> cases fitL p c <;> cases fitL q c <;> rfl
theorem meetL_len {p q : List Nat} (h : p.length = q.length) : (meetL p q).length = p.length := by
  unfold meetL; rw [List.length_zipWith, h, Nat.min_self]
theorem meetL_low {p q : List Nat} (hp : Low p) : Low (meetL p q) := fun m hm => by
  unfold meetL at hm
  obtain ⟨i, hi, rfl⟩ := List.mem_iff_getElem.1 hm
  rw [List.getElem_zipWith]
  exact Nat.lt_of_le_of_lt Nat.and_le_left (hp _ (List.getElem_mem _))
theorem msks_len (p : List Nat) : (msks p).length = p.length := by simp [msks]
theorem msks_at {p : List Nat} {i : Nat} (h : i < p.length) : (msks p)[i]'(by rw [msks_len]; exact h) = .int .u64 ((p[i] : Nat) : Int) := by simp [msks]
theorem ints_at' {c : List Int} {i : Nat} (h : i < c.length) : (ints c)[i]'(by simpa [ints] using h) = .int .i64 c[i] := by simp [ints]

set_option maxRecDepth 100000 in
set_option maxHeartbeats 2000000 in
theorem match_any (p : List Nat) (hp : Low p) (c : List Int) (ap : Option Addr) (cp : Nat) (ac : Option Addr) (cc : Nat) (W : World) (hl : p.length ≤ 4611686018427387904) (hR : ReadsO W ap (msks p)) (hC : ReadsO W ac (ints c)) :
    Calls Tryd.prog 12 #[.slice ap p.length cp, .slice ac c.length cc] W fun e w' => e = .returned (.bool (fitL p c)) ∧ Below W.heap.size W w' := by
  by_cases hlen : p.length = c.length
  · have hne : ((p.length : Int) != (c.length : Int)) = false := by rw [bne_eq_false_iff_eq]; omega
    have HE : Aside (c.length = p.length) := hlen.symm
    obtain ⟨N, hN⟩ : ∃ N, p.length = N := ⟨_, rfl⟩
    have HN : Aside (p.length = N) := hN
    have HN2 : Aside (c.length = N) := by show _ = _; rw [← hlen, hN]
    rw [HN2.out, hN]
    rw [HN2.out, hN] at hne
    rw [hN] at hl
    obtain ⟨V, hV⟩ : ∃ V, fitL p c = V := ⟨_, rfl⟩
    have HV : Aside (fitL (p.drop 0) (c.drop 0) = V) := hV
    rw [hV]
    clear hN hlen HE hV
    have HR : Aside (∀ Z, Below W.heap.size W Z → ReadsO Z ap (msks p) ∧ ReadsO Z ac (ints c)) := fun Z hb => ⟨hR.below hb, hC.below hb⟩
    have HP : Aside (Low p) := hp
    clear hR hC hp
    go_enter Tryd.func12, Tryd.ntmps12
    go_wp2
    go_loopg [14] N (fun g1 vk wr => ∃ k : Nat, vk = .int .i64 (k : Int) ∧ k ≤ N ∧ N - k ≤ g1 ∧ Aside (fitL (p.drop k) (c.drop k) = V) ∧ Aside (Below W.heap.size W wr))
    case atStart => exact ⟨0, rfl, Nat.zero_le _, Nat.le_refl _, HV, Below.refl _ _⟩
    case round =>
      clear HV
      obtain ⟨k, rfl, hk, hg1, HV, HB⟩ := hrel
      by_cases hlt : k < N
      · have hltz : (k : Int) < (N : Int) := by omega
        have hkp : k < p.length := by rw [HN.out]; exact hlt
        have hkc : k < c.length := by rw [HN2.out]; exact hlt
        obtain ⟨gp, op, rfl, _, ep⟩ := (HR.out wr HB.out).1 k (by rw [msks_len]; exact hkp)
        obtain ⟨gc, oc, rfl, _, ec⟩ := (HR.out wr HB.out).2 k (by simpa [ints] using hkc)
        rw [msks_at hkp] at ep
        rw [ints_at' hkc] at ec
        have hm := HP.out _ (List.getElem_mem hkp)
        have HVk : Aside ((hasB p[k] c[k] && fitL (p.drop (k + 1)) (c.drop (k + 1))) = V) := by show _ = _; rw [← fitL_drop hkp hkc]; exact HV.out
        have cH := fun W => Msk.has_any p[k] c[k] W hm
        rw [show ∀ m i, (decide (0 ≤ i ∧ i < 64) && Nat.testBit m i.toNat) = hasB m i from fun _ _ => rfl] at cH
        clear HV hm
        generalize hb : hasB p[k] c[k] = b at *
        clear hb
        generalize p[k] = m at *
        generalize c[k] = i at *
        cases b with
        | true =>
          rw [Bool.true_and] at HVk
          go_wp2_with (go_at_call 32; refine (cH _).mono ?_; rintro e w' ⟨rfl, hw⟩; obtain rfl := hw.symm)
          go_roundg (N - (k + 1))
          case measure => omega
          case rel => exact ⟨k + 1, by go_num, by omega, Nat.le_refl _, HVk, by first | exact HB | exact Below.drew HB.out⟩
        | false =>
          rw [Bool.false_and] at HVk
          go_wp2_with (go_at_call 32; refine (cH _).mono ?_; rintro e w' ⟨rfl, hw⟩; obtain rfl := hw.symm)
          go_ret
          rw [← HVk.out]
          exact ⟨rfl, by first | exact HB.out | exact Below.drew HB.out⟩
      · have hltz : ¬ (k : Int) < (N : Int) := by omega
        have HVk : Aside (true = V) := by show _ = _; rw [← HV.out, fitL_end (by rw [HN.out]; omega) (by rw [HN2.out]; omega)]
        clear HV
        go_wp2
        go_ret
        rw [← HVk.out]
        exact ⟨rfl, HB.out⟩
  · have hne : ((p.length : Int) != (c.length : Int)) = true := by rw [bne_iff_ne]; omega
    rw [fitL_len hlen]
    clear hR hC
    go_enter Tryd.func12, Tryd.ntmps12
    go_wp2
    go_ret
    exact ⟨rfl, Below.refl _ _⟩

end Go.Proofs.YtcocbjipikeebaaDoor.Utf
/-
  The program's Cut: the bytes ahead of the place behind n runes, for every text and number.
-/
namespace Go.Proofs.YtcocbjipikeebaaDoor.Utf
open Go Go.Lib Go.RowKit

theorem extract_all (s : ByteArray) : s.extract 0 s.size = s := by
  apply ByteArray.ext
  rw [ByteArray.data_extract]
  exact Array.extract_size
theorem ret_b {a b : Bool} (h : a = b) : Ending.returned (.bool a) = .returned (.bool b) := by rw [h]
theorem ret_s {a b : ByteArray} (h : a = b) : Ending.returned (.string a) = .returned (.string b) := by rw [h]

set_option maxHeartbeats 1000000 in
theorem ucut_any (s : ByteArray) (n : Int) (w : World) (h0 : -9223372036854775808 ≤ n) (h1 : n ≤ 9223372036854775807) :
    Calls Tryd.prog 67 #[.string s, .int .i64 n] w fun e w' => e = .returned (.string (s.extract 0 (cutPos s n))) ∧ Below w.heap.size w w' := by
  go_enter Tryd.func67, Tryd.ntmps67
  go_wp2
  go_loopw [1] (fun v w' => ∃ (pos b : Nat) (m : Int), w' = w.iter s pos ∧ v = .int .i64 m ∧ Hid (cutFrom s b pos m = cutPos s n) ∧ s.size ≤ pos + b ∧ pos ≤ s.size ∧ -9223372036854775808 ≤ m ∧ m ≤ 9223372036854775807) (fun _ w' => s.size - w'.iterPos w.heap.size)
  case atStart => exact ⟨0, s.size, n, rfl, rfl, rfl, by omega, Nat.zero_le _, h0, h1⟩
  case round =>
    obtain ⟨pos, b, m, rfl, rfl, HC, hb, hps, hm0, hm1⟩ := hrel
    by_cases hp : pos < s.size
    · have hnx : ∀ ty, (Instr.next (.pointer (some ⟨w.heap.size, 0, none⟩)) true ty).run Tryd.prog (w.iter s pos) = _ := fun ty => run_next_any w s pos ty hp
      have hwd := decode_fits s pos hp
      obtain ⟨b, rfl⟩ : ∃ f', b = f' + 1 := ⟨b - 1, by omega⟩
      by_cases hm : m < 1
      · have HE : Hid (cutPos s n = pos) := HC.out.symm.trans (cutFrom_stop hp hm)
        clear HC
        go_wp2
        go_ret
        refine ⟨ret_s ?_, (Below.refl _ _).alloc (Nat.le_refl _) _⟩
        rw [HE.out]
      · have HE : Hid (cutFrom s b (pos + (Utf8.decode s pos).2) (m - 1) = cutPos s n) := (cutFrom_step hp hm).symm.trans HC.out
        clear HC
        go_wp2
        go_roundw
        case rel => exact ⟨_, b, m - 1, rfl, rfl, HE, by omega, by omega, by omega, by omega⟩
        case measure => simp; omega
    · have hnx : ∀ ty, (Instr.next (.pointer (some ⟨w.heap.size, 0, none⟩)) true ty).run Tryd.prog (w.iter s pos) = _ := fun ty => run_next_end w s pos ty hp
      have HE : Hid (cutPos s n = s.size) := HC.out.symm.trans (cutFrom_end hp)
      clear HC
      go_wp2
      go_ret
      refine ⟨ret_s ?_, (Below.refl _ _).alloc (Nat.le_refl _) _⟩
      rw [HE.out, extract_all]
end Go.Proofs.YtcocbjipikeebaaDoor.Utf
/-
  What a text says as a pattern: signs, brackets, elements.
-/
namespace Go.Proofs.YtcocbjipikeebaaDoor.Utf
open Go Go.Lib Go.RowKit

/-- A letter's number. -/
def lkp : List ByteArray → ByteArray → Option Nat
  | [], _ => none
  | x :: L, v => if x = v then some 0 else (lkp L v).map (· + 1)
theorem lkp_none : ∀ {L : List ByteArray} {v : ByteArray}, v ∉ L → lkp L v = none
  | [], _, _ => rfl
  | x :: L, v, h => by
    rw [lkp, if_neg (fun e => h (by rw [e]; exact List.mem_cons_self ..)), lkp_none (fun k => h (List.mem_cons_of_mem _ k))]
    rfl
theorem lkp_get : ∀ {L : List ByteArray} {v : ByteArray} {k : Nat}, lkp L v = some k → L[k]? = some v
  | [], _, _, h => by cases h
  | x :: L, v, k, h => by
    rw [lkp] at h
    by_cases e : x = v
    · rw [if_pos e] at h
      cases h
      rw [e]; rfl
    · rw [if_neg e] at h
      cases hl : lkp L v with
      | none => rw [hl] at h; cases h
      | some j =>
        rw [hl] at h
        cases h
        show L[j]? = some v
        exact lkp_get hl
theorem lkp_some : ∀ {L : List ByteArray} {v : ByteArray} {k : Nat}, L.Nodup → L[k]? = some v → lkp L v = some k
  | [], _, _, _, h => by cases h
  | x :: L, v, 0, _, h => by
    have : x = v := Option.some.inj h
    rw [lkp, if_pos this]
  | x :: L, v, k + 1, hn, h => by
    have h' : L[k]? = some v := h
    have hm : v ∈ L := List.mem_of_getElem? h'
    have hx : x ≠ v := fun e => (List.nodup_cons.1 hn).1 (e ▸ hm)
    rw [lkp, if_neg hx, lkp_some (List.nodup_cons.1 hn).2 h']
    rfl
theorem NumAt.lkp {L : List ByteArray} {v : ByteArray} {e : Ending} (h : NumAt L v e) (hn : L.Nodup) : (∃ k, lkp L v = some k ∧ e = .returned (.tuple #[.int .i64 (k : Nat), .bool true])) ∨ (Utf.lkp L v = none ∧ e = .returned (.tuple #[.int .i64 0, .bool false])) := by
  obtain ⟨k, t, he, h1, h2⟩ := h
  cases t with
  | true => exact .inl ⟨k, lkp_some hn (h2 rfl), he⟩
  | false =>
    obtain ⟨rfl, hm⟩ := h1 rfl
    exact .inr ⟨lkp_none hm, he⟩
/-- The first n runes at a place. -/
def nmS (s : ByteArray) (p n : Nat) : ByteArray := (s.extract p s.size).extract 0 (cutPos (s.extract p s.size) (n : Int))
theorem nmS_size (s : ByteArray) (p n : Nat) : (nmS s p n).size ≤ s.size - p := by
  unfold nmS
  rw [ByteArray.size_extract, ByteArray.size_extract]
  omega
/-- The longest letter of up to n runes at a place: its number, its width. -/
def sgF (L : List ByteArray) (s : ByteArray) (p : Nat) : Nat → Option (Nat × Nat)
  | 0 => none
  | n + 1 => match lkp L (nmS s p (n + 1)) with
    | some k => some (k, (nmS s p (n + 1)).size)
    | none => sgF L s p n
theorem sgF_fit {L : List ByteArray} (hL : ∀ x ∈ L, 1 ≤ x.size) (s : ByteArray) (p : Nat) : ∀ n k w, sgF L s p n = some (k, w) → 1 ≤ w ∧ w ≤ s.size - p
  | 0, _, _, h => by cases h
  | n + 1, k, w, h => by
    rw [sgF] at h
    cases hl : lkp L (nmS s p (n + 1)) with
    | none => rw [hl] at h; exact sgF_fit hL s p n k w h
    | some j =>
      rw [hl] at h
      have h' : some (j, (nmS s p (n + 1)).size) = some (k, w) := h
      simp only [Option.some.injEq, Prod.mk.injEq] at h'
      obtain ⟨rfl, rfl⟩ := h'
      exact ⟨hL _ (List.mem_of_getElem? (lkp_get hl)), nmS_size _ _ _⟩
/-- The sign at a place: -2 a letter, -1 none, else the rune; a letter's number; the place behind. -/
def sgc (L : List ByteArray) (s : ByteArray) (p : Nat) : Int := match sgF L s p 3 with
  | some _ => -2
  | none => if p < s.size then ((Utf8.decode s p).1 : Int) else -1
def sgn (L : List ByteArray) (s : ByteArray) (p : Nat) : Nat := match sgF L s p 3 with
  | some x => x.1
  | none => 0
def sgb (L : List ByteArray) (s : ByteArray) (p : Nat) : Nat := match sgF L s p 3 with
  | some x => p + x.2
  | none => if p < s.size then p + (Utf8.decode s p).2 else p
theorem sgb_le {L : List ByteArray} (hL : ∀ x ∈ L, 1 ≤ x.size) {s : ByteArray} {p : Nat} (hp : p ≤ s.size) : p ≤ sgb L s p ∧ sgb L s p ≤ s.size := by
  unfold sgb
  cases h : sgF L s p 3 with
  | some x =>
    have := sgF_fit hL s p 3 x.1 x.2 h
    simp only
    omega
  | none =>
    simp only
    by_cases hs : p < s.size
    · have := decode_fits s p hs
      rw [if_pos hs]; omega
    · rw [if_neg hs]; omega
theorem sgb_lt {L : List ByteArray} (hL : ∀ x ∈ L, 1 ≤ x.size) {s : ByteArray} {p : Nat} (h1 : sgc L s p ≠ -1) : p < sgb L s p := by
  unfold sgc at h1
  unfold sgb
  cases h : sgF L s p 3 with
  | some x =>
    have := sgF_fit hL s p 3 x.1 x.2 h
    simp only
    omega
  | none =>
    rw [h] at h1
    simp only at h1 ⊢
    by_cases hs : p < s.size
    · have := decode_fits s p hs
      rw [if_pos hs]; omega
    · rw [if_neg hs] at h1
      exact absurd rfl h1
def oneN (k : Nat) : Nat := Msk.ofL [(k : Int)]
theorem oneN_lt (k : Nat) : oneN k < 18446744073709551616 := Msk.ofL_lt _
/-- The letters of all that are not said. -/
def notN (all m : Nat) : Nat := all &&& (18446744073709551615 - m)
theorem notN_lt {all m : Nat} (h : all < 18446744073709551616) : notN all m < 18446744073709551616 := Nat.lt_of_le_of_lt Nat.and_le_left h
theorem or_lt {a b : Nat} (ha : a < 18446744073709551616) (hb : b < 18446744073709551616) : a ||| b < 18446744073709551616 := Nat.or_lt_two_pow (n := 64) ha hb
/-- What stands in brackets from a letter on: the letters, and the place behind. -/
def brk (L : List ByteArray) (s : ByteArray) : Nat → Nat → Nat → Option (Nat × Nat)
  | 0, _, _ => none
  | f + 1, p, said => if sgc L s p = -2 then
      (if sgc L s (sgb L s p) = 44 then brk L s f (sgb L s (sgb L s p)) (said ||| oneN (sgn L s p))
       else if sgc L s (sgb L s p) = 93 then some (said ||| oneN (sgn L s p), sgb L s (sgb L s p)) else none)
    else none
def wth (io : Bool) (all : Nat) (x : Option (Nat × Nat)) : Option (Nat × Nat) := x.map fun y => (if io then notN all y.1 else y.1, y.2)
/-- An element at a place: its letters, and the place behind. -/
def elem (L : List ByteArray) (s : ByteArray) (all f p : Nat) : Option (Nat × Nat) :=
  if sgc L s p = 63 then some (all, sgb L s p)
  else if sgc L s p = -2 then some (oneN (sgn L s p), sgb L s p)
  else if sgc L s p = 91 then
    (if sgc L s (sgb L s p) = 94 then wth true all (brk L s f (sgb L s (sgb L s p)) 0) else wth false all (brk L s f (sgb L s p) 0))
  else none
/-- What a text says: where and what is wrong; the masks. -/
def prs (L : List ByteArray) (s : ByteArray) (all : Nat) : Nat → Nat → List Nat → Nat × Int × List Nat
  | 0, _, _ => (0, 0, [])
  | f + 1, p, acc => if sgc L s p = -1 then (0, 0, acc)
    else if ¬ (sgc L s p = 63 ∨ sgc L s p = 91 ∨ sgc L s p = -2) then (p, 100, [])
    else if acc.length = 32 then (p, 34, [])
    else match elem L s all f p with
      | none => (p, 100, [])
      | some (m, q) => prs L s all f q (acc ++ [m])
/-- What follows an element's letters. -/
def thenP (L : List ByteArray) (s : ByteArray) (all f p : Nat) (acc : List Nat) (x : Option (Nat × Nat)) : Nat × Int × List Nat := match x with
  | none => (p, 100, [])
  | some (m, q) => prs L s all f q (acc ++ [m])
theorem prs_end {L : List ByteArray} {s : ByteArray} {all f p : Nat} {acc : List Nat} (h : sgc L s p = -1) : prs L s all (f + 1) p acc = (0, 0, acc) := by rw [prs, if_pos h]
theorem prs_no {L : List ByteArray} {s : ByteArray} {all f p : Nat} {acc : List Nat} (h : sgc L s p ≠ -1) (h2 : ¬ (sgc L s p = 63 ∨ sgc L s p = 91 ∨ sgc L s p = -2)) : prs L s all (f + 1) p acc = (p, 100, []) := by rw [prs, if_neg h, if_pos h2]
theorem prs_long {L : List ByteArray} {s : ByteArray} {all f p : Nat} {acc : List Nat} (h : sgc L s p ≠ -1) (h2 : sgc L s p = 63 ∨ sgc L s p = 91 ∨ sgc L s p = -2) (h3 : acc.length = 32) : prs L s all (f + 1) p acc = (p, 34, []) := by rw [prs, if_neg h, if_neg (not_not_intro h2), if_pos h3]
theorem prs_el {L : List ByteArray} {s : ByteArray} {all f p : Nat} {acc : List Nat} (h : sgc L s p ≠ -1) (h2 : sgc L s p = 63 ∨ sgc L s p = 91 ∨ sgc L s p = -2) (h3 : acc.length ≠ 32) : prs L s all (f + 1) p acc = thenP L s all f p acc (elem L s all f p) := by
  rw [prs, if_neg h, if_neg (not_not_intro h2), if_neg h3]
  rfl
theorem andNot_nat (a m : Nat) (ha : a < 18446744073709551616) (hm : m < 18446744073709551616) : bits .andNot .u64 (a : Int) (m : Int) = ((notN a m : Nat) : Int) := by
  have h1 : (BitVec.ofInt 64 (a : Int)).toNat = a := by rw [BitVec.ofInt_natCast, BitVec.toNat_ofNat]; exact Nat.mod_eq_of_lt (by omega)
  have h2 : (BitVec.ofInt 64 (m : Int)).toNat = m := by rw [BitVec.ofInt_natCast, BitVec.toNat_ofNat]; exact Nat.mod_eq_of_lt (by omega)
  show IntKind.u64.wrap ((BitVec.ofInt 64 (a : Int) &&& ~~~ BitVec.ofInt 64 (m : Int)).toNat : Int) = _
  have hl : notN a m < 18446744073709551616 := notN_lt ha
  rw [BitVec.toNat_and, BitVec.toNat_not, h1, h2, show 2 ^ 64 - 1 - m = 18446744073709551615 - m from rfl, show a &&& (18446744073709551615 - m) = notN a m from rfl, IntKind.wrap_u64]
  omega
end Go.Proofs.YtcocbjipikeebaaDoor.Utf
