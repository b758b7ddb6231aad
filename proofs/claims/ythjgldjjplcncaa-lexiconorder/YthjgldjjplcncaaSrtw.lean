/-
  The library's stable sort walked (slices.SortStableFunc and what it calls, at elements of one cell), for a comparison that reads: swapRange, rotate.
-/
import Derived.Test.YthjgldjjplcncaaSrtm
import Derived.Test.YthjgldjjplcncaaProg
import Derived.Shelf.SlSortCmp.Insertion1
namespace Go.Proofs.Ythjgldjjplcncaa.Srt
open Go Go.Shelf Go.RowKit Go.Lib Go.Sort Go.Proofs
variable {α : Type} [Inhabited α]

set_option maxHeartbeats 4000000 in
set_option maxRecDepth 100000 in
theorem swapRange_at (enc : α → Value) (g : Nat) (cb : Array Value) (blk off cap a b n : Nat) (d0 d : Array α) (w0 w : World) (R : Row1 enc w0 blk off d0) (hs : d0.size = d.size)
    (S : SW enc w0 blk off d w) (h1 : a + n ≤ b) (h2 : b + n ≤ d.size) (hsz : d.size < 4611686018427387904) :
    Calls Try.prog 84 #[.slice (some ⟨blk, off, none⟩) d.size cap, .int .i64 a, .int .i64 b, .int .i64 n, .func (.func g) #[] cb] w fun e w' => e = .returned (.tuple #[]) ∧ SW enc w0 blk off (swapR d a b n) w' := by
  have hcl0 := R.hO.cells
  simp only [Value.cells] at hcl0
  have hst := R.hO.store Try.prog
  have S0 : Aside (SW enc w0 blk off d w) := S
  clear S
  go_enter Try.func84, Try.ntmps84
  go_wp2
  go_loopg [10] n (fun g1 vi wr => ∃ (i : Nat), vi = .int .i64 i ∧ i ≤ n ∧ n - i ≤ g1 ∧ Aside (SW enc w0 blk off (swapR d a b i) wr))
  case atStart => exact ⟨0, rfl, Nat.zero_le _, Nat.le_refl _, S0⟩
  case round =>
    clear S0
    obtain ⟨i, rfl, hin, hg1, S1⟩ := hrel
    by_cases hlt : i < n
    · have hltz : (i : Int) < (n : Int) := by omega
      have hz := swapR_size d a b i
      have hnx : swapR d a b (i + 1) = swp (swapR d a b i) (a + i) (b + i) := rfl
      obtain ⟨dn, hdn⟩ : ∃ q, q = swapR d a b (i + 1) := ⟨_, rfl⟩
      rw [← hdn] at hnx
      generalize swapR d a b i = dj at *
      obtain ⟨iN, hiN⟩ : ∃ q, q = a + i := ⟨_, rfl⟩
      obtain ⟨jN, hjN⟩ : ∃ q, q = b + i := ⟨_, rfl⟩
      have ea : ((a : Int) + (i : Int)).toNat = iN := by omega
      have pa : (0 : Int) ≤ (a : Int) + (i : Int) := by omega
      have ba : (a : Int) + (i : Int) < (d.size : Int) := by omega
      have ra : IntKind.i64.wrap ((a : Int) + (i : Int)) = (a : Int) + (i : Int) := by rw [IntKind.wrap_i64]; omega
      have ec : ((b : Int) + (i : Int)).toNat = jN := by omega
      have pc : (0 : Int) ≤ (b : Int) + (i : Int) := by omega
      have bc : (b : Int) + (i : Int) < (d.size : Int) := by omega
      have rc : IntKind.i64.wrap ((b : Int) + (i : Int)) = (b : Int) + (i : Int) := by rw [IntKind.wrap_i64]; omega
      obtain ⟨x, hx⟩ : ∃ x, x = dj[a + i]! := ⟨_, rfl⟩
      obtain ⟨y, hy⟩ : ∃ x, x = dj[b + i]! := ⟨_, rfl⟩
      have S3 : Aside (SW enc w0 blk off dn ((wr.setCell ⟨blk, off + iN, none⟩ (enc y)).setCell ⟨blk, off + jN, none⟩ (enc x)).drew) := by rw [hiN, hjN, hx, hy, hnx]; exact S1.out.swapped R (a + i) (b + i) (by omega) (by omega)
      have ca := S1.out.c1 R (by omega) (a + i) (by omega)
      have cb' := S1.out.c1 R (by omega) (b + i) (by omega)
      have fa := S1.out.f1 R (by omega) (a + i) (by omega)
      have fb := S1.out.f1 R (by omega) (b + i) (by omega)
      obtain ⟨u, cc⟩ := S1.out.c2 R (by omega) (a + i) (b + i) (by omega) (by omega) (enc y)
      rw [← hjN, ← hiN] at cc
      rw [← hx, ← hiN] at ca
      rw [← hy, ← hjN] at cb'
      rw [← hiN] at fa
      rw [← hjN] at fb
      clear S1 hx hy hiN hjN
      go_wp2_with fail
      go_big_region
      clear ca cb' cc fa fb
      generalize ((wr.setCell ⟨blk, off + iN, none⟩ (enc y)).setCell ⟨blk, off + jN, none⟩ (enc x)).drew = w3 at S3 ⊢
      clear ea ec
      go_wp2
      go_roundg (n - (i + 1))
      case measure => omega
      case rel => exact ⟨i + 1, by go_num, by omega, Nat.le_refl _, hdn ▸ S3⟩
    · have hltz : ¬ (i : Int) < (n : Int) := by omega
      obtain rfl : i = n := by omega
      go_wp2
      go_end0
      exact ⟨rfl, S1.out⟩
theorem swapRange_any (enc : α → Value) (g : Nat) (cb : Array Value) (blk off cap a b n sz : Nat) (za zb zn : Int) (d0 d : Array α) (w0 w : World) (R : Row1 enc w0 blk off d0) (hs : d0.size = d.size)
    (S : SW enc w0 blk off d w) (hza : za = a) (hzb : zb = b) (hzn : zn = n) (hd : sz = d.size) (h1 : a + n ≤ b) (h2 : b + n ≤ d.size) (hsz : d.size < 4611686018427387904) :
    Calls Try.prog 84 #[.slice (some ⟨blk, off, none⟩) sz cap, .int .i64 za, .int .i64 zb, .int .i64 zn, .func (.func g) #[] cb] w fun e w' => e = .returned (.tuple #[]) ∧ SW enc w0 blk off (swapR d a b n) w' := by
  subst hza hzb hzn hd
  exact swapRange_at enc g cb blk off cap a b n d0 d w0 w R hs S h1 h2 hsz

set_option maxHeartbeats 4000000 in
set_option maxRecDepth 100000 in
theorem rotate_at (enc : α → Value) (g : Nat) (cb : Array Value) (blk off cap a m b : Nat) (d0 d : Array α) (w0 w : World) (R : Row1 enc w0 blk off d0) (hs : d0.size = d.size)
    (S : SW enc w0 blk off d w) (h1 : a < m) (h2 : m < b) (h3 : b ≤ d.size) (hsz : d.size < 4611686018427387904) :
    Calls Try.prog 68 #[.slice (some ⟨blk, off, none⟩) d.size cap, .int .i64 a, .int .i64 m, .int .i64 b, .func (.func g) #[] cb] w fun e w' => e = .returned (.tuple #[]) ∧ ∃ d', SW enc w0 blk off d' w' ∧ PermIn a b d d' ∧ ∀ x, d'[x]! = rotF (fun k => d[k]!) a m b x := by
  have S0 : Aside (SW enc w0 blk off d w) := S
  have I0 : Aside (RotI d d a m b (m - a) (b - m)) := RotI.start d h1 h2
  have hsw : Aside (∀ (a b n : Nat) (za zb zn : Int) (dk : Array α) (w : World), SW enc w0 blk off dk w → d0.size = dk.size → za = a → zb = b → zn = n → d.size = dk.size → a + n ≤ b → b + n ≤ dk.size →
    Calls Try.prog 84 #[.slice (some ⟨blk, off, none⟩) d.size cap, .int .i64 za, .int .i64 zb, .int .i64 zn, .func (.func g) #[] cb] w fun e w' => e = .returned (.tuple #[]) ∧ SW enc w0 blk off (swapR dk a b n) w') :=
    fun a b n za zb zn dk w hS hz e1 e2 e3 e4 e5 e6 => swapRange_any enc g cb blk off cap a b n d.size za zb zn d0 dk w0 w R hz hS e1 e2 e3 e4 e5 e6 (by omega)
  clear S
  go_enter Try.func68, Try.ntmps68
  go_wp2
  go_loopg [10, 11] (b - a) (fun g1 vi vj wr => ∃ (i j : Nat) (dk : Array α), vi = .int .i64 i ∧ vj = .int .i64 j ∧ i + j ≤ g1 ∧ Aside (RotI d dk a m b i j) ∧ Aside (SW enc w0 blk off dk wr))
  case atStart => exact ⟨m - a, b - m, d, by go_num, by go_num, by omega, I0, S0⟩
  case round =>
    clear S0 I0
    obtain ⟨i, j, dk, rfl, rfl, hg1, I1, S1⟩ := hrel
    have hb := And.intro I1.out.hi I1.out.hj
    have hi0 := I1.out.i0
    have hj0 := I1.out.j0
    have hz := I1.out.size
    by_cases hij : i = j
    · subst hij
      have cS := hsw.out (m - i) m i ((m : Int) - (i : Int)) m i dk wr S1.out (by omega) (by omega) rfl rfl (by omega) (by omega) (by omega)
      have hL := I1.out.last h3
      go_wp2_with fail
      refine cS.mono ?_
      rintro e w' ⟨rfl, S2⟩
      go_wp2
      go_end0
      exact ⟨rfl, _, S2, hL.1, hL.2⟩
    · have hne : ((i : Int) == (j : Int)) = false := by rw [beq_eq_false_iff_ne]; omega
      by_cases hlt : j < i
      · have hltz : (j : Int) < (i : Int) := by omega
        have cS := hsw.out (m - i) m j ((m : Int) - (i : Int)) m j dk wr S1.out (by omega) (by omega) rfl rfl (by omega) (by omega) (by omega)
        have I2 : Aside _ := I1.out.more h3 hlt
        clear I1 S1
        go_wp2_with fail
        refine cS.mono ?_
        rintro e w' ⟨rfl, S2⟩
        have S3 : Aside _ := S2
        clear S2 cS
        go_wp2
        go_roundg (i + j - j)
        case measure => omega
        case rel => exact ⟨i - j, j, _, by go_num, rfl, by omega, I2, S3⟩
      · have hltz : ¬ (j : Int) < (i : Int) := by omega
        have cS := hsw.out (m - i) (m + j - i) i ((m : Int) - (i : Int)) ((m : Int) + (j : Int) - (i : Int)) i dk wr S1.out (by omega) (by omega) (by omega) rfl (by omega) (by omega) (by omega)
        have I2 : Aside _ := I1.out.less h3 (by omega)
        clear I1 S1
        go_wp2_with fail
        refine cS.mono ?_
        rintro e w' ⟨rfl, S2⟩
        have S3 : Aside _ := S2
        clear S2 cS
        go_wp2
        go_roundg (i + j - i)
        case measure => omega
        case rel => exact ⟨i, j - i, _, rfl, by go_num, by omega, I2, S3⟩
theorem rotate_any (enc : α → Value) (g : Nat) (cb : Array Value) (blk off cap a m b sz : Nat) (za zm zb : Int) (d0 d : Array α) (w0 w : World) (R : Row1 enc w0 blk off d0) (hs : d0.size = d.size)
    (S : SW enc w0 blk off d w) (hza : za = a) (hzm : zm = m) (hzb : zb = b) (hd : sz = d.size) (h1 : a < m) (h2 : m < b) (h3 : b ≤ d.size) (hsz : d.size < 4611686018427387904) :
    Calls Try.prog 68 #[.slice (some ⟨blk, off, none⟩) sz cap, .int .i64 za, .int .i64 zm, .int .i64 zb, .func (.func g) #[] cb] w fun e w' => e = .returned (.tuple #[]) ∧ ∃ d', SW enc w0 blk off d' w' ∧ PermIn a b d d' ∧ ∀ x, d'[x]! = rotF (fun k => d[k]!) a m b x := by
  subst hza hzm hzb hd
  exact rotate_at enc g cb blk off cap a m b d0 d w0 w R hs S h1 h2 h3 hsz
end Go.Proofs.Ythjgldjjplcncaa.Srt
