/-
  Of no program: a drawn grid's text with blanks between its signs, lines of blanks, and the other signs is read as the same grid.
-/
import Derived.Test.YtkkeoonglcfhnaaDoorGsk
import Derived.Test.YtkkeoonglcfhnaaDoorTrns
namespace Go.Proofs.YtkkeoonglcfhnaaDoor.Skt
open Go Go.Lib Utf Grd

/-- What one byte of a drawn text does to what has been read. -/
def Stp1 (c : UInt8) (rows : List (List C3)) (cur : List C3) (rows' : List (List C3)) (cur' : List C3) : Prop :=
  (c = 10 ∧ cur' = [] ∧ ∀ ls, endRow rows cur ls = .inr rows') ∨ (c ≠ 10 ∧ c.toNat < 128 ∧ rows' = rows ∧ ∀ p, putC c.toNat p rows.length cur = .inr cur')
/-- What bytes do, one after the other. -/
def Runs : List UInt8 → List (List C3) → List C3 → List (List C3) → List C3 → Prop
  | [], r, c, r', c' => r' = r ∧ c' = c
  | b :: l, r, c, r', c' => ∃ r1 c1, Stp1 b r c r1 c1 ∧ Runs l r1 c1 r' c'
theorem Runs.append : ∀ {l m : List UInt8} {r c r1 c1 r' c'}, Runs l r c r1 c1 → Runs m r1 c1 r' c' → Runs (l ++ m) r c r' c'
  | [], _, _, _, _, _, _, _, h, k => by obtain ⟨rfl, rfl⟩ := h; exact k
  | _ :: _, _, _, _, _, _, _, _, ⟨r2, c2, h1, h2⟩, k => ⟨r2, c2, h1, Runs.append h2 k⟩
theorem runs_cell {x y z e : Bool} {rows : List (List C3)} {cur : List C3} (hn : ¬ (cur.length = 16 ∨ rows.length = 16)) (hw : e = true → rows = [] ∨ (rows.headD []).length = cur.length + 1) :
    Runs (cellT x y z e) rows cur (if e then rows ++ [cur ++ [⟨x, y, z⟩]] else rows) (if e then [] else cur ++ [⟨x, y, z⟩]) := by
  have h1 : Runs (if x then [35] else [46]) rows cur rows (cur ++ [⟨x, false, false⟩]) := by
    have k : Runs [(if x then 35 else 46 : UInt8)] rows cur rows (cur ++ [⟨x, false, false⟩]) := ⟨rows, _, .inr ⟨by cases x <;> decide, by cases x <;> decide, rfl, fun p => put_cell hn⟩, rfl, rfl⟩
    cases x <;> exact k
  have h2 : Runs (if y then [124] else []) rows (cur ++ [⟨x, false, false⟩]) rows (cur ++ [⟨x, y, false⟩]) := by
    cases y
    · exact ⟨rfl, rfl⟩
    · exact ⟨rows, _, .inr ⟨by decide, by decide, rfl, fun p => put_right rfl⟩, rfl, rfl⟩
  have h3 : Runs (if z then [95] else []) rows (cur ++ [⟨x, y, false⟩]) rows (cur ++ [⟨x, y, z⟩]) := by
    cases z
    · exact ⟨rfl, rfl⟩
    · exact ⟨rows, _, .inr ⟨by decide, by decide, rfl, fun p => put_below rfl⟩, rfl, rfl⟩
  have h4 : Runs (if e then [10] else []) rows (cur ++ [⟨x, y, z⟩]) (if e then rows ++ [cur ++ [⟨x, y, z⟩]] else rows) (if e then [] else cur ++ [⟨x, y, z⟩]) := by
    cases e
    · exact ⟨rfl, rfl⟩
    · refine ⟨_, _, .inl ⟨rfl, rfl, fun ls => ?_⟩, rfl, rfl⟩
      unfold endRow
      rw [if_neg (by simp), if_pos]
      · rfl
      · exact (hw rfl).imp id fun k => by rw [k]; simp
  exact h1.append (h2.append (h3.append h4))
theorem runs_draw {g : Gr} (hr : g.Right) : ∀ k, k ≤ g.n → Runs (prB g k) [] [] (stp g k).1 (stp g k).2
  | 0, _ => ⟨rfl, rfl⟩
  | k + 1, hk => by
    have hsw := hr.sw
    have hsh := hr.sh
    obtain ⟨i1, i2, i3, _⟩ := stp_inv (g := g) hsw.1 k
    have hm := Nat.mod_lt k (y := g.W) (by omega)
    have hdl : k / g.W < g.H := Nat.div_lt_of_lt_mul (by rw [Nat.mul_comm]; exact hk)
    have h2 := runs_cell (x := bt g.B k) (y := bt g.R k) (z := bt g.D k) (e := decide (k % g.W = g.W - 1)) (rows := (stp g k).1) (cur := (stp g k).2) (by rw [i1, i2]; omega) (fun he => by
      by_cases h0 : (stp g k).1 = []
      · exact .inl h0
      · right
        rw [head_len i3 h0, i2]
        have := of_decide_eq_true he
        omega)
    refine (runs_draw hr k (by omega)).append ?_
    unfold cellB
    by_cases ew : k % g.W = g.W - 1
    · rw [decide_eq_true ew] at h2 ⊢
      simp only [stp, if_pos ew]
      exact h2
    · rw [decide_eq_false ew] at h2 ⊢
      simp only [stp, if_neg ew]
      exact h2

/-- A byte's other signs and the blanks behind it, as b says. -/
def subB (c : UInt8) (b : Nat) : List UInt8 := if c = 35 ∧ b % 2 = 1 then [226, 150, 160] else if c = 46 ∧ b % 2 = 1 then [226, 150, 161] else if c = 10 ∧ b % 2 = 1 then [13, 10, 32, 9, 10] else [c]
def decB (c : UInt8) (b : Nat) : List UInt8 := subB c b ++ (if b / 2 % 2 = 1 ∧ subB c b ≠ [10] then [32, 194, 160] else [])
theorem decB_len (c : UInt8) (b : Nat) : (decB c b).length ≤ 8 := by
  unfold decB subB
  rw [List.length_append]
  repeat' split
  all_goals simp
theorem get_at {s : ByteArray} {pre l post : List UInt8} (h : s.data.toList = pre ++ (l ++ post)) (j : Nat) (hj : j < l.length) : s.get! (pre.length + j) = l.getD j 0 := by
  rw [← Lib.getD_get!' s, h]
  simp only [List.getD]
  rw [List.getElem?_append_right (by omega), show pre.length + j - pre.length = j by omega, List.getElem?_append_left hj]
theorem size_at {s : ByteArray} {pre l post : List UInt8} (h : s.data.toList = pre ++ (l ++ post)) : pre.length + l.length ≤ s.size := by
  have : s.size = (pre ++ (l ++ post)).length := by rw [← ba_len, h]
  rw [this, List.length_append, List.length_append]
  omega
theorem dec_three {s : ByteArray} {pre post : List UInt8} {c : UInt8} (h : s.data.toList = pre ++ ([226, 150, c] ++ post)) (hc : c.toNat / 64 = 2) : Utf8.decode s pre.length = (2 * 4096 + 22 * 64 + c.toNat % 64, 3) := by
  have h0 := get_at h 0 (by simp)
  have h1 := get_at h 1 (by simp)
  have h2 := get_at h 2 (by simp)
  have hsz := size_at h
  simp only [List.length_cons, List.length_nil] at hsz
  rw [Nat.add_zero] at h0
  rw [Lib.decode_at, h0, h1, h2]
  exact decodeN_3 (n := s.size - pre.length) (b0 := 226) (b1 := 150) (b2 := c.toNat) (b3 := (s.get! (pre.length + 3)).toNat) (by decide) (by decide) (by omega) (by decide) hc (by omega) (by omega)
theorem dec_nbsp {s : ByteArray} {pre post : List UInt8} (h : s.data.toList = pre ++ ([194, 160] ++ post)) : Utf8.decode s pre.length = (160, 2) := by
  have h0 := get_at h 0 (by decide)
  have h1 := get_at h 1 (by decide)
  have hsz := size_at h
  simp only [List.length_cons, List.length_nil] at hsz
  rw [Nat.add_zero] at h0
  rw [Lib.decode_at, h0, h1]
  exact decodeN_2 (b0 := 194) (b1 := 160) (by decide) (by decide) (by omega) (by decide)
theorem cls_blank {n : Nat} (h : (9 ≤ n ∧ n ≤ 13) ∨ n = 32 ∨ n = 160) : cls (n : Int) = 3 := cls_3.2 (by unfold isB; omega)
/-- A blank that is one byte. -/
theorem scan_blank {s : ByteArray} {pre post : List UInt8} {c : UInt8} (h : s.data.toList = pre ++ ([c] ++ post)) (hc : c.toNat = 13 ∨ c.toNat = 32 ∨ c.toNat = 9) (ls : Nat) (rows : List (List C3)) (cur : List C3) :
    scan s pre.length ls rows cur = scan s (pre ++ [c]).length ls rows cur := by
  refine scan_byte (c := c) (by simpa using h) (by omega) (by omega) ?_
  unfold putC
  rw [if_pos (sgn_blank (cls_blank (by omega)))]
theorem scan_nbsp {s : ByteArray} {pre post : List UInt8} (h : s.data.toList = pre ++ ([194, 160] ++ post)) (ls : Nat) (rows : List (List C3)) (cur : List C3) :
    scan s pre.length ls rows cur = scan s (pre ++ [194, 160]).length ls rows cur := by
  have hd := dec_nbsp h
  have hsz := size_at h
  simp only [List.length_cons, List.length_nil] at hsz
  rw [scan_put (by omega) (by rw [hd]; decide), hd]
  have hp : putC 160 pre.length rows.length cur = .inr cur := by
    unfold putC
    rw [if_pos (sgn_blank (cls_blank (by omega)))]
  simp only
  rw [hp, List.length_append]
  rfl
theorem put_alt {x : Bool} {p n : Nat} {cur : List C3} : putC (if x then 9632 else 9633) p n cur = putC (if x then 35 else 46 : UInt8).toNat p n cur := by
  cases x
  · show putC 9633 p n cur = putC 46 p n cur
    unfold putC
    rw [show sgn 9633 = 2 by decide, show sgn 46 = 2 by decide]
  · show putC 9632 p n cur = putC 35 p n cur
    unfold putC
    rw [show sgn 9632 = 1 by decide, show sgn 35 = 1 by decide]
/-- One byte with its adornments read. -/
theorem scan_dec {s : ByteArray} {pre post : List UInt8} {c : UInt8} {b : Nat} (h : s.data.toList = pre ++ (decB c b ++ post)) {ls : Nat} {rows rows' : List (List C3)} {cur cur' : List C3} (hs : Stp1 c rows cur rows' cur') :
    ∃ ls', scan s pre.length ls rows cur = scan s (pre ++ decB c b).length ls' rows' cur' := by
  unfold decB at h ⊢
  obtain ⟨tl, htl⟩ : ∃ tl : List UInt8, tl = (if b / 2 % 2 = 1 ∧ subB c b ≠ [10] then [32, 194, 160] else []) := ⟨_, rfl⟩
  rw [← htl] at h ⊢
  have h1 : s.data.toList = pre ++ (subB c b ++ (tl ++ post)) := by rw [h]; simp
  have key : ∃ ls', scan s pre.length ls rows cur = scan s (pre ++ subB c b).length ls' rows' cur' := by
    unfold subB at h1 ⊢
    by_cases c1 : c = 35 ∧ b % 2 = 1
    · obtain ⟨rfl, hb⟩ := c1
      rw [if_pos ⟨rfl, hb⟩] at h1 ⊢
      rcases hs with ⟨e, _⟩ | ⟨_, _, rfl, hp⟩
      · exact absurd e (by decide)
      · have hd := dec_three h1 (by decide)
        have hsz := size_at h1
        simp only [List.length_cons, List.length_nil] at hsz
        refine ⟨ls, ?_⟩
        rw [scan_put (by omega) (by rw [hd]; decide), hd]
        have := (put_alt (x := true) (p := pre.length) (cur := cur)).trans (hp pre.length)
        simp only
        rw [show 2 * 4096 + 22 * 64 + (160 : UInt8).toNat % 64 = (if true then 9632 else 9633) from rfl, this, List.length_append]
        rfl
    · rw [if_neg c1] at h1 ⊢
      by_cases c2 : c = 46 ∧ b % 2 = 1
      · obtain ⟨rfl, hb⟩ := c2
        rw [if_pos ⟨rfl, hb⟩] at h1 ⊢
        rcases hs with ⟨e, _⟩ | ⟨_, _, rfl, hp⟩
        · exact absurd e (by decide)
        · have hd := dec_three h1 (by decide)
          have hsz := size_at h1
          simp only [List.length_cons, List.length_nil] at hsz
          refine ⟨ls, ?_⟩
          rw [scan_put (by omega) (by rw [hd]; decide), hd]
          have := (put_alt (x := false) (p := pre.length) (cur := cur)).trans (hp pre.length)
          simp only
          rw [show 2 * 4096 + 22 * 64 + (161 : UInt8).toNat % 64 = (if false = true then 9632 else 9633) from rfl, this, List.length_append]
          rfl
      · rw [if_neg c2] at h1 ⊢
        by_cases c3 : c = 10 ∧ b % 2 = 1
        · obtain ⟨rfl, hb⟩ := c3
          rw [if_pos ⟨rfl, hb⟩] at h1 ⊢
          rcases hs with ⟨_, rfl, he⟩ | ⟨e, _⟩
          · refine ⟨(pre ++ [13] ++ [10] ++ [32] ++ [9] ++ [10]).length, ?_⟩
            rw [scan_blank (c := 13) (post := [10, 32, 9, 10] ++ (tl ++ post)) (by rw [h1]; simp) (by decide)]
            rw [scan_nl (pre := pre ++ [13]) (post := [32, 9, 10] ++ (tl ++ post)) (by rw [h1]; simp) (he ls)]
            rw [scan_blank (pre := pre ++ [13] ++ [10]) (c := 32) (post := [9, 10] ++ (tl ++ post)) (by rw [h1]; simp) (by decide)]
            rw [scan_blank (pre := pre ++ [13] ++ [10] ++ [32]) (c := 9) (post := [10] ++ (tl ++ post)) (by rw [h1]; simp) (by decide)]
            rw [scan_nl (pre := pre ++ [13] ++ [10] ++ [32] ++ [9]) (post := tl ++ post) (rows' := rows') (by rw [h1]; simp) (by unfold endRow; rw [if_pos rfl])]
            simp
          · exact absurd rfl e
        · rw [if_neg c3] at h1 ⊢
          rcases hs with ⟨rfl, rfl, he⟩ | ⟨h10, hlt, rfl, hp⟩
          · exact ⟨_, scan_nl (by simpa using h1) (he ls)⟩
          · exact ⟨ls, scan_byte (c := c) (by simpa using h1) hlt (fun e => h10 (UInt8.toNat_inj.1 e)) (hp _)⟩
  obtain ⟨ls', e⟩ := key
  refine ⟨ls', e.trans ?_⟩
  by_cases ct : b / 2 % 2 = 1 ∧ subB c b ≠ [10]
  · rw [if_pos ct] at htl
    subst htl
    rw [scan_blank (pre := pre ++ subB c b) (c := 32) (post := [194, 160] ++ post) (by rw [h1]; simp) (by decide)]
    rw [scan_nbsp (pre := pre ++ subB c b ++ [32]) (post := post) (by rw [h1]; simp)]
    simp
  · rw [if_neg ct] at htl
    subst htl
    simp
/-- Bytes with their adornments. -/
def decL (f : Nat → Nat) : Nat → List UInt8 → List UInt8
  | _, [] => []
  | i, c :: l => decB c (f i) ++ decL f (i + 1) l
theorem decL_len (f : Nat → Nat) : ∀ (l : List UInt8) (i : Nat), (decL f i l).length ≤ 8 * l.length
  | [], _ => by simp [decL]
  | c :: l, i => by
    have h1 := decB_len c (f i)
    have h2 := decL_len f l (i + 1)
    simp only [decL, List.length_append, List.length_cons]
    omega
theorem decL_snoc (f : Nat → Nat) (c : UInt8) : ∀ (l : List UInt8) (i : Nat), decL f i (l ++ [c]) = decL f i l ++ decB c (f (i + l.length))
  | [], i => by simp [decL]
  | x :: l, i => by
    simp only [List.cons_append, decL, List.length_cons]
    rw [decL_snoc f c l (i + 1), List.append_assoc, show i + 1 + l.length = i + (l.length + 1) by omega]
theorem scan_decL {s : ByteArray} (f : Nat → Nat) : ∀ (l : List UInt8) (i : Nat) (pre post : List UInt8) (ls : Nat) (rows rows' : List (List C3)) (cur cur' : List C3), s.data.toList = pre ++ (decL f i l ++ post) → Runs l rows cur rows' cur' →
    ∃ ls', scan s pre.length ls rows cur = scan s (pre ++ decL f i l).length ls' rows' cur'
  | [], _, pre, _, ls, _, _, _, _, _, hr => by
    obtain ⟨rfl, rfl⟩ := hr
    exact ⟨ls, by simp [decL]⟩
  | c :: l, i, pre, post, ls, rows, rows', cur, cur', h, ⟨r1, c1, h1, h2⟩ => by
    have e1 : s.data.toList = pre ++ (decB c (f i) ++ (decL f (i + 1) l ++ post)) := by rw [h]; simp [decL]
    obtain ⟨ls1, k1⟩ := scan_dec (ls := ls) e1 h1
    obtain ⟨ls2, k2⟩ := scan_decL f l (i + 1) (pre ++ decB c (f i)) post ls1 r1 rows' c1 cur' (by rw [e1]; simp) h2
    exact ⟨ls2, by rw [k1, k2]; simp [decL]⟩
/-- What is drawn with adornments is read. -/
theorem prs_deco {g : Gr} (hok : g.chk = 0) (f : Nat → Nat) {s : ByteArray} (hs : s.data.toList = decL f 0 (prT g)) : prs s = (g, 0, 0) := by
  have hr := Gr.right_of (g := g) hok
  have hT : prT g = prB g g.n := if_pos hok
  have hsw := hr.sw
  have hsh := hr.sh
  have hn := hr.sz.n_le
  obtain ⟨ls, e⟩ := scan_decL (s := s) f (prB g g.n) 0 [] [] 0 [] _ [] _ (by rw [hs, hT]; simp) (runs_draw hr g.n (Nat.le_refl _))
  obtain ⟨i1, i2, i3, i4⟩ := stp_inv (g := g) hsw.1 g.n
  have hmod : g.n % g.W = 0 := Nat.mul_mod_left _ _
  have hdiv : g.n / g.W = g.H := Nat.mul_div_cancel _ (by omega)
  have hcur : (stp g g.n).2 = [] := List.eq_nil_of_length_eq_zero (by rw [i2, hmod])
  rw [hcur] at e i4
  rw [List.append_nil] at i4
  have hsize : s.size = (decL f 0 (prB g g.n)).length := by rw [← ba_len, hs, hT]
  have hlen := prB_len g g.n
  have hlen2 := decL_len f (prB g g.n) 0
  have hrows : scan s 0 0 [] [] = .inr (stp g g.n).1 := by
    have e' : scan s 0 0 [] [] = scan s (decL f 0 (prB g g.n)).length ls (stp g g.n).1 [] := e
    rw [e', ← hsize, scan_end (Nat.lt_irrefl _)]
    rfl
  have hne : (stp g g.n).1 ≠ [] := by
    intro k
    rw [k] at i1
    rw [hdiv] at i1
    simp at i1
    omega
  have hG : mkG (stp g g.n).1 = g := by
    unfold mkG
    rw [i1, hdiv, head_len i3 hne, i4]
    have e1 : ((List.range g.n).map (cellOf g)).map (·.b) = g.B := by
      rw [List.map_map, ← hr.bl]; exact bt_list g.B
    have e2 : ((List.range g.n).map (cellOf g)).map (·.r) = g.R := by
      rw [List.map_map, ← hr.rl]; exact bt_list g.R
    have e3 : ((List.range g.n).map (cellOf g)).map (·.d) = g.D := by
      rw [List.map_map, ← hr.dl]; exact bt_list g.D
    rw [e1, e2, e3, hsh.2.2, hsw.2.2]
  rw [prs_rows (by rw [hsize]; omega) hrows hne, hG, if_pos hok]
end Go.Proofs.YtkkeoonglcfhnaaDoor.Skt
/-
  SketchBlanks walked.
-/
namespace Go.Proofs.YtkkeoonglcfhnaaDoor.Skt
open Go Go.Lib Go.RowKit Utf Grd

/-- A list of bytes, wherever it lies. -/
def ReadsY (W : World) (ao : Option Addr) (zs : List Nat) : Prop := ∀ i (_ : i < zs.length), ∃ b off, ao = some ⟨b, off, none⟩ ∧ b < W.heap.size ∧ W.cell? ⟨b, off + i, none⟩ = some (.int .u8 ((zs[i]?.getD 0 : Nat) : Int))
theorem ReadsY.below {W W' : World} {ao : Option Addr} {zs : List Nat} (h : ReadsY W ao zs) (hb : Below W.heap.size W W') : ReadsY W' ao zs := fun j hj => by
  obtain ⟨b, off, h1, h2, h3⟩ := h j hj
  exact ⟨b, off, h1, Nat.lt_of_lt_of_le h2 hb.size, (hb.cell (p := ⟨b, off + j, none⟩) h2).trans h3⟩
/-- Which byte tells of the i-th sign. -/
def howB (zs : List Nat) (i : Nat) : Nat := if zs.length = 0 then 0 else zs[i % zs.length]?.getD 0

theorem slice_mid2 (w : World) (s : ByteArray) (a b : Nat) (z : Int) (hz : z = (b : Int)) (h1 : a ≤ b) (h2 : b ≤ s.size) :
    (Instr.slice 9 (.string s) (some (.int .i64 (a : Int))) (some (.int .i64 z)) none).run Tryd.prog w = .ok (.string (s.extract a b)) w := by
  subst hz
  have := run_slice_string (P := Tryd.prog) w 9 s .i64 .i64 (a : Int) (b : Int) Tryd.underlying9 (by omega) (by omega) (by omega)
  rw [Int.toNat_natCast, Int.toNat_natCast] at this
  exact this
theorem ba_cat2 (a b : ByteArray) : (a ++ b).data.toList = a.data.toList ++ b.data.toList := by
  rw [ByteArray.data_append, Array.toList_append]
theorem bits1 : ∀ B : Nat, B < 256 → bits .and .u8 (B : Int) 1 = ((B % 2 : Nat) : Int) := by decide +kernel
theorem bits2 : ∀ B : Nat, B < 256 → bits .and .u8 (B : Int) 2 = ((B / 2 % 2 * 2 : Nat) : Int) := by decide +kernel
theorem howB_lt {zs : List Nat} (h : ∀ z ∈ zs, z < 256) (i : Nat) : howB zs i < 256 := by
  unfold howB
  split
  · decide
  · rename_i h0
    have hl : i % zs.length < zs.length := Nat.mod_lt _ (by omega)
    rw [List.getElem?_eq_getElem hl]
    exact h _ (List.getElem_mem hl)
theorem cellT_all : ∀ x y z e : Bool, (cellT x y z e).all (fun c => decide (c ∈ ([35, 46, 124, 95, 10] : List UInt8))) = true := by decide
theorem cellT_signs {x y z e : Bool} {c : UInt8} (h : c ∈ cellT x y z e) : c ∈ ([35, 46, 124, 95, 10] : List UInt8) := of_decide_eq_true (List.all_eq_true.1 (cellT_all x y z e) c h)
theorem prB_signs {g : Gr} {c : UInt8} : ∀ {k : Nat}, c ∈ prB g k → c ∈ ([35, 46, 124, 95, 10] : List UInt8)
  | 0, h => by simp [prB] at h
  | k + 1, h => by
    rw [prB] at h
    rcases List.mem_append.1 h with h | h
    · exact prB_signs h
    · exact cellT_signs h
theorem prT_signs {g : Gr} {c : UInt8} (h : c ∈ prT g) : c ∈ ([35, 46, 124, 95, 10] : List UInt8) := by
  unfold prT at h
  split at h
  · exact prB_signs h
  · cases h

set_option maxRecDepth 100000 in
set_option maxHeartbeats 4000000 in
theorem sketchBlanks_walk (g : Gr) (p : Ad) (zs : List Nat) (ao : Option Addr) (cp : Nat) (w : World) (hl : g.lenOk) (hR : RG w g p) (hY : ReadsY w ao zs) (h8 : ∀ z ∈ zs, z < 256) (hzl : zs.length ≤ 140737488355328) (hT : Lib.Utf8Tabs 2 3 w) (hw : Wy w) :
    Calls Tryd.prog 7 #[gv g p, .slice ao zs.length cp] w fun e w' => e = .returned (.bool true) ∧ Below w.heap.size w w' := by
  have HWB : Aside (∀ Z, Below w.heap.size w Z → Wy Z ∧ Lib.Utf8Tabs 2 3 Z) := fun Z hZ => ⟨hw.below hw.size hZ, tabs_below hZ (tabs_size hT) hT⟩
  have hb0 := below_box w (.cells #[.int .i64 g.h, .int .i64 g.w, .slice p.a1 g.B.length p.c1, .slice p.a2 g.R.length p.c2, .slice p.a3 g.D.length p.c3] 24)
  have cA := awake8_any _ (HWB.out _ hb0).2 (HWB.out _ hb0).1
  unfold gv
  have HG0 := Hs.new hR 24
  have HP : Aside (g.lenOk ∧ ∀ z ∈ zs, z < 256) := ⟨hl, h8⟩
  have HY0 : Aside (ReadsY w ao zs) := hY
  clear hR hl hT hw hb0 hY h8
  go_enter Tryd.func7, Tryd.ntmps7
  go_wp2_with fail
  refine cA.mono ?_
  rintro e w1 ⟨rfl, hb1⟩
  have HG1 : Aside (Hs w1 w.heap.size g p) := HG0.keep hb1
  have HB1 : Aside (Below w.heap.size w w1) := (below_box w _).trans (hb1.mono (below_box w _).size)
  clear cA hb1 HG0
  obtain ⟨⟨_, k0, k1, k2, k3, k4⟩, _⟩ := HG1.out
  have cL := print_any g p w1 (HWB.out w1 HB1.out).1 HG1.out.rg
  unfold gv at cL
  go_wp2_with fail
  refine cL.mono ?_
  rintro e w2 ⟨rfl, hb2⟩
  have HB2 : Aside (Below w.heap.size w w2) := HB1.out.trans (hb2.mono HB1.out.size)
  have HG2 : Aside (Hs w2 w.heap.size g p) := HG1.out.keep hb2
  clear cL hb2 k0 k1 k2 k3 k4 HG1
  by_cases hc : g.chk = 0
  · have HC : Aside (g.chk = 0) := hc
    rw [hc]
    have hlen := prT_len g
    have hn := (Gr.right_of (g := g) hc).sz.n_le
    have hT1 : (prT g).length ≤ 1024 := by omega
    have hsz : (ByteArray.mk (prT g).toArray).size = (prT g).length := by show (prT g).toArray.size = _; rw [List.size_toArray]
    clear hc hlen hn
    have HT : Aside (∀ i, i < (prT g).length → ∃ c, c ∈ ([35, 46, 124, 95, 10] : List UInt8) ∧ (ByteArray.mk (prT g).toArray).extract i (i + 1) = ⟨#[c]⟩ ∧ (prT g).take (i + 1) = (prT g).take i ++ [c]) := fun i hi => by
      have hm : (prT g)[i] ∈ prT g := List.getElem_mem hi
      refine ⟨(prT g)[i], prT_signs hm, ?_, List.take_succ_eq_append_getElem hi⟩
      apply ByteArray.ext
      apply Array.ext'
      rw [ByteArray.data_extract, Array.toList_extract, List.extract_eq_take_drop, show i + 1 - i = 1 by omega]
      show List.take 1 (List.drop i (prT g)) = [(prT g)[i]]
      rw [List.drop_eq_getElem_cons hi]
      rfl
    go_wp2
    go_loopg [7, 8] (prT g).length (fun g1 vs iv wr => ∃ (i : Nat) (t : ByteArray), iv = .int .i64 (i : Int) ∧ vs = .string t ∧ i ≤ (prT g).length ∧ (prT g).length - i ≤ g1 ∧ t.size ≤ 8 * i ∧ Aside (t.data.toList = decL (howB zs) 0 ((prT g).take i)) ∧ Aside (Below w2.heap.size w2 wr))
    case atStart => exact ⟨0, ⟨#[]⟩, rfl, rfl, Nat.zero_le _, Nat.le_refl _, Nat.zero_le _, rfl, Below.refl _ _⟩
    case round =>
      obtain ⟨i, t, rfl, rfl, hi, hg, hts, HD, HB⟩ := hrel
      by_cases hlt : i < (prT g).length
      · have hltz : (i : Int) < ((prT g).length : Int) := by omega
        obtain ⟨c, hc, hext, htk⟩ := HT.out i hlt
        have hdec : decL (howB zs) 0 ((prT g).take (i + 1)) = decL (howB zs) 0 ((prT g).take i) ++ decB c (howB zs i) := by
          rw [htk, decL_snoc, Nat.zero_add, List.length_take, Nat.min_eq_left hi]
        have HDEC : Aside (decL (howB zs) 0 ((prT g).take (i + 1)) = decL (howB zs) 0 ((prT g).take i) ++ decB c (howB zs i)) := hdec
        clear hdec htk
        have h8 : howB zs i < 256 := howB_lt HP.out.2 i
        have hsl : ∀ W, (Instr.slice 9 (.string ⟨(prT g).toArray⟩) (some (.int .i64 (i : Int))) (some (.int .i64 ((i : Int) + 1))) none).run Tryd.prog W = .ok (.string ⟨#[c]⟩) W := fun W => by
          rw [← hext]
          exact slice_mid2 W ⟨(prT g).toArray⟩ i (i + 1) _ rfl (by omega) (by rw [hsz]; omega)
        clear hext hsz
        by_cases hz : zs.length = 0
        · have hbz : howB zs i = 0 := if_pos hz
          rw [hbz] at HDEC
          have hb1 : bits .and .u8 0 1 = 0 := by decide
          have hb2 : bits .and .u8 0 2 = 0 := by decide
          clear hbz h8
          simp only [List.mem_cons, List.not_mem_nil, or_false] at hc
          rcases hc with rfl | rfl | rfl | rfl | rfl
          · have HD2 : Aside (((t ++ ⟨#[35]⟩) : ByteArray).data.toList = decL (howB zs) 0 ((prT g).take (i + 1))) := by
              show _ = _
              have e : decB 35 0 = [35] := by
                decide
              rw [HDEC.out, ba_cat2, HD.out, e]
              try simp
            have hsz2 : ((t ++ ⟨#[35]⟩) : ByteArray).size ≤ 8 * (i + 1) := by
              rw [ByteArray.size_append]
              have e1 : (⟨#[35]⟩ : ByteArray).size = 1 := rfl
              rw [e1]
              omega
            have q0 : (((⟨#[35]⟩ : ByteArray)).toList == [35]) = true := by decide +kernel
            have p0 : (((⟨#[35]⟩ : ByteArray)).toList != [35]) = false := by decide +kernel
            have q1 : (((⟨#[35]⟩ : ByteArray)).toList == [46]) = false := by decide +kernel
            have p1 : (((⟨#[35]⟩ : ByteArray)).toList != [46]) = true := by decide +kernel
            have q2 : (((⟨#[35]⟩ : ByteArray)).toList == [10]) = false := by decide +kernel
            have p2 : (((⟨#[35]⟩ : ByteArray)).toList != [10]) = true := by decide +kernel
            clear HDEC HD
            go_wp2
            go_roundg ((prT g).length - (i + 1))
            case measure => omega
            case rel => exact ⟨i + 1, _, by go_num, rfl, by omega, Nat.le_refl _, hsz2, HD2, HB⟩
          · have HD2 : Aside (((t ++ ⟨#[46]⟩) : ByteArray).data.toList = decL (howB zs) 0 ((prT g).take (i + 1))) := by
              show _ = _
              have e : decB 46 0 = [46] := by
                decide
              rw [HDEC.out, ba_cat2, HD.out, e]
              try simp
            have hsz2 : ((t ++ ⟨#[46]⟩) : ByteArray).size ≤ 8 * (i + 1) := by
              rw [ByteArray.size_append]
              have e1 : (⟨#[46]⟩ : ByteArray).size = 1 := rfl
              rw [e1]
              omega
            have q0 : (((⟨#[46]⟩ : ByteArray)).toList == [35]) = false := by decide +kernel
            have p0 : (((⟨#[46]⟩ : ByteArray)).toList != [35]) = true := by decide +kernel
            have q1 : (((⟨#[46]⟩ : ByteArray)).toList == [46]) = true := by decide +kernel
            have p1 : (((⟨#[46]⟩ : ByteArray)).toList != [46]) = false := by decide +kernel
            have q2 : (((⟨#[46]⟩ : ByteArray)).toList == [10]) = false := by decide +kernel
            have p2 : (((⟨#[46]⟩ : ByteArray)).toList != [10]) = true := by decide +kernel
            clear HDEC HD
            go_wp2
            go_roundg ((prT g).length - (i + 1))
            case measure => omega
            case rel => exact ⟨i + 1, _, by go_num, rfl, by omega, Nat.le_refl _, hsz2, HD2, HB⟩
          · have HD2 : Aside (((t ++ ⟨#[124]⟩) : ByteArray).data.toList = decL (howB zs) 0 ((prT g).take (i + 1))) := by
              show _ = _
              have e : decB 124 0 = [124] := by
                decide
              rw [HDEC.out, ba_cat2, HD.out, e]
              try simp
            have hsz2 : ((t ++ ⟨#[124]⟩) : ByteArray).size ≤ 8 * (i + 1) := by
              rw [ByteArray.size_append]
              have e1 : (⟨#[124]⟩ : ByteArray).size = 1 := rfl
              rw [e1]
              omega
            have q0 : (((⟨#[124]⟩ : ByteArray)).toList == [35]) = false := by decide +kernel
            have p0 : (((⟨#[124]⟩ : ByteArray)).toList != [35]) = true := by decide +kernel
            have q1 : (((⟨#[124]⟩ : ByteArray)).toList == [46]) = false := by decide +kernel
            have p1 : (((⟨#[124]⟩ : ByteArray)).toList != [46]) = true := by decide +kernel
            have q2 : (((⟨#[124]⟩ : ByteArray)).toList == [10]) = false := by decide +kernel
            have p2 : (((⟨#[124]⟩ : ByteArray)).toList != [10]) = true := by decide +kernel
            clear HDEC HD
            go_wp2
            go_roundg ((prT g).length - (i + 1))
            case measure => omega
            case rel => exact ⟨i + 1, _, by go_num, rfl, by omega, Nat.le_refl _, hsz2, HD2, HB⟩
          · have HD2 : Aside (((t ++ ⟨#[95]⟩) : ByteArray).data.toList = decL (howB zs) 0 ((prT g).take (i + 1))) := by
              show _ = _
              have e : decB 95 0 = [95] := by
                decide
              rw [HDEC.out, ba_cat2, HD.out, e]
              try simp
            have hsz2 : ((t ++ ⟨#[95]⟩) : ByteArray).size ≤ 8 * (i + 1) := by
              rw [ByteArray.size_append]
              have e1 : (⟨#[95]⟩ : ByteArray).size = 1 := rfl
              rw [e1]
              omega
            have q0 : (((⟨#[95]⟩ : ByteArray)).toList == [35]) = false := by decide +kernel
            have p0 : (((⟨#[95]⟩ : ByteArray)).toList != [35]) = true := by decide +kernel
            have q1 : (((⟨#[95]⟩ : ByteArray)).toList == [46]) = false := by decide +kernel
            have p1 : (((⟨#[95]⟩ : ByteArray)).toList != [46]) = true := by decide +kernel
            have q2 : (((⟨#[95]⟩ : ByteArray)).toList == [10]) = false := by decide +kernel
            have p2 : (((⟨#[95]⟩ : ByteArray)).toList != [10]) = true := by decide +kernel
            clear HDEC HD
            go_wp2
            go_roundg ((prT g).length - (i + 1))
            case measure => omega
            case rel => exact ⟨i + 1, _, by go_num, rfl, by omega, Nat.le_refl _, hsz2, HD2, HB⟩
          · have HD2 : Aside (((t ++ ⟨#[10]⟩) : ByteArray).data.toList = decL (howB zs) 0 ((prT g).take (i + 1))) := by
              show _ = _
              have e : decB 10 0 = [10] := by
                decide
              rw [HDEC.out, ba_cat2, HD.out, e]
              try simp
            have hsz2 : ((t ++ ⟨#[10]⟩) : ByteArray).size ≤ 8 * (i + 1) := by
              rw [ByteArray.size_append]
              have e1 : (⟨#[10]⟩ : ByteArray).size = 1 := rfl
              rw [e1]
              omega
            have q0 : (((⟨#[10]⟩ : ByteArray)).toList == [35]) = false := by decide +kernel
            have p0 : (((⟨#[10]⟩ : ByteArray)).toList != [35]) = true := by decide +kernel
            have q1 : (((⟨#[10]⟩ : ByteArray)).toList == [46]) = false := by decide +kernel
            have p1 : (((⟨#[10]⟩ : ByteArray)).toList != [46]) = true := by decide +kernel
            have q2 : (((⟨#[10]⟩ : ByteArray)).toList == [10]) = true := by decide +kernel
            have p2 : (((⟨#[10]⟩ : ByteArray)).toList != [10]) = false := by decide +kernel
            clear HDEC HD
            go_wp2
            go_roundg ((prT g).length - (i + 1))
            case measure => omega
            case rel => exact ⟨i + 1, _, by go_num, rfl, by omega, Nat.le_refl _, hsz2, HD2, HB⟩
        · have hml : i % zs.length < zs.length := Nat.mod_lt _ (by omega)
          have hrem : (i : Int) % (zs.length : Int) = ((i % zs.length : Nat) : Int) := int_mod i zs.length
          have hbz : howB zs i = zs[i % zs.length]?.getD 0 := if_neg hz
          have hzp : (0 : Int) < (zs.length : Int) := by omega
          have hz0 : ¬ (zs.length : Int) = 0 := by omega
          obtain ⟨bb, off, rfl, hbl, hcell⟩ := ((HY0.out.below HB2.out).below HB.out) (i % zs.length) hml
          rw [← hbz] at hcell
          have hb1 := bits1 _ h8
          have hb2 := bits2 _ h8
          generalize howB zs i = B at *
          generalize i % zs.length = j at *
          clear hbz hz hbl
          by_cases h1 : B % 2 = 1
          · rw [h1] at hb1
            have hb1 : bits .and .u8 (B : Int) 1 = 1 := hb1
            by_cases h2 : B / 2 % 2 = 1
            · rw [h2] at hb2
              have hb2 : bits .and .u8 (B : Int) 2 = 2 := hb2
              simp only [List.mem_cons, List.not_mem_nil, or_false] at hc
              rcases hc with rfl | rfl | rfl | rfl | rfl
              · have HD2 : Aside ((((t ++ ⟨#[226, 150, 160]⟩) ++ ⟨#[32, 194, 160]⟩) : ByteArray).data.toList = decL (howB zs) 0 ((prT g).take (i + 1))) := by
                  show _ = _
                  have e : decB 35 B = [226, 150, 160, 32, 194, 160] := by
                    unfold decB subB
                    simp [h1, h2]
                  rw [HDEC.out, ba_cat2, ba_cat2, HD.out, e]
                  try simp
                have hsz2 : (((t ++ ⟨#[226, 150, 160]⟩) ++ ⟨#[32, 194, 160]⟩) : ByteArray).size ≤ 8 * (i + 1) := by
                  rw [ByteArray.size_append, ByteArray.size_append]
                  have e1 : (⟨#[226, 150, 160]⟩ : ByteArray).size = 3 := rfl
                  have e2 : (⟨#[32, 194, 160]⟩ : ByteArray).size = 3 := rfl
                  rw [e1, e2]
                  omega
                have q0 : (((⟨#[35]⟩ : ByteArray)).toList == [35]) = true := by decide +kernel
                have p0 : (((⟨#[35]⟩ : ByteArray)).toList != [35]) = false := by decide +kernel
                have q1 : (((⟨#[35]⟩ : ByteArray)).toList == [46]) = false := by decide +kernel
                have p1 : (((⟨#[35]⟩ : ByteArray)).toList != [46]) = true := by decide +kernel
                have q2 : (((⟨#[35]⟩ : ByteArray)).toList == [10]) = false := by decide +kernel
                have p2 : (((⟨#[35]⟩ : ByteArray)).toList != [10]) = true := by decide +kernel
                have q3 : (((⟨#[226, 150, 160]⟩ : ByteArray)).toList == [35]) = false := by decide +kernel
                have p3 : (((⟨#[226, 150, 160]⟩ : ByteArray)).toList != [35]) = true := by decide +kernel
                have q4 : (((⟨#[226, 150, 160]⟩ : ByteArray)).toList == [46]) = false := by decide +kernel
                have p4 : (((⟨#[226, 150, 160]⟩ : ByteArray)).toList != [46]) = true := by decide +kernel
                have q5 : (((⟨#[226, 150, 160]⟩ : ByteArray)).toList == [10]) = false := by decide +kernel
                have p5 : (((⟨#[226, 150, 160]⟩ : ByteArray)).toList != [10]) = true := by decide +kernel
                clear HDEC HD
                go_wp2
                go_roundg ((prT g).length - (i + 1))
                case measure => omega
                case rel => exact ⟨i + 1, _, by go_num, rfl, by omega, Nat.le_refl _, hsz2, HD2, HB⟩
              · have HD2 : Aside ((((t ++ ⟨#[226, 150, 161]⟩) ++ ⟨#[32, 194, 160]⟩) : ByteArray).data.toList = decL (howB zs) 0 ((prT g).take (i + 1))) := by
                  show _ = _
                  have e : decB 46 B = [226, 150, 161, 32, 194, 160] := by
                    unfold decB subB
                    simp [h1, h2]
                  rw [HDEC.out, ba_cat2, ba_cat2, HD.out, e]
                  try simp
                have hsz2 : (((t ++ ⟨#[226, 150, 161]⟩) ++ ⟨#[32, 194, 160]⟩) : ByteArray).size ≤ 8 * (i + 1) := by
                  rw [ByteArray.size_append, ByteArray.size_append]
                  have e1 : (⟨#[226, 150, 161]⟩ : ByteArray).size = 3 := rfl
                  have e2 : (⟨#[32, 194, 160]⟩ : ByteArray).size = 3 := rfl
                  rw [e1, e2]
                  omega
                have q0 : (((⟨#[46]⟩ : ByteArray)).toList == [35]) = false := by decide +kernel
                have p0 : (((⟨#[46]⟩ : ByteArray)).toList != [35]) = true := by decide +kernel
                have q1 : (((⟨#[46]⟩ : ByteArray)).toList == [46]) = true := by decide +kernel
                have p1 : (((⟨#[46]⟩ : ByteArray)).toList != [46]) = false := by decide +kernel
                have q2 : (((⟨#[46]⟩ : ByteArray)).toList == [10]) = false := by decide +kernel
                have p2 : (((⟨#[46]⟩ : ByteArray)).toList != [10]) = true := by decide +kernel
                have q3 : (((⟨#[226, 150, 161]⟩ : ByteArray)).toList == [35]) = false := by decide +kernel
                have p3 : (((⟨#[226, 150, 161]⟩ : ByteArray)).toList != [35]) = true := by decide +kernel
                have q4 : (((⟨#[226, 150, 161]⟩ : ByteArray)).toList == [46]) = false := by decide +kernel
                have p4 : (((⟨#[226, 150, 161]⟩ : ByteArray)).toList != [46]) = true := by decide +kernel
                have q5 : (((⟨#[226, 150, 161]⟩ : ByteArray)).toList == [10]) = false := by decide +kernel
                have p5 : (((⟨#[226, 150, 161]⟩ : ByteArray)).toList != [10]) = true := by decide +kernel
                clear HDEC HD
                go_wp2
                go_roundg ((prT g).length - (i + 1))
                case measure => omega
                case rel => exact ⟨i + 1, _, by go_num, rfl, by omega, Nat.le_refl _, hsz2, HD2, HB⟩
              · have HD2 : Aside ((((t ++ ⟨#[124]⟩) ++ ⟨#[32, 194, 160]⟩) : ByteArray).data.toList = decL (howB zs) 0 ((prT g).take (i + 1))) := by
                  show _ = _
                  have e : decB 124 B = [124, 32, 194, 160] := by
                    unfold decB subB
                    simp [h1, h2]
                  rw [HDEC.out, ba_cat2, ba_cat2, HD.out, e]
                  try simp
                have hsz2 : (((t ++ ⟨#[124]⟩) ++ ⟨#[32, 194, 160]⟩) : ByteArray).size ≤ 8 * (i + 1) := by
                  rw [ByteArray.size_append, ByteArray.size_append]
                  have e1 : (⟨#[124]⟩ : ByteArray).size = 1 := rfl
                  have e2 : (⟨#[32, 194, 160]⟩ : ByteArray).size = 3 := rfl
                  rw [e1, e2]
                  omega
                have q0 : (((⟨#[124]⟩ : ByteArray)).toList == [35]) = false := by decide +kernel
                have p0 : (((⟨#[124]⟩ : ByteArray)).toList != [35]) = true := by decide +kernel
                have q1 : (((⟨#[124]⟩ : ByteArray)).toList == [46]) = false := by decide +kernel
                have p1 : (((⟨#[124]⟩ : ByteArray)).toList != [46]) = true := by decide +kernel
                have q2 : (((⟨#[124]⟩ : ByteArray)).toList == [10]) = false := by decide +kernel
                have p2 : (((⟨#[124]⟩ : ByteArray)).toList != [10]) = true := by decide +kernel
                clear HDEC HD
                go_wp2
                go_roundg ((prT g).length - (i + 1))
                case measure => omega
                case rel => exact ⟨i + 1, _, by go_num, rfl, by omega, Nat.le_refl _, hsz2, HD2, HB⟩
              · have HD2 : Aside ((((t ++ ⟨#[95]⟩) ++ ⟨#[32, 194, 160]⟩) : ByteArray).data.toList = decL (howB zs) 0 ((prT g).take (i + 1))) := by
                  show _ = _
                  have e : decB 95 B = [95, 32, 194, 160] := by
                    unfold decB subB
                    simp [h1, h2]
                  rw [HDEC.out, ba_cat2, ba_cat2, HD.out, e]
                  try simp
                have hsz2 : (((t ++ ⟨#[95]⟩) ++ ⟨#[32, 194, 160]⟩) : ByteArray).size ≤ 8 * (i + 1) := by
                  rw [ByteArray.size_append, ByteArray.size_append]
                  have e1 : (⟨#[95]⟩ : ByteArray).size = 1 := rfl
                  have e2 : (⟨#[32, 194, 160]⟩ : ByteArray).size = 3 := rfl
                  rw [e1, e2]
                  omega
                have q0 : (((⟨#[95]⟩ : ByteArray)).toList == [35]) = false := by decide +kernel
                have p0 : (((⟨#[95]⟩ : ByteArray)).toList != [35]) = true := by decide +kernel
                have q1 : (((⟨#[95]⟩ : ByteArray)).toList == [46]) = false := by decide +kernel
                have p1 : (((⟨#[95]⟩ : ByteArray)).toList != [46]) = true := by decide +kernel
                have q2 : (((⟨#[95]⟩ : ByteArray)).toList == [10]) = false := by decide +kernel
                have p2 : (((⟨#[95]⟩ : ByteArray)).toList != [10]) = true := by decide +kernel
                clear HDEC HD
                go_wp2
                go_roundg ((prT g).length - (i + 1))
                case measure => omega
                case rel => exact ⟨i + 1, _, by go_num, rfl, by omega, Nat.le_refl _, hsz2, HD2, HB⟩
              · have HD2 : Aside ((((t ++ ⟨#[13, 10, 32, 9, 10]⟩) ++ ⟨#[32, 194, 160]⟩) : ByteArray).data.toList = decL (howB zs) 0 ((prT g).take (i + 1))) := by
                  show _ = _
                  have e : decB 10 B = [13, 10, 32, 9, 10, 32, 194, 160] := by
                    unfold decB subB
                    simp [h1, h2]
                  rw [HDEC.out, ba_cat2, ba_cat2, HD.out, e]
                  try simp
                have hsz2 : (((t ++ ⟨#[13, 10, 32, 9, 10]⟩) ++ ⟨#[32, 194, 160]⟩) : ByteArray).size ≤ 8 * (i + 1) := by
                  rw [ByteArray.size_append, ByteArray.size_append]
                  have e1 : (⟨#[13, 10, 32, 9, 10]⟩ : ByteArray).size = 5 := rfl
                  have e2 : (⟨#[32, 194, 160]⟩ : ByteArray).size = 3 := rfl
                  rw [e1, e2]
                  omega
                have q0 : (((⟨#[10]⟩ : ByteArray)).toList == [35]) = false := by decide +kernel
                have p0 : (((⟨#[10]⟩ : ByteArray)).toList != [35]) = true := by decide +kernel
                have q1 : (((⟨#[10]⟩ : ByteArray)).toList == [46]) = false := by decide +kernel
                have p1 : (((⟨#[10]⟩ : ByteArray)).toList != [46]) = true := by decide +kernel
                have q2 : (((⟨#[10]⟩ : ByteArray)).toList == [10]) = true := by decide +kernel
                have p2 : (((⟨#[10]⟩ : ByteArray)).toList != [10]) = false := by decide +kernel
                have q3 : (((⟨#[13, 10, 32, 9, 10]⟩ : ByteArray)).toList == [35]) = false := by decide +kernel
                have p3 : (((⟨#[13, 10, 32, 9, 10]⟩ : ByteArray)).toList != [35]) = true := by decide +kernel
                have q4 : (((⟨#[13, 10, 32, 9, 10]⟩ : ByteArray)).toList == [46]) = false := by decide +kernel
                have p4 : (((⟨#[13, 10, 32, 9, 10]⟩ : ByteArray)).toList != [46]) = true := by decide +kernel
                have q5 : (((⟨#[13, 10, 32, 9, 10]⟩ : ByteArray)).toList == [10]) = false := by decide +kernel
                have p5 : (((⟨#[13, 10, 32, 9, 10]⟩ : ByteArray)).toList != [10]) = true := by decide +kernel
                clear HDEC HD
                go_wp2
                go_roundg ((prT g).length - (i + 1))
                case measure => omega
                case rel => exact ⟨i + 1, _, by go_num, rfl, by omega, Nat.le_refl _, hsz2, HD2, HB⟩
            · have h2 : B / 2 % 2 = 0 := by omega
              rw [h2] at hb2
              have hb2 : bits .and .u8 (B : Int) 2 = 0 := hb2
              simp only [List.mem_cons, List.not_mem_nil, or_false] at hc
              rcases hc with rfl | rfl | rfl | rfl | rfl
              · have HD2 : Aside (((t ++ ⟨#[226, 150, 160]⟩) : ByteArray).data.toList = decL (howB zs) 0 ((prT g).take (i + 1))) := by
                  show _ = _
                  have e : decB 35 B = [226, 150, 160] := by
                    unfold decB subB
                    simp [h1, h2]
                  rw [HDEC.out, ba_cat2, HD.out, e]
                  try simp
                have hsz2 : ((t ++ ⟨#[226, 150, 160]⟩) : ByteArray).size ≤ 8 * (i + 1) := by
                  rw [ByteArray.size_append]
                  have e1 : (⟨#[226, 150, 160]⟩ : ByteArray).size = 3 := rfl
                  rw [e1]
                  omega
                have q0 : (((⟨#[35]⟩ : ByteArray)).toList == [35]) = true := by decide +kernel
                have p0 : (((⟨#[35]⟩ : ByteArray)).toList != [35]) = false := by decide +kernel
                have q1 : (((⟨#[35]⟩ : ByteArray)).toList == [46]) = false := by decide +kernel
                have p1 : (((⟨#[35]⟩ : ByteArray)).toList != [46]) = true := by decide +kernel
                have q2 : (((⟨#[35]⟩ : ByteArray)).toList == [10]) = false := by decide +kernel
                have p2 : (((⟨#[35]⟩ : ByteArray)).toList != [10]) = true := by decide +kernel
                have q3 : (((⟨#[226, 150, 160]⟩ : ByteArray)).toList == [35]) = false := by decide +kernel
                have p3 : (((⟨#[226, 150, 160]⟩ : ByteArray)).toList != [35]) = true := by decide +kernel
                have q4 : (((⟨#[226, 150, 160]⟩ : ByteArray)).toList == [46]) = false := by decide +kernel
                have p4 : (((⟨#[226, 150, 160]⟩ : ByteArray)).toList != [46]) = true := by decide +kernel
                have q5 : (((⟨#[226, 150, 160]⟩ : ByteArray)).toList == [10]) = false := by decide +kernel
                have p5 : (((⟨#[226, 150, 160]⟩ : ByteArray)).toList != [10]) = true := by decide +kernel
                clear HDEC HD
                go_wp2
                go_roundg ((prT g).length - (i + 1))
                case measure => omega
                case rel => exact ⟨i + 1, _, by go_num, rfl, by omega, Nat.le_refl _, hsz2, HD2, HB⟩
              · have HD2 : Aside (((t ++ ⟨#[226, 150, 161]⟩) : ByteArray).data.toList = decL (howB zs) 0 ((prT g).take (i + 1))) := by
                  show _ = _
                  have e : decB 46 B = [226, 150, 161] := by
                    unfold decB subB
                    simp [h1, h2]
                  rw [HDEC.out, ba_cat2, HD.out, e]
                  try simp
                have hsz2 : ((t ++ ⟨#[226, 150, 161]⟩) : ByteArray).size ≤ 8 * (i + 1) := by
                  rw [ByteArray.size_append]
                  have e1 : (⟨#[226, 150, 161]⟩ : ByteArray).size = 3 := rfl
                  rw [e1]
                  omega
                have q0 : (((⟨#[46]⟩ : ByteArray)).toList == [35]) = false := by decide +kernel
                have p0 : (((⟨#[46]⟩ : ByteArray)).toList != [35]) = true := by decide +kernel
                have q1 : (((⟨#[46]⟩ : ByteArray)).toList == [46]) = true := by decide +kernel
                have p1 : (((⟨#[46]⟩ : ByteArray)).toList != [46]) = false := by decide +kernel
                have q2 : (((⟨#[46]⟩ : ByteArray)).toList == [10]) = false := by decide +kernel
                have p2 : (((⟨#[46]⟩ : ByteArray)).toList != [10]) = true := by decide +kernel
                have q3 : (((⟨#[226, 150, 161]⟩ : ByteArray)).toList == [35]) = false := by decide +kernel
                have p3 : (((⟨#[226, 150, 161]⟩ : ByteArray)).toList != [35]) = true := by decide +kernel
                have q4 : (((⟨#[226, 150, 161]⟩ : ByteArray)).toList == [46]) = false := by decide +kernel
                have p4 : (((⟨#[226, 150, 161]⟩ : ByteArray)).toList != [46]) = true := by decide +kernel
                have q5 : (((⟨#[226, 150, 161]⟩ : ByteArray)).toList == [10]) = false := by decide +kernel
                have p5 : (((⟨#[226, 150, 161]⟩ : ByteArray)).toList != [10]) = true := by decide +kernel
                clear HDEC HD
                go_wp2
                go_roundg ((prT g).length - (i + 1))
                case measure => omega
                case rel => exact ⟨i + 1, _, by go_num, rfl, by omega, Nat.le_refl _, hsz2, HD2, HB⟩
              · have HD2 : Aside (((t ++ ⟨#[124]⟩) : ByteArray).data.toList = decL (howB zs) 0 ((prT g).take (i + 1))) := by
                  show _ = _
                  have e : decB 124 B = [124] := by
                    unfold decB subB
                    simp [h1, h2]
                  rw [HDEC.out, ba_cat2, HD.out, e]
                  try simp
                have hsz2 : ((t ++ ⟨#[124]⟩) : ByteArray).size ≤ 8 * (i + 1) := by
                  rw [ByteArray.size_append]
                  have e1 : (⟨#[124]⟩ : ByteArray).size = 1 := rfl
                  rw [e1]
                  omega
                have q0 : (((⟨#[124]⟩ : ByteArray)).toList == [35]) = false := by decide +kernel
                have p0 : (((⟨#[124]⟩ : ByteArray)).toList != [35]) = true := by decide +kernel
                have q1 : (((⟨#[124]⟩ : ByteArray)).toList == [46]) = false := by decide +kernel
                have p1 : (((⟨#[124]⟩ : ByteArray)).toList != [46]) = true := by decide +kernel
                have q2 : (((⟨#[124]⟩ : ByteArray)).toList == [10]) = false := by decide +kernel
                have p2 : (((⟨#[124]⟩ : ByteArray)).toList != [10]) = true := by decide +kernel
                clear HDEC HD
                go_wp2
                go_roundg ((prT g).length - (i + 1))
                case measure => omega
                case rel => exact ⟨i + 1, _, by go_num, rfl, by omega, Nat.le_refl _, hsz2, HD2, HB⟩
              · have HD2 : Aside (((t ++ ⟨#[95]⟩) : ByteArray).data.toList = decL (howB zs) 0 ((prT g).take (i + 1))) := by
                  show _ = _
                  have e : decB 95 B = [95] := by
                    unfold decB subB
                    simp [h1, h2]
                  rw [HDEC.out, ba_cat2, HD.out, e]
                  try simp
                have hsz2 : ((t ++ ⟨#[95]⟩) : ByteArray).size ≤ 8 * (i + 1) := by
                  rw [ByteArray.size_append]
                  have e1 : (⟨#[95]⟩ : ByteArray).size = 1 := rfl
                  rw [e1]
                  omega
                have q0 : (((⟨#[95]⟩ : ByteArray)).toList == [35]) = false := by decide +kernel
                have p0 : (((⟨#[95]⟩ : ByteArray)).toList != [35]) = true := by decide +kernel
                have q1 : (((⟨#[95]⟩ : ByteArray)).toList == [46]) = false := by decide +kernel
                have p1 : (((⟨#[95]⟩ : ByteArray)).toList != [46]) = true := by decide +kernel
                have q2 : (((⟨#[95]⟩ : ByteArray)).toList == [10]) = false := by decide +kernel
                have p2 : (((⟨#[95]⟩ : ByteArray)).toList != [10]) = true := by decide +kernel
                clear HDEC HD
                go_wp2
                go_roundg ((prT g).length - (i + 1))
                case measure => omega
                case rel => exact ⟨i + 1, _, by go_num, rfl, by omega, Nat.le_refl _, hsz2, HD2, HB⟩
              · have HD2 : Aside (((t ++ ⟨#[13, 10, 32, 9, 10]⟩) : ByteArray).data.toList = decL (howB zs) 0 ((prT g).take (i + 1))) := by
                  show _ = _
                  have e : decB 10 B = [13, 10, 32, 9, 10] := by
                    unfold decB subB
                    simp [h1, h2]
                  rw [HDEC.out, ba_cat2, HD.out, e]
                  try simp
                have hsz2 : ((t ++ ⟨#[13, 10, 32, 9, 10]⟩) : ByteArray).size ≤ 8 * (i + 1) := by
                  rw [ByteArray.size_append]
                  have e1 : (⟨#[13, 10, 32, 9, 10]⟩ : ByteArray).size = 5 := rfl
                  rw [e1]
                  omega
                have q0 : (((⟨#[10]⟩ : ByteArray)).toList == [35]) = false := by decide +kernel
                have p0 : (((⟨#[10]⟩ : ByteArray)).toList != [35]) = true := by decide +kernel
                have q1 : (((⟨#[10]⟩ : ByteArray)).toList == [46]) = false := by decide +kernel
                have p1 : (((⟨#[10]⟩ : ByteArray)).toList != [46]) = true := by decide +kernel
                have q2 : (((⟨#[10]⟩ : ByteArray)).toList == [10]) = true := by decide +kernel
                have p2 : (((⟨#[10]⟩ : ByteArray)).toList != [10]) = false := by decide +kernel
                have q3 : (((⟨#[13, 10, 32, 9, 10]⟩ : ByteArray)).toList == [35]) = false := by decide +kernel
                have p3 : (((⟨#[13, 10, 32, 9, 10]⟩ : ByteArray)).toList != [35]) = true := by decide +kernel
                have q4 : (((⟨#[13, 10, 32, 9, 10]⟩ : ByteArray)).toList == [46]) = false := by decide +kernel
                have p4 : (((⟨#[13, 10, 32, 9, 10]⟩ : ByteArray)).toList != [46]) = true := by decide +kernel
                have q5 : (((⟨#[13, 10, 32, 9, 10]⟩ : ByteArray)).toList == [10]) = false := by decide +kernel
                have p5 : (((⟨#[13, 10, 32, 9, 10]⟩ : ByteArray)).toList != [10]) = true := by decide +kernel
                clear HDEC HD
                go_wp2
                go_roundg ((prT g).length - (i + 1))
                case measure => omega
                case rel => exact ⟨i + 1, _, by go_num, rfl, by omega, Nat.le_refl _, hsz2, HD2, HB⟩
          · have h1 : B % 2 = 0 := by omega
            rw [h1] at hb1
            have hb1 : bits .and .u8 (B : Int) 1 = 0 := hb1
            by_cases h2 : B / 2 % 2 = 1
            · rw [h2] at hb2
              have hb2 : bits .and .u8 (B : Int) 2 = 2 := hb2
              simp only [List.mem_cons, List.not_mem_nil, or_false] at hc
              rcases hc with rfl | rfl | rfl | rfl | rfl
              · have HD2 : Aside ((((t ++ ⟨#[35]⟩) ++ ⟨#[32, 194, 160]⟩) : ByteArray).data.toList = decL (howB zs) 0 ((prT g).take (i + 1))) := by
                  show _ = _
                  have e : decB 35 B = [35, 32, 194, 160] := by
                    unfold decB subB
                    simp [h1, h2]
                  rw [HDEC.out, ba_cat2, ba_cat2, HD.out, e]
                  try simp
                have hsz2 : (((t ++ ⟨#[35]⟩) ++ ⟨#[32, 194, 160]⟩) : ByteArray).size ≤ 8 * (i + 1) := by
                  rw [ByteArray.size_append, ByteArray.size_append]
                  have e1 : (⟨#[35]⟩ : ByteArray).size = 1 := rfl
                  have e2 : (⟨#[32, 194, 160]⟩ : ByteArray).size = 3 := rfl
                  rw [e1, e2]
                  omega
                have q0 : (((⟨#[35]⟩ : ByteArray)).toList == [35]) = true := by decide +kernel
                have p0 : (((⟨#[35]⟩ : ByteArray)).toList != [35]) = false := by decide +kernel
                have q1 : (((⟨#[35]⟩ : ByteArray)).toList == [46]) = false := by decide +kernel
                have p1 : (((⟨#[35]⟩ : ByteArray)).toList != [46]) = true := by decide +kernel
                have q2 : (((⟨#[35]⟩ : ByteArray)).toList == [10]) = false := by decide +kernel
                have p2 : (((⟨#[35]⟩ : ByteArray)).toList != [10]) = true := by decide +kernel
                clear HDEC HD
                go_wp2
                go_roundg ((prT g).length - (i + 1))
                case measure => omega
                case rel => exact ⟨i + 1, _, by go_num, rfl, by omega, Nat.le_refl _, hsz2, HD2, HB⟩
              · have HD2 : Aside ((((t ++ ⟨#[46]⟩) ++ ⟨#[32, 194, 160]⟩) : ByteArray).data.toList = decL (howB zs) 0 ((prT g).take (i + 1))) := by
                  show _ = _
                  have e : decB 46 B = [46, 32, 194, 160] := by
                    unfold decB subB
                    simp [h1, h2]
                  rw [HDEC.out, ba_cat2, ba_cat2, HD.out, e]
                  try simp
                have hsz2 : (((t ++ ⟨#[46]⟩) ++ ⟨#[32, 194, 160]⟩) : ByteArray).size ≤ 8 * (i + 1) := by
                  rw [ByteArray.size_append, ByteArray.size_append]
                  have e1 : (⟨#[46]⟩ : ByteArray).size = 1 := rfl
                  have e2 : (⟨#[32, 194, 160]⟩ : ByteArray).size = 3 := rfl
                  rw [e1, e2]
                  omega
                have q0 : (((⟨#[46]⟩ : ByteArray)).toList == [35]) = false := by decide +kernel
                have p0 : (((⟨#[46]⟩ : ByteArray)).toList != [35]) = true := by decide +kernel
                have q1 : (((⟨#[46]⟩ : ByteArray)).toList == [46]) = true := by decide +kernel
                have p1 : (((⟨#[46]⟩ : ByteArray)).toList != [46]) = false := by decide +kernel
                have q2 : (((⟨#[46]⟩ : ByteArray)).toList == [10]) = false := by decide +kernel
                have p2 : (((⟨#[46]⟩ : ByteArray)).toList != [10]) = true := by decide +kernel
                clear HDEC HD
                go_wp2
                go_roundg ((prT g).length - (i + 1))
                case measure => omega
                case rel => exact ⟨i + 1, _, by go_num, rfl, by omega, Nat.le_refl _, hsz2, HD2, HB⟩
              · have HD2 : Aside ((((t ++ ⟨#[124]⟩) ++ ⟨#[32, 194, 160]⟩) : ByteArray).data.toList = decL (howB zs) 0 ((prT g).take (i + 1))) := by
                  show _ = _
                  have e : decB 124 B = [124, 32, 194, 160] := by
                    unfold decB subB
                    simp [h1, h2]
                  rw [HDEC.out, ba_cat2, ba_cat2, HD.out, e]
                  try simp
                have hsz2 : (((t ++ ⟨#[124]⟩) ++ ⟨#[32, 194, 160]⟩) : ByteArray).size ≤ 8 * (i + 1) := by
                  rw [ByteArray.size_append, ByteArray.size_append]
                  have e1 : (⟨#[124]⟩ : ByteArray).size = 1 := rfl
                  have e2 : (⟨#[32, 194, 160]⟩ : ByteArray).size = 3 := rfl
                  rw [e1, e2]
                  omega
                have q0 : (((⟨#[124]⟩ : ByteArray)).toList == [35]) = false := by decide +kernel
                have p0 : (((⟨#[124]⟩ : ByteArray)).toList != [35]) = true := by decide +kernel
                have q1 : (((⟨#[124]⟩ : ByteArray)).toList == [46]) = false := by decide +kernel
                have p1 : (((⟨#[124]⟩ : ByteArray)).toList != [46]) = true := by decide +kernel
                have q2 : (((⟨#[124]⟩ : ByteArray)).toList == [10]) = false := by decide +kernel
                have p2 : (((⟨#[124]⟩ : ByteArray)).toList != [10]) = true := by decide +kernel
                clear HDEC HD
                go_wp2
                go_roundg ((prT g).length - (i + 1))
                case measure => omega
                case rel => exact ⟨i + 1, _, by go_num, rfl, by omega, Nat.le_refl _, hsz2, HD2, HB⟩
              · have HD2 : Aside ((((t ++ ⟨#[95]⟩) ++ ⟨#[32, 194, 160]⟩) : ByteArray).data.toList = decL (howB zs) 0 ((prT g).take (i + 1))) := by
                  show _ = _
                  have e : decB 95 B = [95, 32, 194, 160] := by
                    unfold decB subB
                    simp [h1, h2]
                  rw [HDEC.out, ba_cat2, ba_cat2, HD.out, e]
                  try simp
                have hsz2 : (((t ++ ⟨#[95]⟩) ++ ⟨#[32, 194, 160]⟩) : ByteArray).size ≤ 8 * (i + 1) := by
                  rw [ByteArray.size_append, ByteArray.size_append]
                  have e1 : (⟨#[95]⟩ : ByteArray).size = 1 := rfl
                  have e2 : (⟨#[32, 194, 160]⟩ : ByteArray).size = 3 := rfl
                  rw [e1, e2]
                  omega
                have q0 : (((⟨#[95]⟩ : ByteArray)).toList == [35]) = false := by decide +kernel
                have p0 : (((⟨#[95]⟩ : ByteArray)).toList != [35]) = true := by decide +kernel
                have q1 : (((⟨#[95]⟩ : ByteArray)).toList == [46]) = false := by decide +kernel
                have p1 : (((⟨#[95]⟩ : ByteArray)).toList != [46]) = true := by decide +kernel
                have q2 : (((⟨#[95]⟩ : ByteArray)).toList == [10]) = false := by decide +kernel
                have p2 : (((⟨#[95]⟩ : ByteArray)).toList != [10]) = true := by decide +kernel
                clear HDEC HD
                go_wp2
                go_roundg ((prT g).length - (i + 1))
                case measure => omega
                case rel => exact ⟨i + 1, _, by go_num, rfl, by omega, Nat.le_refl _, hsz2, HD2, HB⟩
              · have HD2 : Aside (((t ++ ⟨#[10]⟩) : ByteArray).data.toList = decL (howB zs) 0 ((prT g).take (i + 1))) := by
                  show _ = _
                  have e : decB 10 B = [10] := by
                    unfold decB subB
                    simp [h1, h2]
                  rw [HDEC.out, ba_cat2, HD.out, e]
                  try simp
                have hsz2 : ((t ++ ⟨#[10]⟩) : ByteArray).size ≤ 8 * (i + 1) := by
                  rw [ByteArray.size_append]
                  have e1 : (⟨#[10]⟩ : ByteArray).size = 1 := rfl
                  rw [e1]
                  omega
                have q0 : (((⟨#[10]⟩ : ByteArray)).toList == [35]) = false := by decide +kernel
                have p0 : (((⟨#[10]⟩ : ByteArray)).toList != [35]) = true := by decide +kernel
                have q1 : (((⟨#[10]⟩ : ByteArray)).toList == [46]) = false := by decide +kernel
                have p1 : (((⟨#[10]⟩ : ByteArray)).toList != [46]) = true := by decide +kernel
                have q2 : (((⟨#[10]⟩ : ByteArray)).toList == [10]) = true := by decide +kernel
                have p2 : (((⟨#[10]⟩ : ByteArray)).toList != [10]) = false := by decide +kernel
                clear HDEC HD
                go_wp2
                go_roundg ((prT g).length - (i + 1))
                case measure => omega
                case rel => exact ⟨i + 1, _, by go_num, rfl, by omega, Nat.le_refl _, hsz2, HD2, HB⟩
            · have h2 : B / 2 % 2 = 0 := by omega
              rw [h2] at hb2
              have hb2 : bits .and .u8 (B : Int) 2 = 0 := hb2
              simp only [List.mem_cons, List.not_mem_nil, or_false] at hc
              rcases hc with rfl | rfl | rfl | rfl | rfl
              · have HD2 : Aside (((t ++ ⟨#[35]⟩) : ByteArray).data.toList = decL (howB zs) 0 ((prT g).take (i + 1))) := by
                  show _ = _
                  have e : decB 35 B = [35] := by
                    unfold decB subB
                    simp [h1, h2]
                  rw [HDEC.out, ba_cat2, HD.out, e]
                  try simp
                have hsz2 : ((t ++ ⟨#[35]⟩) : ByteArray).size ≤ 8 * (i + 1) := by
                  rw [ByteArray.size_append]
                  have e1 : (⟨#[35]⟩ : ByteArray).size = 1 := rfl
                  rw [e1]
                  omega
                have q0 : (((⟨#[35]⟩ : ByteArray)).toList == [35]) = true := by decide +kernel
                have p0 : (((⟨#[35]⟩ : ByteArray)).toList != [35]) = false := by decide +kernel
                have q1 : (((⟨#[35]⟩ : ByteArray)).toList == [46]) = false := by decide +kernel
                have p1 : (((⟨#[35]⟩ : ByteArray)).toList != [46]) = true := by decide +kernel
                have q2 : (((⟨#[35]⟩ : ByteArray)).toList == [10]) = false := by decide +kernel
                have p2 : (((⟨#[35]⟩ : ByteArray)).toList != [10]) = true := by decide +kernel
                clear HDEC HD
                go_wp2
                go_roundg ((prT g).length - (i + 1))
                case measure => omega
                case rel => exact ⟨i + 1, _, by go_num, rfl, by omega, Nat.le_refl _, hsz2, HD2, HB⟩
              · have HD2 : Aside (((t ++ ⟨#[46]⟩) : ByteArray).data.toList = decL (howB zs) 0 ((prT g).take (i + 1))) := by
                  show _ = _
                  have e : decB 46 B = [46] := by
                    unfold decB subB
                    simp [h1, h2]
                  rw [HDEC.out, ba_cat2, HD.out, e]
                  try simp
                have hsz2 : ((t ++ ⟨#[46]⟩) : ByteArray).size ≤ 8 * (i + 1) := by
                  rw [ByteArray.size_append]
                  have e1 : (⟨#[46]⟩ : ByteArray).size = 1 := rfl
                  rw [e1]
                  omega
                have q0 : (((⟨#[46]⟩ : ByteArray)).toList == [35]) = false := by decide +kernel
                have p0 : (((⟨#[46]⟩ : ByteArray)).toList != [35]) = true := by decide +kernel
                have q1 : (((⟨#[46]⟩ : ByteArray)).toList == [46]) = true := by decide +kernel
                have p1 : (((⟨#[46]⟩ : ByteArray)).toList != [46]) = false := by decide +kernel
                have q2 : (((⟨#[46]⟩ : ByteArray)).toList == [10]) = false := by decide +kernel
                have p2 : (((⟨#[46]⟩ : ByteArray)).toList != [10]) = true := by decide +kernel
                clear HDEC HD
                go_wp2
                go_roundg ((prT g).length - (i + 1))
                case measure => omega
                case rel => exact ⟨i + 1, _, by go_num, rfl, by omega, Nat.le_refl _, hsz2, HD2, HB⟩
              · have HD2 : Aside (((t ++ ⟨#[124]⟩) : ByteArray).data.toList = decL (howB zs) 0 ((prT g).take (i + 1))) := by
                  show _ = _
                  have e : decB 124 B = [124] := by
                    unfold decB subB
                    simp [h1, h2]
                  rw [HDEC.out, ba_cat2, HD.out, e]
                  try simp
                have hsz2 : ((t ++ ⟨#[124]⟩) : ByteArray).size ≤ 8 * (i + 1) := by
                  rw [ByteArray.size_append]
                  have e1 : (⟨#[124]⟩ : ByteArray).size = 1 := rfl
                  rw [e1]
                  omega
                have q0 : (((⟨#[124]⟩ : ByteArray)).toList == [35]) = false := by decide +kernel
                have p0 : (((⟨#[124]⟩ : ByteArray)).toList != [35]) = true := by decide +kernel
                have q1 : (((⟨#[124]⟩ : ByteArray)).toList == [46]) = false := by decide +kernel
                have p1 : (((⟨#[124]⟩ : ByteArray)).toList != [46]) = true := by decide +kernel
                have q2 : (((⟨#[124]⟩ : ByteArray)).toList == [10]) = false := by decide +kernel
                have p2 : (((⟨#[124]⟩ : ByteArray)).toList != [10]) = true := by decide +kernel
                clear HDEC HD
                go_wp2
                go_roundg ((prT g).length - (i + 1))
                case measure => omega
                case rel => exact ⟨i + 1, _, by go_num, rfl, by omega, Nat.le_refl _, hsz2, HD2, HB⟩
              · have HD2 : Aside (((t ++ ⟨#[95]⟩) : ByteArray).data.toList = decL (howB zs) 0 ((prT g).take (i + 1))) := by
                  show _ = _
                  have e : decB 95 B = [95] := by
                    unfold decB subB
                    simp [h1, h2]
                  rw [HDEC.out, ba_cat2, HD.out, e]
                  try simp
                have hsz2 : ((t ++ ⟨#[95]⟩) : ByteArray).size ≤ 8 * (i + 1) := by
                  rw [ByteArray.size_append]
                  have e1 : (⟨#[95]⟩ : ByteArray).size = 1 := rfl
                  rw [e1]
                  omega
                have q0 : (((⟨#[95]⟩ : ByteArray)).toList == [35]) = false := by decide +kernel
                have p0 : (((⟨#[95]⟩ : ByteArray)).toList != [35]) = true := by decide +kernel
                have q1 : (((⟨#[95]⟩ : ByteArray)).toList == [46]) = false := by decide +kernel
                have p1 : (((⟨#[95]⟩ : ByteArray)).toList != [46]) = true := by decide +kernel
                have q2 : (((⟨#[95]⟩ : ByteArray)).toList == [10]) = false := by decide +kernel
                have p2 : (((⟨#[95]⟩ : ByteArray)).toList != [10]) = true := by decide +kernel
                clear HDEC HD
                go_wp2
                go_roundg ((prT g).length - (i + 1))
                case measure => omega
                case rel => exact ⟨i + 1, _, by go_num, rfl, by omega, Nat.le_refl _, hsz2, HD2, HB⟩
              · have HD2 : Aside (((t ++ ⟨#[10]⟩) : ByteArray).data.toList = decL (howB zs) 0 ((prT g).take (i + 1))) := by
                  show _ = _
                  have e : decB 10 B = [10] := by
                    unfold decB subB
                    simp [h1, h2]
                  rw [HDEC.out, ba_cat2, HD.out, e]
                  try simp
                have hsz2 : ((t ++ ⟨#[10]⟩) : ByteArray).size ≤ 8 * (i + 1) := by
                  rw [ByteArray.size_append]
                  have e1 : (⟨#[10]⟩ : ByteArray).size = 1 := rfl
                  rw [e1]
                  omega
                have q0 : (((⟨#[10]⟩ : ByteArray)).toList == [35]) = false := by decide +kernel
                have p0 : (((⟨#[10]⟩ : ByteArray)).toList != [35]) = true := by decide +kernel
                have q1 : (((⟨#[10]⟩ : ByteArray)).toList == [46]) = false := by decide +kernel
                have p1 : (((⟨#[10]⟩ : ByteArray)).toList != [46]) = true := by decide +kernel
                have q2 : (((⟨#[10]⟩ : ByteArray)).toList == [10]) = true := by decide +kernel
                have p2 : (((⟨#[10]⟩ : ByteArray)).toList != [10]) = false := by decide +kernel
                clear HDEC HD
                go_wp2
                go_roundg ((prT g).length - (i + 1))
                case measure => omega
                case rel => exact ⟨i + 1, _, by go_num, rfl, by omega, Nat.le_refl _, hsz2, HD2, HB⟩
      · have hltz : ¬ (i : Int) < ((prT g).length : Int) := by omega
        obtain rfl : i = (prT g).length := by omega
        rw [List.take_length] at HD
        have HPR : Aside (prs t = (g, 0, 0) ∧ t.size ≤ 140737488355328) := ⟨prs_deco HC.out (howB zs) HD.out, by show _ ≤ _; omega⟩
        have HB3 : Aside (Below w.heap.size w wr) := HB2.out.trans (HB.out.mono HB2.out.size)
        have HG3 : Aside (Hs wr w.heap.size g p) := HG2.out.keep HB.out
        have cP := parse_any t wr (HWB.out wr HB3.out).2 (HWB.out wr HB3.out).1 HPR.out.2
        rw [HPR.out.1] at cP
        clear HD hts
        go_wp2_with fail
        refine cP.mono ?_
        rintro e w4 ⟨q, rfl, hR4, hb4⟩
        have HB4 : Aside (Below w.heap.size w w4) := HB3.out.trans (hb4.mono HB3.out.size)
        have HG4 : Aside (Hs w4 w.heap.size g p) := HG3.out.keep hb4
        have HR4 : Aside (RG w4 g q) := hR4
        clear cP hb4 hR4 HG3
        unfold gv
        have hby := below_box w4 (.cells #[.int .i64 g.h, .int .i64 g.w, .slice q.a1 g.B.length q.c1, .slice q.a2 g.R.length q.c2, .slice q.a3 g.D.length q.c3] 24)
        have HB5 : Aside (Below w.heap.size w (w4.alloc (.cells #[.int .i64 g.h, .int .i64 g.w, .slice q.a1 g.B.length q.c1, .slice q.a2 g.R.length q.c2, .slice q.a3 g.D.length q.c3] 24))) := HB4.out.trans (hby.mono HB4.out.size)
        obtain ⟨_, k0, k1, k2, k3, k4⟩ := (HG4.out.keep hby).bx
        obtain ⟨_, j0, j1, j2, j3, j4⟩ := Bx.new w4 g q 24
        have cS := refSame_any g g p q _ HP.out.1 (HG4.out.keep hby).rg (HR4.out.below hby)
        rw [Gr.same_refl] at cS
        unfold gv at cS
        clear hby
        go_wp2_with fail
        refine cS.mono ?_
        rintro e w6 ⟨rfl, hb6⟩
        have HBZ : Aside (Below w.heap.size w w6) := HB5.out.trans (hb6.mono HB5.out.size)
        clear cS hb6 k0 k1 k2 k3 k4 j0 j1 j2 j3 j4
        go_wp2
        go_ret
        exact ⟨rfl, HBZ.out⟩
  · have hcb : ((g.chk : Int) != 0) = true := by rw [bne_iff_ne]; omega
    have hck : g.chk ≤ 52 := by
      unfold Gr.chk
      repeat' split
      all_goals omega
    have hPT : prT g = [] := if_neg hc
    rw [hPT]
    generalize g.chk = ck at *
    have e0 : (((⟨#[]⟩ : ByteArray)).toList.isEmpty) = true := by decide +kernel
    go_wp2
    go_ret
    exact ⟨rfl, HB2.out⟩
end Go.Proofs.YtkkeoonglcfhnaaDoor.Skt
/-
  SketchBlanks at the bytes that come in.
-/
namespace Go.Proofs.YtkkeoonglcfhnaaDoor.Skt
open Go Go.Lib Go.RowKit Utf Grd

theorem sketchBlanks_walk2 (g : Gr) (p : Ad) (zs : List Int) (ao : Option Addr) (cp : Nat) (w : World) (hl : g.lenOk) (hR : RG w g p) (h8 : ∀ n ∈ zs, 0 ≤ n ∧ n ≤ 255)
    (hY : ∀ i, i < zs.length → ∃ b off, ao = some ⟨b, off, none⟩ ∧ b < w.heap.size ∧ w.cell? ⟨b, off + i, none⟩ = some (.int .u8 (zs[i]?.getD 0))) (hzl : zs.length ≤ 140737488355328) (hT : Lib.Utf8Tabs 2 3 w) (hw : Wy w) :
    Calls Tryd.prog 7 #[gv g p, .slice ao zs.length cp] w fun e w' => e = .returned (.bool true) ∧ Below w.heap.size w w' := by
  have := sketchBlanks_walk g p (zs.map Int.toNat) ao cp w hl hR (fun i hi => by
    have hi' : i < zs.length := by simpa using hi
    obtain ⟨b, off, h1, h2, h3⟩ := hY i hi'
    refine ⟨b, off, h1, h2, h3.trans ?_⟩
    have hn := (h8 zs[i] (List.getElem_mem hi')).1
    rw [List.getElem?_map, List.getElem?_eq_getElem hi', Option.map_some, Option.getD_some, Option.getD_some, Int.toNat_of_nonneg hn]) (fun z hz => by
    obtain ⟨n, hn, rfl⟩ := List.mem_map.1 hz
    have := h8 n hn
    omega) (by rw [List.length_map]; exact hzl) hT hw
  rw [List.length_map] at this
  exact this
end Go.Proofs.YtkkeoonglcfhnaaDoor.Skt
