/-
  Of no program: a turn takes steps to steps and slots to slots.
-/
import Derived.Test.YthjgldjjplcncabDoorGst
import Derived.Test.YthjgldjjplcncabDoorGtk
namespace Go.Proofs.YthjgldjjplcncabDoor.Grd

/-- Is there a step in this direction (0 right, 1 down, 2 left, 3 up), and where does it lead? -/
def Fg.ex (G : Fg) (d r c : Nat) : Bool :=
  match d with
  | 0 => G.E r c
  | 1 => G.S r c
  | 2 => G.El r c
  | _ => G.Su r c
def Pl.mv (P : Pl) (d : Nat) : Pl :=
  match d with
  | 0 => ⟨P.h, P.w, P.r, P.c + 1⟩
  | 1 => ⟨P.h, P.w, P.r + 1, P.c⟩
  | 2 => ⟨P.h, P.w, P.r, P.c - 1⟩
  | _ => ⟨P.h, P.w, P.r - 1, P.c⟩
theorem four {d : Nat} (h : d < 4) : d = 0 ∨ d = 1 ∨ d = 2 ∨ d = 3 := by omega
theorem Fg.ex_q {G : Fg} {P : Pl} (h : G.Of P) {d : Nat} (hd : d < 4) : G.q.ex ((d + 1) % 4) P.q.r P.q.c = G.ex d P.r P.c := by
  obtain ⟨h1, h2, h3, h4⟩ := h
  have e : G.H - 1 - (P.h - 1 - P.r) = P.r := by omega
  have h5 : P.h - 1 - P.r < G.H := by omega
  rcases four hd with rfl | rfl | rfl | rfl
  · show G.q.S P.c (P.h - 1 - P.r) = G.E P.r P.c
    rw [Fg.q_S h4 h5, e]
  · show G.q.El P.c (P.h - 1 - P.r) = G.S P.r P.c
    rw [Fg.q_El h4 h5, e]
  · show G.q.Su P.c (P.h - 1 - P.r) = G.El P.r P.c
    rw [Fg.q_Su h4 h5, e]
  · show G.q.E P.c (P.h - 1 - P.r) = G.Su P.r P.c
    rw [Fg.q_E h4 h5, e]
theorem Fg.ex_m {G : Fg} {P : Pl} (h : G.Of P) {d : Nat} (hd : d < 4) : G.m.ex ((6 - d) % 4) P.m.r P.m.c = G.ex d P.r P.c := by
  obtain ⟨h1, h2, h3, h4⟩ := h
  have e : G.W - 1 - (P.w - 1 - P.c) = P.c := by omega
  have h5 : P.w - 1 - P.c < G.W := by omega
  rcases four hd with rfl | rfl | rfl | rfl
  · show G.m.El P.r (P.w - 1 - P.c) = G.E P.r P.c
    rw [Fg.m_El h3 h5, e]
  · show G.m.S P.r (P.w - 1 - P.c) = G.S P.r P.c
    rw [Fg.m_S h5, e]
  · show G.m.E P.r (P.w - 1 - P.c) = G.El P.r P.c
    rw [Fg.m_E h3 h5, e]
  · show G.m.Su P.r (P.w - 1 - P.c) = G.Su P.r P.c
    rw [Fg.m_Su h5, e]
theorem Fg.ex_in {G : Fg} {d r c : Nat} (hd : d < 4) (h : G.ex d r c = true) : r < G.H ∧ c < G.W ∧ (d = 0 → c + 1 < G.W) ∧ (d = 1 → r + 1 < G.H) ∧ (d = 2 → 0 < c) ∧ (d = 3 → 0 < r) := by
  rcases four hd with rfl | rfl | rfl | rfl
  · obtain ⟨hp, _⟩ := band_true (show (decide (r < G.H ∧ c + 1 < G.W) && _) = true from h)
    omega
  · obtain ⟨hp, _⟩ := band_true (show (decide (r + 1 < G.H ∧ c < G.W) && _) = true from h)
    omega
  · obtain ⟨h0, h1⟩ := band_true (show (decide (0 < c) && G.E r (c - 1)) = true from h)
    obtain ⟨hp, _⟩ := band_true (show (decide (r < G.H ∧ c - 1 + 1 < G.W) && _) = true from h1)
    omega
  · obtain ⟨h0, h1⟩ := band_true (show (decide (0 < r) && G.S (r - 1) c) = true from h)
    obtain ⟨hp, _⟩ := band_true (show (decide (r - 1 + 1 < G.H ∧ c < G.W) && _) = true from h1)
    omega
theorem Fg.mv_q {G : Fg} {P : Pl} (h : G.Of P) {d : Nat} (hd : d < 4) (hx : G.ex d P.r P.c = true) : (P.mv d).q = P.q.mv ((d + 1) % 4) := by
  obtain ⟨i1, i2, i3, i4, i5, i6⟩ := Fg.ex_in hd hx
  obtain ⟨h1, h2, h3, h4⟩ := h
  rcases four hd with rfl | rfl | rfl | rfl
  · rfl
  · exact Pl.ext rfl rfl rfl (by show P.h - 1 - (P.r + 1) = P.h - 1 - P.r - 1; omega)
  · rfl
  · exact Pl.ext rfl rfl rfl (by show P.h - 1 - (P.r - 1) = P.h - 1 - P.r + 1; have := i6 rfl; omega)
theorem Fg.mv_m {G : Fg} {P : Pl} (h : G.Of P) {d : Nat} (hd : d < 4) (hx : G.ex d P.r P.c = true) : (P.mv d).m = P.m.mv ((6 - d) % 4) := by
  obtain ⟨i1, i2, i3, i4, i5, i6⟩ := Fg.ex_in hd hx
  obtain ⟨h1, h2, h3, h4⟩ := h
  rcases four hd with rfl | rfl | rfl | rfl
  · exact Pl.ext rfl rfl rfl (by show P.w - 1 - (P.c + 1) = P.w - 1 - P.c - 1; omega)
  · rfl
  · exact Pl.ext rfl rfl rfl (by show P.w - 1 - (P.c - 1) = P.w - 1 - P.c + 1; have := i5 rfl; omega)
  · rfl
theorem Fg.mv_of {G : Fg} {P : Pl} (h : G.Of P) {d : Nat} (hd : d < 4) (hx : G.ex d P.r P.c = true) : G.Of (P.mv d) := by
  obtain ⟨i1, i2, i3, i4, i5, i6⟩ := Fg.ex_in hd hx
  obtain ⟨h1, h2, h3, h4⟩ := h
  rcases four hd with rfl | rfl | rfl | rfl
  · exact ⟨h1, h2, h3, i3 rfl⟩
  · exact ⟨h1, h2, i4 rfl, h4⟩
  · exact ⟨h1, h2, h3, by show P.c - 1 < G.W; omega⟩
  · exact ⟨h1, h2, by show P.r - 1 < G.H; omega, h4⟩
def Fg.lk (G : Fg) (P : Pl) (d : Nat) : Option Pl := if G.ex d P.r P.c then some (P.mv d) else none
theorem Fg.lk_of {G : Fg} {P Q : Pl} (h : G.Of P) {d : Nat} (hd : d < 4) (hl : G.lk P d = some Q) : G.Of Q := by
  unfold Fg.lk at hl
  by_cases hx : G.ex d P.r P.c = true
  · rw [if_pos hx] at hl
    obtain rfl := Option.some.inj hl
    exact Fg.mv_of h hd hx
  · rw [if_neg hx] at hl; cases hl
theorem Fg.lk_q {G : Fg} {P : Pl} (h : G.Of P) {d : Nat} (hd : d < 4) : G.q.lk P.q ((d + 1) % 4) = (G.lk P d).map Pl.q := by
  unfold Fg.lk
  rw [Fg.ex_q h hd]
  by_cases hx : G.ex d P.r P.c = true
  · rw [if_pos hx, if_pos hx, ← Fg.mv_q h hd hx]; rfl
  · rw [if_neg hx, if_neg hx]; rfl
theorem Fg.lk_m {G : Fg} {P : Pl} (h : G.Of P) {d : Nat} (hd : d < 4) : G.m.lk P.m ((6 - d) % 4) = (G.lk P d).map Pl.m := by
  unfold Fg.lk
  rw [Fg.ex_m h hd]
  by_cases hx : G.ex d P.r P.c = true
  · rw [if_pos hx, if_pos hx, ← Fg.mv_m h hd hx]; rfl
  · rw [if_neg hx, if_neg hx]; rfl
theorem Fg.lk_qs {G : Fg} {P : Pl} (h : G.Of P) {d : Nat} (hd : d < 4) : ∀ n, (G.qs n).Of (P.qs n) ∧ (G.qs n).lk (P.qs n) ((d + n) % 4) = (G.lk P d).map (fun Q => Q.qs n)
  | 0 => ⟨h, by
      rw [show (d + 0) % 4 = d by omega]
      show G.lk P d = Option.map (fun Q => Q) (G.lk P d)
      cases G.lk P d <;> rfl⟩
  | n + 1 => by
    obtain ⟨h1, h2⟩ := Fg.lk_qs h hd n
    refine ⟨Fg.of_q h1, ?_⟩
    have e : (d + (n + 1)) % 4 = ((d + n) % 4 + 1) % 4 := by omega
    show (G.qs n).q.lk (P.qs n).q _ = _
    rw [e, Fg.lk_q h1 (Nat.mod_lt _ (by omega)), h2, Option.map_map]
    rfl
/-- Where a turn takes a direction. -/
def td (k d : Nat) : Nat := ((if 3 < k then (6 - d) % 4 else d) + k % 4) % 4
theorem td_lt (k d : Nat) : td k d < 4 := Nat.mod_lt _ (by omega)
theorem td_two (k : Nat) {d : Nat} (hd : d < 2) : td k (d + 2) = (td k d + 2) % 4 := by
  unfold td
  by_cases h : 3 < k
  · rw [if_pos h, if_pos h]; omega
  · rw [if_neg h, if_neg h]; omega
theorem Fg.lk_turn {G : Fg} {P : Pl} (h : G.Of P) {d : Nat} (hd : d < 4) (k : Nat) : (G.turn k).lk (P.turn k) (td k d) = (G.lk P d).map (fun Q => Q.turn k) := by
  unfold Fg.turn Pl.turn td
  by_cases hk : 3 < k
  · simp only [if_pos hk]
    rw [(Fg.lk_qs (Fg.of_m h) (Nat.mod_lt _ (by omega)) (k % 4)).2, Fg.lk_m h hd, Option.map_map]
    rfl
  · simp only [if_neg hk]
    exact (Fg.lk_qs h hd (k % 4)).2

def Gr.pl (g : Gr) (i : Nat) : Pl := ⟨g.H, g.W, i / g.W, i % g.W⟩
def Pl.ix (P : Pl) : Nat := P.r * P.w + P.c
theorem Gr.of_pl {g : Gr} {i : Nat} (hi : i < g.n) : g.fg.Of (g.pl i) := ⟨rfl, rfl, (div_in (h := g.H) (w := g.W) hi).1, (div_in (h := g.H) (w := g.W) hi).2⟩
theorem Gr.pl_ix {g : Gr} {P : Pl} (h : g.fg.Of P) : g.pl P.ix = P := by
  obtain ⟨h1, h2, h3, h4⟩ := h
  have h2' : P.w = g.W := h2
  have h4' : P.c < g.W := h4
  unfold Gr.pl Pl.ix
  rw [h2']
  exact Pl.ext h1.symm h2.symm (at_div h4') (at_mod h4')
theorem Gr.st_lk {g : Gr} {i d : Nat} (hi : i < g.n) (hd : d < 4) : g.st i d = (g.fg.lk (g.pl i) d).map Pl.ix := by
  obtain ⟨hr, hc⟩ := div_in (h := g.H) (w := g.W) hi
  have hb := at_back g.W i
  have hx : (g.st i d).isSome = g.fg.ex d (g.pl i).r (g.pl i).c := by
    rcases four hd with rfl | rfl | rfl | rfl
    · have := Gr.fg_E hr hc; rw [hb] at this; exact this
    · have := Gr.fg_S hr hc; rw [hb] at this; exact this
    · have := Gr.fg_El hr hc; rw [hb] at this; exact this
    · have := Gr.fg_Su hr hc; rw [hb] at this; exact this
  unfold Fg.lk
  cases hs : g.st i d with
  | none =>
    rw [hs] at hx
    rw [← hx]
    rfl
  | some j =>
    rw [hs] at hx
    rw [← hx]
    simp only [Option.isSome_some, if_true, Option.map_some, Option.some.injEq]
    have ho := Gr.st_opn hs
    have hin := Fg.ex_in hd hx.symm
    simp only [Gr.pl] at hin
    rcases four hd with rfl | rfl | rfl | rfl
    · rw [Gr.st0 ho] at hs
      obtain ⟨_, rfl⟩ := if_some hs
      show i + 1 = i / g.W * g.W + (i % g.W + 1)
      omega
    · rw [Gr.st1 ho] at hs
      obtain ⟨_, rfl⟩ := if_some hs
      show i + g.W = (i / g.W + 1) * g.W + i % g.W
      rw [Nat.succ_mul]
      omega
    · rw [Gr.st2 ho] at hs
      obtain ⟨_, rfl⟩ := if_some hs
      have h0 := hin.2.2.2.2.1 rfl
      show i - 1 = i / g.W * g.W + (i % g.W - 1)
      omega
    · rw [Gr.st3 ho] at hs
      obtain ⟨_, rfl⟩ := if_some hs
      have h0 := hin.2.2.2.2.2 rfl
      show i - g.W = (i / g.W - 1) * g.W + i % g.W
      obtain ⟨q, hq⟩ : ∃ q, i / g.W = q + 1 := ⟨i / g.W - 1, by omega⟩
      rw [hq] at hb ⊢
      rw [Nat.succ_mul] at hb
      rw [Nat.add_sub_cancel]
      omega
/-- STEPS GO TO STEPS. -/
theorem Gr.st_turn {g : Gr} {i d : Nat} (hi : i < g.n) (hd : d < 4) (k : Nat) : (g.turn k).st (plc g.H g.W i k) (td k d) = (g.st i d).map (fun j => plc g.H g.W j k) := by
  have hP := Gr.of_pl hi
  have hQ : (g.turn k).fg.Of ((g.pl i).turn k) := by rw [Gr.turn_fg]; exact (Fg.go_turn hP hP k).1
  have e0 : plc g.H g.W i k = ((g.pl i).turn k).ix := rfl
  have hlt : ((g.pl i).turn k).ix < (g.turn k).n := by
    have h1 := hQ
    obtain ⟨a1, a2, a3, a4⟩ := h1
    have a2' : ((g.pl i).turn k).w = (g.turn k).W := a2
    unfold Pl.ix
    rw [a2']
    exact Grd.at_lt a3 a4
  rw [e0, Gr.st_lk hlt (td_lt k d), Gr.pl_ix hQ, Gr.turn_fg, Fg.lk_turn hP hd k, Gr.st_lk hi hd, Option.map_map, Option.map_map]
  cases hl : g.fg.lk (g.pl i) d with
  | none => rfl
  | some Q =>
    have hO := Fg.lk_of hP hd hl
    show some _ = some _
    have : (Q.turn k).ix = plc g.H g.W Q.ix k := by
      show _ = ((g.pl Q.ix).turn k).ix
      rw [Gr.pl_ix hO]
    exact congrArg some this

theorem Gr.run_of {g : Gr} (hW : 0 < g.W) {d : Nat} (hd : d < 2) : ∀ (l : List Nat) (a : Nat), l[0]? = some a → (∀ j c, l[j]? = some c → g.st c d = l[j + 1]?) → g.run d a = l
  | [], a, h, _ => by simp at h
  | [x], a, h, hc => by
    simp at h
    subst h
    exact Gr.run_none (by simpa using hc 0 x rfl)
  | x :: y :: l, a, h, hc => by
    simp at h
    subst h
    rw [Gr.run_some hW hd (show g.st x d = some y from hc 0 x rfl), Gr.run_of hW hd (y :: l) y rfl (fun j c hj => hc (j + 1) c hj)]
theorem Gr.mem_slTo_of {g : Gr} {d i : Nat} (hd : d < 2) (hb : g.beg d i = true) : ∀ m, i < m → ∃ s ∈ g.slTo m, s.cs = g.run d i
  | 0, h => by omega
  | m + 1, h => by
    simp only [Gr.slTo]
    by_cases e : i < m
    · obtain ⟨s, h1, h2⟩ := Gr.mem_slTo_of hd hb m e
      exact ⟨s, List.mem_append_left _ h1, h2⟩
    · obtain rfl : i = m := by omega
      have : d = 0 ∨ d = 1 := by omega
      rcases this with rfl | rfl
      · refine ⟨⟨g.numTo (i + 1), false, g.run 0 i⟩, List.mem_append_right _ (List.mem_append_left _ ?_), rfl⟩
        rw [if_pos hb]; exact List.mem_singleton.2 rfl
      · refine ⟨⟨g.numTo (i + 1), true, g.run 1 i⟩, List.mem_append_right _ (List.mem_append_right _ ?_), rfl⟩
        rw [if_pos hb]; exact List.mem_singleton.2 rfl
theorem Gr.mem_sl_of {g : Gr} (hok : g.ok) {d i : Nat} (hd : d < 2) (hi : i < g.n) (hb : g.beg d i = true) : ∃ s ∈ g.sl, s.cs = g.run d i := by
  unfold Gr.sl
  rw [if_pos hok]
  exact Gr.mem_slTo_of hd hb g.n hi
/-- SLOTS GO TO SLOTS. -/
theorem Gr.sl_turn {g : Gr} (hok : g.ok) (k : Nat) {s : Sl} (hs : s ∈ g.sl) : ∃ o ∈ (g.turn k).sl, o.cs = s.cs.map (fun c => plc g.H g.W c k) ∨ o.cs = (s.cs.map (fun c => plc g.H g.W c k)).reverse := by
  have hR := Gr.right_of hok
  have hT := Gr.ok_of_right (Gr.turn_right hR k)
  have hTR := Gr.turn_right hR k
  have hW : 0 < g.W := by have := hR.sw.1; omega
  have hTW : 0 < (g.turn k).W := by have := hTR.sw.1; omega
  obtain ⟨_, i, hi, hS⟩ := Gr.mem_sl hs
  have hd := way_lt s.dn
  have hlen := hS.two hW
  obtain ⟨hf0, hfn⟩ := hS.first
  have hcs := hS.cs
  generalize way s.dn = d at *
  have hchain : ∀ j c, s.cs[j]? = some c → g.st c d = s.cs[j + 1]? := fun j c h => by rw [hcs] at h ⊢; exact Gr.run_chain hW hd h
  have hcell : ∀ j c, s.cs[j]? = some c → c < g.n := fun j c h => by rw [hcs] at h; exact Gr.run_lt hW hd hi j c h
  obtain ⟨l, hl⟩ : ∃ l, l = s.cs.map (fun c => plc g.H g.W c k) := ⟨_, rfl⟩
  rw [← hl]
  have hll : l.length = s.cs.length := by rw [hl, List.length_map]
  have hTn : ∀ c, c < g.n → plc g.H g.W c k < (g.turn k).n := fun c hc => by
    have h1 := plc_lt (h := g.H) (w := g.W) hc k
    have h2 : (g.turn k).n = g.H * g.W := by
      show (g.fg.turn k).gr.n = _
      rw [Fg.gr_n, (Fg.turn_hw g.fg k).1, (Fg.turn_hw g.fg k).2]
      by_cases e : k % 2 = 1
      · rw [if_pos e, if_pos e]; exact Nat.mul_comm _ _
      · rw [if_neg e, if_neg e]; rfl
    omega
  have tchain : ∀ j x, l[j]? = some x → (g.turn k).st x (td k d) = l[j + 1]? := fun j x h => by
    rw [hl, List.getElem?_map] at h
    obtain ⟨c, h1, rfl⟩ := Option.map_eq_some_iff.1 h
    rw [Gr.st_turn (hcell j c h1) (by omega) k, hchain j c h1, hl, List.getElem?_map]
  have tin : ∀ j x, l[j]? = some x → x < (g.turn k).n := fun j x h => by
    rw [hl, List.getElem?_map] at h
    obtain ⟨c, h1, rfl⟩ := Option.map_eq_some_iff.1 h
    exact hTn c (hcell j c h1)
  have t0 : l[0]? = some (plc g.H g.W i k) := by rw [hl, List.getElem?_map, hf0]; rfl
  have tn : (g.turn k).st (plc g.H g.W i k) ((td k d + 2) % 4) = none := by
    rw [← td_two k hd, Gr.st_turn hi (by omega) k, hfn]; rfl
  have hd4 := td_lt k d
  generalize hT' : g.turn k = T at *
  generalize td k d = e at *
  generalize plc g.H g.W i k = a at *
  clear hchain hcell hTn hT' hl hfn hf0 hcs hS
  by_cases he : e < 2
  · have hrun := Gr.run_of hTW he l a t0 tchain
    have hb : T.beg e a = true := by
      unfold Gr.beg
      rw [show (e + 2) % 4 = e + 2 by omega] at tn
      rw [tn, tchain 0 a t0, List.getElem?_eq_getElem (by omega)]
      rfl
    obtain ⟨o, h1, h2⟩ := Gr.mem_sl_of hT he (tin 0 a t0) hb
    exact ⟨o, h1, .inl (h2.trans hrun)⟩
  · have hat : ∀ j, j < l.length → l.reverse[j]? = l[l.length - 1 - j]? := fun j hj => List.getElem?_reverse hj
    have rchain : ∀ j x, l.reverse[j]? = some x → T.st x (e - 2) = l.reverse[j + 1]? := fun j x h => by
      have hj : j < l.length := by have := (List.getElem?_eq_some_iff.1 h).1; simpa using this
      rw [hat j hj] at h
      by_cases hz : j + 1 = l.length
      · rw [show l.length - 1 - j = 0 by omega, t0] at h
        obtain rfl := Option.some.inj h
        rw [show (e + 2) % 4 = e - 2 by omega] at tn
        rw [tn]
        exact (List.getElem?_eq_none (by simp; omega)).symm
      · rw [hat (j + 1) (by omega)]
        have hm : l.length - 1 - j = l.length - 1 - (j + 1) + 1 := by omega
        have hy : l[l.length - 1 - (j + 1)]? = some (l[l.length - 1 - (j + 1)]'(by omega)) := List.getElem?_eq_getElem (by omega)
        have hst := tchain _ _ hy
        rw [← hm, h] at hst
        have hbk := Gr.st_back hTW hst
        rw [show (e + 2) % 4 = e - 2 by omega] at hbk
        rw [hbk, hy]
    obtain ⟨z, hz⟩ : ∃ z, l.reverse[0]? = some z := ⟨_, List.getElem?_eq_getElem (by simp; omega)⟩
    have hrun := Gr.run_of hTW (show e - 2 < 2 by omega) l.reverse z hz rchain
    have hz2 : l[l.length - 1]? = some z := by rw [← hz, hat 0 (by omega)]; rfl
    have hb : T.beg (e - 2) z = true := by
      unfold Gr.beg
      have h1 : T.st z (e - 2 + 2) = none := by
        rw [show e - 2 + 2 = e by omega, tchain _ _ hz2]
        exact List.getElem?_eq_none (by omega)
      rw [h1, rchain 0 z hz, List.getElem?_eq_getElem (by simp; omega)]
      rfl
    obtain ⟨o, h1, h2⟩ := Gr.mem_sl_of hT (by omega) (tin _ _ hz2) hb
    exact ⟨o, h1, .inr (h2.trans hrun)⟩
end Go.Proofs.YthjgldjjplcncabDoor.Grd
