/-
  RingOnce's step (layer 7): nobody may begin any more; and all ways as one.
-/
import Derived.Test.YtfmiamjbhlglbaaStc
namespace Go.Proofs.Ytfmiamjbhlglbaa
open Go.RowKit Go.Maps

set_option maxHeartbeats 4000000 in
theorem stp_idle0 (mA : Option Addr) (mc : Nat) (ms : List Int) (gh hcp : Nat) (hs : List Hd) (b n : Nat) (G : Int → Nat) (cap nx lf who : Nat) (hlf : lf = 0) (pops : Bool) (w : World) (R : RcI w mA ms gh hs b n G) (hw : who < hs.length)
    (k p v t bb : Int) (wn : Bool) (s : Int) (hh : hth hs who = ⟨k, p, v, t, bb, wn, s⟩) (hk : k = 0) :
    Calls Try.prog 20 #[.agg #[.slice mA ms.length mc, .int .i64 0, .int .i64 cap, .slice (some ⟨gh, 0, none⟩) hs.length hcp, .map (some b), .int .i64 nx, .int .i64 lf, .bool false], .int .i64 who, .bool pops] w (StpOf cap b n w ms hs G nx lf) := by
  have k0 := (Bk.new w 49 #[.slice mA ms.length mc, .int .i64 0, .int .i64 cap, .slice (some ⟨gh, 0, none⟩) hs.length hcp, .map (some b), .int .i64 nx, .int .i64 lf, .bool false]).alloc (.cells #[.slice none 0 0, .int .i64 0, .int .i64 0, .slice none 0 0, .map none, .int .i64 0, .int .i64 0, .bool false] 49)
  have k1 := Bk.new (w.alloc (.cells #[.slice mA ms.length mc, .int .i64 0, .int .i64 cap, .slice (some ⟨gh, 0, none⟩) hs.length hcp, .map (some b), .int .i64 nx, .int .i64 lf, .bool false] 49)) 49 #[.slice none 0 0, .int .i64 0, .int .i64 0, .slice none 0 0, .map none, .int .i64 0, .int .i64 0, .bool false]
  rw [size_alloc] at k1
  have bl := two_boxes w #[.slice mA ms.length mc, .int .i64 0, .int .i64 cap, .slice (some ⟨gh, 0, none⟩) hs.length hcp, .map (some b), .int .i64 nx, .int .i64 lf, .bool false] #[.slice none 0 0, .int .i64 0, .int .i64 0, .slice none 0 0, .map none, .int .i64 0, .int .i64 0, .bool false] 49 49
  obtain ⟨W, hW⟩ : ∃ W, (w.alloc (.cells #[.slice mA ms.length mc, .int .i64 0, .int .i64 cap, .slice (some ⟨gh, 0, none⟩) hs.length hcp, .map (some b), .int .i64 nx, .int .i64 lf, .bool false] 49)).alloc (.cells #[.slice none 0 0, .int .i64 0, .int .i64 0, .slice none 0 0, .map none, .int .i64 0, .int .i64 0, .bool false] 49) = W := ⟨_, rfl⟩
  rw [hW] at k0 k1 bl
  have HW := Lib.hid hW
  have R0 := R.below bl
  have hlz : ((lf : Int) == 0) = true := by subst hlf; rfl
  have hkb : (k == 0) = true := by simpa using hk
  clear hlf
  have ha7 := (R0.h.at_ hw).1
  rw [hh] at ha7
  have c0 : _ = some (Value.int .i64 k) := ha7 0 (by omega)
  have c1 : _ = some (Value.int .i64 p) := ha7 1 (by omega)
  have c2 : _ = some (Value.int .i64 v) := ha7 2 (by omega)
  have c3 : _ = some (Value.int .i64 t) := ha7 3 (by omega)
  have c4 : _ = some (Value.int .i64 bb) := ha7 4 (by omega)
  have c5 : _ = some (Value.bool wn) := ha7 5 (by omega)
  have c6 : _ = some (Value.int .i64 s) := ha7 6 (by omega)
  rw [Nat.add_zero] at c0
  have x3 : _ = some (Value.slice (some ⟨gh, 0, none⟩) hs.length hcp) := k0.cell 3
  have ls := k0.lt
  obtain ⟨gh', eg, -, lgh⟩ := R0.h.form
  obtain rfl : gh = gh' := by injection eg with eg; injection eg
  have ba := (Below.refl W.heap.size W).alloc (Nat.le_refl _) (.cells #[.int .i64 k, .int .i64 p, .int .i64 v, .int .i64 t, .int .i64 bb, .bool wn, .int .i64 s] 27)
  have k0a := k0.below ba k0.lt
  have k1a := k1.below ba k1.lt
  have bla := below3 bl ba
  have y6 : _ = some (Value.int .i64 lf) := k0a.cell 6
  have lsa := k0a.lt
  have Ra := Lib.hid (R.below (below_set8 bla (by omega : w.heap.size ≤ w.heap.size + 1) (.slice mA ms.length mc) (.int .i64 0) (.int .i64 cap) (.slice (some ⟨gh, 0, none⟩) hs.length hcp) (.map (some b)) (.int .i64 nx) (.int .i64 lf) (.bool false)))
  have B8 := Lib.hid (below_set8 bla (by omega : w.heap.size ≤ w.heap.size + 1) (.slice mA ms.length mc) (.int .i64 0) (.int .i64 cap) (.slice (some ⟨gh, 0, none⟩) hs.length hcp) (.map (some b)) (.int .i64 nx) (.int .i64 lf) (.bool false))
  have K2 := Lib.hid (bk_set8 k1a (.slice mA ms.length mc) (.int .i64 0) (.int .i64 cap) (.slice (some ⟨gh, 0, none⟩) hs.length hcp) (.map (some b)) (.int .i64 nx) (.int .i64 lf) (.bool false))
  have KA := Lib.hid k0a
  have K1A := Lib.hid k1a
  clear hW k0 k1 bl R0 ha7 ba k0a k1a bla hk R eg hh
  go_enter Try.func20, Try.ntmps20
  go_upto_region 1 with fail
  rw [HW.out]
  clear HW
  go_upto_region 4 with fail
  clear y6
  obtain ⟨x0, x1, x2, x3', x4, x5, x6, x7⟩ := KA.out.c8
  obtain ⟨y0, y1, y2, y3, y4, y5, y6, y7⟩ := K1A.out.c8
  obtain ⟨g0, g1, g2, g3, g4', g5, g6, g7⟩ := K1A.out.f8
  have lq := KA.out.lt
  have lr := K1A.out.lt
  go_wp2
  obtain ⟨r0, r1, r2, r3, r4, r5, r6, r7⟩ := K2.out.c8
  unfold set8 at r0 r1 r2 r3 r4 r5 r6 r7
  exact bodyPost_ret (v := .agg #[.slice mA ms.length mc, .int .i64 0, .int .i64 cap, .slice (some ⟨gh, 0, none⟩) hs.length hcp, .map (some b), .int .i64 nx, .int .i64 lf, .bool false]) (by simp [results, Try.results20, go_sem, r0, r1, r2, r3, r4, r5, r6, r7]) rfl ⟨mA, mc, gh, hcp, by unfold raceC; rfl, Ra.out, Below.gb B8.out⟩

set_option maxHeartbeats 4000000 in
theorem stp_idle1 (mA : Option Addr) (mc : Nat) (ms : List Int) (gh hcp : Nat) (hs : List Hd) (b n : Nat) (G : Int → Nat) (cap nx lf who : Nat) (hlf : lf = 0) (pops : Bool) (w : World) (R : RcI w mA ms gh hs b n G) (hw : who < hs.length)
    (k p v t bb : Int) (wn : Bool) (s : Int) (hh : hth hs who = ⟨k, p, v, t, bb, wn, s⟩) (hk : k ≠ 0) (hsx : s ≠ 0) :
    Calls Try.prog 20 #[.agg #[.slice mA ms.length mc, .int .i64 0, .int .i64 cap, .slice (some ⟨gh, 0, none⟩) hs.length hcp, .map (some b), .int .i64 nx, .int .i64 lf, .bool false], .int .i64 who, .bool pops] w (StpOf cap b n w ms hs G nx lf) := by
  have k0 := (Bk.new w 49 #[.slice mA ms.length mc, .int .i64 0, .int .i64 cap, .slice (some ⟨gh, 0, none⟩) hs.length hcp, .map (some b), .int .i64 nx, .int .i64 lf, .bool false]).alloc (.cells #[.slice none 0 0, .int .i64 0, .int .i64 0, .slice none 0 0, .map none, .int .i64 0, .int .i64 0, .bool false] 49)
  have k1 := Bk.new (w.alloc (.cells #[.slice mA ms.length mc, .int .i64 0, .int .i64 cap, .slice (some ⟨gh, 0, none⟩) hs.length hcp, .map (some b), .int .i64 nx, .int .i64 lf, .bool false] 49)) 49 #[.slice none 0 0, .int .i64 0, .int .i64 0, .slice none 0 0, .map none, .int .i64 0, .int .i64 0, .bool false]
  rw [size_alloc] at k1
  have bl := two_boxes w #[.slice mA ms.length mc, .int .i64 0, .int .i64 cap, .slice (some ⟨gh, 0, none⟩) hs.length hcp, .map (some b), .int .i64 nx, .int .i64 lf, .bool false] #[.slice none 0 0, .int .i64 0, .int .i64 0, .slice none 0 0, .map none, .int .i64 0, .int .i64 0, .bool false] 49 49
  obtain ⟨W, hW⟩ : ∃ W, (w.alloc (.cells #[.slice mA ms.length mc, .int .i64 0, .int .i64 cap, .slice (some ⟨gh, 0, none⟩) hs.length hcp, .map (some b), .int .i64 nx, .int .i64 lf, .bool false] 49)).alloc (.cells #[.slice none 0 0, .int .i64 0, .int .i64 0, .slice none 0 0, .map none, .int .i64 0, .int .i64 0, .bool false] 49) = W := ⟨_, rfl⟩
  rw [hW] at k0 k1 bl
  have HW := Lib.hid hW
  have R0 := R.below bl
  have hlz : ((lf : Int) == 0) = true := by subst hlf; rfl
  have hkb : (k == 0) = false := by simpa using hk
  have hsb0 : (s == 0) = false := by simpa using hsx
  have hsb1 : (s != 0) = true := by simpa using hsx
  clear hlf
  have ha7 := (R0.h.at_ hw).1
  rw [hh] at ha7
  have c0 : _ = some (Value.int .i64 k) := ha7 0 (by omega)
  have c1 : _ = some (Value.int .i64 p) := ha7 1 (by omega)
  have c2 : _ = some (Value.int .i64 v) := ha7 2 (by omega)
  have c3 : _ = some (Value.int .i64 t) := ha7 3 (by omega)
  have c4 : _ = some (Value.int .i64 bb) := ha7 4 (by omega)
  have c5 : _ = some (Value.bool wn) := ha7 5 (by omega)
  have c6 : _ = some (Value.int .i64 s) := ha7 6 (by omega)
  rw [Nat.add_zero] at c0
  have x3 : _ = some (Value.slice (some ⟨gh, 0, none⟩) hs.length hcp) := k0.cell 3
  have ls := k0.lt
  obtain ⟨gh', eg, -, lgh⟩ := R0.h.form
  obtain rfl : gh = gh' := by injection eg with eg; injection eg
  have ba := (Below.refl W.heap.size W).alloc (Nat.le_refl _) (.cells #[.int .i64 k, .int .i64 p, .int .i64 v, .int .i64 t, .int .i64 bb, .bool wn, .int .i64 s] 27)
  have k0a := k0.below ba k0.lt
  have k1a := k1.below ba k1.lt
  have bla := below3 bl ba
  have y6 : _ = some (Value.int .i64 lf) := k0a.cell 6
  have lsa := k0a.lt
  have Ra := Lib.hid (R.below (below_set8 bla (by omega : w.heap.size ≤ w.heap.size + 1) (.slice mA ms.length mc) (.int .i64 0) (.int .i64 cap) (.slice (some ⟨gh, 0, none⟩) hs.length hcp) (.map (some b)) (.int .i64 nx) (.int .i64 lf) (.bool false)))
  have B8 := Lib.hid (below_set8 bla (by omega : w.heap.size ≤ w.heap.size + 1) (.slice mA ms.length mc) (.int .i64 0) (.int .i64 cap) (.slice (some ⟨gh, 0, none⟩) hs.length hcp) (.map (some b)) (.int .i64 nx) (.int .i64 lf) (.bool false))
  have K2 := Lib.hid (bk_set8 k1a (.slice mA ms.length mc) (.int .i64 0) (.int .i64 cap) (.slice (some ⟨gh, 0, none⟩) hs.length hcp) (.map (some b)) (.int .i64 nx) (.int .i64 lf) (.bool false))
  have KA := Lib.hid k0a
  have K1A := Lib.hid k1a
  clear hW k0 k1 bl R0 ha7 ba k0a k1a bla hk R eg hh hsx
  go_enter Try.func20, Try.ntmps20
  go_upto_region 1 with fail
  rw [HW.out]
  clear HW
  go_upto_region 4 with fail
  clear y6
  obtain ⟨x0, x1, x2, x3', x4, x5, x6, x7⟩ := KA.out.c8
  obtain ⟨y0, y1, y2, y3, y4, y5, y6, y7⟩ := K1A.out.c8
  obtain ⟨g0, g1, g2, g3, g4', g5, g6, g7⟩ := K1A.out.f8
  have lq := KA.out.lt
  have lr := K1A.out.lt
  go_wp2
  obtain ⟨r0, r1, r2, r3, r4, r5, r6, r7⟩ := K2.out.c8
  unfold set8 at r0 r1 r2 r3 r4 r5 r6 r7
  exact bodyPost_ret (v := .agg #[.slice mA ms.length mc, .int .i64 0, .int .i64 cap, .slice (some ⟨gh, 0, none⟩) hs.length hcp, .map (some b), .int .i64 nx, .int .i64 lf, .bool false]) (by simp [results, Try.results20, go_sem, r0, r1, r2, r3, r4, r5, r6, r7]) rfl ⟨mA, mc, gh, hcp, by unfold raceC; rfl, Ra.out, Below.gb B8.out⟩


/-- The first access of a hand: it goes on. -/
theorem acc_first {ms ms' : List Int} {base cap : Nat} {kind v : Int} {h' : Hd} (hk : kind = 1 ∨ kind = 2 ∨ kind = 3) (ha : accF ms base cap (newH kind v) = some (ms', h')) : h'.state = 0 := by
  rcases hk with rfl | rfl | rfl
  · simp only [accF, newH, if_true, pushF] at ha
    split at ha
    · injection ha with ha; injection ha with _ ha; subst ha; rfl
    · cases ha
  · simp only [accF, newH, if_true, popF, show ¬ ((2 : Int) = 1) by decide, if_false] at ha
    split at ha
    · injection ha with ha; injection ha with _ ha; subst ha; rfl
    · cases ha
  · simp only [accF, newH, if_true, stealF, show ¬ ((3 : Int) = 1) by decide, show ¬ ((3 : Int) = 2) by decide, if_false] at ha
    split at ha
    · injection ha with ha; injection ha with _ ha; subst ha; rfl
    · cases ha
theorem hth_at {hs : List Hd} {i : Nat} (x : Hd) (h : i < hs.length) : hth (hs.set i x) i = x := by rw [hth_set _ _ _ _ h, if_pos rfl]

theorem step_go (mA : Option Addr) (mc : Nat) (ms : List Int) (gh hcp : Nat) (hs : List Hd) (b n : Nat) (G : Int → Nat) (cap nx left tp lb who : Nat) (pops : Bool) (w : World) (R : RcI w mA ms gh hs b n G) (I : RaceI cap ms hs G nx left tp lb) (FV : ∀ i, i < hs.length → Fit (hth hs i).v) (hw : who < hs.length) (hl : hs.length ≤ 10) (hq : MayQ ms.length 0 cap) (hn : n < 2000)
    (hk : (hth hs who).kind ≠ 0) (hst : (hth hs who).state = 0) :
    Calls Try.prog 20 #[.agg (raceC (.slice mA ms.length mc) cap (.slice (some ⟨gh, 0, none⟩) hs.length hcp) b nx left), .int .i64 who, .bool pops] w
      (fun e w' => ∃ ms' h' n' tp' lb', StpOf cap b n' w ms' (hs.set who h') (gotH G h') nx left e w' ∧ RaceI cap ms' (hs.set who h') (gotH G h') nx left tp' lb' ∧ (h'.state ≠ 0 ∨ (hth hs who).pc < h'.pc) ∧ h'.kind = (hth hs who).kind ∧ n' ≤ n + 1 ∧ Fit h'.v) := by
  obtain ⟨ms', h', tp', lb', ha, I', hp, hk'⟩ := I.acc hw hk hst
  have ff := acc_fit ha R.m.2.2.1 (FV who hw)
  have hm := I.may who hw hk
  have fv := FV who hw
  have one := I.va.one
  obtain ⟨hd, hh⟩ : ∃ hd, hth hs who = hd := ⟨_, rfl⟩
  rw [hh] at hk hst ha hp hk' hm fv ⊢
  obtain ⟨k, p, v, t, bb, wn, s⟩ := hd
  obtain ⟨k2, p2, v2, t2, b2, wn2, s2⟩ := h'
  simp only at hk hst hp hk' fv ff ⊢
  subst hst
  unfold raceC
  by_cases h3 : s2 = 3
  · refine (stp_go3 mA mc ms gh hcp hs b n G cap nx left who pops w R hw hl hq k p v t bb wn hh hk hm fv ms' k2 p2 v2 t2 b2 wn2 s2 ha h3 ff hn (by have := one v2; omega)).mono fun e w' h => ⟨ms', ⟨k2, p2, v2, t2, b2, wn2, s2⟩, n + 1, tp', lb', ?_, I', hp, hk', Nat.le_refl _, ff⟩
    have e : gotH G ⟨k2, p2, v2, t2, b2, wn2, s2⟩ = gotF G v2 := if_pos (.inr h3)
    rw [e]; exact h
  · by_cases h1 : s2 = 1 ∧ k2 ≠ 1
    · refine (stp_go1 mA mc ms gh hcp hs b n G cap nx left who pops w R hw hl hq k p v t bb wn hh hk hm fv ms' k2 p2 v2 t2 b2 wn2 s2 ha h1.1 h1.2 ff hn (by have := one v2; omega)).mono fun e w' h => ⟨ms', ⟨k2, p2, v2, t2, b2, wn2, s2⟩, n + 1, tp', lb', ?_, I', hp, hk', Nat.le_refl _, ff⟩
      have e : gotH G ⟨k2, p2, v2, t2, b2, wn2, s2⟩ = gotF G v2 := if_pos (.inl h1)
      rw [e]; exact h
    · refine (stp_go0 mA mc ms gh hcp hs b n G cap nx left who pops w R hw hl hq k p v t bb wn hh hk hm fv ms' k2 p2 v2 t2 b2 wn2 s2 ha h1 h3).mono fun e w' h => ⟨ms', ⟨k2, p2, v2, t2, b2, wn2, s2⟩, n, tp', lb', ?_, I', hp, hk', Nat.le_succ _, ff⟩
      have e : gotH G ⟨k2, p2, v2, t2, b2, wn2, s2⟩ = G := if_neg (fun q => q.elim h1 h3)
      rw [e]; exact h

theorem step_push (mA : Option Addr) (mc : Nat) (ms : List Int) (gh hcp : Nat) (hs : List Hd) (b n : Nat) (G : Int → Nat) (cap nx left tp lb who : Nat) (w : World) (R : RcI w mA ms gh hs b n G) (I : RaceI cap ms hs G nx (left + 1) tp lb) (hw : who < hs.length) (hl : hs.length ≤ 10) (hq : MayQ ms.length 0 cap)
    (hid : (hth hs who).kind = 0 ∨ (hth hs who).state ≠ 0) (hw0 : who = 0) :
    Calls Try.prog 20 #[.agg (raceC (.slice mA ms.length mc) cap (.slice (some ⟨gh, 0, none⟩) hs.length hcp) b nx (left + 1)), .int .i64 who, .bool false] w
      (fun e w' => ∃ ms' h' tp' lb', StpOf cap b n w ms' (hs.set who h') G (nx + 1) left e w' ∧ RaceI cap ms' (hs.set who h') G (nx + 1) left tp' lb' ∧ Fit h'.v) := by
  have I1 : RaceI cap ms (hs.set who (newH 1 ((nx + 1 : Nat) : Int))) G (nx + 1) left tp lb := (by subst hw0; exact I.new_push hid)
  have hat := hth_at (newH 1 ((nx + 1 : Nat) : Int)) hw
  obtain ⟨ms', h', tp', lb', ha, I', -, -⟩ := I1.acc (who := who) (by simpa using hw) (by rw [hat]; simp [newH]) (by rw [hat]; rfl)
  rw [hat] at ha
  rw [List.set_set] at I'
  have ff := acc_fit ha R.m.2.2.1 (by have := I.few; simp only [newH]; unfold Fit; omega)
  have f0 := acc_first (by omega) ha
  obtain ⟨hd, hh⟩ : ∃ hd, hth hs who = hd := ⟨_, rfl⟩
  rw [hh] at hid
  obtain ⟨k, p, v, t, bb, wn, s⟩ := hd
  obtain ⟨k2, p2, v2, t2, b2, wn2, s2⟩ := h'
  simp only at hid f0 ff
  subst f0
  have e : gotH G ⟨k2, p2, v2, t2, b2, wn2, 0⟩ = G := if_neg (fun q => by simp at q)
  rw [e] at I'
  unfold raceC
  by_cases hk : k = 0
  · exact (stp_new_push0 mA mc ms gh hcp hs b n G cap nx left (left + 1) (nx + 1) who w R hw hl hq k p v t bb wn s hh hk hw0 rfl (by have := I.few; omega) rfl (by have := I.few; omega) ms' k2 p2 v2 t2 b2 wn2 ha).mono fun e w' h => ⟨ms', _, tp', lb', h, I', ff⟩
  · exact (stp_new_push1 mA mc ms gh hcp hs b n G cap nx left (left + 1) (nx + 1) who w R hw hl hq k p v t bb wn s hh hk (hid.resolve_left hk) hw0 rfl (by have := I.few; omega) rfl (by have := I.few; omega) ms' k2 p2 v2 t2 b2 wn2 ha).mono fun e w' h => ⟨ms', _, tp', lb', h, I', ff⟩

theorem step_pop (mA : Option Addr) (mc : Nat) (ms : List Int) (gh hcp : Nat) (hs : List Hd) (b n : Nat) (G : Int → Nat) (cap nx left tp lb who : Nat) (w : World) (R : RcI w mA ms gh hs b n G) (I : RaceI cap ms hs G nx (left + 1) tp lb) (hw : who < hs.length) (hl : hs.length ≤ 10) (hq : MayQ ms.length 0 cap)
    (hid : (hth hs who).kind = 0 ∨ (hth hs who).state ≠ 0) (hw0 : who = 0) :
    Calls Try.prog 20 #[.agg (raceC (.slice mA ms.length mc) cap (.slice (some ⟨gh, 0, none⟩) hs.length hcp) b nx (left + 1)), .int .i64 who, .bool true] w
      (fun e w' => ∃ ms' h' tp' lb', StpOf cap b n w ms' (hs.set who h') G nx left e w' ∧ RaceI cap ms' (hs.set who h') G nx left tp' lb' ∧ Fit h'.v) := by
  have I1 : RaceI cap ms (hs.set who (newH 2 0)) G nx left tp lb := (by subst hw0; exact I.new_pop hid)
  have hat := hth_at (newH 2 0) hw
  obtain ⟨ms', h', tp', lb', ha, I', -, -⟩ := I1.acc (who := who) (by simpa using hw) (by rw [hat]; simp [newH]) (by rw [hat]; rfl)
  rw [hat] at ha
  rw [List.set_set] at I'
  have ff := acc_fit ha R.m.2.2.1 (by have := I.few; simp only [newH]; unfold Fit; omega)
  have f0 := acc_first (by omega) ha
  obtain ⟨hd, hh⟩ : ∃ hd, hth hs who = hd := ⟨_, rfl⟩
  rw [hh] at hid
  obtain ⟨k, p, v, t, bb, wn, s⟩ := hd
  obtain ⟨k2, p2, v2, t2, b2, wn2, s2⟩ := h'
  simp only at hid f0 ff
  subst f0
  have e : gotH G ⟨k2, p2, v2, t2, b2, wn2, 0⟩ = G := if_neg (fun q => by simp at q)
  rw [e] at I'
  unfold raceC
  by_cases hk : k = 0
  · exact (stp_new_pop0 mA mc ms gh hcp hs b n G cap nx left (left + 1) who w R hw hl hq k p v t bb wn s hh hk hw0 rfl (by have := I.few; omega) ms' k2 p2 v2 t2 b2 wn2 ha).mono fun e w' h => ⟨ms', _, tp', lb', h, I', ff⟩
  · exact (stp_new_pop1 mA mc ms gh hcp hs b n G cap nx left (left + 1) who w R hw hl hq k p v t bb wn s hh hk (hid.resolve_left hk) hw0 rfl (by have := I.few; omega) ms' k2 p2 v2 t2 b2 wn2 ha).mono fun e w' h => ⟨ms', _, tp', lb', h, I', ff⟩

theorem step_steal (mA : Option Addr) (mc : Nat) (ms : List Int) (gh hcp : Nat) (hs : List Hd) (b n : Nat) (G : Int → Nat) (cap nx left tp lb who : Nat) (pops : Bool) (w : World) (R : RcI w mA ms gh hs b n G) (I : RaceI cap ms hs G nx (left + 1) tp lb) (hw : who < hs.length) (hl : hs.length ≤ 10) (hq : MayQ ms.length 0 cap)
    (hid : (hth hs who).kind = 0 ∨ (hth hs who).state ≠ 0) (hw0 : who ≠ 0) :
    Calls Try.prog 20 #[.agg (raceC (.slice mA ms.length mc) cap (.slice (some ⟨gh, 0, none⟩) hs.length hcp) b nx (left + 1)), .int .i64 who, .bool pops] w
      (fun e w' => ∃ ms' h' tp' lb', StpOf cap b n w ms' (hs.set who h') G nx left e w' ∧ RaceI cap ms' (hs.set who h') G nx left tp' lb' ∧ Fit h'.v) := by
  have I1 : RaceI cap ms (hs.set who (newH 3 0)) G nx left tp lb := I.new_other (Nat.pos_of_ne_zero hw0)
  have hat := hth_at (newH 3 0) hw
  obtain ⟨ms', h', tp', lb', ha, I', -, -⟩ := I1.acc (who := who) (by simpa using hw) (by rw [hat]; simp [newH]) (by rw [hat]; rfl)
  rw [hat] at ha
  rw [List.set_set] at I'
  have ff := acc_fit ha R.m.2.2.1 (by have := I.few; simp only [newH]; unfold Fit; omega)
  have f0 := acc_first (by omega) ha
  obtain ⟨hd, hh⟩ : ∃ hd, hth hs who = hd := ⟨_, rfl⟩
  rw [hh] at hid
  obtain ⟨k, p, v, t, bb, wn, s⟩ := hd
  obtain ⟨k2, p2, v2, t2, b2, wn2, s2⟩ := h'
  simp only at hid f0 ff
  subst f0
  have e : gotH G ⟨k2, p2, v2, t2, b2, wn2, 0⟩ = G := if_neg (fun q => by simp at q)
  rw [e] at I'
  unfold raceC
  by_cases hk : k = 0
  · exact (stp_new_steal0 mA mc ms gh hcp hs b n G cap nx left (left + 1) who pops w R hw hl hq k p v t bb wn s hh hk hw0 rfl (by have := I.few; omega) ms' k2 p2 v2 t2 b2 wn2 ha).mono fun e w' h => ⟨ms', _, tp', lb', h, I', ff⟩
  · exact (stp_new_steal1 mA mc ms gh hcp hs b n G cap nx left (left + 1) who pops w R hw hl hq k p v t bb wn s hh hk (hid.resolve_left hk) hw0 rfl (by have := I.few; omega) ms' k2 p2 v2 t2 b2 wn2 ha).mono fun e w' h => ⟨ms', _, tp', lb', h, I', ff⟩

/-- Somebody does an access: what stays. -/
def StpAll (cap b n N : Nat) (w : World) (e : Ending) (w' : World) : Prop :=
  ∃ ms hs G n' nx left tp lb, StpOf cap b n' w ms hs G nx left e w' ∧ RaceI cap ms hs G nx left tp lb ∧ hs.length = N ∧ n' ≤ n + 1 ∧ ∀ i, i < hs.length → Fit (hth hs i).v
theorem fit_set {hs : List Hd} (FV : ∀ i, i < hs.length → Fit (hth hs i).v) (who : Nat) {x : Hd} (hx : Fit x.v) : ∀ i, i < (hs.set who x).length → Fit (hth (hs.set who x) i).v := by
  intro i hi
  rw [List.length_set] at hi
  rw [hth_set _ _ _ _ hi]
  split
  · exact hx
  · exact FV i hi
theorem step_all (mA : Option Addr) (mc : Nat) (ms : List Int) (gh hcp : Nat) (hs : List Hd) (b n : Nat) (G : Int → Nat) (cap nx left tp lb who : Nat) (pops : Bool) (w : World) (R : RcI w mA ms gh hs b n G) (I : RaceI cap ms hs G nx left tp lb) (FV : ∀ i, i < hs.length → Fit (hth hs i).v) (hw : who < hs.length) (hl : hs.length ≤ 10) (hq : MayQ ms.length 0 cap) (hn : n < 2000) :
    Calls Try.prog 20 #[.agg (raceC (.slice mA ms.length mc) cap (.slice (some ⟨gh, 0, none⟩) hs.length hcp) b nx left), .int .i64 who, .bool pops] w (StpAll cap b n hs.length w) := by
  by_cases hid : (hth hs who).kind = 0 ∨ (hth hs who).state ≠ 0
  · cases left with
    | zero =>
      obtain ⟨hd, hh⟩ : ∃ hd, hth hs who = hd := ⟨_, rfl⟩
      rw [hh] at hid
      obtain ⟨k, p, v, t, bb, wn, s⟩ := hd
      simp only at hid
      unfold raceC
      by_cases hk : k = 0
      · exact (stp_idle0 mA mc ms gh hcp hs b n G cap nx 0 who rfl pops w R hw k p v t bb wn s hh hk).mono fun e w' h => ⟨ms, hs, G, n, nx, 0, tp, lb, h, I, rfl, Nat.le_succ _, FV⟩
      · exact (stp_idle1 mA mc ms gh hcp hs b n G cap nx 0 who rfl pops w R hw k p v t bb wn s hh hk (hid.resolve_left hk)).mono fun e w' h => ⟨ms, hs, G, n, nx, 0, tp, lb, h, I, rfl, Nat.le_succ _, FV⟩
    | succ left =>
      by_cases hw0 : who = 0
      · cases pops
        · exact (step_push mA mc ms gh hcp hs b n G cap nx left tp lb who w R I hw hl hq hid hw0).mono fun e w' ⟨ms', h', tp', lb', a, c, d⟩ => ⟨ms', _, G, n, nx + 1, left, tp', lb', a, c, List.length_set, Nat.le_succ _, fit_set FV who d⟩
        · exact (step_pop mA mc ms gh hcp hs b n G cap nx left tp lb who w R I hw hl hq hid hw0).mono fun e w' ⟨ms', h', tp', lb', a, c, d⟩ => ⟨ms', _, G, n, nx, left, tp', lb', a, c, List.length_set, Nat.le_succ _, fit_set FV who d⟩
      · exact (step_steal mA mc ms gh hcp hs b n G cap nx left tp lb who pops w R I hw hl hq hid hw0).mono fun e w' ⟨ms', h', tp', lb', a, c, d⟩ => ⟨ms', _, G, n, nx, left, tp', lb', a, c, List.length_set, Nat.le_succ _, fit_set FV who d⟩
  · have hk : (hth hs who).kind ≠ 0 := fun q => hid (.inl q)
    have hst : (hth hs who).state = 0 := Classical.byContradiction fun q => hid (.inr q)
    exact (step_go mA mc ms gh hcp hs b n G cap nx left tp lb who pops w R I FV hw hl hq hn hk hst).mono fun e w' ⟨ms', h', n', tp', lb', a, c, _, _, d, f⟩ => ⟨ms', _, _, n', nx, left, tp', lb', a, c, List.length_set, d, fit_set FV who f⟩

end Go.Proofs.Ytfmiamjbhlglbaa
