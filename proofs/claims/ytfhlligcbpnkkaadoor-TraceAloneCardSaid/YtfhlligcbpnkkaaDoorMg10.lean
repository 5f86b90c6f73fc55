import Derived.Test.YtfhlligcbpnkkaaDoorMg9
import Derived.Test.YtfhlligcbpnkkaaDoorMg5
import Derived.Test.YtfhlligcbpnkkaaDoorMg1
import Derived.ArgAppend
import Derived.Deep.MidRow
import Derived.Deep.Upon

/-
  Layer 13: plain mathematics of units: what a unit keeps, and how units one behind the other go on.
-/
namespace Go.Proofs.YtfhlligcbpnkkaaDoor
open Go.RowKit

section
variable {t : Tk} {p : List I3}
theorem runR_err {k n : Nat} (h : (unitR t p).2.2 ≠ 0) : runR p (k + 1) n t = (zT, zI, 0, (unitR t p).2.2) := if_pos h
theorem runR_ask {k n : Nat} (h : (unitR t p).2.2 = 0) (q : (unitR t p).2.1.1 ≠ 0) : runR p (k + 1) n t = ((unitR t p).1, (unitR t p).2.1, ((n + 1 : Nat) : Int), 0) := by
  rw [runR, if_neg (fun e => e h), if_pos q]
theorem runR_go {k n : Nat} (h : (unitR t p).2.2 = 0) (q : (unitR t p).2.1.1 = 0) : runR p (k + 1) n t = runR p k (n + 1) (unitR t p).1 := by
  rw [runR, if_neg (fun e => e h), if_neg (fun e => e q)]

theorem atI_nat {k : Nat} (hk : t.pc = k) : atI p t.pc = atN p k := by unfold atI; rw [hk, Int.toNat_natCast]

/-- What a unit is, if there is one. -/
theorem unit_ok (h : (unitR t p).2.2 = 0) : t.st = 2 ∧ t.rn ≠ 1099511627776 ∧ unitR t p = (goT t (atI p t.pc) p.length, efI (atI p t.pc), 0) := by
  by_cases hs : t.st = 2
  · by_cases hr : t.rn = 1099511627776
    · rw [unitR_2 hs hr] at h; exact absurd h (by decide)
    · refine ⟨hs, hr, ?_⟩
      unfold unitR
      rw [if_neg (fun q => q hs), if_neg hr]
  · rw [unitR_1 hs] at h; exact absurd h (by decide)

theorem unit_zero (h : okF t p) (e : (unitR t p).2.2 = 0) (q : (unitR t p).2.1.1 = 0) : (unitR t p).2.1 = zI := by
  obtain ⟨k, hk, h1, -⟩ := h.num
  rw [(unit_ok e).2.2] at q ⊢
  have hm := may_bound (atN_may h.2.1 h1)
  rw [atI_nat hk] at q ⊢
  dsimp only at q ⊢
  unfold efI at q ⊢
  by_cases c : (atN p k).1 = 1
  · rw [if_pos c]
  · rw [if_neg c] at q; omega

/-- A unit keeps that the task fits. -/
theorem unit_keeps (h : okF t p) (e : (unitR t p).2.2 = 0) : okF (unitR t p).1 p := by
  obtain ⟨k, hk, h1, h2, h3, h4, h5, h6, h7⟩ := h.num
  obtain ⟨e1, e2, e3⟩ := unit_ok e
  rw [e3]
  have hw := fun q => h.work hk q
  have hm := may_bound (atN_may h.2.1 h1)
  rw [atI_nat hk]
  obtain ⟨⟨⟨o1, o2, o3, o4, o5, o6, o7⟩, o8⟩, hp, -, -⟩ := h
  unfold goT goW
  dsimp only
  by_cases c : (atN p k).1 = 1
  · obtain ⟨u1, u2⟩ := hw c
    have u3 := hm.2.2.2.2.2.2 c
    rw [if_pos c]
    by_cases d : t.un + 1 = (atN p k).2.1
    · rw [if_pos d]
      refine ⟨⟨⟨o1, o2, o3, ?_, ?_, ?_, o7⟩, o8⟩, hp, ?_, .inl rfl⟩ <;> dsimp only <;> omega
    · rw [if_neg d]
      refine ⟨⟨⟨o1, o2, o3, o4, ?_, ?_, o7⟩, o8⟩, hp, ?_, .inr ⟨?_, ?_, ?_⟩⟩
      · dsimp only; omega
      · dsimp only; omega
      · dsimp only; omega
      · dsimp only; omega
      · dsimp only; rw [hk, Int.toNat_natCast]; rw [atN_in u2] at c; exact c
      · dsimp only; rw [hk, Int.toNat_natCast]; rw [atN_in u2] at d u1; dsimp only at d u1; omega
  · have hu : t.un = 0 := by omega
    rw [if_neg c]
    by_cases d : t.pc < p.length
    · rw [if_pos d]
      refine ⟨⟨⟨o1, o2, o3, ?_, o5, ?_, o7⟩, o8⟩, hp, ?_, .inl hu⟩ <;> dsimp only <;> omega
    · rw [if_neg d]
      refine ⟨⟨⟨o1, o2, o3, o4, o5, ?_, o7⟩, o8⟩, hp, ?_, .inl hu⟩ <;> dsimp only <;> omega
end

theorem sliceR_no {t : Tk} {p : List I3} {b : Int} (h : ¬ (okF t p ∧ 1 ≤ b ∧ b ≤ 100)) : sliceR t p b = (zT, zI, 0, 1) := if_neg (fun q => h ⟨okFB_iff.1 q.1, q.2⟩)
theorem sliceR_yes {t : Tk} {p : List I3} {m : Nat} (h : okF t p) (h1 : 1 ≤ m) (h2 : m ≤ 100) : sliceR t p (m : Int) = runR p m 0 t := by
  unfold sliceR
  rw [if_pos ⟨okFB_yes h, by omega, by omega⟩, Int.toNat_natCast]

/-- What lies there between a slice's rounds: the task, nothing in the result's places yet. -/
structure SlI (w wr : World) (t : Tk) : Prop where
  t : Bk wr w.heap.size 44 (tc t)
  r : Bk wr (w.heap.size + 1) 44 (tc zT)
  x : Bk wr (w.heap.size + 1 + 1) 72 #[.int .i64 0, .int .i64 0, .int .i64 0]
  b : Below w.heap.size w wr

end Go.Proofs.YtfhlligcbpnkkaaDoor

/-
  Contracts of Units of layer 4, and of a program up to its exit by the document: the program's and the document's.
-/
namespace Go.Proofs.YtfhlligcbpnkkaaDoor
open Go.RowKit

/-- The relation of Run's loop: no exit so far. -/
def RunRel (p : List I3) (n : Nat) (w : World) (t : Value) (wr : World) : Prop := ∃ k : Nat, k ≤ n ∧ t = .int .i64 k ∧ (∀ j, j < k → jO p j ≠ 9) ∧ Below w.heap.size w wr

/-- The relation of Units' loop. -/
def UnitRel (p : List I3) (n : Nat) (w : World) (u t : Value) (wr : World) : Prop := ∃ k : Nat, k ≤ n ∧ t = .int .i64 k ∧ u = .int .i64 (unitsK p k) ∧ Below w.heap.size w wr

open Classical in
/-- What Units answers: a number, an error. -/
noncomputable def unitsA (p : List I3) : Int × Int := if okP p then (units p, 0) else (0, 1)
theorem unitsA_ok {p : List I3} (h : okP p) : unitsA p = (units p, 0) := if_pos h
theorem unitsA_no {p : List I3} (h : ¬ okP p) : unitsA p = (0, 1) := if_neg h

/-- A number and an error are handed back, and new memory. -/
def Ret2 (r : Int × Int) (w : World) (e : Ending) (w' : World) : Prop := e = .returned (.tuple #[.int .i64 r.1, .int .i64 r.2]) ∧ Below w.heap.size w w'
theorem Ret2.of {r : Int × Int} {x y : Int} {w w' : World} {e : Ending} (hr : r = (x, y)) (he : e = .returned (.tuple #[.int .i64 x, .int .i64 y])) (hb : Below w.heap.size w w') : Ret2 r w e w' := by subst hr; exact ⟨he, hb⟩

theorem units_room {p : List I3} (h : okP p) {k : Nat} (hk : k ≤ runLen p) : 0 ≤ unitsK p k ∧ unitsK p k ≤ 3200 := by
  have h1 := runLen_le p
  have := unitsK_bound h (k := k) (by omega)
  have := h.2.1
  omega

theorem unit_step {p : List I3} {k : Nat} (h : jO p k = 1) : unitsK p k + jA p k = unitsK p (k + 1) := by rw [unitsK, if_pos h]
theorem unit_other {p : List I3} {k : Nat} (h : jO p k ≠ 1) : unitsK p k + 1 = unitsK p (k + 1) := by rw [unitsK, if_neg h]

set_option maxHeartbeats 1000000 in
theorem units_no (A : Option Addr) (n c : Nat) (p : List I3) (w : World) (hp : Prog w A n c p) (h : ¬ okP p) :
    Calls Tryd.prog 24 #[.slice A n c] w (Ret2 (unitsA p) w) := by
  have HE := Lib.hid (errP_no h)
  have HU := Lib.hid (unitsA_no h)
  clear h
  go_enter Tryd.func24, Tryd.ntmps24
  go_wp2_with fail
  refine (check_any A n c p w hp).mono ?_
  rintro e w1 ⟨rfl, hb1⟩
  rw [HE.out]
  have HB := Lib.hid hb1
  clear hb1
  go_wp2
  go_ret2
  exact Ret2.of HU.out rfl HB.out

set_option maxHeartbeats 1000000 in
theorem units_ok (A : Option Addr) (n c : Nat) (p : List I3) (w : World) (hp : Prog w A n c p) (h : okP p) :
    Calls Tryd.prog 24 #[.slice A n c] w (Ret2 (unitsA p) w) := by
  have HE := Lib.hid (errP_ok h)
  have HU := Lib.hid (unitsA_ok h)
  have HO := Lib.hid h
  have HP := Lib.hid hp
  have HN := Lib.hid hp.1
  have hrl : runLen p ≤ n := by have := runLen_le p; rw [HN.out] at this; exact this
  have hn := Nat.le_trans hp.2.1.1 hp.2.1.2
  clear h hp
  go_enter Tryd.func24, Tryd.ntmps24
  go_wp2_with fail
  refine (check_any A n c p w HP.out).mono ?_
  rintro e w1 ⟨rfl, hb1⟩
  rw [HE.out]
  have HB1 := Lib.hid hb1
  clear hb1
  go_wp2_with fail
  refine (toExit_any A n c p _ (HP.out.below HB1.out)).mono ?_
  rintro e w2 ⟨rfl, hb2⟩
  have HB2 := Lib.hid (below3 HB1.out hb2)
  clear hb2
  generalize hm : runLen p = m at hrl ⊢
  have HM := Lib.hid hm
  clear hm
  go_wp2
  go_loopw [5, 16] (fun u t wr => UnitRel p m w u t wr) (fun _ t _ => m - (intOf t).toNat)
  case atStart => exact ⟨0, Nat.zero_le _, rfl, rfl, HB2.out⟩
  case round =>
    obtain ⟨k, hk, rfl, rfl, hb⟩ := hrel
    have HB := Lib.hid hb
    clear hb
    have hu := units_room HO.out (k := k) (by rw [HM.out]; exact hk)
    by_cases hlt : k < m
    · have hu1 := units_room HO.out (k := k + 1) (by rw [HM.out]; omega)
      obtain ⟨b, o, rfl, hbl, g0, g1, g2⟩ := (HP.out.below HB.out).at_ (j := k) (by omega)
      have HB1 := fun X => Lib.hid (HB.out.alloc HB.out.size X)
      by_cases hx : jO p k = 1
      · have hx1 : (jO p k == 1) = true := by simpa using hx
        have HS := Lib.hid (unit_step hx)
        have hq : 0 ≤ unitsK p k + jA p k ∧ unitsK p k + jA p k ≤ 3200 := by rw [HS.out]; exact hu1
        clear hx hu1
        go_wp2
        go_roundw
        case rel => exact ⟨k + 1, by omega, by go_num, by rw [HS.out], (HB1 _).out⟩
        case measure => simp [intOf]; omega
      · have hx1 : (jO p k == 1) = false := by simpa using hx
        have HS := Lib.hid (unit_other hx)
        clear hx hu1
        go_wp2
        go_roundw
        case rel => exact ⟨k + 1, by omega, by go_num, by rw [HS.out], (HB1 _).out⟩
        case measure => simp [intOf]; omega
    · obtain rfl : k = m := by omega
      go_wp2
      go_ret2
      exact Ret2.of HU.out (by unfold units; rw [HM.out]; rfl) HB.out

theorem units_any (A : Option Addr) (n c : Nat) (p : List I3) (w : World) (hp : Prog w A n c p) :
    Calls Tryd.prog 24 #[.slice A n c] w (Ret2 (unitsA p) w) := by
  by_cases h : okP p
  · exact units_ok A n c p w hp h
  · exact units_no A n c p w hp h

end Go.Proofs.YtfhlligcbpnkkaaDoor

/-
  Layer 13: the program's Left.
-/
namespace Go.Proofs.YtfhlligcbpnkkaaDoor
open Go.RowKit

section
variable {t : Tk} {p : List I3} {k : Nat}
theorem leftR_no (h : ¬ okF t p) : leftR t p = (0, 1) := by unfold leftR; rw [okFB_no h]; rfl
theorem leftR_out (h : okF t p) (hk : t.pc = k) (q : outB p k = true) : leftR t p = (0, 0) := by
  unfold leftR; rw [if_pos (okFB_yes h), hk, Int.toNat_natCast, if_pos q]
theorem okP_drop (h : okP p) (hk : k < p.length) : okP (p.drop k) := by
  refine ⟨by rw [List.length_drop]; omega, by rw [List.length_drop]; have := h.2.1; omega, fun j hj => ?_⟩
  rw [List.length_drop] at hj
  have : ith (p.drop k) j = ith p (k + j) := by simp [ith, List.getD]
  rw [this]
  exact h.2.2 _ (by omega)
theorem leftR_end (h : okF t p) (hk : t.pc = k) (q : k = p.length) : leftR t p = (0, 0) := by
  unfold leftR
  rw [if_pos (okFB_yes h), hk, Int.toNat_natCast]
  split
  · rfl
  · have hu : t.un = 0 := by
      rcases h.2.2.2 with e | ⟨e, _⟩
      · exact e
      · omega
    rw [show p.drop k = [] by rw [q]; exact List.drop_length, hu]; rfl
theorem leftR_in (h : okF t p) (hk : t.pc = k) (_ : k < p.length) (q : outB p k = false) : leftR t p = (units (p.drop k) - t.un, 0) := by
  unfold leftR; rw [if_pos (okFB_yes h), hk, Int.toNat_natCast, if_neg (by rw [q]; decide)]
open Classical in
theorem outB_iff : outB p k = true ↔ ∃ j, j < k ∧ jO p j = 9 := by unfold outB; exact decide_eq_true_iff
theorem outB_false : outB p k = false ↔ ∀ j, j < k → jO p j ≠ 9 := by
  rw [← Bool.not_eq_true, outB_iff]
  exact ⟨fun h j hj e => h ⟨j, hj, e⟩, fun h ⟨j, hj, e⟩ => h j hj e⟩
theorem jO_take {j : Nat} (h : j < k) : jO (p.take k) j = jO p j := by unfold jO; rw [ith_take h]
theorem outB_yes {n : Nat} (_ : p.length = n) (_ : k ≤ n) (h : ∃ j, j < k ∧ qExit (p.take k) j = true) : outB p k = true := by
  obtain ⟨j, hj, e⟩ := h
  refine outB_iff.2 ⟨j, hj, ?_⟩
  unfold qExit at e
  rw [jO_take hj] at e
  simpa using e
theorem outB_no {n : Nat} (_ : k ≤ n) (h : ∀ j, j < k → qExit (p.take k) j = false) : outB p k = false := outB_false.2 fun j hj e => by
  have := h j hj
  unfold qExit at this
  rw [jO_take hj] at this
  simp [e] at this
end

theorem ith_drop (p : List I3) (k j : Nat) : ith (p.drop k) j = ith p (k + j) := by simp [ith, List.getD]
/-- What is left of it. -/
theorem Prog.drop {w : World} {b o n c : Nat} {p : List I3} (h : Prog w (some ⟨b, o, none⟩) n c p) {k : Nat} (hk : k < n) : Prog w (some ⟨b, o + k * 3, none⟩) (n - k) (c - k) (p.drop k) := by
  have h1 := h.1
  have h2 := h.2.1
  refine ⟨by rw [List.length_drop]; omega, by omega, fun x hx => h.2.2.1 x (List.mem_of_mem_drop hx), fun hn => ?_⟩
  obtain ⟨b', o', e, hb, hc⟩ := h.2.2.2 (by omega)
  injection e with e
  injection e with e1 e2
  subst e1 e2
  refine ⟨b, o + k * 3, rfl, hb, fun j hj => ?_⟩
  obtain ⟨c0, c1, c2⟩ := hc (k + j) (by omega)
  unfold jO jA jB at *
  rw [ith_drop]
  rw [show o + k * 3 + j * 3 = o + (k + j) * 3 by omega]
  exact ⟨c0, c1, c2⟩

end Go.Proofs.YtfhlligcbpnkkaaDoor

/-
  Layer 13: the document's Left.
-/
namespace Go.Proofs.YtfhlligcbpnkkaaDoor
open Go.RowKit

/-- What lies there between the rounds of the document's Left: its task. -/
structure LfI (w wr : World) (cs : Array Value) : Prop where
  t : Bk wr w.heap.size 44 cs
  b : Below w.heap.size w wr

end Go.Proofs.YtfhlligcbpnkkaaDoor

/-
  Layer 13: plain mathematics of what is left, behind a unit, and behind a slice.
-/
namespace Go.Proofs.YtfhlligcbpnkkaaDoor
open Go.RowKit

/-- How many units an instruction is. -/
def wgt (x : I3) : Int := if x.1 = 1 then x.2.1 else 1
theorem unitsK_cons (x : I3) (q : List I3) (m : Nat) : unitsK (x :: q) (m + 1) = wgt x + unitsK q m := by
  induction m with
  | zero => simp [unitsK, jO, jA, ith, wgt]
  | succ m ih =>
    rw [unitsK, ih]
    conv => rhs; rw [unitsK]
    rw [show jO (x :: q) (m + 1) = jO q m from rfl, show jA (x :: q) (m + 1) = jA q m from rfl]
    omega
theorem units_cons (x : I3) (q : List I3) : units (x :: q) = wgt x + (if x.1 = 9 then 0 else units q) := by
  unfold units
  rw [runLen]
  split
  · rw [show 1 = 0 + 1 from rfl, unitsK_cons]; rfl
  · rw [unitsK_cons]
theorem drop_cons {p : List I3} {k : Nat} (h : k < p.length) : p.drop k = ith p k :: p.drop (k + 1) := by
  rw [ith_get h]; exact List.drop_eq_getElem_cons h
theorem units_drop {p : List I3} {k : Nat} (h : k < p.length) : units (p.drop k) = wgt (ith p k) + (if jO p k = 9 then 0 else units (p.drop (k + 1))) := by
  rw [drop_cons h, units_cons]; rfl
theorem wgt_pos {x : I3} (h : mayB x = true) : 1 ≤ wgt x := by
  have := may_bound h
  unfold wgt
  split
  · rename_i e; exact (this.2.2.2.2.2.2 e).1
  · omega
theorem units_nonneg {p : List I3} (h : okP p) : ∀ d k, p.length - k = d → 0 ≤ units (p.drop k) := by
  intro d
  induction d with
  | zero => intro k hk; rw [List.drop_eq_nil_iff.2 (by omega)]; decide
  | succ d ih =>
    intro k hk
    have hlt : k < p.length := by omega
    rw [units_drop hlt]
    have := wgt_pos (h.2.2 k hlt)
    have := ih (k + 1) (by omega)
    split <;> omega

section
variable {t : Tk} {p : List I3} {k : Nat}
theorem outB_mono {m : Nat} (h : outB p k = true) (hm : k ≤ m) : outB p m = true := by
  obtain ⟨j, hj, e⟩ := outB_iff.1 h
  exact outB_iff.2 ⟨j, by omega, e⟩
theorem outB_next (h : outB p k = false) (e : jO p k ≠ 9) : outB p (k + 1) = false := outB_false.2 fun j hj => by
  rcases Nat.lt_or_ge j k with q | q
  · exact outB_false.1 h j q
  · obtain rfl : j = k := by omega
    exact e
theorem outB_hit (e : jO p k = 9) : outB p (k + 1) = true := outB_iff.2 ⟨k, by omega, e⟩

/-- What is left of a task that fits, as one number. -/
noncomputable def leftV (t : Tk) (p : List I3) : Int := if outB p t.pc.toNat = true then 0 else units (p.drop t.pc.toNat) - t.un
theorem leftR_ok (h : okF t p) : leftR t p = (leftV t p, 0) := by
  unfold leftR leftV
  rw [if_pos (okFB_yes h)]
  split <;> rfl
theorem leftV_out {k : Nat} (hk : t.pc = k) (h : outB p k = true) : leftV t p = 0 := by unfold leftV; rw [hk, Int.toNat_natCast, if_pos h]
theorem leftV_in {k : Nat} (hk : t.pc = k) (h : outB p k = false) : leftV t p = units (p.drop k) - t.un := by unfold leftV; rw [hk, Int.toNat_natCast, if_neg (by rw [h]; decide)]

/-- Behind a unit one fewer is left. -/
theorem left_unit (h : okF t p) (e : (unitR t p).2.2 = 0) : leftV (unitR t p).1 p = max (leftV t p - 1) 0 ∧ 0 ≤ leftV t p := by
  obtain ⟨k, hk, h1, h2, h3, h4, h5, h6, h7⟩ := h.num
  have hw := fun q => h.work hk q
  rw [(unit_ok e).2.2, atI_nat hk]
  have hp := h.2.1
  have hnn := fun j => units_nonneg hp (p.length - j) j rfl
  unfold goT goW
  dsimp only
  by_cases hl : k < p.length
  · have ha := atN_in hl
    have hud := units_drop hl
    have hm := hp.2.2 k hl
    have hwp := wgt_pos hm
    have hwe : wgt (ith p k) = if jO p k = 1 then jA p k else 1 := rfl
    have hn1 := hnn (k + 1)
    by_cases ho : outB p k = true
    · rw [leftV_out hk ho]
      refine ⟨?_, by omega⟩
      have h0 : max (0 - 1 : Int) 0 = 0 := by decide
      rw [h0]
      split
      · split
        · exact leftV_out (k := k + 1) (by dsimp only; omega) (outB_mono ho (by omega))
        · exact leftV_out (k := k) (by dsimp only; omega) ho
      · rw [if_pos (by omega)]
        exact leftV_out (k := k + 1) (by dsimp only; omega) (outB_mono ho (by omega))
    · have ho : outB p k = false := by cases hh : outB p k <;> simp_all
      rw [leftV_in hk ho]
      by_cases c : jO p k = 1
      · have c9 : jO p k ≠ 9 := by omega
        rw [if_neg c9] at hud
        rw [if_pos c] at hwe
        obtain ⟨hu, -⟩ := hw (by rw [ha]; exact c)
        rw [ha] at hu ⊢
        dsimp only at hu ⊢
        rw [if_pos c]
        split
        · rename_i d
          rw [leftV_in (k := k + 1) (by dsimp only; omega) (outB_next ho c9)]
          dsimp only
          omega
        · rename_i d
          rw [leftV_in (k := k) (by dsimp only; omega) ho]
          dsimp only
          omega
      · rw [ha] at h7 ⊢
        dsimp only at h7 ⊢
        have hu : t.un = 0 := by omega
        rw [if_neg c, if_pos (by omega)]
        rw [if_neg c] at hwe
        by_cases c9 : jO p k = 9
        · rw [if_pos c9] at hud
          rw [leftV_out (k := k + 1) (by dsimp only; omega) (outB_hit c9)]
          omega
        · rw [if_neg c9] at hud
          rw [leftV_in (k := k + 1) (by dsimp only; omega) (outB_next ho c9)]
          dsimp only
          omega
  · have hkn : k = p.length := by omega
    have ha := atN_end hkn
    have hu : t.un = 0 := by rw [ha] at h7; dsimp only at h7; omega
    have hz : leftV t p = 0 := by
      by_cases ho : outB p k = true
      · exact leftV_out hk ho
      · have ho : outB p k = false := by cases hh : outB p k <;> simp_all
        rw [leftV_in hk ho, List.drop_eq_nil_iff.2 (by omega), hu]; rfl
    rw [hz, ha]
    dsimp only
    rw [if_neg (by decide), if_neg (by omega)]
    refine ⟨?_, by omega⟩
    have hz2 : leftV { t with pc := t.pc, rn := t.rn + 1 } p = leftV t p := rfl
    rw [hz2, hz]; decide

/-- A run of units: what is known of its end. -/
theorem run_left : ∀ (k n : Nat) (t : Tk), okF t p → (runR p k n t).2.2.2 = 0 →
    ∃ m : Nat, m ≤ k ∧ (0 < k → 0 < m) ∧ (runR p k n t).2.2.1 = ((n + m : Nat) : Int) ∧ okF (runR p k n t).1 p ∧ leftV (runR p k n t).1 p = max (leftV t p - m) (min (leftV t p) 0) ∧ (runR p k n t).1.rn = t.rn + m ∧ ((runR p k n t).2.1.1 ≠ 0 ∨ m = k) := by
  intro k
  induction k with
  | zero => intro n t h _; exact ⟨0, by omega, by omega, rfl, h, by rw [runR]; dsimp only; omega, by rw [runR]; dsimp only; omega, .inr rfl⟩
  | succ k ih =>
    intro n t h e
    by_cases e0 : (unitR t p).2.2 = 0
    · have hk := unit_keeps h e0
      obtain ⟨hl, hl0⟩ := left_unit h e0
      have hr : (unitR t p).1.rn = t.rn + 1 := by
        rw [(unit_ok e0).2.2]
        unfold goT goW
        dsimp only
        split
        · split <;> rfl
        · rfl
      by_cases x0 : (unitR t p).2.1.1 = 0
      · rw [runR_go e0 x0] at e ⊢
        obtain ⟨m, m1, m2, m3, m4, m5, m6, m7⟩ := ih (n + 1) _ hk e
        refine ⟨m + 1, by omega, by omega, by rw [m3]; omega, m4, by rw [m5, hl]; omega, by rw [m6, hr]; omega, ?_⟩
        rcases m7 with m7 | m7
        · exact .inl m7
        · exact .inr (by omega)
      · rw [runR_ask e0 x0]
        exact ⟨1, by omega, by omega, rfl, hk, by rw [hl]; omega, hr, .inl x0⟩
    · rw [runR_err e0] at e; exact absurd e e0
end

end Go.Proofs.YtfhlligcbpnkkaaDoor

/-
  Appends onto rows of the call's own: small facts on how such a row lies, and what an append leaves. Over no program.
-/
namespace Go.Proofs.YtfhlligcbpnkkaaDoor
open Go.RowKit

section
variable {E : TypeId} {w w' W : World} {base B : Nat} {A : Option Addr} {c n : Nat} {zs : List Int}
theorem OwnI.cap (h : OwnI E w base A c zs) : zs.length ≤ c ∧ c ≤ 9223372036854775807 := by
  rcases h.2.2.2 with ⟨e, h0⟩ | ⟨g, cap, cur, e, _, _, hc, hm, _⟩
  · injection e with _ e2 e3
    omega
  · injection e with _ _ e3
    subst e3
    unfold maxLen at hm
    omega
theorem OwnI.intsN (h : OwnI E w base A c zs) (hl : zs.length = n) : Ints w A n zs := hl ▸ h.ints
theorem below_app (hb : Below B W w) (ho : OwnI E w B A c zs) (hg : w.grownBy w' (Value.slice A n c).ownBlock) (hs : B ≤ w.heap.size := by first | exact Nat.le_refl _ | omega) : Below B W w' :=
  hb.grown hg hs (by intro k hk; exact ho.block k hk)
theorem below_app0 (hg : w.grownBy w' (Value.slice none n c).ownBlock) : Below w.heap.size w w' := (Below.refl w.heap.size w).grown hg (Nat.le_refl _) (by simp [Value.ownBlock])
end

end Go.Proofs.YtfhlligcbpnkkaaDoor

/-
  A row of numbers of the call's own, FROM WHATEVER PLACE OF ITS BLOCK ON (what 'q = q[1:]' leaves): kept, cut at its head, appended onto. Over no program.
-/
namespace Go.Proofs.YtfhlligcbpnkkaaDoor
open Go.RowKit

/-- The row. -/
def OwnQ (E : TypeId) (w : World) (base : Nat) (A : Option Addr) (c : Nat) (zs : List Int) : Prop :=
  zs.length * 8 ≤ 140737488351232 ∧ (∀ z ∈ zs, Fit z) ∧
    ((A = none ∧ zs = [] ∧ c = 0) ∨ ∃ g o cs, A = some ⟨g, o, none⟩ ∧ base ≤ g ∧ Bk w g E cs ∧ zs.length ≤ c ∧ c ≤ maxLen ∧ o + c ≤ cs.size ∧ ∀ j, j < zs.length → w.cell? ⟨g, o + j, none⟩ = some (.int .i64 (nth zs j)))

section
variable {E : TypeId} {w w' : World} {base : Nat} {A : Option Addr} {c : Nat} {zs : List Int}
theorem OwnI.que (h : OwnI E w base A c zs) : OwnQ E w base A c zs := by
  refine ⟨h.1, h.2.1, ?_⟩
  have hi := h.ints
  rcases h.2.2.2 with ⟨e, h0⟩ | ⟨g, cap, cur, e, hb, hh, hc, hm, hs, -⟩
  · injection e with e1 _ e3
    exact .inl ⟨e1, List.eq_nil_of_length_eq_zero h0, e3⟩
  · injection e with e1 e2 e3
    subst e1 e3
    refine .inr ⟨g, 0, cur, rfl, hb, hh, hc, hm, by omega, fun j hj => ?_⟩
    rw [Nat.zero_add]
    exact (h.at_ hj).1

theorem OwnQ.ints (h : OwnQ E w base A c zs) : Ints w A zs.length zs := by
  refine ⟨rfl, h.1, h.2.1, fun hn => ?_⟩
  rcases h.2.2 with ⟨_, e, _⟩ | ⟨g, o, cs, e, _, hk, _, _, _, hc⟩
  · rw [e] at hn; simp at hn
  · exact ⟨g, o, e, hk.lt, hc⟩
theorem OwnQ.nil_ (E : TypeId) (w : World) (base : Nat) : OwnQ E w base none 0 [] := ⟨by simp, by simp, .inl ⟨rfl, rfl, rfl⟩⟩
theorem OwnQ.form (h : OwnQ E w base A c zs) (hn : 0 < zs.length) : ∃ g o, A = some ⟨g, o, none⟩ ∧ base ≤ g ∧ g < w.heap.size ∧ zs.length ≤ c ∧ c ≤ maxLen := by
  rcases h.2.2 with ⟨_, e, _⟩ | ⟨g, o, cs, e, hb, hk, hc, hm, _, _⟩
  · rw [e] at hn; simp at hn
  · exact ⟨g, o, e, hb, hk.lt, hc, hm⟩
theorem OwnQ.block (h : OwnQ E w base A c zs) {n d : Nat} : ∀ k, (Value.slice A n d).ownBlock = some k → base ≤ k ∧ k < w.heap.size := by
  intro k hk
  rcases h.2.2 with ⟨e, _⟩ | ⟨g, o, cs, e, hb, hbk, _⟩
  · subst e; simp [Value.ownBlock] at hk
  · subst e; simp [Value.ownBlock] at hk; subst hk; exact ⟨hb, hbk.lt⟩
/-- Such a row's block holds cells of its own type. -/
theorem OwnQ.type (h : OwnQ E w base A c zs) {n d k : Nat} (hk : (Value.slice A n d).ownBlock = some k) : ∃ cs, Bk w k E cs := by
  rcases h.2.2 with ⟨e, _⟩ | ⟨g, o, cs, e, hb, hbk, _⟩
  · subst e; simp [Value.ownBlock] at hk
  · subst e; simp [Value.ownBlock] at hk; subst hk; exact ⟨cs, hbk⟩
theorem OwnQ.grown (h : OwnQ E w base A c zs) {row : Option Nat} (hg : w.grownBy w' row) (hne : (Value.slice A 0 0).ownBlock = none ∨ (Value.slice A 0 0).ownBlock ≠ row) : OwnQ E w' base A c zs := by
  refine ⟨h.1, h.2.1, ?_⟩
  rcases h.2.2 with h0 | ⟨g, o, cs, e, hb, hbk, h1, h2, h3, h4⟩
  · exact .inl h0
  · subst e
    have hr : some g ≠ row := by
      rcases hne with e | e
      · simp [Value.ownBlock] at e
      · simpa [Value.ownBlock] using e
    have hk := hbk.grown hg hr
    refine .inr ⟨g, o, cs, rfl, hb, hk, h1, h2, h3, fun j hj => ?_⟩
    rw [hk.cell, ← hbk.cell]
    exact h4 j hj
theorem OwnQ.below (h : OwnQ E w base A c zs) (hb : Below w.heap.size w w') : OwnQ E w' base A c zs :=
  h.grown (row := none) ⟨hb.os, hb.tape, hb.output, hb.size, fun k hk _ => hb.block k hk⟩ (by cases (Value.slice A 0 0).ownBlock <;> simp)
theorem OwnQ.base_ {base' : Nat} (h : OwnQ E w base A c zs) (hb : base' ≤ base) : OwnQ E w base' A c zs := by
  refine ⟨h.1, h.2.1, ?_⟩
  rcases h.2.2 with h0 | ⟨g, o, cs, e, hb', r⟩
  · exact .inl h0
  · exact .inr ⟨g, o, cs, e, by omega, r⟩
theorem OwnQ.setOther (h : OwnQ E w base A c zs) {p : Addr} (hp : (Value.slice A 0 0).ownBlock = none ∨ (Value.slice A 0 0).ownBlock ≠ some p.block) (u : Value) : OwnQ E (w.setCell p u) base A c zs :=
  h.grown (row := some p.block) ⟨rfl, rfl, rfl, by simp [World.setCell], fun k _ hne => Below.heap_setCell w _ u k (by intro e; exact hne (by rw [e]))⟩ hp

theorem nth_drop1 (zs : List Int) (j : Nat) : nth (zs.drop 1) j = nth zs (j + 1) := by
  simp [nth, List.getD]

/-- 'q[1:]' (where the capacity is used up the address stays). -/
theorem OwnQ.tail {g o o' : Nat} (h : OwnQ E w base (some ⟨g, o, none⟩) c zs) (hz : 0 < zs.length) (ho : o' = o + 1 ∨ (c = 1 ∧ o' = o)) : OwnQ E w base (some ⟨g, o', none⟩) (c - 1) (zs.drop 1) := by
  refine ⟨by have := h.1; simp; omega, fun z hz => h.2.1 z (List.mem_of_mem_drop hz), .inr ?_⟩
  rcases h.2.2 with ⟨e, _⟩ | ⟨g', o2, cs, e, hb, hbk, h1, h2, h3, h4⟩
  · cases e
  · injection e with e
    injection e with e1 e2
    subst e1 e2
    refine ⟨g, o', cs, rfl, hb, hbk, by simp; omega, by omega, by omega, fun j hj => ?_⟩
    have hj' : j + 1 < zs.length := by simp at hj; omega
    have := h4 (j + 1) hj'
    rw [nth_drop1]
    rcases ho with rfl | ⟨hc, rfl⟩
    · rw [show o + 1 + j = o + (j + 1) by omega]; exact this
    · omega
end

theorem bk_setCells {g : Nat} {t : TypeId} : ∀ (vs : List Value) (o : Nat) (w : World) (cs : Array Value), Bk w g t cs → ∃ cs', Bk (w.setCells g o vs) g t cs' ∧ cs'.size = cs.size
  | [], _, _, cs, h => ⟨cs, h, rfl⟩
  | v :: vs, o, w, cs, h => by
    obtain ⟨cs', h1, h2⟩ := bk_setCells vs (o + 1) _ _ (h.set_ o v)
    exact ⟨cs', h1, by rw [h2]; simp⟩

theorem grown_setCells (w : World) (g o : Nat) (vs : List Value) : w.grownBy (w.setCells g o vs) (some g) := by
  induction vs generalizing w o with
  | nil => exact World.grownBy.refl _ _
  | cons v vs ih => exact (grown_set (w := w) (g := g) (i := o) v).trans (ih _ _)

/-- append onto such a row, whatever slice comes behind: in place where there is room, else in a new block. -/
theorem run_append_que {P : Program} (w : World) (t ty E : TypeId) (ht : P.underlying t = some (.slice E)) (hi : (P.info? E).map (fun i => (i.zero, i.size, i.bytes)) = some (some (.int .i64 0), 1, 8))
    (base : Nat) (A : Option Addr) (c : Nat) (xs : List Int) (hown : OwnQ E w base A c xs) (B : Option Addr) (m d : Nat) (ys : List Int) (hy : Ints w B m ys)
    (hb : (xs.length + m) * 8 ≤ 140737488351232) (hbase : base ≤ w.heap.size) :
    ∃ A' c' w', (Builtin.append_ #[t, t] ty #[.slice A xs.length c, .slice B m d]).run P w = .ok (.slice A' (xs ++ ys).length c') w' ∧ OwnQ E w' base A' c' (xs ++ ys) ∧ w.grownBy w' (Value.slice A xs.length c).ownBlock ∧
      ∀ k, (Value.slice A' 0 0).ownBlock = some k → (Value.slice A 0 0).ownBlock = some k ∨ w.heap.size ≤ k := by
  have hy0 := hy
  obtain ⟨ly, by_, fy, _⟩ := hy0
  have hff : ∀ z ∈ xs ++ ys, Fit z := fun z hz => (List.mem_append.1 hz).elim (hown.2.1 z) (fy z)
  have hlen : (xs ++ ys).length = xs.length + m := by rw [List.length_append, ly]
  rcases hown.2.2 with ⟨e, e0, ec⟩ | ⟨g, o, cs, e, hbg, hbk, h1, h2, h3, h4⟩
  · subst e e0 ec
    obtain ⟨i, hi', hz0, hz1, hz2⟩ := info_parts hi
    cases B with
    | none =>
      obtain ⟨v', w', hr, A', c', rfl, h2, h3⟩ := run_append_ints (P := P) w t ty E ht hi base none 0 [] (OwnI.nil_ _ _ _) none m d ys hy hb hbase
      have hm : ys = [] := by
        rcases Nat.eq_zero_or_pos m with h | h
        · exact List.eq_nil_of_length_eq_zero (by omega)
        · obtain ⟨b, o, e, _⟩ := hy.2.2.2 h; cases e
      subst hm
      refine ⟨A', c', w', hr, h2.que, h3, fun k hk => ?_⟩
      rcases h2.2.2.2 with ⟨e, _⟩ | ⟨g, cap, cur, e, hb', hh, hc, hm', hs, _⟩
      · injection e with e _ _; subst e; simp [Value.ownBlock] at hk
      · have := run_append_nothing (P := P) w base t ty E i ht hi' (.slice none 0 0) 0 [] (World.ownsRow_nil w base E 1) d
        obtain rfl : m = 0 := by simpa using ly.symm
        rw [show ([] : List Int).length = 0 from rfl] at hr
        rw [this] at hr
        injection hr with hr _
        injection hr with hr _ _
        subst hr
        simp [Value.ownBlock] at hk
    | some ad =>
      obtain ⟨v', w', hr, h2, h3, _, hat⟩ := run_append_own_at (P := P) w base t ty E i (.int .i64 0) 1 8 ht hi' hz0 hz1 hz2 rfl (by decide) (.slice none 0 0) 0 [] (World.ownsRow_nil w base E 1) ad m d (ys.map (Value.int .i64)) (by simp [ly]) (hy.append_src rfl) (ints_oneCell .i64 ys)
        (by unfold maxLen; simp at hb; omega) (by simp at hb ⊢; omega) hbase
      have e : ∃ A' c', v' = .slice A' ([] ++ ys).length c' := by
        rcases h2.2 with ⟨rfl, h0⟩ | ⟨g, cap, cur, rfl, _⟩
        · exact ⟨none, 0, by rw [List.nil_append, ly]; simpa using h0.symm⟩
        · exact ⟨_, cap, by rw [List.nil_append, ly, Nat.zero_add]⟩
      obtain ⟨A', c', rfl⟩ := e
      have hI : OwnI E w' base A' c' ([] ++ ys) := ⟨by rw [List.nil_append, ly]; exact by_, hff, by simpa [ly] using h2⟩
      refine ⟨A', c', w', hr, hI.que, by simpa using h3, fun k hk => ?_⟩
      right
      rcases hat with e | e
      · cases A' with
        | none => simp [Value.ownBlock] at hk
        | some a => simp [Value.ownBlock] at e
      · cases A' with
        | none => simp [Value.ownBlock] at hk
        | some a => simp [Value.ownBlock] at e hk; omega
  · subst e
    obtain ⟨i, hi', hz0, hz1, hz2⟩ := info_parts hi
    cases B with
    | none =>
      have hm : m = 0 := by
        rcases Nat.eq_zero_or_pos m with h | h
        · exact h
        · obtain ⟨b, o, e, _⟩ := hy.2.2.2 h; cases e
      subst hm
      obtain rfl : ys = [] := List.eq_nil_of_length_eq_zero ly
      refine ⟨some ⟨g, o, none⟩, c, w, ?_, by rwa [List.append_nil], World.grownBy.refl _ _, fun k hk => .inl hk⟩
      simp [Builtin.append_, run_underlying ht, sizeOf, typeInfo, hi', Builtin.lenOf, Builtin.firstCells, h1, storeCells]
    | some ad =>
      by_cases hroom : xs.length + m ≤ c
      · have hsz := hz1
        have hr := run_append_room_cells (P := P) (w := w) t ty E i ht hi' g o xs.length c ad m d (ys.map (Value.int .i64)) (by simp [ly, hz1]) (hy.append_src rfl) (ints_oneCell .i64 ys) hroom
          (fun j hj => by
            have hj' : j < m := by simpa [ly] using hj
            rw [hz1, Nat.mul_one, hbk.cell]
            simp
            omega) (fun j _ => hbk.frozen _)
        rw [hz1, Nat.mul_one] at hr
        obtain ⟨cs', hbk', hs'⟩ := bk_setCells (ys.map (Value.int .i64)) (o + xs.length) w cs hbk
        refine ⟨some ⟨g, o, none⟩, c, w.setCells g (o + xs.length) (ys.map (Value.int .i64)), by rw [hlen]; exact hr, ⟨by rw [hlen]; exact hb, hff, .inr ⟨g, o, cs', rfl, hbg, hbk', by rw [hlen]; exact hroom, h2, by rw [hs']; exact h3, fun j hj => ?_⟩⟩, grown_setCells _ _ _ _, fun k hk => .inl hk⟩
        rcases Nat.lt_or_ge j xs.length with hjx | hjx
        · rw [World.cell?_setCells_out g _ _ _ _ (fun _ _ => .inl (by simp; omega)), h4 j hjx]
          congr 2
          rw [nth_get hjx, nth_get (by rw [List.length_append]; omega), List.getElem_append_left]
        · obtain ⟨q, rfl⟩ : ∃ q, j = xs.length + q := ⟨j - xs.length, by omega⟩
          have hq : q < ys.length := by rw [hlen] at hj; omega
          have := World.cell?_setCells_in g (ys.map (Value.int .i64)) (o + xs.length) w (fun j hj => by
            have hj' : j < m := by simpa [ly] using hj
            rw [hbk.cell]
            simp
            omega) q (by simpa using hq)
          rw [Nat.add_assoc] at this
          rw [this]
          simp
          rw [nth_get (by rw [List.length_append]; omega), List.getElem_append_right (by omega)]
          simp
      · have holds : ∀ j u, (xs.map (Value.int .i64))[j]? = some u → w.cell? ((⟨g, o, none⟩ : Addr).add j) = some u := hown.ints.append_src rfl
        obtain ⟨v', w', hr, h5, h6⟩ := run_append_arg_grows (P := P) (w := w) t ty E i (.int .i64 0) 1 8 ht hi' hz0 hz1 hz2 rfl (by decide) ⟨g, o, none⟩ xs.length c (xs.map (Value.int .i64)) (by simp) holds ad m d (ys.map (Value.int .i64)) (by simp [ly]) (hy.append_src rfl) (by omega) (by unfold maxLen; omega) (by omega)
        have e : ∃ A' c', v' = .slice A' (xs ++ ys).length c' := by
          rcases h5.2 with ⟨rfl, h0⟩ | ⟨g, cap, cur, rfl, _⟩
          · exact ⟨none, 0, by rw [hlen, h0]⟩
          · exact ⟨_, cap, by rw [hlen]⟩
        obtain ⟨A', c', rfl⟩ := e
        have hI : OwnI E w' w.heap.size A' c' (xs ++ ys) := ⟨by rw [hlen]; exact hb, hff, by simpa [ly] using h5⟩
        refine ⟨A', c', w', hr, (hI.que).base_ hbase, ⟨h6.os, h6.tape, h6.output, h6.size, fun k hk _ => h6.block k hk (by simp)⟩, fun k hk => .inr ?_⟩
        exact hI.block (n := 0) (d := 0) k hk

/-- append, at the operation. -/
theorem wpList_append_que {P : Program} (w : World) {ops : Array Oper} {rest : List Oper} {o : Oper} {a : Act} {Q : Exit → Act → World → Prop} (hgd : o.guard = none) (s x : Operand) (t : TypeId)
    (ho : o.op = .call { callee := .builtin .append, args := #[s, x], argTypes := #[t, t] })
    (E : TypeId) (ht : P.underlying t = some (.slice E)) (hi : (P.info? E).map (fun i => (i.zero, i.size, i.bytes)) = some (some (.int .i64 0), 1, 8))
    (base : Nat) (A : Option Addr) (c : Nat) (xs : List Int) (n : Nat) (hn : n = xs.length) (hs : a.eval s = .slice A n c) (hown : OwnQ E w base A c xs) (B : Option Addr) (m d : Nat) (ys : List Int) (hx : a.eval x = .slice B m d) (hy : Ints w B m ys)
    (hb : (xs.length + m) * 8 ≤ 140737488351232) (hbase : base ≤ w.heap.size)
    (h : ∀ A' c' w', OwnQ E w' base A' c' (xs ++ ys) → w.grownBy w' (Value.slice A n c).ownBlock → (∀ k, (Value.slice A' 0 0).ownBlock = some k → (Value.slice A 0 0).ownBlock = some k ∨ w.heap.size ≤ k) → wpList P ops Q rest (a.put o.dst (.slice A' (xs ++ ys).length c')) w') :
    wpList P ops Q (o :: rest) a w := by
  subst hn
  refine wpList_plain hgd fun K hK => ?_
  obtain ⟨A', c', w', hr, h2, h3, h4⟩ := run_append_que (P := P) w t o.type E ht hi base A c xs hown B m d ys hy hb hbase
  unfold Oper.wp execOp
  simp only [ho, resolve, invoke, builtin, Sem.run_bind, Sem.run_pure, Result.andThen_ok, List.map_toArray, List.map_cons, List.map_nil, hs, hx, hr]
  exact hK _ _ (h A' c' w' h2 h3 h4)

end Go.Proofs.YtfhlligcbpnkkaaDoor

/-
  Plain words and lemmas for walks over slices of bools, over no program: a slice that reads as a list of bools, a row of bools of the call's own, append.
-/
namespace Go.Proofs.YtfhlligcbpnkkaaDoor
open Go.RowKit

/-- A slice of bools reads as a list. -/
def Flags (w : World) (A : Option Addr) (n : Nat) (zs : List Bool) : Prop :=
  zs.length = n ∧ n ≤ 140737488351232 ∧ (0 < n → ∃ b o, A = some ⟨b, o, none⟩ ∧ b < w.heap.size ∧ ∀ j, j < n → w.cell? ⟨b, o + j, none⟩ = some (.bool (bth zs j)))

theorem bth_beyond {zs : List Bool} {j : Nat} (h : zs.length ≤ j) : bth zs j = false := by simp [bth, List.getD, List.getElem?_eq_none h]
theorem bth_set (zs : List Bool) (k j : Nat) (x : Bool) (h : j < zs.length) : bth (zs.set k x) j = if k = j then x else bth zs j := by
  rw [bth_get (by simpa using h), List.getElem_set, bth_get h]
theorem ext_bth {xs ys : List Bool} (hl : xs.length = ys.length) (h : ∀ j, j < xs.length → bth xs j = bth ys j) : xs = ys :=
  List.ext_getElem hl fun i h1 h2 => by
    have := h i h1
    rwa [bth_get h1, bth_get h2] at this

theorem Flags.below {w w' : World} {A : Option Addr} {n : Nat} {zs : List Bool} (h : Flags w A n zs) (hb : Below w.heap.size w w') : Flags w' A n zs :=
  ⟨h.1, h.2.1, fun hn => by
    obtain ⟨b, o, e, hlt, hc⟩ := h.2.2 hn
    exact ⟨b, o, e, Nat.lt_of_lt_of_le hlt hb.size, fun j hj => (hb.cell (p := ⟨b, o + j, none⟩) hlt).trans (hc j hj)⟩⟩

theorem Flags.nil_ (w : World) (A : Option Addr) : Flags w A 0 [] := ⟨rfl, by omega, fun h => by omega⟩

theorem Flags.append_src {w : World} {A : Option Addr} {n : Nat} {zs : List Bool} (h : Flags w A n zs) {a : Addr} (e : A = some a) :
    ∀ j u, (zs.map Value.bool)[j]? = some u → w.cell? (a.add j) = some u := by
  intro j u hu
  have hj : j < zs.length := by simpa using (List.getElem?_eq_some_iff.1 hu).1
  obtain ⟨b, o, e', _, hc⟩ := h.2.2 (by have := h.1; omega)
  rw [e'] at e
  injection e with e
  subst e
  rw [Addr.add_lit, hc j (by have := h.1; omega), bth_get hj]
  simpa [hj] using hu

theorem bools_oneCell (zs : List Bool) : ∀ u ∈ zs.map Value.bool, u.oneCell' = true := by
  intro u hu
  obtain ⟨z, _, rfl⟩ := List.mem_map.1 hu
  rfl

theorem OwnB.below {E : TypeId} {w w' : World} {base : Nat} {A : Option Addr} {c : Nat} {zs : List Bool} (h : OwnB E w base A c zs) (hb : Below w.heap.size w w') : OwnB E w' base A c zs :=
  World.ownsRow.kept h (row := none) ⟨hb.os, hb.tape, hb.output, hb.size, fun k hk _ => hb.block k hk⟩ (by cases (Value.slice A zs.length c).ownBlock <;> simp)

theorem OwnB.nil_ (E : TypeId) (w : World) (base : Nat) : OwnB E w base none 0 [] := World.ownsRow_nil w base E 1

theorem OwnB.form {E : TypeId} {w : World} {base : Nat} {A : Option Addr} {c : Nat} {zs : List Bool} (h : OwnB E w base A c zs) (hn : 0 < zs.length) :
    ∃ g, A = some ⟨g, 0, none⟩ ∧ base ≤ g ∧ g < w.heap.size ∧ zs.length ≤ c ∧ c ≤ maxLen := by
  rcases (show w.ownsRow base E 1 (.slice A zs.length c) zs.length (zs.map Value.bool) from h).2 with ⟨h1, h2⟩ | ⟨g, cap, cur, e, hb, hh, hc, hm, _⟩
  · omega
  · injection e with e1 e2 e3
    subst e1 e3
    exact ⟨g, rfl, hb, (Array.getElem?_eq_some_iff.1 hh).1, hc, hm⟩

theorem OwnB.block {E : TypeId} {w : World} {base : Nat} {A : Option Addr} {c : Nat} {zs : List Bool} (h : OwnB E w base A c zs) {n d : Nat} : ∀ k, (Value.slice A n d).ownBlock = some k → base ≤ k := by
  intro k hk
  refine (World.ownsRow.lt h k ?_).1
  cases A with
  | none => simp [Value.ownBlock] at hk
  | some ad => simpa [Value.ownBlock] using hk

theorem OwnB.flags {E : TypeId} {w : World} {base : Nat} {A : Option Addr} {c : Nat} {zs : List Bool} (h : OwnB E w base A c zs) (hl : zs.length ≤ 140737488351232) : Flags w A zs.length zs := by
  refine ⟨rfl, hl, fun hn => ?_⟩
  obtain ⟨g, rfl, _, hlt, _, _⟩ := h.form hn
  exact ⟨g, 0, rfl, hlt, fun j hj => by rw [Nat.zero_add]; exact (h.at_ hj).1⟩

theorem run_append_flags {P : Program} (w : World) (t ty E : TypeId) (ht : P.underlying t = some (.slice E)) (hi : (P.info? E).map (fun i => (i.zero, i.size, i.bytes)) = some (some (.bool false), 1, 1))
    (base : Nat) (A : Option Addr) (c : Nat) (xs : List Bool) (hown : OwnB E w base A c xs) (B : Option Addr) (m d : Nat) (ys : List Bool) (hy : Flags w B m ys)
    (hb : xs.length + m ≤ 140737488351232) (hbase : base ≤ w.heap.size) :
    ∃ A' c' w', (Builtin.append_ #[t, t] ty #[.slice A xs.length c, .slice B m d]).run P w = .ok (.slice A' (xs ++ ys).length c') w' ∧ OwnB E w' base A' c' (xs ++ ys) ∧ w.grownBy w' (Value.slice A xs.length c).ownBlock := by
  obtain ⟨i, hi, hz0, hz1, hz2⟩ := info_parts hi
  obtain ⟨ly, by_, _⟩ := id hy
  cases B with
  | none =>
    have hm : m = 0 := by
      rcases Nat.eq_zero_or_pos m with h | h
      · exact h
      · obtain ⟨b, o, e, _⟩ := hy.2.2 h
        cases e
    subst hm
    obtain rfl : ys = [] := List.eq_nil_of_length_eq_zero ly
    refine ⟨A, c, w, ?_, ?_, World.grownBy.refl _ _⟩
    · simpa using run_append_nothing w base t ty E i ht hi _ _ _ hown d
    · simpa using hown
  | some ad =>
    obtain ⟨v', w', hr, h2, h3, _⟩ := run_append_own_at (P := P) w base t ty E i (.bool false) 1 1 ht hi hz0 hz1 hz2 rfl (by decide) _ _ _ hown ad m d (ys.map Value.bool) (by simp [ly]) (hy.append_src rfl) (bools_oneCell ys)
      (by unfold maxLen; omega) (by omega) hbase
    have e : ∃ A' c', v' = .slice A' (xs ++ ys).length c' := by
      rcases h2.2 with ⟨rfl, h0⟩ | ⟨g, cap, cur, rfl, _⟩
      · exact ⟨none, 0, by rw [List.length_append, ly, h0]⟩
      · exact ⟨_, cap, by rw [List.length_append, ly]⟩
    obtain ⟨A', c', rfl⟩ := e
    refine ⟨A', c', w', hr, ?_, h3⟩
    unfold OwnB
    simpa [ly] using h2

/-- append, at the operation: onto a row of bools of the call's own, whatever slice comes behind. -/
theorem wpList_append_flags {P : Program} (w : World) {ops : Array Oper} {rest : List Oper} {o : Oper} {a : Act} {Q : Exit → Act → World → Prop} (hgd : o.guard = none) (s x : Operand) (t : TypeId)
    (ho : o.op = .call { callee := .builtin .append, args := #[s, x], argTypes := #[t, t] })
    (E : TypeId) (ht : P.underlying t = some (.slice E)) (hi : (P.info? E).map (fun i => (i.zero, i.size, i.bytes)) = some (some (.bool false), 1, 1))
    (base : Nat) (A : Option Addr) (c : Nat) (xs : List Bool) (n : Nat) (hn : n = xs.length) (hs : a.eval s = .slice A n c) (hown : OwnB E w base A c xs) (B : Option Addr) (m d : Nat) (ys : List Bool) (hx : a.eval x = .slice B m d) (hy : Flags w B m ys)
    (hb : xs.length + m ≤ 140737488351232) (hbase : base ≤ w.heap.size)
    (h : ∀ A' c' w', OwnB E w' base A' c' (xs ++ ys) → w.grownBy w' (Value.slice A n c).ownBlock → wpList P ops Q rest (a.put o.dst (.slice A' (xs ++ ys).length c')) w') :
    wpList P ops Q (o :: rest) a w := by
  subst hn
  refine wpList_plain hgd fun K hK => ?_
  obtain ⟨A', c', w', hr, h2, h3⟩ := run_append_flags (P := P) w t o.type E ht hi base A c xs hown B m d ys hy hb hbase
  unfold Oper.wp execOp
  simp only [ho, resolve, invoke, builtin, Sem.run_bind, Sem.run_pure, Result.andThen_ok, List.map_toArray, List.map_cons, List.map_nil, hs, hx, hr]
  exact hK _ _ (h A' c' w' h2 h3)

end Go.Proofs.YtfhlligcbpnkkaaDoor
