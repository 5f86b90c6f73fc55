/-
  The contract of the document's own All (the reference of layer 1): it comes to 'runK' over all accesses, as cell.All does.
-/
import Derived.Test.YtmmilceemnggiaaCAll
import Derived.Test.YtmmilceemnggiaaCRdo
namespace Go.Proofs.Ytmmilceemnggiaa
open Go.RowKit

theorem below_then {w a b : World} (h : Below w.heap.size w a) (k : Below a.heap.size a b) : Below w.heap.size w b := h.trans (k.mono h.size)

/-- The relation of the loop of the document's All. -/
def RallRel (w : World) (zs : List Int) (l : List M) (m : Nat) (v0 v7 t : Value) (wr : World) : Prop :=
  ∃ k : Nat, k ≤ m ∧ t = .int .i64 k ∧ ∃ cs ts A c B d, v0 = .slice A cs.length c ∧ v7 = .slice B ts.length d ∧ runK zs l k = (cs, ts, 0) ∧ OwnI 2 wr w.heap.size A c cs ∧
    OwnI 2 wr w.heap.size B d ts ∧ Below w.heap.size w wr

set_option maxHeartbeats 800000 in
theorem rall_any (A A' : Option Addr) (n c m c' : Nat) (zs : List Int) (l : List M) (w : World) (hx : Ints w A n zs) (hn : n ≤ 65536) (hl : Mics w A' m l) :
    Calls Try.prog 22 #[.slice A n c, .slice A' m c'] w (NewIL (runK zs l m) w) := by
  have HZL := Lib.hid hx.1
  have HX := Lib.hid hx
  have HL := Lib.hid hl
  have hm := hl.2.1
  have bx := hx.2.1
  clear hx hl
  go_enter Try.func22, Try.ntmps22
  go_wp2_with (first
    | (go_at_call 15; refine (rcheck_ok _ _ _ _ hn).mono ?_; rintro e w' ⟨rfl, rfl⟩)
    | (at_builtin; refine wpList_append_ints _ rfl _ _ 23 rfl 2 Try.underlying23 infoI w.heap.size _ _ [] 0 rfl rfl (OwnI.nil_ _ w _) _ _ _ zs rfl HX.out (by simpa using bx) (by simp) ?_; intro A1 c1 w1 ho hg; rw [List.nil_append] at ho ⊢; have HO1 := Lib.hid ho; have HB1 := Lib.hid ((Below.refl w.heap.size w).grown hg (Nat.le_refl _) (by simp [Value.ownBlock])); clear ho hg))
  go_loopw [0, 7, 20] (fun v0 v7 t wr => RallRel w zs l m v0 v7 t wr) (fun _ _ t _ => m - (intOf t).toNat)
  case atStart => exact ⟨0, Nat.zero_le _, rfl, zs, [], A1, c1, none, 0, rfl, rfl, rfl, HO1.out, OwnI.nil_ _ _ _, HB1.out⟩
  case round =>
    obtain ⟨k, hk, rfl, cs, ts, A2, c2, B, d, rfl, rfl, hr, ho, ht, hb⟩ := hrel
    obtain ⟨hcl, htl⟩ := runK_len hr
    have HR := Lib.hid hr
    have HO := Lib.hid ho
    have HT := Lib.hid ht
    have HB := Lib.hid hb
    have HCL := Lib.hid hcl
    have HTL := Lib.hid htl
    clear hr ho ht hb hcl htl
    by_cases hlt : k < m
    · obtain ⟨b, o, rfl, hbl, hcc⟩ := (HL.out.below HB.out).2.2.2 (by omega)
      obtain ⟨h0, h1, h2, h3⟩ := hcc k hlt
      obtain ⟨fa, fb⟩ := HL.out.fit hlt
      have FA := Lib.hid fa
      have FB := Lib.hid fb
      have hfit := acc_fit (k := mK l k) (p := mP l k) HO.out.2.1 fa fb
      have hdoo : doo cs (mK l k) (mP l k) (mA l k) (mB l k) = acc cs (mK l k) (mP l k) (mA l k) (mB l k) := if_neg (by rw [HCL.out, HZL.out]; omega)
      clear hcc fa fb
      generalize ha : acc cs (mK l k) (mP l k) (mA l k) (mB l k) = q at hfit hdoo
      obtain ⟨cs', x, y⟩ := q
      have HA := Lib.hid ha
      have HD := Lib.hid hdoo
      have HF := Lib.hid hfit
      clear ha hfit hdoo
      have hw2 := (Below.refl wr.heap.size wr).alloc (Nat.le_refl _) (.cells #[.int .i64 (mK l k), .int .i64 (mP l k), .int .i64 (mA l k), .int .i64 (mB l k)] 25)
      have HW2 := Lib.hid hw2
      clear hw2
      go_wp2_with fail
      refine (rdo_any _ _ _ cs _ _ _ _ _ (HO.out.ints.below HW2.out) FA.out FB.out).mono ?_
      rw [HD.out]
      rintro e w3 ⟨A3, c3, rfl, ho3, hb3⟩
      have HO3 := Lib.hid ho3
      have HB3 := Lib.hid (below_then HW2.out hb3)
      have HT3 := Lib.hid (HT.out.below (below_then HW2.out hb3))
      clear ho3 hb3
      simp only []
      by_cases hy : y = 0
      · subst hy
        have HF1 := Lib.hid HF.out.2.1
        have htb : (ts.length + 1) * 8 ≤ 140737488351232 := by rw [HTL.out]; omega
        have hbs : w.heap.size ≤ w3.heap.size := Nat.le_trans HB.out.size HB3.out.size
        go_wp2_with (at_builtin; refine wpList_append_ints _ rfl _ _ 22 rfl 2 Try.underlying22 infoI w.heap.size _ _ ts _ rfl rfl (HT3.out.below ((Below.refl _ _).alloc (Nat.le_refl _) _)) _ _ _ [x] rfl (Ints.one _ _ HF1.out) htb (Nat.le_trans hbs (by simp)) ?_; intro A4 c4 w4 ho4 hg4; have HO4 := Lib.hid ho4; have HG4 := Lib.hid hg4; clear ho4 hg4)
        go_roundw
        case rel =>
          refine ⟨k + 1, by omega, by go_num, cs', ts ++ [x], A3, c3, A4, c4, rfl, by rw [List.length_append]; rfl, runK_ok HR.out HA.out, ?_, HO4.out, ?_⟩
          · refine ((HO3.out.base (Nat.le_trans HB.out.size (by simp))).below ((Below.refl _ _).alloc (Nat.le_refl _) _)).grown HG4.out (fun g hg e => ?_)
            have h1 := (HT.out.2.2.lt g e).2
            have h2 := (HO3.out.2.2.lt g hg).1
            simp at h2
            omega
          · exact (((HB.out.trans (HB3.out.mono HB.out.size)).alloc hbs _).grown HG4.out (Nat.le_trans hbs (by simp)) HT.out.block)
        case measure => simp [intOf]; omega
      · have hy2 : (y != 0) = true := by simpa using hy
        have HY := Lib.hid hy
        clear hy
        go_wp2
        go_ret3
        refine NewIL.none_ ?_ rfl (below_then HB.out HB3.out)
        have h1 := runK_stays HY.out (runK_bad HR.out HA.out HY.out) (m - (k + 1))
        rwa [show k + 1 + (m - (k + 1)) = m from by omega] at h1
    · have : k = m := by omega
      subst this
      go_wp2
      go_ret3
      rw [HR.out]
      exact ⟨A2, c2, B, d, rfl, HO.out, HT.out, HB.out⟩

end Go.Proofs.Ytmmilceemnggiaa
