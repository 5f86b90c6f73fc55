/-
  The law SemaDoes: the program's calls, and the document's, one beside the other: the walk.
-/
import Derived.Test.YtokmogfnliccjaaMs
namespace Go.Proofs.Ytokmogfnliccjaa
open Go.RowKit

theorem fit_new {n : Int} (h : Fit n) : Fit (newR n).2.1 := by
  unfold newR
  split
  · exact h
  · exact fit0
theorem fit_take {z : Int} (h : Fit z) (l : List Int) (id : Int) : Fit (takeR z l id).2.2.1 := by
  by_cases hok : semOk z l
  · rcases take_ways hok id with ⟨e, _, hr, _⟩ | ⟨hr, _, hz, _⟩ | ⟨hr, _⟩
    · rw [hr]; exact fit0
    · rw [hr]; unfold Fit at h ⊢; dsimp only; omega
    · rw [hr]; exact fit0
  · unfold takeR
    rw [if_pos hok]
    exact fit0
theorem fit_give {z : Int} (h : Fit z) (l : List Int) : Fit (giveR z l).2.2.1 := by
  unfold giveR
  by_cases hok : semOk z l
  · have h1 := hok.1
    have h2 := hok.2.1
    rw [if_neg (fun q => q hok)]
    split
    · exact fit0
    · split
      · exact fit0
      · unfold Fit at h ⊢; dsimp only; omega
  · rw [if_pos hok]; exact fit0
theorem fit_drop {z : Int} (h : Fit z) (l : List Int) (id : Int) : Fit (dropR z l id).2.1 := by
  unfold dropR
  split
  · exact fit0
  · split
    · exact fit0
    · exact h
theorem fit_wrap (x : Int) : Fit (wrap64 x) := by
  unfold Fit wrap64
  omega
theorem take_len {z : Int} (l : List Int) (id : Int) : (takeR z l id).2.2.2.length ≤ 256 := by
  by_cases hok : semOk z l
  · rcases take_ways hok id with ⟨e, _, hr, _⟩ | ⟨hr, _, hz, _⟩ | ⟨hr, _, _, _, hl⟩
    · rw [hr]; simp
    · rw [hr]; simp
    · rw [hr]; simp; omega
  · unfold takeR
    rw [if_pos hok]
    simp

set_option maxRecDepth 100000 in
set_option maxHeartbeats 16000000 in
theorem ldoes_any (m z y id : Int) (A A' : Option Addr) (n c n' c' : Nat) (l l' : List Int) (w : World) (fn : Fit m) (fz : Fit z) (hnc : n ≤ c ∧ c ≤ 9223372036854775807) (hx : n ≤ 400 → SemW w z A n c l) (fy : Fit y) (hnc' : n' ≤ c' ∧ c' ≤ 9223372036854775807) (hx' : n' ≤ 400 → SemW w y A' n' c' l') (fid : Fit id) :
    Calls Try.prog 3 #[.int .i64 m, .agg #[.int .i64 z, .slice A n c], .agg #[.int .i64 y, .slice A' n' c'], .int .i64 id] w (TrueAns w) := by
  have := hnc; clear this
  have := fz; clear this
  have := fy; clear this
  have := hnc'; clear this
  by_cases h3 : 300 < n
  · have t3 : decide (300 < (n : Int)) = true := decide_eq_true (by omega)
    clear hx hx' fz fy fn fid
    obtain ⟨k1, k2, hb0⟩ := lies2 w #[.int .i64 z, .slice A n c] #[.int .i64 y, .slice A' n' c'] 24 24
    obtain ⟨V, hV⟩ : ∃ V, (w.alloc (.cells #[.int .i64 z, .slice A n c] 24)).alloc (.cells #[.int .i64 y, .slice A' n' c'] 24) = V := ⟨_, rfl⟩
    rw [hV] at k1 k2 hb0
    have HV := Lib.hid hV
    have BB := Lib.hid hb0
    have S0 := Lib.hid k1
    have SO := Lib.hid k2
    clear k1 k2 hb0 hV
    go_enter Try.func3, Try.ntmps3
    go_upto_region 1 with fail
    rw [HV.out]
    clear HV
    go_wp2_with fail
    refine (live_any _).mono ?_
    rintro e w1 ⟨rfl, b⟩
    replace S0 := Lib.hid (S0.out.below b S0.out.lt)
    replace SO := Lib.hid (SO.out.below b SO.out.lt)
    replace BB := Lib.hid (below3 BB.out b)
    clear b
    have a10 := S0.out.c1
    have lg0 := S0.out.lt
    have a11 := SO.out.c1
    have lg1 := SO.out.lt
    go_wp2_with fail
    go_ret
    exact ⟨rfl, BB.out⟩
  · have t3 : decide (300 < (n : Int)) = false := decide_eq_false (by omega)
    by_cases h4 : 300 < n'
    · have t4 : decide (300 < (n' : Int)) = true := decide_eq_true (by omega)
      clear fz fy fn fid hx'
      obtain ⟨k1, k2, hb0⟩ := lies2 w #[.int .i64 z, .slice A n c] #[.int .i64 y, .slice A' n' c'] 24 24
      have hs1 := (hx (by omega)).below hb0
      obtain ⟨V, hV⟩ : ∃ V, (w.alloc (.cells #[.int .i64 z, .slice A n c] 24)).alloc (.cells #[.int .i64 y, .slice A' n' c'] 24) = V := ⟨_, rfl⟩
      rw [hV] at k1 k2 hb0 hs1
      have HV := Lib.hid hV
      have BB := Lib.hid hb0
      have S0 := Lib.hid k1
      have SO := Lib.hid k2
      clear k1 k2 hb0 hV hs1 hx
      go_enter Try.func3, Try.ntmps3
      go_upto_region 1 with fail
      rw [HV.out]
      clear HV
      go_wp2_with fail
      refine (live_any _).mono ?_
      rintro e w1 ⟨rfl, b⟩
      replace S0 := Lib.hid (S0.out.below b S0.out.lt)
      replace SO := Lib.hid (SO.out.below b SO.out.lt)
      replace BB := Lib.hid (below3 BB.out b)
      clear b
      have a10 := S0.out.c1
      have lg0 := S0.out.lt
      have a11 := SO.out.c1
      have lg1 := SO.out.lt
      go_wp2_with fail
      go_ret
      exact ⟨rfl, BB.out⟩
    · have t4 : decide (300 < (n' : Int)) = false := decide_eq_false (by omega)
      have hn3 : n ≤ 300 := by omega
      have LX := Lib.hid (hx (by omega)).x.1
      have FN := Lib.hid fn
      have FID := Lib.hid fid
      obtain ⟨k1, k2, hb0⟩ := lies2 w #[.int .i64 z, .slice A n c] #[.int .i64 y, .slice A' n' c'] 24 24
      have hs1 := (hx (by omega)).below hb0
      have ho1 := (hx' (by omega)).below hb0
      obtain ⟨V, hV⟩ : ∃ V, (w.alloc (.cells #[.int .i64 z, .slice A n c] 24)).alloc (.cells #[.int .i64 y, .slice A' n' c'] 24) = V := ⟨_, rfl⟩
      rw [hV] at k1 k2 hb0 hs1 ho1
      have HV := Lib.hid hV
      have BB := Lib.hid hb0
      have S0 := Lib.hid (SV.mk k1 hs1)
      have SO := Lib.hid (SV.mk k2 ho1)
      clear k1 k2 hb0 hV hs1 ho1 hx hx' fz fy fn fid h3 h4
      go_enter Try.func3, Try.ntmps3
      go_upto_region 1 with fail
      rw [HV.out]
      clear HV
      go_wp2_with fail
      refine (live_any _).mono ?_
      rintro e w1 ⟨rfl, b⟩
      replace S0 := Lib.hid (S0.out.below b)
      replace SO := Lib.hid (SO.out.below b)
      replace BB := Lib.hid (below3 BB.out b)
      clear b
      obtain ⟨⟨e1, z1, l1⟩, hr1⟩ : ∃ r, newR m = r := ⟨_, rfl⟩
      obtain ⟨q1, hq1⟩ : ∃ q, l1.length = q := ⟨_, rfl⟩
      have HR1 := Lib.hid hr1
      have HQ1 := Lib.hid hq1
      have FZ1 : Hid (Fit z1) := Lib.hid (by have := fit_new FN.out; rwa [hr1] at this)
      have te1 : (e1 == e1) = true := by simp
      obtain ⟨⟨e2, p2, z2, l2⟩, hr2⟩ : ∃ r, takeR z l id = r := ⟨_, rfl⟩
      obtain ⟨q2, hq2⟩ : ∃ q, l2.length = q := ⟨_, rfl⟩
      have HR2 := Lib.hid hr2
      have HQ2 := Lib.hid hq2
      have FZ2 : Hid (Fit z2) := Lib.hid (by have := fit_take S0.out.s.f l id; rwa [hr2] at this)
      have te2 : (e2 == e2) = true := by simp
      obtain ⟨⟨e3, x3, z3, l3⟩, hr3⟩ : ∃ r, giveR z l = r := ⟨_, rfl⟩
      obtain ⟨q3, hq3⟩ : ∃ q, l3.length = q := ⟨_, rfl⟩
      have HR3 := Lib.hid hr3
      have HQ3 := Lib.hid hq3
      have FZ3 : Hid (Fit z3) := Lib.hid (by have := fit_give S0.out.s.f l; rwa [hr3] at this)
      have te3 : (e3 == e3) = true := by simp
      obtain ⟨⟨e4, z4, l4⟩, hr4⟩ : ∃ r, dropR z l id = r := ⟨_, rfl⟩
      obtain ⟨q4, hq4⟩ : ∃ q, l4.length = q := ⟨_, rfl⟩
      have HR4 := Lib.hid hr4
      have HQ4 := Lib.hid hq4
      have FZ4 : Hid (Fit z4) := Lib.hid (by have := fit_drop S0.out.s.f l id; rwa [hr4] at this)
      have te4 : (e4 == e4) = true := by simp
      have tp2 : (p2 == p2) = true := by simp
      have tx3 : (x3 == x3) = true := by simp
      have hq256 : q2 ≤ 256 := by have := take_len (z := z) l id; rw [hr2, ← HQ2.out] at *; exact this
      clear hr1 hr2 hr3 hr4 hq1 hq2 hq3 hq4
      have a00 := S0.out.k.c0
      have a10 := S0.out.k.c1
      have lg0 := S0.out.k.lt
      have a01 := SO.out.k.c0
      have a11 := SO.out.k.c1
      have lg1 := SO.out.k.lt
      have X0 := Lib.hid S0.out.s.x
      go_upto_region 6 with fail
      go_wp2_with (at_builtin; go_loud (refine wpList_append_ints _ rfl _ _ 22 rfl 2 Try.underlying22 infoI8 w1.heap.size none 0 [] 0 rfl rfl (OwnI.nil_ _ _ _) A n c l rfl X0.out (by simp; omega) (by simp) ?_; intro A6 c6 w6 ho hgr; rw [List.nil_append] at ho ⊢; rw [LX.out]; have b6 := below_app0 hgr; have WAS := Lib.hid (SemW.own (z := 0) ho fit0 LX.out); replace S0 := Lib.hid (S0.out.below b6); replace SO := Lib.hid (SO.out.below b6); replace BB := Lib.hid (below3 BB.out b6); clear ho hgr b6 X0 a00 a10 lg0 a01 a11 lg1))
      refine (pnewC_any m _ FN.out).mono ?_
      rw [HR1.out]
      rintro e wa ⟨Aa, ca, rfl, o, b⟩
      dsimp only at o ⊢
      rw [HQ1.out]
      replace S0 := Lib.hid (S0.out.below b)
      replace SO := Lib.hid (SO.out.below b)
      replace WAS := Lib.hid (WAS.out.below b)
      replace BB := Lib.hid (below3 BB.out b)
      clear b
      have ba := (Below.refl wa.heap.size wa).alloc (Nat.le_refl _) (.cells #[.int .i64 z1, .slice Aa q1 ca] 24)
      have ka := Bk.new wa 24 #[.int .i64 z1, .slice Aa q1 ca]
      have sa := SemW.own (z := z1) (o.below ba) FZ1.out HQ1.out
      have nS0 := S0.out.below ba
      have nSO := SO.out.below ba
      have nWAS := WAS.out.below ba
      have nbb := below3 BB.out ba
      obtain ⟨ga, hga⟩ : ∃ g, wa.heap.size = g := ⟨_, rfl⟩
      have hgb := BB.out.size
      obtain ⟨Va, hVa⟩ : ∃ V, wa.alloc (.cells #[.int .i64 z1, .slice Aa q1 ca] 24) = V := ⟨_, rfl⟩
      rw [hVa] at ka sa nbb nS0 nSO nWAS
      rw [hga] at ka hgb
      have HVa := Lib.hid hVa
      have Hga := Lib.hid hga
      have HBga := Lib.hid hgb
      have Sa := Lib.hid (SV.mk ka sa)
      replace S0 := Lib.hid nS0
      replace SO := Lib.hid nSO
      replace WAS := Lib.hid nWAS
      replace BB := Lib.hid nbb
      clear ba ka sa nbb hgb hga hVa nS0 nSO nWAS
      go_upto_region 8 with fail
      rw [HVa.out]
      try rw [Hga.out]
      clear HVa Hga
      clear o
      go_wp2_with fail
      refine (rnew_any m _).mono ?_
      rw [HR1.out]
      rintro e wj ⟨Aj, cj, rfl, o, b⟩
      dsimp only at o ⊢
      rw [HQ1.out]
      replace S0 := Lib.hid (S0.out.below b)
      replace SO := Lib.hid (SO.out.below b)
      replace WAS := Lib.hid (WAS.out.below b)
      replace Sa := Lib.hid (Sa.out.below b)
      replace BB := Lib.hid (below3 BB.out b)
      clear b
      have ba := (Below.refl wj.heap.size wj).alloc (Nat.le_refl _) (.cells #[.int .i64 z1, .slice Aj q1 cj] 24)
      have ka := Bk.new wj 24 #[.int .i64 z1, .slice Aj q1 cj]
      have sa := SemW.own (z := z1) (o.below ba) FZ1.out HQ1.out
      have nS0 := S0.out.below ba
      have nSO := SO.out.below ba
      have nWAS := WAS.out.below ba
      have nSa := Sa.out.below ba
      have nbb := below3 BB.out ba
      obtain ⟨gj, hgj⟩ : ∃ g, wj.heap.size = g := ⟨_, rfl⟩
      have hgb := BB.out.size
      obtain ⟨Vj, hVj⟩ : ∃ V, wj.alloc (.cells #[.int .i64 z1, .slice Aj q1 cj] 24) = V := ⟨_, rfl⟩
      rw [hVj] at ka sa nbb nS0 nSO nWAS nSa
      rw [hgj] at ka hgb
      have HVj := Lib.hid hVj
      have Hgj := Lib.hid hgj
      have HBgj := Lib.hid hgb
      have Sj := Lib.hid (SV.mk ka sa)
      replace S0 := Lib.hid nS0
      replace SO := Lib.hid nSO
      replace WAS := Lib.hid nWAS
      replace Sa := Lib.hid nSa
      replace BB := Lib.hid nbb
      clear ba ka sa nbb hgb hgj hVj nS0 nSO nWAS nSa
      go_upto_region 9 with fail
      rw [HVj.out]
      try rw [Hgj.out]
      clear HVj Hgj
      clear o
      have BJ := Lib.hid (Below.refl Vj.heap.size Vj)
      have S0J := S0
      have WASJ := WAS
      have BBJ := BB
      have a00 := S0.out.k.c0
      have a10 := S0.out.k.c1
      have lg0 := S0.out.k.lt
      go_wp2_with fail
      refine (ptakeC_any z A n c l id _ S0.out.s FID.out).mono ?_
      rw [HR2.out]
      rintro e wc ⟨Ac, cc, rfl, o, b⟩
      dsimp only at o ⊢
      rw [HQ2.out]
      clear a00 a10 lg0
      replace S0 := Lib.hid (S0.out.below b)
      replace SO := Lib.hid (SO.out.below b)
      replace WAS := Lib.hid (WAS.out.below b)
      replace Sa := Lib.hid (Sa.out.below b)
      replace Sj := Lib.hid (Sj.out.below b)
      replace BJ := Lib.hid (below3 BJ.out b)
      replace BB := Lib.hid (below3 BB.out b)
      clear b
      have HRC := Lib.hid (fun (b' o' : Nat) (e' : Ac = some ⟨b', o', none⟩) (hp : 0 < l2.length) => (show b' < wc.heap.size from by
        obtain ⟨gr, er, _, hr, _, _⟩ := o.form hp
        rw [er] at e'
        injection e' with e'
        injection e' with e1 _ _
        omega))
      have ba := (Below.refl wc.heap.size wc).alloc (Nat.le_refl _) (.cells #[.int .i64 z2, .slice Ac q2 cc] 24)
      have ka := Bk.new wc 24 #[.int .i64 z2, .slice Ac q2 cc]
      have sa := SemW.own (z := z2) (o.below ba) FZ2.out HQ2.out
      have nS0 := S0.out.below ba
      have nSO := SO.out.below ba
      have nWAS := WAS.out.below ba
      have nSa := Sa.out.below ba
      have nSj := Sj.out.below ba
      have nOC := o.below ba
      have nBJ := below3 BJ.out ba
      have nbb := below3 BB.out ba
      obtain ⟨gc, hgc⟩ : ∃ g, wc.heap.size = g := ⟨_, rfl⟩
      have hgb := BB.out.size
      obtain ⟨Vc, hVc⟩ : ∃ V, wc.alloc (.cells #[.int .i64 z2, .slice Ac q2 cc] 24) = V := ⟨_, rfl⟩
      rw [hVc] at ka sa nbb nS0 nSO nWAS nSa nSj nOC nBJ
      rw [hgc] at ka hgb HRC
      have HVc := Lib.hid hVc
      have Hgc := Lib.hid hgc
      have HBgc := Lib.hid hgb
      have Sc := Lib.hid (SV.mk ka sa)
      replace S0 := Lib.hid nS0
      replace SO := Lib.hid nSO
      replace WAS := Lib.hid nWAS
      replace Sa := Lib.hid nSa
      replace Sj := Lib.hid nSj
      have OC := Lib.hid nOC
      replace BJ := Lib.hid nBJ
      replace BB := Lib.hid nbb
      clear ba ka sa nbb hgb hgc hVc nS0 nSO nWAS nSa nSj nOC nBJ
      go_upto_region 10 with fail
      rw [HVc.out]
      try rw [Hgc.out]
      clear HVc Hgc
      clear o
      have a00 := S0.out.k.c0
      have a10 := S0.out.k.c1
      have lg0 := S0.out.k.lt
      go_wp2_with fail
      refine (rtake_any z A n c l id _ S0.out.s FID.out).mono ?_
      rw [HR2.out]
      rintro e wd ⟨Ad, cd, rfl, o, b⟩
      dsimp only at o ⊢
      rw [HQ2.out]
      clear a00 a10 lg0
      replace S0 := Lib.hid (S0.out.below b)
      replace SO := Lib.hid (SO.out.below b)
      replace WAS := Lib.hid (WAS.out.below b)
      replace Sa := Lib.hid (Sa.out.below b)
      replace Sj := Lib.hid (Sj.out.below b)
      replace Sc := Lib.hid (Sc.out.below b)
      replace OC := Lib.hid (OC.out.below b)
      replace BJ := Lib.hid (below3 BJ.out b)
      replace BB := Lib.hid (below3 BB.out b)
      clear b
      have ba := (Below.refl wd.heap.size wd).alloc (Nat.le_refl _) (.cells #[.int .i64 z2, .slice Ad q2 cd] 24)
      have ka := Bk.new wd 24 #[.int .i64 z2, .slice Ad q2 cd]
      have sa := SemW.own (z := z2) (o.below ba) FZ2.out HQ2.out
      have nS0 := S0.out.below ba
      have nSO := SO.out.below ba
      have nWAS := WAS.out.below ba
      have nSa := Sa.out.below ba
      have nSj := Sj.out.below ba
      have nSc := Sc.out.below ba
      have nOC := OC.out.below ba
      have nBJ := below3 BJ.out ba
      have nbb := below3 BB.out ba
      obtain ⟨gd, hgd⟩ : ∃ g, wd.heap.size = g := ⟨_, rfl⟩
      have hgb := BB.out.size
      obtain ⟨Vd, hVd⟩ : ∃ V, wd.alloc (.cells #[.int .i64 z2, .slice Ad q2 cd] 24) = V := ⟨_, rfl⟩
      rw [hVd] at ka sa nbb nS0 nSO nWAS nSa nSj nSc nOC nBJ
      rw [hgd] at ka hgb
      have HVd := Lib.hid hVd
      have Hgd := Lib.hid hgd
      have HBgd := Lib.hid hgb
      have Sd := Lib.hid (SV.mk ka sa)
      replace S0 := Lib.hid nS0
      replace SO := Lib.hid nSO
      replace WAS := Lib.hid nWAS
      replace Sa := Lib.hid nSa
      replace Sj := Lib.hid nSj
      replace Sc := Lib.hid nSc
      replace OC := Lib.hid nOC
      replace BJ := Lib.hid nBJ
      replace BB := Lib.hid nbb
      clear ba ka sa nbb hgb hgd hVd nS0 nSO nWAS nSa nSj nSc nOC nBJ
      go_upto_region 11 with fail
      rw [HVd.out]
      try rw [Hgd.out]
      clear HVd Hgd
      clear o
      have a00 := S0.out.k.c0
      have a10 := S0.out.k.c1
      have lg0 := S0.out.k.lt
      go_wp2_with fail
      refine (pgiveC_any z A n c l _ S0.out.s).mono ?_
      rw [HR3.out]
      rintro e wt ⟨At, ct, rfl, o, b⟩
      dsimp only at o ⊢
      rw [HQ3.out]
      clear a00 a10 lg0
      replace S0 := Lib.hid (S0.out.below b)
      replace SO := Lib.hid (SO.out.below b)
      replace WAS := Lib.hid (WAS.out.below b)
      replace Sa := Lib.hid (Sa.out.below b)
      replace Sj := Lib.hid (Sj.out.below b)
      replace Sc := Lib.hid (Sc.out.below b)
      replace OC := Lib.hid (OC.out.below b)
      replace Sd := Lib.hid (Sd.out.below b)
      replace BJ := Lib.hid (below3 BJ.out b)
      replace BB := Lib.hid (below3 BB.out b)
      clear b
      have ba := (Below.refl wt.heap.size wt).alloc (Nat.le_refl _) (.cells #[.int .i64 z3, .slice At q3 ct] 24)
      have ka := Bk.new wt 24 #[.int .i64 z3, .slice At q3 ct]
      have sa := SemW.own (z := z3) (o.below ba) FZ3.out HQ3.out
      have nS0 := S0.out.below ba
      have nSO := SO.out.below ba
      have nWAS := WAS.out.below ba
      have nSa := Sa.out.below ba
      have nSj := Sj.out.below ba
      have nSc := Sc.out.below ba
      have nOC := OC.out.below ba
      have nSd := Sd.out.below ba
      have nBJ := below3 BJ.out ba
      have nbb := below3 BB.out ba
      obtain ⟨gt, hgt⟩ : ∃ g, wt.heap.size = g := ⟨_, rfl⟩
      have hgb := BB.out.size
      obtain ⟨Vt, hVt⟩ : ∃ V, wt.alloc (.cells #[.int .i64 z3, .slice At q3 ct] 24) = V := ⟨_, rfl⟩
      rw [hVt] at ka sa nbb nS0 nSO nWAS nSa nSj nSc nOC nSd nBJ
      rw [hgt] at ka hgb
      have HVt := Lib.hid hVt
      have Hgt := Lib.hid hgt
      have HBgt := Lib.hid hgb
      have St := Lib.hid (SV.mk ka sa)
      replace S0 := Lib.hid nS0
      replace SO := Lib.hid nSO
      replace WAS := Lib.hid nWAS
      replace Sa := Lib.hid nSa
      replace Sj := Lib.hid nSj
      replace Sc := Lib.hid nSc
      replace OC := Lib.hid nOC
      replace Sd := Lib.hid nSd
      replace BJ := Lib.hid nBJ
      replace BB := Lib.hid nbb
      clear ba ka sa nbb hgb hgt hVt nS0 nSO nWAS nSa nSj nSc nOC nSd nBJ
      go_upto_region 12 with fail
      rw [HVt.out]
      try rw [Hgt.out]
      clear HVt Hgt
      clear o
      have a00 := S0.out.k.c0
      have a10 := S0.out.k.c1
      have lg0 := S0.out.k.lt
      go_wp2_with fail
      refine (rgive_any z A n c l _ S0.out.s).mono ?_
      rw [HR3.out]
      rintro e wu ⟨Au, cu, rfl, o, b⟩
      dsimp only at o ⊢
      rw [HQ3.out]
      clear a00 a10 lg0
      replace S0 := Lib.hid (S0.out.below b)
      replace SO := Lib.hid (SO.out.below b)
      replace WAS := Lib.hid (WAS.out.below b)
      replace Sa := Lib.hid (Sa.out.below b)
      replace Sj := Lib.hid (Sj.out.below b)
      replace Sc := Lib.hid (Sc.out.below b)
      replace OC := Lib.hid (OC.out.below b)
      replace Sd := Lib.hid (Sd.out.below b)
      replace St := Lib.hid (St.out.below b)
      replace BJ := Lib.hid (below3 BJ.out b)
      replace BB := Lib.hid (below3 BB.out b)
      clear b
      have ba := (Below.refl wu.heap.size wu).alloc (Nat.le_refl _) (.cells #[.int .i64 z3, .slice Au q3 cu] 24)
      have ka := Bk.new wu 24 #[.int .i64 z3, .slice Au q3 cu]
      have sa := SemW.own (z := z3) (o.below ba) FZ3.out HQ3.out
      have nS0 := S0.out.below ba
      have nSO := SO.out.below ba
      have nWAS := WAS.out.below ba
      have nSa := Sa.out.below ba
      have nSj := Sj.out.below ba
      have nSc := Sc.out.below ba
      have nOC := OC.out.below ba
      have nSd := Sd.out.below ba
      have nSt := St.out.below ba
      have nBJ := below3 BJ.out ba
      have nbb := below3 BB.out ba
      obtain ⟨gu, hgu⟩ : ∃ g, wu.heap.size = g := ⟨_, rfl⟩
      have hgb := BB.out.size
      obtain ⟨Vu, hVu⟩ : ∃ V, wu.alloc (.cells #[.int .i64 z3, .slice Au q3 cu] 24) = V := ⟨_, rfl⟩
      rw [hVu] at ka sa nbb nS0 nSO nWAS nSa nSj nSc nOC nSd nSt nBJ
      rw [hgu] at ka hgb
      have HVu := Lib.hid hVu
      have Hgu := Lib.hid hgu
      have HBgu := Lib.hid hgb
      have Su := Lib.hid (SV.mk ka sa)
      replace S0 := Lib.hid nS0
      replace SO := Lib.hid nSO
      replace WAS := Lib.hid nWAS
      replace Sa := Lib.hid nSa
      replace Sj := Lib.hid nSj
      replace Sc := Lib.hid nSc
      replace OC := Lib.hid nOC
      replace Sd := Lib.hid nSd
      replace St := Lib.hid nSt
      replace BJ := Lib.hid nBJ
      replace BB := Lib.hid nbb
      clear ba ka sa nbb hgb hgu hVu nS0 nSO nWAS nSa nSj nSc nOC nSd nSt nBJ
      go_upto_region 13 with fail
      rw [HVu.out]
      try rw [Hgu.out]
      clear HVu Hgu
      clear o
      have a00 := S0.out.k.c0
      have a10 := S0.out.k.c1
      have lg0 := S0.out.k.lt
      go_wp2_with fail
      refine (pdropC_any z A n c l id _ S0.out.s FID.out).mono ?_
      rw [HR4.out]
      rintro e wv ⟨Av, cv, rfl, o, b⟩
      dsimp only at o ⊢
      rw [HQ4.out]
      clear a00 a10 lg0
      replace S0 := Lib.hid (S0.out.below b)
      replace SO := Lib.hid (SO.out.below b)
      replace WAS := Lib.hid (WAS.out.below b)
      replace Sa := Lib.hid (Sa.out.below b)
      replace Sj := Lib.hid (Sj.out.below b)
      replace Sc := Lib.hid (Sc.out.below b)
      replace OC := Lib.hid (OC.out.below b)
      replace Sd := Lib.hid (Sd.out.below b)
      replace St := Lib.hid (St.out.below b)
      replace Su := Lib.hid (Su.out.below b)
      replace BJ := Lib.hid (below3 BJ.out b)
      replace BB := Lib.hid (below3 BB.out b)
      clear b
      have ba := (Below.refl wv.heap.size wv).alloc (Nat.le_refl _) (.cells #[.int .i64 z4, .slice Av q4 cv] 24)
      have ka := Bk.new wv 24 #[.int .i64 z4, .slice Av q4 cv]
      have sa := SemW.own (z := z4) (o.below ba) FZ4.out HQ4.out
      have nS0 := S0.out.below ba
      have nSO := SO.out.below ba
      have nWAS := WAS.out.below ba
      have nSa := Sa.out.below ba
      have nSj := Sj.out.below ba
      have nSc := Sc.out.below ba
      have nOC := OC.out.below ba
      have nSd := Sd.out.below ba
      have nSt := St.out.below ba
      have nSu := Su.out.below ba
      have nBJ := below3 BJ.out ba
      have nbb := below3 BB.out ba
      obtain ⟨gv, hgv⟩ : ∃ g, wv.heap.size = g := ⟨_, rfl⟩
      have hgb := BB.out.size
      obtain ⟨Vv, hVv⟩ : ∃ V, wv.alloc (.cells #[.int .i64 z4, .slice Av q4 cv] 24) = V := ⟨_, rfl⟩
      rw [hVv] at ka sa nbb nS0 nSO nWAS nSa nSj nSc nOC nSd nSt nSu nBJ
      rw [hgv] at ka hgb
      have HVv := Lib.hid hVv
      have Hgv := Lib.hid hgv
      have HBgv := Lib.hid hgb
      have Sv := Lib.hid (SV.mk ka sa)
      replace S0 := Lib.hid nS0
      replace SO := Lib.hid nSO
      replace WAS := Lib.hid nWAS
      replace Sa := Lib.hid nSa
      replace Sj := Lib.hid nSj
      replace Sc := Lib.hid nSc
      replace OC := Lib.hid nOC
      replace Sd := Lib.hid nSd
      replace St := Lib.hid nSt
      replace Su := Lib.hid nSu
      replace BJ := Lib.hid nBJ
      replace BB := Lib.hid nbb
      clear ba ka sa nbb hgb hgv hVv nS0 nSO nWAS nSa nSj nSc nOC nSd nSt nSu nBJ
      go_upto_region 14 with fail
      rw [HVv.out]
      try rw [Hgv.out]
      clear HVv Hgv
      clear o
      have a00 := S0.out.k.c0
      have a10 := S0.out.k.c1
      have lg0 := S0.out.k.lt
      go_wp2_with fail
      refine (rdrop_any z A n c l id _ S0.out.s).mono ?_
      rw [HR4.out]
      rintro e wx ⟨Ax, cx, rfl, o, b⟩
      dsimp only at o ⊢
      rw [HQ4.out]
      clear a00 a10 lg0
      replace S0 := Lib.hid (S0.out.below b)
      replace SO := Lib.hid (SO.out.below b)
      replace WAS := Lib.hid (WAS.out.below b)
      replace Sa := Lib.hid (Sa.out.below b)
      replace Sj := Lib.hid (Sj.out.below b)
      replace Sc := Lib.hid (Sc.out.below b)
      replace OC := Lib.hid (OC.out.below b)
      replace Sd := Lib.hid (Sd.out.below b)
      replace St := Lib.hid (St.out.below b)
      replace Su := Lib.hid (Su.out.below b)
      replace Sv := Lib.hid (Sv.out.below b)
      replace BJ := Lib.hid (below3 BJ.out b)
      replace BB := Lib.hid (below3 BB.out b)
      clear b
      have ba := (Below.refl wx.heap.size wx).alloc (Nat.le_refl _) (.cells #[.int .i64 z4, .slice Ax q4 cx] 24)
      have ka := Bk.new wx 24 #[.int .i64 z4, .slice Ax q4 cx]
      have sa := SemW.own (z := z4) (o.below ba) FZ4.out HQ4.out
      have nS0 := S0.out.below ba
      have nSO := SO.out.below ba
      have nWAS := WAS.out.below ba
      have nSa := Sa.out.below ba
      have nSj := Sj.out.below ba
      have nSc := Sc.out.below ba
      have nOC := OC.out.below ba
      have nSd := Sd.out.below ba
      have nSt := St.out.below ba
      have nSu := Su.out.below ba
      have nSv := Sv.out.below ba
      have nBJ := below3 BJ.out ba
      have nbb := below3 BB.out ba
      obtain ⟨gx, hgx⟩ : ∃ g, wx.heap.size = g := ⟨_, rfl⟩
      have hgb := BB.out.size
      obtain ⟨Vx, hVx⟩ : ∃ V, wx.alloc (.cells #[.int .i64 z4, .slice Ax q4 cx] 24) = V := ⟨_, rfl⟩
      rw [hVx] at ka sa nbb nS0 nSO nWAS nSa nSj nSc nOC nSd nSt nSu nSv nBJ
      rw [hgx] at ka hgb
      have HVx := Lib.hid hVx
      have Hgx := Lib.hid hgx
      have HBgx := Lib.hid hgb
      have Sx := Lib.hid (SV.mk ka sa)
      replace S0 := Lib.hid nS0
      replace SO := Lib.hid nSO
      replace WAS := Lib.hid nWAS
      replace Sa := Lib.hid nSa
      replace Sj := Lib.hid nSj
      replace Sc := Lib.hid nSc
      replace OC := Lib.hid nOC
      replace Sd := Lib.hid nSd
      replace St := Lib.hid nSt
      replace Su := Lib.hid nSu
      replace Sv := Lib.hid nSv
      replace BJ := Lib.hid nBJ
      replace BB := Lib.hid nbb
      clear ba ka sa nbb hgb hgx hVx nS0 nSO nWAS nSa nSj nSc nOC nSd nSt nSu nSv nBJ
      go_upto_region 15 with fail
      rw [HVx.out]
      try rw [Hgx.out]
      clear HVx Hgx
      clear o
      obtain ⟨ck, hck⟩ : ∃ v : Int, (if semOk z l then (0 : Int) else 1) = v := ⟨_, rfl⟩
      have HCK := Lib.hid hck
      obtain ⟨sm, hsm⟩ : ∃ v, sameSm z y l l' = v := ⟨_, rfl⟩
      have HSM := Lib.hid hsm
      clear hck hsm
      have c0a := Sa.out.k.c0
      have c1a := Sa.out.k.c1
      have lca := Sa.out.k.lt
      have c0j := Sj.out.k.c0
      have c1j := Sj.out.k.c1
      have lcj := Sj.out.k.lt
      have c0c := Sc.out.k.c0
      have c1c := Sc.out.k.c1
      have lcc := Sc.out.k.lt
      have c0d := Sd.out.k.c0
      have c1d := Sd.out.k.c1
      have lcd := Sd.out.k.lt
      have c0t := St.out.k.c0
      have c1t := St.out.k.c1
      have lct := St.out.k.lt
      have c0u := Su.out.k.c0
      have c1u := Su.out.k.c1
      have lcu := Su.out.k.lt
      have c0v := Sv.out.k.c0
      have c1v := Sv.out.k.c1
      have lcv := Sv.out.k.lt
      have c0x := Sx.out.k.c0
      have c1x := Sx.out.k.c1
      have lcx := Sx.out.k.lt
      have c00 := S0.out.k.c0
      have c10 := S0.out.k.c1
      have lc0 := S0.out.k.lt
      have c0O := SO.out.k.c0
      have c1O := SO.out.k.c1
      have lcO := SO.out.k.lt
      refine calm_region (S := fun U => Below Vx.heap.size Vx U) (by kernel_rfl) (Below.refl _ _).drew ?_
      refine calm_to (i := 0) (t := 98) (v := .agg #[.int .i64 z1, .slice Aa q1 ca]) rfl rfl (by kernel_rfl) (by kernel_rfl) (by kernel_rfl) (fun _ _ _ h => h) (calm_of (by kernel_rfl) (fun U hU => by have q0 := (hU.cell (p := ⟨ga, 0, none⟩) lca).trans c0a; have q1 := (hU.cell (p := ⟨ga, 1, none⟩) lca).trans c1a; have ql := Nat.lt_of_lt_of_le lca hU.size; go_simp)) ?_
      simp only [List.setIfInBounds_toArray, List.set_cons_zero, List.set_cons_succ]
      refine calm_to (i := 1) (t := 99) (v := .agg #[.int .i64 z1, .slice Aj q1 cj]) rfl rfl (by kernel_rfl) (by kernel_rfl) (by kernel_rfl) (fun _ _ _ h => h) (calm_of (by kernel_rfl) (fun U hU => by have q0 := (hU.cell (p := ⟨gj, 0, none⟩) lcj).trans c0j; have q1 := (hU.cell (p := ⟨gj, 1, none⟩) lcj).trans c1j; have ql := Nat.lt_of_lt_of_le lcj hU.size; go_simp)) ?_
      simp only [List.setIfInBounds_toArray, List.set_cons_zero, List.set_cons_succ]
      refine calm_to (i := 2) (t := 100) (v := .bool true) rfl rfl (by kernel_rfl) (by kernel_rfl) (by kernel_rfl) (fun _ _ _ h => h) (calm_call2 (by kernel_rfl) 17 (.tmp 98) (.tmp 99) #[24, 24] rfl (enters_of Try.func17 (by kernel_rfl) rfl) (.agg #[.int .i64 z1, .slice Aa q1 ca]) (.agg #[.int .i64 z1, .slice Aj q1 cj]) rfl rfl (fun U hU => (rsame_any z1 z1 Aa Aj q1 ca q1 cj l1 l1 U (Sa.out.s.below hU) (Sj.out.s.below hU)).mono fun _ _ q => ⟨by rw [q.1, sameSm_refl], below3 hU q.2⟩)) ?_
      simp only [List.setIfInBounds_toArray, List.set_cons_zero, List.set_cons_succ]
      refine calm_to (i := 3) (t := 101) (v := .bool true) rfl rfl (by kernel_rfl) (by kernel_rfl) (by kernel_rfl) (fun _ _ _ h => h) (calm_move (by kernel_rfl) (.tmp 100) (.inl rfl) rfl) ?_
      simp only [List.setIfInBounds_toArray, List.set_cons_zero, List.set_cons_succ]
      refine calm_to (i := 4) (t := 102) (v := .int .i64 e1) rfl rfl (by kernel_rfl) (by kernel_rfl) (by kernel_rfl) (fun _ _ _ h => h) (calm_move (by kernel_rfl) (.tmp 12) (.inl rfl) rfl) ?_
      simp only [List.setIfInBounds_toArray, List.set_cons_zero, List.set_cons_succ]
      refine calm_to (i := 5) (t := 103) (v := .int .i64 e1) rfl rfl (by kernel_rfl) (by kernel_rfl) (by kernel_rfl) (fun _ _ _ h => h) (calm_move (by kernel_rfl) (.tmp 14) (.inl rfl) rfl) ?_
      simp only [List.setIfInBounds_toArray, List.set_cons_zero, List.set_cons_succ]
      refine calm_to (i := 6) (t := 104) (v := .bool true) rfl rfl (by kernel_rfl) (by kernel_rfl) (by kernel_rfl) (fun _ _ _ h => h) (calm_of (by kernel_rfl) (fun U hU => by go_simp)) ?_
      simp only [List.setIfInBounds_toArray, List.set_cons_zero, List.set_cons_succ]
      refine calm_to (i := 7) (t := 105) (v := .bool true) rfl rfl (by kernel_rfl) (by kernel_rfl) (by kernel_rfl) (fun _ _ _ h => h) (calm_pick (by kernel_rfl) (.tmp 101) (.tmp 104) (.const (.bool false)) rfl true rfl rfl) ?_
      simp only [List.setIfInBounds_toArray, List.set_cons_zero, List.set_cons_succ]
      refine calm_to (i := 8) (t := 106) (v := .bool true) rfl rfl (by kernel_rfl) (by kernel_rfl) (by kernel_rfl) (fun _ _ _ h => h) (calm_move (by kernel_rfl) (.tmp 105) (.inl rfl) rfl) ?_
      simp only [List.setIfInBounds_toArray, List.set_cons_zero, List.set_cons_succ]
      refine calm_to (i := 9) (t := 107) (v := .bool p2) rfl rfl (by kernel_rfl) (by kernel_rfl) (by kernel_rfl) (fun _ _ _ h => h) (calm_move (by kernel_rfl) (.tmp 15) (.inl rfl) rfl) ?_
      simp only [List.setIfInBounds_toArray, List.set_cons_zero, List.set_cons_succ]
      refine calm_to (i := 10) (t := 108) (v := .bool p2) rfl rfl (by kernel_rfl) (by kernel_rfl) (by kernel_rfl) (fun _ _ _ h => h) (calm_move (by kernel_rfl) (.tmp 18) (.inl rfl) rfl) ?_
      simp only [List.setIfInBounds_toArray, List.set_cons_zero, List.set_cons_succ]
      refine calm_to (i := 11) (t := 109) (v := .bool true) rfl rfl (by kernel_rfl) (by kernel_rfl) (by kernel_rfl) (fun _ _ _ h => h) (calm_of (by kernel_rfl) (fun U hU => by go_simp)) ?_
      simp only [List.setIfInBounds_toArray, List.set_cons_zero, List.set_cons_succ]
      refine calm_to (i := 12) (t := 110) (v := .bool true) rfl rfl (by kernel_rfl) (by kernel_rfl) (by kernel_rfl) (fun _ _ _ h => h) (calm_pick (by kernel_rfl) (.tmp 106) (.tmp 109) (.const (.bool false)) rfl true rfl rfl) ?_
      simp only [List.setIfInBounds_toArray, List.set_cons_zero, List.set_cons_succ]
      refine calm_to (i := 13) (t := 111) (v := .bool true) rfl rfl (by kernel_rfl) (by kernel_rfl) (by kernel_rfl) (fun _ _ _ h => h) (calm_move (by kernel_rfl) (.tmp 110) (.inl rfl) rfl) ?_
      simp only [List.setIfInBounds_toArray, List.set_cons_zero, List.set_cons_succ]
      refine calm_to (i := 14) (t := 112) (v := .agg #[.int .i64 z2, .slice Ac q2 cc]) rfl rfl (by kernel_rfl) (by kernel_rfl) (by kernel_rfl) (fun _ _ _ h => h) (calm_of (by kernel_rfl) (fun U hU => by have q0 := (hU.cell (p := ⟨gc, 0, none⟩) lcc).trans c0c; have q1 := (hU.cell (p := ⟨gc, 1, none⟩) lcc).trans c1c; have ql := Nat.lt_of_lt_of_le lcc hU.size; go_simp)) ?_
      simp only [List.setIfInBounds_toArray, List.set_cons_zero, List.set_cons_succ]
      refine calm_to (i := 15) (t := 113) (v := .agg #[.int .i64 z2, .slice Ad q2 cd]) rfl rfl (by kernel_rfl) (by kernel_rfl) (by kernel_rfl) (fun _ _ _ h => h) (calm_of (by kernel_rfl) (fun U hU => by have q0 := (hU.cell (p := ⟨gd, 0, none⟩) lcd).trans c0d; have q1 := (hU.cell (p := ⟨gd, 1, none⟩) lcd).trans c1d; have ql := Nat.lt_of_lt_of_le lcd hU.size; go_simp)) ?_
      simp only [List.setIfInBounds_toArray, List.set_cons_zero, List.set_cons_succ]
      refine calm_to (i := 16) (t := 114) (v := .bool true) rfl rfl (by kernel_rfl) (by kernel_rfl) (by kernel_rfl) (fun _ _ _ h => h) (calm_call2 (by kernel_rfl) 17 (.tmp 112) (.tmp 113) #[24, 24] rfl (enters_of Try.func17 (by kernel_rfl) rfl) (.agg #[.int .i64 z2, .slice Ac q2 cc]) (.agg #[.int .i64 z2, .slice Ad q2 cd]) rfl rfl (fun U hU => (rsame_any z2 z2 Ac Ad q2 cc q2 cd l2 l2 U (Sc.out.s.below hU) (Sd.out.s.below hU)).mono fun _ _ q => ⟨by rw [q.1, sameSm_refl], below3 hU q.2⟩)) ?_
      simp only [List.setIfInBounds_toArray, List.set_cons_zero, List.set_cons_succ]
      refine calm_to (i := 17) (t := 115) (v := .bool true) rfl rfl (by kernel_rfl) (by kernel_rfl) (by kernel_rfl) (fun _ _ _ h => h) (calm_pick (by kernel_rfl) (.tmp 111) (.tmp 114) (.const (.bool false)) rfl true rfl rfl) ?_
      simp only [List.setIfInBounds_toArray, List.set_cons_zero, List.set_cons_succ]
      refine calm_to (i := 18) (t := 116) (v := .bool true) rfl rfl (by kernel_rfl) (by kernel_rfl) (by kernel_rfl) (fun _ _ _ h => h) (calm_move (by kernel_rfl) (.tmp 115) (.inl rfl) rfl) ?_
      simp only [List.setIfInBounds_toArray, List.set_cons_zero, List.set_cons_succ]
      refine calm_to (i := 19) (t := 117) (v := .int .i64 e2) rfl rfl (by kernel_rfl) (by kernel_rfl) (by kernel_rfl) (fun _ _ _ h => h) (calm_move (by kernel_rfl) (.tmp 17) (.inl rfl) rfl) ?_
      simp only [List.setIfInBounds_toArray, List.set_cons_zero, List.set_cons_succ]
      refine calm_to (i := 20) (t := 118) (v := .int .i64 e2) rfl rfl (by kernel_rfl) (by kernel_rfl) (by kernel_rfl) (fun _ _ _ h => h) (calm_move (by kernel_rfl) (.tmp 20) (.inl rfl) rfl) ?_
      simp only [List.setIfInBounds_toArray, List.set_cons_zero, List.set_cons_succ]
      refine calm_to (i := 21) (t := 119) (v := .bool true) rfl rfl (by kernel_rfl) (by kernel_rfl) (by kernel_rfl) (fun _ _ _ h => h) (calm_of (by kernel_rfl) (fun U hU => by go_simp)) ?_
      simp only [List.setIfInBounds_toArray, List.set_cons_zero, List.set_cons_succ]
      refine calm_to (i := 22) (t := 120) (v := .bool true) rfl rfl (by kernel_rfl) (by kernel_rfl) (by kernel_rfl) (fun _ _ _ h => h) (calm_pick (by kernel_rfl) (.tmp 116) (.tmp 119) (.const (.bool false)) rfl true rfl rfl) ?_
      simp only [List.setIfInBounds_toArray, List.set_cons_zero, List.set_cons_succ]
      refine calm_to (i := 23) (t := 121) (v := .bool true) rfl rfl (by kernel_rfl) (by kernel_rfl) (by kernel_rfl) (fun _ _ _ h => h) (calm_move (by kernel_rfl) (.tmp 120) (.inl rfl) rfl) ?_
      simp only [List.setIfInBounds_toArray, List.set_cons_zero, List.set_cons_succ]
      refine calm_to (i := 24) (t := 122) (v := .int .i64 x3) rfl rfl (by kernel_rfl) (by kernel_rfl) (by kernel_rfl) (fun _ _ _ h => h) (calm_move (by kernel_rfl) (.tmp 21) (.inl rfl) rfl) ?_
      simp only [List.setIfInBounds_toArray, List.set_cons_zero, List.set_cons_succ]
      refine calm_to (i := 25) (t := 123) (v := .int .i64 x3) rfl rfl (by kernel_rfl) (by kernel_rfl) (by kernel_rfl) (fun _ _ _ h => h) (calm_move (by kernel_rfl) (.tmp 24) (.inl rfl) rfl) ?_
      simp only [List.setIfInBounds_toArray, List.set_cons_zero, List.set_cons_succ]
      refine calm_to (i := 26) (t := 124) (v := .bool true) rfl rfl (by kernel_rfl) (by kernel_rfl) (by kernel_rfl) (fun _ _ _ h => h) (calm_of (by kernel_rfl) (fun U hU => by go_simp)) ?_
      simp only [List.setIfInBounds_toArray, List.set_cons_zero, List.set_cons_succ]
      refine calm_to (i := 27) (t := 125) (v := .bool true) rfl rfl (by kernel_rfl) (by kernel_rfl) (by kernel_rfl) (fun _ _ _ h => h) (calm_pick (by kernel_rfl) (.tmp 121) (.tmp 124) (.const (.bool false)) rfl true rfl rfl) ?_
      simp only [List.setIfInBounds_toArray, List.set_cons_zero, List.set_cons_succ]
      refine calm_to (i := 28) (t := 126) (v := .bool true) rfl rfl (by kernel_rfl) (by kernel_rfl) (by kernel_rfl) (fun _ _ _ h => h) (calm_move (by kernel_rfl) (.tmp 125) (.inl rfl) rfl) ?_
      simp only [List.setIfInBounds_toArray, List.set_cons_zero, List.set_cons_succ]
      refine calm_to (i := 29) (t := 127) (v := .agg #[.int .i64 z3, .slice At q3 ct]) rfl rfl (by kernel_rfl) (by kernel_rfl) (by kernel_rfl) (fun _ _ _ h => h) (calm_of (by kernel_rfl) (fun U hU => by have q0 := (hU.cell (p := ⟨gt, 0, none⟩) lct).trans c0t; have q1 := (hU.cell (p := ⟨gt, 1, none⟩) lct).trans c1t; have ql := Nat.lt_of_lt_of_le lct hU.size; go_simp)) ?_
      simp only [List.setIfInBounds_toArray, List.set_cons_zero, List.set_cons_succ]
      refine calm_to (i := 30) (t := 128) (v := .agg #[.int .i64 z3, .slice Au q3 cu]) rfl rfl (by kernel_rfl) (by kernel_rfl) (by kernel_rfl) (fun _ _ _ h => h) (calm_of (by kernel_rfl) (fun U hU => by have q0 := (hU.cell (p := ⟨gu, 0, none⟩) lcu).trans c0u; have q1 := (hU.cell (p := ⟨gu, 1, none⟩) lcu).trans c1u; have ql := Nat.lt_of_lt_of_le lcu hU.size; go_simp)) ?_
      simp only [List.setIfInBounds_toArray, List.set_cons_zero, List.set_cons_succ]
      refine calm_to (i := 31) (t := 129) (v := .bool true) rfl rfl (by kernel_rfl) (by kernel_rfl) (by kernel_rfl) (fun _ _ _ h => h) (calm_call2 (by kernel_rfl) 17 (.tmp 127) (.tmp 128) #[24, 24] rfl (enters_of Try.func17 (by kernel_rfl) rfl) (.agg #[.int .i64 z3, .slice At q3 ct]) (.agg #[.int .i64 z3, .slice Au q3 cu]) rfl rfl (fun U hU => (rsame_any z3 z3 At Au q3 ct q3 cu l3 l3 U (St.out.s.below hU) (Su.out.s.below hU)).mono fun _ _ q => ⟨by rw [q.1, sameSm_refl], below3 hU q.2⟩)) ?_
      simp only [List.setIfInBounds_toArray, List.set_cons_zero, List.set_cons_succ]
      refine calm_to (i := 32) (t := 130) (v := .bool true) rfl rfl (by kernel_rfl) (by kernel_rfl) (by kernel_rfl) (fun _ _ _ h => h) (calm_pick (by kernel_rfl) (.tmp 126) (.tmp 129) (.const (.bool false)) rfl true rfl rfl) ?_
      simp only [List.setIfInBounds_toArray, List.set_cons_zero, List.set_cons_succ]
      refine calm_to (i := 33) (t := 131) (v := .bool true) rfl rfl (by kernel_rfl) (by kernel_rfl) (by kernel_rfl) (fun _ _ _ h => h) (calm_move (by kernel_rfl) (.tmp 130) (.inl rfl) rfl) ?_
      simp only [List.setIfInBounds_toArray, List.set_cons_zero, List.set_cons_succ]
      refine calm_to (i := 34) (t := 132) (v := .int .i64 e3) rfl rfl (by kernel_rfl) (by kernel_rfl) (by kernel_rfl) (fun _ _ _ h => h) (calm_move (by kernel_rfl) (.tmp 23) (.inl rfl) rfl) ?_
      simp only [List.setIfInBounds_toArray, List.set_cons_zero, List.set_cons_succ]
      refine calm_to (i := 35) (t := 133) (v := .int .i64 e3) rfl rfl (by kernel_rfl) (by kernel_rfl) (by kernel_rfl) (fun _ _ _ h => h) (calm_move (by kernel_rfl) (.tmp 26) (.inl rfl) rfl) ?_
      simp only [List.setIfInBounds_toArray, List.set_cons_zero, List.set_cons_succ]
      refine calm_to (i := 36) (t := 134) (v := .bool true) rfl rfl (by kernel_rfl) (by kernel_rfl) (by kernel_rfl) (fun _ _ _ h => h) (calm_of (by kernel_rfl) (fun U hU => by go_simp)) ?_
      simp only [List.setIfInBounds_toArray, List.set_cons_zero, List.set_cons_succ]
      refine calm_to (i := 37) (t := 135) (v := .bool true) rfl rfl (by kernel_rfl) (by kernel_rfl) (by kernel_rfl) (fun _ _ _ h => h) (calm_pick (by kernel_rfl) (.tmp 131) (.tmp 134) (.const (.bool false)) rfl true rfl rfl) ?_
      simp only [List.setIfInBounds_toArray, List.set_cons_zero, List.set_cons_succ]
      refine calm_to (i := 38) (t := 136) (v := .bool true) rfl rfl (by kernel_rfl) (by kernel_rfl) (by kernel_rfl) (fun _ _ _ h => h) (calm_move (by kernel_rfl) (.tmp 135) (.inl rfl) rfl) ?_
      simp only [List.setIfInBounds_toArray, List.set_cons_zero, List.set_cons_succ]
      refine calm_to (i := 39) (t := 137) (v := .agg #[.int .i64 z4, .slice Av q4 cv]) rfl rfl (by kernel_rfl) (by kernel_rfl) (by kernel_rfl) (fun _ _ _ h => h) (calm_of (by kernel_rfl) (fun U hU => by have q0 := (hU.cell (p := ⟨gv, 0, none⟩) lcv).trans c0v; have q1 := (hU.cell (p := ⟨gv, 1, none⟩) lcv).trans c1v; have ql := Nat.lt_of_lt_of_le lcv hU.size; go_simp)) ?_
      simp only [List.setIfInBounds_toArray, List.set_cons_zero, List.set_cons_succ]
      refine calm_to (i := 40) (t := 138) (v := .agg #[.int .i64 z4, .slice Ax q4 cx]) rfl rfl (by kernel_rfl) (by kernel_rfl) (by kernel_rfl) (fun _ _ _ h => h) (calm_of (by kernel_rfl) (fun U hU => by have q0 := (hU.cell (p := ⟨gx, 0, none⟩) lcx).trans c0x; have q1 := (hU.cell (p := ⟨gx, 1, none⟩) lcx).trans c1x; have ql := Nat.lt_of_lt_of_le lcx hU.size; go_simp)) ?_
      simp only [List.setIfInBounds_toArray, List.set_cons_zero, List.set_cons_succ]
      refine calm_to (i := 41) (t := 139) (v := .bool true) rfl rfl (by kernel_rfl) (by kernel_rfl) (by kernel_rfl) (fun _ _ _ h => h) (calm_call2 (by kernel_rfl) 17 (.tmp 137) (.tmp 138) #[24, 24] rfl (enters_of Try.func17 (by kernel_rfl) rfl) (.agg #[.int .i64 z4, .slice Av q4 cv]) (.agg #[.int .i64 z4, .slice Ax q4 cx]) rfl rfl (fun U hU => (rsame_any z4 z4 Av Ax q4 cv q4 cx l4 l4 U (Sv.out.s.below hU) (Sx.out.s.below hU)).mono fun _ _ q => ⟨by rw [q.1, sameSm_refl], below3 hU q.2⟩)) ?_
      simp only [List.setIfInBounds_toArray, List.set_cons_zero, List.set_cons_succ]
      refine calm_to (i := 42) (t := 140) (v := .bool true) rfl rfl (by kernel_rfl) (by kernel_rfl) (by kernel_rfl) (fun _ _ _ h => h) (calm_pick (by kernel_rfl) (.tmp 136) (.tmp 139) (.const (.bool false)) rfl true rfl rfl) ?_
      simp only [List.setIfInBounds_toArray, List.set_cons_zero, List.set_cons_succ]
      refine calm_to (i := 43) (t := 141) (v := .bool true) rfl rfl (by kernel_rfl) (by kernel_rfl) (by kernel_rfl) (fun _ _ _ h => h) (calm_move (by kernel_rfl) (.tmp 140) (.inl rfl) rfl) ?_
      simp only [List.setIfInBounds_toArray, List.set_cons_zero, List.set_cons_succ]
      refine calm_to (i := 44) (t := 142) (v := .int .i64 e4) rfl rfl (by kernel_rfl) (by kernel_rfl) (by kernel_rfl) (fun _ _ _ h => h) (calm_move (by kernel_rfl) (.tmp 28) (.inl rfl) rfl) ?_
      simp only [List.setIfInBounds_toArray, List.set_cons_zero, List.set_cons_succ]
      refine calm_to (i := 45) (t := 143) (v := .int .i64 e4) rfl rfl (by kernel_rfl) (by kernel_rfl) (by kernel_rfl) (fun _ _ _ h => h) (calm_move (by kernel_rfl) (.tmp 30) (.inl rfl) rfl) ?_
      simp only [List.setIfInBounds_toArray, List.set_cons_zero, List.set_cons_succ]
      refine calm_to (i := 46) (t := 144) (v := .bool true) rfl rfl (by kernel_rfl) (by kernel_rfl) (by kernel_rfl) (fun _ _ _ h => h) (calm_of (by kernel_rfl) (fun U hU => by go_simp)) ?_
      simp only [List.setIfInBounds_toArray, List.set_cons_zero, List.set_cons_succ]
      refine calm_to (i := 47) (t := 145) (v := .bool true) rfl rfl (by kernel_rfl) (by kernel_rfl) (by kernel_rfl) (fun _ _ _ h => h) (calm_pick (by kernel_rfl) (.tmp 141) (.tmp 144) (.const (.bool false)) rfl true rfl rfl) ?_
      simp only [List.setIfInBounds_toArray, List.set_cons_zero, List.set_cons_succ]
      refine calm_to (i := 48) (t := 146) (v := .bool true) rfl rfl (by kernel_rfl) (by kernel_rfl) (by kernel_rfl) (fun _ _ _ h => h) (calm_move (by kernel_rfl) (.tmp 145) (.inl rfl) rfl) ?_
      simp only [List.setIfInBounds_toArray, List.set_cons_zero, List.set_cons_succ]
      refine calm_to (i := 49) (t := 147) (v := .agg #[.int .i64 z, .slice A n c]) rfl rfl (by kernel_rfl) (by kernel_rfl) (by kernel_rfl) (fun _ _ _ h => h) (calm_of (by kernel_rfl) (fun U hU => by have q0 := (hU.cell (p := ⟨w.heap.size, 0, none⟩) lc0).trans c00; have q1 := (hU.cell (p := ⟨w.heap.size, 1, none⟩) lc0).trans c10; have ql := Nat.lt_of_lt_of_le lc0 hU.size; go_simp)) ?_
      simp only [List.setIfInBounds_toArray, List.set_cons_zero, List.set_cons_succ]
      refine calm_to (i := 50) (t := 148) (v := .int .i64 ck) rfl rfl (by kernel_rfl) (by kernel_rfl) (by kernel_rfl) (fun _ _ _ h => h) (calm_call1 (by kernel_rfl) 18 (.tmp 147) #[24] rfl (enters_of Try.func18 (by kernel_rfl) rfl) (.agg #[.int .i64 z, .slice A n c]) rfl (fun U hU => (pcheck_any z A n c l U (S0.out.s.below hU)).mono fun _ _ q => ⟨by rw [q.1, HCK.out], below3 hU q.2⟩)) ?_
      simp only [List.setIfInBounds_toArray, List.set_cons_zero, List.set_cons_succ]
      refine calm_to (i := 51) (t := 149) (v := .agg #[.int .i64 z, .slice A n c]) rfl rfl (by kernel_rfl) (by kernel_rfl) (by kernel_rfl) (fun _ _ _ h => h) (calm_of (by kernel_rfl) (fun U hU => by have q0 := (hU.cell (p := ⟨w.heap.size, 0, none⟩) lc0).trans c00; have q1 := (hU.cell (p := ⟨w.heap.size, 1, none⟩) lc0).trans c10; have ql := Nat.lt_of_lt_of_le lc0 hU.size; go_simp)) ?_
      simp only [List.setIfInBounds_toArray, List.set_cons_zero, List.set_cons_succ]
      refine calm_to (i := 52) (t := 150) (v := .int .i64 ck) rfl rfl (by kernel_rfl) (by kernel_rfl) (by kernel_rfl) (fun _ _ _ h => h) (calm_call1 (by kernel_rfl) 19 (.tmp 149) #[24] rfl (enters_of Try.func19 (by kernel_rfl) rfl) (.agg #[.int .i64 z, .slice A n c]) rfl (fun U hU => (rcheck_any z A n c l U (S0.out.s.below hU)).mono fun _ _ q => ⟨by rw [q.1, HCK.out], below3 hU q.2⟩)) ?_
      simp only [List.setIfInBounds_toArray, List.set_cons_zero, List.set_cons_succ]
      refine calm_to (i := 53) (t := 151) (v := .bool true) rfl rfl (by kernel_rfl) (by kernel_rfl) (by kernel_rfl) (fun _ _ _ h => h) (calm_of (by kernel_rfl) (fun U hU => by go_simp)) ?_
      simp only [List.setIfInBounds_toArray, List.set_cons_zero, List.set_cons_succ]
      refine calm_to (i := 54) (t := 152) (v := .bool true) rfl rfl (by kernel_rfl) (by kernel_rfl) (by kernel_rfl) (fun _ _ _ h => h) (calm_pick (by kernel_rfl) (.tmp 146) (.tmp 151) (.const (.bool false)) rfl true rfl rfl) ?_
      simp only [List.setIfInBounds_toArray, List.set_cons_zero, List.set_cons_succ]
      refine calm_to (i := 55) (t := 153) (v := .bool true) rfl rfl (by kernel_rfl) (by kernel_rfl) (by kernel_rfl) (fun _ _ _ h => h) (calm_move (by kernel_rfl) (.tmp 152) (.inl rfl) rfl) ?_
      simp only [List.setIfInBounds_toArray, List.set_cons_zero, List.set_cons_succ]
      refine calm_to (i := 56) (t := 154) (v := .agg #[.int .i64 z, .slice A n c]) rfl rfl (by kernel_rfl) (by kernel_rfl) (by kernel_rfl) (fun _ _ _ h => h) (calm_of (by kernel_rfl) (fun U hU => by have q0 := (hU.cell (p := ⟨w.heap.size, 0, none⟩) lc0).trans c00; have q1 := (hU.cell (p := ⟨w.heap.size, 1, none⟩) lc0).trans c10; have ql := Nat.lt_of_lt_of_le lc0 hU.size; go_simp)) ?_
      simp only [List.setIfInBounds_toArray, List.set_cons_zero, List.set_cons_succ]
      refine calm_to (i := 57) (t := 155) (v := .agg #[.int .i64 y, .slice A' n' c']) rfl rfl (by kernel_rfl) (by kernel_rfl) (by kernel_rfl) (fun _ _ _ h => h) (calm_of (by kernel_rfl) (fun U hU => by have q0 := (hU.cell (p := ⟨w.heap.size + 1, 0, none⟩) lcO).trans c0O; have q1 := (hU.cell (p := ⟨w.heap.size + 1, 1, none⟩) lcO).trans c1O; have ql := Nat.lt_of_lt_of_le lcO hU.size; go_simp)) ?_
      simp only [List.setIfInBounds_toArray, List.set_cons_zero, List.set_cons_succ]
      refine calm_to (i := 58) (t := 156) (v := .bool sm) rfl rfl (by kernel_rfl) (by kernel_rfl) (by kernel_rfl) (fun _ _ _ h => h) (calm_call2 (by kernel_rfl) 20 (.tmp 154) (.tmp 155) #[24, 24] rfl (enters_of Try.func20 (by kernel_rfl) rfl) (.agg #[.int .i64 z, .slice A n c]) (.agg #[.int .i64 y, .slice A' n' c']) rfl rfl (fun U hU => (psame_any z y A A' n c n' c' l l' U (S0.out.s.below hU) (SO.out.s.below hU)).mono fun _ _ q => ⟨by rw [q.1, HSM.out], below3 hU q.2⟩)) ?_
      simp only [List.setIfInBounds_toArray, List.set_cons_zero, List.set_cons_succ]
      refine calm_to (i := 59) (t := 157) (v := .agg #[.int .i64 z, .slice A n c]) rfl rfl (by kernel_rfl) (by kernel_rfl) (by kernel_rfl) (fun _ _ _ h => h) (calm_of (by kernel_rfl) (fun U hU => by have q0 := (hU.cell (p := ⟨w.heap.size, 0, none⟩) lc0).trans c00; have q1 := (hU.cell (p := ⟨w.heap.size, 1, none⟩) lc0).trans c10; have ql := Nat.lt_of_lt_of_le lc0 hU.size; go_simp)) ?_
      simp only [List.setIfInBounds_toArray, List.set_cons_zero, List.set_cons_succ]
      refine calm_to (i := 60) (t := 158) (v := .agg #[.int .i64 y, .slice A' n' c']) rfl rfl (by kernel_rfl) (by kernel_rfl) (by kernel_rfl) (fun _ _ _ h => h) (calm_of (by kernel_rfl) (fun U hU => by have q0 := (hU.cell (p := ⟨w.heap.size + 1, 0, none⟩) lcO).trans c0O; have q1 := (hU.cell (p := ⟨w.heap.size + 1, 1, none⟩) lcO).trans c1O; have ql := Nat.lt_of_lt_of_le lcO hU.size; go_simp)) ?_
      simp only [List.setIfInBounds_toArray, List.set_cons_zero, List.set_cons_succ]
      refine calm_to (i := 61) (t := 159) (v := .bool sm) rfl rfl (by kernel_rfl) (by kernel_rfl) (by kernel_rfl) (fun _ _ _ h => h) (calm_call2 (by kernel_rfl) 17 (.tmp 157) (.tmp 158) #[24, 24] rfl (enters_of Try.func17 (by kernel_rfl) rfl) (.agg #[.int .i64 z, .slice A n c]) (.agg #[.int .i64 y, .slice A' n' c']) rfl rfl (fun U hU => (rsame_any z y A A' n c n' c' l l' U (S0.out.s.below hU) (SO.out.s.below hU)).mono fun _ _ q => ⟨by rw [q.1, HSM.out], below3 hU q.2⟩)) ?_
      simp only [List.setIfInBounds_toArray, List.set_cons_zero, List.set_cons_succ]
      refine calm_to (i := 62) (t := 160) (v := .bool true) rfl rfl (by kernel_rfl) (by kernel_rfl) (by kernel_rfl) (fun _ _ _ h => h) (calm_of (by kernel_rfl) (fun U hU => by go_simp)) ?_
      simp only [List.setIfInBounds_toArray, List.set_cons_zero, List.set_cons_succ]
      refine calm_to (i := 63) (t := 161) (v := .bool true) rfl rfl (by kernel_rfl) (by kernel_rfl) (by kernel_rfl) (fun _ _ _ h => h) (calm_pick (by kernel_rfl) (.tmp 153) (.tmp 160) (.const (.bool false)) rfl true rfl rfl) ?_
      simp only [List.setIfInBounds_toArray, List.set_cons_zero, List.set_cons_succ]
      refine calm_to (i := 64) (t := 31) (v := .bool true) rfl rfl (by kernel_rfl) (by kernel_rfl) (by kernel_rfl) (fun _ _ _ h => h) (calm_move (by kernel_rfl) (.tmp 161) (.inr rfl) rfl) ?_
      simp only [List.setIfInBounds_toArray, List.set_cons_zero, List.set_cons_succ]
      refine calm_done (by kernel_rfl) (fun U hU => ?_) _
      clear c0a c1a lca c0j c1j lcj c0c c1c lcc c0d c1d lcd c0t c1t lct c0u c1u lcu c0v c1v lcv c0x c1x lcx c00 c10 lc0 c0O c1O lcO
      have KC := Lib.hid (Sc.out.k.below hU Sc.out.k.lt)
      have OU := Lib.hid (OC.out.below hU)
      have BU := Lib.hid (below3 BJ.out hU)
      clear hU S0 SO WAS Sa Sj Sc Sd St Su Sv Sx OC BJ
      have k1 : _ = some (Value.slice Ac q2 cc) := KC.out.cell 1
      have lk := KC.out.lt
      go_wp2_with fail
      clear k1 lk
      go_loopw [165] (fun t wr => ∃ k : Nat, k ≤ q2 ∧ t = .int .i64 k ∧ ∃ p : List Int, Hid (p.length = q2) ∧ Hid (OwnI 2 wr Vj.heap.size Ac cc p) ∧ Hid (Bk wr gc 24 #[.int .i64 z2, .slice Ac q2 cc]) ∧ Hid (Below Vj.heap.size Vj wr)) (fun t _ => q2 - (intOf t).toNat)
      case atStart => exact ⟨0, Nat.zero_le _, rfl, l2, HQ2, OU, KC, BU⟩
      case round =>
        clear OU KC BU
        rename World => wr
        obtain ⟨k, hk, rfl, p, HP, OP, KC, BU⟩ := hrel
        by_cases hkq : k < q2
        · have hpl : k < p.length := by rw [HP.out]; exact hkq
          obtain ⟨gr, er, -, -, -, -⟩ := OP.out.form (by omega)
          have hne : gr ≠ gc := by have := HRC.out gr 0 er (by rw [HQ2.out]; omega); omega
          subst er
          obtain ⟨cx', fx'⟩ := OP.out.at_ hpl
          have hgr := OP.out.lt
          obtain ⟨v, hv⟩ : ∃ v, nth p k = v := ⟨_, rfl⟩
          rw [hv] at cx'
          have k1 : _ = some (Value.slice (some ⟨gr, 0, none⟩) q2 cc) := KC.out.cell 1
          have lk := KC.out.lt
          have ON := Lib.hid (OP.out.set_ k (fit_wrap (v + 1)))
          have KN := Lib.hid (KC.out.far (p := ⟨gr, k, none⟩) (fun q => hne q.symm) (.int .i64 (wrap64 (v + 1))))
          have BN := Lib.hid (BU.out.setCell (p := ⟨gr, k, none⟩) (by exact OP.out.block (n := 0) (d := 0) gr rfl) (.int .i64 (wrap64 (v + 1))))
          have HPN := Lib.hid (show (p.set k (wrap64 (v + 1))).length = q2 by rw [List.length_set]; exact HP.out)
          clear hv
          go_wp2_with fail
          go_roundw
          case rel => exact ⟨k + 1, by omega, by go_num, _, HPN, ON, KN, BN⟩
          case measure => simp [intOf]; omega
        · have S0F := Lib.hid (S0J.out.below BU.out)
          have WF := Lib.hid (WASJ.out.below BU.out)
          have BF := Lib.hid (below3 BBJ.out BU.out)
          have a00 := S0F.out.k.c0
          have a10 := S0F.out.k.c1
          have lg0 := S0F.out.k.lt
          clear OP KC
          go_wp2_with fail
          refine (rsame01_any A A6 n c n c6 l l _ S0F.out.s.x WF.out.x).mono ?_
          rw [sameB_refl]
          rintro e w99 ⟨rfl, b⟩
          have BZ := Lib.hid (below3 BF.out b)
          clear b a00 a10 lg0
          go_wp2_with fail
          go_ret
          exact ⟨rfl, BZ.out⟩

end Go.Proofs.Ytokmogfnliccjaa
