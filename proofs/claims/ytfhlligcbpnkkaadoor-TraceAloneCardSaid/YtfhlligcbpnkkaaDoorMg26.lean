import Derived.Test.YtfhlligcbpnkkaaDoorMg18
import Derived.Test.YtfhlligcbpnkkaaDoorMg19
import Derived.Test.YtfhlligcbpnkkaaDoorMg20
import Derived.Test.YtfhlligcbpnkkaaDoorMg21
import Derived.Test.YtfhlligcbpnkkaaDoorMg22
import Derived.Test.YtfhlligcbpnkkaaDoorMg23
import Derived.Test.YtfhlligcbpnkkaaDoorMg24
import Derived.Test.YtfhlligcbpnkkaaDoorMg25

/-
  Layer 18, the document: a task's own life.
-/
namespace Go.Proofs.YtfhlligcbpnkkaaDoor
open Go.RowKit

set_option maxRecDepth 100000 in
set_option maxHeartbeats 16000000 in
theorem one_tr (F A : Option Addr) (np cp n c : Nat) (P : List (List I3)) (l : List I3) (w : World) (hok : okL P) (hP : Prgs w F np P) (hl : Prog w A n c l) :
    Calls Tryd.prog 27 #[.slice F np cp, .slice A n c] w (OneP P l w) := by
  have HPP := Lib.hid hP
  have PL := Lib.hid hP.1
  have HL := Lib.hid hl
  have LX := Lib.hid hl.1
  have HOK := Lib.hid hok
  have hnc := hl.2.1
  have hpc := hP.2.1
  clear hP hl hok
  obtain ⟨kb0, hb0⟩ := lies1 w #[.int .i64 0, .int .i64 0, .int .i64 0, .int .i64 0, .int .i64 0, .int .i64 0, .int .i64 0, .int .i64 0, .int .i64 0, .int .i64 0, .int .i64 0] 44
  obtain ⟨V, hV⟩ : ∃ V, w.alloc (.cells #[.int .i64 0, .int .i64 0, .int .i64 0, .int .i64 0, .int .i64 0, .int .i64 0, .int .i64 0, .int .i64 0, .int .i64 0, .int .i64 0, .int .i64 0] 44) = V := ⟨_, rfl⟩
  rw [hV] at hb0 kb0
  have HV := Lib.hid hV
  have BB := Lib.hid hb0
  have KR := Lib.hid kb0
  have HBR : Hid (w.heap.size ≤ w.heap.size) := Lib.hid (by omega)
  clear hV hb0 kb0
  go_enter Tryd.func27, Tryd.ntmps27
  go_upto_region 1 with fail
  rw [HV.out]
  clear HV
  have kn := Bk.new V 44 #[.int .i64 0, .int .i64 0, .int .i64 0, .int .i64 0, .int .i64 0, .int .i64 0, .int .i64 0, .int .i64 0, .int .i64 0, .int .i64 0, .int .i64 0]
  have ba := (Below.refl V.heap.size V).alloc (Nat.le_refl _) (.cells #[.int .i64 0, .int .i64 0, .int .i64 0, .int .i64 0, .int .i64 0, .int .i64 0, .int .i64 0, .int .i64 0, .int .i64 0, .int .i64 0, .int .i64 0] 44)
  have hgb := BB.out.size
  have nR_T := Nat.ne_of_lt KR.out.lt
  replace BB := Lib.hid (below3 BB.out ba)
  replace KR := Lib.hid (KR.out.below ba KR.out.lt)
  obtain ⟨gT, hg⟩ : ∃ g, V.heap.size = g := ⟨_, rfl⟩
  obtain ⟨V1, hW⟩ : ∃ W, V.alloc (.cells #[.int .i64 0, .int .i64 0, .int .i64 0, .int .i64 0, .int .i64 0, .int .i64 0, .int .i64 0, .int .i64 0, .int .i64 0, .int .i64 0, .int .i64 0] 44) = W := ⟨_, rfl⟩
  have KT := Lib.hid kn
  rw [hW] at BB KT KR
  rw [hg] at KT hgb nR_T
  have HGT := Lib.hid hg
  have HWT := Lib.hid hW
  have HBT := Lib.hid hgb
  have NR_T := Lib.hid nR_T
  clear hW hg kn ba hgb nR_T
  go_upto_region 2 with fail
  rw [HWT.out]
  try rw [HGT.out]
  clear HWT HGT
  have HI := Lib.hid (show Bk V1 gT 44 (tc zT) from KT.out)
  go_wp2_with fail
  go_loopw [22] (fun t wr => ∃ (k : Nat) (T : Tk), k ≤ n ∧ t = .int .i64 k ∧ Hid (Below w.heap.size w wr ∧ Bk wr w.heap.size 44 #[.int .i64 0, .int .i64 0, .int .i64 0, .int .i64 0, .int .i64 0, .int .i64 0, .int .i64 0, .int .i64 0, .int .i64 0, .int .i64 0, .int .i64 0] ∧ Bk wr gT 44 (tc T)) ∧ Hid (oneT P (l.take k) = some T)) (fun t _ => n - (intOf t).toNat)
  case atStart => exact ⟨0, zT, Nat.zero_le _, rfl, Lib.hid ⟨BB.out, KR.out, HI.out⟩, Lib.hid rfl⟩
  case round =>
    clear HI BB KR KT
    rename World => wr
    obtain ⟨k, T, hk, rfl, OW, HT⟩ := hrel
    by_cases hkn : k < n
    · obtain ⟨id, tn, pg, pc, un, k0, k1, k2, k3, st, rn⟩ := T
      obtain ⟨⟨kd, xi, xa⟩, hz⟩ : ∃ e, ith l k = e := ⟨_, rfl⟩
      by_cases hk1 : k = 0
      · by_cases h1 : kd = 1
        · by_cases hn : okT (newT xi 0 xa)
          · by_cases h2 : xa < np
            · exact one_w0 F A np cp n c P l w wr gT _ HPP PL HL LX HOK hnc hpc HBR HBT NR_T k id tn pg pc un k0 k1 k2 k3 st rn OW HT kd xi xa hz hkn hk1 h1 hn h2 _ _ _ _ _ _ _ _ _ _ _ _ _ _ _ _ _ _ _ _ _ _ _ _ _ _ _ _ _ _ _ _ _ _ _ _ _ _ _ _ _ _ _ _ _ _ _ _ _ _ _ _ _ _ _ _ _ _ _ _ _ _ _ _ _ _ _ _ _ _ _ _ _ _ _ _ _ _ _ _ _ _ _ _ _ _ _ _ _ _ _ _ _ _ _ _ _ _ _ _ _ _ _ _ _ _ _ _ _ _ _ _ _ _ _ _ _ _ _ _ _ _ _ _ _ _ _ _ _ _ _ _ _ _ _ _ _ _ _ _ _ _ _ _ _ _ _ _ _ _ _ _ _ _ _ _ _ _ _ _ _ _ _ _ _ _ _ _ _ _ _ _ _ _ _ _ _
            · exact one_w1 F A np cp n c P l w wr gT _ HPP PL HL LX HOK hnc hpc HBR HBT NR_T k id tn pg pc un k0 k1 k2 k3 st rn OW HT kd xi xa hz hkn hk1 h1 hn h2 _ _ _ _ _ _ _ _ _ _ _ _ _ _ _ _ _ _ _ _ _ _ _ _ _ _ _ _ _ _ _ _ _ _ _ _ _ _ _ _ _ _ _ _ _ _ _ _ _ _ _ _ _ _ _ _ _ _ _ _ _ _ _ _ _ _ _ _ _ _ _ _ _ _ _ _ _ _ _ _ _ _ _ _ _ _ _ _ _ _ _ _ _ _ _ _ _ _ _ _ _ _ _ _ _ _ _ _ _ _ _ _ _ _ _ _ _ _ _ _ _ _ _ _ _ _ _ _ _ _ _ _ _ _ _ _ _ _ _ _ _ _ _ _ _ _ _ _ _ _ _ _ _ _ _ _ _ _ _ _ _ _ _ _ _ _ _ _ _ _ _ _ _ _ _ _ _
          · exact one_w2 F A np cp n c P l w wr gT _ HPP PL HL LX HOK hnc hpc HBR HBT NR_T k id tn pg pc un k0 k1 k2 k3 st rn OW HT kd xi xa hz hkn hk1 h1 hn _ _ _ _ _ _ _ _ _ _ _ _ _ _ _ _ _ _ _ _ _ _ _ _ _ _ _ _ _ _ _ _ _ _ _ _ _ _ _ _ _ _ _ _ _ _ _ _ _ _ _ _ _ _ _ _ _ _ _ _ _ _ _ _ _ _ _ _ _ _ _ _ _ _ _ _ _ _ _ _ _ _ _ _ _ _ _ _ _ _ _ _ _ _ _ _ _ _ _ _ _ _ _ _ _ _ _ _ _ _ _ _ _ _ _ _ _ _ _ _ _ _ _ _ _ _ _ _ _ _ _ _ _ _ _ _ _ _ _ _ _ _ _ _ _ _ _ _ _ _ _ _ _ _ _ _ _ _ _ _ _ _ _ _ _ _ _ _ _ _ _ _ _ _ _ _ _
        · by_cases hn : okT (newT xi 0 xa)
          · exact one_w3 F A np cp n c P l w wr gT _ HPP PL HL LX HOK hnc hpc HBR HBT NR_T k id tn pg pc un k0 k1 k2 k3 st rn OW HT kd xi xa hz hkn hk1 h1 hn _ _ _ _ _ _ _ _ _ _ _ _ _ _ _ _ _ _ _ _ _ _ _ _ _ _ _ _ _ _ _ _ _ _ _ _ _ _ _ _ _ _ _ _ _ _ _ _ _ _ _ _ _ _ _ _ _ _ _ _ _ _ _ _ _ _ _ _ _ _ _ _ _ _ _ _ _ _ _ _ _ _ _ _ _ _ _ _ _ _ _ _ _ _ _ _ _ _ _ _ _ _ _ _ _ _ _ _ _ _ _ _ _ _ _ _ _ _ _ _ _ _ _ _ _ _ _ _ _ _ _ _ _ _ _ _ _ _ _ _ _ _ _ _ _ _ _ _ _ _ _ _ _ _ _ _ _ _ _ _ _ _ _ _ _ _ _ _ _ _ _ _ _ _ _ _ _
          · exact one_w4 F A np cp n c P l w wr gT _ HPP PL HL LX HOK hnc hpc HBR HBT NR_T k id tn pg pc un k0 k1 k2 k3 st rn OW HT kd xi xa hz hkn hk1 h1 hn _ _ _ _ _ _ _ _ _ _ _ _ _ _ _ _ _ _ _ _ _ _ _ _ _ _ _ _ _ _ _ _ _ _ _ _ _ _ _ _ _ _ _ _ _ _ _ _ _ _ _ _ _ _ _ _ _ _ _ _ _ _ _ _ _ _ _ _ _ _ _ _ _ _ _ _ _ _ _ _ _ _ _ _ _ _ _ _ _ _ _ _ _ _ _ _ _ _ _ _ _ _ _ _ _ _ _ _ _ _ _ _ _ _ _ _ _ _ _ _ _ _ _ _ _ _ _ _ _ _ _ _ _ _ _ _ _ _ _ _ _ _ _ _ _ _ _ _ _ _ _ _ _ _ _ _ _ _ _ _ _ _ _ _ _ _ _ _ _ _ _ _ _ _ _ _ _
      · obtain ⟨⟨lk, li, la⟩, hy⟩ : ∃ e, ith l (k - 1) = e := ⟨_, rfl⟩
        by_cases kq2 : kd = 2
        · obtain ⟨⟨⟨io, ia, ib⟩, ne⟩, hnr⟩ : ∃ r, nextR (⟨id, tn, pg, pc, un, k0, k1, k2, k3, st, rn⟩ : Tk) (pth P pg.toNat) = r := ⟨_, rfl⟩
          obtain ⟨⟨⟨a0, a1, a2, a3, a4, a5, a6, a7, a8, a9, a10⟩, ⟨fo, fa, fb⟩, de⟩, hdr⟩ : ∃ r, doR (⟨id, tn, pg, pc, un, k0, k1, k2, k3, 2, rn⟩ : Tk) (pth P pg.toNat) = r := ⟨_, rfl⟩
          by_cases s1 : st = 1
          · by_cases nl : lk = 2 ∧ la = 9
            · exact one_w5 F A np cp n c P l w wr gT _ HPP PL HL LX HOK hnc hpc HBR HBT NR_T k id tn pg pc un k0 k1 k2 k3 st rn OW HT kd xi xa hz lk li la hy io ia ib ne a0 a1 a2 a3 a4 a5 a6 a7 a8 a9 a10 fo fa fb de hnr hdr hkn hk1 kq2 s1 nl _ _ _ _ _ _ _ _ _ _ _ _ _ _ _ _ _ _ _ _ _ _ _ _ _ _ _ _ _ _ _ _ _ _ _ _ _ _ _ _ _ _ _ _ _ _ _ _ _ _ _ _ _ _ _ _ _ _ _ _ _ _ _ _ _ _ _ _ _ _ _ _ _ _ _ _ _ _ _ _ _ _ _ _ _ _ _ _ _ _ _ _ _ _ _ _ _ _ _ _ _ _ _ _ _ _ _ _ _ _ _ _ _ _ _ _ _ _ _ _ _ _ _ _ _ _ _ _ _ _ _ _ _ _ _ _ _ _ _ _ _ _ _ _ _ _ _ _ _ _ _ _ _ _ _ _ _ _ _ _ _ _ _ _ _ _ _ _ _ _ _ _ _ _ _ _ _
            · by_cases op : xa = io
              · by_cases e0 : de = 0
                · by_cases q2 : lk = 2
                  · exact one_w6 F A np cp n c P l w wr gT _ HPP PL HL LX HOK hnc hpc HBR HBT NR_T k id tn pg pc un k0 k1 k2 k3 st rn OW HT kd xi xa hz lk li la hy io ia ib ne a0 a1 a2 a3 a4 a5 a6 a7 a8 a9 a10 fo fa fb de hnr hdr hkn hk1 kq2 s1 nl op e0 q2 _ _ _ _ _ _ _ _ _ _ _ _ _ _ _ _ _ _ _ _ _ _ _ _ _ _ _ _ _ _ _ _ _ _ _ _ _ _ _ _ _ _ _ _ _ _ _ _ _ _ _ _ _ _ _ _ _ _ _ _ _ _ _ _ _ _ _ _ _ _ _ _ _ _ _ _ _ _ _ _ _ _ _ _ _ _ _ _ _ _ _ _ _ _ _ _ _ _ _ _ _ _ _ _ _ _ _ _ _ _ _ _ _ _ _ _ _ _ _ _ _ _ _ _ _ _ _ _ _ _ _ _ _ _ _ _ _ _ _ _ _ _ _ _ _ _ _ _ _ _ _ _ _ _ _ _ _ _ _ _ _ _ _ _ _ _ _ _ _ _ _ _ _ _ _ _ _
                  · exact one_w7 F A np cp n c P l w wr gT _ HPP PL HL LX HOK hnc hpc HBR HBT NR_T k id tn pg pc un k0 k1 k2 k3 st rn OW HT kd xi xa hz lk li la hy io ia ib ne a0 a1 a2 a3 a4 a5 a6 a7 a8 a9 a10 fo fa fb de hnr hdr hkn hk1 kq2 s1 nl op e0 q2 _ _ _ _ _ _ _ _ _ _ _ _ _ _ _ _ _ _ _ _ _ _ _ _ _ _ _ _ _ _ _ _ _ _ _ _ _ _ _ _ _ _ _ _ _ _ _ _ _ _ _ _ _ _ _ _ _ _ _ _ _ _ _ _ _ _ _ _ _ _ _ _ _ _ _ _ _ _ _ _ _ _ _ _ _ _ _ _ _ _ _ _ _ _ _ _ _ _ _ _ _ _ _ _ _ _ _ _ _ _ _ _ _ _ _ _ _ _ _ _ _ _ _ _ _ _ _ _ _ _ _ _ _ _ _ _ _ _ _ _ _ _ _ _ _ _ _ _ _ _ _ _ _ _ _ _ _ _ _ _ _ _ _ _ _ _ _ _ _ _ _ _ _ _ _ _ _
                · by_cases q2 : lk = 2
                  · exact one_w8 F A np cp n c P l w wr gT _ HPP PL HL LX HOK hnc hpc HBR HBT NR_T k id tn pg pc un k0 k1 k2 k3 st rn OW HT kd xi xa hz lk li la hy io ia ib ne a0 a1 a2 a3 a4 a5 a6 a7 a8 a9 a10 fo fa fb de hnr hdr hkn hk1 kq2 s1 nl op e0 q2 _ _ _ _ _ _ _ _ _ _ _ _ _ _ _ _ _ _ _ _ _ _ _ _ _ _ _ _ _ _ _ _ _ _ _ _ _ _ _ _ _ _ _ _ _ _ _ _ _ _ _ _ _ _ _ _ _ _ _ _ _ _ _ _ _ _ _ _ _ _ _ _ _ _ _ _ _ _ _ _ _ _ _ _ _ _ _ _ _ _ _ _ _ _ _ _ _ _ _ _ _ _ _ _ _ _ _ _ _ _ _ _ _ _ _ _ _ _ _ _ _ _ _ _ _ _ _ _ _ _ _ _ _ _ _ _ _ _ _ _ _ _ _ _ _ _ _ _ _ _ _ _ _ _ _ _ _ _ _ _ _ _ _ _ _ _ _ _ _ _ _ _ _ _ _ _ _
                  · exact one_w9 F A np cp n c P l w wr gT _ HPP PL HL LX HOK hnc hpc HBR HBT NR_T k id tn pg pc un k0 k1 k2 k3 st rn OW HT kd xi xa hz lk li la hy io ia ib ne a0 a1 a2 a3 a4 a5 a6 a7 a8 a9 a10 fo fa fb de hnr hdr hkn hk1 kq2 s1 nl op e0 q2 _ _ _ _ _ _ _ _ _ _ _ _ _ _ _ _ _ _ _ _ _ _ _ _ _ _ _ _ _ _ _ _ _ _ _ _ _ _ _ _ _ _ _ _ _ _ _ _ _ _ _ _ _ _ _ _ _ _ _ _ _ _ _ _ _ _ _ _ _ _ _ _ _ _ _ _ _ _ _ _ _ _ _ _ _ _ _ _ _ _ _ _ _ _ _ _ _ _ _ _ _ _ _ _ _ _ _ _ _ _ _ _ _ _ _ _ _ _ _ _ _ _ _ _ _ _ _ _ _ _ _ _ _ _ _ _ _ _ _ _ _ _ _ _ _ _ _ _ _ _ _ _ _ _ _ _ _ _ _ _ _ _ _ _ _ _ _ _ _ _ _ _ _ _ _ _ _
              · by_cases q2 : lk = 2
                · exact one_w10 F A np cp n c P l w wr gT _ HPP PL HL LX HOK hnc hpc HBR HBT NR_T k id tn pg pc un k0 k1 k2 k3 st rn OW HT kd xi xa hz lk li la hy io ia ib ne a0 a1 a2 a3 a4 a5 a6 a7 a8 a9 a10 fo fa fb de hnr hdr hkn hk1 kq2 s1 nl op q2 _ _ _ _ _ _ _ _ _ _ _ _ _ _ _ _ _ _ _ _ _ _ _ _ _ _ _ _ _ _ _ _ _ _ _ _ _ _ _ _ _ _ _ _ _ _ _ _ _ _ _ _ _ _ _ _ _ _ _ _ _ _ _ _ _ _ _ _ _ _ _ _ _ _ _ _ _ _ _ _ _ _ _ _ _ _ _ _ _ _ _ _ _ _ _ _ _ _ _ _ _ _ _ _ _ _ _ _ _ _ _ _ _ _ _ _ _ _ _ _ _ _ _ _ _ _ _ _ _ _ _ _ _ _ _ _ _ _ _ _ _ _ _ _ _ _ _ _ _ _ _ _ _ _ _ _ _ _ _ _ _ _ _ _ _ _ _ _ _ _ _ _ _ _ _ _ _
                · exact one_w11 F A np cp n c P l w wr gT _ HPP PL HL LX HOK hnc hpc HBR HBT NR_T k id tn pg pc un k0 k1 k2 k3 st rn OW HT kd xi xa hz lk li la hy io ia ib ne a0 a1 a2 a3 a4 a5 a6 a7 a8 a9 a10 fo fa fb de hnr hdr hkn hk1 kq2 s1 nl op q2 _ _ _ _ _ _ _ _ _ _ _ _ _ _ _ _ _ _ _ _ _ _ _ _ _ _ _ _ _ _ _ _ _ _ _ _ _ _ _ _ _ _ _ _ _ _ _ _ _ _ _ _ _ _ _ _ _ _ _ _ _ _ _ _ _ _ _ _ _ _ _ _ _ _ _ _ _ _ _ _ _ _ _ _ _ _ _ _ _ _ _ _ _ _ _ _ _ _ _ _ _ _ _ _ _ _ _ _ _ _ _ _ _ _ _ _ _ _ _ _ _ _ _ _ _ _ _ _ _ _ _ _ _ _ _ _ _ _ _ _ _ _ _ _ _ _ _ _ _ _ _ _ _ _ _ _ _ _ _ _ _ _ _ _ _ _ _ _ _ _ _ _ _ _ _ _ _
          · exact one_w12 F A np cp n c P l w wr gT _ HPP PL HL LX HOK hnc hpc HBR HBT NR_T k id tn pg pc un k0 k1 k2 k3 st rn OW HT kd xi xa hz lk li la hy io ia ib ne a0 a1 a2 a3 a4 a5 a6 a7 a8 a9 a10 fo fa fb de hnr hdr hkn hk1 kq2 s1 _ _ _ _ _ _ _ _ _ _ _ _ _ _ _ _ _ _ _ _ _ _ _ _ _ _ _ _ _ _ _ _ _ _ _ _ _ _ _ _ _ _ _ _ _ _ _ _ _ _ _ _ _ _ _ _ _ _ _ _ _ _ _ _ _ _ _ _ _ _ _ _ _ _ _ _ _ _ _ _ _ _ _ _ _ _ _ _ _ _ _ _ _ _ _ _ _ _ _ _ _ _ _ _ _ _ _ _ _ _ _ _ _ _ _ _ _ _ _ _ _ _ _ _ _ _ _ _ _ _ _ _ _ _ _ _ _ _ _ _ _ _ _ _ _ _ _ _ _ _ _ _ _ _ _ _ _ _ _ _ _ _ _ _ _ _ _ _ _ _ _ _ _ _ _ _ _
        · by_cases kq3 : kd = 3
          · by_cases s1 : st = 1
            · by_cases q2 : lk = 2
              · by_cases a0 : xa = 0
                · exact one_w13 F A np cp n c P l w wr gT _ HPP PL HL LX HOK hnc hpc HBR HBT NR_T k id tn pg pc un k0 k1 k2 k3 st rn OW HT kd xi xa hz lk li la hy hkn hk1 kq2 kq3 s1 q2 a0 _ _ _ _ _ _ _ _ _ _ _ _ _ _ _ _ _ _ _ _ _ _ _ _ _ _ _ _ _ _ _ _ _ _ _ _ _ _ _ _ _ _ _ _ _ _ _ _ _ _ _ _ _ _ _ _ _ _ _ _ _ _ _ _ _ _ _ _ _ _ _ _ _ _ _ _ _ _ _ _ _ _ _ _ _ _ _ _ _ _ _ _ _ _ _ _ _ _ _ _ _ _ _ _ _ _ _ _ _ _ _ _ _ _ _ _ _ _ _ _ _ _ _ _ _ _ _ _ _ _ _ _ _ _ _ _ _ _ _ _ _ _ _ _ _ _ _ _ _ _ _ _ _ _ _ _ _ _ _ _ _ _ _ _ _ _ _ _ _ _ _ _ _ _ _ _ _
                · by_cases ah : xa = heldR la
                  · exact one_w14 F A np cp n c P l w wr gT _ HPP PL HL LX HOK hnc hpc HBR HBT NR_T k id tn pg pc un k0 k1 k2 k3 st rn OW HT kd xi xa hz lk li la hy hkn hk1 kq2 kq3 s1 q2 a0 ah _ _ _ _ _ _ _ _ _ _ _ _ _ _ _ _ _ _ _ _ _ _ _ _ _ _ _ _ _ _ _ _ _ _ _ _ _ _ _ _ _ _ _ _ _ _ _ _ _ _ _ _ _ _ _ _ _ _ _ _ _ _ _ _ _ _ _ _ _ _ _ _ _ _ _ _ _ _ _ _ _ _ _ _ _ _ _ _ _ _ _ _ _ _ _ _ _ _ _ _ _ _ _ _ _ _ _ _ _ _ _ _ _ _ _ _ _ _ _ _ _ _ _ _ _ _ _ _ _ _ _ _ _ _ _ _ _ _ _ _ _ _ _ _ _ _ _ _ _ _ _ _ _ _ _ _ _ _ _ _ _ _ _ _ _ _ _ _ _ _ _ _ _ _ _ _ _
                  · exact one_w15 F A np cp n c P l w wr gT _ HPP PL HL LX HOK hnc hpc HBR HBT NR_T k id tn pg pc un k0 k1 k2 k3 st rn OW HT kd xi xa hz lk li la hy hkn hk1 kq2 kq3 s1 q2 a0 ah _ _ _ _ _ _ _ _ _ _ _ _ _ _ _ _ _ _ _ _ _ _ _ _ _ _ _ _ _ _ _ _ _ _ _ _ _ _ _ _ _ _ _ _ _ _ _ _ _ _ _ _ _ _ _ _ _ _ _ _ _ _ _ _ _ _ _ _ _ _ _ _ _ _ _ _ _ _ _ _ _ _ _ _ _ _ _ _ _ _ _ _ _ _ _ _ _ _ _ _ _ _ _ _ _ _ _ _ _ _ _ _ _ _ _ _ _ _ _ _ _ _ _ _ _ _ _ _ _ _ _ _ _ _ _ _ _ _ _ _ _ _ _ _ _ _ _ _ _ _ _ _ _ _ _ _ _ _ _ _ _ _ _ _ _ _ _ _ _ _ _ _ _ _ _ _ _
              · exact one_w16 F A np cp n c P l w wr gT _ HPP PL HL LX HOK hnc hpc HBR HBT NR_T k id tn pg pc un k0 k1 k2 k3 st rn OW HT kd xi xa hz lk li la hy hkn hk1 kq2 kq3 s1 q2 _ _ _ _ _ _ _ _ _ _ _ _ _ _ _ _ _ _ _ _ _ _ _ _ _ _ _ _ _ _ _ _ _ _ _ _ _ _ _ _ _ _ _ _ _ _ _ _ _ _ _ _ _ _ _ _ _ _ _ _ _ _ _ _ _ _ _ _ _ _ _ _ _ _ _ _ _ _ _ _ _ _ _ _ _ _ _ _ _ _ _ _ _ _ _ _ _ _ _ _ _ _ _ _ _ _ _ _ _ _ _ _ _ _ _ _ _ _ _ _ _ _ _ _ _ _ _ _ _ _ _ _ _ _ _ _ _ _ _ _ _ _ _ _ _ _ _ _ _ _ _ _ _ _ _ _ _ _ _ _ _ _ _ _ _ _ _ _ _ _ _ _ _ _ _ _ _
            · exact one_w17 F A np cp n c P l w wr gT _ HPP PL HL LX HOK hnc hpc HBR HBT NR_T k id tn pg pc un k0 k1 k2 k3 st rn OW HT kd xi xa hz lk li la hy hkn hk1 kq2 kq3 s1 _ _ _ _ _ _ _ _ _ _ _ _ _ _ _ _ _ _ _ _ _ _ _ _ _ _ _ _ _ _ _ _ _ _ _ _ _ _ _ _ _ _ _ _ _ _ _ _ _ _ _ _ _ _ _ _ _ _ _ _ _ _ _ _ _ _ _ _ _ _ _ _ _ _ _ _ _ _ _ _ _ _ _ _ _ _ _ _ _ _ _ _ _ _ _ _ _ _ _ _ _ _ _ _ _ _ _ _ _ _ _ _ _ _ _ _ _ _ _ _ _ _ _ _ _ _ _ _ _ _ _ _ _ _ _ _ _ _ _ _ _ _ _ _ _ _ _ _ _ _ _ _ _ _ _ _ _ _ _ _ _ _ _ _ _ _ _ _ _ _ _ _ _ _ _ _ _
          · by_cases kq4 : kd = 4
            · by_cases w1 : wtB st = true
              · by_cases a0 : xa = 0
                · exact one_w18 F A np cp n c P l w wr gT _ HPP PL HL LX HOK hnc hpc HBR HBT NR_T k id tn pg pc un k0 k1 k2 k3 st rn OW HT kd xi xa hz lk li la hy hkn hk1 kq2 kq3 kq4 w1 a0 _ _ _ _ _ _ _ _ _ _ _ _ _ _ _ _ _ _ _ _ _ _ _ _ _ _ _ _ _ _ _ _ _ _ _ _ _ _ _ _ _ _ _ _ _ _ _ _ _ _ _ _ _ _ _ _ _ _ _ _ _ _ _ _ _ _ _ _ _ _ _ _ _ _ _ _ _ _ _ _ _ _ _ _ _ _ _ _ _ _ _ _ _ _ _ _ _ _ _ _ _ _ _ _ _ _ _ _ _ _ _ _ _ _ _ _ _ _ _ _ _ _ _ _ _ _ _ _ _ _ _ _ _ _ _ _ _ _ _ _ _ _ _ _ _ _ _ _ _ _ _ _ _ _ _ _ _ _ _ _ _ _ _ _ _ _ _ _ _ _ _ _ _ _ _ _ _
                · exact one_w19 F A np cp n c P l w wr gT _ HPP PL HL LX HOK hnc hpc HBR HBT NR_T k id tn pg pc un k0 k1 k2 k3 st rn OW HT kd xi xa hz lk li la hy hkn hk1 kq2 kq3 kq4 w1 a0 _ _ _ _ _ _ _ _ _ _ _ _ _ _ _ _ _ _ _ _ _ _ _ _ _ _ _ _ _ _ _ _ _ _ _ _ _ _ _ _ _ _ _ _ _ _ _ _ _ _ _ _ _ _ _ _ _ _ _ _ _ _ _ _ _ _ _ _ _ _ _ _ _ _ _ _ _ _ _ _ _ _ _ _ _ _ _ _ _ _ _ _ _ _ _ _ _ _ _ _ _ _ _ _ _ _ _ _ _ _ _ _ _ _ _ _ _ _ _ _ _ _ _ _ _ _ _ _ _ _ _ _ _ _ _ _ _ _ _ _ _ _ _ _ _ _ _ _ _ _ _ _ _ _ _ _ _ _ _ _ _ _ _ _ _ _ _ _ _ _ _ _ _ _ _ _ _
              · exact one_w20 F A np cp n c P l w wr gT _ HPP PL HL LX HOK hnc hpc HBR HBT NR_T k id tn pg pc un k0 k1 k2 k3 st rn OW HT kd xi xa hz lk li la hy hkn hk1 kq2 kq3 kq4 w1 _ _ _ _ _ _ _ _ _ _ _ _ _ _ _ _ _ _ _ _ _ _ _ _ _ _ _ _ _ _ _ _ _ _ _ _ _ _ _ _ _ _ _ _ _ _ _ _ _ _ _ _ _ _ _ _ _ _ _ _ _ _ _ _ _ _ _ _ _ _ _ _ _ _ _ _ _ _ _ _ _ _ _ _ _ _ _ _ _ _ _ _ _ _ _ _ _ _ _ _ _ _ _ _ _ _ _ _ _ _ _ _ _ _ _ _ _ _ _ _ _ _ _ _ _ _ _ _ _ _ _ _ _ _ _ _ _ _ _ _ _ _ _ _ _ _ _ _ _ _ _ _ _ _ _ _ _ _ _ _ _ _ _ _ _ _ _ _ _ _ _ _ _ _ _ _ _
            · by_cases kq5 : kd = 5
              · by_cases s1 : st = 1
                · by_cases q2 : lk = 2
                  · by_cases q9 : la = 9
                    · by_cases a0 : xa = 0
                      · exact one_w21 F A np cp n c P l w wr gT _ HPP PL HL LX HOK hnc hpc HBR HBT NR_T k id tn pg pc un k0 k1 k2 k3 st rn OW HT kd xi xa hz lk li la hy hkn hk1 kq2 kq3 kq4 kq5 s1 q2 q9 a0 _ _ _ _ _ _ _ _ _ _ _ _ _ _ _ _ _ _ _ _ _ _ _ _ _ _ _ _ _ _ _ _ _ _ _ _ _ _ _ _ _ _ _ _ _ _ _ _ _ _ _ _ _ _ _ _ _ _ _ _ _ _ _ _ _ _ _ _ _ _ _ _ _ _ _ _ _ _ _ _ _ _ _ _ _ _ _ _ _ _ _ _ _ _ _ _ _ _ _ _ _ _ _ _ _ _ _ _ _ _ _ _ _ _ _ _ _ _ _ _ _ _ _ _ _ _ _ _ _ _ _ _ _ _ _ _ _ _ _ _ _ _ _ _ _ _ _ _ _ _ _ _ _ _ _ _ _ _ _ _ _ _ _ _ _ _ _ _ _ _ _ _ _ _ _ _ _
                      · exact one_w22 F A np cp n c P l w wr gT _ HPP PL HL LX HOK hnc hpc HBR HBT NR_T k id tn pg pc un k0 k1 k2 k3 st rn OW HT kd xi xa hz lk li la hy hkn hk1 kq2 kq3 kq4 kq5 s1 q2 q9 a0 _ _ _ _ _ _ _ _ _ _ _ _ _ _ _ _ _ _ _ _ _ _ _ _ _ _ _ _ _ _ _ _ _ _ _ _ _ _ _ _ _ _ _ _ _ _ _ _ _ _ _ _ _ _ _ _ _ _ _ _ _ _ _ _ _ _ _ _ _ _ _ _ _ _ _ _ _ _ _ _ _ _ _ _ _ _ _ _ _ _ _ _ _ _ _ _ _ _ _ _ _ _ _ _ _ _ _ _ _ _ _ _ _ _ _ _ _ _ _ _ _ _ _ _ _ _ _ _ _ _ _ _ _ _ _ _ _ _ _ _ _ _ _ _ _ _ _ _ _ _ _ _ _ _ _ _ _ _ _ _ _ _ _ _ _ _ _ _ _ _ _ _ _ _ _ _ _
                    · exact one_w23 F A np cp n c P l w wr gT _ HPP PL HL LX HOK hnc hpc HBR HBT NR_T k id tn pg pc un k0 k1 k2 k3 st rn OW HT kd xi xa hz lk li la hy hkn hk1 kq2 kq3 kq4 kq5 s1 q2 q9 _ _ _ _ _ _ _ _ _ _ _ _ _ _ _ _ _ _ _ _ _ _ _ _ _ _ _ _ _ _ _ _ _ _ _ _ _ _ _ _ _ _ _ _ _ _ _ _ _ _ _ _ _ _ _ _ _ _ _ _ _ _ _ _ _ _ _ _ _ _ _ _ _ _ _ _ _ _ _ _ _ _ _ _ _ _ _ _ _ _ _ _ _ _ _ _ _ _ _ _ _ _ _ _ _ _ _ _ _ _ _ _ _ _ _ _ _ _ _ _ _ _ _ _ _ _ _ _ _ _ _ _ _ _ _ _ _ _ _ _ _ _ _ _ _ _ _ _ _ _ _ _ _ _ _ _ _ _ _ _ _ _ _ _ _ _ _ _ _ _ _ _ _ _ _ _ _
                  · exact one_w24 F A np cp n c P l w wr gT _ HPP PL HL LX HOK hnc hpc HBR HBT NR_T k id tn pg pc un k0 k1 k2 k3 st rn OW HT kd xi xa hz lk li la hy hkn hk1 kq2 kq3 kq4 kq5 s1 q2 _ _ _ _ _ _ _ _ _ _ _ _ _ _ _ _ _ _ _ _ _ _ _ _ _ _ _ _ _ _ _ _ _ _ _ _ _ _ _ _ _ _ _ _ _ _ _ _ _ _ _ _ _ _ _ _ _ _ _ _ _ _ _ _ _ _ _ _ _ _ _ _ _ _ _ _ _ _ _ _ _ _ _ _ _ _ _ _ _ _ _ _ _ _ _ _ _ _ _ _ _ _ _ _ _ _ _ _ _ _ _ _ _ _ _ _ _ _ _ _ _ _ _ _ _ _ _ _ _ _ _ _ _ _ _ _ _ _ _ _ _ _ _ _ _ _ _ _ _ _ _ _ _ _ _ _ _ _ _ _ _ _ _ _ _ _ _ _ _ _ _ _ _ _ _ _ _
                · exact one_w25 F A np cp n c P l w wr gT _ HPP PL HL LX HOK hnc hpc HBR HBT NR_T k id tn pg pc un k0 k1 k2 k3 st rn OW HT kd xi xa hz lk li la hy hkn hk1 kq2 kq3 kq4 kq5 s1 _ _ _ _ _ _ _ _ _ _ _ _ _ _ _ _ _ _ _ _ _ _ _ _ _ _ _ _ _ _ _ _ _ _ _ _ _ _ _ _ _ _ _ _ _ _ _ _ _ _ _ _ _ _ _ _ _ _ _ _ _ _ _ _ _ _ _ _ _ _ _ _ _ _ _ _ _ _ _ _ _ _ _ _ _ _ _ _ _ _ _ _ _ _ _ _ _ _ _ _ _ _ _ _ _ _ _ _ _ _ _ _ _ _ _ _ _ _ _ _ _ _ _ _ _ _ _ _ _ _ _ _ _ _ _ _ _ _ _ _ _ _ _ _ _ _ _ _ _ _ _ _ _ _ _ _ _ _ _ _ _ _ _ _ _ _ _ _ _ _ _ _ _ _ _ _ _
              · by_cases kq6 : kd = 6
                · by_cases s7 : st = 7
                  · exact one_w26 F A np cp n c P l w wr gT _ HPP PL HL LX HOK hnc hpc HBR HBT NR_T k id tn pg pc un k0 k1 k2 k3 st rn OW HT kd xi xa hz lk li la hy hkn hk1 kq2 kq3 kq4 kq5 kq6 s7 _ _ _ _ _ _ _ _ _ _ _ _ _ _ _ _ _ _ _ _ _ _ _ _ _ _ _ _ _ _ _ _ _ _ _ _ _ _ _ _ _ _ _ _ _ _ _ _ _ _ _ _ _ _ _ _ _ _ _ _ _ _ _ _ _ _ _ _ _ _ _ _ _ _ _ _ _ _ _ _ _ _ _ _ _ _ _ _ _ _ _ _ _ _ _ _ _ _ _ _ _ _ _ _ _ _ _ _ _ _ _ _ _ _ _ _ _ _ _ _ _ _ _ _ _ _ _ _ _ _ _ _ _ _ _ _ _ _ _ _ _ _ _ _ _ _ _ _ _ _ _ _ _ _ _ _ _ _ _ _ _ _ _ _ _ _ _ _ _ _ _ _ _ _ _ _ _
                  · by_cases a0 : xa = 0
                    · exact one_w27 F A np cp n c P l w wr gT _ HPP PL HL LX HOK hnc hpc HBR HBT NR_T k id tn pg pc un k0 k1 k2 k3 st rn OW HT kd xi xa hz lk li la hy hkn hk1 kq2 kq3 kq4 kq5 kq6 s7 a0 _ _ _ _ _ _ _ _ _ _ _ _ _ _ _ _ _ _ _ _ _ _ _ _ _ _ _ _ _ _ _ _ _ _ _ _ _ _ _ _ _ _ _ _ _ _ _ _ _ _ _ _ _ _ _ _ _ _ _ _ _ _ _ _ _ _ _ _ _ _ _ _ _ _ _ _ _ _ _ _ _ _ _ _ _ _ _ _ _ _ _ _ _ _ _ _ _ _ _ _ _ _ _ _ _ _ _ _ _ _ _ _ _ _ _ _ _ _ _ _ _ _ _ _ _ _ _ _ _ _ _ _ _ _ _ _ _ _ _ _ _ _ _ _ _ _ _ _ _ _ _ _ _ _ _ _ _ _ _ _ _ _ _ _ _ _ _ _ _ _ _ _ _ _ _ _ _
                    · exact one_w28 F A np cp n c P l w wr gT _ HPP PL HL LX HOK hnc hpc HBR HBT NR_T k id tn pg pc un k0 k1 k2 k3 st rn OW HT kd xi xa hz lk li la hy hkn hk1 kq2 kq3 kq4 kq5 kq6 s7 a0 _ _ _ _ _ _ _ _ _ _ _ _ _ _ _ _ _ _ _ _ _ _ _ _ _ _ _ _ _ _ _ _ _ _ _ _ _ _ _ _ _ _ _ _ _ _ _ _ _ _ _ _ _ _ _ _ _ _ _ _ _ _ _ _ _ _ _ _ _ _ _ _ _ _ _ _ _ _ _ _ _ _ _ _ _ _ _ _ _ _ _ _ _ _ _ _ _ _ _ _ _ _ _ _ _ _ _ _ _ _ _ _ _ _ _ _ _ _ _ _ _ _ _ _ _ _ _ _ _ _ _ _ _ _ _ _ _ _ _ _ _ _ _ _ _ _ _ _ _ _ _ _ _ _ _ _ _ _ _ _ _ _ _ _ _ _ _ _ _ _ _ _ _ _ _ _ _
                · exact one_w29 F A np cp n c P l w wr gT _ HPP PL HL LX HOK hnc hpc HBR HBT NR_T k id tn pg pc un k0 k1 k2 k3 st rn OW HT kd xi xa hz lk li la hy hkn hk1 kq2 kq3 kq4 kq5 kq6 _ _ _ _ _ _ _ _ _ _ _ _ _ _ _ _ _ _ _ _ _ _ _ _ _ _ _ _ _ _ _ _ _ _ _ _ _ _ _ _ _ _ _ _ _ _ _ _ _ _ _ _ _ _ _ _ _ _ _ _ _ _ _ _ _ _ _ _ _ _ _ _ _ _ _ _ _ _ _ _ _ _ _ _ _ _ _ _ _ _ _ _ _ _ _ _ _ _ _ _ _ _ _ _ _ _ _ _ _ _ _ _ _ _ _ _ _ _ _ _ _ _ _ _ _ _ _ _ _ _ _ _ _ _ _ _ _ _ _ _ _ _ _ _ _ _ _ _ _ _ _ _ _ _ _ _ _ _ _ _ _ _ _ _ _ _ _ _ _ _ _ _ _ _ _ _ _
    · obtain rfl : k = n := by omega
      have HE : Hid (oneT P l = some T) := Lib.hid (by have := HT.out; rwa [List.take_of_length_le (by rw [LX.out]; exact Nat.le_refl _)] at this)
      obtain ⟨id, tn, pg, pc, un, k0, k1, k2, k3, st, rn⟩ := T
      have BB := Lib.hid OW.out.1
      have KR := Lib.hid OW.out.2.1
      have KT : Hid (Bk wr gT 44 #[.int .i64 id, .int .i64 tn, .int .i64 pg, .int .i64 pc, .int .i64 un, .int .i64 k0, .int .i64 k1, .int .i64 k2, .int .i64 k3, .int .i64 st, .int .i64 rn]) := Lib.hid OW.out.2.2
      clear OW
      go_upto_region 39 with fail
      obtain ⟨qT_0, qT_1, qT_2, qT_3, qT_4, qT_5, qT_6, qT_7, qT_8, qT_9, qT_10⟩ := KT.out.c11
      have lT := KT.out.lt
      obtain ⟨qR_0, qR_1, qR_2, qR_3, qR_4, qR_5, qR_6, qR_7, qR_8, qR_9, qR_10⟩ := KR.out.c11
      have lR := KR.out.lt
      obtain ⟨fR_0, fR_1, fR_2, fR_3, fR_4, fR_5, fR_6, fR_7, fR_8, fR_9, fR_10⟩ := KR.out.f11
      have B_R := Lib.hid (below_set11 (g := w.heap.size) BB.out HBR.out (.int .i64 id) (.int .i64 tn) (.int .i64 pg) (.int .i64 pc) (.int .i64 un) (.int .i64 k0) (.int .i64 k1) (.int .i64 k2) (.int .i64 k3) (.int .i64 st) (.int .i64 rn))
      have S_R := Lib.hid (bk_set11 KR.out (.int .i64 id) (.int .i64 tn) (.int .i64 pg) (.int .i64 pc) (.int .i64 un) (.int .i64 k0) (.int .i64 k1) (.int .i64 k2) (.int .i64 k3) (.int .i64 st) (.int .i64 rn))
      unfold set11 at B_R
      go_wp2
      obtain ⟨rR_0, rR_1, rR_2, rR_3, rR_4, rR_5, rR_6, rR_7, rR_8, rR_9, rR_10⟩ := Bk.c11 (S_R.out)
      unfold set11 at rR_0 rR_1 rR_2 rR_3 rR_4 rR_5 rR_6 rR_7 rR_8 rR_9 rR_10
      exact bodyPost_ret (v := .tuple #[.agg #[.int .i64 id, .int .i64 tn, .int .i64 pg, .int .i64 pc, .int .i64 un, .int .i64 k0, .int .i64 k1, .int .i64 k2, .int .i64 k3, .int .i64 st, .int .i64 rn], .bool true]) (by simp [results, Tryd.results27, go_sem, rR_0, rR_1, rR_2, rR_3, rR_4, rR_5, rR_6, rR_7, rR_8, rR_9, rR_10]) rfl ⟨⟨id, tn, pg, pc, un, k0, k1, k2, k3, st, rn⟩, by rw [HE.out]; rfl, (fun u hu => by rw [HE.out] at hu; injection hu), B_R.out⟩

end Go.Proofs.YtfhlligcbpnkkaaDoor
