/-
  The law PollEdges: whatever is opened, shut, armed, and fired: who goes on had armed that descriptor; no more go on than edges came: the walk.
-/
import Derived.Test.YtndbaoiabmldgaaLe
import Derived.Test.YtndbaoiabmldgaaPRowD
namespace Go.Proofs.Ytndbaoiabmldgaa
open Go.RowKit Go.Maps

theorem gb_trans {a b d : World} {r : Option Nat} (h : a.grownBy b r) (k : b.grownBy d r) : a.grownBy d r :=
  ⟨k.os.trans h.os, k.tape.trans h.tape, k.output.trans h.output, Nat.le_trans h.size k.size, fun i hi hr => (k.block i (Nat.lt_of_lt_of_le hi h.size) hr).trans (h.block i hi hr)⟩
theorem who_nil {N k : Nat} (h : k < (List.replicate N nilD).length) : ¬ 0 ≤ who (List.replicate N nilD) k := by
  unfold who
  rw [dth_get h, List.getElem_replicate]
  decide
theorem bit_nil {N : Nat} {g : Ds → Bool} (hg : g nilD = false) (x : Int) : false = bitF g (List.replicate N nilD) x := by
  refine (decide_eq_false ?_).symm
  rintro ⟨k, _, hk, hb⟩
  rw [dth_get hk, List.getElem_replicate, hg] at hb
  cases hb
theorem stE_nil {N : Nat} (h : N ≤ 16) : StE (List.replicate N nilD) N 0 0 0 := by
  refine ⟨pollOk_iff.2 ⟨by simpa using h, fun j hj => ?_, fun i j hi hj _ h0 => absurd h0 (who_nil hi)⟩, by simp, ?_, Nat.le_refl _⟩
  · rw [dth_get hj, List.getElem_replicate]; exact okD_nil
  · have : rdyN (List.replicate N nilD) = 0 := by
      unfold rdyN
      rw [List.countP_eq_zero]
      intro x hx
      rw [List.eq_of_mem_replicate hx]
      decide
    omega
theorem at_mod {fd : Int} {N : Nat} (h : 1 ≤ N) : (-(N : Int) < fd.tmod N ∧ fd.tmod N < N) ∧ ∃ j : Nat, (fd.tmod N + N).tmod N = (j : Int) ∧ j < N := by
  have h1 : fd.tmod N < N := Int.tmod_lt_of_pos fd (by omega)
  have h2 : -(N : Int) < fd.tmod N := by
    have h3 := Int.neg_tmod fd N
    have h4 := Int.tmod_lt_of_pos (-fd) (show (0 : Int) < N by omega)
    omega
  refine ⟨⟨h2, h1⟩, ((fd.tmod N + N).tmod N).toNat, ?_, ?_⟩
  · have := Int.tmod_nonneg (N : Int) (show 0 ≤ fd.tmod N + N by omega)
    omega
  · have := Int.tmod_lt_of_pos (fd.tmod N + N) (show (0 : Int) < N by omega)
    have := Int.tmod_nonneg (N : Int) (show 0 ≤ fd.tmod N + N by omega)
    omega

set_option maxRecDepth 100000 in
set_option maxHeartbeats 16000000 in
theorem ledges_any (m : Int) (A : Option Addr) (n c : Nat) (l : List O3) (w : World) (hx : Ops9 w A n c l) :
    Calls Try.prog 5 #[.int .i64 m, .slice A n c] w (TrueAns w) := by
  have HX := Lib.hid hx
  have LX := Lib.hid hx.1
  have hnc := hx.2.1
  have mk1 : ∀ w, (Instr.makeMap 44 none).run Try.prog w = .ok (.map (some w.heap.size)) (w.alloc (.map #[] 0)) := fun w => rfl
  have mk2 : ∀ w, (Instr.makeMap 45 none).run Try.prog w = .ok (.map (some w.heap.size)) (w.alloc (.map #[] 0)) := fun w => rfl
  clear hx
  go_enter Try.func5, Try.ntmps5
  go_wp2_with fail
  refine (live_any _).mono ?_
  rintro e w1 ⟨rfl, b1⟩
  replace HX := Lib.hid (HX.out.below b1)
  have BB := Lib.hid b1
  clear b1
  by_cases hm1 : m < 1
  · have d0 : decide (m < 1) = true := decide_eq_true hm1
    go_wp2_with fail
    go_ret
    exact ⟨rfl, BB.out⟩
  have d0 : decide (m < 1) = false := decide_eq_false hm1
  by_cases hm2 : 16 < m
  · have d1 : decide (16 < m) = true := decide_eq_true hm2
    go_wp2_with fail
    go_ret
    exact ⟨rfl, BB.out⟩
  have d1 : decide (16 < m) = false := decide_eq_false hm2
  by_cases h150 : 150 < n
  · go_wp2_with fail
    go_ret
    exact ⟨rfl, BB.out⟩
  have h150' : n ≤ 150 := by omega
  obtain ⟨N, rfl⟩ := Int.eq_ofNat_of_zero_le (show 0 ≤ m by omega)
  have hN : 1 ≤ N ∧ N ≤ 16 := by omega
  obtain ⟨hN1, hN2⟩ := hN
  obtain ⟨p0, hp0⟩ : ∃ p, List.replicate N nilD = p := ⟨_, rfl⟩
  have HR0 := Lib.hid (show newR (N : Int) = (0, p0) by unfold newR; rw [if_pos (by omega), Int.toNat_natCast, hp0])
  have HL0 := Lib.hid (show p0.length = N by rw [← hp0, List.length_replicate])
  have HP0 := Lib.hid hp0
  clear hp0 hm1 hm2
  go_wp2_with fail
  refine (pnew_any (N : Int) _).mono ?_
  rw [HR0.out]
  rintro e w2 ⟨A0, c0, rfl, o0, b2⟩
  have t0 := o0.dss
  dsimp only at t0 ⊢
  rw [HL0.out] at t0 ⊢
  replace HX := Lib.hid (HX.out.below b2)
  replace BB := Lib.hid (below3 BB.out b2)
  obtain ⟨b, hb⟩ : ∃ b, w2.heap.size = b := ⟨_, rfl⟩
  have HBB := Lib.hid hb
  have a1 := (Below.refl w2.heap.size w2).alloc (Nat.le_refl _) (.map #[] 0)
  have a2 := (Below.refl (w2.alloc (.map #[] 0)).heap.size (w2.alloc (.map #[] 0))).alloc (Nat.le_refl _) (.map #[] 0)
  have a3 := (Below.refl ((w2.alloc (.map #[] 0)).alloc (.map #[] 0)).heap.size ((w2.alloc (.map #[] 0)).alloc (.map #[] 0))).alloc (Nat.le_refl _) (.map #[] 0)
  have M0 := (((WaM.made w2 (p := p0) (fun k hk => by have := HP0.out; subst this; exact who_nil hk)).below a2).below a3)
  have R0 := ((FMap.made (w2.alloc (.map #[] 0))).same (g := bitF rdB p0) (fun x => by have := HP0.out; subst this; exact bit_nil rfl x)).below a3
  have O0 := (FMap.made ((w2.alloc (.map #[] 0)).alloc (.map #[] 0))).same (g := bitF opB p0) (fun x => by have := HP0.out; subst this; exact bit_nil rfl x)
  rw [size_alloc] at R0
  rw [size_alloc, size_alloc] at O0
  rw [hb] at M0 R0 O0
  have C0 := Lib.hid (below3 a1 (below3 a2 a3))
  have T0 := Lib.hid (((t0.below a1).below a2).below a3)
  have S0 := Lib.hid (show StE p0 N 0 0 0 by have := HP0.out; subst this; exact stE_nil hN2)
  have M0 := Lib.hid M0
  have R0 := Lib.hid R0
  have O0 := Lib.hid O0
  clear o0 b2 t0 hb a1 a2 a3
  go_wp2_with fail
  rw [HBB.out]
  clear mk1 mk2 d0 d1
  go_loopw [62, 6, 11, 12] (fun t u e g wr => ∃ (k : Nat) (An : Option Addr) (cn : Nat) (p : List Ds) (ed go : Nat), t = .int .i64 (k : Int) ∧ u = .slice An N cn ∧ e = .int .i64 (ed : Int) ∧ g = .int .i64 (go : Int) ∧ k ≤ n ∧ Hid (StE p N k ed go) ∧ Hid (Dss wr An N cn p) ∧ Hid (WaM wr b k p) ∧ Hid (FMap wr (b + 1) k (bitF rdB p)) ∧ Hid (FMap wr (b + 1 + 1) k (bitF opB p)) ∧ Hid (Below w2.heap.size w2 wr)) (fun t _ _ _ _ => n - (intOf t).toNat)
  case atStart => exact ⟨0, A0, c0, p0, 0, 0, rfl, rfl, rfl, rfl, Nat.zero_le _, S0, T0, M0, R0, O0, C0⟩
  case round =>
    clear S0 T0 M0 R0 O0 C0 HR0 HL0 HP0
    rename World => wr
    obtain ⟨k, An, cn, p, ed, go, rfl, rfl, rfl, rfl, hk, HS, TN, WM, RM, OM, BW⟩ := hrel
    by_cases hkn : k < n
    · obtain ⟨bA, oA, rfl, hbA, zall⟩ := (HX.out.below BW.out).2.2.2 (by omega)
      obtain ⟨e0, e1, e2⟩ := zall k hkn
      clear zall
      have hfo : FitO (oth l k) := by rw [oth_get (by rw [LX.out]; exact hkn)]; exact HX.out.2.2.1 _ (List.getElem_mem _)
      obtain ⟨⟨kd, fd, id⟩, ho⟩ : ∃ v, oth l k = v := ⟨_, rfl⟩
      rw [ho] at e0 e1 e2 hfo
      simp only at e0 e1 e2
      have FID := Lib.hid (show Fit id from hfo.2.2)
      have k1 := Bk.new wr 47 #[.int .i64 kd, .int .i64 fd, .int .i64 id]
      have b1 := (Below.refl wr.heap.size wr).alloc (Nat.le_refl _) (.cells #[.int .i64 kd, .int .i64 fd, .int .i64 id] 47)
      obtain ⟨gu, hgu⟩ : ∃ g, wr.heap.size = g := ⟨_, rfl⟩
      have hbg : b + 1 + 1 < gu := by rw [← hgu]; exact OM.out.lt
      have hwb : w2.heap.size ≤ b := by rw [HBB.out]; exact Nat.le_refl _
      obtain ⟨V, hV⟩ : ∃ V, wr.alloc (.cells #[.int .i64 kd, .int .i64 fd, .int .i64 id] 47) = V := ⟨_, rfl⟩
      rw [hV] at b1 k1
      rw [hgu] at k1
      have hgV : gu < V.heap.size := k1.lt
      replace TN := Lib.hid (TN.out.below b1)
      replace WM := Lib.hid (WM.out.below b1)
      replace RM := Lib.hid (RM.out.below b1)
      replace OM := Lib.hid (OM.out.below b1)
      replace BW := Lib.hid (below3 BW.out b1)
      have KV := Lib.hid k1
      have HV := Lib.hid hV
      have HGU := Lib.hid hgu
      have hed : ed ≤ 150 := by have := HS.out.few2; omega
      have hgo : go ≤ ed := by have := HS.out.few; omega
      clear hV hgu k1 b1 ho hfo
      go_upto_region 17 with fail
      rw [HV.out]
      try rw [HGU.out]
      clear HV HGU e0 e1 e2 hbA
      obtain ⟨⟨hm1, hm2⟩, j, hj, hjN⟩ := at_mod (fd := fd) (N := N) hN1
      have hwm : IntKind.i64.wrap (fd.tmod (N : Int) + (N : Int)) = fd.tmod (N : Int) + (N : Int) := by rw [IntKind.wrap_i64]; omega
      have hjl : j < p.length := by rw [HS.out.len]; exact hjN
      have HJL := Lib.hid hjl
      have FJ := Lib.hid (show Fit (j : Int) by unfold Fit; omega)
      obtain ⟨⟨o1, r1, z1⟩, hz⟩ : ∃ x, dth p j = x := ⟨_, rfl⟩
      have HZ := Lib.hid hz
      have HW := Lib.hid (who_def p j hz)
      obtain ⟨v, hget, hvv⟩ := WM.out.get hjl FJ.out
      rw [HW.out] at hget hvv
      obtain ⟨wb, hwb2⟩ : ∃ q, decide (0 ≤ z1) = q := ⟨_, rfl⟩
      rw [hwb2] at hget
      have HWB := Lib.hid hwb2
      have HVV := Lib.hid hvv
      have q0 : _ = some (Value.int .i64 kd) := KV.out.cell 0
      have q1 : _ = some (Value.int .i64 fd) := KV.out.cell 1
      have q2 : _ = some (Value.int .i64 id) := KV.out.cell 2
      have lq := KV.out.lt
      clear hjl hz hvv hwb2
      obtain ⟨D, hD, hF⟩ := WM.out
      have HF := Lib.hid hF
      have HOW := Lib.hid hD
      clear hF hD
      obtain ⟨w0, hrun0, hrg0, hg0, hs0⟩ := HOW.out.range Try.lawInt (t := 44) Try.underlying44
      go_upto_region 21 with fail
      clear hrun0 hget hm1 hm2 hj hwm q0 q1 q2 lq
      go_loopw [18] (fun t ws => ∃ (left : Lit → Bool) (cnt : Nat) (bb : Bool), t = .bool bb ∧ ws.ranges Try.prog 3 (plainElem Try.prog 2) b V.heap.size k D left cnt ∧ (∀ x, left (.int .i64 x) = true → Maps.has D (.int .i64 x) = true) ∧ Hid (BzI p id left bb) ∧ Hid (Below V.heap.size V ws)) (fun _ ws => ws.rangeLeft b V.heap.size)
      case atStart => exact ⟨_, _, false, rfl, hrg0, fun x h => h, Lib.hid (BzI.start HF.out), Lib.hid ((Below.refl V.heap.size V).grown hg0 (Nat.le_refl _) (fun j hj => by cases hj))⟩
      case round =>
        rename World => wm
        clear hrg0 hg0 hs0
        obtain ⟨left, cnt, bb, rfl, hrg, hleft, HBZ, HB⟩ := hrel
        rcases hrg.next Try.lawInt 0 with ⟨-, hl0, hrunN⟩ | ⟨key, vv, kl, yy, w8, cnt1, hkey, hlx, hvv, hat, hrunN, hrg1, hlt, hg1, hs1, hen⟩
        · have HBD := Lib.hid (HBZ.out.done hl0)
          replace TN := Lib.hid (TN.out.below HB.out)
          replace WM := Lib.hid (WM.out.below HB.out)
          replace RM := Lib.hid (RM.out.below HB.out)
          replace OM := Lib.hid (OM.out.below HB.out)
          replace BW := Lib.hid (below3 BW.out HB.out)
          replace KV := Lib.hid (KV.out.below HB.out KV.out.lt)
          clear hrg hleft hl0 HBZ HB HOW HF
          have q0 : _ = some (Value.int .i64 kd) := KV.out.cell 0
          have q1 : _ = some (Value.int .i64 fd) := KV.out.cell 1
          have q2 : _ = some (Value.int .i64 id) := KV.out.cell 2
          have lq := KV.out.lt
          have hokd : okD (o1, r1, z1) := by rw [← HZ.out]; exact (HS.out.ok.2 j HJL.out).1
          obtain ⟨r, hr⟩ : ∃ r, kd.tmod 4 = r := ⟨_, rfl⟩
          go_upto_region 35 with fail
          clear hrunN hr
          cases o1 with
          | false =>
            obtain ⟨hr0, hz0⟩ := hokd.1 rfl
            simp only at hr0 hz0
            subst hr0 hz0
            have hwbf : wb = false := by rw [← HWB.out]; rfl
            subst hwbf
            clear hokd
            by_cases r0 : r = 0
            · as_aux_lemma =>
                have k0 : (r == 0) = true := by simpa using r0
                clear r0
                obtain ⟨p5, hp5⟩ : ∃ q, p.set j quiD = q := ⟨_, rfl⟩
                have HP5 := Lib.hid hp5
                have HRES := Lib.hid (show openR p (j : Int) = (0, p5) from by rw [openR_at HS.out.ok HJL.out, HZ.out, if_neg (by decide), hp5])
                have HL5 := Lib.hid (show p5.length = N by rw [← hp5, List.length_set]; exact HS.out.len)
                clear hp5
                go_wp2_with fail
                refine (popen_any An N cn p (j : Int) _ TN.out (by omega)).mono ?_
                rw [HRES.out]
                rintro e w5 ⟨A5, c5, rfl, o5, b5⟩
                have t5 := o5.dss
                dsimp only at t5 ⊢
                rw [HL5.out] at t5 ⊢
                have TU := Lib.hid t5
                clear t5
                replace TN := Lib.hid (TN.out.below b5)
                replace WM := Lib.hid (WM.out.below b5)
                replace RM := Lib.hid (RM.out.below b5)
                replace OM := Lib.hid (OM.out.below b5)
                replace BW := Lib.hid (below3 BW.out b5)
                replace KV := Lib.hid (KV.out.below b5 KV.out.lt)
                clear q0 q1 q2 lq
                have q0 : _ = some (Value.int .i64 kd) := KV.out.cell 0
                have q1 : _ = some (Value.int .i64 fd) := KV.out.cell 1
                have q2 : _ = some (Value.int .i64 id) := KV.out.cell 2
                have lq := KV.out.lt
                clear o5 b5 HRES
                have hop : (Instr.lookup 45 (.map (some (b + 1 + 1))) (.int .i64 (j : Int)) false).run Try.prog w5 = .ok (.bool false) w5 := by
                  have := OM.out.lookup FJ.out
                  rw [bitF_at HJL.out, HZ.out] at this
                  exact this
                have hrd : (Instr.lookup 45 (.map (some (b + 1))) (.int .i64 (j : Int)) false).run Try.prog w5 = .ok (.bool false) w5 := by
                  have := RM.out.lookup FJ.out
                  rw [bitF_at HJL.out, HZ.out] at this
                  exact this
                have HNW : ¬ 0 ≤ (quiD : Ds).2.2 := by decide
                obtain ⟨U1, hrun1, m1, g1⟩ := OM.out.update FJ.out true (by omega)
                replace TU := Lib.hid (Dss.pastF OM.out TU.out g1)
                replace BW := Lib.hid (BW.out.grown g1 BW.out.size (by intro k hk; injection hk with hk; omega))
                replace RM := Lib.hid (RM.out.grown g1 (by intro q; injection q with q; omega))
                replace WM := Lib.hid (WM.out.grown g1 (by intro q; injection q with q; omega))
                have O5 := Lib.hid (HP5.out ▸ m1.same (bitF_set (g := opB) HJL.out quiD))
                clear m1 g1
                have W5 := Lib.hid (HP5.out ▸ WM.out.keep HJL.out (d := quiD) (by rw [HW.out]; decide) (by decide))
                have R5 := Lib.hid (HP5.out ▸ RM.out.same (bitF_keep (g := rdB) HJL.out (d := quiD) (by rw [HZ.out]; try rfl)))
                have SX := Lib.hid (show StE p5 N (k + 1) (ed) (go) from by
                  have h1 := rdyN_set HJL.out quiD
                  rw [HZ.out, HP5.out] at h1
                  simp [rdB] at h1
                  exact ⟨HP5.out ▸ pollOk_low HS.out.ok _ okD_qui rfl, HL5.out, by have := HS.out.few; omega, by have := HS.out.few2; omega⟩)
                go_wp2_with fail
                refine (pcheck_any A5 N c5 p5 _ TU.out).mono ?_
                rw [if_pos SX.out.ok]
                rintro e w9 ⟨rfl, b9⟩
                have TE := Lib.hid (TU.out.below b9)
                have WE := Lib.hid ((W5.out.below b9).mono (n' := k + 1) (by omega))
                have RE := Lib.hid ((R5.out.below b9).mono (n' := k + 1) (by omega))
                have OE := Lib.hid ((O5.out.below b9).mono (n' := k + 1) (by omega))
                have BE := Lib.hid (below3 BW.out b9)
                have SE := SX
                clear b9
                go_wp2_with fail
                go_roundw
                case rel => exact ⟨k + 1, A5, c5, p5, ed, go, by go_num, rfl, by go_num, by go_num, by omega, SE, TE, WE, RE, OE, BE⟩
                case measure => simp only [intOf]; omega
            by_cases r1 : r = 1
            · as_aux_lemma =>
                have k0 : (r == 0) = false := by simpa using r0
                have k1 : (r == 1) = true := by simpa using r1
                clear r0 r1
                have HRES := Lib.hid (show shutR p (j : Int) = (5, 0, []) from by rw [shutR_at HS.out.ok HJL.out, HZ.out, if_neg (by decide)])
                go_wp2_with fail
                refine (pshut_any An N cn p (j : Int) _ TN.out (by omega)).mono ?_
                rw [HRES.out]
                rintro e w5 ⟨A5, c5, rfl, o5, b5⟩
                dsimp only [List.length_nil]
                replace TN := Lib.hid (TN.out.below b5)
                replace WM := Lib.hid (WM.out.below b5)
                replace RM := Lib.hid (RM.out.below b5)
                replace OM := Lib.hid (OM.out.below b5)
                replace BW := Lib.hid (below3 BW.out b5)
                replace KV := Lib.hid (KV.out.below b5 KV.out.lt)
                clear q0 q1 q2 lq
                have q0 : _ = some (Value.int .i64 kd) := KV.out.cell 0
                have q1 : _ = some (Value.int .i64 fd) := KV.out.cell 1
                have q2 : _ = some (Value.int .i64 id) := KV.out.cell 2
                have lq := KV.out.lt
                clear o5 b5 HRES
                have hop : (Instr.lookup 45 (.map (some (b + 1 + 1))) (.int .i64 (j : Int)) false).run Try.prog w5 = .ok (.bool false) w5 := by
                  have := OM.out.lookup FJ.out
                  rw [bitF_at HJL.out, HZ.out] at this
                  exact this
                have hrd : (Instr.lookup 45 (.map (some (b + 1))) (.int .i64 (j : Int)) false).run Try.prog w5 = .ok (.bool false) w5 := by
                  have := RM.out.lookup FJ.out
                  rw [bitF_at HJL.out, HZ.out] at this
                  exact this
                have SX := Lib.hid (show StE p N (k + 1) ed go from ⟨HS.out.ok, HS.out.len, HS.out.few, by have := HS.out.few2; omega⟩)
                go_wp2_with fail
                refine (pcheck_any An N cn p _ TN.out).mono ?_
                rw [if_pos SX.out.ok]
                rintro e w9 ⟨rfl, b9⟩
                have TE := Lib.hid (TN.out.below b9)
                have WE := Lib.hid ((WM.out.below b9).mono (n' := k + 1) (by omega))
                have RE := Lib.hid ((RM.out.below b9).mono (n' := k + 1) (by omega))
                have OE := Lib.hid ((OM.out.below b9).mono (n' := k + 1) (by omega))
                have BE := Lib.hid (below3 BW.out b9)
                have SE := SX
                clear b9
                go_wp2_with fail
                go_roundw
                case rel => exact ⟨k + 1, An, cn, p, ed, go, by go_num, rfl, by go_num, by go_num, by omega, SE, TE, WE, RE, OE, BE⟩
                case measure => simp only [intOf]; omega
            by_cases r2 : r = 2
            · as_aux_lemma =>
                have k0 : (r == 0) = false := by simpa using r0
                have k1 : (r == 1) = false := by simpa using r1
                have k2 : (r == 2) = true := by simpa using r2
                clear r0 r1 r2
                by_cases h0id : 0 ≤ id
                · have tid : decide (0 ≤ id) = true := decide_eq_true h0id
                  have HRES := Lib.hid (show armR p (j : Int) id = (5, false, []) from by rw [armR_at HS.out.ok HJL.out h0id, HZ.out, if_neg (by decide)])
                  go_wp2_with fail
                  refine (parm_any An N cn p (j : Int) id _ TN.out (by omega) FID.out).mono ?_
                  rw [HRES.out]
                  rintro e w5 ⟨A5, c5, rfl, o5, b5⟩
                  dsimp only [List.length_nil]
                  replace TN := Lib.hid (TN.out.below b5)
                  replace WM := Lib.hid (WM.out.below b5)
                  replace RM := Lib.hid (RM.out.below b5)
                  replace OM := Lib.hid (OM.out.below b5)
                  replace BW := Lib.hid (below3 BW.out b5)
                  replace KV := Lib.hid (KV.out.below b5 KV.out.lt)
                  clear q0 q1 q2 lq
                  have q0 : _ = some (Value.int .i64 kd) := KV.out.cell 0
                  have q1 : _ = some (Value.int .i64 fd) := KV.out.cell 1
                  have q2 : _ = some (Value.int .i64 id) := KV.out.cell 2
                  have lq := KV.out.lt
                  clear o5 b5 HRES
                  have hop : (Instr.lookup 45 (.map (some (b + 1 + 1))) (.int .i64 (j : Int)) false).run Try.prog w5 = .ok (.bool false) w5 := by
                    have := OM.out.lookup FJ.out
                    rw [bitF_at HJL.out, HZ.out] at this
                    exact this
                  have hrd : (Instr.lookup 45 (.map (some (b + 1))) (.int .i64 (j : Int)) false).run Try.prog w5 = .ok (.bool false) w5 := by
                    have := RM.out.lookup FJ.out
                    rw [bitF_at HJL.out, HZ.out] at this
                    exact this
                  have SX := Lib.hid (show StE p N (k + 1) ed go from ⟨HS.out.ok, HS.out.len, HS.out.few, by have := HS.out.few2; omega⟩)
                  go_wp2_with fail
                  refine (pcheck_any An N cn p _ TN.out).mono ?_
                  rw [if_pos SX.out.ok]
                  rintro e w9 ⟨rfl, b9⟩
                  have TE := Lib.hid (TN.out.below b9)
                  have WE := Lib.hid ((WM.out.below b9).mono (n' := k + 1) (by omega))
                  have RE := Lib.hid ((RM.out.below b9).mono (n' := k + 1) (by omega))
                  have OE := Lib.hid ((OM.out.below b9).mono (n' := k + 1) (by omega))
                  have BE := Lib.hid (below3 BW.out b9)
                  have SE := SX
                  clear b9
                  go_wp2_with fail
                  go_roundw
                  case rel => exact ⟨k + 1, An, cn, p, ed, go, by go_num, rfl, by go_num, by go_num, by omega, SE, TE, WE, RE, OE, BE⟩
                  case measure => simp only [intOf]; omega
                · have tid : decide (0 ≤ id) = false := decide_eq_false h0id
                  have HRES := Lib.hid (show armR p (j : Int) id = (1, false, []) from by unfold armR; rw [if_neg (fun q => h0id q.2)])
                  go_wp2_with fail
                  refine (parm_any An N cn p (j : Int) id _ TN.out (by omega) FID.out).mono ?_
                  rw [HRES.out]
                  rintro e w5 ⟨A5, c5, rfl, o5, b5⟩
                  dsimp only [List.length_nil]
                  replace TN := Lib.hid (TN.out.below b5)
                  replace WM := Lib.hid (WM.out.below b5)
                  replace RM := Lib.hid (RM.out.below b5)
                  replace OM := Lib.hid (OM.out.below b5)
                  replace BW := Lib.hid (below3 BW.out b5)
                  replace KV := Lib.hid (KV.out.below b5 KV.out.lt)
                  clear q0 q1 q2 lq
                  have q0 : _ = some (Value.int .i64 kd) := KV.out.cell 0
                  have q1 : _ = some (Value.int .i64 fd) := KV.out.cell 1
                  have q2 : _ = some (Value.int .i64 id) := KV.out.cell 2
                  have lq := KV.out.lt
                  clear o5 b5 HRES
                  have hop : (Instr.lookup 45 (.map (some (b + 1 + 1))) (.int .i64 (j : Int)) false).run Try.prog w5 = .ok (.bool false) w5 := by
                    have := OM.out.lookup FJ.out
                    rw [bitF_at HJL.out, HZ.out] at this
                    exact this
                  have hrd : (Instr.lookup 45 (.map (some (b + 1))) (.int .i64 (j : Int)) false).run Try.prog w5 = .ok (.bool false) w5 := by
                    have := RM.out.lookup FJ.out
                    rw [bitF_at HJL.out, HZ.out] at this
                    exact this
                  have SX := Lib.hid (show StE p N (k + 1) ed go from ⟨HS.out.ok, HS.out.len, HS.out.few, by have := HS.out.few2; omega⟩)
                  go_wp2_with fail
                  refine (pcheck_any An N cn p _ TN.out).mono ?_
                  rw [if_pos SX.out.ok]
                  rintro e w9 ⟨rfl, b9⟩
                  have TE := Lib.hid (TN.out.below b9)
                  have WE := Lib.hid ((WM.out.below b9).mono (n' := k + 1) (by omega))
                  have RE := Lib.hid ((RM.out.below b9).mono (n' := k + 1) (by omega))
                  have OE := Lib.hid ((OM.out.below b9).mono (n' := k + 1) (by omega))
                  have BE := Lib.hid (below3 BW.out b9)
                  have SE := SX
                  clear b9
                  go_wp2_with fail
                  go_roundw
                  case rel => exact ⟨k + 1, An, cn, p, ed, go, by go_num, rfl, by go_num, by go_num, by omega, SE, TE, WE, RE, OE, BE⟩
                  case measure => simp only [intOf]; omega
            as_aux_lemma =>
              have k0 : (r == 0) = false := by simpa using r0
              have k1 : (r == 1) = false := by simpa using r1
              have k2 : (r == 2) = false := by simpa using r2
              clear r0 r1 r2
              have HRES := Lib.hid (show fireR p (j : Int) = (5, 0, []) from by rw [fireR_at HS.out.ok HJL.out, HZ.out, if_neg (by decide)])
              go_wp2_with fail
              refine (pfire_any An N cn p (j : Int) _ TN.out (by omega)).mono ?_
              rw [HRES.out]
              rintro e w5 ⟨A5, c5, rfl, o5, b5⟩
              dsimp only [List.length_nil]
              replace TN := Lib.hid (TN.out.below b5)
              replace WM := Lib.hid (WM.out.below b5)
              replace RM := Lib.hid (RM.out.below b5)
              replace OM := Lib.hid (OM.out.below b5)
              replace BW := Lib.hid (below3 BW.out b5)
              replace KV := Lib.hid (KV.out.below b5 KV.out.lt)
              clear q0 q1 q2 lq
              have q0 : _ = some (Value.int .i64 kd) := KV.out.cell 0
              have q1 : _ = some (Value.int .i64 fd) := KV.out.cell 1
              have q2 : _ = some (Value.int .i64 id) := KV.out.cell 2
              have lq := KV.out.lt
              clear o5 b5 HRES
              have hop : (Instr.lookup 45 (.map (some (b + 1 + 1))) (.int .i64 (j : Int)) false).run Try.prog w5 = .ok (.bool false) w5 := by
                have := OM.out.lookup FJ.out
                rw [bitF_at HJL.out, HZ.out] at this
                exact this
              have hrd : (Instr.lookup 45 (.map (some (b + 1))) (.int .i64 (j : Int)) false).run Try.prog w5 = .ok (.bool false) w5 := by
                have := RM.out.lookup FJ.out
                rw [bitF_at HJL.out, HZ.out] at this
                exact this
              have SX := Lib.hid (show StE p N (k + 1) ed go from ⟨HS.out.ok, HS.out.len, HS.out.few, by have := HS.out.few2; omega⟩)
              go_wp2_with fail
              refine (pcheck_any An N cn p _ TN.out).mono ?_
              rw [if_pos SX.out.ok]
              rintro e w9 ⟨rfl, b9⟩
              have TE := Lib.hid (TN.out.below b9)
              have WE := Lib.hid ((WM.out.below b9).mono (n' := k + 1) (by omega))
              have RE := Lib.hid ((RM.out.below b9).mono (n' := k + 1) (by omega))
              have OE := Lib.hid ((OM.out.below b9).mono (n' := k + 1) (by omega))
              have BE := Lib.hid (below3 BW.out b9)
              have SE := SX
              clear b9
              go_wp2_with fail
              go_roundw
              case rel => exact ⟨k + 1, An, cn, p, ed, go, by go_num, rfl, by go_num, by go_num, by omega, SE, TE, WE, RE, OE, BE⟩
              case measure => simp only [intOf]; omega
          | true =>
            cases r1 with
            | true =>
              have hz0 := hokd.2.1 rfl
              simp only at hz0
              subst hz0
              have hwbf : wb = false := by rw [← HWB.out]; rfl
              subst hwbf
              clear hokd
              by_cases r0 : r = 0
              · as_aux_lemma =>
                  have k0 : (r == 0) = true := by simpa using r0
                  clear r0
                  have HRES := Lib.hid (show openR p (j : Int) = (6, []) from by rw [openR_at HS.out.ok HJL.out, HZ.out, if_pos rfl])
                  go_wp2_with fail
                  refine (popen_any An N cn p (j : Int) _ TN.out (by omega)).mono ?_
                  rw [HRES.out]
                  rintro e w5 ⟨A5, c5, rfl, o5, b5⟩
                  dsimp only [List.length_nil]
                  replace TN := Lib.hid (TN.out.below b5)
                  replace WM := Lib.hid (WM.out.below b5)
                  replace RM := Lib.hid (RM.out.below b5)
                  replace OM := Lib.hid (OM.out.below b5)
                  replace BW := Lib.hid (below3 BW.out b5)
                  replace KV := Lib.hid (KV.out.below b5 KV.out.lt)
                  clear q0 q1 q2 lq
                  have q0 : _ = some (Value.int .i64 kd) := KV.out.cell 0
                  have q1 : _ = some (Value.int .i64 fd) := KV.out.cell 1
                  have q2 : _ = some (Value.int .i64 id) := KV.out.cell 2
                  have lq := KV.out.lt
                  clear o5 b5 HRES
                  have hop : (Instr.lookup 45 (.map (some (b + 1 + 1))) (.int .i64 (j : Int)) false).run Try.prog w5 = .ok (.bool true) w5 := by
                    have := OM.out.lookup FJ.out
                    rw [bitF_at HJL.out, HZ.out] at this
                    exact this
                  have hrd : (Instr.lookup 45 (.map (some (b + 1))) (.int .i64 (j : Int)) false).run Try.prog w5 = .ok (.bool true) w5 := by
                    have := RM.out.lookup FJ.out
                    rw [bitF_at HJL.out, HZ.out] at this
                    exact this
                  have SX := Lib.hid (show StE p N (k + 1) ed go from ⟨HS.out.ok, HS.out.len, HS.out.few, by have := HS.out.few2; omega⟩)
                  go_wp2_with fail
                  refine (pcheck_any An N cn p _ TN.out).mono ?_
                  rw [if_pos SX.out.ok]
                  rintro e w9 ⟨rfl, b9⟩
                  have TE := Lib.hid (TN.out.below b9)
                  have WE := Lib.hid ((WM.out.below b9).mono (n' := k + 1) (by omega))
                  have RE := Lib.hid ((RM.out.below b9).mono (n' := k + 1) (by omega))
                  have OE := Lib.hid ((OM.out.below b9).mono (n' := k + 1) (by omega))
                  have BE := Lib.hid (below3 BW.out b9)
                  have SE := SX
                  clear b9
                  go_wp2_with fail
                  go_roundw
                  case rel => exact ⟨k + 1, An, cn, p, ed, go, by go_num, rfl, by go_num, by go_num, by omega, SE, TE, WE, RE, OE, BE⟩
                  case measure => simp only [intOf]; omega
              by_cases r1 : r = 1
              · as_aux_lemma =>
                  have k0 : (r == 0) = false := by simpa using r0
                  have k1 : (r == 1) = true := by simpa using r1
                  clear r0 r1
                  obtain ⟨p5, hp5⟩ : ∃ q, p.set j nilD = q := ⟨_, rfl⟩
                  have HP5 := Lib.hid hp5
                  have HRES := Lib.hid (show shutR p (j : Int) = (0, -1, p5) from by rw [shutR_at HS.out.ok HJL.out, HZ.out, if_pos rfl, HW.out, hp5])
                  have HL5 := Lib.hid (show p5.length = N by rw [← hp5, List.length_set]; exact HS.out.len)
                  clear hp5
                  go_wp2_with fail
                  refine (pshut_any An N cn p (j : Int) _ TN.out (by omega)).mono ?_
                  rw [HRES.out]
                  rintro e w5 ⟨A5, c5, rfl, o5, b5⟩
                  have t5 := o5.dss
                  dsimp only at t5 ⊢
                  rw [HL5.out] at t5 ⊢
                  have TU := Lib.hid t5
                  clear t5
                  replace TN := Lib.hid (TN.out.below b5)
                  replace WM := Lib.hid (WM.out.below b5)
                  replace RM := Lib.hid (RM.out.below b5)
                  replace OM := Lib.hid (OM.out.below b5)
                  replace BW := Lib.hid (below3 BW.out b5)
                  replace KV := Lib.hid (KV.out.below b5 KV.out.lt)
                  clear q0 q1 q2 lq
                  have q0 : _ = some (Value.int .i64 kd) := KV.out.cell 0
                  have q1 : _ = some (Value.int .i64 fd) := KV.out.cell 1
                  have q2 : _ = some (Value.int .i64 id) := KV.out.cell 2
                  have lq := KV.out.lt
                  clear o5 b5 HRES
                  have hop : (Instr.lookup 45 (.map (some (b + 1 + 1))) (.int .i64 (j : Int)) false).run Try.prog w5 = .ok (.bool true) w5 := by
                    have := OM.out.lookup FJ.out
                    rw [bitF_at HJL.out, HZ.out] at this
                    exact this
                  have hrd : (Instr.lookup 45 (.map (some (b + 1))) (.int .i64 (j : Int)) false).run Try.prog w5 = .ok (.bool true) w5 := by
                    have := RM.out.lookup FJ.out
                    rw [bitF_at HJL.out, HZ.out] at this
                    exact this
                  have HNW : ¬ 0 ≤ (nilD : Ds).2.2 := by decide
                  obtain ⟨U1, hrun1, m1, g1⟩ := OM.out.del FJ.out 0
                  replace TU := Lib.hid (Dss.pastF OM.out TU.out g1)
                  replace BW := Lib.hid (BW.out.grown g1 BW.out.size (by intro k hk; injection hk with hk; omega))
                  replace RM := Lib.hid (RM.out.grown g1 (by intro q; injection q with q; omega))
                  replace WM := Lib.hid (WM.out.grown g1 (by intro q; injection q with q; omega))
                  have O5 := Lib.hid (HP5.out ▸ m1.same (bitF_set (g := opB) HJL.out nilD))
                  clear m1 g1
                  obtain ⟨U2, hrun2, m2, g2⟩ := WM.out.del HJL.out FJ.out (d := nilD) (by decide) 0
                  replace TU := Lib.hid (Dss.pastW WM.out TU.out g2)
                  replace BW := Lib.hid (BW.out.grown g2 BW.out.size (by intro k hk; injection hk with hk; omega))
                  replace O5 := Lib.hid (O5.out.grown g2 (by intro q; injection q with q; omega))
                  replace RM := Lib.hid (RM.out.grown g2 (by intro q; injection q with q; omega))
                  have W5 := Lib.hid (HP5.out ▸ m2)
                  clear m2 g2
                  obtain ⟨U3, hrun3, m3, g3⟩ := RM.out.del FJ.out 0
                  replace TU := Lib.hid (Dss.pastF RM.out TU.out g3)
                  replace BW := Lib.hid (BW.out.grown g3 BW.out.size (by intro k hk; injection hk with hk; omega))
                  replace O5 := Lib.hid (O5.out.grown g3 (by intro q; injection q with q; omega))
                  replace W5 := Lib.hid (W5.out.grown g3 (by intro q; injection q with q; omega))
                  have R5 := Lib.hid (HP5.out ▸ m3.same (bitF_set (g := rdB) HJL.out nilD))
                  clear m3 g3
                  have SX := Lib.hid (show StE p5 N (k + 1) (ed) (go) from by
                    have h1 := rdyN_set HJL.out nilD
                    rw [HZ.out, HP5.out] at h1
                    simp [rdB] at h1
                    exact ⟨HP5.out ▸ pollOk_low HS.out.ok _ okD_nil rfl, HL5.out, by have := HS.out.few; omega, by have := HS.out.few2; omega⟩)
                  go_wp2_with fail
                  refine (pcheck_any A5 N c5 p5 _ TU.out).mono ?_
                  rw [if_pos SX.out.ok]
                  rintro e w9 ⟨rfl, b9⟩
                  have TE := Lib.hid (TU.out.below b9)
                  have WE := Lib.hid ((W5.out.below b9).mono (n' := k + 1) (by omega))
                  have RE := Lib.hid ((R5.out.below b9).mono (n' := k + 1) (by omega))
                  have OE := Lib.hid ((O5.out.below b9).mono (n' := k + 1) (by omega))
                  have BE := Lib.hid (below3 BW.out b9)
                  have SE := SX
                  clear b9
                  go_wp2_with fail
                  go_roundw
                  case rel => exact ⟨k + 1, A5, c5, p5, ed, go, by go_num, rfl, by go_num, by go_num, by omega, SE, TE, WE, RE, OE, BE⟩
                  case measure => simp only [intOf]; omega
              by_cases r2 : r = 2
              · as_aux_lemma =>
                  have k0 : (r == 0) = false := by simpa using r0
                  have k1 : (r == 1) = false := by simpa using r1
                  have k2 : (r == 2) = true := by simpa using r2
                  clear r0 r1 r2
                  by_cases h0id : 0 ≤ id
                  · have tid : decide (0 ≤ id) = true := decide_eq_true h0id
                    by_cases hnw : waitsD p id
                    · have hbb : bb = true := by rw [HBD.out]; exact decide_eq_true ⟨h0id, hnw⟩
                      subst hbb
                      have HRES := Lib.hid (show armR p (j : Int) id = (6, false, []) from by rw [armR_at HS.out.ok HJL.out h0id, HZ.out, if_pos rfl, if_pos hnw])
                      go_wp2_with fail
                      refine (parm_any An N cn p (j : Int) id _ TN.out (by omega) FID.out).mono ?_
                      rw [HRES.out]
                      rintro e w5 ⟨A5, c5, rfl, o5, b5⟩
                      dsimp only [List.length_nil]
                      replace TN := Lib.hid (TN.out.below b5)
                      replace WM := Lib.hid (WM.out.below b5)
                      replace RM := Lib.hid (RM.out.below b5)
                      replace OM := Lib.hid (OM.out.below b5)
                      replace BW := Lib.hid (below3 BW.out b5)
                      replace KV := Lib.hid (KV.out.below b5 KV.out.lt)
                      clear q0 q1 q2 lq
                      have q0 : _ = some (Value.int .i64 kd) := KV.out.cell 0
                      have q1 : _ = some (Value.int .i64 fd) := KV.out.cell 1
                      have q2 : _ = some (Value.int .i64 id) := KV.out.cell 2
                      have lq := KV.out.lt
                      clear o5 b5 HRES
                      have hop : (Instr.lookup 45 (.map (some (b + 1 + 1))) (.int .i64 (j : Int)) false).run Try.prog w5 = .ok (.bool true) w5 := by
                        have := OM.out.lookup FJ.out
                        rw [bitF_at HJL.out, HZ.out] at this
                        exact this
                      have hrd : (Instr.lookup 45 (.map (some (b + 1))) (.int .i64 (j : Int)) false).run Try.prog w5 = .ok (.bool true) w5 := by
                        have := RM.out.lookup FJ.out
                        rw [bitF_at HJL.out, HZ.out] at this
                        exact this
                      have SX := Lib.hid (show StE p N (k + 1) ed go from ⟨HS.out.ok, HS.out.len, HS.out.few, by have := HS.out.few2; omega⟩)
                      go_wp2_with fail
                      refine (pcheck_any An N cn p _ TN.out).mono ?_
                      rw [if_pos SX.out.ok]
                      rintro e w9 ⟨rfl, b9⟩
                      have TE := Lib.hid (TN.out.below b9)
                      have WE := Lib.hid ((WM.out.below b9).mono (n' := k + 1) (by omega))
                      have RE := Lib.hid ((RM.out.below b9).mono (n' := k + 1) (by omega))
                      have OE := Lib.hid ((OM.out.below b9).mono (n' := k + 1) (by omega))
                      have BE := Lib.hid (below3 BW.out b9)
                      have SE := SX
                      clear b9
                      go_wp2_with fail
                      go_roundw
                      case rel => exact ⟨k + 1, An, cn, p, ed, go, by go_num, rfl, by go_num, by go_num, by omega, SE, TE, WE, RE, OE, BE⟩
                      case measure => simp only [intOf]; omega
                    · have hbb : bb = false := by rw [HBD.out]; exact decide_eq_false (fun q => hnw q.2)
                      subst hbb
                      obtain ⟨p5, hp5⟩ : ∃ q, p.set j quiD = q := ⟨_, rfl⟩
                      have HP5 := Lib.hid hp5
                      have HRES := Lib.hid (show armR p (j : Int) id = (0, true, p5) from by rw [armR_at HS.out.ok HJL.out h0id, HZ.out, if_pos rfl, if_neg hnw, HW.out, if_neg (by decide), if_pos rfl, hp5])
                      have HL5 := Lib.hid (show p5.length = N by rw [← hp5, List.length_set]; exact HS.out.len)
                      clear hp5
                      go_wp2_with fail
                      refine (parm_any An N cn p (j : Int) id _ TN.out (by omega) FID.out).mono ?_
                      rw [HRES.out]
                      rintro e w5 ⟨A5, c5, rfl, o5, b5⟩
                      have t5 := o5.dss
                      dsimp only at t5 ⊢
                      rw [HL5.out] at t5 ⊢
                      have TU := Lib.hid t5
                      clear t5
                      replace TN := Lib.hid (TN.out.below b5)
                      replace WM := Lib.hid (WM.out.below b5)
                      replace RM := Lib.hid (RM.out.below b5)
                      replace OM := Lib.hid (OM.out.below b5)
                      replace BW := Lib.hid (below3 BW.out b5)
                      replace KV := Lib.hid (KV.out.below b5 KV.out.lt)
                      clear q0 q1 q2 lq
                      have q0 : _ = some (Value.int .i64 kd) := KV.out.cell 0
                      have q1 : _ = some (Value.int .i64 fd) := KV.out.cell 1
                      have q2 : _ = some (Value.int .i64 id) := KV.out.cell 2
                      have lq := KV.out.lt
                      clear o5 b5 HRES
                      have hop : (Instr.lookup 45 (.map (some (b + 1 + 1))) (.int .i64 (j : Int)) false).run Try.prog w5 = .ok (.bool true) w5 := by
                        have := OM.out.lookup FJ.out
                        rw [bitF_at HJL.out, HZ.out] at this
                        exact this
                      have hrd : (Instr.lookup 45 (.map (some (b + 1))) (.int .i64 (j : Int)) false).run Try.prog w5 = .ok (.bool true) w5 := by
                        have := RM.out.lookup FJ.out
                        rw [bitF_at HJL.out, HZ.out] at this
                        exact this
                      have HNW : ¬ 0 ≤ (quiD : Ds).2.2 := by decide
                      obtain ⟨U1, hrun1, m1, g1⟩ := RM.out.del FJ.out 0
                      replace TU := Lib.hid (Dss.pastF RM.out TU.out g1)
                      replace BW := Lib.hid (BW.out.grown g1 BW.out.size (by intro k hk; injection hk with hk; omega))
                      replace OM := Lib.hid (OM.out.grown g1 (by intro q; injection q with q; omega))
                      replace WM := Lib.hid (WM.out.grown g1 (by intro q; injection q with q; omega))
                      have R5 := Lib.hid (HP5.out ▸ m1.same (bitF_set (g := rdB) HJL.out quiD))
                      clear m1 g1
                      have W5 := Lib.hid (HP5.out ▸ WM.out.keep HJL.out (d := quiD) (by rw [HW.out]; decide) (by decide))
                      have O5 := Lib.hid (HP5.out ▸ OM.out.same (bitF_keep (g := opB) HJL.out (d := quiD) (by rw [HZ.out]; try rfl)))
                      have SX := Lib.hid (show StE p5 N (k + 1) (ed) (go + 1) from by
                        have h1 := rdyN_set HJL.out quiD
                        rw [HZ.out, HP5.out] at h1
                        simp [rdB] at h1
                        exact ⟨HP5.out ▸ pollOk_low HS.out.ok _ okD_qui rfl, HL5.out, by have := HS.out.few; omega, by have := HS.out.few2; omega⟩)
                      have hge : go + 1 ≤ ed := by have := SX.out.few; omega
                      go_wp2_with fail
                      refine (pcheck_any A5 N c5 p5 _ TU.out).mono ?_
                      rw [if_pos SX.out.ok]
                      rintro e w9 ⟨rfl, b9⟩
                      have TE := Lib.hid (TU.out.below b9)
                      have WE := Lib.hid ((W5.out.below b9).mono (n' := k + 1) (by omega))
                      have RE := Lib.hid ((R5.out.below b9).mono (n' := k + 1) (by omega))
                      have OE := Lib.hid ((O5.out.below b9).mono (n' := k + 1) (by omega))
                      have BE := Lib.hid (below3 BW.out b9)
                      have SE := SX
                      clear b9
                      go_wp2_with fail
                      go_roundw
                      case rel => exact ⟨k + 1, A5, c5, p5, ed, go + 1, by go_num, rfl, by go_num, by go_num, by omega, SE, TE, WE, RE, OE, BE⟩
                      case measure => simp only [intOf]; omega
                  · have tid : decide (0 ≤ id) = false := decide_eq_false h0id
                    have HRES := Lib.hid (show armR p (j : Int) id = (1, false, []) from by unfold armR; rw [if_neg (fun q => h0id q.2)])
                    go_wp2_with fail
                    refine (parm_any An N cn p (j : Int) id _ TN.out (by omega) FID.out).mono ?_
                    rw [HRES.out]
                    rintro e w5 ⟨A5, c5, rfl, o5, b5⟩
                    dsimp only [List.length_nil]
                    replace TN := Lib.hid (TN.out.below b5)
                    replace WM := Lib.hid (WM.out.below b5)
                    replace RM := Lib.hid (RM.out.below b5)
                    replace OM := Lib.hid (OM.out.below b5)
                    replace BW := Lib.hid (below3 BW.out b5)
                    replace KV := Lib.hid (KV.out.below b5 KV.out.lt)
                    clear q0 q1 q2 lq
                    have q0 : _ = some (Value.int .i64 kd) := KV.out.cell 0
                    have q1 : _ = some (Value.int .i64 fd) := KV.out.cell 1
                    have q2 : _ = some (Value.int .i64 id) := KV.out.cell 2
                    have lq := KV.out.lt
                    clear o5 b5 HRES
                    have hop : (Instr.lookup 45 (.map (some (b + 1 + 1))) (.int .i64 (j : Int)) false).run Try.prog w5 = .ok (.bool true) w5 := by
                      have := OM.out.lookup FJ.out
                      rw [bitF_at HJL.out, HZ.out] at this
                      exact this
                    have hrd : (Instr.lookup 45 (.map (some (b + 1))) (.int .i64 (j : Int)) false).run Try.prog w5 = .ok (.bool true) w5 := by
                      have := RM.out.lookup FJ.out
                      rw [bitF_at HJL.out, HZ.out] at this
                      exact this
                    have SX := Lib.hid (show StE p N (k + 1) ed go from ⟨HS.out.ok, HS.out.len, HS.out.few, by have := HS.out.few2; omega⟩)
                    go_wp2_with fail
                    refine (pcheck_any An N cn p _ TN.out).mono ?_
                    rw [if_pos SX.out.ok]
                    rintro e w9 ⟨rfl, b9⟩
                    have TE := Lib.hid (TN.out.below b9)
                    have WE := Lib.hid ((WM.out.below b9).mono (n' := k + 1) (by omega))
                    have RE := Lib.hid ((RM.out.below b9).mono (n' := k + 1) (by omega))
                    have OE := Lib.hid ((OM.out.below b9).mono (n' := k + 1) (by omega))
                    have BE := Lib.hid (below3 BW.out b9)
                    have SE := SX
                    clear b9
                    go_wp2_with fail
                    go_roundw
                    case rel => exact ⟨k + 1, An, cn, p, ed, go, by go_num, rfl, by go_num, by go_num, by omega, SE, TE, WE, RE, OE, BE⟩
                    case measure => simp only [intOf]; omega
              as_aux_lemma =>
                have k0 : (r == 0) = false := by simpa using r0
                have k1 : (r == 1) = false := by simpa using r1
                have k2 : (r == 2) = false := by simpa using r2
                clear r0 r1 r2
                obtain ⟨p5, hp5⟩ : ∃ q, p.set j rdyD = q := ⟨_, rfl⟩
                have HP5 := Lib.hid hp5
                have HRES := Lib.hid (show fireR p (j : Int) = (0, -1, p5) from by rw [fireR_at HS.out.ok HJL.out, HZ.out, if_pos rfl, HW.out, if_neg (by decide), hp5])
                have HL5 := Lib.hid (show p5.length = N by rw [← hp5, List.length_set]; exact HS.out.len)
                clear hp5
                go_wp2_with fail
                refine (pfire_any An N cn p (j : Int) _ TN.out (by omega)).mono ?_
                rw [HRES.out]
                rintro e w5 ⟨A5, c5, rfl, o5, b5⟩
                have t5 := o5.dss
                dsimp only at t5 ⊢
                rw [HL5.out] at t5 ⊢
                have TU := Lib.hid t5
                clear t5
                replace TN := Lib.hid (TN.out.below b5)
                replace WM := Lib.hid (WM.out.below b5)
                replace RM := Lib.hid (RM.out.below b5)
                replace OM := Lib.hid (OM.out.below b5)
                replace BW := Lib.hid (below3 BW.out b5)
                replace KV := Lib.hid (KV.out.below b5 KV.out.lt)
                clear q0 q1 q2 lq
                have q0 : _ = some (Value.int .i64 kd) := KV.out.cell 0
                have q1 : _ = some (Value.int .i64 fd) := KV.out.cell 1
                have q2 : _ = some (Value.int .i64 id) := KV.out.cell 2
                have lq := KV.out.lt
                clear o5 b5 HRES
                have hop : (Instr.lookup 45 (.map (some (b + 1 + 1))) (.int .i64 (j : Int)) false).run Try.prog w5 = .ok (.bool true) w5 := by
                  have := OM.out.lookup FJ.out
                  rw [bitF_at HJL.out, HZ.out] at this
                  exact this
                have hrd : (Instr.lookup 45 (.map (some (b + 1))) (.int .i64 (j : Int)) false).run Try.prog w5 = .ok (.bool true) w5 := by
                  have := RM.out.lookup FJ.out
                  rw [bitF_at HJL.out, HZ.out] at this
                  exact this
                have HNW : ¬ 0 ≤ (rdyD : Ds).2.2 := by decide
                obtain ⟨U1, hrun1, m1, g1⟩ := RM.out.update FJ.out true (by omega)
                replace TU := Lib.hid (Dss.pastF RM.out TU.out g1)
                replace BW := Lib.hid (BW.out.grown g1 BW.out.size (by intro k hk; injection hk with hk; omega))
                replace OM := Lib.hid (OM.out.grown g1 (by intro q; injection q with q; omega))
                replace WM := Lib.hid (WM.out.grown g1 (by intro q; injection q with q; omega))
                have R5 := Lib.hid (HP5.out ▸ m1.same (bitF_set (g := rdB) HJL.out rdyD))
                clear m1 g1
                have W5 := Lib.hid (HP5.out ▸ WM.out.keep HJL.out (d := rdyD) (by rw [HW.out]; decide) (by decide))
                have O5 := Lib.hid (HP5.out ▸ OM.out.same (bitF_keep (g := opB) HJL.out (d := rdyD) (by rw [HZ.out]; try rfl)))
                have SX := Lib.hid (show StE p5 N (k + 1) (ed + 1) (go) from by
                  have h1 := rdyN_set HJL.out rdyD
                  rw [HZ.out, HP5.out] at h1
                  simp [rdB] at h1
                  exact ⟨HP5.out ▸ pollOk_low HS.out.ok _ okD_rdy rfl, HL5.out, by have := HS.out.few; omega, by have := HS.out.few2; omega⟩)
                go_wp2_with fail
                refine (pcheck_any A5 N c5 p5 _ TU.out).mono ?_
                rw [if_pos SX.out.ok]
                rintro e w9 ⟨rfl, b9⟩
                have TE := Lib.hid (TU.out.below b9)
                have WE := Lib.hid ((W5.out.below b9).mono (n' := k + 1) (by omega))
                have RE := Lib.hid ((R5.out.below b9).mono (n' := k + 1) (by omega))
                have OE := Lib.hid ((O5.out.below b9).mono (n' := k + 1) (by omega))
                have BE := Lib.hid (below3 BW.out b9)
                have SE := SX
                clear b9
                go_wp2_with fail
                go_roundw
                case rel => exact ⟨k + 1, A5, c5, p5, ed + 1, go, by go_num, rfl, by go_num, by go_num, by omega, SE, TE, WE, RE, OE, BE⟩
                case measure => simp only [intOf]; omega
            | false =>
              by_cases hz0 : 0 ≤ z1
              · have hwbf : wb = true := by rw [← HWB.out]; exact decide_eq_true hz0
                subst hwbf
                have hvz := (HVV.out hz0).symm
                subst hvz
                clear hokd
                by_cases r0 : r = 0
                · as_aux_lemma =>
                    have k0 : (r == 0) = true := by simpa using r0
                    clear r0
                    have HRES := Lib.hid (show openR p (j : Int) = (6, []) from by rw [openR_at HS.out.ok HJL.out, HZ.out, if_pos rfl])
                    go_wp2_with fail
                    refine (popen_any An N cn p (j : Int) _ TN.out (by omega)).mono ?_
                    rw [HRES.out]
                    rintro e w5 ⟨A5, c5, rfl, o5, b5⟩
                    dsimp only [List.length_nil]
                    replace TN := Lib.hid (TN.out.below b5)
                    replace WM := Lib.hid (WM.out.below b5)
                    replace RM := Lib.hid (RM.out.below b5)
                    replace OM := Lib.hid (OM.out.below b5)
                    replace BW := Lib.hid (below3 BW.out b5)
                    replace KV := Lib.hid (KV.out.below b5 KV.out.lt)
                    clear q0 q1 q2 lq
                    have q0 : _ = some (Value.int .i64 kd) := KV.out.cell 0
                    have q1 : _ = some (Value.int .i64 fd) := KV.out.cell 1
                    have q2 : _ = some (Value.int .i64 id) := KV.out.cell 2
                    have lq := KV.out.lt
                    clear o5 b5 HRES
                    have hop : (Instr.lookup 45 (.map (some (b + 1 + 1))) (.int .i64 (j : Int)) false).run Try.prog w5 = .ok (.bool true) w5 := by
                      have := OM.out.lookup FJ.out
                      rw [bitF_at HJL.out, HZ.out] at this
                      exact this
                    have hrd : (Instr.lookup 45 (.map (some (b + 1))) (.int .i64 (j : Int)) false).run Try.prog w5 = .ok (.bool false) w5 := by
                      have := RM.out.lookup FJ.out
                      rw [bitF_at HJL.out, HZ.out] at this
                      exact this
                    have SX := Lib.hid (show StE p N (k + 1) ed go from ⟨HS.out.ok, HS.out.len, HS.out.few, by have := HS.out.few2; omega⟩)
                    go_wp2_with fail
                    refine (pcheck_any An N cn p _ TN.out).mono ?_
                    rw [if_pos SX.out.ok]
                    rintro e w9 ⟨rfl, b9⟩
                    have TE := Lib.hid (TN.out.below b9)
                    have WE := Lib.hid ((WM.out.below b9).mono (n' := k + 1) (by omega))
                    have RE := Lib.hid ((RM.out.below b9).mono (n' := k + 1) (by omega))
                    have OE := Lib.hid ((OM.out.below b9).mono (n' := k + 1) (by omega))
                    have BE := Lib.hid (below3 BW.out b9)
                    have SE := SX
                    clear b9
                    go_wp2_with fail
                    go_roundw
                    case rel => exact ⟨k + 1, An, cn, p, ed, go, by go_num, rfl, by go_num, by go_num, by omega, SE, TE, WE, RE, OE, BE⟩
                    case measure => simp only [intOf]; omega
                by_cases r1 : r = 1
                · as_aux_lemma =>
                    have k0 : (r == 0) = false := by simpa using r0
                    have k1 : (r == 1) = true := by simpa using r1
                    clear r0 r1
                    obtain ⟨p5, hp5⟩ : ∃ q, p.set j nilD = q := ⟨_, rfl⟩
                    have HP5 := Lib.hid hp5
                    have HRES := Lib.hid (show shutR p (j : Int) = (0, z1, p5) from by rw [shutR_at HS.out.ok HJL.out, HZ.out, if_pos rfl, HW.out, hp5])
                    have HL5 := Lib.hid (show p5.length = N by rw [← hp5, List.length_set]; exact HS.out.len)
                    clear hp5
                    go_wp2_with fail
                    refine (pshut_any An N cn p (j : Int) _ TN.out (by omega)).mono ?_
                    rw [HRES.out]
                    rintro e w5 ⟨A5, c5, rfl, o5, b5⟩
                    have t5 := o5.dss
                    dsimp only at t5 ⊢
                    rw [HL5.out] at t5 ⊢
                    have TU := Lib.hid t5
                    clear t5
                    replace TN := Lib.hid (TN.out.below b5)
                    replace WM := Lib.hid (WM.out.below b5)
                    replace RM := Lib.hid (RM.out.below b5)
                    replace OM := Lib.hid (OM.out.below b5)
                    replace BW := Lib.hid (below3 BW.out b5)
                    replace KV := Lib.hid (KV.out.below b5 KV.out.lt)
                    clear q0 q1 q2 lq
                    have q0 : _ = some (Value.int .i64 kd) := KV.out.cell 0
                    have q1 : _ = some (Value.int .i64 fd) := KV.out.cell 1
                    have q2 : _ = some (Value.int .i64 id) := KV.out.cell 2
                    have lq := KV.out.lt
                    clear o5 b5 HRES
                    have hop : (Instr.lookup 45 (.map (some (b + 1 + 1))) (.int .i64 (j : Int)) false).run Try.prog w5 = .ok (.bool true) w5 := by
                      have := OM.out.lookup FJ.out
                      rw [bitF_at HJL.out, HZ.out] at this
                      exact this
                    have hrd : (Instr.lookup 45 (.map (some (b + 1))) (.int .i64 (j : Int)) false).run Try.prog w5 = .ok (.bool false) w5 := by
                      have := RM.out.lookup FJ.out
                      rw [bitF_at HJL.out, HZ.out] at this
                      exact this
                    have tz1 : (z1 != -1) = true := by simp; omega
                    have tz2 : (z1 != z1) = false := by simp
                    have HNW : ¬ 0 ≤ (nilD : Ds).2.2 := by decide
                    obtain ⟨U1, hrun1, m1, g1⟩ := OM.out.del FJ.out 0
                    replace TU := Lib.hid (Dss.pastF OM.out TU.out g1)
                    replace BW := Lib.hid (BW.out.grown g1 BW.out.size (by intro k hk; injection hk with hk; omega))
                    replace RM := Lib.hid (RM.out.grown g1 (by intro q; injection q with q; omega))
                    replace WM := Lib.hid (WM.out.grown g1 (by intro q; injection q with q; omega))
                    have O5 := Lib.hid (HP5.out ▸ m1.same (bitF_set (g := opB) HJL.out nilD))
                    clear m1 g1
                    obtain ⟨U2, hrun2, m2, g2⟩ := WM.out.del HJL.out FJ.out (d := nilD) (by decide) 0
                    replace TU := Lib.hid (Dss.pastW WM.out TU.out g2)
                    replace BW := Lib.hid (BW.out.grown g2 BW.out.size (by intro k hk; injection hk with hk; omega))
                    replace O5 := Lib.hid (O5.out.grown g2 (by intro q; injection q with q; omega))
                    replace RM := Lib.hid (RM.out.grown g2 (by intro q; injection q with q; omega))
                    have W5 := Lib.hid (HP5.out ▸ m2)
                    clear m2 g2
                    obtain ⟨U3, hrun3, m3, g3⟩ := RM.out.del FJ.out 0
                    replace TU := Lib.hid (Dss.pastF RM.out TU.out g3)
                    replace BW := Lib.hid (BW.out.grown g3 BW.out.size (by intro k hk; injection hk with hk; omega))
                    replace O5 := Lib.hid (O5.out.grown g3 (by intro q; injection q with q; omega))
                    replace W5 := Lib.hid (W5.out.grown g3 (by intro q; injection q with q; omega))
                    have R5 := Lib.hid (HP5.out ▸ m3.same (bitF_set (g := rdB) HJL.out nilD))
                    clear m3 g3
                    have SX := Lib.hid (show StE p5 N (k + 1) (ed) (go) from by
                      have h1 := rdyN_set HJL.out nilD
                      rw [HZ.out, HP5.out] at h1
                      simp [rdB] at h1
                      exact ⟨HP5.out ▸ pollOk_low HS.out.ok _ okD_nil rfl, HL5.out, by have := HS.out.few; omega, by have := HS.out.few2; omega⟩)
                    go_wp2_with fail
                    refine (pcheck_any A5 N c5 p5 _ TU.out).mono ?_
                    rw [if_pos SX.out.ok]
                    rintro e w9 ⟨rfl, b9⟩
                    have TE := Lib.hid (TU.out.below b9)
                    have WE := Lib.hid ((W5.out.below b9).mono (n' := k + 1) (by omega))
                    have RE := Lib.hid ((R5.out.below b9).mono (n' := k + 1) (by omega))
                    have OE := Lib.hid ((O5.out.below b9).mono (n' := k + 1) (by omega))
                    have BE := Lib.hid (below3 BW.out b9)
                    have SE := SX
                    clear b9
                    go_wp2_with fail
                    go_roundw
                    case rel => exact ⟨k + 1, A5, c5, p5, ed, go, by go_num, rfl, by go_num, by go_num, by omega, SE, TE, WE, RE, OE, BE⟩
                    case measure => simp only [intOf]; omega
                by_cases r2 : r = 2
                · as_aux_lemma =>
                    have k0 : (r == 0) = false := by simpa using r0
                    have k1 : (r == 1) = false := by simpa using r1
                    have k2 : (r == 2) = true := by simpa using r2
                    clear r0 r1 r2
                    by_cases h0id : 0 ≤ id
                    · have tid : decide (0 ≤ id) = true := decide_eq_true h0id
                      by_cases hnw : waitsD p id
                      · have hbb : bb = true := by rw [HBD.out]; exact decide_eq_true ⟨h0id, hnw⟩
                        subst hbb
                        have HRES := Lib.hid (show armR p (j : Int) id = (6, false, []) from by rw [armR_at HS.out.ok HJL.out h0id, HZ.out, if_pos rfl, if_pos hnw])
                        go_wp2_with fail
                        refine (parm_any An N cn p (j : Int) id _ TN.out (by omega) FID.out).mono ?_
                        rw [HRES.out]
                        rintro e w5 ⟨A5, c5, rfl, o5, b5⟩
                        dsimp only [List.length_nil]
                        replace TN := Lib.hid (TN.out.below b5)
                        replace WM := Lib.hid (WM.out.below b5)
                        replace RM := Lib.hid (RM.out.below b5)
                        replace OM := Lib.hid (OM.out.below b5)
                        replace BW := Lib.hid (below3 BW.out b5)
                        replace KV := Lib.hid (KV.out.below b5 KV.out.lt)
                        clear q0 q1 q2 lq
                        have q0 : _ = some (Value.int .i64 kd) := KV.out.cell 0
                        have q1 : _ = some (Value.int .i64 fd) := KV.out.cell 1
                        have q2 : _ = some (Value.int .i64 id) := KV.out.cell 2
                        have lq := KV.out.lt
                        clear o5 b5 HRES
                        have hop : (Instr.lookup 45 (.map (some (b + 1 + 1))) (.int .i64 (j : Int)) false).run Try.prog w5 = .ok (.bool true) w5 := by
                          have := OM.out.lookup FJ.out
                          rw [bitF_at HJL.out, HZ.out] at this
                          exact this
                        have hrd : (Instr.lookup 45 (.map (some (b + 1))) (.int .i64 (j : Int)) false).run Try.prog w5 = .ok (.bool false) w5 := by
                          have := RM.out.lookup FJ.out
                          rw [bitF_at HJL.out, HZ.out] at this
                          exact this
                        have SX := Lib.hid (show StE p N (k + 1) ed go from ⟨HS.out.ok, HS.out.len, HS.out.few, by have := HS.out.few2; omega⟩)
                        go_wp2_with fail
                        refine (pcheck_any An N cn p _ TN.out).mono ?_
                        rw [if_pos SX.out.ok]
                        rintro e w9 ⟨rfl, b9⟩
                        have TE := Lib.hid (TN.out.below b9)
                        have WE := Lib.hid ((WM.out.below b9).mono (n' := k + 1) (by omega))
                        have RE := Lib.hid ((RM.out.below b9).mono (n' := k + 1) (by omega))
                        have OE := Lib.hid ((OM.out.below b9).mono (n' := k + 1) (by omega))
                        have BE := Lib.hid (below3 BW.out b9)
                        have SE := SX
                        clear b9
                        go_wp2_with fail
                        go_roundw
                        case rel => exact ⟨k + 1, An, cn, p, ed, go, by go_num, rfl, by go_num, by go_num, by omega, SE, TE, WE, RE, OE, BE⟩
                        case measure => simp only [intOf]; omega
                      · have hbb : bb = false := by rw [HBD.out]; exact decide_eq_false (fun q => hnw q.2)
                        subst hbb
                        have HRES := Lib.hid (show armR p (j : Int) id = (7, false, []) from by rw [armR_at HS.out.ok HJL.out h0id, HZ.out, if_pos rfl, if_neg hnw, HW.out, if_pos hz0])
                        go_wp2_with fail
                        refine (parm_any An N cn p (j : Int) id _ TN.out (by omega) FID.out).mono ?_
                        rw [HRES.out]
                        rintro e w5 ⟨A5, c5, rfl, o5, b5⟩
                        dsimp only [List.length_nil]
                        replace TN := Lib.hid (TN.out.below b5)
                        replace WM := Lib.hid (WM.out.below b5)
                        replace RM := Lib.hid (RM.out.below b5)
                        replace OM := Lib.hid (OM.out.below b5)
                        replace BW := Lib.hid (below3 BW.out b5)
                        replace KV := Lib.hid (KV.out.below b5 KV.out.lt)
                        clear q0 q1 q2 lq
                        have q0 : _ = some (Value.int .i64 kd) := KV.out.cell 0
                        have q1 : _ = some (Value.int .i64 fd) := KV.out.cell 1
                        have q2 : _ = some (Value.int .i64 id) := KV.out.cell 2
                        have lq := KV.out.lt
                        clear o5 b5 HRES
                        have hop : (Instr.lookup 45 (.map (some (b + 1 + 1))) (.int .i64 (j : Int)) false).run Try.prog w5 = .ok (.bool true) w5 := by
                          have := OM.out.lookup FJ.out
                          rw [bitF_at HJL.out, HZ.out] at this
                          exact this
                        have hrd : (Instr.lookup 45 (.map (some (b + 1))) (.int .i64 (j : Int)) false).run Try.prog w5 = .ok (.bool false) w5 := by
                          have := RM.out.lookup FJ.out
                          rw [bitF_at HJL.out, HZ.out] at this
                          exact this
                        have SX := Lib.hid (show StE p N (k + 1) ed go from ⟨HS.out.ok, HS.out.len, HS.out.few, by have := HS.out.few2; omega⟩)
                        go_wp2_with fail
                        refine (pcheck_any An N cn p _ TN.out).mono ?_
                        rw [if_pos SX.out.ok]
                        rintro e w9 ⟨rfl, b9⟩
                        have TE := Lib.hid (TN.out.below b9)
                        have WE := Lib.hid ((WM.out.below b9).mono (n' := k + 1) (by omega))
                        have RE := Lib.hid ((RM.out.below b9).mono (n' := k + 1) (by omega))
                        have OE := Lib.hid ((OM.out.below b9).mono (n' := k + 1) (by omega))
                        have BE := Lib.hid (below3 BW.out b9)
                        have SE := SX
                        clear b9
                        go_wp2_with fail
                        go_roundw
                        case rel => exact ⟨k + 1, An, cn, p, ed, go, by go_num, rfl, by go_num, by go_num, by omega, SE, TE, WE, RE, OE, BE⟩
                        case measure => simp only [intOf]; omega
                    · have tid : decide (0 ≤ id) = false := decide_eq_false h0id
                      have HRES := Lib.hid (show armR p (j : Int) id = (1, false, []) from by unfold armR; rw [if_neg (fun q => h0id q.2)])
                      go_wp2_with fail
                      refine (parm_any An N cn p (j : Int) id _ TN.out (by omega) FID.out).mono ?_
                      rw [HRES.out]
                      rintro e w5 ⟨A5, c5, rfl, o5, b5⟩
                      dsimp only [List.length_nil]
                      replace TN := Lib.hid (TN.out.below b5)
                      replace WM := Lib.hid (WM.out.below b5)
                      replace RM := Lib.hid (RM.out.below b5)
                      replace OM := Lib.hid (OM.out.below b5)
                      replace BW := Lib.hid (below3 BW.out b5)
                      replace KV := Lib.hid (KV.out.below b5 KV.out.lt)
                      clear q0 q1 q2 lq
                      have q0 : _ = some (Value.int .i64 kd) := KV.out.cell 0
                      have q1 : _ = some (Value.int .i64 fd) := KV.out.cell 1
                      have q2 : _ = some (Value.int .i64 id) := KV.out.cell 2
                      have lq := KV.out.lt
                      clear o5 b5 HRES
                      have hop : (Instr.lookup 45 (.map (some (b + 1 + 1))) (.int .i64 (j : Int)) false).run Try.prog w5 = .ok (.bool true) w5 := by
                        have := OM.out.lookup FJ.out
                        rw [bitF_at HJL.out, HZ.out] at this
                        exact this
                      have hrd : (Instr.lookup 45 (.map (some (b + 1))) (.int .i64 (j : Int)) false).run Try.prog w5 = .ok (.bool false) w5 := by
                        have := RM.out.lookup FJ.out
                        rw [bitF_at HJL.out, HZ.out] at this
                        exact this
                      have SX := Lib.hid (show StE p N (k + 1) ed go from ⟨HS.out.ok, HS.out.len, HS.out.few, by have := HS.out.few2; omega⟩)
                      go_wp2_with fail
                      refine (pcheck_any An N cn p _ TN.out).mono ?_
                      rw [if_pos SX.out.ok]
                      rintro e w9 ⟨rfl, b9⟩
                      have TE := Lib.hid (TN.out.below b9)
                      have WE := Lib.hid ((WM.out.below b9).mono (n' := k + 1) (by omega))
                      have RE := Lib.hid ((RM.out.below b9).mono (n' := k + 1) (by omega))
                      have OE := Lib.hid ((OM.out.below b9).mono (n' := k + 1) (by omega))
                      have BE := Lib.hid (below3 BW.out b9)
                      have SE := SX
                      clear b9
                      go_wp2_with fail
                      go_roundw
                      case rel => exact ⟨k + 1, An, cn, p, ed, go, by go_num, rfl, by go_num, by go_num, by omega, SE, TE, WE, RE, OE, BE⟩
                      case measure => simp only [intOf]; omega
                as_aux_lemma =>
                  have k0 : (r == 0) = false := by simpa using r0
                  have k1 : (r == 1) = false := by simpa using r1
                  have k2 : (r == 2) = false := by simpa using r2
                  clear r0 r1 r2
                  obtain ⟨p5, hp5⟩ : ∃ q, p.set j quiD = q := ⟨_, rfl⟩
                  have HP5 := Lib.hid hp5
                  have HRES := Lib.hid (show fireR p (j : Int) = (0, z1, p5) from by rw [fireR_at HS.out.ok HJL.out, HZ.out, if_pos rfl, HW.out, if_pos hz0, hp5])
                  have HL5 := Lib.hid (show p5.length = N by rw [← hp5, List.length_set]; exact HS.out.len)
                  clear hp5
                  go_wp2_with fail
                  refine (pfire_any An N cn p (j : Int) _ TN.out (by omega)).mono ?_
                  rw [HRES.out]
                  rintro e w5 ⟨A5, c5, rfl, o5, b5⟩
                  have t5 := o5.dss
                  dsimp only at t5 ⊢
                  rw [HL5.out] at t5 ⊢
                  have TU := Lib.hid t5
                  clear t5
                  replace TN := Lib.hid (TN.out.below b5)
                  replace WM := Lib.hid (WM.out.below b5)
                  replace RM := Lib.hid (RM.out.below b5)
                  replace OM := Lib.hid (OM.out.below b5)
                  replace BW := Lib.hid (below3 BW.out b5)
                  replace KV := Lib.hid (KV.out.below b5 KV.out.lt)
                  clear q0 q1 q2 lq
                  have q0 : _ = some (Value.int .i64 kd) := KV.out.cell 0
                  have q1 : _ = some (Value.int .i64 fd) := KV.out.cell 1
                  have q2 : _ = some (Value.int .i64 id) := KV.out.cell 2
                  have lq := KV.out.lt
                  clear o5 b5 HRES
                  have hop : (Instr.lookup 45 (.map (some (b + 1 + 1))) (.int .i64 (j : Int)) false).run Try.prog w5 = .ok (.bool true) w5 := by
                    have := OM.out.lookup FJ.out
                    rw [bitF_at HJL.out, HZ.out] at this
                    exact this
                  have hrd : (Instr.lookup 45 (.map (some (b + 1))) (.int .i64 (j : Int)) false).run Try.prog w5 = .ok (.bool false) w5 := by
                    have := RM.out.lookup FJ.out
                    rw [bitF_at HJL.out, HZ.out] at this
                    exact this
                  have tz1 : (z1 != -1) = true := by simp; omega
                  have tz2 : (z1 != z1) = false := by simp
                  have HNW : ¬ 0 ≤ (quiD : Ds).2.2 := by decide
                  obtain ⟨U1, hrun1, m1, g1⟩ := WM.out.del HJL.out FJ.out (d := quiD) (by decide) 0
                  replace TU := Lib.hid (Dss.pastW WM.out TU.out g1)
                  replace BW := Lib.hid (BW.out.grown g1 BW.out.size (by intro k hk; injection hk with hk; omega))
                  replace OM := Lib.hid (OM.out.grown g1 (by intro q; injection q with q; omega))
                  replace RM := Lib.hid (RM.out.grown g1 (by intro q; injection q with q; omega))
                  have W5 := Lib.hid (HP5.out ▸ m1)
                  clear m1 g1
                  have R5 := Lib.hid (HP5.out ▸ RM.out.same (bitF_keep (g := rdB) HJL.out (d := quiD) (by rw [HZ.out]; try rfl)))
                  have O5 := Lib.hid (HP5.out ▸ OM.out.same (bitF_keep (g := opB) HJL.out (d := quiD) (by rw [HZ.out]; try rfl)))
                  have SX := Lib.hid (show StE p5 N (k + 1) (ed + 1) (go + 1) from by
                    have h1 := rdyN_set HJL.out quiD
                    rw [HZ.out, HP5.out] at h1
                    simp [rdB] at h1
                    exact ⟨HP5.out ▸ pollOk_low HS.out.ok _ okD_qui rfl, HL5.out, by have := HS.out.few; omega, by have := HS.out.few2; omega⟩)
                  go_wp2_with fail
                  refine (pcheck_any A5 N c5 p5 _ TU.out).mono ?_
                  rw [if_pos SX.out.ok]
                  rintro e w9 ⟨rfl, b9⟩
                  have TE := Lib.hid (TU.out.below b9)
                  have WE := Lib.hid ((W5.out.below b9).mono (n' := k + 1) (by omega))
                  have RE := Lib.hid ((R5.out.below b9).mono (n' := k + 1) (by omega))
                  have OE := Lib.hid ((O5.out.below b9).mono (n' := k + 1) (by omega))
                  have BE := Lib.hid (below3 BW.out b9)
                  have SE := SX
                  clear b9
                  go_wp2_with fail
                  go_roundw
                  case rel => exact ⟨k + 1, A5, c5, p5, ed + 1, go + 1, by go_num, rfl, by go_num, by go_num, by omega, SE, TE, WE, RE, OE, BE⟩
                  case measure => simp only [intOf]; omega
              · have hzz : z1 = -1 := by have : -1 ≤ z1 := hokd.2.2; omega
                subst hzz
                have hwbf : wb = false := by rw [← HWB.out]; rfl
                subst hwbf
                clear hokd hz0
                by_cases r0 : r = 0
                · as_aux_lemma =>
                    have k0 : (r == 0) = true := by simpa using r0
                    clear r0
                    have HRES := Lib.hid (show openR p (j : Int) = (6, []) from by rw [openR_at HS.out.ok HJL.out, HZ.out, if_pos rfl])
                    go_wp2_with fail
                    refine (popen_any An N cn p (j : Int) _ TN.out (by omega)).mono ?_
                    rw [HRES.out]
                    rintro e w5 ⟨A5, c5, rfl, o5, b5⟩
                    dsimp only [List.length_nil]
                    replace TN := Lib.hid (TN.out.below b5)
                    replace WM := Lib.hid (WM.out.below b5)
                    replace RM := Lib.hid (RM.out.below b5)
                    replace OM := Lib.hid (OM.out.below b5)
                    replace BW := Lib.hid (below3 BW.out b5)
                    replace KV := Lib.hid (KV.out.below b5 KV.out.lt)
                    clear q0 q1 q2 lq
                    have q0 : _ = some (Value.int .i64 kd) := KV.out.cell 0
                    have q1 : _ = some (Value.int .i64 fd) := KV.out.cell 1
                    have q2 : _ = some (Value.int .i64 id) := KV.out.cell 2
                    have lq := KV.out.lt
                    clear o5 b5 HRES
                    have hop : (Instr.lookup 45 (.map (some (b + 1 + 1))) (.int .i64 (j : Int)) false).run Try.prog w5 = .ok (.bool true) w5 := by
                      have := OM.out.lookup FJ.out
                      rw [bitF_at HJL.out, HZ.out] at this
                      exact this
                    have hrd : (Instr.lookup 45 (.map (some (b + 1))) (.int .i64 (j : Int)) false).run Try.prog w5 = .ok (.bool false) w5 := by
                      have := RM.out.lookup FJ.out
                      rw [bitF_at HJL.out, HZ.out] at this
                      exact this
                    have SX := Lib.hid (show StE p N (k + 1) ed go from ⟨HS.out.ok, HS.out.len, HS.out.few, by have := HS.out.few2; omega⟩)
                    go_wp2_with fail
                    refine (pcheck_any An N cn p _ TN.out).mono ?_
                    rw [if_pos SX.out.ok]
                    rintro e w9 ⟨rfl, b9⟩
                    have TE := Lib.hid (TN.out.below b9)
                    have WE := Lib.hid ((WM.out.below b9).mono (n' := k + 1) (by omega))
                    have RE := Lib.hid ((RM.out.below b9).mono (n' := k + 1) (by omega))
                    have OE := Lib.hid ((OM.out.below b9).mono (n' := k + 1) (by omega))
                    have BE := Lib.hid (below3 BW.out b9)
                    have SE := SX
                    clear b9
                    go_wp2_with fail
                    go_roundw
                    case rel => exact ⟨k + 1, An, cn, p, ed, go, by go_num, rfl, by go_num, by go_num, by omega, SE, TE, WE, RE, OE, BE⟩
                    case measure => simp only [intOf]; omega
                by_cases r1 : r = 1
                · as_aux_lemma =>
                    have k0 : (r == 0) = false := by simpa using r0
                    have k1 : (r == 1) = true := by simpa using r1
                    clear r0 r1
                    obtain ⟨p5, hp5⟩ : ∃ q, p.set j nilD = q := ⟨_, rfl⟩
                    have HP5 := Lib.hid hp5
                    have HRES := Lib.hid (show shutR p (j : Int) = (0, -1, p5) from by rw [shutR_at HS.out.ok HJL.out, HZ.out, if_pos rfl, HW.out, hp5])
                    have HL5 := Lib.hid (show p5.length = N by rw [← hp5, List.length_set]; exact HS.out.len)
                    clear hp5
                    go_wp2_with fail
                    refine (pshut_any An N cn p (j : Int) _ TN.out (by omega)).mono ?_
                    rw [HRES.out]
                    rintro e w5 ⟨A5, c5, rfl, o5, b5⟩
                    have t5 := o5.dss
                    dsimp only at t5 ⊢
                    rw [HL5.out] at t5 ⊢
                    have TU := Lib.hid t5
                    clear t5
                    replace TN := Lib.hid (TN.out.below b5)
                    replace WM := Lib.hid (WM.out.below b5)
                    replace RM := Lib.hid (RM.out.below b5)
                    replace OM := Lib.hid (OM.out.below b5)
                    replace BW := Lib.hid (below3 BW.out b5)
                    replace KV := Lib.hid (KV.out.below b5 KV.out.lt)
                    clear q0 q1 q2 lq
                    have q0 : _ = some (Value.int .i64 kd) := KV.out.cell 0
                    have q1 : _ = some (Value.int .i64 fd) := KV.out.cell 1
                    have q2 : _ = some (Value.int .i64 id) := KV.out.cell 2
                    have lq := KV.out.lt
                    clear o5 b5 HRES
                    have hop : (Instr.lookup 45 (.map (some (b + 1 + 1))) (.int .i64 (j : Int)) false).run Try.prog w5 = .ok (.bool true) w5 := by
                      have := OM.out.lookup FJ.out
                      rw [bitF_at HJL.out, HZ.out] at this
                      exact this
                    have hrd : (Instr.lookup 45 (.map (some (b + 1))) (.int .i64 (j : Int)) false).run Try.prog w5 = .ok (.bool false) w5 := by
                      have := RM.out.lookup FJ.out
                      rw [bitF_at HJL.out, HZ.out] at this
                      exact this
                    have HNW : ¬ 0 ≤ (nilD : Ds).2.2 := by decide
                    obtain ⟨U1, hrun1, m1, g1⟩ := OM.out.del FJ.out 0
                    replace TU := Lib.hid (Dss.pastF OM.out TU.out g1)
                    replace BW := Lib.hid (BW.out.grown g1 BW.out.size (by intro k hk; injection hk with hk; omega))
                    replace RM := Lib.hid (RM.out.grown g1 (by intro q; injection q with q; omega))
                    replace WM := Lib.hid (WM.out.grown g1 (by intro q; injection q with q; omega))
                    have O5 := Lib.hid (HP5.out ▸ m1.same (bitF_set (g := opB) HJL.out nilD))
                    clear m1 g1
                    obtain ⟨U2, hrun2, m2, g2⟩ := WM.out.del HJL.out FJ.out (d := nilD) (by decide) 0
                    replace TU := Lib.hid (Dss.pastW WM.out TU.out g2)
                    replace BW := Lib.hid (BW.out.grown g2 BW.out.size (by intro k hk; injection hk with hk; omega))
                    replace O5 := Lib.hid (O5.out.grown g2 (by intro q; injection q with q; omega))
                    replace RM := Lib.hid (RM.out.grown g2 (by intro q; injection q with q; omega))
                    have W5 := Lib.hid (HP5.out ▸ m2)
                    clear m2 g2
                    obtain ⟨U3, hrun3, m3, g3⟩ := RM.out.del FJ.out 0
                    replace TU := Lib.hid (Dss.pastF RM.out TU.out g3)
                    replace BW := Lib.hid (BW.out.grown g3 BW.out.size (by intro k hk; injection hk with hk; omega))
                    replace O5 := Lib.hid (O5.out.grown g3 (by intro q; injection q with q; omega))
                    replace W5 := Lib.hid (W5.out.grown g3 (by intro q; injection q with q; omega))
                    have R5 := Lib.hid (HP5.out ▸ m3.same (bitF_set (g := rdB) HJL.out nilD))
                    clear m3 g3
                    have SX := Lib.hid (show StE p5 N (k + 1) (ed) (go) from by
                      have h1 := rdyN_set HJL.out nilD
                      rw [HZ.out, HP5.out] at h1
                      simp [rdB] at h1
                      exact ⟨HP5.out ▸ pollOk_low HS.out.ok _ okD_nil rfl, HL5.out, by have := HS.out.few; omega, by have := HS.out.few2; omega⟩)
                    go_wp2_with fail
                    refine (pcheck_any A5 N c5 p5 _ TU.out).mono ?_
                    rw [if_pos SX.out.ok]
                    rintro e w9 ⟨rfl, b9⟩
                    have TE := Lib.hid (TU.out.below b9)
                    have WE := Lib.hid ((W5.out.below b9).mono (n' := k + 1) (by omega))
                    have RE := Lib.hid ((R5.out.below b9).mono (n' := k + 1) (by omega))
                    have OE := Lib.hid ((O5.out.below b9).mono (n' := k + 1) (by omega))
                    have BE := Lib.hid (below3 BW.out b9)
                    have SE := SX
                    clear b9
                    go_wp2_with fail
                    go_roundw
                    case rel => exact ⟨k + 1, A5, c5, p5, ed, go, by go_num, rfl, by go_num, by go_num, by omega, SE, TE, WE, RE, OE, BE⟩
                    case measure => simp only [intOf]; omega
                by_cases r2 : r = 2
                · as_aux_lemma =>
                    have k0 : (r == 0) = false := by simpa using r0
                    have k1 : (r == 1) = false := by simpa using r1
                    have k2 : (r == 2) = true := by simpa using r2
                    clear r0 r1 r2
                    by_cases h0id : 0 ≤ id
                    · have tid : decide (0 ≤ id) = true := decide_eq_true h0id
                      by_cases hnw : waitsD p id
                      · have hbb : bb = true := by rw [HBD.out]; exact decide_eq_true ⟨h0id, hnw⟩
                        subst hbb
                        have HRES := Lib.hid (show armR p (j : Int) id = (6, false, []) from by rw [armR_at HS.out.ok HJL.out h0id, HZ.out, if_pos rfl, if_pos hnw])
                        go_wp2_with fail
                        refine (parm_any An N cn p (j : Int) id _ TN.out (by omega) FID.out).mono ?_
                        rw [HRES.out]
                        rintro e w5 ⟨A5, c5, rfl, o5, b5⟩
                        dsimp only [List.length_nil]
                        replace TN := Lib.hid (TN.out.below b5)
                        replace WM := Lib.hid (WM.out.below b5)
                        replace RM := Lib.hid (RM.out.below b5)
                        replace OM := Lib.hid (OM.out.below b5)
                        replace BW := Lib.hid (below3 BW.out b5)
                        replace KV := Lib.hid (KV.out.below b5 KV.out.lt)
                        clear q0 q1 q2 lq
                        have q0 : _ = some (Value.int .i64 kd) := KV.out.cell 0
                        have q1 : _ = some (Value.int .i64 fd) := KV.out.cell 1
                        have q2 : _ = some (Value.int .i64 id) := KV.out.cell 2
                        have lq := KV.out.lt
                        clear o5 b5 HRES
                        have hop : (Instr.lookup 45 (.map (some (b + 1 + 1))) (.int .i64 (j : Int)) false).run Try.prog w5 = .ok (.bool true) w5 := by
                          have := OM.out.lookup FJ.out
                          rw [bitF_at HJL.out, HZ.out] at this
                          exact this
                        have hrd : (Instr.lookup 45 (.map (some (b + 1))) (.int .i64 (j : Int)) false).run Try.prog w5 = .ok (.bool false) w5 := by
                          have := RM.out.lookup FJ.out
                          rw [bitF_at HJL.out, HZ.out] at this
                          exact this
                        have SX := Lib.hid (show StE p N (k + 1) ed go from ⟨HS.out.ok, HS.out.len, HS.out.few, by have := HS.out.few2; omega⟩)
                        go_wp2_with fail
                        refine (pcheck_any An N cn p _ TN.out).mono ?_
                        rw [if_pos SX.out.ok]
                        rintro e w9 ⟨rfl, b9⟩
                        have TE := Lib.hid (TN.out.below b9)
                        have WE := Lib.hid ((WM.out.below b9).mono (n' := k + 1) (by omega))
                        have RE := Lib.hid ((RM.out.below b9).mono (n' := k + 1) (by omega))
                        have OE := Lib.hid ((OM.out.below b9).mono (n' := k + 1) (by omega))
                        have BE := Lib.hid (below3 BW.out b9)
                        have SE := SX
                        clear b9
                        go_wp2_with fail
                        go_roundw
                        case rel => exact ⟨k + 1, An, cn, p, ed, go, by go_num, rfl, by go_num, by go_num, by omega, SE, TE, WE, RE, OE, BE⟩
                        case measure => simp only [intOf]; omega
                      · have hbb : bb = false := by rw [HBD.out]; exact decide_eq_false (fun q => hnw q.2)
                        subst hbb
                        obtain ⟨p5, hp5⟩ : ∃ q, p.set j (true, false, id) = q := ⟨_, rfl⟩
                        have HP5 := Lib.hid hp5
                        have HRES := Lib.hid (show armR p (j : Int) id = (0, false, p5) from by rw [armR_at HS.out.ok HJL.out h0id, HZ.out, if_pos rfl, if_neg hnw, HW.out, if_neg (by decide), if_neg (by decide), hp5])
                        have HL5 := Lib.hid (show p5.length = N by rw [← hp5, List.length_set]; exact HS.out.len)
                        clear hp5
                        go_wp2_with fail
                        refine (parm_any An N cn p (j : Int) id _ TN.out (by omega) FID.out).mono ?_
                        rw [HRES.out]
                        rintro e w5 ⟨A5, c5, rfl, o5, b5⟩
                        have t5 := o5.dss
                        dsimp only at t5 ⊢
                        rw [HL5.out] at t5 ⊢
                        have TU := Lib.hid t5
                        clear t5
                        replace TN := Lib.hid (TN.out.below b5)
                        replace WM := Lib.hid (WM.out.below b5)
                        replace RM := Lib.hid (RM.out.below b5)
                        replace OM := Lib.hid (OM.out.below b5)
                        replace BW := Lib.hid (below3 BW.out b5)
                        replace KV := Lib.hid (KV.out.below b5 KV.out.lt)
                        clear q0 q1 q2 lq
                        have q0 : _ = some (Value.int .i64 kd) := KV.out.cell 0
                        have q1 : _ = some (Value.int .i64 fd) := KV.out.cell 1
                        have q2 : _ = some (Value.int .i64 id) := KV.out.cell 2
                        have lq := KV.out.lt
                        clear o5 b5 HRES
                        have hop : (Instr.lookup 45 (.map (some (b + 1 + 1))) (.int .i64 (j : Int)) false).run Try.prog w5 = .ok (.bool true) w5 := by
                          have := OM.out.lookup FJ.out
                          rw [bitF_at HJL.out, HZ.out] at this
                          exact this
                        have hrd : (Instr.lookup 45 (.map (some (b + 1))) (.int .i64 (j : Int)) false).run Try.prog w5 = .ok (.bool false) w5 := by
                          have := RM.out.lookup FJ.out
                          rw [bitF_at HJL.out, HZ.out] at this
                          exact this
                        obtain ⟨U1, hrun1, m1, g1⟩ := WM.out.put HJL.out FJ.out (d := (true, false, id)) (by rw [HW.out]; decide) h0id FID.out (by omega)
                        replace TU := Lib.hid (Dss.pastW WM.out TU.out g1)
                        replace BW := Lib.hid (BW.out.grown g1 BW.out.size (by intro k hk; injection hk with hk; omega))
                        replace OM := Lib.hid (OM.out.grown g1 (by intro q; injection q with q; omega))
                        replace RM := Lib.hid (RM.out.grown g1 (by intro q; injection q with q; omega))
                        have W5 := Lib.hid (HP5.out ▸ m1)
                        clear m1 g1
                        have R5 := Lib.hid (HP5.out ▸ RM.out.same (bitF_keep (g := rdB) HJL.out (d := (true, false, id)) (by rw [HZ.out]; try rfl)))
                        have O5 := Lib.hid (HP5.out ▸ OM.out.same (bitF_keep (g := opB) HJL.out (d := (true, false, id)) (by rw [HZ.out]; try rfl)))
                        have SX := Lib.hid (show StE p5 N (k + 1) (ed) (go) from by
                          have h1 := rdyN_set HJL.out (true, false, id)
                          rw [HZ.out, HP5.out] at h1
                          simp [rdB] at h1
                          exact ⟨HP5.out ▸ pollOk_id HS.out.ok h0id hnw, HL5.out, by have := HS.out.few; omega, by have := HS.out.few2; omega⟩)
                        go_wp2_with fail
                        refine (pcheck_any A5 N c5 p5 _ TU.out).mono ?_
                        rw [if_pos SX.out.ok]
                        rintro e w9 ⟨rfl, b9⟩
                        have TE := Lib.hid (TU.out.below b9)
                        have WE := Lib.hid ((W5.out.below b9).mono (n' := k + 1) (by omega))
                        have RE := Lib.hid ((R5.out.below b9).mono (n' := k + 1) (by omega))
                        have OE := Lib.hid ((O5.out.below b9).mono (n' := k + 1) (by omega))
                        have BE := Lib.hid (below3 BW.out b9)
                        have SE := SX
                        clear b9
                        go_wp2_with fail
                        go_roundw
                        case rel => exact ⟨k + 1, A5, c5, p5, ed, go, by go_num, rfl, by go_num, by go_num, by omega, SE, TE, WE, RE, OE, BE⟩
                        case measure => simp only [intOf]; omega
                    · have tid : decide (0 ≤ id) = false := decide_eq_false h0id
                      have HRES := Lib.hid (show armR p (j : Int) id = (1, false, []) from by unfold armR; rw [if_neg (fun q => h0id q.2)])
                      go_wp2_with fail
                      refine (parm_any An N cn p (j : Int) id _ TN.out (by omega) FID.out).mono ?_
                      rw [HRES.out]
                      rintro e w5 ⟨A5, c5, rfl, o5, b5⟩
                      dsimp only [List.length_nil]
                      replace TN := Lib.hid (TN.out.below b5)
                      replace WM := Lib.hid (WM.out.below b5)
                      replace RM := Lib.hid (RM.out.below b5)
                      replace OM := Lib.hid (OM.out.below b5)
                      replace BW := Lib.hid (below3 BW.out b5)
                      replace KV := Lib.hid (KV.out.below b5 KV.out.lt)
                      clear q0 q1 q2 lq
                      have q0 : _ = some (Value.int .i64 kd) := KV.out.cell 0
                      have q1 : _ = some (Value.int .i64 fd) := KV.out.cell 1
                      have q2 : _ = some (Value.int .i64 id) := KV.out.cell 2
                      have lq := KV.out.lt
                      clear o5 b5 HRES
                      have hop : (Instr.lookup 45 (.map (some (b + 1 + 1))) (.int .i64 (j : Int)) false).run Try.prog w5 = .ok (.bool true) w5 := by
                        have := OM.out.lookup FJ.out
                        rw [bitF_at HJL.out, HZ.out] at this
                        exact this
                      have hrd : (Instr.lookup 45 (.map (some (b + 1))) (.int .i64 (j : Int)) false).run Try.prog w5 = .ok (.bool false) w5 := by
                        have := RM.out.lookup FJ.out
                        rw [bitF_at HJL.out, HZ.out] at this
                        exact this
                      have SX := Lib.hid (show StE p N (k + 1) ed go from ⟨HS.out.ok, HS.out.len, HS.out.few, by have := HS.out.few2; omega⟩)
                      go_wp2_with fail
                      refine (pcheck_any An N cn p _ TN.out).mono ?_
                      rw [if_pos SX.out.ok]
                      rintro e w9 ⟨rfl, b9⟩
                      have TE := Lib.hid (TN.out.below b9)
                      have WE := Lib.hid ((WM.out.below b9).mono (n' := k + 1) (by omega))
                      have RE := Lib.hid ((RM.out.below b9).mono (n' := k + 1) (by omega))
                      have OE := Lib.hid ((OM.out.below b9).mono (n' := k + 1) (by omega))
                      have BE := Lib.hid (below3 BW.out b9)
                      have SE := SX
                      clear b9
                      go_wp2_with fail
                      go_roundw
                      case rel => exact ⟨k + 1, An, cn, p, ed, go, by go_num, rfl, by go_num, by go_num, by omega, SE, TE, WE, RE, OE, BE⟩
                      case measure => simp only [intOf]; omega
                as_aux_lemma =>
                  have k0 : (r == 0) = false := by simpa using r0
                  have k1 : (r == 1) = false := by simpa using r1
                  have k2 : (r == 2) = false := by simpa using r2
                  clear r0 r1 r2
                  obtain ⟨p5, hp5⟩ : ∃ q, p.set j rdyD = q := ⟨_, rfl⟩
                  have HP5 := Lib.hid hp5
                  have HRES := Lib.hid (show fireR p (j : Int) = (0, -1, p5) from by rw [fireR_at HS.out.ok HJL.out, HZ.out, if_pos rfl, HW.out, if_neg (by decide), hp5])
                  have HL5 := Lib.hid (show p5.length = N by rw [← hp5, List.length_set]; exact HS.out.len)
                  clear hp5
                  go_wp2_with fail
                  refine (pfire_any An N cn p (j : Int) _ TN.out (by omega)).mono ?_
                  rw [HRES.out]
                  rintro e w5 ⟨A5, c5, rfl, o5, b5⟩
                  have t5 := o5.dss
                  dsimp only at t5 ⊢
                  rw [HL5.out] at t5 ⊢
                  have TU := Lib.hid t5
                  clear t5
                  replace TN := Lib.hid (TN.out.below b5)
                  replace WM := Lib.hid (WM.out.below b5)
                  replace RM := Lib.hid (RM.out.below b5)
                  replace OM := Lib.hid (OM.out.below b5)
                  replace BW := Lib.hid (below3 BW.out b5)
                  replace KV := Lib.hid (KV.out.below b5 KV.out.lt)
                  clear q0 q1 q2 lq
                  have q0 : _ = some (Value.int .i64 kd) := KV.out.cell 0
                  have q1 : _ = some (Value.int .i64 fd) := KV.out.cell 1
                  have q2 : _ = some (Value.int .i64 id) := KV.out.cell 2
                  have lq := KV.out.lt
                  clear o5 b5 HRES
                  have hop : (Instr.lookup 45 (.map (some (b + 1 + 1))) (.int .i64 (j : Int)) false).run Try.prog w5 = .ok (.bool true) w5 := by
                    have := OM.out.lookup FJ.out
                    rw [bitF_at HJL.out, HZ.out] at this
                    exact this
                  have hrd : (Instr.lookup 45 (.map (some (b + 1))) (.int .i64 (j : Int)) false).run Try.prog w5 = .ok (.bool false) w5 := by
                    have := RM.out.lookup FJ.out
                    rw [bitF_at HJL.out, HZ.out] at this
                    exact this
                  have HNW : ¬ 0 ≤ (rdyD : Ds).2.2 := by decide
                  obtain ⟨U1, hrun1, m1, g1⟩ := RM.out.update FJ.out true (by omega)
                  replace TU := Lib.hid (Dss.pastF RM.out TU.out g1)
                  replace BW := Lib.hid (BW.out.grown g1 BW.out.size (by intro k hk; injection hk with hk; omega))
                  replace OM := Lib.hid (OM.out.grown g1 (by intro q; injection q with q; omega))
                  replace WM := Lib.hid (WM.out.grown g1 (by intro q; injection q with q; omega))
                  have R5 := Lib.hid (HP5.out ▸ m1.same (bitF_set (g := rdB) HJL.out rdyD))
                  clear m1 g1
                  have W5 := Lib.hid (HP5.out ▸ WM.out.keep HJL.out (d := rdyD) (by rw [HW.out]; decide) (by decide))
                  have O5 := Lib.hid (HP5.out ▸ OM.out.same (bitF_keep (g := opB) HJL.out (d := rdyD) (by rw [HZ.out]; try rfl)))
                  have SX := Lib.hid (show StE p5 N (k + 1) (ed + 1) (go) from by
                    have h1 := rdyN_set HJL.out rdyD
                    rw [HZ.out, HP5.out] at h1
                    simp [rdB] at h1
                    exact ⟨HP5.out ▸ pollOk_low HS.out.ok _ okD_rdy rfl, HL5.out, by have := HS.out.few; omega, by have := HS.out.few2; omega⟩)
                  go_wp2_with fail
                  refine (pcheck_any A5 N c5 p5 _ TU.out).mono ?_
                  rw [if_pos SX.out.ok]
                  rintro e w9 ⟨rfl, b9⟩
                  have TE := Lib.hid (TU.out.below b9)
                  have WE := Lib.hid ((W5.out.below b9).mono (n' := k + 1) (by omega))
                  have RE := Lib.hid ((R5.out.below b9).mono (n' := k + 1) (by omega))
                  have OE := Lib.hid ((O5.out.below b9).mono (n' := k + 1) (by omega))
                  have BE := Lib.hid (below3 BW.out b9)
                  have SE := SX
                  clear b9
                  go_wp2_with fail
                  go_roundw
                  case rel => exact ⟨k + 1, A5, c5, p5, ed + 1, go, by go_num, rfl, by go_num, by go_num, by omega, SE, TE, WE, RE, OE, BE⟩
                  case measure => simp only [intOf]; omega
        · obtain ⟨x, rfl, rfl, -⟩ := Go.Maps.keyOf_int_inv Try.underlying3 hkey
          obtain ⟨cc, rfl, rfl, -⟩ := plainElem_int_inv Try.underlying2 hvv
          clear hkey hvv
          have hh1 := hleft x hlx
          rw [HF.out.has] at hh1
          obtain ⟨kx, hkx, hkl, hk0⟩ := of_decide_eq_true hh1
          subst hkx
          have hc1 : cc = who p kx := by
            have h1 := HF.out.at_ kx hkl hk0
            have h2 := (hat (.lit (.int .i64 0))).symm.trans h1
            simpa using h2
          obtain ⟨eb, heb⟩ : ∃ e, (cc == id) = e := ⟨_, rfl⟩
          have HBZ2 := HBZ.out.step hkl hk0
          rw [← hc1, heb] at HBZ2
          have HBZ3 := Lib.hid HBZ2
          have HB1 : Hid (Below V.heap.size V w8) := Lib.hid (HB.out.grown hg1 HB.out.size (fun j hj => by injection hj with hj; omega))
          have kx1 := KV.out.below HB1.out KV.out.lt
          have q2 : _ = some (Value.int .i64 id) := kx1.cell 2
          have lq := kx1.lt
          have hm1 := hrg.left_eq
          have hm2 := hrg1.left_eq
          have hleft2 : ∀ y, (fun z : Lit => left z && !z.sameKey (.int .i64 (kx : Int))) (.int .i64 y) = true → Maps.has D (.int .i64 y) = true := fun y hy => by
            simp only [Bool.and_eq_true] at hy
            exact hleft y hy.1
          have HM : Hid (w8.rangeLeft b V.heap.size < wm.rangeLeft b V.heap.size) := Lib.hid (by rw [hm1, hm2]; exact hlt)
          have HLF := Lib.hid hleft2
          have HRG := Lib.hid hrg1
          clear hh1 hkl hk0 hc1 hat hm1 hm2 hleft2 hrg1 hleft hrg hlx hg1 kx1 HBZ2 HBZ HB
          cases bb with
          | true =>
            rw [Bool.true_or] at HBZ3
            go_wp2_with fail
            go_roundw
            case rel => exact ⟨_, _, true, rfl, HRG.out, HLF.out, HBZ3, HB1⟩
            case measure => exact HM.out
          | false =>
            rw [Bool.false_or] at HBZ3
            go_wp2_with fail
            go_roundw
            case rel => exact ⟨_, _, eb, rfl, HRG.out, HLF.out, HBZ3, HB1⟩
            case measure => exact HM.out
    · have hkn' : k = n := by omega
      have HKN := Lib.hid hkn'
      have BF := Lib.hid (below3 BB.out BW.out)
      obtain ⟨ws, hws⟩ : ∃ ws, waitL p = ws := ⟨_, rfl⟩
      obtain ⟨q, hq⟩ : ∃ q, ws.length = q := ⟨_, rfl⟩
      have HRW := Lib.hid (show waitsR p = (0, ws) by unfold waitsR; rw [if_pos HS.out.ok, hws])
      have HWS := Lib.hid hws
      have HQ := Lib.hid hq
      clear hkn' hws hq
      go_wp2_with fail
      refine (pwaitsl_any An N cn p _ TN.out).mono ?_
      rw [HRW.out]
      rintro e w9 ⟨A9, c9, rfl, o9, b9, h9⟩
      dsimp only at h9 ⊢
      rw [HQ.out] at h9 ⊢
      have hlen := (WM.out.below b9).len
      rw [HWS.out, HQ.out] at hlen
      have tq : ((q : Int) == (q : Int)) = true := by simp
      have BZ := Lib.hid (below3 BF.out b9)
      clear o9 b9
      go_wp2_with fail
      go_ret
      exact ⟨rfl, BZ.out⟩

end Go.Proofs.Ytndbaoiabmldgaa
