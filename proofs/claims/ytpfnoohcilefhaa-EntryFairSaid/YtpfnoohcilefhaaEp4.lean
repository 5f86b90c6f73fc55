/-
  Layer 19, the program: Fair.
-/
import Derived.Test.YtpfnoohcilefhaaEp1
import Derived.Test.YtpfnoohcilefhaaEfm
import Derived.Test.YtpfnoohcilefhaaKit
import Derived.Test.YtpfnoohcilefhaaCalmX
import Derived.Test.YtpfnoohcilefhaaApp
namespace Go.Proofs.Ytpfnoohcilefhaa
open Go.RowKit

theorem miss_en (x : Int) (g8 g5 S d wn : Nat) (D : Option Addr) (w : World) (h8 : Bk w g8 31 #[.slice D S d]) (h5 : Bk w g5 3 #[.int .i64 (wn : Int)]) (hx : 0 ≤ x ∧ x ≤ (S : Int)) (hS : S ≤ 200000000000000) :
    Calls Try.prog 42 #[.int .i64 x, .pointer (some ⟨g8, 0, none⟩), .pointer (some ⟨g5, 0, none⟩)] w (RetB (.bool (decide ((wn : Int) ≤ (S : Int) - x))) w) := by
  have c8 := h8.one
  have c5 := h5.one
  have hw : IntKind.i64.wrap ((S : Int) - x) = (S : Int) - x := by rw [IntKind.wrap_i64]; omega
  have hw' : wrap64 ((S : Int) - x) = (S : Int) - x := by unfold wrap64; omega
  clear h8 h5 hx hS
  go_enter Try.func42, Try.ntmps42
  go_wp2_with fail
  go_ret
  exact ⟨rfl, Below.refl _ _⟩

/-- Too many steps lie behind. -/
def missE (S wn : Nat) (fs : List Int) (j : Nat) : Bool := decide ((wn : Int) ≤ (S : Int) - nth fs j)

set_option maxHeartbeats 1000000 in
theorem index_miss (A : Option Addr) (n c : Nat) (fs : List Int) (g8 g5 S d wn : Nat) (D : Option Addr) (w : World) (hx : Ints w A n fs) (h8 : Bk w g8 31 #[.slice D S d]) (h5 : Bk w g5 3 #[.int .i64 (wn : Int)]) (hf : ∀ j, j < n → 0 ≤ nth fs j ∧ nth fs j ≤ (S : Int)) (hS : S ≤ 200000000000000) :
    Calls Try.prog 60 #[.slice A n c, .func (.func 42) #[] #[.pointer (some ⟨g8, 0, none⟩), .pointer (some ⟨g5, 0, none⟩)]] w (FirstIs (missE S wn fs) n w) := by
  have HX := Lib.hid hx
  have K8 := Lib.hid h8
  have K5 := Lib.hid h5
  have HF := Lib.hid hf
  have hn := hx.2.1
  clear hx h8 h5 hf
  go_enter Try.func60, Try.ntmps60
  go_wp2
  go_loopw [8] (fun t wr => FindRel (missE S wn fs) n w t wr) (fun t _ => n - (intOf t).toNat)
  case atStart => exact ⟨0, Nat.zero_le _, rfl, fun j hj => absurd hj (by omega), Below.refl _ _⟩
  case round =>
    obtain ⟨k, hk, rfl, hq, hb⟩ := hrel
    have HQ := Lib.hid hq
    have HB := Lib.hid hb
    clear hq hb
    by_cases hlt : k < n
    · obtain ⟨b, o, rfl, hbl, h0⟩ := (HX.out.below HB.out).2.2.2 (by omega)
      have h1 := h0 k hlt
      obtain ⟨z, hz⟩ : ∃ z, nth fs k = z := ⟨_, rfl⟩
      have HZF := Lib.hid (HF.out k hlt)
      rw [hz] at h1 HZF
      have HZ := Lib.hid hz
      clear hz h0
      go_wp2_with fail
      refine (miss_en z g8 g5 S d wn D _ (K8.out.below HB.out K8.out.lt) (K5.out.below HB.out K5.out.lt) HZF.out hS).mono ?_
      rintro e w1 ⟨rfl, hb1⟩
      have HB1 := Lib.hid (below3 HB.out hb1)
      clear hb1
      cases hx : decide ((wn : Int) ≤ (S : Int) - z)
      · have HX : Hid (missE S wn fs k = false) := Lib.hid (by unfold missE; rw [HZ.out, hx])
        clear hx
        go_wp2
        go_roundw
        case rel => exact ⟨k + 1, by omega, by go_num, fun j hj => (by
          rcases Nat.lt_or_ge j k with h | h
          · exact HQ.out j h
          · obtain rfl : j = k := by omega
            exact HX.out), HB1.out⟩
        case measure => simp [intOf]; omega
      · have HX : Hid (missE S wn fs k = true) := Lib.hid (by unfold missE; rw [HZ.out, hx])
        clear hx
        go_wp2
        go_ret
        exact ⟨k, rfl, .inr ⟨k, hlt, rfl, HX.out, HQ.out⟩, HB1.out⟩
    · go_wp2
      go_ret
      exact ⟨-1, rfl, .inl ⟨rfl, fun j hj => HQ.out j (by omega)⟩, HB.out⟩

theorem contains_miss (A : Option Addr) (n c : Nat) (fs : List Int) (g8 g5 S d wn : Nat) (D : Option Addr) (w : World) (hx : Ints w A n fs) (h8 : Bk w g8 31 #[.slice D S d]) (h5 : Bk w g5 3 #[.int .i64 (wn : Int)]) (hf : ∀ j, j < n → 0 ≤ nth fs j ∧ nth fs j ≤ (S : Int)) (hS : S ≤ 200000000000000) :
    Calls Try.prog 41 #[.slice A n c, .func (.func 42) #[] #[.pointer (some ⟨g8, 0, none⟩), .pointer (some ⟨g5, 0, none⟩)]] w (SomeIs (missE S wn fs) n w) := by
  have HC := Lib.hid (index_miss A n c fs g8 g5 S d wn D w hx h8 h5 hf hS)
  clear hx h8 h5 hf
  go_enter Try.func41, Try.ntmps41
  go_wp2_with fail
  refine HC.out.mono ?_
  rintro e w1 ⟨r, rfl, hr, hb1⟩
  have HR := Lib.hid hr
  have HB := Lib.hid hb1
  clear hr hb1 HC
  go_wp2
  go_ret
  refine ⟨decide (0 ≤ r), rfl, fun h => ?_, fun h => ?_, HB.out⟩
  · have h := of_decide_eq_true h
    rcases HR.out with ⟨h1, _⟩ | ⟨k, hk, h1, h2, _⟩
    · omega
    · exact ⟨k, hk, h2⟩
  · have h := of_decide_eq_false h
    rcases HR.out with ⟨_, h1⟩ | ⟨k, hk, h1, h2, _⟩
    · exact h1
    · omega

theorem calm_call3 {P : Program} {ops : Array Oper} {S : World → Prop} {o : Oper} {v : Value} {a : Act} (hw : Region.wanted o (yielded ops a.tmps) = true) (f : FuncId) (x y z : Operand) (ts : Array TypeId) (ho : o.op = .call { callee := .value (.func f), args := #[x, y, z], argTypes := ts })
    (he : ∀ args w, (callFunc f args).run P w = .ok (.enter f args) w) (u u' u'' : Value) (hx : a.eval x = u) (hy : a.eval y = u') (hz : a.eval z = u'') (hc : ∀ w, S w → Calls P f #[u, u', u''] w fun e w' => e = .returned v ∧ S w') : Calm P ops S o v a :=
  .inl ⟨hw, fun w hS => by
    have : (execOp a.eval o).run P w = .ok (.enter f #[u, u', u'']) w := by
      unfold execOp
      simp only [ho, resolve, List.map_toArray, List.map_cons, List.map_nil, hx, hy, hz]
      simp [Act.eval, Deferred.ofValue, invoke, he]
    rw [this]
    exact hc w hS⟩
theorem eg_within (args : Array Value) (w : World) : (callFunc 40 args).run Try.prog w = .ok (.enter 40 args) w := by simp [go_sem]
theorem Try.intInfoE : (Try.prog.info? 3).map (fun i => (i.zero, i.size, i.bytes)) = some (some (.int .i64 0), 1, 8) := by kernel_rfl

set_option maxHeartbeats 8000000 in
theorem fair_en (A : Option Addr) (n c : Nat) (l : List I3) (W wd : Int) (w : World) (hwd : wd ≤ 9223372036854775807) (hn : n * 24 ≤ 140737488351232) (hp : Prog w A n c l) :
    Calls Try.prog 18 #[.slice A n c, .int .i64 W, .int .i64 wd] w (RetB (.tuple #[.bool (fairR l W wd).1, .int .i64 (fairR l W wd).2]) w) := by
  have HP := Lib.hid hp
  have LX := Lib.hid hp.1
  have hnc := hp.2.1
  have HN := Lib.hid hn
  clear hp hn
  by_cases hW : 1 ≤ W ∧ W ≤ 64
  · have kv := Bk.new w 3 #[.int .i64 wd]
    have bv := (Below.refl w.heap.size w).alloc (Nat.le_refl _) (.cells #[.int .i64 wd] 3)
    obtain ⟨V, hV⟩ : ∃ V, w.alloc (.cells #[.int .i64 wd] 3) = V := ⟨_, rfl⟩
    rw [hV] at kv bv
    obtain ⟨g5, hg5⟩ : ∃ g, w.heap.size = g := ⟨_, rfl⟩
    rw [hg5] at kv
    have HV := Lib.hid hV
    have HG5 := Lib.hid hg5
    have KV := Lib.hid kv
    have BV := Lib.hid bv
    clear hV hg5 kv bv
    by_cases hw1 : 1 ≤ wd
    · obtain ⟨wn, rfl⟩ : ∃ x : Nat, wd = (x : Int) := ⟨wd.toNat, by omega⟩
      obtain ⟨W, rfl⟩ : ∃ x : Nat, W = (x : Int) := ⟨W.toNat, by omega⟩
      have HRG := Lib.hid (show (1 ≤ (W : Int) ∧ (W : Int) ≤ 64) ∧ 1 ≤ (wn : Int) from ⟨hW, hw1⟩)
      have HIN : Hid ((decide ((1 : Int) ≤ (W : Int)) && decide ((W : Int) ≤ 64)) = true) := Lib.hid (by simp; omega)
      have t1 : decide ((wn : Int) < 1) = false := decide_eq_false (by omega)
      have hW64 : W ≤ 64 := by omega
      have hW1 : 1 ≤ W := by omega
      obtain ⟨st, hst⟩ : ∃ s, onlyE l 0 = s := ⟨_, rfl⟩
      have HSO := Lib.hid hst
      obtain ⟨S, hS⟩ : ∃ q, st.length = q := ⟨_, rfl⟩
      have HS := Lib.hid hS
      have HKB : Hid (S ≤ 200000000000000) := Lib.hid (by rw [← hS, ← hst]; have := onlyE_len l 0; have := LX.out; have := HN.out; omega)
      clear hst hS hW hw1
      go_enter Try.func18, Try.ntmps18
      go_upto_region 1 with fail
      rw [HV.out, HG5.out]
      clear HV
      have c5 := KV.out.one
      have l5 := KV.out.lt
      go_wp2_with fail
      refine (within_en (W : Int) 1 64 _).mono ?_
      rintro e U ⟨rfl, hU⟩
      subst hU
      rw [HIN.out]
      go_wp2_with fail
      refine (only_en A n c l 0 _ HN.out (HP.out.below BV.out)).mono ?_
      unfold NewEn
      rintro e U ⟨D, d, rfl, ow, bU⟩
      rw [HSO.out] at ow ⊢
      rw [HS.out]
      have pr := ow.prog
      rw [HS.out] at pr
      have k8 := Bk.new U 31 #[.slice D S d]
      have b8 := (Below.refl U.heap.size U).alloc (Nat.le_refl _) (.cells #[.slice D S d] 31)
      have k5 := (KV.out.below bU l5).alloc (.cells #[.slice D S d] 31)
      have b2 := BV.out.trans (bU.mono BV.out.size)
      have hs2 := b2.size
      have b3 := b2.alloc hs2 (.cells #[.slice D S d] 31)
      have pr2 := pr.below b8
      obtain ⟨V2, hV2⟩ : ∃ V2, U.alloc (.cells #[.slice D S d] 31) = V2 := ⟨_, rfl⟩
      rw [hV2] at k8 k5 b3 pr2
      obtain ⟨g8, hg8⟩ : ∃ g, U.heap.size = g := ⟨_, rfl⟩
      rw [hg8] at k8
      have HV2 := Lib.hid hV2
      have HG8 := Lib.hid hg8
      have K8 := Lib.hid k8
      have K5 := Lib.hid k5
      have PR := Lib.hid pr2
      have B3 := Lib.hid b3
      clear ow pr k8 b8 k5 b2 b3 pr2 hV2 hg8 bU c5 hs2 KV BV l5
      go_upto_region 4 with fail
      rw [HV2.out, HG8.out]
      clear HV2
      obtain ⟨i0, hi, hz0, hz1, hz2⟩ := info_parts Try.intInfoE
      have HI := Lib.hid hi
      have HZ0 := Lib.hid hz0
      have HZ1 := Lib.hid hz1
      have HZ2 := Lib.hid hz2
      clear hi hz0 hz1 hz2
      have q8 := K8.out.one
      go_wp2_with (at_make; refine wpList_make_full _ rfl _ _ 22 rfl V2.heap.size 3 i0 (.int .i64 0) 1 Try.underlying22 HI.out HZ0.out HZ1.out .i64 .i64 _ _ W rfl rfl rfl rfl (by rw [HZ2.out]; omega) (by unfold maxLen; omega) (Nat.le_refl _) ?_; intro w3 hown hgr; have HO3 := Lib.hid (OwnI.zeros (by omega) hown); have HB3 := Lib.hid ((Below.refl V2.heap.size V2).grown hgr (Nat.le_refl _) (fun _ q => by cases q)); have r8 := (K8.out.grown hgr (by simp)).one; clear hown hgr)
      -- LOOP
      go_loopw [26] (fun t wr => ∃ (k : Nat) (fs : List Int), k ≤ S ∧ t = .int .i64 k ∧ Hid (Below V2.heap.size V2 wr) ∧ Hid (OwnI 3 wr V2.heap.size (some ⟨V2.heap.size, 0, none⟩) W fs) ∧ Hid (fs.length = W ∧ ∀ v, v < W → nth fs v = (lastE st v k : Int)) ∧ Hid (∀ j, j < k → (0 ≤ (ith st j).2.1 ∧ (ith st j).2.1 < (W : Int)) ∧ j < wn + lastE st (ith st j).2.1.toNat j)) (fun t _ => S - (intOf t).toNat)
      case atStart => exact ⟨0, List.replicate W 0, Nat.zero_le _, rfl, HB3, HO3, Lib.hid ⟨List.length_replicate, fun v hv => by rw [nth_get (by rw [List.length_replicate]; exact hv)]; simp [lastE]⟩, Lib.hid (fun j hj => absurd hj (Nat.not_lt_zero _))⟩
      case round =>
        clear HB3 HO3 r8
        rename World => wr
        obtain ⟨k, fs, hk, rfl, BB, OF, HL, OK⟩ := hrel
        by_cases hkn : k < S
        · have hkb : k ≤ 200000000000000 := Nat.le_trans hk HKB.out
          obtain ⟨b, o, hD, hb, c0, c1, c2⟩ := (PR.out.below BB.out).at_ hkn
          subst hD
          obtain ⟨⟨kd, xa, xb⟩, hz⟩ : ∃ e, ith st k = e := ⟨_, rfl⟩
          rw [show jO st k = kd by unfold jO; rw [hz]] at c0
          rw [show jA st k = xa by unfold jA; rw [hz]] at c1
          rw [show jB st k = xb by unfold jB; rw [hz]] at c2
          have HZ := Lib.hid hz
          have kt := Bk.new wr 45 #[.int .i64 kd, .int .i64 xa, .int .i64 xb]
          have ba := (Below.refl wr.heap.size wr).alloc (Nat.le_refl _) (.cells #[.int .i64 kd, .int .i64 xa, .int .i64 xb] 45)
          have b2 := below3 BB.out ba
          have of2 := OF.out.below ba
          obtain ⟨W1, hW1⟩ : ∃ W1, wr.alloc (.cells #[.int .i64 kd, .int .i64 xa, .int .i64 xb] 45) = W1 := ⟨_, rfl⟩
          obtain ⟨gx, hgx⟩ : ∃ g, wr.heap.size = g := ⟨_, rfl⟩
          rw [hW1] at kt b2 of2
          rw [hgx] at kt
          have HW1 := Lib.hid hW1
          have HGX := Lib.hid hgx
          have KX := Lib.hid kt
          have B2 := Lib.hid b2
          have OF2 := Lib.hid of2
          have hw1 : IntKind.i64.wrap ((W : Int) - 1) = (W : Int) - 1 := by rw [IntKind.wrap_i64]; omega
          have hw1' : wrap64 ((W : Int) - 1) = (W : Int) - 1 := by unfold wrap64; omega
          clear hz hW1 hgx kt ba b2 of2 OF BB
          by_cases hin : 0 ≤ xa ∧ xa < (W : Int)
          · obtain ⟨a, rfl⟩ : ∃ x : Nat, xa = (x : Int) := ⟨xa.toNat, by omega⟩
            have haW : a < W := by omega
            have HXI : Hid ((decide ((0 : Int) ≤ (a : Int)) && decide ((a : Int) ≤ (W : Int) - 1)) = true) := Lib.hid (by simp; omega)
            obtain ⟨la, hla⟩ : ∃ x, lastE st a k = x := ⟨_, rfl⟩
            have HLA := Lib.hid hla
            have hlk : la ≤ k := by rw [← hla]; exact lastE_le st a k
            have hc9 := (OF2.out.at_ (j := a) (by rw [HL.out.1]; exact haW))
            rw [HL.out.2 a haW, hla] at hc9
            have hwk : IntKind.i64.wrap ((k : Int) - (la : Int)) = (k : Int) - (la : Int) := by rw [IntKind.wrap_i64]; omega
            have hwk' : wrap64 ((k : Int) - (la : Int)) = (k : Int) - (la : Int) := by unfold wrap64; omega
            have HC : Hid (∀ U, Below W1.heap.size W1 U → U.cell? ⟨gx, 1, none⟩ = some (.int .i64 (a : Int)) ∧ U.cell? ⟨V2.heap.size, a, none⟩ = some (.int .i64 (la : Int)) ∧ U.cell? ⟨g5, 0, none⟩ = some (.int .i64 (wn : Int))) := Lib.hid (fun U hU => ⟨(hU.cell (p := ⟨gx, 1, none⟩) KX.out.lt).trans KX.out.c3e.2.1, (hU.cell (p := ⟨V2.heap.size, a, none⟩) OF2.out.lt).trans hc9.1, ((K5.out.below B2.out K5.out.lt).below hU (K5.out.below B2.out K5.out.lt).lt).one⟩)
            clear hla hc9 hin
            by_cases hgp : k < wn + la
            · have tg : decide ((wn : Int) ≤ (k : Int) - (la : Int)) = false := decide_eq_false (by omega)
              have OK2 : Hid (∀ j, j < k + 1 → (0 ≤ (ith st j).2.1 ∧ (ith st j).2.1 < (W : Int)) ∧ j < wn + lastE st (ith st j).2.1.toNat j) := Lib.hid (fun j hj => by
                rcases Nat.lt_or_ge j k with h | h
                · exact OK.out j h
                · obtain rfl : j = k := by omega
                  rw [HZ.out]
                  exact ⟨⟨by simp, by simpa using haW⟩, by simpa [HLA.out] using hgp⟩)
              clear hgp
              go_upto_region 8 with fail
              rw [HW1.out, HGX.out]
              clear HW1 HGX c0 c1 c2 hb
              refine calm_region (S := fun U => Below W1.heap.size W1 U) (by kernel_rfl) (Below.refl _ _).drew ?_
              refine calm_to (i := 0) (t := 31) (v := .pointer (some ⟨gx, 1, none⟩)) rfl rfl (by kernel_rfl) (by kernel_rfl) (by kernel_rfl) (fun _ _ _ h => h) (calm_of rfl (fun U _ => by go_simp)) ?_
              simp only [List.setIfInBounds_toArray, List.set_cons_zero, List.set_cons_succ]
              refine calm_to (i := 1) (t := 32) (v := .int .i64 (a : Int)) rfl rfl (by kernel_rfl) (by kernel_rfl) (by kernel_rfl) (fun _ _ _ h => h) (calm_of rfl (fun U hU => by have := (HC.out U hU).1; go_simp)) ?_
              simp only [List.setIfInBounds_toArray, List.set_cons_zero, List.set_cons_succ]
              refine calm_to (i := 2) (t := 33) (v := .int .i64 (W : Int)) rfl rfl (by kernel_rfl) (by kernel_rfl) (by kernel_rfl) (fun _ _ _ h => h) (calm_move rfl (.tmp 1) (.inl rfl) rfl) ?_
              simp only [List.setIfInBounds_toArray, List.set_cons_zero, List.set_cons_succ]
              refine calm_to (i := 3) (t := 34) (v := .int .i64 ((W : Int) - 1)) rfl rfl (by kernel_rfl) (by kernel_rfl) (by kernel_rfl) (fun _ _ _ h => h) (calm_of rfl (fun U _ => by go_simp)) ?_
              simp only [List.setIfInBounds_toArray, List.set_cons_zero, List.set_cons_succ]
              refine calm_to (i := 4) (t := 35) (v := .bool true) rfl rfl (by kernel_rfl) (by kernel_rfl) (by kernel_rfl) (fun _ _ _ h => h) (calm_call3 rfl 40 (.tmp 32) (.const (.int .i64 0)) (.tmp 34) _ rfl eg_within _ _ _ rfl rfl rfl (fun U hU => (within_en (a : Int) 0 ((W : Int) - 1) U).mono (fun e U2 h => ⟨by rw [h.1, HXI.out], h.2 ▸ hU⟩))) ?_
              simp only [List.setIfInBounds_toArray, List.set_cons_zero, List.set_cons_succ]
              refine calm_to (i := 5) (t := 36) (v := .bool false) rfl rfl (by kernel_rfl) (by kernel_rfl) (by kernel_rfl) (fun _ _ _ h => h) (calm_of rfl (fun U _ => by go_simp)) ?_
              simp only [List.setIfInBounds_toArray, List.set_cons_zero, List.set_cons_succ]
              refine calm_to (i := 6) (t := 37) (v := .bool false) rfl rfl (by kernel_rfl) (by kernel_rfl) (by kernel_rfl) (fun _ _ _ h => h) (calm_move rfl (.tmp 36) (.inl rfl) rfl) ?_
              simp only [List.setIfInBounds_toArray, List.set_cons_zero, List.set_cons_succ]
              refine calm_to (i := 7) (t := 38) (v := .int .i64 (k : Int)) rfl rfl (by kernel_rfl) (by kernel_rfl) (by kernel_rfl) (fun _ _ _ h => h) (calm_move rfl (.tmp 10) (.inl rfl) rfl) ?_
              simp only [List.setIfInBounds_toArray, List.set_cons_zero, List.set_cons_succ]
              refine calm_to (i := 8) (t := 39) (v := .slice (some ⟨V2.heap.size, 0, none⟩) W W) rfl rfl (by kernel_rfl) (by kernel_rfl) (by kernel_rfl) (fun _ _ _ h => h) (calm_move rfl (.tmp 9) (.inl rfl) rfl) ?_
              simp only [List.setIfInBounds_toArray, List.set_cons_zero, List.set_cons_succ]
              refine calm_to (i := 9) (t := 40) (v := .pointer (some ⟨gx, 1, none⟩)) rfl rfl (by kernel_rfl) (by kernel_rfl) (by kernel_rfl) (fun _ _ _ h => h) (calm_of rfl (fun U _ => by go_simp)) ?_
              simp only [List.setIfInBounds_toArray, List.set_cons_zero, List.set_cons_succ]
              refine calm_to (i := 10) (t := 41) (v := .int .i64 (a : Int)) rfl rfl (by kernel_rfl) (by kernel_rfl) (by kernel_rfl) (fun _ _ _ h => h) (calm_of rfl (fun U hU => by have := (HC.out U hU).1; go_simp)) ?_
              simp only [List.setIfInBounds_toArray, List.set_cons_zero, List.set_cons_succ]
              refine calm_to (i := 11) (t := 42) (v := .pointer (some ⟨V2.heap.size, a, none⟩)) rfl rfl (by kernel_rfl) (by kernel_rfl) (by kernel_rfl) (fun _ _ _ h => h) (calm_of rfl (fun U _ => by go_simp)) ?_
              simp only [List.setIfInBounds_toArray, List.set_cons_zero, List.set_cons_succ]
              refine calm_to (i := 12) (t := 43) (v := .int .i64 (la : Int)) rfl rfl (by kernel_rfl) (by kernel_rfl) (by kernel_rfl) (fun _ _ _ h => h) (calm_of rfl (fun U hU => by have := (HC.out U hU).2.1; go_simp)) ?_
              simp only [List.setIfInBounds_toArray, List.set_cons_zero, List.set_cons_succ]
              refine calm_to (i := 13) (t := 44) (v := .int .i64 ((k : Int) - (la : Int))) rfl rfl (by kernel_rfl) (by kernel_rfl) (by kernel_rfl) (fun _ _ _ h => h) (calm_of rfl (fun U _ => by go_simp)) ?_
              simp only [List.setIfInBounds_toArray, List.set_cons_zero, List.set_cons_succ]
              refine calm_to (i := 14) (t := 45) (v := .int .i64 (wn : Int)) rfl rfl (by kernel_rfl) (by kernel_rfl) (by kernel_rfl) (fun _ _ _ h => h) (calm_of rfl (fun U hU => by have := (HC.out U hU).2.2; go_simp)) ?_
              simp only [List.setIfInBounds_toArray, List.set_cons_zero, List.set_cons_succ]
              refine calm_to (i := 15) (t := 46) (v := .bool false) rfl rfl (by kernel_rfl) (by kernel_rfl) (by kernel_rfl) (fun _ _ _ h => h) (calm_of rfl (fun U _ => by go_simp)) ?_
              simp only [List.setIfInBounds_toArray, List.set_cons_zero, List.set_cons_succ]
              refine calm_to (i := 16) (t := 47) (v := .bool false) rfl rfl (by kernel_rfl) (by kernel_rfl) (by kernel_rfl) (fun _ _ _ h => h) (calm_pick rfl (.tmp 37) (.const (.bool true)) (.tmp 46) rfl false rfl rfl) ?_
              simp only [List.setIfInBounds_toArray, List.set_cons_zero, List.set_cons_succ]
              refine calm_done (by kernel_rfl) (fun U hU => ?_) _
              have OU := OF2.out.below hU
              have hs9 := (OU.at_ (j := a) (by rw [HL.out.1]; exact haW))
              have hxc := (HC.out U hU).1
              have hgl := OU.lt
              have BU := Lib.hid (below3 B2.out hU)
              have OS : Hid (OwnI 3 (U.setCell ⟨V2.heap.size, a, none⟩ (.int .i64 ((k : Int) + 1))) V2.heap.size (some ⟨V2.heap.size, 0, none⟩) W (fs.set a ((k : Int) + 1))) := Lib.hid (OU.set_ a (by unfold Fit; omega))
              have BS : Hid (Below V2.heap.size V2 (U.setCell ⟨V2.heap.size, a, none⟩ (.int .i64 ((k : Int) + 1)))) := Lib.hid (BU.out.setCell (Nat.le_refl _) _)
              have HL2 : Hid ((fs.set a ((k : Int) + 1)).length = W ∧ ∀ v, v < W → nth (fs.set a ((k : Int) + 1)) v = (lastE st v (k + 1) : Int)) := Lib.hid ⟨by rw [List.length_set]; exact HL.out.1, fun v hv => by
                have hl9 := HL.out.1
                rw [nth_get (by rw [List.length_set]; omega), lastE, HZ.out]
                by_cases e : a = v
                · subst e; simp
                · rw [List.getElem_set_ne e, if_neg (show ¬ ((kd, (a : Int), xb).2.1 = (v : Int)) from fun q => e (Int.ofNat.inj q)), ← HL.out.2 v hv, nth_get]⟩
              obtain ⟨z9, hz9⟩ := hs9
              have hwk1 : IntKind.i64.wrap ((k : Int) + 1) = (k : Int) + 1 := by rw [IntKind.wrap_i64]; omega
              have hwk1' : wrap64 ((k : Int) + 1) = (k : Int) + 1 := by unfold wrap64; omega
              clear OU hU HC
              go_wp2_with fail
              clear hwk hwk' hwk1 hwk1' hw1 hw1'
              go_roundw
              case rel => exact ⟨k + 1, fs.set a ((k : Int) + 1), by omega, by go_num, BS, OS, HL2, OK2⟩
              case measure => simp [intOf]; omega
            · have tg : decide ((wn : Int) ≤ (k : Int) - (la : Int)) = true := decide_eq_true (by omega)
              have HR : Hid (fairR l W wn = (false, 0)) := Lib.hid (fairR_gap (j := k) (v := a) HRG.out HSO.out (by rw [HS.out]; exact hk) haW (by rw [HLA.out]; exact hgp))
              clear hgp
              go_upto_region 8 with fail
              rw [HW1.out, HGX.out]
              clear HW1 HGX c0 c1 c2 hb
              refine calm_region (S := fun U => Below W1.heap.size W1 U) (by kernel_rfl) (Below.refl _ _).drew ?_
              refine calm_to (i := 0) (t := 31) (v := .pointer (some ⟨gx, 1, none⟩)) rfl rfl (by kernel_rfl) (by kernel_rfl) (by kernel_rfl) (fun _ _ _ h => h) (calm_of rfl (fun U _ => by go_simp)) ?_
              simp only [List.setIfInBounds_toArray, List.set_cons_zero, List.set_cons_succ]
              refine calm_to (i := 1) (t := 32) (v := .int .i64 (a : Int)) rfl rfl (by kernel_rfl) (by kernel_rfl) (by kernel_rfl) (fun _ _ _ h => h) (calm_of rfl (fun U hU => by have := (HC.out U hU).1; go_simp)) ?_
              simp only [List.setIfInBounds_toArray, List.set_cons_zero, List.set_cons_succ]
              refine calm_to (i := 2) (t := 33) (v := .int .i64 (W : Int)) rfl rfl (by kernel_rfl) (by kernel_rfl) (by kernel_rfl) (fun _ _ _ h => h) (calm_move rfl (.tmp 1) (.inl rfl) rfl) ?_
              simp only [List.setIfInBounds_toArray, List.set_cons_zero, List.set_cons_succ]
              refine calm_to (i := 3) (t := 34) (v := .int .i64 ((W : Int) - 1)) rfl rfl (by kernel_rfl) (by kernel_rfl) (by kernel_rfl) (fun _ _ _ h => h) (calm_of rfl (fun U _ => by go_simp)) ?_
              simp only [List.setIfInBounds_toArray, List.set_cons_zero, List.set_cons_succ]
              refine calm_to (i := 4) (t := 35) (v := .bool true) rfl rfl (by kernel_rfl) (by kernel_rfl) (by kernel_rfl) (fun _ _ _ h => h) (calm_call3 rfl 40 (.tmp 32) (.const (.int .i64 0)) (.tmp 34) _ rfl eg_within _ _ _ rfl rfl rfl (fun U hU => (within_en (a : Int) 0 ((W : Int) - 1) U).mono (fun e U2 h => ⟨by rw [h.1, HXI.out], h.2 ▸ hU⟩))) ?_
              simp only [List.setIfInBounds_toArray, List.set_cons_zero, List.set_cons_succ]
              refine calm_to (i := 5) (t := 36) (v := .bool false) rfl rfl (by kernel_rfl) (by kernel_rfl) (by kernel_rfl) (fun _ _ _ h => h) (calm_of rfl (fun U _ => by go_simp)) ?_
              simp only [List.setIfInBounds_toArray, List.set_cons_zero, List.set_cons_succ]
              refine calm_to (i := 6) (t := 37) (v := .bool false) rfl rfl (by kernel_rfl) (by kernel_rfl) (by kernel_rfl) (fun _ _ _ h => h) (calm_move rfl (.tmp 36) (.inl rfl) rfl) ?_
              simp only [List.setIfInBounds_toArray, List.set_cons_zero, List.set_cons_succ]
              refine calm_to (i := 7) (t := 38) (v := .int .i64 (k : Int)) rfl rfl (by kernel_rfl) (by kernel_rfl) (by kernel_rfl) (fun _ _ _ h => h) (calm_move rfl (.tmp 10) (.inl rfl) rfl) ?_
              simp only [List.setIfInBounds_toArray, List.set_cons_zero, List.set_cons_succ]
              refine calm_to (i := 8) (t := 39) (v := .slice (some ⟨V2.heap.size, 0, none⟩) W W) rfl rfl (by kernel_rfl) (by kernel_rfl) (by kernel_rfl) (fun _ _ _ h => h) (calm_move rfl (.tmp 9) (.inl rfl) rfl) ?_
              simp only [List.setIfInBounds_toArray, List.set_cons_zero, List.set_cons_succ]
              refine calm_to (i := 9) (t := 40) (v := .pointer (some ⟨gx, 1, none⟩)) rfl rfl (by kernel_rfl) (by kernel_rfl) (by kernel_rfl) (fun _ _ _ h => h) (calm_of rfl (fun U _ => by go_simp)) ?_
              simp only [List.setIfInBounds_toArray, List.set_cons_zero, List.set_cons_succ]
              refine calm_to (i := 10) (t := 41) (v := .int .i64 (a : Int)) rfl rfl (by kernel_rfl) (by kernel_rfl) (by kernel_rfl) (fun _ _ _ h => h) (calm_of rfl (fun U hU => by have := (HC.out U hU).1; go_simp)) ?_
              simp only [List.setIfInBounds_toArray, List.set_cons_zero, List.set_cons_succ]
              refine calm_to (i := 11) (t := 42) (v := .pointer (some ⟨V2.heap.size, a, none⟩)) rfl rfl (by kernel_rfl) (by kernel_rfl) (by kernel_rfl) (fun _ _ _ h => h) (calm_of rfl (fun U _ => by go_simp)) ?_
              simp only [List.setIfInBounds_toArray, List.set_cons_zero, List.set_cons_succ]
              refine calm_to (i := 12) (t := 43) (v := .int .i64 (la : Int)) rfl rfl (by kernel_rfl) (by kernel_rfl) (by kernel_rfl) (fun _ _ _ h => h) (calm_of rfl (fun U hU => by have := (HC.out U hU).2.1; go_simp)) ?_
              simp only [List.setIfInBounds_toArray, List.set_cons_zero, List.set_cons_succ]
              refine calm_to (i := 13) (t := 44) (v := .int .i64 ((k : Int) - (la : Int))) rfl rfl (by kernel_rfl) (by kernel_rfl) (by kernel_rfl) (fun _ _ _ h => h) (calm_of rfl (fun U _ => by go_simp)) ?_
              simp only [List.setIfInBounds_toArray, List.set_cons_zero, List.set_cons_succ]
              refine calm_to (i := 14) (t := 45) (v := .int .i64 (wn : Int)) rfl rfl (by kernel_rfl) (by kernel_rfl) (by kernel_rfl) (fun _ _ _ h => h) (calm_of rfl (fun U hU => by have := (HC.out U hU).2.2; go_simp)) ?_
              simp only [List.setIfInBounds_toArray, List.set_cons_zero, List.set_cons_succ]
              refine calm_to (i := 15) (t := 46) (v := .bool true) rfl rfl (by kernel_rfl) (by kernel_rfl) (by kernel_rfl) (fun _ _ _ h => h) (calm_of rfl (fun U _ => by go_simp)) ?_
              simp only [List.setIfInBounds_toArray, List.set_cons_zero, List.set_cons_succ]
              refine calm_to (i := 16) (t := 47) (v := .bool true) rfl rfl (by kernel_rfl) (by kernel_rfl) (by kernel_rfl) (fun _ _ _ h => h) (calm_pick rfl (.tmp 37) (.const (.bool true)) (.tmp 46) rfl false rfl rfl) ?_
              simp only [List.setIfInBounds_toArray, List.set_cons_zero, List.set_cons_succ]
              refine calm_done (by kernel_rfl) (fun U hU => ?_) _
              have BF := Lib.hid (B3.out.trans ((below3 B2.out hU).mono (B3.out.size)))
              clear hU
              go_wp2_with fail
              exact bodyPost_ret (results_tmp2 rfl _ _ _) rfl (by rw [HR.out]; exact ⟨rfl, BF.out⟩)
          · have HXI : Hid ((decide ((0 : Int) ≤ xa) && decide (xa ≤ (W : Int) - 1)) = false) := Lib.hid (by simp; omega)
            have HR : Hid (fairR l W wn = (false, 0)) := Lib.hid (fairR_who (k := k) HRG.out HSO.out (by rw [HS.out]; exact hkn) (by rw [HZ.out]; exact hin))
            have HC : Hid (∀ U, Below W1.heap.size W1 U → U.cell? ⟨gx, 1, none⟩ = some (.int .i64 xa) ∧ True) := Lib.hid (fun U hU => ⟨(hU.cell (p := ⟨gx, 1, none⟩) KX.out.lt).trans KX.out.c3e.2.1, trivial⟩)
            clear hin
            go_upto_region 8 with fail
            rw [HW1.out, HGX.out]
            clear HW1 HGX c0 c1 c2 hb
            refine calm_region (S := fun U => Below W1.heap.size W1 U) (by kernel_rfl) (Below.refl _ _).drew ?_
            refine calm_to (i := 0) (t := 31) (v := .pointer (some ⟨gx, 1, none⟩)) rfl rfl (by kernel_rfl) (by kernel_rfl) (by kernel_rfl) (fun _ _ _ h => h) (calm_of rfl (fun U _ => by go_simp)) ?_
            simp only [List.setIfInBounds_toArray, List.set_cons_zero, List.set_cons_succ]
            refine calm_to (i := 1) (t := 32) (v := .int .i64 xa) rfl rfl (by kernel_rfl) (by kernel_rfl) (by kernel_rfl) (fun _ _ _ h => h) (calm_of rfl (fun U hU => by have := (HC.out U hU).1; go_simp)) ?_
            simp only [List.setIfInBounds_toArray, List.set_cons_zero, List.set_cons_succ]
            refine calm_to (i := 2) (t := 33) (v := .int .i64 (W : Int)) rfl rfl (by kernel_rfl) (by kernel_rfl) (by kernel_rfl) (fun _ _ _ h => h) (calm_move rfl (.tmp 1) (.inl rfl) rfl) ?_
            simp only [List.setIfInBounds_toArray, List.set_cons_zero, List.set_cons_succ]
            refine calm_to (i := 3) (t := 34) (v := .int .i64 ((W : Int) - 1)) rfl rfl (by kernel_rfl) (by kernel_rfl) (by kernel_rfl) (fun _ _ _ h => h) (calm_of rfl (fun U _ => by go_simp)) ?_
            simp only [List.setIfInBounds_toArray, List.set_cons_zero, List.set_cons_succ]
            refine calm_to (i := 4) (t := 35) (v := .bool false) rfl rfl (by kernel_rfl) (by kernel_rfl) (by kernel_rfl) (fun _ _ _ h => h) (calm_call3 rfl 40 (.tmp 32) (.const (.int .i64 0)) (.tmp 34) _ rfl eg_within _ _ _ rfl rfl rfl (fun U hU => (within_en xa 0 ((W : Int) - 1) U).mono (fun e U2 h => ⟨by rw [h.1, HXI.out], h.2 ▸ hU⟩))) ?_
            simp only [List.setIfInBounds_toArray, List.set_cons_zero, List.set_cons_succ]
            refine calm_to (i := 5) (t := 36) (v := .bool true) rfl rfl (by kernel_rfl) (by kernel_rfl) (by kernel_rfl) (fun _ _ _ h => h) (calm_of rfl (fun U _ => by go_simp)) ?_
            simp only [List.setIfInBounds_toArray, List.set_cons_zero, List.set_cons_succ]
            refine calm_to (i := 6) (t := 37) (v := .bool true) rfl rfl (by kernel_rfl) (by kernel_rfl) (by kernel_rfl) (fun _ _ _ h => h) (calm_move rfl (.tmp 36) (.inl rfl) rfl) ?_
            simp only [List.setIfInBounds_toArray, List.set_cons_zero, List.set_cons_succ]
            refine calm_to (i := 7) (t := 38) (v := undef) rfl rfl (by kernel_rfl) (by kernel_rfl) (by kernel_rfl) (fun _ _ _ h => h) (calm_skip rfl) ?_
            simp only [List.setIfInBounds_toArray, List.set_cons_zero, List.set_cons_succ]
            refine calm_to (i := 8) (t := 39) (v := undef) rfl rfl (by kernel_rfl) (by kernel_rfl) (by kernel_rfl) (fun _ _ _ h => h) (calm_skip rfl) ?_
            simp only [List.setIfInBounds_toArray, List.set_cons_zero, List.set_cons_succ]
            refine calm_to (i := 9) (t := 40) (v := undef) rfl rfl (by kernel_rfl) (by kernel_rfl) (by kernel_rfl) (fun _ _ _ h => h) (calm_skip rfl) ?_
            simp only [List.setIfInBounds_toArray, List.set_cons_zero, List.set_cons_succ]
            refine calm_to (i := 10) (t := 41) (v := undef) rfl rfl (by kernel_rfl) (by kernel_rfl) (by kernel_rfl) (fun _ _ _ h => h) (calm_skip rfl) ?_
            simp only [List.setIfInBounds_toArray, List.set_cons_zero, List.set_cons_succ]
            refine calm_to (i := 11) (t := 42) (v := undef) rfl rfl (by kernel_rfl) (by kernel_rfl) (by kernel_rfl) (fun _ _ _ h => h) (calm_skip rfl) ?_
            simp only [List.setIfInBounds_toArray, List.set_cons_zero, List.set_cons_succ]
            refine calm_to (i := 12) (t := 43) (v := undef) rfl rfl (by kernel_rfl) (by kernel_rfl) (by kernel_rfl) (fun _ _ _ h => h) (calm_skip rfl) ?_
            simp only [List.setIfInBounds_toArray, List.set_cons_zero, List.set_cons_succ]
            refine calm_to (i := 13) (t := 44) (v := undef) rfl rfl (by kernel_rfl) (by kernel_rfl) (by kernel_rfl) (fun _ _ _ h => h) (calm_skip rfl) ?_
            simp only [List.setIfInBounds_toArray, List.set_cons_zero, List.set_cons_succ]
            refine calm_to (i := 14) (t := 45) (v := undef) rfl rfl (by kernel_rfl) (by kernel_rfl) (by kernel_rfl) (fun _ _ _ h => h) (calm_skip rfl) ?_
            simp only [List.setIfInBounds_toArray, List.set_cons_zero, List.set_cons_succ]
            refine calm_to (i := 15) (t := 46) (v := undef) rfl rfl (by kernel_rfl) (by kernel_rfl) (by kernel_rfl) (fun _ _ _ h => h) (calm_skip rfl) ?_
            simp only [List.setIfInBounds_toArray, List.set_cons_zero, List.set_cons_succ]
            refine calm_to (i := 16) (t := 47) (v := .bool true) rfl rfl (by kernel_rfl) (by kernel_rfl) (by kernel_rfl) (fun _ _ _ h => h) (calm_pick rfl (.tmp 37) (.const (.bool true)) (.tmp 46) rfl true rfl rfl) ?_
            simp only [List.setIfInBounds_toArray, List.set_cons_zero, List.set_cons_succ]
            refine calm_done (by kernel_rfl) (fun U hU => ?_) _
            have BF := Lib.hid (B3.out.trans ((below3 B2.out hU).mono (B3.out.size)))
            clear hU
            go_wp2_with fail
            exact bodyPost_ret (results_tmp2 rfl _ _ _) rfl (by rw [HR.out]; exact ⟨rfl, BF.out⟩)
        · obtain rfl : k = S := by omega
          have hs := HS.out
          have HI9 := Lib.hid (OF.out.intsN HL.out.1)
          have K58 := Lib.hid (And.intro (K8.out.below BB.out K8.out.lt) (K5.out.below BB.out K5.out.lt))
          have HCT := Lib.hid (contains_miss (some ⟨V2.heap.size, 0, none⟩) W W fs g8 g5 k d wn D wr HI9.out K58.out.1 K58.out.2 (fun j hj => by rw [HL.out.2 j hj]; have := lastE_le st j k; omega) HKB.out)
          go_wp2_with fail
          refine HCT.out.mono ?_
          rintro e U ⟨r, rfl, h1, h2, bU⟩
          have BF := Lib.hid (B3.out.trans ((below3 BB.out bU).mono (B3.out.size)))
          cases r
          · have HR : Hid (fairR l W wn = (true, 0)) := Lib.hid (fairR_ok HRG.out HSO.out (fun j hj => (OK.out j (by omega)).1) (fun j hj => (OK.out j (by omega)).2) (fun v hv => by
              have h3 := h2 rfl v hv
              unfold missE at h3
              have h3 := of_decide_eq_false h3
              rw [HL.out.2 v hv] at h3
              rw [hs]
              have := lastE_le st v k
              omega))
            clear h1 h2 bU HCT
            go_wp2_with fail
            exact bodyPost_ret (results_tmp2 rfl _ _ _) rfl (by rw [HR.out]; exact ⟨rfl, BF.out⟩)
          · have HR : Hid (fairR l W wn = (false, 0)) := Lib.hid (by
              obtain ⟨v, hv, h3⟩ := h1 rfl
              unfold missE at h3
              have h3 := of_decide_eq_true h3
              rw [HL.out.2 v hv] at h3
              refine fairR_gap (j := k) (v := v) HRG.out HSO.out (by omega) hv ?_
              have := lastE_le st v k
              omega)
            clear h1 h2 bU HCT
            go_wp2_with fail
            exact bodyPost_ret (results_tmp2 rfl _ _ _) rfl (by rw [HR.out]; exact ⟨rfl, BF.out⟩)
    · have HR : Hid (fairR l W wd = (false, 1)) := Lib.hid (fairR_no (fun q => hw1 q.2))
      have HIN : Hid ((decide ((1 : Int) ≤ W) && decide (W ≤ 64)) = true) := Lib.hid (by simp; omega)
      have t1 : decide (wd < 1) = true := decide_eq_true (by omega)
      clear hw1 hW
      rw [HR.out]
      go_enter Try.func18, Try.ntmps18
      go_upto_region 1 with fail
      rw [HV.out, HG5.out]
      clear HV
      have c5 := KV.out.one
      have l5 := KV.out.lt
      go_wp2_with fail
      refine (within_en W 1 64 _).mono ?_
      rintro e U ⟨rfl, hU⟩
      subst hU
      rw [HIN.out]
      go_wp2_with fail
      exact bodyPost_ret (results_tmp2 rfl _ _ _) rfl (by exact ⟨rfl, BV.out⟩)
  · have HR : Hid (fairR l W wd = (false, 1)) := Lib.hid (fairR_no (fun q => hW q.1))
    have HIN : Hid ((decide ((1 : Int) ≤ W) && decide (W ≤ 64)) = false) := Lib.hid (by simp; omega)
    have bv := (Below.refl w.heap.size w).alloc (Nat.le_refl _) (.cells #[.int .i64 wd] 3)
    obtain ⟨V, hV⟩ : ∃ V, w.alloc (.cells #[.int .i64 wd] 3) = V := ⟨_, rfl⟩
    rw [hV] at bv
    have HV := Lib.hid hV
    have BV := Lib.hid bv
    clear hW hV bv
    rw [HR.out]
    go_enter Try.func18, Try.ntmps18
    go_upto_region 1 with fail
    rw [HV.out]
    clear HV
    go_wp2_with fail
    refine (within_en W 1 64 _).mono ?_
    rintro e U ⟨rfl, hU⟩
    subst hU
    rw [HIN.out]
    go_wp2_with fail
    exact bodyPost_ret (results_tmp2 rfl _ _ _) rfl (by exact ⟨rfl, BV.out⟩)

end Go.Proofs.Ytpfnoohcilefhaa
