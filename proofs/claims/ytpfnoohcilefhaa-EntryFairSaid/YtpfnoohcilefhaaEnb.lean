/-
  Layer 19, the document: Write.
-/
import Derived.Test.YtpfnoohcilefhaaEna
import Derived.Test.YtpfnoohcilefhaaKit
namespace Go.Proofs.Ytpfnoohcilefhaa
open Go.RowKit

theorem octs3_en {w : World} {g : Nat} {t : TypeId} {a b c : Int} (h : Bk w g t #[.int .u8 a, .int .u8 b, .int .u8 c]) (ha : Oct a) (hb : Oct b) (hc : Oct c) : Octs w (some ⟨g, 0, none⟩) 3 [a, b, c] := by
  refine ⟨rfl, by omega, by simp [ha, hb, hc], fun _ => ⟨g, 0, rfl, h.lt, fun j hj => ?_⟩⟩
  rw [Nat.zero_add, h.cell]
  match j, hj with
  | 0, _ => rfl
  | 1, _ => rfl
  | 2, _ => rfl
theorem Try.octInfoE : (Try.prog.info? 5).map (fun i => (i.zero, i.size, i.bytes)) = some (some (.int .u8 0), 1, 1) := by kernel_rfl
/-- Octets are handed back. -/
def WriteP (r : List Int × Int) (w : World) (e : Ending) (w' : World) : Prop := ∃ A c, e = .returned (.tuple #[.slice A r.1.length c, .int .i64 r.2]) ∧ OwnO 5 w' w.heap.size A c r.1 ∧ Below w.heap.size w w'
theorem txE_next {l : List I3} {k : Nat} (h : k < l.length) : txE (l.take (k + 1)) = txE (l.take k) ++ [(ith l k).1, (ith l k).2.1, (ith l k).2.2] := by
  rw [ith_takeE h, txE_app]
  rfl

set_option maxHeartbeats 4000000 in
theorem rwriteE_any (A : Option Addr) (n c : Nat) (l : List I3) (w : World) (hp : Prog w A n c l) :
    Calls Try.prog 15 #[.slice A n c] w (WriteP (wrR l) w) := by
  have HP := Lib.hid hp
  have LX := Lib.hid hp.1
  have hnc := hp.2.1
  have HC := Lib.hid (rcheckE_any A n c l w hp)
  clear hp
  by_cases h : chkE19 l = 0
  · rw [wrR_ok h]
    have HE := Lib.hid h
    have HALL := Lib.hid (chkE19_zero h).2
    have hn6 : n ≤ 65536 := by have := (chkE19_zero h).1; have := LX.out; omega
    clear h
    go_enter Try.func15, Try.ntmps15
    go_wp2_with fail
    refine HC.out.mono ?_
    rw [HE.out]
    rintro e U ⟨rfl, bU⟩
    have BB := Lib.hid bU
    clear bU HC
    go_wp2_with fail
    go_loopw [5, 15] (fun u t wr => ∃ (k : Nat) (D : Option Addr) (d : Nat), k ≤ n ∧ t = .int .i64 k ∧ u = .slice D (txE (l.take k)).length d ∧ Hid (Below w.heap.size w wr) ∧ Hid (OwnO 5 wr w.heap.size D d (txE (l.take k)))) (fun _ t _ => n - (intOf t).toNat)
    case atStart => exact ⟨0, none, 0, Nat.zero_le _, rfl, rfl, BB, Lib.hid (OwnO.nil_ _ _ _)⟩
    case round =>
      clear BB
      rename World => wr
      obtain ⟨k, D, d, hk, rfl, rfl, BB, OD⟩ := hrel
      by_cases hkn : k < n
      · obtain ⟨b, o, rfl, hb, c0, c1, c2⟩ := (HP.out.below BB.out).at_ hkn
        have hkl : k < l.length := by rw [LX.out]; exact hkn
        have hnx := txE_next hkl
        have hmy := HALL.out k hkl
        obtain ⟨⟨kd, xa, xb⟩, hz⟩ : ∃ e, ith l k = e := ⟨_, rfl⟩
        rw [show jO l k = kd by unfold jO; rw [hz]] at c0
        rw [show jA l k = xa by unfold jA; rw [hz]] at c1
        rw [show jB l k = xb by unfold jB; rw [hz]] at c2
        rw [hz] at hnx hmy
        dsimp only at hnx
        obtain ⟨⟨m1, m2⟩, ⟨m3, m4⟩, ⟨m5, m6⟩, -, -⟩ := mayE_iff.1 hmy
        dsimp only at m1 m2 m3 m4 m5 m6
        have hle : (txE (l.take k)).length = 3 * k := by rw [txE_len, List.length_take]; omega
        obtain ⟨v, hv⟩ : ∃ v, txE (l.take k) = v := ⟨_, rfl⟩
        rw [hv] at hnx hle OD ⊢
        have HNX := Lib.hid hnx
        have HLE := Lib.hid hle
        have o1 : Oct kd := by unfold Oct; omega
        have o2 : Oct xa := by unfold Oct; omega
        have o3 : Oct xb := by unfold Oct; omega
        have HO3 := Lib.hid (And.intro o1 (And.intro o2 o3))
        clear hz hmy hnx hle hv hkl
        have kt := Bk.new wr 45 #[.int .i64 kd, .int .i64 xa, .int .i64 xb]
        have ba := (Below.refl wr.heap.size wr).alloc (Nat.le_refl _) (.cells #[.int .i64 kd, .int .i64 xa, .int .i64 xb] 45)
        have B2 := Lib.hid (below3 BB.out ba)
        replace OD := Lib.hid (OD.out.below ba)
        obtain ⟨W, hW⟩ : ∃ W, wr.alloc (.cells #[.int .i64 kd, .int .i64 xa, .int .i64 xb] 45) = W := ⟨_, rfl⟩
        obtain ⟨g, hg⟩ : ∃ g, wr.heap.size = g := ⟨_, rfl⟩
        rw [hW] at kt B2 OD
        rw [hg] at kt
        have HW := Lib.hid hW
        have HG := Lib.hid hg
        have KE := Lib.hid kt
        clear hW hg kt ba
        go_upto_region 8 with fail
        rw [HW.out, HG.out]
        clear HW HG c0 c1 c2 hb
        obtain ⟨q0, q1, q2⟩ := KE.out.c3e
        have lE := KE.out.lt
        have w1 : IntKind.u8.wrap kd = kd := by rw [IntKind.wrap_u8]; omega
        have w2 : IntKind.u8.wrap xa = xa := by rw [IntKind.wrap_u8]; omega
        have w3 : IntKind.u8.wrap xb = xb := by rw [IntKind.wrap_u8]; omega
        clear m1 m2 m3 m4 m5 m6 o1 o2 o3
        have bl := Lib.hid ((Below.refl W.heap.size W).alloc (Nat.le_refl _) (.cells #[.int .u8 kd, .int .u8 xa, .int .u8 xb] 5))
        have kk := Lib.hid (octs3_en (Bk.new W 5 #[.int .u8 kd, .int .u8 xa, .int .u8 xb]) HO3.out.1 HO3.out.2.1 HO3.out.2.2)
        go_wp2_with (at_builtin; refine wpList_append_octs _ rfl _ _ 32 rfl 5 Try.underlying32 Try.octInfoE w.heap.size D d v v.length rfl rfl (OD.out.below bl.out) (some ⟨W.heap.size, 0, none⟩) 3 3 [kd, xa, xb] rfl kk.out (by have := HLE.out; omega) (Nat.le_trans B2.out.size bl.out.size) ?_; intro D1 d1 w1 ho hg; have HO := Lib.hid ho; have HB := Lib.hid ((below3 B2.out bl.out).grown hg (Nat.le_trans B2.out.size bl.out.size) (OD.out.block)); clear ho hg)
        go_roundw
        case rel => exact ⟨k + 1, D1, d1, by omega, by go_num, by rw [HNX.out]; simp, HB, by rw [HNX.out]; exact HO⟩
        case measure => simp [intOf]; omega
      · have HE2 : Hid (txE (l.take k) = txE l) := Lib.hid (by rw [List.take_of_length_le (by have := LX.out; omega)])
        rw [HE2.out] at OD ⊢
        go_wp2_with fail
        exact bodyPost_ret (results_tmp2 rfl _ _ _) rfl (by exact ⟨D, d, rfl, OD.out, BB.out⟩)
  · rw [wrR_no h]
    obtain ⟨er, her⟩ : ∃ e, chkE19 l = e := ⟨_, rfl⟩
    rw [her] at h ⊢
    have HE := Lib.hid her
    have t0 : (er != 0) = true := by simpa using h
    clear h her
    go_enter Try.func15, Try.ntmps15
    go_wp2_with fail
    refine HC.out.mono ?_
    rw [HE.out]
    rintro e U ⟨rfl, bU⟩
    have BB := Lib.hid bU
    clear bU HC
    go_wp2_with fail
    exact bodyPost_ret (results_tmp2 rfl _ _ _) rfl (by exact ⟨none, 0, rfl, OwnO.nil_ _ _ _, BB.out⟩)

end Go.Proofs.Ytpfnoohcilefhaa
