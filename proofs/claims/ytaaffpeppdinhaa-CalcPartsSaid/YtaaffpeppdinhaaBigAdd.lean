/-
  The document's answer of layer 2, numbers of a sign and sixteen parts: the contract of Add, where both signs are the same.
-/
import Derived.Test.YtaaffpeppdinhaaBigC
namespace Go.Proofs.Ytaaffpeppdinhaa
open Go.RowKit

/-- How far a sum's loop has come: what the first block holds now, what is carried. -/
def AddI (w wr : World) (m : Bool) (d : Array Value) (Q : List Int → Int → Prop) (y : Value) : Prop := ∃ over C cc, y = .int .u64 over ∧ BigC cc m C ∧ Q C over ∧ Bk wr w.heap.size 44 cc ∧ Bk wr (w.heap.size + 1) 44 d ∧
  Bk wr (w.heap.size + 1 + 1) 44 (zc false) ∧ Below w.heap.size w wr

theorem AddI.mk' {w wr : World} {m : Bool} {d : Array Value} {Q : List Int → Int → Prop} {over : Int} {C : List Int} {cc : Array Value} (hb : BigC cc m C) (hq : Q C over) (k1 : Bk wr w.heap.size 44 cc) (k2 : Bk wr (w.heap.size + 1) 44 d)
    (k3 : Bk wr (w.heap.size + 1 + 1) 44 (zc false)) (bw : Below w.heap.size w wr) : AddI w wr m d Q (.int .u64 over) := ⟨over, C, cc, rfl, hb, hq, k1, k2, k3, bw⟩

set_option maxHeartbeats 2000000 in
theorem add_tt (c d : Array Value) (K L : List Int) (w : World) (hc : BigC c true K) (hd : BigC d true L) (dK : Dig K) (dL : Dig L) (hV : val K + val L < 65536 ^ 16)
    (hG : ∀ cc C, BigC cc true C → Dig C → val C = val K + val L → Big cc (-val K + -val L)) :
    Calls Try.prog 28 #[.agg c, .agg d] w (BigAns (-val K + -val L) w) := by
  obtain ⟨k1, k2, k3, bw⟩ := lies3 w c d (zc false) 44
  have c0 := hc.sign
  have d0 := hd.sign
  have K1 := Lib.hid k1
  have K2 := Lib.hid k2
  have K3 := Lib.hid k3
  have BW := Lib.hid bw
  have HC := Lib.hid hc
  have HD := Lib.hid hd
  have DK := Lib.hid dK
  have DL := Lib.hid dL
  have HV := Lib.hid hV
  have HG := Lib.hid hG
  clear k1 k2 k3 bw hc hd dK dL hV hG
  go_enter Try.func28, Try.ntmps28
  go_wp2
  go_loopg [8, 51] 16 (fun k y x wr => ∃ i : Nat, i ≤ 16 ∧ k = 16 - i ∧ x = .int .i64 i ∧ AddI w wr true d (fun C over => Plus K L C over i) y)
  case atStart => exact ⟨0, by omega, by omega, rfl, AddI.mk' HC.out ⟨HC.out.2, DK.out, by omega, by omega, by rw [pre_zero]; omega⟩ K1.out K2.out K3.out BW.out⟩
  case round =>
    obtain ⟨i, hi, rfl, rfl, over, C, cc, rfl, hb, hq, j1, j2, j3, bw⟩ := hrel
    have HB := Lib.hid hb
    have HQ := Lib.hid hq
    have J1 := Lib.hid j1
    have J2 := Lib.hid j2
    have J3 := Lib.hid j3
    have BR := Lib.hid bw
    clear hb hq j1 j2 j3 bw
    by_cases hlt : i < 16
    · have x1 : wr.cell? ⟨w.heap.size, 1 + i, none⟩ = some (.int .u64 (nth C i)) := (J1.out.cell _).trans (HB.out.part hlt)
      have f1 := J1.out.frozen (1 + i)
      have x2 : wr.cell? ⟨w.heap.size + 1, 1 + i, none⟩ = some (.int .u64 (nth L i)) := (J2.out.cell _).trans (HD.out.part hlt)
      have b1 : (i : Int) < 16 := by omega
      have p1 := HQ.out.2.1.nth i
      have p2 := DL.out.nth i
      have p3 := HQ.out.2.2.1
      have p4 := HQ.out.2.2.2.1
      have e1 : IntKind.u64.wrap (nth C i + nth L i) = nth C i + nth L i := by rw [IntKind.wrap_u64]; omega
      obtain ⟨v, hv⟩ : ∃ v, v = over + (nth C i + nth L i) := ⟨_, rfl⟩
      have e2 : IntKind.u64.wrap (over + (nth C i + nth L i)) = v := by rw [IntKind.wrap_u64, hv]; omega
      have v0 : 0 ≤ v := by omega
      have v1 : v ≤ 200000 := by omega
      have HN := Lib.hid (plus_step DL.out HD.out.2 hlt HQ.out)
      rw [← hv] at HN
      clear hv p1 p2 p3 p4
      go_wp2
      go_region
      go_wp2
      go_roundg (16 - (i + 1))
      case measure => omega
      case rel => exact ⟨i + 1, by omega, by omega, by go_num, AddI.mk' (HB.out.set_part i _) HN.out (J1.out.set_ _ _) (J2.out.far (by simp) _) (J3.out.far (by simp <;> omega) _) ((BR.out.setCell (p := ⟨w.heap.size, 1 + i, none⟩) (Nat.le_refl _) _).drew)⟩
    · obtain rfl : i = 16 := by omega
      obtain ⟨g1, g2, g3⟩ := plus_end HD.out.2 HQ.out HV.out
      have hbig := Lib.hid (HG.out cc C HB.out g1 g3)
      have hs := HB.out.size
      have h1 := HB.out.all
      have j1 := J1.out
      have j3 := J3.out
      clear g1 g2 g3
      go_wp2_with (first | (refine wpl_load rfl (.tmp 2) rfl _ rfl j1 hs ?_) | (refine wpl_store rfl (.tmp 4) (.tmp 73) rfl _ rfl rfl j3 (zc_size false) hs h1 ?_))
      exact ret_big Try.results28 rfl rfl (j3.row cc) hs ⟨cc, rfl, hbig.out, below_row BR.out (by omega) cc⟩

set_option maxHeartbeats 2000000 in
theorem add_ff (c d : Array Value) (K L : List Int) (w : World) (hc : BigC c false K) (hd : BigC d false L) (dK : Dig K) (dL : Dig L) (hV : val K + val L < 65536 ^ 16)
    (hG : ∀ cc C, BigC cc false C → Dig C → val C = val K + val L → Big cc (val K + val L)) :
    Calls Try.prog 28 #[.agg c, .agg d] w (BigAns (val K + val L) w) := by
  obtain ⟨k1, k2, k3, bw⟩ := lies3 w c d (zc false) 44
  have c0 := hc.sign
  have d0 := hd.sign
  have K1 := Lib.hid k1
  have K2 := Lib.hid k2
  have K3 := Lib.hid k3
  have BW := Lib.hid bw
  have HC := Lib.hid hc
  have HD := Lib.hid hd
  have DK := Lib.hid dK
  have DL := Lib.hid dL
  have HV := Lib.hid hV
  have HG := Lib.hid hG
  clear k1 k2 k3 bw hc hd dK dL hV hG
  go_enter Try.func28, Try.ntmps28
  go_wp2
  go_loopg [8, 51] 16 (fun k y x wr => ∃ i : Nat, i ≤ 16 ∧ k = 16 - i ∧ x = .int .i64 i ∧ AddI w wr false d (fun C over => Plus K L C over i) y)
  case atStart => exact ⟨0, by omega, by omega, rfl, AddI.mk' HC.out ⟨HC.out.2, DK.out, by omega, by omega, by rw [pre_zero]; omega⟩ K1.out K2.out K3.out BW.out⟩
  case round =>
    obtain ⟨i, hi, rfl, rfl, over, C, cc, rfl, hb, hq, j1, j2, j3, bw⟩ := hrel
    have HB := Lib.hid hb
    have HQ := Lib.hid hq
    have J1 := Lib.hid j1
    have J2 := Lib.hid j2
    have J3 := Lib.hid j3
    have BR := Lib.hid bw
    clear hb hq j1 j2 j3 bw
    by_cases hlt : i < 16
    · have x1 : wr.cell? ⟨w.heap.size, 1 + i, none⟩ = some (.int .u64 (nth C i)) := (J1.out.cell _).trans (HB.out.part hlt)
      have f1 := J1.out.frozen (1 + i)
      have x2 : wr.cell? ⟨w.heap.size + 1, 1 + i, none⟩ = some (.int .u64 (nth L i)) := (J2.out.cell _).trans (HD.out.part hlt)
      have b1 : (i : Int) < 16 := by omega
      have p1 := HQ.out.2.1.nth i
      have p2 := DL.out.nth i
      have p3 := HQ.out.2.2.1
      have p4 := HQ.out.2.2.2.1
      have e1 : IntKind.u64.wrap (nth C i + nth L i) = nth C i + nth L i := by rw [IntKind.wrap_u64]; omega
      obtain ⟨v, hv⟩ : ∃ v, v = over + (nth C i + nth L i) := ⟨_, rfl⟩
      have e2 : IntKind.u64.wrap (over + (nth C i + nth L i)) = v := by rw [IntKind.wrap_u64, hv]; omega
      have v0 : 0 ≤ v := by omega
      have v1 : v ≤ 200000 := by omega
      have HN := Lib.hid (plus_step DL.out HD.out.2 hlt HQ.out)
      rw [← hv] at HN
      clear hv p1 p2 p3 p4
      go_wp2
      go_region
      go_wp2
      go_roundg (16 - (i + 1))
      case measure => omega
      case rel => exact ⟨i + 1, by omega, by omega, by go_num, AddI.mk' (HB.out.set_part i _) HN.out (J1.out.set_ _ _) (J2.out.far (by simp) _) (J3.out.far (by simp <;> omega) _) ((BR.out.setCell (p := ⟨w.heap.size, 1 + i, none⟩) (Nat.le_refl _) _).drew)⟩
    · obtain rfl : i = 16 := by omega
      obtain ⟨g1, g2, g3⟩ := plus_end HD.out.2 HQ.out HV.out
      have hbig := Lib.hid (HG.out cc C HB.out g1 g3)
      have hs := HB.out.size
      have h1 := HB.out.all
      have j1 := J1.out
      have j3 := J3.out
      clear g1 g2 g3
      go_wp2_with (first | (refine wpl_load rfl (.tmp 2) rfl _ rfl j1 hs ?_) | (refine wpl_store rfl (.tmp 4) (.tmp 73) rfl _ rfl rfl j3 (zc_size false) hs h1 ?_))
      exact ret_big Try.results28 rfl rfl (j3.row cc) hs ⟨cc, rfl, hbig.out, below_row BR.out (by omega) cc⟩

end Go.Proofs.Ytaaffpeppdinhaa
