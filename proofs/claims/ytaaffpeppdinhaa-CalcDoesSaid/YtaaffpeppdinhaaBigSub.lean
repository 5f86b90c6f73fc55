/-
  The document's answer of layer 2, numbers of a sign and sixteen parts: the contract of Add, where both signs are not the same.
-/
import Derived.Test.YtaaffpeppdinhaaBigAdd
import Derived.Test.YtaaffpeppdinhaaOrder0
namespace Go.Proofs.Ytaaffpeppdinhaa
open Go.RowKit

theorem part_of {c : Array Value} {m : Bool} {L : List Int} (h : BigC c m L) : PartC (L.map (Value.int .u64)).toArray L := ⟨rfl, h.2⟩

set_option maxHeartbeats 2000000 in
theorem add_tf (c d : Array Value) (K L : List Int) (w : World) (hc : BigC c true K) (hd : BigC d false L) (dK : Dig K) (dL : Dig L) (hV : val L ≤ val K)
    (hG : ∀ cc C, BigC cc true C → Dig C → val C = val K - val L → (val C ≠ 0 → Big cc (-val K + val L)) ∧ (val C = 0 → Big (cc.setIfInBounds 0 (.bool false)) (-val K + val L))) :
    Calls Try.prog 28 #[.agg c, .agg d] w (BigAns (-val K + val L) w) := by
  obtain ⟨k1, k2, k3, bw⟩ := lies3 w c d (zc false) 44
  obtain ⟨sv, hs1, hs2⟩ : ∃ sv, sgn (val K) (val L) = sv ∧ 0 ≤ sv := by
    refine ⟨_, rfl, ?_⟩
    rcases sgn_cases (val K) (val L) with ⟨h, h'⟩ | ⟨h, h'⟩ | ⟨h, h'⟩ <;> rw [h] <;> omega
  have HS := Lib.hid hs1
  have c0 := hc.sign
  have d0 := hd.sign
  have BW := Lib.hid bw
  have HC := Lib.hid hc
  have HD := Lib.hid hd
  have DK := Lib.hid dK
  have DL := Lib.hid dL
  have HV := Lib.hid hV
  have HG := Lib.hid hG
  clear bw hc hd dK dL hV hG hs1
  go_enter Try.func28, Try.ntmps28
  go_wp2_with (first | (refine wpl_parts rfl (.tmp 15) rfl _ rfl k1 HC.out ?_) | (refine wpl_parts rfl (.tmp 17) rfl _ rfl k2 HD.out ?_) | fail)
  refine (more_any _ _ K L _ (part_of HC.out) (part_of HD.out) DK.out DL.out).mono ?_
  rw [HS.out]
  rintro e U ⟨rfl, hb1⟩
  have u1 := k1.below hb1 (by simp <;> omega)
  have u2 := k2.below hb1 (by simp <;> omega)
  have u3 := k3.below hb1 (by simp <;> omega)
  have BU := Lib.hid (below3 BW.out hb1 (by simp))
  clear hb1 k1 k2 k3
  go_wp2
  go_loopg [5, 23] 16 (fun k y x wr => ∃ i : Nat, i ≤ 16 ∧ k = 16 - i ∧ x = .int .i64 i ∧ AddI w wr true d (fun C under => Less_ K L C under i) y)
  case atStart => exact ⟨0, by omega, by omega, rfl, AddI.mk' HC.out ⟨HC.out.2, DK.out, by omega, by omega, by rw [pre_zero]; omega⟩ u1 u2 u3 BU.out⟩
  case round =>
    clear u1 u2 u3
    obtain ⟨i, hi, rfl, rfl, under, C, cc, rfl, hb, hq, j1, j2, j3, bw⟩ := hrel
    have HB := Lib.hid hb
    have HQ := Lib.hid hq
    have J1 := Lib.hid j1
    have J2 := Lib.hid j2
    have J3 := Lib.hid j3
    have BR := Lib.hid bw
    clear hb hq j1 j2 j3 bw
    by_cases hlt : i < 16
    · have x1 : wr.cell? ⟨w.heap.size, 1 + i, none⟩ = some (.int .u64 (nth C i)) := (J1.out.cell _).trans (HB.out.part hlt)
      have f1 := J1.out.frozen (1 + i)
      have x2 : wr.cell? ⟨w.heap.size + 1, 1 + i, none⟩ = some (.int .u64 (nth L i)) := (J2.out.cell _).trans (HD.out.part hlt)
      have b1 : (i : Int) < 16 := by omega
      have p1 := HQ.out.2.1.nth i
      have p2 := DL.out.nth i
      have p3 := HQ.out.2.2.1
      have p4 := HQ.out.2.2.2.1
      have e1 : IntKind.u64.wrap (65536 + nth C i) = 65536 + nth C i := by rw [IntKind.wrap_u64]; omega
      have e2 : IntKind.u64.wrap (65536 + nth C i - nth L i) = 65536 + nth C i - nth L i := by rw [IntKind.wrap_u64]; omega
      obtain ⟨v, hv⟩ : ∃ v, v = 65536 + nth C i - nth L i - under := ⟨_, rfl⟩
      have e3 : IntKind.u64.wrap (65536 + nth C i - nth L i - under) = v := by rw [IntKind.wrap_u64, hv]; omega
      have v0 : 0 ≤ v := by omega
      have v1 : v ≤ 131072 := by omega
      have e4 : IntKind.u64.wrap (1 - v / 65536) = 1 - v / 65536 := by rw [IntKind.wrap_u64]; omega
      have HN := Lib.hid (less_step DL.out HD.out.2 hlt HQ.out)
      rw [← hv] at HN
      clear hv p1 p2 p3 p4
      go_wp2
      go_region
      go_wp2
      go_roundg (16 - (i + 1))
      case measure => omega
      case rel => exact ⟨i + 1, by omega, by omega, by go_num, AddI.mk' (HB.out.set_part i _) HN.out (J1.out.set_ _ _) (J2.out.far (by simp) _) (J3.out.far (by simp <;> omega) _) ((BR.out.setCell (p := ⟨w.heap.size, 1 + i, none⟩) (Nat.le_refl _) _).drew)⟩
    · obtain rfl : i = 16 := by omega
      obtain ⟨g1, g2, g3⟩ := less_end HD.out.2 HQ.out (by have := HV.out; omega)
      have hbig := HG.out cc C HB.out g1 g3
      have G1 := Lib.hid g1
      have hs := HB.out.size
      have h1 := HB.out.all
      have hs2 := (HB.out.set_sign false).size
      have h2 := (HB.out.set_sign false).all
      have j1 := J1.out
      clear g1 g2 g3
      by_cases h0 : val C = 0
      · have HBG := Lib.hid (hbig.2 h0)
        have HZ := Lib.hid (decide_eq_true h0)
        clear hbig h0
        go_wp2_with (first | (refine wpl_load rfl (.tmp 2) rfl _ rfl j1 hs ?_) | fail)
        refine (zero_parts cc true C _ HB.out G1.out).mono ?_
        rw [HZ.out]
        rintro e V ⟨rfl, hb2⟩
        have q1 := J1.out.below hb2 J1.out.lt
        have q3 := J3.out.below hb2 J3.out.lt
        have y0 : V.cell? ⟨w.heap.size, 0, none⟩ = some (.bool true) := (q1.cell 0).trans HB.out.sign
        have yf := q1.frozen 0
        have r1 := q1.set_ 0 (.bool false)
        have r3 := q3.far (p := ⟨w.heap.size, 0, none⟩) (by simp <;> omega) (.bool false)
        have BB := Lib.hid ((below3 BR.out hb2 (by have := BR.out.size; omega)).setCell (p := ⟨w.heap.size, 0, none⟩) (Nat.le_refl _) (.bool false))
        clear hb2 q1 q3 j1
        go_wp2_with (first | (refine wpl_load rfl (.tmp 2) rfl _ rfl r1 hs2 ?_) | (refine wpl_store rfl (.tmp 4) (.tmp 50) rfl _ rfl rfl r3 (zc_size false) hs2 h2 ?_))
        exact ret_big Try.results28 rfl rfl (r3.row _) hs2 ⟨_, rfl, HBG.out, below_row BB.out (by omega) _⟩
      · have HBG := Lib.hid (hbig.1 h0)
        have HZ := Lib.hid (decide_eq_false h0)
        clear hbig h0
        go_wp2_with (first | (refine wpl_load rfl (.tmp 2) rfl _ rfl j1 hs ?_) | fail)
        refine (zero_parts cc true C _ HB.out G1.out).mono ?_
        rw [HZ.out]
        rintro e V ⟨rfl, hb2⟩
        have q1 := J1.out.below hb2 J1.out.lt
        have q3 := J3.out.below hb2 J3.out.lt
        have BB := Lib.hid (below3 BR.out hb2 (by have := BR.out.size; omega))
        clear hb2 j1
        go_wp2_with (first | (refine wpl_load rfl (.tmp 2) rfl _ rfl q1 hs ?_) | (refine wpl_store rfl (.tmp 4) (.tmp 50) rfl _ rfl rfl q3 (zc_size false) hs h1 ?_))
        exact ret_big Try.results28 rfl rfl (q3.row _) hs ⟨_, rfl, HBG.out, below_row BB.out (by omega) _⟩

set_option maxHeartbeats 2000000 in
theorem add_tf_s (c d : Array Value) (K L : List Int) (w : World) (hc : BigC c true K) (hd : BigC d false L) (dK : Dig K) (dL : Dig L) (hV : val K < val L)
    (hG : ∀ cc C, BigC cc false C → Dig C → val C = val L - val K → (val C ≠ 0 → Big cc (-val K + val L)) ∧ (val C = 0 → Big (cc.setIfInBounds 0 (.bool false)) (-val K + val L))) :
    Calls Try.prog 28 #[.agg c, .agg d] w (BigAns (-val K + val L) w) := by
  obtain ⟨k1, k2, k3, bw⟩ := lies3 w c d (zc false) 44
  obtain ⟨sv, hs1, hs2⟩ : ∃ sv, sgn (val K) (val L) = sv ∧ sv < 0 := by
    refine ⟨_, rfl, ?_⟩
    rcases sgn_cases (val K) (val L) with ⟨h, h'⟩ | ⟨h, h'⟩ | ⟨h, h'⟩ <;> rw [h] <;> omega
  have HS := Lib.hid hs1
  have c0 := hc.sign
  have d0 := hd.sign
  have BW := Lib.hid bw
  have HC := Lib.hid hc
  have HD := Lib.hid hd
  have DK := Lib.hid dK
  have DL := Lib.hid dL
  have HV := Lib.hid hV
  have HG := Lib.hid hG
  clear bw hc hd dK dL hV hG hs1
  go_enter Try.func28, Try.ntmps28
  go_wp2_with (first | (refine wpl_parts rfl (.tmp 15) rfl _ rfl k1 HC.out ?_) | (refine wpl_parts rfl (.tmp 17) rfl _ rfl k2 HD.out ?_) | fail)
  refine (more_any _ _ K L _ (part_of HC.out) (part_of HD.out) DK.out DL.out).mono ?_
  rw [HS.out]
  rintro e U ⟨rfl, hb1⟩
  have u1 := k1.below hb1 (by simp <;> omega)
  have u2 := k2.below hb1 (by simp <;> omega)
  have u3 := k3.below hb1 (by simp <;> omega)
  have BU := Lib.hid (below3 BW.out hb1 (by simp))
  clear hb1 k1 k2 k3
  go_wp2_with (first | (refine wpl_load rfl (.tmp 3) rfl _ rfl u2 HD.out.size ?_) | (refine wpl_load rfl (.tmp 2) rfl _ rfl u1 HC.out.size ?_) | (refine wpl_store rfl (.tmp 2) (.tmp 21) rfl _ rfl rfl u1 HC.out.size HD.out.size HD.out.all ?_) | (refine wpl_store rfl (.tmp 3) (.tmp 22) rfl _ rfl rfl (u2.row_far (by omega) d) HD.out.size HC.out.size HC.out.all ?_))
  go_loopg [5, 23] 16 (fun k y x wr => ∃ i : Nat, i ≤ 16 ∧ k = 16 - i ∧ x = .int .i64 i ∧ AddI w wr false c (fun C under => Less_ L K C under i) y)
  case atStart => exact ⟨0, by omega, by omega, rfl, AddI.mk' HD.out ⟨HD.out.2, DL.out, by omega, by omega, by rw [pre_zero]; omega⟩ ((u1.row d).row_far (by omega) c) ((u2.row_far (by omega) d).row c) ((u3.row_far (by omega) d).row_far (by omega) c) (below_row (below_row BU.out (Nat.le_refl _) d) (by omega) c)⟩
  case round =>
    clear u1 u2 u3
    obtain ⟨i, hi, rfl, rfl, under, C, cc, rfl, hb, hq, j1, j2, j3, bw⟩ := hrel
    have HB := Lib.hid hb
    have HQ := Lib.hid hq
    have J1 := Lib.hid j1
    have J2 := Lib.hid j2
    have J3 := Lib.hid j3
    have BR := Lib.hid bw
    clear hb hq j1 j2 j3 bw
    by_cases hlt : i < 16
    · have x1 : wr.cell? ⟨w.heap.size, 1 + i, none⟩ = some (.int .u64 (nth C i)) := (J1.out.cell _).trans (HB.out.part hlt)
      have f1 := J1.out.frozen (1 + i)
      have x2 : wr.cell? ⟨w.heap.size + 1, 1 + i, none⟩ = some (.int .u64 (nth K i)) := (J2.out.cell _).trans (HC.out.part hlt)
      have b1 : (i : Int) < 16 := by omega
      have p1 := HQ.out.2.1.nth i
      have p2 := DK.out.nth i
      have p3 := HQ.out.2.2.1
      have p4 := HQ.out.2.2.2.1
      have e1 : IntKind.u64.wrap (65536 + nth C i) = 65536 + nth C i := by rw [IntKind.wrap_u64]; omega
      have e2 : IntKind.u64.wrap (65536 + nth C i - nth K i) = 65536 + nth C i - nth K i := by rw [IntKind.wrap_u64]; omega
      obtain ⟨v, hv⟩ : ∃ v, v = 65536 + nth C i - nth K i - under := ⟨_, rfl⟩
      have e3 : IntKind.u64.wrap (65536 + nth C i - nth K i - under) = v := by rw [IntKind.wrap_u64, hv]; omega
      have v0 : 0 ≤ v := by omega
      have v1 : v ≤ 131072 := by omega
      have e4 : IntKind.u64.wrap (1 - v / 65536) = 1 - v / 65536 := by rw [IntKind.wrap_u64]; omega
      have HN := Lib.hid (less_step DK.out HC.out.2 hlt HQ.out)
      rw [← hv] at HN
      clear hv p1 p2 p3 p4
      go_wp2
      go_region
      go_wp2
      go_roundg (16 - (i + 1))
      case measure => omega
      case rel => exact ⟨i + 1, by omega, by omega, by go_num, AddI.mk' (HB.out.set_part i _) HN.out (J1.out.set_ _ _) (J2.out.far (by simp) _) (J3.out.far (by simp <;> omega) _) ((BR.out.setCell (p := ⟨w.heap.size, 1 + i, none⟩) (Nat.le_refl _) _).drew)⟩
    · obtain rfl : i = 16 := by omega
      obtain ⟨g1, g2, g3⟩ := less_end HC.out.2 HQ.out (by have := HV.out; omega)
      have hbig := HG.out cc C HB.out g1 g3
      have G1 := Lib.hid g1
      have hs := HB.out.size
      have h1 := HB.out.all
      have hs2 := (HB.out.set_sign false).size
      have h2 := (HB.out.set_sign false).all
      have j1 := J1.out
      clear g1 g2 g3
      by_cases h0 : val C = 0
      · have HBG := Lib.hid (hbig.2 h0)
        have HZ := Lib.hid (decide_eq_true h0)
        clear hbig h0
        go_wp2_with (first | (refine wpl_load rfl (.tmp 2) rfl _ rfl j1 hs ?_) | fail)
        refine (zero_parts cc false C _ HB.out G1.out).mono ?_
        rw [HZ.out]
        rintro e V ⟨rfl, hb2⟩
        have q1 := J1.out.below hb2 J1.out.lt
        have q3 := J3.out.below hb2 J3.out.lt
        have y0 : V.cell? ⟨w.heap.size, 0, none⟩ = some (.bool false) := (q1.cell 0).trans HB.out.sign
        have yf := q1.frozen 0
        have r1 := q1.set_ 0 (.bool false)
        have r3 := q3.far (p := ⟨w.heap.size, 0, none⟩) (by simp <;> omega) (.bool false)
        have BB := Lib.hid ((below3 BR.out hb2 (by have := BR.out.size; omega)).setCell (p := ⟨w.heap.size, 0, none⟩) (Nat.le_refl _) (.bool false))
        clear hb2 q1 q3 j1
        go_wp2_with (first | (refine wpl_load rfl (.tmp 2) rfl _ rfl r1 hs2 ?_) | (refine wpl_store rfl (.tmp 4) (.tmp 50) rfl _ rfl rfl r3 (zc_size false) hs2 h2 ?_))
        exact ret_big Try.results28 rfl rfl (r3.row _) hs2 ⟨_, rfl, HBG.out, below_row BB.out (by omega) _⟩
      · have HBG := Lib.hid (hbig.1 h0)
        have HZ := Lib.hid (decide_eq_false h0)
        clear hbig h0
        go_wp2_with (first | (refine wpl_load rfl (.tmp 2) rfl _ rfl j1 hs ?_) | fail)
        refine (zero_parts cc false C _ HB.out G1.out).mono ?_
        rw [HZ.out]
        rintro e V ⟨rfl, hb2⟩
        have q1 := J1.out.below hb2 J1.out.lt
        have q3 := J3.out.below hb2 J3.out.lt
        have BB := Lib.hid (below3 BR.out hb2 (by have := BR.out.size; omega))
        clear hb2 j1
        go_wp2_with (first | (refine wpl_load rfl (.tmp 2) rfl _ rfl q1 hs ?_) | (refine wpl_store rfl (.tmp 4) (.tmp 50) rfl _ rfl rfl q3 (zc_size false) hs h1 ?_))
        exact ret_big Try.results28 rfl rfl (q3.row _) hs ⟨_, rfl, HBG.out, below_row BB.out (by omega) _⟩

set_option maxHeartbeats 2000000 in
theorem add_ft (c d : Array Value) (K L : List Int) (w : World) (hc : BigC c false K) (hd : BigC d true L) (dK : Dig K) (dL : Dig L) (hV : val L ≤ val K)
    (hG : ∀ cc C, BigC cc false C → Dig C → val C = val K - val L → (val C ≠ 0 → Big cc (val K + -val L)) ∧ (val C = 0 → Big (cc.setIfInBounds 0 (.bool false)) (val K + -val L))) :
    Calls Try.prog 28 #[.agg c, .agg d] w (BigAns (val K + -val L) w) := by
  obtain ⟨k1, k2, k3, bw⟩ := lies3 w c d (zc false) 44
  obtain ⟨sv, hs1, hs2⟩ : ∃ sv, sgn (val K) (val L) = sv ∧ 0 ≤ sv := by
    refine ⟨_, rfl, ?_⟩
    rcases sgn_cases (val K) (val L) with ⟨h, h'⟩ | ⟨h, h'⟩ | ⟨h, h'⟩ <;> rw [h] <;> omega
  have HS := Lib.hid hs1
  have c0 := hc.sign
  have d0 := hd.sign
  have BW := Lib.hid bw
  have HC := Lib.hid hc
  have HD := Lib.hid hd
  have DK := Lib.hid dK
  have DL := Lib.hid dL
  have HV := Lib.hid hV
  have HG := Lib.hid hG
  clear bw hc hd dK dL hV hG hs1
  go_enter Try.func28, Try.ntmps28
  go_wp2_with (first | (refine wpl_parts rfl (.tmp 15) rfl _ rfl k1 HC.out ?_) | (refine wpl_parts rfl (.tmp 17) rfl _ rfl k2 HD.out ?_) | fail)
  refine (more_any _ _ K L _ (part_of HC.out) (part_of HD.out) DK.out DL.out).mono ?_
  rw [HS.out]
  rintro e U ⟨rfl, hb1⟩
  have u1 := k1.below hb1 (by simp <;> omega)
  have u2 := k2.below hb1 (by simp <;> omega)
  have u3 := k3.below hb1 (by simp <;> omega)
  have BU := Lib.hid (below3 BW.out hb1 (by simp))
  clear hb1 k1 k2 k3
  go_wp2
  go_loopg [5, 23] 16 (fun k y x wr => ∃ i : Nat, i ≤ 16 ∧ k = 16 - i ∧ x = .int .i64 i ∧ AddI w wr false d (fun C under => Less_ K L C under i) y)
  case atStart => exact ⟨0, by omega, by omega, rfl, AddI.mk' HC.out ⟨HC.out.2, DK.out, by omega, by omega, by rw [pre_zero]; omega⟩ u1 u2 u3 BU.out⟩
  case round =>
    clear u1 u2 u3
    obtain ⟨i, hi, rfl, rfl, under, C, cc, rfl, hb, hq, j1, j2, j3, bw⟩ := hrel
    have HB := Lib.hid hb
    have HQ := Lib.hid hq
    have J1 := Lib.hid j1
    have J2 := Lib.hid j2
    have J3 := Lib.hid j3
    have BR := Lib.hid bw
    clear hb hq j1 j2 j3 bw
    by_cases hlt : i < 16
    · have x1 : wr.cell? ⟨w.heap.size, 1 + i, none⟩ = some (.int .u64 (nth C i)) := (J1.out.cell _).trans (HB.out.part hlt)
      have f1 := J1.out.frozen (1 + i)
      have x2 : wr.cell? ⟨w.heap.size + 1, 1 + i, none⟩ = some (.int .u64 (nth L i)) := (J2.out.cell _).trans (HD.out.part hlt)
      have b1 : (i : Int) < 16 := by omega
      have p1 := HQ.out.2.1.nth i
      have p2 := DL.out.nth i
      have p3 := HQ.out.2.2.1
      have p4 := HQ.out.2.2.2.1
      have e1 : IntKind.u64.wrap (65536 + nth C i) = 65536 + nth C i := by rw [IntKind.wrap_u64]; omega
      have e2 : IntKind.u64.wrap (65536 + nth C i - nth L i) = 65536 + nth C i - nth L i := by rw [IntKind.wrap_u64]; omega
      obtain ⟨v, hv⟩ : ∃ v, v = 65536 + nth C i - nth L i - under := ⟨_, rfl⟩
      have e3 : IntKind.u64.wrap (65536 + nth C i - nth L i - under) = v := by rw [IntKind.wrap_u64, hv]; omega
      have v0 : 0 ≤ v := by omega
      have v1 : v ≤ 131072 := by omega
      have e4 : IntKind.u64.wrap (1 - v / 65536) = 1 - v / 65536 := by rw [IntKind.wrap_u64]; omega
      have HN := Lib.hid (less_step DL.out HD.out.2 hlt HQ.out)
      rw [← hv] at HN
      clear hv p1 p2 p3 p4
      go_wp2
      go_region
      go_wp2
      go_roundg (16 - (i + 1))
      case measure => omega
      case rel => exact ⟨i + 1, by omega, by omega, by go_num, AddI.mk' (HB.out.set_part i _) HN.out (J1.out.set_ _ _) (J2.out.far (by simp) _) (J3.out.far (by simp <;> omega) _) ((BR.out.setCell (p := ⟨w.heap.size, 1 + i, none⟩) (Nat.le_refl _) _).drew)⟩
    · obtain rfl : i = 16 := by omega
      obtain ⟨g1, g2, g3⟩ := less_end HD.out.2 HQ.out (by have := HV.out; omega)
      have hbig := HG.out cc C HB.out g1 g3
      have G1 := Lib.hid g1
      have hs := HB.out.size
      have h1 := HB.out.all
      have hs2 := (HB.out.set_sign false).size
      have h2 := (HB.out.set_sign false).all
      have j1 := J1.out
      clear g1 g2 g3
      by_cases h0 : val C = 0
      · have HBG := Lib.hid (hbig.2 h0)
        have HZ := Lib.hid (decide_eq_true h0)
        clear hbig h0
        go_wp2_with (first | (refine wpl_load rfl (.tmp 2) rfl _ rfl j1 hs ?_) | fail)
        refine (zero_parts cc false C _ HB.out G1.out).mono ?_
        rw [HZ.out]
        rintro e V ⟨rfl, hb2⟩
        have q1 := J1.out.below hb2 J1.out.lt
        have q3 := J3.out.below hb2 J3.out.lt
        have y0 : V.cell? ⟨w.heap.size, 0, none⟩ = some (.bool false) := (q1.cell 0).trans HB.out.sign
        have yf := q1.frozen 0
        have r1 := q1.set_ 0 (.bool false)
        have r3 := q3.far (p := ⟨w.heap.size, 0, none⟩) (by simp <;> omega) (.bool false)
        have BB := Lib.hid ((below3 BR.out hb2 (by have := BR.out.size; omega)).setCell (p := ⟨w.heap.size, 0, none⟩) (Nat.le_refl _) (.bool false))
        clear hb2 q1 q3 j1
        go_wp2_with (first | (refine wpl_load rfl (.tmp 2) rfl _ rfl r1 hs2 ?_) | (refine wpl_store rfl (.tmp 4) (.tmp 50) rfl _ rfl rfl r3 (zc_size false) hs2 h2 ?_))
        exact ret_big Try.results28 rfl rfl (r3.row _) hs2 ⟨_, rfl, HBG.out, below_row BB.out (by omega) _⟩
      · have HBG := Lib.hid (hbig.1 h0)
        have HZ := Lib.hid (decide_eq_false h0)
        clear hbig h0
        go_wp2_with (first | (refine wpl_load rfl (.tmp 2) rfl _ rfl j1 hs ?_) | fail)
        refine (zero_parts cc false C _ HB.out G1.out).mono ?_
        rw [HZ.out]
        rintro e V ⟨rfl, hb2⟩
        have q1 := J1.out.below hb2 J1.out.lt
        have q3 := J3.out.below hb2 J3.out.lt
        have BB := Lib.hid (below3 BR.out hb2 (by have := BR.out.size; omega))
        clear hb2 j1
        go_wp2_with (first | (refine wpl_load rfl (.tmp 2) rfl _ rfl q1 hs ?_) | (refine wpl_store rfl (.tmp 4) (.tmp 50) rfl _ rfl rfl q3 (zc_size false) hs h1 ?_))
        exact ret_big Try.results28 rfl rfl (q3.row _) hs ⟨_, rfl, HBG.out, below_row BB.out (by omega) _⟩

set_option maxHeartbeats 2000000 in
theorem add_ft_s (c d : Array Value) (K L : List Int) (w : World) (hc : BigC c false K) (hd : BigC d true L) (dK : Dig K) (dL : Dig L) (hV : val K < val L)
    (hG : ∀ cc C, BigC cc true C → Dig C → val C = val L - val K → (val C ≠ 0 → Big cc (val K + -val L)) ∧ (val C = 0 → Big (cc.setIfInBounds 0 (.bool false)) (val K + -val L))) :
    Calls Try.prog 28 #[.agg c, .agg d] w (BigAns (val K + -val L) w) := by
  obtain ⟨k1, k2, k3, bw⟩ := lies3 w c d (zc false) 44
  obtain ⟨sv, hs1, hs2⟩ : ∃ sv, sgn (val K) (val L) = sv ∧ sv < 0 := by
    refine ⟨_, rfl, ?_⟩
    rcases sgn_cases (val K) (val L) with ⟨h, h'⟩ | ⟨h, h'⟩ | ⟨h, h'⟩ <;> rw [h] <;> omega
  have HS := Lib.hid hs1
  have c0 := hc.sign
  have d0 := hd.sign
  have BW := Lib.hid bw
  have HC := Lib.hid hc
  have HD := Lib.hid hd
  have DK := Lib.hid dK
  have DL := Lib.hid dL
  have HV := Lib.hid hV
  have HG := Lib.hid hG
  clear bw hc hd dK dL hV hG hs1
  go_enter Try.func28, Try.ntmps28
  go_wp2_with (first | (refine wpl_parts rfl (.tmp 15) rfl _ rfl k1 HC.out ?_) | (refine wpl_parts rfl (.tmp 17) rfl _ rfl k2 HD.out ?_) | fail)
  refine (more_any _ _ K L _ (part_of HC.out) (part_of HD.out) DK.out DL.out).mono ?_
  rw [HS.out]
  rintro e U ⟨rfl, hb1⟩
  have u1 := k1.below hb1 (by simp <;> omega)
  have u2 := k2.below hb1 (by simp <;> omega)
  have u3 := k3.below hb1 (by simp <;> omega)
  have BU := Lib.hid (below3 BW.out hb1 (by simp))
  clear hb1 k1 k2 k3
  go_wp2_with (first | (refine wpl_load rfl (.tmp 3) rfl _ rfl u2 HD.out.size ?_) | (refine wpl_load rfl (.tmp 2) rfl _ rfl u1 HC.out.size ?_) | (refine wpl_store rfl (.tmp 2) (.tmp 21) rfl _ rfl rfl u1 HC.out.size HD.out.size HD.out.all ?_) | (refine wpl_store rfl (.tmp 3) (.tmp 22) rfl _ rfl rfl (u2.row_far (by omega) d) HD.out.size HC.out.size HC.out.all ?_))
  go_loopg [5, 23] 16 (fun k y x wr => ∃ i : Nat, i ≤ 16 ∧ k = 16 - i ∧ x = .int .i64 i ∧ AddI w wr true c (fun C under => Less_ L K C under i) y)
  case atStart => exact ⟨0, by omega, by omega, rfl, AddI.mk' HD.out ⟨HD.out.2, DL.out, by omega, by omega, by rw [pre_zero]; omega⟩ ((u1.row d).row_far (by omega) c) ((u2.row_far (by omega) d).row c) ((u3.row_far (by omega) d).row_far (by omega) c) (below_row (below_row BU.out (Nat.le_refl _) d) (by omega) c)⟩
  case round =>
    clear u1 u2 u3
    obtain ⟨i, hi, rfl, rfl, under, C, cc, rfl, hb, hq, j1, j2, j3, bw⟩ := hrel
    have HB := Lib.hid hb
    have HQ := Lib.hid hq
    have J1 := Lib.hid j1
    have J2 := Lib.hid j2
    have J3 := Lib.hid j3
    have BR := Lib.hid bw
    clear hb hq j1 j2 j3 bw
    by_cases hlt : i < 16
    · have x1 : wr.cell? ⟨w.heap.size, 1 + i, none⟩ = some (.int .u64 (nth C i)) := (J1.out.cell _).trans (HB.out.part hlt)
      have f1 := J1.out.frozen (1 + i)
      have x2 : wr.cell? ⟨w.heap.size + 1, 1 + i, none⟩ = some (.int .u64 (nth K i)) := (J2.out.cell _).trans (HC.out.part hlt)
      have b1 : (i : Int) < 16 := by omega
      have p1 := HQ.out.2.1.nth i
      have p2 := DK.out.nth i
      have p3 := HQ.out.2.2.1
      have p4 := HQ.out.2.2.2.1
      have e1 : IntKind.u64.wrap (65536 + nth C i) = 65536 + nth C i := by rw [IntKind.wrap_u64]; omega
      have e2 : IntKind.u64.wrap (65536 + nth C i - nth K i) = 65536 + nth C i - nth K i := by rw [IntKind.wrap_u64]; omega
      obtain ⟨v, hv⟩ : ∃ v, v = 65536 + nth C i - nth K i - under := ⟨_, rfl⟩
      have e3 : IntKind.u64.wrap (65536 + nth C i - nth K i - under) = v := by rw [IntKind.wrap_u64, hv]; omega
      have v0 : 0 ≤ v := by omega
      have v1 : v ≤ 131072 := by omega
      have e4 : IntKind.u64.wrap (1 - v / 65536) = 1 - v / 65536 := by rw [IntKind.wrap_u64]; omega
      have HN := Lib.hid (less_step DK.out HC.out.2 hlt HQ.out)
      rw [← hv] at HN
      clear hv p1 p2 p3 p4
      go_wp2
      go_region
      go_wp2
      go_roundg (16 - (i + 1))
      case measure => omega
      case rel => exact ⟨i + 1, by omega, by omega, by go_num, AddI.mk' (HB.out.set_part i _) HN.out (J1.out.set_ _ _) (J2.out.far (by simp) _) (J3.out.far (by simp <;> omega) _) ((BR.out.setCell (p := ⟨w.heap.size, 1 + i, none⟩) (Nat.le_refl _) _).drew)⟩
    · obtain rfl : i = 16 := by omega
      obtain ⟨g1, g2, g3⟩ := less_end HC.out.2 HQ.out (by have := HV.out; omega)
      have hbig := HG.out cc C HB.out g1 g3
      have G1 := Lib.hid g1
      have hs := HB.out.size
      have h1 := HB.out.all
      have hs2 := (HB.out.set_sign false).size
      have h2 := (HB.out.set_sign false).all
      have j1 := J1.out
      clear g1 g2 g3
      by_cases h0 : val C = 0
      · have HBG := Lib.hid (hbig.2 h0)
        have HZ := Lib.hid (decide_eq_true h0)
        clear hbig h0
        go_wp2_with (first | (refine wpl_load rfl (.tmp 2) rfl _ rfl j1 hs ?_) | fail)
        refine (zero_parts cc true C _ HB.out G1.out).mono ?_
        rw [HZ.out]
        rintro e V ⟨rfl, hb2⟩
        have q1 := J1.out.below hb2 J1.out.lt
        have q3 := J3.out.below hb2 J3.out.lt
        have y0 : V.cell? ⟨w.heap.size, 0, none⟩ = some (.bool true) := (q1.cell 0).trans HB.out.sign
        have yf := q1.frozen 0
        have r1 := q1.set_ 0 (.bool false)
        have r3 := q3.far (p := ⟨w.heap.size, 0, none⟩) (by simp <;> omega) (.bool false)
        have BB := Lib.hid ((below3 BR.out hb2 (by have := BR.out.size; omega)).setCell (p := ⟨w.heap.size, 0, none⟩) (Nat.le_refl _) (.bool false))
        clear hb2 q1 q3 j1
        go_wp2_with (first | (refine wpl_load rfl (.tmp 2) rfl _ rfl r1 hs2 ?_) | (refine wpl_store rfl (.tmp 4) (.tmp 50) rfl _ rfl rfl r3 (zc_size false) hs2 h2 ?_))
        exact ret_big Try.results28 rfl rfl (r3.row _) hs2 ⟨_, rfl, HBG.out, below_row BB.out (by omega) _⟩
      · have HBG := Lib.hid (hbig.1 h0)
        have HZ := Lib.hid (decide_eq_false h0)
        clear hbig h0
        go_wp2_with (first | (refine wpl_load rfl (.tmp 2) rfl _ rfl j1 hs ?_) | fail)
        refine (zero_parts cc true C _ HB.out G1.out).mono ?_
        rw [HZ.out]
        rintro e V ⟨rfl, hb2⟩
        have q1 := J1.out.below hb2 J1.out.lt
        have q3 := J3.out.below hb2 J3.out.lt
        have BB := Lib.hid (below3 BR.out hb2 (by have := BR.out.size; omega))
        clear hb2 j1
        go_wp2_with (first | (refine wpl_load rfl (.tmp 2) rfl _ rfl q1 hs ?_) | (refine wpl_store rfl (.tmp 4) (.tmp 50) rfl _ rfl rfl q3 (zc_size false) hs h1 ?_))
        exact ret_big Try.results28 rfl rfl (q3.row _) hs ⟨_, rfl, HBG.out, below_row BB.out (by omega) _⟩

end Go.Proofs.Ytaaffpeppdinhaa
