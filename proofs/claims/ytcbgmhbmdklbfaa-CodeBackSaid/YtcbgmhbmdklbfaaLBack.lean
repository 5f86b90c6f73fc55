/-
  The walk of the law CodeBack of layer 4.
-/
import Derived.Test.YtcbgmhbmdklbfaaAns
namespace Go.Proofs.Ytcbgmhbmdklbfaa
open Go.RowKit

theorem OwnO.room {E : TypeId} {w : World} {base : Nat} {A : Option Addr} {c : Nat} {zs : List Int} (h : OwnO E w base A c zs) : zs.length ≤ c ∧ c ≤ 9223372036854775807 := by
  rcases h.2.2.2 with ⟨h1, h2⟩ | ⟨g, cap, cur, e, _, _, h3, h4, _⟩
  · injection h1 with h1 _ h4
    omega
  · injection e with _ _ e3
    subst e3
    unfold maxLen at h4
    exact ⟨h3, by omega⟩

theorem back_less {l : List (List I3)} (h : okL l) : readA ((txtL l).take ((txtL l).length - 1)) = none := readA_no fun l' h' e => by
  have e2 : txtL l = txtL l' ++ (txtL l).drop ((txtL l).length - 1) := by rw [e, List.take_append_drop]
  have := congrArg List.length (txtL_prefix h h' e2)
  rw [List.length_drop] at this
  unfold txtL at this
  simp at this
theorem back_more {l : List (List I3)} (h : okL l) : readA (txtL l ++ [0]) = none := readA_no fun l' h' e => by
  have := txtL_prefix h' h e
  simp at this

set_option maxRecDepth 100000 in
set_option maxHeartbeats 2000000 in
theorem lback_many (A B : Option Addr) (n c m d : Nat) (l : List (List I3)) (w : World) (hp : Prgs w A n l) (h : fewB l = false ∨ 3000 < m) :
    Calls Try.prog 5 #[.slice A n c, .slice B m d] w (TrueAns w) := by
  have HP := Lib.hid hp
  have HF := Lib.hid h
  clear hp h
  go_enter Try.func5, Try.ntmps5
  go_wp2_with fail
  refine (live_any _).mono ?_
  rintro e w1 ⟨rfl, hb1⟩
  have HB1 := Lib.hid hb1
  clear hb1
  go_wp2_with fail
  refine (few_any A n c l _ (HP.out.below HB1.out)).mono ?_
  rintro e w2 ⟨rfl, rfl⟩
  by_cases hf : fewB l = true
  · have ho : 3000 < m := HF.out.resolve_left (by rw [hf]; simp)
    have hdec : decide ((3000 : Int) < (m : Int)) = true := decide_eq_true (by omega)
    rw [hf]
    clear hf
    go_wp2
    go_ret
    exact ⟨rfl, HB1.out⟩
  · rw [bool_no hf]
    clear hf
    go_wp2
    go_ret
    exact ⟨rfl, HB1.out⟩

set_option maxRecDepth 100000 in
set_option maxHeartbeats 6000000 in
theorem lback_none_no (A B : Option Addr) (n c m d : Nat) (l : List (List I3)) (bs : List Int) (w : World) (hp : Prgs w A n l) (hm : m ≤ d ∧ d ≤ 9223372036854775807) (hx : Octs w B m bs) (hf : fewB l = true) (hm3 : m ≤ 3000)
    (hra : readA bs = none) (hok : ¬ okL l) :
    Calls Try.prog 5 #[.slice A n c, .slice B m d] w (TrueAns w) := by
  have HP := Lib.hid hp
  have HX := Lib.hid hx
  have HF := Lib.hid hf
  have HM := Lib.hid hm
  have HRA := Lib.hid hra
  have HOK := Lib.hid hok
  clear hp hx hf hm hra hok
  go_enter Try.func5, Try.ntmps5
  go_wp2_with fail
  refine (live_any _).mono ?_
  rintro e w1 ⟨rfl, hb1⟩
  have HB1 := Lib.hid hb1
  clear hb1
  go_wp2_with fail
  refine (few_any A n c l _ (HP.out.below HB1.out)).mono ?_
  rintro e w2 ⟨rfl, rfl⟩
  rw [HF.out]
  go_wp2_with fail
  refine (uread B m d bs _ (HX.out.below HB1.out) HM.out hm3).mono ?_
  rintro e w2 ⟨A2, m2, c2, rfl, hp2, hb2⟩
  have HB2 := Lib.hid (below3 HB1.out hb2)
  rw [rer_none HRA.out]
  clear hp2 hb2
  go_wp2_with fail
  refine (uwrite A n c l _ (HP.out.below HB2.out)).mono ?_
  rintro e w5 ⟨A5, m5, c5, rfl, hl5, ho5, hb5⟩
  have HB5 := Lib.hid (below3 HB2.out hb5)
  rw [errL_no HOK.out]
  clear hl5 ho5 hb5
  go_wp2_with (go_at_call 18; refine (checkAll_any A n c l _ (HP.out.below HB5.out)).mono ?_; rintro e w6 ⟨rfl, hb6⟩; rw [errL_no HOK.out]; have HB6 := Lib.hid (below3 HB5.out hb6); clear hb6)
  go_ret
  exact ⟨rfl, HB6.out⟩

set_option maxRecDepth 100000 in
set_option maxHeartbeats 6000000 in
theorem lback_some_no (A B : Option Addr) (n c m d : Nat) (l p0 : List (List I3)) (bs : List Int) (w : World) (hp : Prgs w A n l) (hm : m ≤ d ∧ d ≤ 9223372036854775807) (hx : Octs w B m bs) (hf : fewB l = true) (hm3 : m ≤ 3000)
    (hra : readA bs = some p0) (hok : ¬ okL l) :
    Calls Try.prog 5 #[.slice A n c, .slice B m d] w (TrueAns w) := by
  have HP := Lib.hid hp
  have HX := Lib.hid hx
  have HF := Lib.hid hf
  have HM := Lib.hid hm
  have HRA := Lib.hid hra
  have HOK := Lib.hid hok
  clear hp hx hf hm hra hok
  go_enter Try.func5, Try.ntmps5
  go_wp2_with fail
  refine (live_any _).mono ?_
  rintro e w1 ⟨rfl, hb1⟩
  have HB1 := Lib.hid hb1
  clear hb1
  go_wp2_with fail
  refine (few_any A n c l _ (HP.out.below HB1.out)).mono ?_
  rintro e w2 ⟨rfl, rfl⟩
  rw [HF.out]
  go_wp2_with fail
  refine (uread B m d bs _ (HX.out.below HB1.out) HM.out hm3).mono ?_
  rintro e w2 ⟨A2, m2, c2, rfl, hp2, hb2⟩
  have HB2 := Lib.hid (below3 HB1.out hb2)
  rw [rer_some HRA.out]
  rw [rtx_some HRA.out] at hp2
  have HP2 := Lib.hid hp2
  clear hp2 hb2
  have HOK0 := Lib.hid (readA_some HRA.out)
  go_wp2_with fail
  refine (uwrite A2 m2 c2 p0 _ HP2.out).mono ?_
  rintro e w3 ⟨A3, m3, c3, rfl, hl3, ho3, hb3⟩
  rw [errL_ok HOK0.out.1]
  rw [wtx_ok HOK0.out.1, HOK0.out.2] at hl3 ho3
  have HP3 := Lib.hid (HP2.out.below hb3)
  have HB3 := Lib.hid (below3 HB2.out hb3)
  have h1 := ho3.octs.convert (P := Try.prog) c3 35 5 9 Try.underlying35 Try.underlying5 Try.underlying9
  rw [hl3] at h1
  have h2 := (HX.out.below HB3.out).convert (P := Try.prog) d 35 5 9 Try.underlying35 Try.underlying5 Try.underlying9
  clear hl3 ho3 hb3
  go_wp2_with (go_at_call 18; refine (checkAll_any A2 m2 c2 p0 _ HP3.out).mono ?_; rintro e w4 ⟨rfl, hb4⟩; rw [errL_ok HOK0.out.1]; have HB4 := Lib.hid (below3 HB3.out hb4); clear hb4 h1 h2)
  refine (uwrite A n c l _ (HP.out.below HB4.out)).mono ?_
  rintro e w5 ⟨A5, m5, c5, rfl, hl5, ho5, hb5⟩
  have HB5 := Lib.hid (below3 HB4.out hb5)
  rw [errL_no HOK.out]
  clear hl5 ho5 hb5
  go_wp2_with (go_at_call 18; refine (checkAll_any A n c l _ (HP.out.below HB5.out)).mono ?_; rintro e w6 ⟨rfl, hb6⟩; rw [errL_no HOK.out]; have HB6 := Lib.hid (below3 HB5.out hb6); clear hb6)
  go_ret
  exact ⟨rfl, HB6.out⟩

set_option maxRecDepth 100000 in
set_option maxHeartbeats 6000000 in
theorem lback_none_ok (A B : Option Addr) (n c m d : Nat) (l : List (List I3)) (bs : List Int) (w : World) (hp : Prgs w A n l) (hm : m ≤ d ∧ d ≤ 9223372036854775807) (hx : Octs w B m bs) (hf : fewB l = true) (hm3 : m ≤ 3000)
    (hra : readA bs = none) (hok : okL l) :
    Calls Try.prog 5 #[.slice A n c, .slice B m d] w (TrueAns w) := by
  have HP := Lib.hid hp
  have HX := Lib.hid hx
  have HF := Lib.hid hf
  have HM := Lib.hid hm
  have HRA := Lib.hid hra
  have HOK := Lib.hid hok
  clear hp hx hf hm hra hok
  go_enter Try.func5, Try.ntmps5
  go_wp2_with fail
  refine (live_any _).mono ?_
  rintro e w1 ⟨rfl, hb1⟩
  have HB1 := Lib.hid hb1
  clear hb1
  go_wp2_with fail
  refine (few_any A n c l _ (HP.out.below HB1.out)).mono ?_
  rintro e w2 ⟨rfl, rfl⟩
  rw [HF.out]
  go_wp2_with fail
  refine (uread B m d bs _ (HX.out.below HB1.out) HM.out hm3).mono ?_
  rintro e w2 ⟨A2, m2, c2, rfl, hp2, hb2⟩
  have HB2 := Lib.hid (below3 HB1.out hb2)
  rw [rer_none HRA.out]
  clear hp2 hb2
  go_wp2_with fail
  refine (uwrite A n c l _ (HP.out.below HB2.out)).mono ?_
  rintro e w5 ⟨A5, m5, c5, rfl, hl5, ho5, hb5⟩
  have HB5 := Lib.hid (below3 HB2.out hb5)
  rw [errL_ok HOK.out]
  rw [wtx_ok HOK.out] at hl5 ho5
  have HRT := Lib.hid (readA_yes HOK.out rfl)
  have HRL := Lib.hid (back_less HOK.out)
  have HRM := Lib.hid (back_more HOK.out)
  have HTL : Hid (0 < (txtL l).length) := Lib.hid (by unfold txtL; simp)
  have HTM := Lib.hid (txtL_len HOK.out)
  generalize txtL l = t at hl5 ho5 HRT HRL HRM HTL HTM
  have HR5 := Lib.hid ho5.room
  rw [hl5] at HRL HTL HTM HR5
  have ht0 := HTL.out
  have htm := HTM.out
  have hcap := HR5.out
  have HO5 : Hid (Octs w5 A5 m5 t) := Lib.hid (by rw [← hl5]; exact ho5.octs)
  have HL5 := Lib.hid hl5
  clear hl5 ho5 hb5
  go_wp2_with fail
  refine (uread A5 m5 c5 t _ HO5.out HR5.out (by omega)).mono ?_
  rintro e w6 ⟨A6, m6, c6, rfl, hp6, hb6⟩
  rw [rer_some HRT.out]
  rw [rtx_some HRT.out] at hp6
  have HP6 := Lib.hid hp6
  have HO6 := Lib.hid (HO5.out.below hb6)
  have HB6 := Lib.hid (below3 HB5.out hb6)
  clear hp6 hb6
  go_wp2_with fail
  rw [show (max ((m5 : Int) - 1) 0).toNat = m5 - 1 by omega]
  refine (uread A5 (m5 - 1) c5 (t.take (m5 - 1)) _ (((HO6.out.octB HR5.out).take (by omega)).octs (Nat.le_refl _) (by omega)) (by omega) (by omega)).mono ?_
  rintro e w7 ⟨A7, m7, c7, rfl, -, hb7⟩
  rw [rer_none HRL.out]
  have HP7 := Lib.hid (HP6.out.below hb7)
  have HO7 := Lib.hid (HO6.out.below hb7)
  have HB7 := Lib.hid (below3 HB6.out hb7)
  clear hb7
  go_wp2_with (first
    | (at_builtin; refine wpList_append_octs _ rfl _ _ 35 rfl 5 Try.underlying35 Try.octetInfo w7.heap.size none 0 [] 0 rfl rfl (OwnO.nil_ _ _ _) A5 m5 c5 t rfl HO7.out (by simp; omega) (Nat.le_refl _) ?_
       intro A8 c8 w8 hown8 hg8
       rw [List.nil_append] at hown8 ⊢
       rw [HL5.out]
       have HB8 := Lib.hid ((Below.refl w7.heap.size w7).grown hg8 (Nat.le_refl _) (fun k hk => by simp [Value.ownBlock] at hk))
       have HB9 := Lib.hid (HB8.out.alloc HB8.out.size (.cells #[.int .u8 0] 5))
       have HO8 := Lib.hid (hown8.below ((Below.refl w8.heap.size w8).alloc (Nat.le_refl _) (.cells #[.int .u8 0] 5)))
       have HS8 : Hid (Octs (w8.alloc (.cells #[.int .u8 0] 5)) (some ⟨w8.heap.size, 0, none⟩) 1 [0]) := Lib.hid (octs_of (zs := [0]) (Bk.atg rfl 5 #[.int .u8 0]) rfl (by omega) (by simp [Oct]))
       clear hown8 hg8)
    | (at_builtin; refine wpList_append_octs _ rfl _ _ 35 rfl 5 Try.underlying35 Try.octetInfo w7.heap.size A8 c8 t m5 HL5.out.symm rfl HO8.out (some ⟨w8.heap.size, 0, none⟩) 1 1 [0] rfl HS8.out (by rw [HL5.out]; omega) HB9.out.size ?_
       intro A9 c9 w9 hown9 hg9
       have HL9 : Hid ((t ++ [0]).length = m5 + 1) := Lib.hid (by simp [HL5.out])
       have HO9 := Lib.hid hown9.octs
       have HR9 := Lib.hid hown9.room
       rw [HL9.out] at HO9 HR9 ⊢
       have HBG := Lib.hid (HB9.out.grown hg9 HB9.out.size HO8.out.block)
       have HBT := Lib.hid (below3 HB7.out HBG.out)
       have HP9 := Lib.hid (HP7.out.below HBG.out)
       clear hown9 hg9)
    | (go_at_call 24; refine (uread A9 (m5 + 1) c9 (t ++ [0]) _ HO9.out HR9.out (by omega)).mono ?_; rintro e w10 ⟨A10, m10, c10, rfl, -, hb10⟩; rw [rer_none HRM.out]; have HP10 := Lib.hid (HP9.out.below hb10); have HB10 := Lib.hid (below3 HBT.out hb10); clear hb10)
    | (go_at_call 20; refine (same_any A6 A m6 c6 n c l l _ HP10.out (HP.out.below HB10.out)).mono ?_; rintro e w11 ⟨rfl, hb11⟩; rw [show sameL l l = true by unfold sameL; simp]; have HB11 := Lib.hid (below3 HB10.out hb11); clear hb11))
  go_ret
  exact ⟨rfl, HB11.out⟩

set_option maxRecDepth 100000 in
set_option maxHeartbeats 6000000 in
theorem lback_some_ok (A B : Option Addr) (n c m d : Nat) (l p0 : List (List I3)) (bs : List Int) (w : World) (hp : Prgs w A n l) (hm : m ≤ d ∧ d ≤ 9223372036854775807) (hx : Octs w B m bs) (hf : fewB l = true) (hm3 : m ≤ 3000)
    (hra : readA bs = some p0) (hok : okL l) :
    Calls Try.prog 5 #[.slice A n c, .slice B m d] w (TrueAns w) := by
  have HP := Lib.hid hp
  have HX := Lib.hid hx
  have HF := Lib.hid hf
  have HM := Lib.hid hm
  have HRA := Lib.hid hra
  have HOK := Lib.hid hok
  clear hp hx hf hm hra hok
  go_enter Try.func5, Try.ntmps5
  go_wp2_with fail
  refine (live_any _).mono ?_
  rintro e w1 ⟨rfl, hb1⟩
  have HB1 := Lib.hid hb1
  clear hb1
  go_wp2_with fail
  refine (few_any A n c l _ (HP.out.below HB1.out)).mono ?_
  rintro e w2 ⟨rfl, rfl⟩
  rw [HF.out]
  go_wp2_with fail
  refine (uread B m d bs _ (HX.out.below HB1.out) HM.out hm3).mono ?_
  rintro e w2 ⟨A2, m2, c2, rfl, hp2, hb2⟩
  have HB2 := Lib.hid (below3 HB1.out hb2)
  rw [rer_some HRA.out]
  rw [rtx_some HRA.out] at hp2
  have HP2 := Lib.hid hp2
  clear hp2 hb2
  have HOK0 := Lib.hid (readA_some HRA.out)
  go_wp2_with fail
  refine (uwrite A2 m2 c2 p0 _ HP2.out).mono ?_
  rintro e w3 ⟨A3, m3, c3, rfl, hl3, ho3, hb3⟩
  rw [errL_ok HOK0.out.1]
  rw [wtx_ok HOK0.out.1, HOK0.out.2] at hl3 ho3
  have HP3 := Lib.hid (HP2.out.below hb3)
  have HB3 := Lib.hid (below3 HB2.out hb3)
  have h1 := ho3.octs.convert (P := Try.prog) c3 35 5 9 Try.underlying35 Try.underlying5 Try.underlying9
  rw [hl3] at h1
  have h2 := (HX.out.below HB3.out).convert (P := Try.prog) d 35 5 9 Try.underlying35 Try.underlying5 Try.underlying9
  clear hl3 ho3 hb3
  go_wp2_with (go_at_call 18; refine (checkAll_any A2 m2 c2 p0 _ HP3.out).mono ?_; rintro e w4 ⟨rfl, hb4⟩; rw [errL_ok HOK0.out.1]; have HB4 := Lib.hid (below3 HB3.out hb4); clear hb4 h1 h2)
  refine (uwrite A n c l _ (HP.out.below HB4.out)).mono ?_
  rintro e w5 ⟨A5, m5, c5, rfl, hl5, ho5, hb5⟩
  have HB5 := Lib.hid (below3 HB4.out hb5)
  rw [errL_ok HOK.out]
  rw [wtx_ok HOK.out] at hl5 ho5
  have HRT := Lib.hid (readA_yes HOK.out rfl)
  have HRL := Lib.hid (back_less HOK.out)
  have HRM := Lib.hid (back_more HOK.out)
  have HTL : Hid (0 < (txtL l).length) := Lib.hid (by unfold txtL; simp)
  have HTM := Lib.hid (txtL_len HOK.out)
  generalize txtL l = t at hl5 ho5 HRT HRL HRM HTL HTM
  have HR5 := Lib.hid ho5.room
  rw [hl5] at HRL HTL HTM HR5
  have ht0 := HTL.out
  have htm := HTM.out
  have hcap := HR5.out
  have HO5 : Hid (Octs w5 A5 m5 t) := Lib.hid (by rw [← hl5]; exact ho5.octs)
  have HL5 := Lib.hid hl5
  clear hl5 ho5 hb5
  go_wp2_with fail
  refine (uread A5 m5 c5 t _ HO5.out HR5.out (by omega)).mono ?_
  rintro e w6 ⟨A6, m6, c6, rfl, hp6, hb6⟩
  rw [rer_some HRT.out]
  rw [rtx_some HRT.out] at hp6
  have HP6 := Lib.hid hp6
  have HO6 := Lib.hid (HO5.out.below hb6)
  have HB6 := Lib.hid (below3 HB5.out hb6)
  clear hp6 hb6
  go_wp2_with fail
  rw [show (max ((m5 : Int) - 1) 0).toNat = m5 - 1 by omega]
  refine (uread A5 (m5 - 1) c5 (t.take (m5 - 1)) _ (((HO6.out.octB HR5.out).take (by omega)).octs (Nat.le_refl _) (by omega)) (by omega) (by omega)).mono ?_
  rintro e w7 ⟨A7, m7, c7, rfl, -, hb7⟩
  rw [rer_none HRL.out]
  have HP7 := Lib.hid (HP6.out.below hb7)
  have HO7 := Lib.hid (HO6.out.below hb7)
  have HB7 := Lib.hid (below3 HB6.out hb7)
  clear hb7
  go_wp2_with (first
    | (at_builtin; refine wpList_append_octs _ rfl _ _ 35 rfl 5 Try.underlying35 Try.octetInfo w7.heap.size none 0 [] 0 rfl rfl (OwnO.nil_ _ _ _) A5 m5 c5 t rfl HO7.out (by simp; omega) (Nat.le_refl _) ?_
       intro A8 c8 w8 hown8 hg8
       rw [List.nil_append] at hown8 ⊢
       rw [HL5.out]
       have HB8 := Lib.hid ((Below.refl w7.heap.size w7).grown hg8 (Nat.le_refl _) (fun k hk => by simp [Value.ownBlock] at hk))
       have HB9 := Lib.hid (HB8.out.alloc HB8.out.size (.cells #[.int .u8 0] 5))
       have HO8 := Lib.hid (hown8.below ((Below.refl w8.heap.size w8).alloc (Nat.le_refl _) (.cells #[.int .u8 0] 5)))
       have HS8 : Hid (Octs (w8.alloc (.cells #[.int .u8 0] 5)) (some ⟨w8.heap.size, 0, none⟩) 1 [0]) := Lib.hid (octs_of (zs := [0]) (Bk.atg rfl 5 #[.int .u8 0]) rfl (by omega) (by simp [Oct]))
       clear hown8 hg8)
    | (at_builtin; refine wpList_append_octs _ rfl _ _ 35 rfl 5 Try.underlying35 Try.octetInfo w7.heap.size A8 c8 t m5 HL5.out.symm rfl HO8.out (some ⟨w8.heap.size, 0, none⟩) 1 1 [0] rfl HS8.out (by rw [HL5.out]; omega) HB9.out.size ?_
       intro A9 c9 w9 hown9 hg9
       have HL9 : Hid ((t ++ [0]).length = m5 + 1) := Lib.hid (by simp [HL5.out])
       have HO9 := Lib.hid hown9.octs
       have HR9 := Lib.hid hown9.room
       rw [HL9.out] at HO9 HR9 ⊢
       have HBG := Lib.hid (HB9.out.grown hg9 HB9.out.size HO8.out.block)
       have HBT := Lib.hid (below3 HB7.out HBG.out)
       have HP9 := Lib.hid (HP7.out.below HBG.out)
       clear hown9 hg9)
    | (go_at_call 24; refine (uread A9 (m5 + 1) c9 (t ++ [0]) _ HO9.out HR9.out (by omega)).mono ?_; rintro e w10 ⟨A10, m10, c10, rfl, -, hb10⟩; rw [rer_none HRM.out]; have HP10 := Lib.hid (HP9.out.below hb10); have HB10 := Lib.hid (below3 HBT.out hb10); clear hb10)
    | (go_at_call 20; refine (same_any A6 A m6 c6 n c l l _ HP10.out (HP.out.below HB10.out)).mono ?_; rintro e w11 ⟨rfl, hb11⟩; rw [show sameL l l = true by unfold sameL; simp]; have HB11 := Lib.hid (below3 HB10.out hb11); clear hb11))
  go_ret
  exact ⟨rfl, HB11.out⟩

theorem lback_any (A B : Option Addr) (n c m d : Nat) (l : List (List I3)) (bs : List Int) (w : World) (hp : Prgs w A n l) (hm : m ≤ d ∧ d ≤ 9223372036854775807) (hx : m ≤ 140737488351232 → Octs w B m bs) :
    Calls Try.prog 5 #[.slice A n c, .slice B m d] w (TrueAns w) := by
  by_cases h : fewB l = false ∨ 3000 < m
  · exact lback_many A B n c m d l w hp h
  · have hf : fewB l = true := by cases hx : fewB l with
      | true => rfl
      | false => exact absurd (.inl hx) h
    have h3 : m ≤ 3000 := by omega
    have hx' := hx (by omega)
    cases hr : readA bs with
    | none =>
      by_cases hok : okL l
      · exact lback_none_ok A B n c m d l bs w hp hm hx' hf h3 hr hok
      · exact lback_none_no A B n c m d l bs w hp hm hx' hf h3 hr hok
    | some p0 =>
      by_cases hok : okL l
      · exact lback_some_ok A B n c m d l p0 bs w hp hm hx' hf h3 hr hok
      · exact lback_some_no A B n c m d l p0 bs w hp hm hx' hf h3 hr hok

end Go.Proofs.Ytcbgmhbmdklbfaa
