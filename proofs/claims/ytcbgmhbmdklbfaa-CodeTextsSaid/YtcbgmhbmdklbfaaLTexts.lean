/-
  The walk of the law CodeTexts of layer 4.
-/
import Derived.Test.YtcbgmhbmdklbfaaAns
namespace Go.Proofs.Ytcbgmhbmdklbfaa
open Go.RowKit

set_option maxRecDepth 100000 in
set_option maxHeartbeats 2000000 in
theorem ltexts_many (A B : Option Addr) (n c m d : Nat) (l : List (List I3)) (w : World) (hp : Prgs w A n l) (h : fewB l = false ∨ 3000 < m) :
    Calls Try.prog 4 #[.slice A n c, .slice B m d] w (TrueAns w) := by
  have HP := Lib.hid hp
  have HF := Lib.hid h
  clear hp h
  go_enter Try.func4, Try.ntmps4
  go_wp2_with fail
  refine (live_any _).mono ?_
  rintro e w1 ⟨rfl, hb1⟩
  have HB1 := Lib.hid hb1
  clear hb1
  go_wp2_with fail
  refine (few_any A n c l _ (HP.out.below HB1.out)).mono ?_
  rintro e w2 ⟨rfl, rfl⟩
  by_cases hf : fewB l = true
  · have ho : 3000 < m := HF.out.resolve_left (by rw [hf]; simp)
    have hdec : decide ((3000 : Int) < (m : Int)) = true := decide_eq_true (by omega)
    rw [hf]
    clear hf
    go_wp2
    go_ret
    exact ⟨rfl, HB1.out⟩
  · rw [bool_no hf]
    clear hf
    go_wp2
    go_ret
    exact ⟨rfl, HB1.out⟩

set_option maxRecDepth 100000 in
set_option maxHeartbeats 4000000 in
theorem ltexts_few (A B : Option Addr) (n c m d : Nat) (l : List (List I3)) (bs : List Int) (w : World) (hp : Prgs w A n l) (hm : m ≤ d ∧ d ≤ 9223372036854775807) (hx : Octs w B m bs) (hf : fewB l = true) (hm3 : m ≤ 3000) :
    Calls Try.prog 4 #[.slice A n c, .slice B m d] w (TrueAns w) := by
  have HP := Lib.hid hp
  have HX := Lib.hid hx
  have HF := Lib.hid hf
  have HM := Lib.hid hm
  clear hp hx hf hm
  go_enter Try.func4, Try.ntmps4
  go_wp2_with fail
  refine (live_any _).mono ?_
  rintro e w1 ⟨rfl, hb1⟩
  have HB1 := Lib.hid hb1
  clear hb1
  go_wp2_with fail
  refine (few_any A n c l _ (HP.out.below HB1.out)).mono ?_
  rintro e w2 ⟨rfl, rfl⟩
  rw [HF.out]
  obtain ⟨er, he⟩ : ∃ er : Int, errL l = er := ⟨_, rfl⟩
  have HE := Lib.hid he
  obtain ⟨rr, hr⟩ : ∃ rr : Int, rer bs = rr := ⟨_, rfl⟩
  have HR := Lib.hid hr
  clear he hr
  go_wp2_with fail
  refine (uwrite A n c l _ (HP.out.below HB1.out)).mono ?_
  rintro e w2 ⟨A2, m2, c2, rfl, hl2, ho2, hb2⟩
  rw [HE.out]
  have HO2 : Hid (Octs w2 A2 m2 (wtx l)) := Lib.hid (by rw [← hl2]; exact ho2.octs)
  have HB2 := Lib.hid (below3 HB1.out hb2)
  clear ho2 hb2 hl2
  go_wp2_with fail
  refine (urwrite A n c l _ (HP.out.below HB2.out)).mono ?_
  rintro e w3 ⟨A3, m3, c3, rfl, hl3, ho3, hb3⟩
  rw [HE.out]
  have HO3 : Hid (Octs w3 A3 m3 (wtx l)) := Lib.hid (by rw [← hl3]; exact ho3.octs)
  have HO23 := Lib.hid (HO2.out.below hb3)
  have HB3 := Lib.hid (below3 HB2.out hb3)
  clear ho3 hb3 hl3
  go_wp2_with fail
  refine (uread B m d bs _ (HX.out.below HB3.out) HM.out hm3).mono ?_
  rintro e w4 ⟨A4, m4, c4, rfl, hp4, hb4⟩
  rw [HR.out]
  have HP4 := Lib.hid hp4
  have HO24 := Lib.hid (HO23.out.below hb4)
  have HO34 := Lib.hid (HO3.out.below hb4)
  have HB4 := Lib.hid (below3 HB3.out hb4)
  clear hp4 hb4
  go_wp2_with fail
  refine (urread B m d bs _ (HX.out.below HB4.out) hm3).mono ?_
  rintro e w5 ⟨A5, m5, c5, rfl, hp5, hb5⟩
  rw [HR.out]
  have HP5 := Lib.hid hp5
  have HP45 := Lib.hid (HP4.out.below hb5)
  have h1 := (HO24.out.below hb5).convert (P := Try.prog) c2 35 5 9 Try.underlying35 Try.underlying5 Try.underlying9
  have h2 := (HO34.out.below hb5).convert (P := Try.prog) c3 35 5 9 Try.underlying35 Try.underlying5 Try.underlying9
  have HB5 := Lib.hid (below3 HB4.out hb5)
  clear hp5 hb5
  have HS : Hid (sameL (rtx bs) (rtx bs) = true) := Lib.hid (by unfold sameL; simp)
  go_wp2_with (go_at_call 21; refine (rsame_any A4 A5 m4 c4 m5 c5 _ _ _ HP45.out HP5.out).mono ?_; rintro e w6 ⟨rfl, hb6⟩; rw [HS.out]; have HB6 := Lib.hid hb6; clear hb6)
  go_ret
  exact ⟨rfl, below3 HB5.out HB6.out⟩

theorem ltexts_any (A B : Option Addr) (n c m d : Nat) (l : List (List I3)) (bs : List Int) (w : World) (hp : Prgs w A n l) (hm : m ≤ d ∧ d ≤ 9223372036854775807) (hx : m ≤ 140737488351232 → Octs w B m bs) :
    Calls Try.prog 4 #[.slice A n c, .slice B m d] w (TrueAns w) := by
  by_cases h : fewB l = false ∨ 3000 < m
  · exact ltexts_many A B n c m d l w hp h
  · have hf : fewB l = true := by cases hx : fewB l with
      | true => rfl
      | false => exact absurd (.inl hx) h
    exact ltexts_few A B n c m d l bs w hp hm (hx (by omega)) hf (by omega)

end Go.Proofs.Ytcbgmhbmdklbfaa
