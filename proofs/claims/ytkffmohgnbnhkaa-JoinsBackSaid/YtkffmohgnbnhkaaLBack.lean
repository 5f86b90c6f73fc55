/-
  The law JoinsBack: the walk.
-/
import Derived.Test.YtkffmohgnbnhkaaJv
namespace Go.Proofs.Ytkffmohgnbnhkaa
open Go.RowKit

set_option maxRecDepth 100000 in
set_option maxHeartbeats 8000000 in
theorem lback_any (A : Option Addr) (n c : Nat) (l : List Tm) (a b : Int) (w : World) (hx : Tms w A n c l) (fa : Fit a) (fb : Fit b) :
    Calls Try.prog 6 #[.slice A n c, .int .i64 a, .int .i64 b] w (TrueAns w) := by
  have HX := Lib.hid hx
  have LX := Lib.hid hx.1
  have HFA := Lib.hid fa
  have HFB := Lib.hid fb
  have hnc := hx.2.1
  have HFI := Lib.hid hx.2.2.1
  clear hx fa fb
  by_cases hn : 260 < n
  · have t0 : decide ((260 : Int) < (n : Int)) = true := by simp; omega
    go_enter Try.func6, Try.ntmps6
    go_wp2_with fail
    refine (live_any _).mono ?_
    rintro e w1 ⟨rfl, b⟩
    have B1 := Lib.hid b
    clear b
    go_wp2_with fail
    go_ret
    exact ⟨rfl, B1.out⟩
  · have t0 : decide ((260 : Int) < (n : Int)) = false := by simp; omega
    by_cases hg : okJ l ∧ 0 ≤ a ∧ 0 ≤ b ∧ ¬ 0 ≤ onL l b ∧ ¬ (a = b ∨ b ∈ wayJ l a) ∧ l.length ≠ 256
    · obtain ⟨hok, ha, hb, hon, hm, hl⟩ := hg
      have HFW : Hid (waitR l a b = (0, l ++ [(a, b)])) := Lib.hid (by unfold waitR; rw [if_pos ⟨hok, ha, hb⟩, if_neg hon, if_neg hm, if_neg hl])
      have hl1 := hok.1
      obtain ⟨hok2, hway⟩ := hok.wait ha hb (by omega) (fun e => hm (.inl e)) (fun e => hm (.inr e)) (by omega)
      have hnm : b ∉ whos l := fun h => hon (onL_of_mem hok.2.1 h)
      have HR3 : Hid (forR (l ++ [(a, b)]) b = (0, a :: wayJ l a)) := Lib.hid (by unfold forR; rw [if_pos hok2, hway])
      have hless : lessJ (l ++ [(a, b)]) b = l := by
        unfold lessJ
        rw [List.filter_append]
        have h1 := less_none hnm
        unfold lessJ at h1
        rw [h1]
        simp
      have HR4 : Hid (dropR (l ++ [(a, b)]) b = (0, l)) := Lib.hid (by
        unfold dropR
        rw [if_pos hok2, if_pos (by rw [onL_app_who hnm]; exact ha), hless])
      have HR5 : Hid (forR l b = (0, [])) := Lib.hid (by unfold forR; rw [if_pos hok, wayJ_nil.2 (by omega)])
      obtain ⟨zs, hzs⟩ : ∃ zs, a :: wayJ l a = zs := ⟨_, rfl⟩
      obtain ⟨ms, hms⟩ : ∃ ms, l ++ [(a, b)] = ms := ⟨_, rfl⟩
      have hz0 : nth zs 0 = a := by rw [← hzs]; rfl
      have hzl : 0 < zs.length ∧ zs.length ≤ 300 := by
        have := hok.short a
        rw [← hzs]
        simp only [List.length_cons]
        omega
      rw [hzs] at HR3
      rw [hms] at HFW HR3 HR4
      obtain ⟨nz, hnz⟩ : ∃ m, zs.length = m := ⟨_, rfl⟩
      obtain ⟨nm, hnm2⟩ : ∃ m, ms.length = m := ⟨_, rfl⟩
      rw [hnz] at hzl
      have HNZ := Lib.hid hnz
      have HNM := Lib.hid hnm2
      have HZ0 := Lib.hid hz0
      have HSM := Lib.hid (sameT_refl l)
      have tz : decide (0 < nz) = true := decide_eq_true hzl.1
      have tz2 : decide ((0 : Int) < (nz : Int)) = true := by have := hzl.1; simp; omega
      clear hok ha hb hon hm hl hl1 hok2 hway hnm hless hzs hms hnz hnm2 hz0
      go_enter Try.func6, Try.ntmps6
      go_wp2_with fail
      refine (live_any _).mono ?_
      rintro e w1 ⟨rfl, b⟩
      have B1 := Lib.hid b
      clear b
      go_wp2_with fail
      refine (pwait_any A n c l a b _ (HX.out.below B1.out) HFA.out HFB.out).mono ?_
      rw [HFW.out]
      rintro e w2 ⟨A2, c2, rfl, o2, b⟩
      dsimp only at o2 ⊢
      have B2 := Lib.hid (below3 B1.out b)
      have OA := Lib.hid (o2.base B1.out.size)
      rw [HNM.out]
      clear b o2
      have hca := OA.out.cap
      go_wp2_with fail
      refine (pfor_any A2 nm c2 ms b _ (OA.out.tmsN HNM.out) HFB.out).mono ?_
      rw [HR3.out]
      rintro e w3 ⟨A3, c3, rfl, o3, b⟩
      dsimp only at o3 ⊢
      have B3 := Lib.hid (below3 B2.out b)
      replace OA := Lib.hid (OA.out.below b)
      have OZ := Lib.hid (o3.base B2.out.size)
      clear b o3
      rw [HNZ.out]
      have hcz := OZ.out.cap
      rw [HNZ.out] at hcz
      go_wp2_with fail
      refine (pdrop_any A2 nm c2 ms b _ (OA.out.tmsN HNM.out) HFB.out).mono ?_
      rw [HR4.out]
      rintro e w4 ⟨A4, c4, rfl, o4, b⟩
      dsimp only at o4 ⊢
      have B4 := Lib.hid (below3 B3.out b)
      replace OZ := Lib.hid (OZ.out.below b)
      have OD := Lib.hid (o4.base B3.out.size)
      clear b o4
      rw [LX.out]
      go_wp2_with fail
      refine (pfor_any A4 n c4 l b _ (OD.out.tmsN LX.out) HFB.out).mono ?_
      rw [HR5.out]
      rintro e w5 ⟨A5, c5, rfl, o5, b⟩
      dsimp only at o5 ⊢
      have B5 := Lib.hid (below3 B4.out b)
      replace OZ := Lib.hid (OZ.out.below b)
      replace OD := Lib.hid (OD.out.below b)
      have OE := Lib.hid (o5.base B4.out.size)
      clear b o5
      obtain ⟨bZ, oZ, rfl, hbZ, cZ⟩ := (OZ.out.intsN HNZ.out).at_ hzl.1
      rw [HZ0.out, Nat.add_zero] at cZ
      have td : (a == a) = true := by simp
      have hce := OE.out.cap
      go_wp2_with fail
      refine (psame_any A4 A n c4 n c l l _ (OD.out.tmsN LX.out) (HX.out.below B5.out)).mono ?_
      rw [HSM.out]
      rintro e w6 ⟨rfl, k6, rfl⟩
      have B6 := Lib.hid (below3 B5.out (drew_below w5 k6))
      go_wp2_with fail
      go_ret
      exact ⟨rfl, B6.out⟩
    · obtain ⟨f, hfw, hf0⟩ : ∃ f, waitR l a b = (f, []) ∧ f ≠ 0 := by
        unfold waitR
        by_cases h1 : okJ l ∧ 0 ≤ a ∧ 0 ≤ b
        · rw [if_pos h1]
          by_cases h2 : 0 ≤ onL l b
          · exact ⟨6, by rw [if_pos h2], by decide⟩
          · rw [if_neg h2]
            by_cases h3 : a = b ∨ b ∈ wayJ l a
            · exact ⟨9, by rw [if_pos h3], by decide⟩
            · rw [if_neg h3]
              by_cases h4 : l.length = 256
              · exact ⟨7, by rw [if_pos h4], by decide⟩
              · exact absurd ⟨h1.1, h1.2.1, h1.2.2, h2, h3, h4⟩ hg
        · exact ⟨1, by rw [if_neg h1], by decide⟩
      have HFW := Lib.hid hfw
      have tf : (f != 0) = true := by simpa using hf0
      clear hfw hf0 hg
      go_enter Try.func6, Try.ntmps6
      go_wp2_with fail
      refine (live_any _).mono ?_
      rintro e w1 ⟨rfl, b⟩
      have B1 := Lib.hid b
      clear b
      go_wp2_with fail
      refine (pwait_any A n c l a b _ (HX.out.below B1.out) HFA.out HFB.out).mono ?_
      rw [HFW.out]
      rintro e w2 ⟨A2, c2, rfl, o2, b⟩
      dsimp only at o2 ⊢
      have B2 := Lib.hid (below3 B1.out b)
      have OA := Lib.hid (o2.base B1.out.size)
      clear b o2
      have hca := OA.out.cap
      go_wp2_with fail
      go_ret
      exact ⟨rfl, B2.out⟩

end Go.Proofs.Ytkffmohgnbnhkaa
