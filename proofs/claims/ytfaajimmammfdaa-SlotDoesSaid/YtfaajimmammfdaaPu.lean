/-
  The contract of layer 5's Take, where a place is free; and all ways in one.
-/
import Derived.Test.YtfaajimmammfdaaPt
import Derived.OrdersHeld
import Derived.WalkSpells
import Derived.Deep.CutBlock
import Derived.Deep.DeepCutAuto
namespace Go.Proofs.Ytfaajimmammfdaa
open Go.RowKit

/-- What stays: a block of two cells. -/
def BoxS (g : Nat) (x y : Value) (U : World) : Prop := U.cell? ⟨g, 0, none⟩ = some x ∧ U.cell? ⟨g, 1, none⟩ = some y
theorem BoxS.set2 {g b : Nat} {x y : Value} {U : World} (h : BoxS g x y U) (hb : ¬ (g = b)) (u v : Value) : BoxS g x y ((U.setCell ⟨b, 0, none⟩ u).setCell ⟨b, 1, none⟩ v) := by
  constructor
  · rw [World.cell?_setCell_other _ _ _ _ (by first | (simp; done) | simpa using hb), World.cell?_setCell_other _ _ _ _ (by first | (simp; done) | simpa using hb)]; exact h.1
  · rw [World.cell?_setCell_other _ _ _ _ (by first | (simp; done) | simpa using hb), World.cell?_setCell_other _ _ _ _ (by first | (simp; done) | simpa using hb)]; exact h.2

theorem pans_of {w w' : World} {m c d : Nat} {A B : Option Addr} {gs : List Int} {ls : List Bool} {x er : Int} {e : Ending} (hN : gs.length = m) (hM : ls.length = m) (he : e = .returned (.tuple #[.int .i64 x, .agg #[.slice A m c, .slice B m d], .int .i64 er])) (ho : OwnP w' w.heap.size A c B d gs ls) (hb : Below w.heap.size w w') : PAns (x, gs, ls, er) w e w' := by
  subst hN
  exact ⟨A, c, B, d, by rw [he, hM], ho, hb⟩

set_option maxHeartbeats 4000000 in
theorem take_first (A B : Option Addr) (n c m d : Nat) (gs : List Int) (ls : List Bool) (i : Nat) (w : World) (hp : Plc w A n B m gs ls) (h : okS gs ls) (hf : IsFirst gs ls i) :
    Calls Try.prog 12 #[.agg #[.slice A n c, .slice B m d]] w (PAns (idP gs i, gs, ls.set i true, 0) w) := by
  obtain ⟨k1, k2, hb0⟩ := lies2 w #[.slice A n c, .slice B m d] #[.slice none 0 0, .slice none 0 0] 25 25
  have hmn : m = n := by have := h.2.2.1; have := hp.g.1; have := hp.l.1; omega
  subst hmn
  have hm : m ≤ 256 := by have := h.2.1; have := hp.g.1; omega
  have him : i < m := by have := hf.1; have := hp.g.1; omega
  have HNF := Lib.hid (fun (j : Nat) (hj : j < i) => freeB_no.2 (hf.2.2 j hj))
  have HYF := Lib.hid (freeB_yes.2 hf.2.1)
  have HP := Lib.hid (hp.below hb0)
  have HN := Lib.hid hp.g.1
  have HM := Lib.hid hp.l.1
  have K1 := Lib.hid k1
  have K2 := Lib.hid k2
  have B0 := Lib.hid hb0
  have HE := Lib.hid (errS_ok h)
  have HOK := Lib.hid (ok_take h hf)
  have a0 := K1.out.c0
  have a1 := K1.out.c1
  clear hp k1 k2 hb0 h hf
  go_enter Try.func12, Try.ntmps12
  go_wp2_with fail
  refine (check_any A B m c m d gs ls _ HP.out).mono ?_
  rintro e w1 ⟨rfl, hb1⟩
  rw [HE.out]
  have B1 := Lib.hid (below3 B0.out hb1)
  have P1 := Lib.hid (HP.out.below hb1)
  have J1 := Lib.hid (K1.out.below hb1 K1.out.lt)
  have J2 := Lib.hid (K2.out.below hb1 K2.out.lt)
  clear hb1 K1 K2 a0 a1 HP B0
  have a0 := J1.out.c0
  have a1 := J1.out.c1
  go_wp2_with fail
  refine (freeOf_any A B m c m d _).mono ?_
  rintro e w2 ⟨g, rfl, hk, hg, hb2⟩
  have B2 := Lib.hid (below3 B1.out hb2)
  have P2 := Lib.hid (P1.out.below hb2)
  have L1 := Lib.hid (J1.out.below hb2 J1.out.lt)
  have L2 := Lib.hid (J2.out.below hb2 J2.out.lt)
  have HK := Lib.hid hk
  clear hb2 J1 J2 a0 a1 hk hg P1 B1
  have a0 := L1.out.c0
  have a1 := L1.out.c1
  go_wp2
  go_loop [20] (fun t => TkRel gs ls i t) (fun t => m - (intOf t).toNat)
  case atStart => exact ⟨0, Nat.zero_le _, rfl, fun j hj => absurd hj (by omega)⟩
  case round =>
    obtain ⟨k, hk, rfl, hall⟩ := hrel
    clear hall
    by_cases hlt : k < i
    · have HF := Lib.hid (HNF.out k hlt)
      have hkm : k < m := by omega
      go_wp2_with fail
      refine (isFree_any g A B m c m d gs ls k _ HK.out P2.out hkm hkm).mono ?_
      rintro e w' ⟨rfl, rfl⟩
      rw [HF.out]
      go_wp2
      go_round
      case rel => exact ⟨k + 1, by omega, by go_num, fun j hj => HNF.out j (by omega)⟩
      case measure => simp [intOf]; omega
    · obtain rfl : k = i := by omega
      clear hlt hk
      go_wp2_with fail
      refine (isFree_any g A B m c m d gs ls k _ HK.out P2.out him him).mono ?_
      rintro e w' ⟨rfl, rfl⟩
      rw [HYF.out]
      go_wp2_with fail
      refine (clone_any A B m c m d gs ls _ P2.out).mono ?_
      rintro e w3 ⟨A', c', B', d', rfl, ho, hb3⟩
      have B3 := Lib.hid (below3 B2.out hb3)
      have M2 := Lib.hid (L2.out.below hb3 L2.out.lt)
      have HO := Lib.hid ho
      have hres := Lib.hid (Nat.lt_of_lt_of_le L2.out.lt (Nat.le_refl _))
      clear hb3 ho a0 a1 L1 L2 HK
      have hlB : k < ls.length := by rw [HM.out]; exact him
      obtain ⟨gB, rfl, hgB1, hgB2, -, -⟩ := HO.out.l.form (by omega)
      have ha := (Below.refl w3.heap.size w3).alloc (Nat.le_refl _) (.cells #[.slice A' m c', .slice (some ⟨gB, 0, none⟩) m d'] 25)
      have O4 := HO.out.below ha
      have K4 := Bk.new w3 25 #[.slice A' m c', .slice (some ⟨gB, 0, none⟩) m d']
      have M4 := M2.out.alloc (.cells #[.slice A' m c', .slice (some ⟨gB, 0, none⟩) m d'] 25)
      have hlt2 := hres.out
      have n1 : ¬ (w3.heap.size = gB) := by omega
      have n2 : ¬ (gB = w3.heap.size) := by omega
      have n3 : ¬ (w.heap.size + 1 = gB) := by omega
      have n4 : ¬ (w3.heap.size = w.heap.size + 1) := by omega
      obtain ⟨cB, fB⟩ := O4.l.at_ hlB
      have k0 := K4.c0
      have k1 := K4.c1
      have O5 := Lib.hid (O4.setL k true)
      have K5 := Lib.hid (K4.far (p := ⟨gB, k, none⟩) n1 (.bool true))
      have M5 := Lib.hid (M4.far (p := ⟨gB, k, none⟩) n3 (.bool true))
      have B5 := Lib.hid ((B3.out.alloc B3.out.size (.cells #[.slice A' m c', .slice (some ⟨gB, 0, none⟩) m d'] 25)).setCell (p := ⟨gB, k, none⟩) (Nat.le_trans B2.out.size hgB1) (.bool true))
      have hz2 : w2.heap.size ≤ w3.heap.size := by omega
      have HZ := Lib.hid hz2
      have HL2 := Lib.hid hlt2
      rw [HN.out, HM.out]
      clear O4 K4 M4 ha hgB1 hgB2 hlt2 hz2 M2 HO hres hlB
      go_wp2
      clear cB fB k0 k1 n1 n2
      refine wp_region_held (S := BoxS w3.heap.size (.slice A' m c') (.slice (some ⟨gB, 0, none⟩) m d')) (by kernel_rfl) ?_
      change wpAnyH _ _ _ _ _ _ _ _ (World.drew _)
      replace O5 := Lib.hid (show OwnP (World.drew _) _ _ _ _ _ _ _ from O5.out.below (Below.refl _ _).drew)
      replace K5 := Lib.hid K5.out.drew
      replace M5 := Lib.hid M5.out.drew
      replace B5 := Lib.hid B5.out.drew
      generalize (World.drew _) = w5 at O5 K5 M5 B5 ⊢
      have h5 : BoxS w3.heap.size (.slice A' m c') (.slice (some ⟨gB, 0, none⟩) m d') w5 := ⟨K5.out.c0, K5.out.c1⟩
      refine wpAnyH_take (i := 0) (v := .agg #[.slice A' m c', .slice (some ⟨gB, 0, none⟩) m d']) rfl (by kernel_rfl) (by kernel_rfl) (by kernel_rfl) (fun _ _ _ h => h) (.inl ⟨by rfl, fun U hU => by have h3 := hU.1; have h4 := hU.2; go_simp⟩) h5 ?_
      refine wpAnyH_take (i := 1) (v := .int .i64 (k : Int)) rfl (by kernel_rfl) (by kernel_rfl) (by kernel_rfl) (fun _ _ _ h => h) (.inl ⟨by rfl, fun U hU => by go_simp⟩) h5 ?_
      refine wpAnyH_take (i := 3) (v := .agg #[.slice A' m c', .slice (some ⟨gB, 0, none⟩) m d']) rfl (by kernel_rfl) (by kernel_rfl) (by kernel_rfl) (fun _ _ _ h => h) (.inl ⟨by rfl, fun U hU => by have h3 := hU.1; have h4 := hU.2; go_simp⟩) h5 ?_
      refine wpAnyH_all (rs := [2]) (by kernel_rfl) (by simp) ?_
      intro i hi
      simp only [List.mem_cons, List.not_mem_nil, or_false] at hi
      subst hi
      unfold wpOp
      go_simp
      left
      refine (id_any A' (some ⟨gB, 0, none⟩) m c' m d' gs (ls.set k true) k _ (by have := O5.out.plc; rwa [HN.out, List.length_set, HM.out] at this) HOK.out him).mono ?_
      rintro e w6 ⟨rfl, hb6⟩
      have K6 := K5.out.below hb6 K5.out.lt
      have M6 := Lib.hid (M5.out.below hb6 M5.out.lt)
      have O6 := Lib.hid (O5.out.below hb6)
      have B6 := Lib.hid (below3 B5.out hb6)
      have h6 : BoxS w3.heap.size (.slice A' m c') (.slice (some ⟨gB, 0, none⟩) m d') w6 := ⟨K6.c0, K6.c1⟩
      refine ⟨h6, ?_⟩
      clear hb6 K5 M5 O5 B5 h5 K6
      refine wpAnyH_take (i := 4) (v := .int .i64 (idP gs k)) rfl (by kernel_rfl) (by kernel_rfl) (by kernel_rfl) (fun _ _ _ h => h) (.inl ⟨by rfl, fun U hU => by go_simp⟩) h6 ?_
      refine wpAnyH_all (rs := [5]) (by kernel_rfl) (by simp) ?_
      intro i hi
      simp only [List.mem_cons, List.not_mem_nil, or_false] at hi
      subst hi
      have r0 := M6.out.c0
      have r1 := M6.out.c1
      have f0 := M6.out.frozen 0
      have f1 := M6.out.frozen 1
      unfold wpOp
      go_simp
      left
      have h7 := h6.set2 n4 (.slice A' m c') (.slice (some ⟨gB, 0, none⟩) m d')
      have HF := Lib.hid (pans_of HN.out ((List.length_set ..).trans HM.out) (er := 0) (x := idP gs k) (c := c') (d := d') rfl (((O6.out.far (p := ⟨w.heap.size + 1, 0, none⟩) HL2.out (.slice A' m c')).far (p := ⟨w.heap.size + 1, 1, none⟩) HL2.out (.slice (some ⟨gB, 0, none⟩) m d')).base B2.out.size)
        ((B6.out.setCell (p := ⟨w.heap.size + 1, 0, none⟩) (Nat.le_succ _) (.slice A' m c')).setCell (p := ⟨w.heap.size + 1, 1, none⟩) (Nat.le_succ _) (.slice (some ⟨gB, 0, none⟩) m d')))
      refine ⟨h7, ?_⟩
      clear M6 O6 B6 h6
      refine wpAnyH_take (i := 6) (v := .int .i64 0) rfl (by kernel_rfl) (by kernel_rfl) (by kernel_rfl) (fun _ _ _ h => h) (.inl ⟨by rfl, fun U hU => by go_simp⟩) h7 ?_
      refine wpAnyH_done (by kernel_rfl) ?_ _
      clear h7
      go_wp2
      exact bodyPost_ret (v := .tuple #[.int .i64 (idP gs k), .agg #[.slice A' m c', .slice (some ⟨gB, 0, none⟩) m d'], .int .i64 0]) (by simp [results, Try.results12, go_sem, *]) rfl HF.out

theorem take_any (A B : Option Addr) (n c m d : Nat) (gs : List Int) (ls : List Bool) (w : World) (hp : Plc w A n B m gs ls) :
    Calls Try.prog 12 #[.agg #[.slice A n c, .slice B m d]] w (PAns (takeF gs ls) w) := by
  by_cases h : okS gs ls
  · rcases first_or gs ls with ⟨i, hi⟩ | hf
    · rw [takeF_first h hi]; exact take_first A B n c m d gs ls i w hp h hi
    · rw [takeF_full h hf]; exact take_full A B n c m d gs ls w hp h hf
  · rw [takeF_bad h]; exact take_bad A B n c m d gs ls w hp h

end Go.Proofs.Ytfaajimmammfdaa
