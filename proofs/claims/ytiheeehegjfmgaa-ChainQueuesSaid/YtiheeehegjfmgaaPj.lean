/-
  The program's Pop, and Cut.
-/
import Derived.Test.YtiheeehegjfmgaaPi
namespace Go.Proofs.Ytiheeehegjfmgaa
open Go.RowKit Go.Shelf

def NewPE (x : Int) (next head tail : List Int) (er : Int) (w : World) (e : Ending) (w' : World) : Prop :=
  ∃ A a B b D d, e = .returned (.tuple #[.int .i64 x, .agg #[.slice A next.length a, .slice B head.length b, .slice D tail.length d], .int .i64 er]) ∧ OwnK w' w.heap.size A a B b D d next head tail ∧ Below w.heap.size w w'

set_option maxHeartbeats 2000000 in
theorem pop_no (A B D : Option Addr) (n a m b k d : Nat) (next head tail : List Int) (list : Int) (hno : ∀ qs, ¬ Rep next head tail qs) (w : World) (hp : Chn w A n B m D k next head tail) :
    Calls Try.prog 14 #[.agg #[.slice A n a, .slice B m b, .slice D k d], .int .i64 list] w (NewPE 0 [] [] [] 1 w) := by
  have hb2 := ((Below.refl w.heap.size w).alloc (Nat.le_refl _) (.cells #[.slice A n a, .slice B m b, .slice D k d] 24)).alloc (by simp) (.cells #[.slice none 0 0, .slice none 0 0, .slice none 0 0] 24)
  have K2 := (Bk.new w 24 #[.slice A n a, .slice B m b, .slice D k d]).alloc (.cells #[.slice none 0 0, .slice none 0 0, .slice none 0 0] 24)
  have Z2 := Bk.new (w.alloc (.cells #[.slice A n a, .slice B m b, .slice D k d] 24)) 24 #[.slice none 0 0, .slice none 0 0, .slice none 0 0]
  rw [size_alloc] at Z2
  have HP2 := Lib.hid (hp.below hb2)
  have HB2 := Lib.hid hb2
  have c0 := K2.e0
  have c1 := K2.e1
  have c2 := K2.e2
  have HP0 := Lib.hid hp
  have HLX := Lib.hid hp.x.1
  have HLH := Lib.hid hp.h.1
  have HLT := Lib.hid hp.t.1
  clear hp hb2
  go_enter Try.func14, Try.ntmps14
  go_wp2_with (go_at_call 37; refine (has_no A B D n a m b k d next head tail list hno ((w.alloc (.cells #[.slice A n a, .slice B m b, .slice D k d] 24)).alloc (.cells #[.slice none 0 0, .slice none 0 0, .slice none 0 0] 24)) HP2.out).mono ?_; rintro e w3 ⟨rfl, hb3⟩; have HB3 := Lib.hid (below3 HB2.out hb3); have K3 := K2.below hb3 K2.lt; have k0 := K3.e0; have k1 := K3.e1; have k2 := K3.e2; have Z3 := Z2.below hb3 Z2.lt; have z0 := Z3.e0; have z1 := Z3.e1; have z2 := Z3.e2; have f0 := Z3.frozen 0; have f1 := Z3.frozen 1; have f2 := Z3.frozen 2; have HP3 := Lib.hid (HP2.out.below hb3); have HS3 := Lib.hid hb3.size; clear hb3)
  exact bodyPost_ret (v := .tuple #[.int .i64 0, .agg #[.slice none 0 0, .slice none 0 0, .slice none 0 0], .int .i64 1]) (by simp [results, Try.results14, go_sem, *]) rfl ⟨none, 0, none, 0, none, 0, rfl, ownk_nil _ _, (((HB3.out.setCell (p := ⟨w.heap.size + 1, 0, none⟩) (by simp) (.slice none 0 0)).setCell (p := ⟨w.heap.size + 1, 1, none⟩) (by simp) (.slice none 0 0)).setCell (p := ⟨w.heap.size + 1, 2, none⟩) (by simp) (.slice none 0 0))⟩

set_option maxHeartbeats 2000000 in
theorem pop_out (A B D : Option Addr) (n a m b k d : Nat) (next head tail : List Int) (list : Int) (qs : List (List Int)) (r : Rep next head tail qs) (hin : inBd list (m : Int) = false) (w : World) (hp : Chn w A n B m D k next head tail) :
    Calls Try.prog 14 #[.agg #[.slice A n a, .slice B m b, .slice D k d], .int .i64 list] w (NewPE 0 [] [] [] 1 w) := by
  have hb2 := ((Below.refl w.heap.size w).alloc (Nat.le_refl _) (.cells #[.slice A n a, .slice B m b, .slice D k d] 24)).alloc (by simp) (.cells #[.slice none 0 0, .slice none 0 0, .slice none 0 0] 24)
  have K2 := (Bk.new w 24 #[.slice A n a, .slice B m b, .slice D k d]).alloc (.cells #[.slice none 0 0, .slice none 0 0, .slice none 0 0] 24)
  have Z2 := Bk.new (w.alloc (.cells #[.slice A n a, .slice B m b, .slice D k d] 24)) 24 #[.slice none 0 0, .slice none 0 0, .slice none 0 0]
  rw [size_alloc] at Z2
  have HP2 := Lib.hid (hp.below hb2)
  have HB2 := Lib.hid hb2
  have c0 := K2.e0
  have c1 := K2.e1
  have c2 := K2.e2
  have HP0 := Lib.hid hp
  have HLX := Lib.hid hp.x.1
  have HLH := Lib.hid hp.h.1
  have HLT := Lib.hid hp.t.1
  clear hp hb2
  go_enter Try.func14, Try.ntmps14
  go_wp2_with (go_at_call 37; refine (has_out A B D n a m b k d next head tail list qs r hin ((w.alloc (.cells #[.slice A n a, .slice B m b, .slice D k d] 24)).alloc (.cells #[.slice none 0 0, .slice none 0 0, .slice none 0 0] 24)) HP2.out).mono ?_; rintro e w3 ⟨rfl, hb3⟩; have HB3 := Lib.hid (below3 HB2.out hb3); have K3 := K2.below hb3 K2.lt; have k0 := K3.e0; have k1 := K3.e1; have k2 := K3.e2; have Z3 := Z2.below hb3 Z2.lt; have z0 := Z3.e0; have z1 := Z3.e1; have z2 := Z3.e2; have f0 := Z3.frozen 0; have f1 := Z3.frozen 1; have f2 := Z3.frozen 2; have HP3 := Lib.hid (HP2.out.below hb3); have HS3 := Lib.hid hb3.size; clear hb3)
  exact bodyPost_ret (v := .tuple #[.int .i64 0, .agg #[.slice none 0 0, .slice none 0 0, .slice none 0 0], .int .i64 1]) (by simp [results, Try.results14, go_sem, *]) rfl ⟨none, 0, none, 0, none, 0, rfl, ownk_nil _ _, (((HB3.out.setCell (p := ⟨w.heap.size + 1, 0, none⟩) (by simp) (.slice none 0 0)).setCell (p := ⟨w.heap.size + 1, 1, none⟩) (by simp) (.slice none 0 0)).setCell (p := ⟨w.heap.size + 1, 2, none⟩) (by simp) (.slice none 0 0))⟩

set_option maxHeartbeats 2000000 in
theorem pop_none (A B D : Option Addr) (n a m b k d : Nat) (next head tail : List Int) (i : Nat) (qs : List (List Int)) (r : Rep next head tail qs) (hi : i < qs.length) (hz : (qth qs i).length = 0) (w : World) (hp : Chn w A n B m D k next head tail) :
    Calls Try.prog 14 #[.agg #[.slice A n a, .slice B m b, .slice D k d], .int .i64 i] w (NewPE 0 [] [] [] 5 w) := by
  have hb2 := ((Below.refl w.heap.size w).alloc (Nat.le_refl _) (.cells #[.slice A n a, .slice B m b, .slice D k d] 24)).alloc (by simp) (.cells #[.slice none 0 0, .slice none 0 0, .slice none 0 0] 24)
  have K2 := (Bk.new w 24 #[.slice A n a, .slice B m b, .slice D k d]).alloc (.cells #[.slice none 0 0, .slice none 0 0, .slice none 0 0] 24)
  have Z2 := Bk.new (w.alloc (.cells #[.slice A n a, .slice B m b, .slice D k d] 24)) 24 #[.slice none 0 0, .slice none 0 0, .slice none 0 0]
  rw [size_alloc] at Z2
  have HP2 := Lib.hid (hp.below hb2)
  have HB2 := Lib.hid hb2
  have c0 := K2.e0
  have c1 := K2.e1
  have c2 := K2.e2
  have HP0 := Lib.hid hp
  have HLX := Lib.hid hp.x.1
  have HLH := Lib.hid hp.h.1
  have HLT := Lib.hid hp.t.1
  clear hp hb2
  have him : i < m := by have := HLH.out; have := r.lh; omega
  have hin : inBd (i : Int) (m : Int) = true := by simp [inBd]; omega
  obtain ⟨bB, oB, rfl, hbB, hcB⟩ := HP0.out.h.2.2.2 (by omega)
  have ch := hcB i him
  have HHD := Lib.hid (r.hd i hi)
  have e0 : headO (qth qs i) = -1 := if_pos hz
  rw [HHD.out, e0] at ch
  clear e0 hz hcB
  go_enter Try.func14, Try.ntmps14
  go_wp2_with (go_at_call 37; refine (has_yes A (some ⟨bB, oB, none⟩) D n a m b k d next head tail i qs r hin ((w.alloc (.cells #[.slice A n a, .slice (some ⟨bB, oB, none⟩) m b, .slice D k d] 24)).alloc (.cells #[.slice none 0 0, .slice none 0 0, .slice none 0 0] 24)) HP2.out).mono ?_; rintro e w3 ⟨rfl, hb3⟩; have HB3 := Lib.hid (below3 HB2.out hb3); have K3 := K2.below hb3 K2.lt; have k0 := K3.e0; have k1 := K3.e1; have k2 := K3.e2; have Z3 := Z2.below hb3 Z2.lt; have z0 := Z3.e0; have z1 := Z3.e1; have z2 := Z3.e2; have f0 := Z3.frozen 0; have f1 := Z3.frozen 1; have f2 := Z3.frozen 2; have HP3 := Lib.hid (HP2.out.below hb3); have HS3 := Lib.hid hb3.size; have ch3 := (HB3.out.cell (p := ⟨bB, oB + i, none⟩) hbB).trans ch; clear hb3)
  exact bodyPost_ret (v := .tuple #[.int .i64 0, .agg #[.slice none 0 0, .slice none 0 0, .slice none 0 0], .int .i64 5]) (by simp [results, Try.results14, go_sem, *]) rfl ⟨none, 0, none, 0, none, 0, rfl, ownk_nil _ _, (((HB3.out.setCell (p := ⟨w.heap.size + 1, 0, none⟩) (by simp) (.slice none 0 0)).setCell (p := ⟨w.heap.size + 1, 1, none⟩) (by simp) (.slice none 0 0)).setCell (p := ⟨w.heap.size + 1, 2, none⟩) (by simp) (.slice none 0 0))⟩

set_option maxHeartbeats 2000000 in
theorem pop_ok (A B D : Option Addr) (n a m b k d : Nat) (next head tail : List Int) (i x : Nat) (qs : List (List Int)) (r : Rep next head tail qs) (hi : i < qs.length) (hp' : 0 < (qth qs i).length) (hx : nth (qth qs i) 0 = (x : Int)) (w : World) (hp : Chn w A n B m D k next head tail) :
    Calls Try.prog 14 #[.agg #[.slice A n a, .slice B m b, .slice D k d], .int .i64 i] w (NewPE x (cutN next (-1) x) (cutH next head i (-1) x) (cutT tail i (-1) x) 0 w) := by
  have hb2 := ((Below.refl w.heap.size w).alloc (Nat.le_refl _) (.cells #[.slice A n a, .slice B m b, .slice D k d] 24)).alloc (by simp) (.cells #[.slice none 0 0, .slice none 0 0, .slice none 0 0] 24)
  have K2 := (Bk.new w 24 #[.slice A n a, .slice B m b, .slice D k d]).alloc (.cells #[.slice none 0 0, .slice none 0 0, .slice none 0 0] 24)
  have Z2 := Bk.new (w.alloc (.cells #[.slice A n a, .slice B m b, .slice D k d] 24)) 24 #[.slice none 0 0, .slice none 0 0, .slice none 0 0]
  rw [size_alloc] at Z2
  have HP2 := Lib.hid (hp.below hb2)
  have HB2 := Lib.hid hb2
  have c0 := K2.e0
  have c1 := K2.e1
  have c2 := K2.e2
  have HP0 := Lib.hid hp
  have HLX := Lib.hid hp.x.1
  have HLH := Lib.hid hp.h.1
  have HLT := Lib.hid hp.t.1
  clear hp hb2
  have him : i < m := by have := HLH.out; have := r.lh; omega
  have hin : inBd (i : Int) (m : Int) = true := by simp [inBd]; omega
  obtain ⟨bB, oB, rfl, hbB, hcB⟩ := HP0.out.h.2.2.2 (by omega)
  have ch := hcB i him
  have HHD := Lib.hid (r.hd i hi)
  have e0 : headO (qth qs i) = (x : Int) := by rw [headO_at hp', hx]
  rw [HHD.out, e0] at ch
  have hxm : ((x : Int) == -1) = false := by rw [beq_eq_false_iff_ne]; omega
  have HAH : Hid (aheadO (qth qs i) 0 = -1) := Lib.hid (if_pos rfl)
  have HHX := Lib.hid hx
  clear e0 hcB hx
  go_enter Try.func14, Try.ntmps14
  go_wp2_with first
    | (go_at_call 37; refine (has_yes A (some ⟨bB, oB, none⟩) D n a m b k d next head tail i qs r hin ((w.alloc (.cells #[.slice A n a, .slice (some ⟨bB, oB, none⟩) m b, .slice D k d] 24)).alloc (.cells #[.slice none 0 0, .slice none 0 0, .slice none 0 0] 24)) HP2.out).mono ?_; rintro e w3 ⟨rfl, hb3⟩; have HB3 := Lib.hid (below3 HB2.out hb3); have K3 := K2.below hb3 K2.lt; have k0 := K3.e0; have k1 := K3.e1; have k2 := K3.e2; have Z3 := Z2.below hb3 Z2.lt; have z0 := Z3.e0; have z1 := Z3.e1; have z2 := Z3.e2; have f0 := Z3.frozen 0; have f1 := Z3.frozen 1; have f2 := Z3.frozen 2; have HP3 := Lib.hid (HP2.out.below hb3); have HS3 := Lib.hid hb3.size; have ch3 := (HB3.out.cell (p := ⟨bB, oB + i, none⟩) hbB).trans ch; clear hb3)
    | (go_at_call 38; have hwo := without_any A (some ⟨bB, oB, none⟩) D n a m b k d next head tail i 0 x qs r hi hp' HHX.out w3 HP3.out; rw [HAH.out] at hwo; refine hwo.mono ?_; clear hwo; rintro e w7 ⟨A7, a7, B7, b7, D7, d7, rfl, hk7, hb7⟩; have HB7 := Lib.hid (below3 HB3.out hb7); have HK7 := Lib.hid hk7; have Z7 := Z3.below hb7 Z3.lt; have y0 := Z7.e0; have y1 := Z7.e1; have y2 := Z7.e2; have g0 := Z7.frozen 0; have g1 := Z7.frozen 1; have g2 := Z7.frozen 2; clear hb7 hk7)
  have hs3 := HS3.out
  rw [size_alloc, size_alloc] at hs3
  exact bodyPost_ret (v := .tuple #[.int .i64 x, .agg #[.slice A7 (cutN next (-1) x).length a7, .slice B7 (cutH next head i (-1) x).length b7, .slice D7 (cutT tail i (-1) x).length d7], .int .i64 0]) (by simp [results, Try.results14, go_sem, *]) rfl ⟨A7, a7, B7, b7, D7, d7, rfl, (((HK7.out.far (g := w.heap.size + 1) (j := 0) (by omega) (.slice A7 (cutN next (-1) x).length a7)).far (g := w.heap.size + 1) (j := 1) (by omega) (.slice B7 (cutH next head i (-1) x).length b7)).far (g := w.heap.size + 1) (j := 2) (by omega) (.slice D7 (cutT tail i (-1) x).length d7)).base_ (by omega), (((HB7.out.setCell (p := ⟨w.heap.size + 1, 0, none⟩) (by simp) (.slice A7 (cutN next (-1) x).length a7)).setCell (p := ⟨w.heap.size + 1, 1, none⟩) (by simp) (.slice B7 (cutH next head i (-1) x).length b7)).setCell (p := ⟨w.heap.size + 1, 2, none⟩) (by simp) (.slice D7 (cutT tail i (-1) x).length d7))⟩

set_option maxHeartbeats 2000000 in
theorem cut_no (A B D : Option Addr) (n a m b k d : Nat) (next head tail : List Int) (x : Int) (hno : ∀ qs, ¬ Rep next head tail qs) (w : World) (hp : Chn w A n B m D k next head tail) :
    Calls Try.prog 16 #[.agg #[.slice A n a, .slice B m b, .slice D k d], .int .i64 x] w (NewCE [] [] [] 1 w) := by
  have hb2 := ((Below.refl w.heap.size w).alloc (Nat.le_refl _) (.cells #[.slice A n a, .slice B m b, .slice D k d] 24)).alloc (by simp) (.cells #[.slice none 0 0, .slice none 0 0, .slice none 0 0] 24)
  have K2 := (Bk.new w 24 #[.slice A n a, .slice B m b, .slice D k d]).alloc (.cells #[.slice none 0 0, .slice none 0 0, .slice none 0 0] 24)
  have Z2 := Bk.new (w.alloc (.cells #[.slice A n a, .slice B m b, .slice D k d] 24)) 24 #[.slice none 0 0, .slice none 0 0, .slice none 0 0]
  rw [size_alloc] at Z2
  have HP2 := Lib.hid (hp.below hb2)
  have HB2 := Lib.hid hb2
  have c0 := K2.e0
  have c1 := K2.e1
  have c2 := K2.e2
  have HP0 := Lib.hid hp
  have HLX := Lib.hid hp.x.1
  have HLH := Lib.hid hp.h.1
  have HLT := Lib.hid hp.t.1
  clear hp hb2
  go_enter Try.func16, Try.ntmps16
  go_wp2_with (go_at_call 25; refine (whereF_no A B D n a m b k d next head tail x hno ((w.alloc (.cells #[.slice A n a, .slice B m b, .slice D k d] 24)).alloc (.cells #[.slice none 0 0, .slice none 0 0, .slice none 0 0] 24)) HP2.out).mono ?_; rintro e w3 ⟨rfl, hb3⟩; have HB3 := Lib.hid (below3 HB2.out hb3); have K3 := K2.below hb3 K2.lt; have k0 := K3.e0; have k1 := K3.e1; have k2 := K3.e2; have Z3 := Z2.below hb3 Z2.lt; have z0 := Z3.e0; have z1 := Z3.e1; have z2 := Z3.e2; have f0 := Z3.frozen 0; have f1 := Z3.frozen 1; have f2 := Z3.frozen 2; have HP3 := Lib.hid (HP2.out.below hb3); have HS3 := Lib.hid hb3.size; clear hb3)
  exact bodyPost_ret (v := .tuple #[.agg #[.slice none 0 0, .slice none 0 0, .slice none 0 0], .int .i64 1]) (by simp [results, Try.results16, go_sem, *]) rfl ⟨none, 0, none, 0, none, 0, rfl, ownk_nil _ _, (((HB3.out.setCell (p := ⟨w.heap.size + 1, 0, none⟩) (by simp) (.slice none 0 0)).setCell (p := ⟨w.heap.size + 1, 1, none⟩) (by simp) (.slice none 0 0)).setCell (p := ⟨w.heap.size + 1, 2, none⟩) (by simp) (.slice none 0 0))⟩

set_option maxHeartbeats 2000000 in
theorem cut_out (A B D : Option Addr) (n a m b k d : Nat) (next head tail : List Int) (x : Int) (qs : List (List Int)) (r : Rep next head tail qs) (hin : inBd x (n : Int) = false) (w : World) (hp : Chn w A n B m D k next head tail) :
    Calls Try.prog 16 #[.agg #[.slice A n a, .slice B m b, .slice D k d], .int .i64 x] w (NewCE [] [] [] 1 w) := by
  have hb2 := ((Below.refl w.heap.size w).alloc (Nat.le_refl _) (.cells #[.slice A n a, .slice B m b, .slice D k d] 24)).alloc (by simp) (.cells #[.slice none 0 0, .slice none 0 0, .slice none 0 0] 24)
  have K2 := (Bk.new w 24 #[.slice A n a, .slice B m b, .slice D k d]).alloc (.cells #[.slice none 0 0, .slice none 0 0, .slice none 0 0] 24)
  have Z2 := Bk.new (w.alloc (.cells #[.slice A n a, .slice B m b, .slice D k d] 24)) 24 #[.slice none 0 0, .slice none 0 0, .slice none 0 0]
  rw [size_alloc] at Z2
  have HP2 := Lib.hid (hp.below hb2)
  have HB2 := Lib.hid hb2
  have c0 := K2.e0
  have c1 := K2.e1
  have c2 := K2.e2
  have HP0 := Lib.hid hp
  have HLX := Lib.hid hp.x.1
  have HLH := Lib.hid hp.h.1
  have HLT := Lib.hid hp.t.1
  clear hp hb2
  go_enter Try.func16, Try.ntmps16
  go_wp2_with (go_at_call 25; refine (whereF_out A B D n a m b k d next head tail x qs r hin ((w.alloc (.cells #[.slice A n a, .slice B m b, .slice D k d] 24)).alloc (.cells #[.slice none 0 0, .slice none 0 0, .slice none 0 0] 24)) HP2.out).mono ?_; rintro e w3 ⟨rfl, hb3⟩; have HB3 := Lib.hid (below3 HB2.out hb3); have K3 := K2.below hb3 K2.lt; have k0 := K3.e0; have k1 := K3.e1; have k2 := K3.e2; have Z3 := Z2.below hb3 Z2.lt; have z0 := Z3.e0; have z1 := Z3.e1; have z2 := Z3.e2; have f0 := Z3.frozen 0; have f1 := Z3.frozen 1; have f2 := Z3.frozen 2; have HP3 := Lib.hid (HP2.out.below hb3); have HS3 := Lib.hid hb3.size; clear hb3)
  exact bodyPost_ret (v := .tuple #[.agg #[.slice none 0 0, .slice none 0 0, .slice none 0 0], .int .i64 1]) (by simp [results, Try.results16, go_sem, *]) rfl ⟨none, 0, none, 0, none, 0, rfl, ownk_nil _ _, (((HB3.out.setCell (p := ⟨w.heap.size + 1, 0, none⟩) (by simp) (.slice none 0 0)).setCell (p := ⟨w.heap.size + 1, 1, none⟩) (by simp) (.slice none 0 0)).setCell (p := ⟨w.heap.size + 1, 2, none⟩) (by simp) (.slice none 0 0))⟩

set_option maxHeartbeats 2000000 in
theorem cut_none (A B D : Option Addr) (n a m b k d : Nat) (next head tail : List Int) (x : Int) (qs : List (List Int)) (r : Rep next head tail qs) (hin : inBd x (n : Int) = true) (hw : whereQ qs x = -1) (w : World) (hp : Chn w A n B m D k next head tail) :
    Calls Try.prog 16 #[.agg #[.slice A n a, .slice B m b, .slice D k d], .int .i64 x] w (NewCE [] [] [] 5 w) := by
  have hb2 := ((Below.refl w.heap.size w).alloc (Nat.le_refl _) (.cells #[.slice A n a, .slice B m b, .slice D k d] 24)).alloc (by simp) (.cells #[.slice none 0 0, .slice none 0 0, .slice none 0 0] 24)
  have K2 := (Bk.new w 24 #[.slice A n a, .slice B m b, .slice D k d]).alloc (.cells #[.slice none 0 0, .slice none 0 0, .slice none 0 0] 24)
  have Z2 := Bk.new (w.alloc (.cells #[.slice A n a, .slice B m b, .slice D k d] 24)) 24 #[.slice none 0 0, .slice none 0 0, .slice none 0 0]
  rw [size_alloc] at Z2
  have HP2 := Lib.hid (hp.below hb2)
  have HB2 := Lib.hid hb2
  have c0 := K2.e0
  have c1 := K2.e1
  have c2 := K2.e2
  have HP0 := Lib.hid hp
  have HLX := Lib.hid hp.x.1
  have HLH := Lib.hid hp.h.1
  have HLT := Lib.hid hp.t.1
  clear hp hb2
  have HHW := Lib.hid hw
  clear hw
  go_enter Try.func16, Try.ntmps16
  go_wp2_with (go_at_call 25; refine (whereF_ok A B D n a m b k d next head tail x qs r hin ((w.alloc (.cells #[.slice A n a, .slice B m b, .slice D k d] 24)).alloc (.cells #[.slice none 0 0, .slice none 0 0, .slice none 0 0] 24)) HP2.out).mono ?_; rintro e w3 ⟨rfl, hb3⟩; rw [HHW.out]; have HB3 := Lib.hid (below3 HB2.out hb3); have K3 := K2.below hb3 K2.lt; have k0 := K3.e0; have k1 := K3.e1; have k2 := K3.e2; have Z3 := Z2.below hb3 Z2.lt; have z0 := Z3.e0; have z1 := Z3.e1; have z2 := Z3.e2; have f0 := Z3.frozen 0; have f1 := Z3.frozen 1; have f2 := Z3.frozen 2; have HP3 := Lib.hid (HP2.out.below hb3); have HS3 := Lib.hid hb3.size; clear hb3)
  exact bodyPost_ret (v := .tuple #[.agg #[.slice none 0 0, .slice none 0 0, .slice none 0 0], .int .i64 5]) (by simp [results, Try.results16, go_sem, *]) rfl ⟨none, 0, none, 0, none, 0, rfl, ownk_nil _ _, (((HB3.out.setCell (p := ⟨w.heap.size + 1, 0, none⟩) (by simp) (.slice none 0 0)).setCell (p := ⟨w.heap.size + 1, 1, none⟩) (by simp) (.slice none 0 0)).setCell (p := ⟨w.heap.size + 1, 2, none⟩) (by simp) (.slice none 0 0))⟩

set_option maxHeartbeats 2000000 in
theorem cut_ok (A B D : Option Addr) (n a m b k d : Nat) (next head tail : List Int) (i p x : Nat) (qs : List (List Int)) (r : Rep next head tail qs) (hi : i < qs.length) (hp' : p < (qth qs i).length) (hx : nth (qth qs i) p = (x : Int)) (hin : inBd (x : Int) (n : Int) = true) (ah : Int) (hah : aheadO (qth qs i) p = ah) (w : World) (hp : Chn w A n B m D k next head tail) :
    Calls Try.prog 16 #[.agg #[.slice A n a, .slice B m b, .slice D k d], .int .i64 x] w (NewCE (cutN next ah x) (cutH next head i ah x) (cutT tail i ah x) 0 w) := by
  have hb2 := ((Below.refl w.heap.size w).alloc (Nat.le_refl _) (.cells #[.slice A n a, .slice B m b, .slice D k d] 24)).alloc (by simp) (.cells #[.slice none 0 0, .slice none 0 0, .slice none 0 0] 24)
  have K2 := (Bk.new w 24 #[.slice A n a, .slice B m b, .slice D k d]).alloc (.cells #[.slice none 0 0, .slice none 0 0, .slice none 0 0] 24)
  have Z2 := Bk.new (w.alloc (.cells #[.slice A n a, .slice B m b, .slice D k d] 24)) 24 #[.slice none 0 0, .slice none 0 0, .slice none 0 0]
  rw [size_alloc] at Z2
  have HP2 := Lib.hid (hp.below hb2)
  have HB2 := Lib.hid hb2
  have c0 := K2.e0
  have c1 := K2.e1
  have c2 := K2.e2
  have HP0 := Lib.hid hp
  have HLX := Lib.hid hp.x.1
  have HLH := Lib.hid hp.h.1
  have HLT := Lib.hid hp.t.1
  clear hp hb2
  have hw : whereQ qs (x : Int) = (i : Int) := r.where_at hi (by rw [← hx]; exact nth_mem_ hp')
  have HHW := Lib.hid hw
  have HAH := Lib.hid hah
  have HHX := Lib.hid hx
  have him1 : ((i : Int) == -1) = false := by rw [beq_eq_false_iff_ne]; omega
  clear hw hah hx
  go_enter Try.func16, Try.ntmps16
  go_wp2_with first
    | (go_at_call 25; refine (whereF_ok A B D n a m b k d next head tail x qs r hin ((w.alloc (.cells #[.slice A n a, .slice B m b, .slice D k d] 24)).alloc (.cells #[.slice none 0 0, .slice none 0 0, .slice none 0 0] 24)) HP2.out).mono ?_; rintro e w3 ⟨rfl, hb3⟩; rw [HHW.out]; have HB3 := Lib.hid (below3 HB2.out hb3); have K3 := K2.below hb3 K2.lt; have k0 := K3.e0; have k1 := K3.e1; have k2 := K3.e2; have Z3 := Z2.below hb3 Z2.lt; have z0 := Z3.e0; have z1 := Z3.e1; have z2 := Z3.e2; have f0 := Z3.frozen 0; have f1 := Z3.frozen 1; have f2 := Z3.frozen 2; have HP3 := Lib.hid (HP2.out.below hb3); have HS3 := Lib.hid hb3.size; clear hb3)
    | (go_at_call 38; have hwo := without_any A B D n a m b k d next head tail i p x qs r hi hp' HHX.out w3 HP3.out; rw [HAH.out] at hwo; refine hwo.mono ?_; clear hwo; rintro e w7 ⟨A7, a7, B7, b7, D7, d7, rfl, hk7, hb7⟩; have HB7 := Lib.hid (below3 HB3.out hb7); have HK7 := Lib.hid hk7; have Z7 := Z3.below hb7 Z3.lt; have y0 := Z7.e0; have y1 := Z7.e1; have y2 := Z7.e2; have g0 := Z7.frozen 0; have g1 := Z7.frozen 1; have g2 := Z7.frozen 2; clear hb7 hk7)
  have hs3 := HS3.out
  rw [size_alloc, size_alloc] at hs3
  exact bodyPost_ret (v := .tuple #[.agg #[.slice A7 (cutN next ah x).length a7, .slice B7 (cutH next head i ah x).length b7, .slice D7 (cutT tail i ah x).length d7], .int .i64 0]) (by simp [results, Try.results16, go_sem, *]) rfl ⟨A7, a7, B7, b7, D7, d7, rfl, (((HK7.out.far (g := w.heap.size + 1) (j := 0) (by omega) (.slice A7 (cutN next ah x).length a7)).far (g := w.heap.size + 1) (j := 1) (by omega) (.slice B7 (cutH next head i ah x).length b7)).far (g := w.heap.size + 1) (j := 2) (by omega) (.slice D7 (cutT tail i ah x).length d7)).base_ (by omega), (((HB7.out.setCell (p := ⟨w.heap.size + 1, 0, none⟩) (by simp) (.slice A7 (cutN next ah x).length a7)).setCell (p := ⟨w.heap.size + 1, 1, none⟩) (by simp) (.slice B7 (cutH next head i ah x).length b7)).setCell (p := ⟨w.heap.size + 1, 2, none⟩) (by simp) (.slice D7 (cutT tail i ah x).length d7))⟩

end Go.Proofs.Ytiheeehegjfmgaa
