/-
  The program's Join.
-/
import Derived.Test.YtiheeehegjfmgaaPj
namespace Go.Proofs.Ytiheeehegjfmgaa
open Go.RowKit Go.Shelf

def joinN (next head tail : List Int) (f t : Nat) : List Int := if nth tail t = -1 then next else next.set (nth tail t).toNat (nth head f)
def joinH (head tail : List Int) (f t : Nat) : List Int := (if nth tail t = -1 then head.set t (nth head f) else head).set f (-1)
def joinT (tail : List Int) (f t : Nat) : List Int := (tail.set t (nth tail f)).set f (-1)

set_option maxHeartbeats 2000000 in
theorem join_no (A B D : Option Addr) (n a m b k d : Nat) (next head tail : List Int) (x y : Int) (hno : ∀ qs, ¬ Rep next head tail qs) (w : World) (hp : Chn w A n B m D k next head tail) :
    Calls Try.prog 18 #[.agg #[.slice A n a, .slice B m b, .slice D k d], .int .i64 x, .int .i64 y] w (NewCE [] [] [] 1 w) := by
  have hb2 := ((Below.refl w.heap.size w).alloc (Nat.le_refl _) (.cells #[.slice A n a, .slice B m b, .slice D k d] 24)).alloc (by simp) (.cells #[.slice none 0 0, .slice none 0 0, .slice none 0 0] 24)
  have K2 := (Bk.new w 24 #[.slice A n a, .slice B m b, .slice D k d]).alloc (.cells #[.slice none 0 0, .slice none 0 0, .slice none 0 0] 24)
  have Z2 := Bk.new (w.alloc (.cells #[.slice A n a, .slice B m b, .slice D k d] 24)) 24 #[.slice none 0 0, .slice none 0 0, .slice none 0 0]
  rw [size_alloc] at Z2
  have HP2 := Lib.hid (hp.below hb2)
  have HB2 := Lib.hid hb2
  have c0 := K2.e0
  have c1 := K2.e1
  have c2 := K2.e2
  have HP0 := Lib.hid hp
  have HLX := Lib.hid hp.x.1
  have HLH := Lib.hid hp.h.1
  have HLT := Lib.hid hp.t.1
  clear hp hb2
  go_enter Try.func18, Try.ntmps18
  go_wp2_with (go_at_call 37; refine (has_no A B D n a m b k d next head tail x hno ((w.alloc (.cells #[.slice A n a, .slice B m b, .slice D k d] 24)).alloc (.cells #[.slice none 0 0, .slice none 0 0, .slice none 0 0] 24)) HP2.out).mono ?_; rintro e w3 ⟨rfl, hb3⟩; have HB3 := Lib.hid (below3 HB2.out hb3); have K3 := K2.below hb3 K2.lt; have k0 := K3.e0; have k1 := K3.e1; have k2 := K3.e2; have Z3 := Z2.below hb3 Z2.lt; have z0 := Z3.e0; have z1 := Z3.e1; have z2 := Z3.e2; have f0 := Z3.frozen 0; have f1 := Z3.frozen 1; have f2 := Z3.frozen 2; have HP3 := Lib.hid (HP2.out.below hb3); have HS3 := Lib.hid hb3.size; clear hb3)
  exact bodyPost_ret (v := .tuple #[.agg #[.slice none 0 0, .slice none 0 0, .slice none 0 0], .int .i64 1]) (by simp [results, Try.results18, go_sem, *]) rfl ⟨none, 0, none, 0, none, 0, rfl, ownk_nil _ _, (((HB3.out.setCell (p := ⟨w.heap.size + 1, 0, none⟩) (by simp) (.slice none 0 0)).setCell (p := ⟨w.heap.size + 1, 1, none⟩) (by simp) (.slice none 0 0)).setCell (p := ⟨w.heap.size + 1, 2, none⟩) (by simp) (.slice none 0 0))⟩

set_option maxHeartbeats 2000000 in
theorem join_out1 (A B D : Option Addr) (n a m b k d : Nat) (next head tail : List Int) (x y : Int) (qs : List (List Int)) (r : Rep next head tail qs) (hin : inBd x (m : Int) = false) (w : World) (hp : Chn w A n B m D k next head tail) :
    Calls Try.prog 18 #[.agg #[.slice A n a, .slice B m b, .slice D k d], .int .i64 x, .int .i64 y] w (NewCE [] [] [] 1 w) := by
  have hb2 := ((Below.refl w.heap.size w).alloc (Nat.le_refl _) (.cells #[.slice A n a, .slice B m b, .slice D k d] 24)).alloc (by simp) (.cells #[.slice none 0 0, .slice none 0 0, .slice none 0 0] 24)
  have K2 := (Bk.new w 24 #[.slice A n a, .slice B m b, .slice D k d]).alloc (.cells #[.slice none 0 0, .slice none 0 0, .slice none 0 0] 24)
  have Z2 := Bk.new (w.alloc (.cells #[.slice A n a, .slice B m b, .slice D k d] 24)) 24 #[.slice none 0 0, .slice none 0 0, .slice none 0 0]
  rw [size_alloc] at Z2
  have HP2 := Lib.hid (hp.below hb2)
  have HB2 := Lib.hid hb2
  have c0 := K2.e0
  have c1 := K2.e1
  have c2 := K2.e2
  have HP0 := Lib.hid hp
  have HLX := Lib.hid hp.x.1
  have HLH := Lib.hid hp.h.1
  have HLT := Lib.hid hp.t.1
  clear hp hb2
  go_enter Try.func18, Try.ntmps18
  go_wp2_with (go_at_call 37; refine (has_out A B D n a m b k d next head tail x qs r hin ((w.alloc (.cells #[.slice A n a, .slice B m b, .slice D k d] 24)).alloc (.cells #[.slice none 0 0, .slice none 0 0, .slice none 0 0] 24)) HP2.out).mono ?_; rintro e w3 ⟨rfl, hb3⟩; have HB3 := Lib.hid (below3 HB2.out hb3); have K3 := K2.below hb3 K2.lt; have k0 := K3.e0; have k1 := K3.e1; have k2 := K3.e2; have Z3 := Z2.below hb3 Z2.lt; have z0 := Z3.e0; have z1 := Z3.e1; have z2 := Z3.e2; have f0 := Z3.frozen 0; have f1 := Z3.frozen 1; have f2 := Z3.frozen 2; have HP3 := Lib.hid (HP2.out.below hb3); have HS3 := Lib.hid hb3.size; clear hb3)
  exact bodyPost_ret (v := .tuple #[.agg #[.slice none 0 0, .slice none 0 0, .slice none 0 0], .int .i64 1]) (by simp [results, Try.results18, go_sem, *]) rfl ⟨none, 0, none, 0, none, 0, rfl, ownk_nil _ _, (((HB3.out.setCell (p := ⟨w.heap.size + 1, 0, none⟩) (by simp) (.slice none 0 0)).setCell (p := ⟨w.heap.size + 1, 1, none⟩) (by simp) (.slice none 0 0)).setCell (p := ⟨w.heap.size + 1, 2, none⟩) (by simp) (.slice none 0 0))⟩

set_option maxHeartbeats 2000000 in
theorem join_out2 (A B D : Option Addr) (n a m b k d : Nat) (next head tail : List Int) (x y : Int) (qs : List (List Int)) (r : Rep next head tail qs) (hin : inBd x (m : Int) = true) (hin2 : inBd y (m : Int) = false) (w : World) (hp : Chn w A n B m D k next head tail) :
    Calls Try.prog 18 #[.agg #[.slice A n a, .slice B m b, .slice D k d], .int .i64 x, .int .i64 y] w (NewCE [] [] [] 1 w) := by
  have hb2 := ((Below.refl w.heap.size w).alloc (Nat.le_refl _) (.cells #[.slice A n a, .slice B m b, .slice D k d] 24)).alloc (by simp) (.cells #[.slice none 0 0, .slice none 0 0, .slice none 0 0] 24)
  have K2 := (Bk.new w 24 #[.slice A n a, .slice B m b, .slice D k d]).alloc (.cells #[.slice none 0 0, .slice none 0 0, .slice none 0 0] 24)
  have Z2 := Bk.new (w.alloc (.cells #[.slice A n a, .slice B m b, .slice D k d] 24)) 24 #[.slice none 0 0, .slice none 0 0, .slice none 0 0]
  rw [size_alloc] at Z2
  have HP2 := Lib.hid (hp.below hb2)
  have HB2 := Lib.hid hb2
  have c0 := K2.e0
  have c1 := K2.e1
  have c2 := K2.e2
  have HP0 := Lib.hid hp
  have HLX := Lib.hid hp.x.1
  have HLH := Lib.hid hp.h.1
  have HLT := Lib.hid hp.t.1
  clear hp hb2
  by_cases h0 : y < 0
  · go_enter Try.func18, Try.ntmps18
    go_wp2_with (go_at_call 37; refine (has_yes A B D n a m b k d next head tail x qs r hin ((w.alloc (.cells #[.slice A n a, .slice B m b, .slice D k d] 24)).alloc (.cells #[.slice none 0 0, .slice none 0 0, .slice none 0 0] 24)) HP2.out).mono ?_; rintro e w3 ⟨rfl, hb3⟩; have HB3 := Lib.hid (below3 HB2.out hb3); have K3 := K2.below hb3 K2.lt; have k0 := K3.e0; have k1 := K3.e1; have k2 := K3.e2; have Z3 := Z2.below hb3 Z2.lt; have z0 := Z3.e0; have z1 := Z3.e1; have z2 := Z3.e2; have f0 := Z3.frozen 0; have f1 := Z3.frozen 1; have f2 := Z3.frozen 2; have HP3 := Lib.hid (HP2.out.below hb3); have HS3 := Lib.hid hb3.size; clear hb3)
    exact bodyPost_ret (v := .tuple #[.agg #[.slice none 0 0, .slice none 0 0, .slice none 0 0], .int .i64 1]) (by simp [results, Try.results18, go_sem, *]) rfl ⟨none, 0, none, 0, none, 0, rfl, ownk_nil _ _, (((HB3.out.setCell (p := ⟨w.heap.size + 1, 0, none⟩) (by simp) (.slice none 0 0)).setCell (p := ⟨w.heap.size + 1, 1, none⟩) (by simp) (.slice none 0 0)).setCell (p := ⟨w.heap.size + 1, 2, none⟩) (by simp) (.slice none 0 0))⟩
  · have h1 : (m : Int) ≤ y := by
      by_cases h : y < (m : Int)
      · have : inBd y (m : Int) = true := by simp [inBd]; omega
        rw [this] at hin2
        cases hin2
      · omega
    go_enter Try.func18, Try.ntmps18
    go_wp2_with (go_at_call 37; refine (has_yes A B D n a m b k d next head tail x qs r hin ((w.alloc (.cells #[.slice A n a, .slice B m b, .slice D k d] 24)).alloc (.cells #[.slice none 0 0, .slice none 0 0, .slice none 0 0] 24)) HP2.out).mono ?_; rintro e w3 ⟨rfl, hb3⟩; have HB3 := Lib.hid (below3 HB2.out hb3); have K3 := K2.below hb3 K2.lt; have k0 := K3.e0; have k1 := K3.e1; have k2 := K3.e2; have Z3 := Z2.below hb3 Z2.lt; have z0 := Z3.e0; have z1 := Z3.e1; have z2 := Z3.e2; have f0 := Z3.frozen 0; have f1 := Z3.frozen 1; have f2 := Z3.frozen 2; have HP3 := Lib.hid (HP2.out.below hb3); have HS3 := Lib.hid hb3.size; clear hb3)
    exact bodyPost_ret (v := .tuple #[.agg #[.slice none 0 0, .slice none 0 0, .slice none 0 0], .int .i64 1]) (by simp [results, Try.results18, go_sem, *]) rfl ⟨none, 0, none, 0, none, 0, rfl, ownk_nil _ _, (((HB3.out.setCell (p := ⟨w.heap.size + 1, 0, none⟩) (by simp) (.slice none 0 0)).setCell (p := ⟨w.heap.size + 1, 1, none⟩) (by simp) (.slice none 0 0)).setCell (p := ⟨w.heap.size + 1, 2, none⟩) (by simp) (.slice none 0 0))⟩

set_option maxHeartbeats 2000000 in
theorem join_same (A B D : Option Addr) (n a m b k d : Nat) (next head tail : List Int) (x : Int) (qs : List (List Int)) (r : Rep next head tail qs) (hin : inBd x (m : Int) = true) (w : World) (hp : Chn w A n B m D k next head tail) :
    Calls Try.prog 18 #[.agg #[.slice A n a, .slice B m b, .slice D k d], .int .i64 x, .int .i64 x] w (NewCE [] [] [] 1 w) := by
  have hb2 := ((Below.refl w.heap.size w).alloc (Nat.le_refl _) (.cells #[.slice A n a, .slice B m b, .slice D k d] 24)).alloc (by simp) (.cells #[.slice none 0 0, .slice none 0 0, .slice none 0 0] 24)
  have K2 := (Bk.new w 24 #[.slice A n a, .slice B m b, .slice D k d]).alloc (.cells #[.slice none 0 0, .slice none 0 0, .slice none 0 0] 24)
  have Z2 := Bk.new (w.alloc (.cells #[.slice A n a, .slice B m b, .slice D k d] 24)) 24 #[.slice none 0 0, .slice none 0 0, .slice none 0 0]
  rw [size_alloc] at Z2
  have HP2 := Lib.hid (hp.below hb2)
  have HB2 := Lib.hid hb2
  have c0 := K2.e0
  have c1 := K2.e1
  have c2 := K2.e2
  have HP0 := Lib.hid hp
  have HLX := Lib.hid hp.x.1
  have HLH := Lib.hid hp.h.1
  have HLT := Lib.hid hp.t.1
  clear hp hb2
  have h01 : 0 ≤ x ∧ x < (m : Int) := by simpa [inBd] using hin
  obtain ⟨h0, h1⟩ := h01
  go_enter Try.func18, Try.ntmps18
  go_wp2_with (go_at_call 37; refine (has_yes A B D n a m b k d next head tail x qs r hin ((w.alloc (.cells #[.slice A n a, .slice B m b, .slice D k d] 24)).alloc (.cells #[.slice none 0 0, .slice none 0 0, .slice none 0 0] 24)) HP2.out).mono ?_; rintro e w3 ⟨rfl, hb3⟩; have HB3 := Lib.hid (below3 HB2.out hb3); have K3 := K2.below hb3 K2.lt; have k0 := K3.e0; have k1 := K3.e1; have k2 := K3.e2; have Z3 := Z2.below hb3 Z2.lt; have z0 := Z3.e0; have z1 := Z3.e1; have z2 := Z3.e2; have f0 := Z3.frozen 0; have f1 := Z3.frozen 1; have f2 := Z3.frozen 2; have HP3 := Lib.hid (HP2.out.below hb3); have HS3 := Lib.hid hb3.size; clear hb3)
  exact bodyPost_ret (v := .tuple #[.agg #[.slice none 0 0, .slice none 0 0, .slice none 0 0], .int .i64 1]) (by simp [results, Try.results18, go_sem, *]) rfl ⟨none, 0, none, 0, none, 0, rfl, ownk_nil _ _, (((HB3.out.setCell (p := ⟨w.heap.size + 1, 0, none⟩) (by simp) (.slice none 0 0)).setCell (p := ⟨w.heap.size + 1, 1, none⟩) (by simp) (.slice none 0 0)).setCell (p := ⟨w.heap.size + 1, 2, none⟩) (by simp) (.slice none 0 0))⟩

set_option maxHeartbeats 4000000 in
theorem join_none (A B D : Option Addr) (n a m b k d : Nat) (next head tail : List Int) (f t : Nat) (qs : List (List Int)) (r : Rep next head tail qs) (hf : f < qs.length) (ht : t < qs.length) (hft : f ≠ t) (hz : nth head f = -1) (w : World) (hp : Chn w A n B m D k next head tail) :
    Calls Try.prog 18 #[.agg #[.slice A n a, .slice B m b, .slice D k d], .int .i64 f, .int .i64 t] w (NewCE next head tail 0 w) := by
  obtain rfl : m = k := by have := hp.h.1; have := hp.t.1; have := r.lh; have := r.lt; omega
  have hb2 := ((Below.refl w.heap.size w).alloc (Nat.le_refl _) (.cells #[.slice A n a, .slice B m b, .slice D m d] 24)).alloc (by simp) (.cells #[.slice none 0 0, .slice none 0 0, .slice none 0 0] 24)
  have K2 := (Bk.new w 24 #[.slice A n a, .slice B m b, .slice D m d]).alloc (.cells #[.slice none 0 0, .slice none 0 0, .slice none 0 0] 24)
  have Z2 := Bk.new (w.alloc (.cells #[.slice A n a, .slice B m b, .slice D m d] 24)) 24 #[.slice none 0 0, .slice none 0 0, .slice none 0 0]
  rw [size_alloc] at Z2
  have HP2 := Lib.hid (hp.below hb2)
  have HB2 := Lib.hid hb2
  have c0 := K2.e0
  have c1 := K2.e1
  have c2 := K2.e2
  have HP0 := Lib.hid hp
  have HLX := Lib.hid hp.x.1
  have HLH := Lib.hid hp.h.1
  have HLT := Lib.hid hp.t.1
  clear hp hb2
  have hfm : f < m := by have := HLH.out; have := r.lh; omega
  have htm : t < m := by have := HLH.out; have := r.lh; omega
  have hin : inBd (f : Int) (m : Int) = true := by simp [inBd]; omega
  have hneb : ((f : Int) == (t : Int)) = false := by rw [beq_eq_false_iff_ne]; omega
  have hn1 : n ≤ 1024 := by rw [← HLX.out]; exact r.few
  have hm1 : m ≤ 256 := by have := HLH.out; have := r.lh; have := r.l2; omega
  obtain ⟨bB, oB, rfl, hbB, hcB⟩ := HP0.out.h.2.2.2 (by omega)
  obtain ⟨hf0, hhf⟩ : ∃ z, nth head f = z := ⟨_, rfl⟩
  have cf := hcB f hfm
  rw [hhf] at cf
  have HCF : Hid (∀ U : World, Below w.heap.size w U → U.cell? ⟨bB, oB + f, none⟩ = some (.int .i64 hf0)) := Lib.hid (fun U hU => (hU.cell (p := ⟨bB, oB + f, none⟩) hbB).trans cf)
  have HHF := Lib.hid hhf
  have hz2 : hf0 = -1 := by rw [← hhf, hz]
  subst hz2
  clear hz hhf cf hcB
  go_enter Try.func18, Try.ntmps18
  go_wp2_with first
    | (go_at_call 37; refine (has_yes A (some ⟨bB, oB, none⟩) D n a m b m d next head tail f qs r hin ((w.alloc (.cells #[.slice A n a, .slice (some ⟨bB, oB, none⟩) m b, .slice D m d] 24)).alloc (.cells #[.slice none 0 0, .slice none 0 0, .slice none 0 0] 24)) HP2.out).mono ?_; rintro e w3 ⟨rfl, hb3⟩; have HB3 := Lib.hid (below3 HB2.out hb3); have K3 := K2.below hb3 K2.lt; have k0 := K3.e0; have k1 := K3.e1; have k2 := K3.e2; have Z3 := Z2.below hb3 Z2.lt; have z0 := Z3.e0; have z1 := Z3.e1; have z2 := Z3.e2; have f0 := Z3.frozen 0; have f1 := Z3.frozen 1; have f2 := Z3.frozen 2; have HP3 := Lib.hid (HP2.out.below hb3); have HS3 := Lib.hid hb3.size; clear hb3)
    | (go_at_call 32; refine (clone_any A (some ⟨bB, oB, none⟩) D n a m b m d next head tail w3 HP3.out).mono ?_; rintro e w5 ⟨A5, a5, B5, b5, D5, d5, rfl, hk5, hb5⟩; have HB5 := Lib.hid (below3 HB3.out hb5); have K5 := K3.below hb5 K3.lt; have l0 := K5.e0; have l1 := K5.e1; have l2 := K5.e2; have Z5 := Z3.below hb5 Z3.lt; have HP5 := Lib.hid (HP3.out.below hb5); have HS5 := Lib.hid hb5.size; have HK5 := Lib.hid hk5; have S6 := Lib.hid (show PuS w (w5.alloc (.cells #[.slice A5 n a5, .slice B5 m b5, .slice D5 m d5] 24)) #[.slice A n a, .slice (some ⟨bB, oB, none⟩) m b, .slice D m d] w5.heap.size A5 a5 B5 b5 D5 d5 n m next head tail from ⟨K5.alloc _, Z5.alloc _, Bk.new _ _ _, HB5.out.alloc HB5.out.size _, (hk5.base_ (by have := HS3.out; rw [size_alloc, size_alloc] at this; exact this)).below ((Below.refl _ _).alloc (Nat.le_refl _) _), (by have := HS3.out; have := HS5.out; simp at *; omega), HLX.out, HLH.out, HLT.out⟩); obtain ⟨gB, rfl, hgB, -, -, -⟩ := hk5.c.h.form (by rw [HLH.out]; omega); obtain ⟨gD, rfl, hgD, -, -, -⟩ := hk5.c.t.form (by rw [HLT.out]; omega); rw [HLX.out, HLH.out, HLT.out]; have p0 := S6.out.p.e0; have p1 := S6.out.p.e1; have p2 := S6.out.p.e2; have y0 := S6.out.z.e0; have y1 := S6.out.z.e1; have y2 := S6.out.z.e2; have g0 := S6.out.z.frozen 0; have g1 := S6.out.z.frozen 1; have g2 := S6.out.z.frozen 2; have HF := Lib.hid (S6.out.done (er := 0)); have m0 := S6.out.c.e0; have m1 := S6.out.c.e1; have m2 := S6.out.c.e2; have mf := HCF.out _ S6.out.below; clear hb5 hk5)
  exact bodyPost_ret (v := .tuple #[.agg #[.slice A5 n a5, .slice (some ⟨gB, 0, none⟩) m b5, .slice (some ⟨gD, 0, none⟩) m d5], .int .i64 0]) (by simp [results, Try.results18, go_sem, *]) rfl HF.out

set_option maxHeartbeats 16000000 in
theorem join_ok (A B D : Option Addr) (n a m b k d : Nat) (next head tail : List Int) (f t : Nat) (qs : List (List Int)) (r : Rep next head tail qs) (hf : f < qs.length) (ht : t < qs.length) (hft : f ≠ t) (hz : nth head f ≠ -1) (w : World) (hp : Chn w A n B m D k next head tail) :
    Calls Try.prog 18 #[.agg #[.slice A n a, .slice B m b, .slice D k d], .int .i64 f, .int .i64 t] w (NewCE (joinN next head tail f t) (joinH head tail f t) (joinT tail f t) 0 w) := by
  obtain rfl : m = k := by have := hp.h.1; have := hp.t.1; have := r.lh; have := r.lt; omega
  have hb2 := ((Below.refl w.heap.size w).alloc (Nat.le_refl _) (.cells #[.slice A n a, .slice B m b, .slice D m d] 24)).alloc (by simp) (.cells #[.slice none 0 0, .slice none 0 0, .slice none 0 0] 24)
  have K2 := (Bk.new w 24 #[.slice A n a, .slice B m b, .slice D m d]).alloc (.cells #[.slice none 0 0, .slice none 0 0, .slice none 0 0] 24)
  have Z2 := Bk.new (w.alloc (.cells #[.slice A n a, .slice B m b, .slice D m d] 24)) 24 #[.slice none 0 0, .slice none 0 0, .slice none 0 0]
  rw [size_alloc] at Z2
  have HP2 := Lib.hid (hp.below hb2)
  have HB2 := Lib.hid hb2
  have c0 := K2.e0
  have c1 := K2.e1
  have c2 := K2.e2
  have HP0 := Lib.hid hp
  have HLX := Lib.hid hp.x.1
  have HLH := Lib.hid hp.h.1
  have HLT := Lib.hid hp.t.1
  clear hp hb2
  have hfm : f < m := by have := HLH.out; have := r.lh; omega
  have htm : t < m := by have := HLH.out; have := r.lh; omega
  have hin : inBd (f : Int) (m : Int) = true := by simp [inBd]; omega
  have hneb : ((f : Int) == (t : Int)) = false := by rw [beq_eq_false_iff_ne]; omega
  have hn1 : n ≤ 1024 := by rw [← HLX.out]; exact r.few
  have hm1 : m ≤ 256 := by have := HLH.out; have := r.lh; have := r.l2; omega
  obtain ⟨bB, oB, rfl, hbB, hcB⟩ := HP0.out.h.2.2.2 (by omega)
  obtain ⟨hf0, hhf⟩ : ∃ z, nth head f = z := ⟨_, rfl⟩
  have cf := hcB f hfm
  rw [hhf] at cf
  have HCF : Hid (∀ U : World, Below w.heap.size w U → U.cell? ⟨bB, oB + f, none⟩ = some (.int .i64 hf0)) := Lib.hid (fun U hU => (hU.cell (p := ⟨bB, oB + f, none⟩) hbB).trans cf)
  have HHF := Lib.hid hhf
  have hfr : 0 ≤ hf0 ∧ hf0 < (n : Int) := by
    have h1 := r.hd f hf
    rw [hhf] at h1
    unfold headO at h1
    split at h1
    · rw [hhf] at hz
      exact absurd h1 hz
    · have h2 := r.rng f 0 hf (by omega)
      rw [HLX.out] at h2
      omega
  obtain ⟨hfr0, hfr1⟩ := hfr
  have hfb : (hf0 == -1) = false := by rw [beq_eq_false_iff_ne]; omega
  have hff : Fit hf0 := by unfold Fit; omega
  obtain ⟨bD, oD, rfl, hbD, hcD⟩ := HP0.out.t.2.2.2 (by omega)
  obtain ⟨tt, htt⟩ : ∃ z, nth tail t = z := ⟨_, rfl⟩
  obtain ⟨tf, htf⟩ : ∃ z, nth tail f = z := ⟨_, rfl⟩
  have ctt := hcD t htm
  have ctf := hcD f hfm
  rw [htt] at ctt
  rw [htf] at ctf
  have HCTT : Hid (∀ U : World, Below w.heap.size w U → U.cell? ⟨bD, oD + t, none⟩ = some (.int .i64 tt)) := Lib.hid (fun U hU => (hU.cell (p := ⟨bD, oD + t, none⟩) hbD).trans ctt)
  have HCTF : Hid (∀ U : World, Below w.heap.size w U → U.cell? ⟨bD, oD + f, none⟩ = some (.int .i64 tf)) := Lib.hid (fun U hU => (hU.cell (p := ⟨bD, oD + f, none⟩) hbD).trans ctf)
  have htr : tt = -1 ∨ (0 ≤ tt ∧ tt < (n : Int)) := by
    have h1 := r.tl t ht
    rw [htt] at h1
    rw [h1]
    unfold lastO
    split
    · exact .inl rfl
    · have h2 := r.rng t ((qth qs t).length - 1) ht (by omega)
      rw [HLX.out] at h2
      exact .inr h2
  have htff : Fit tf := by
    have h1 := r.tl f hf
    rw [htf] at h1
    rw [h1]
    exact rep_last r hf
  have HTT := Lib.hid htt
  have HTF := Lib.hid htf
  clear hz hhf cf hcB hcD htt htf ctt ctf hbD
  go_enter Try.func18, Try.ntmps18
  go_upto_region 6 with first
    | (go_at_call 37; refine (has_yes A (some ⟨bB, oB, none⟩) (some ⟨bD, oD, none⟩) n a m b m d next head tail f qs r hin ((w.alloc (.cells #[.slice A n a, .slice (some ⟨bB, oB, none⟩) m b, .slice (some ⟨bD, oD, none⟩) m d] 24)).alloc (.cells #[.slice none 0 0, .slice none 0 0, .slice none 0 0] 24)) HP2.out).mono ?_; rintro e w3 ⟨rfl, hb3⟩; have HB3 := Lib.hid (below3 HB2.out hb3); have K3 := K2.below hb3 K2.lt; have k0 := K3.e0; have k1 := K3.e1; have k2 := K3.e2; have Z3 := Z2.below hb3 Z2.lt; have z0 := Z3.e0; have z1 := Z3.e1; have z2 := Z3.e2; have f0 := Z3.frozen 0; have f1 := Z3.frozen 1; have f2 := Z3.frozen 2; have HP3 := Lib.hid (HP2.out.below hb3); have HS3 := Lib.hid hb3.size; clear hb3)
    | (go_at_call 32; refine (clone_any A (some ⟨bB, oB, none⟩) (some ⟨bD, oD, none⟩) n a m b m d next head tail w3 HP3.out).mono ?_; rintro e w5 ⟨A5, a5, B5, b5, D5, d5, rfl, hk5, hb5⟩; have HB5 := Lib.hid (below3 HB3.out hb5); have K5 := K3.below hb5 K3.lt; have l0 := K5.e0; have l1 := K5.e1; have l2 := K5.e2; have Z5 := Z3.below hb5 Z3.lt; have HP5 := Lib.hid (HP3.out.below hb5); have HS5 := Lib.hid hb5.size; have HK5 := Lib.hid hk5; have S6 := Lib.hid (show PuS w (w5.alloc (.cells #[.slice A5 n a5, .slice B5 m b5, .slice D5 m d5] 24)) #[.slice A n a, .slice (some ⟨bB, oB, none⟩) m b, .slice (some ⟨bD, oD, none⟩) m d] w5.heap.size A5 a5 B5 b5 D5 d5 n m next head tail from ⟨K5.alloc _, Z5.alloc _, Bk.new _ _ _, HB5.out.alloc HB5.out.size _, (hk5.base_ (by have := HS3.out; rw [size_alloc, size_alloc] at this; exact this)).below ((Below.refl _ _).alloc (Nat.le_refl _) _), (by have := HS3.out; have := HS5.out; simp at *; omega), HLX.out, HLH.out, HLT.out⟩); obtain ⟨gA, rfl, hgA, -, -, -⟩ := hk5.c.x.form (by rw [HLX.out]; omega); obtain ⟨gB, rfl, hgB, -, -, -⟩ := hk5.c.h.form (by rw [HLH.out]; omega); obtain ⟨gD, rfl, hgD, -, -, -⟩ := hk5.c.t.form (by rw [HLT.out]; omega); rw [HLX.out, HLH.out, HLT.out]; have m0 := S6.out.c.e0; have m1 := S6.out.c.e1; have m2 := S6.out.c.e2; have mf := HCF.out _ S6.out.below; clear hb5 hk5)
  clear HP2 HB2 K2 Z2 c0 c1 c2 m0 m1 m2 mf K5 Z5 l0 l1 l2 HB5 HP5 HS5 HK5 K3 Z3 k0 k1 k2 z0 z1 z2 f0 f1 f2 HP3 HS3 HB3 hgA hgB hgD
  have S6 := S6.out
  generalize World.alloc _ _ = W6 at S6 ⊢
  generalize w5.heap.size = g at S6 ⊢
  have S6d := S6.drew
  have hgB6 : gB < W6.drew.heap.size := (S6d.k.c.h.que.block (n := 0) (d := 0) gB rfl).2
  have hgA6 : gA < W6.drew.heap.size := (S6d.k.c.x.que.block (n := 0) (d := 0) gA rfl).2
  have hg1 := row_ne S6d.k.c.h S6d.p
  have hg2 := row_ne S6d.k.c.t S6d.p
  have hg3 : ¬ gB = gD := fun e => S6d.k.bd gB rfl (by rw [e]; rfl)
  have hbB1 := S6d.k.c.h.block (n := 0) (d := 0) gB rfl
  have hbD1 := S6d.k.c.t.block (n := 0) (d := 0) gD rfl
  have hn1 : ¬ g = gB := hg1
  have hn2 : ¬ gB = g := fun e => hg1 e.symm
  have hn3 : ¬ g = gD := hg2
  have hn4 : ¬ gD = g := fun e => hg2 e.symm
  have hn5 : ¬ gD = gB := fun e => hg3 e.symm
  have hn6 : ¬ w.heap.size + 1 = gB := by omega
  have hn7 : ¬ gB = w.heap.size + 1 := by omega
  have hn8 : ¬ w.heap.size + 1 = gD := by omega
  have hn9 : ¬ gD = w.heap.size + 1 := by omega
  clear hg1 hg2 hbB1 hbD1
  by_cases htm1 : tt = -1
  · subst htm1
    clear htr
    refine wp_region_held (S := fun U => ∃ N' H' T', PuS w U #[.slice A n a, .slice (some ⟨bB, oB, none⟩) m b, .slice (some ⟨bD, oD, none⟩) m d] g (some ⟨gA, 0, none⟩) a5 (some ⟨gB, 0, none⟩) b5 (some ⟨gD, 0, none⟩) d5 n m N' H' T') (by kernel_rfl) ?_
    change wpAnyH _ _ _ _ _ _ _ _ (World.drew _)
    have hS0 : (fun U => ∃ N' H' T', PuS w U #[.slice A n a, .slice (some ⟨bB, oB, none⟩) m b, .slice (some ⟨bD, oD, none⟩) m d] g (some ⟨gA, 0, none⟩) a5 (some ⟨gB, 0, none⟩) b5 (some ⟨gD, 0, none⟩) d5 n m N' H' T') W6.drew := ⟨_, _, _, S6d⟩
    refine wpAnyH_take (i := 0) (v := .agg #[.slice (some ⟨gA, 0, none⟩) n a5, .slice (some ⟨gB, 0, none⟩) m b5, .slice (some ⟨gD, 0, none⟩) m d5]) rfl (by kernel_rfl) (by kernel_rfl) (by kernel_rfl) (fun _ _ _ h => h) (.inl ⟨by rfl, fun U hU => by obtain ⟨N', H', T', h1⟩ := hU; have h3 := h1.p.e0; have h4 := h1.p.e1; have h5 := h1.p.e2; go_simp⟩) hS0 ?_
    refine wpAnyH_take (i := 1) (v := .int .i64 t) rfl (by kernel_rfl) (by kernel_rfl) (by kernel_rfl) (fun _ _ _ h => h) (.inl ⟨by rfl, fun U hU => by go_simp⟩) hS0 ?_
    refine wpAnyH_take (i := 2) (v := .pointer (some ⟨w.heap.size, 2, none⟩)) rfl (by kernel_rfl) (by kernel_rfl) (by kernel_rfl) (fun _ _ _ h => h) (.inl ⟨by rfl, fun U hU => by go_simp⟩) hS0 ?_
    refine wpAnyH_take (i := 3) (v := .slice (some ⟨bD, oD, none⟩) m d) rfl (by kernel_rfl) (by kernel_rfl) (by kernel_rfl) (fun _ _ _ h => h) (.inl ⟨by rfl, fun U hU => by obtain ⟨N', H', T', h1⟩ := hU; have h3 := h1.c.e2; go_simp⟩) hS0 ?_
    refine wpAnyH_take (i := 4) (v := .int .i64 t) rfl (by kernel_rfl) (by kernel_rfl) (by kernel_rfl) (fun _ _ _ h => h) (.inl ⟨by rfl, fun U hU => by go_simp⟩) hS0 ?_
    refine wpAnyH_take (i := 5) (v := .pointer (some ⟨bD, oD + t, none⟩)) rfl (by kernel_rfl) (by kernel_rfl) (by kernel_rfl) (fun _ _ _ h => h) (.inl ⟨by rfl, fun U hU => by go_simp⟩) hS0 ?_
    refine wpAnyH_take (i := 6) (v := .int .i64 (-1)) rfl (by kernel_rfl) (by kernel_rfl) (by kernel_rfl) (fun _ _ _ h => h) (.inl ⟨by rfl, fun U hU => by obtain ⟨N', H', T', h1⟩ := hU; have h3 := HCTT.out _ h1.below; go_simp⟩) hS0 ?_
    refine wpAnyH_take (i := 7) (v := .pointer (some ⟨w.heap.size, 1, none⟩)) rfl (by kernel_rfl) (by kernel_rfl) (by kernel_rfl) (fun _ _ _ h => h) (.inl ⟨by rfl, fun U hU => by go_simp⟩) hS0 ?_
    refine wpAnyH_take (i := 8) (v := .slice (some ⟨bB, oB, none⟩) m b) rfl (by kernel_rfl) (by kernel_rfl) (by kernel_rfl) (fun _ _ _ h => h) (.inl ⟨by rfl, fun U hU => by obtain ⟨N', H', T', h1⟩ := hU; have h3 := h1.c.e1; go_simp⟩) hS0 ?_
    refine wpAnyH_take (i := 9) (v := .int .i64 f) rfl (by kernel_rfl) (by kernel_rfl) (by kernel_rfl) (fun _ _ _ h => h) (.inl ⟨by rfl, fun U hU => by go_simp⟩) hS0 ?_
    refine wpAnyH_take (i := 10) (v := .pointer (some ⟨bB, oB + f, none⟩)) rfl (by kernel_rfl) (by kernel_rfl) (by kernel_rfl) (fun _ _ _ h => h) (.inl ⟨by rfl, fun U hU => by go_simp⟩) hS0 ?_
    refine wpAnyH_take (i := 11) (v := .int .i64 hf0) rfl (by kernel_rfl) (by kernel_rfl) (by kernel_rfl) (fun _ _ _ h => h) (.inl ⟨by rfl, fun U hU => by obtain ⟨N', H', T', h1⟩ := hU; have h3 := HCF.out _ h1.below; go_simp⟩) hS0 ?_
    refine wpAnyH_all (rs := [12]) (by kernel_rfl) (by simp) ?_
    intro i' hi'
    simp only [List.mem_cons, List.not_mem_nil, or_false] at hi'
    subst hi'
    unfold wpOp
    go_simp
    left
    refine (link_head _ _ _ n a5 m b5 m d5 gB t hf0 W6.drew _ rfl htm hgB6 (S6d.cellH htm).1 (S6d.cellH htm).2).mono ?_
    rintro e w8 ⟨rfl, rfl⟩
    have S7 := (S6d.setH (j := t) hff).alloc (.cells #[.slice (some ⟨gA, 0, none⟩) n a5, .slice (some ⟨gB, 0, none⟩) m b5, .slice (some ⟨gD, 0, none⟩) m d5] 24)
    refine ⟨⟨_, _, _, S7⟩, by kernel_rfl, ?_⟩
    clear hS0 S6d hgB6 hgA6
    generalize hW7 : World.alloc _ _ = W7 at S7 ⊢
    clear hW7
    have S7d := S7.drew
    have S8 := S7d.setT (j := t) htff
    have cT := S7d.cellT htm
    have cT1 := cT.1
    have cT2 := cT.2
    go_wp2
    refine wp_region_held (S := fun U => ∃ N' H' T', PuS w U #[.slice A n a, .slice (some ⟨bB, oB, none⟩) m b, .slice (some ⟨bD, oD, none⟩) m d] g (some ⟨gA, 0, none⟩) a5 (some ⟨gB, 0, none⟩) b5 (some ⟨gD, 0, none⟩) d5 n m N' H' T') (by kernel_rfl) ?_
    change wpAnyH _ _ _ _ _ _ _ _ (World.drew _)
    have hS0 : (fun U => ∃ N' H' T', PuS w U #[.slice A n a, .slice (some ⟨bB, oB, none⟩) m b, .slice (some ⟨bD, oD, none⟩) m d] g (some ⟨gA, 0, none⟩) a5 (some ⟨gB, 0, none⟩) b5 (some ⟨gD, 0, none⟩) d5 n m N' H' T') W7.drew := ⟨_, _, _, S7d⟩
    refine wpAnyH_take (i := 0) (v := .pointer (some ⟨g, 2, none⟩)) rfl (by kernel_rfl) (by kernel_rfl) (by kernel_rfl) (fun _ _ _ h => h) (.inl ⟨by rfl, fun U hU => by go_simp⟩) hS0 ?_
    refine wpAnyH_take (i := 1) (v := .slice (some ⟨gD, 0, none⟩) m d5) rfl (by kernel_rfl) (by kernel_rfl) (by kernel_rfl) (fun _ _ _ h => h) (.inl ⟨by rfl, fun U hU => by obtain ⟨N', H', T', h1⟩ := hU; have h3 := h1.p.e2; go_simp⟩) hS0 ?_
    refine wpAnyH_take (i := 2) (v := .int .i64 t) rfl (by kernel_rfl) (by kernel_rfl) (by kernel_rfl) (fun _ _ _ h => h) (.inl ⟨by rfl, fun U hU => by go_simp⟩) hS0 ?_
    refine wpAnyH_take (i := 3) (v := .pointer (some ⟨w.heap.size, 2, none⟩)) rfl (by kernel_rfl) (by kernel_rfl) (by kernel_rfl) (fun _ _ _ h => h) (.inl ⟨by rfl, fun U hU => by go_simp⟩) hS0 ?_
    refine wpAnyH_take (i := 4) (v := .slice (some ⟨bD, oD, none⟩) m d) rfl (by kernel_rfl) (by kernel_rfl) (by kernel_rfl) (fun _ _ _ h => h) (.inl ⟨by rfl, fun U hU => by obtain ⟨N', H', T', h1⟩ := hU; have h3 := h1.c.e2; go_simp⟩) hS0 ?_
    refine wpAnyH_take (i := 5) (v := .int .i64 f) rfl (by kernel_rfl) (by kernel_rfl) (by kernel_rfl) (fun _ _ _ h => h) (.inl ⟨by rfl, fun U hU => by go_simp⟩) hS0 ?_
    refine wpAnyH_take (i := 6) (v := .pointer (some ⟨bD, oD + f, none⟩)) rfl (by kernel_rfl) (by kernel_rfl) (by kernel_rfl) (fun _ _ _ h => h) (.inl ⟨by rfl, fun U hU => by go_simp⟩) hS0 ?_
    refine wpAnyH_take (i := 7) (v := .int .i64 tf) rfl (by kernel_rfl) (by kernel_rfl) (by kernel_rfl) (fun _ _ _ h => h) (.inl ⟨by rfl, fun U hU => by obtain ⟨N', H', T', h1⟩ := hU; have h3 := HCTF.out _ h1.below; go_simp⟩) hS0 ?_
    refine wpAnyH_take (i := 8) (v := .pointer (some ⟨gD, t, none⟩)) rfl (by kernel_rfl) (by kernel_rfl) (by kernel_rfl) (fun _ _ _ h => h) (.inl ⟨by rfl, fun U hU => by go_simp⟩) hS0 ?_
    refine wpAnyH_all (rs := [9]) (by kernel_rfl) (by simp) ?_
    intro i' hi'
    simp only [List.mem_cons, List.not_mem_nil, or_false] at hi'
    subst hi'
    unfold wpOp
    go_simp
    left
    refine ⟨⟨_, _, _, S8⟩, by kernel_rfl, ?_⟩
    clear hS0 cT cT1 cT2
    generalize hW8 : World.drew _ = W8
    replace S8 : PuS w W8 #[.slice A n a, .slice (some ⟨bB, oB, none⟩) m b, .slice (some ⟨bD, oD, none⟩) m d] g (some ⟨gA, 0, none⟩) a5 (some ⟨gB, 0, none⟩) b5 (some ⟨gD, 0, none⟩) d5 n m next (head.set t hf0) (tail.set t tf) := by rw [← hW8]; exact S8
    clear hW8 S7 S7d
    have S8d := S8.drew
    have S9 := S8d.setH (j := f) (fitI (-1) (by omega) (by omega))
    have S10 := S9.setT (j := f) (fitI (-1) (by omega) (by omega))
    have e1 : joinN next head tail f t = next := by unfold joinN; rw [HTT.out, HHF.out]; rfl
    have e2 : joinH head tail f t = (head.set t hf0).set f (-1) := by unfold joinH; rw [HTT.out, HHF.out]; rfl
    have e3 : joinT tail f t = (tail.set t tf).set f (-1) := by unfold joinT; rw [HTF.out]
    have HF := Lib.hid (show NewCE (joinN next head tail f t) (joinH head tail f t) (joinT tail f t) 0 w _ _ from by rw [e1, e2, e3]; exact S10.done (er := 0))
    clear e1 e2 e3
    have cH := S8d.cellH hfm
    have cH1 := cH.1
    have cH2 := cH.2
    have cT := S8.cellT hfm
    have cT1 := cT.1
    have cT2 := cT.2
    have p0 := S8.p.e0
    have p1 := S8.p.e1
    have p2 := S8.p.e2
    have z0 := S8.z.e0
    have z1 := S8.z.e1
    have z2 := S8.z.e2
    have f0 := S8.z.frozen 0
    have f1 := S8.z.frozen 1
    have f2 := S8.z.frozen 2
    clear cH cT
    go_wp2
    refine wp_region_held (S := fun U => ∃ N' H' T', PuS w U #[.slice A n a, .slice (some ⟨bB, oB, none⟩) m b, .slice (some ⟨bD, oD, none⟩) m d] g (some ⟨gA, 0, none⟩) a5 (some ⟨gB, 0, none⟩) b5 (some ⟨gD, 0, none⟩) d5 n m N' H' T') (by kernel_rfl) ?_
    change wpAnyH _ _ _ _ _ _ _ _ (World.drew _)
    have hS0 : (fun U => ∃ N' H' T', PuS w U #[.slice A n a, .slice (some ⟨bB, oB, none⟩) m b, .slice (some ⟨bD, oD, none⟩) m d] g (some ⟨gA, 0, none⟩) a5 (some ⟨gB, 0, none⟩) b5 (some ⟨gD, 0, none⟩) d5 n m N' H' T') W8.drew := ⟨_, _, _, S8d⟩
    refine wpAnyH_take (i := 0) (v := .pointer (some ⟨g, 1, none⟩)) rfl (by kernel_rfl) (by kernel_rfl) (by kernel_rfl) (fun _ _ _ h => h) (.inl ⟨by rfl, fun U hU => by go_simp⟩) hS0 ?_
    refine wpAnyH_take (i := 1) (v := .slice (some ⟨gB, 0, none⟩) m b5) rfl (by kernel_rfl) (by kernel_rfl) (by kernel_rfl) (fun _ _ _ h => h) (.inl ⟨by rfl, fun U hU => by obtain ⟨N', H', T', h1⟩ := hU; have h3 := h1.p.e1; go_simp⟩) hS0 ?_
    refine wpAnyH_take (i := 2) (v := .int .i64 f) rfl (by kernel_rfl) (by kernel_rfl) (by kernel_rfl) (fun _ _ _ h => h) (.inl ⟨by rfl, fun U hU => by go_simp⟩) hS0 ?_
    refine wpAnyH_take (i := 3) (v := .pointer (some ⟨g, 2, none⟩)) rfl (by kernel_rfl) (by kernel_rfl) (by kernel_rfl) (fun _ _ _ h => h) (.inl ⟨by rfl, fun U hU => by go_simp⟩) hS0 ?_
    refine wpAnyH_take (i := 4) (v := .slice (some ⟨gD, 0, none⟩) m d5) rfl (by kernel_rfl) (by kernel_rfl) (by kernel_rfl) (fun _ _ _ h => h) (.inl ⟨by rfl, fun U hU => by obtain ⟨N', H', T', h1⟩ := hU; have h3 := h1.p.e2; go_simp⟩) hS0 ?_
    refine wpAnyH_take (i := 5) (v := .int .i64 f) rfl (by kernel_rfl) (by kernel_rfl) (by kernel_rfl) (fun _ _ _ h => h) (.inl ⟨by rfl, fun U hU => by go_simp⟩) hS0 ?_
    refine wpAnyH_take (i := 6) (v := .pointer (some ⟨gB, f, none⟩)) rfl (by kernel_rfl) (by kernel_rfl) (by kernel_rfl) (fun _ _ _ h => h) (.inl ⟨by rfl, fun U hU => by go_simp⟩) hS0 ?_
    refine wpAnyH_all (rs := [7]) (by kernel_rfl) (by simp) ?_
    intro i' hi'
    simp only [List.mem_cons, List.not_mem_nil, or_false] at hi'
    subst hi'
    unfold wpOp
    go_simp
    left
    refine ⟨⟨_, _, _, S9⟩, ?_⟩
    refine wpAnyH_take (i := 8) (v := .pointer (some ⟨gD, f, none⟩)) rfl (by kernel_rfl) (by kernel_rfl) (by kernel_rfl) (fun _ _ _ h => h) (.inl ⟨by rfl, fun U hU => by go_simp⟩) ⟨_, _, _, S9⟩ ?_
    refine wpAnyH_all (rs := [9]) (by kernel_rfl) (by simp) ?_
    intro i' hi'
    simp only [List.mem_cons, List.not_mem_nil, or_false] at hi'
    subst hi'
    unfold wpOp
    go_simp
    left
    refine ⟨⟨_, _, _, S10⟩, by kernel_rfl, ?_⟩
    clear S8 S8d S9 S10 hS0
    go_wp2
    exact bodyPost_ret (v := .tuple #[.agg #[.slice (some ⟨gA, 0, none⟩) n a5, .slice (some ⟨gB, 0, none⟩) m b5, .slice (some ⟨gD, 0, none⟩) m d5], .int .i64 0]) (by simp [results, Try.results18, go_sem, *]) rfl HF.out
  · obtain ⟨tp, rfl⟩ : ∃ tp : Nat, tt = tp := ⟨tt.toNat, by omega⟩
    have htp : tp < n := by omega
    have HTM := Lib.hid htm1
    clear htm1 htr
    refine wp_region_held (S := fun U => ∃ N' H' T', PuS w U #[.slice A n a, .slice (some ⟨bB, oB, none⟩) m b, .slice (some ⟨bD, oD, none⟩) m d] g (some ⟨gA, 0, none⟩) a5 (some ⟨gB, 0, none⟩) b5 (some ⟨gD, 0, none⟩) d5 n m N' H' T') (by kernel_rfl) ?_
    change wpAnyH _ _ _ _ _ _ _ _ (World.drew _)
    have hS0 : (fun U => ∃ N' H' T', PuS w U #[.slice A n a, .slice (some ⟨bB, oB, none⟩) m b, .slice (some ⟨bD, oD, none⟩) m d] g (some ⟨gA, 0, none⟩) a5 (some ⟨gB, 0, none⟩) b5 (some ⟨gD, 0, none⟩) d5 n m N' H' T') W6.drew := ⟨_, _, _, S6d⟩
    refine wpAnyH_take (i := 0) (v := .agg #[.slice (some ⟨gA, 0, none⟩) n a5, .slice (some ⟨gB, 0, none⟩) m b5, .slice (some ⟨gD, 0, none⟩) m d5]) rfl (by kernel_rfl) (by kernel_rfl) (by kernel_rfl) (fun _ _ _ h => h) (.inl ⟨by rfl, fun U hU => by obtain ⟨N', H', T', h1⟩ := hU; have h3 := h1.p.e0; have h4 := h1.p.e1; have h5 := h1.p.e2; go_simp⟩) hS0 ?_
    refine wpAnyH_take (i := 1) (v := .int .i64 t) rfl (by kernel_rfl) (by kernel_rfl) (by kernel_rfl) (fun _ _ _ h => h) (.inl ⟨by rfl, fun U hU => by go_simp⟩) hS0 ?_
    refine wpAnyH_take (i := 2) (v := .pointer (some ⟨w.heap.size, 2, none⟩)) rfl (by kernel_rfl) (by kernel_rfl) (by kernel_rfl) (fun _ _ _ h => h) (.inl ⟨by rfl, fun U hU => by go_simp⟩) hS0 ?_
    refine wpAnyH_take (i := 3) (v := .slice (some ⟨bD, oD, none⟩) m d) rfl (by kernel_rfl) (by kernel_rfl) (by kernel_rfl) (fun _ _ _ h => h) (.inl ⟨by rfl, fun U hU => by obtain ⟨N', H', T', h1⟩ := hU; have h3 := h1.c.e2; go_simp⟩) hS0 ?_
    refine wpAnyH_take (i := 4) (v := .int .i64 t) rfl (by kernel_rfl) (by kernel_rfl) (by kernel_rfl) (fun _ _ _ h => h) (.inl ⟨by rfl, fun U hU => by go_simp⟩) hS0 ?_
    refine wpAnyH_take (i := 5) (v := .pointer (some ⟨bD, oD + t, none⟩)) rfl (by kernel_rfl) (by kernel_rfl) (by kernel_rfl) (fun _ _ _ h => h) (.inl ⟨by rfl, fun U hU => by go_simp⟩) hS0 ?_
    refine wpAnyH_take (i := 6) (v := .int .i64 (tp : Int)) rfl (by kernel_rfl) (by kernel_rfl) (by kernel_rfl) (fun _ _ _ h => h) (.inl ⟨by rfl, fun U hU => by obtain ⟨N', H', T', h1⟩ := hU; have h3 := HCTT.out _ h1.below; go_simp⟩) hS0 ?_
    refine wpAnyH_take (i := 7) (v := .pointer (some ⟨w.heap.size, 1, none⟩)) rfl (by kernel_rfl) (by kernel_rfl) (by kernel_rfl) (fun _ _ _ h => h) (.inl ⟨by rfl, fun U hU => by go_simp⟩) hS0 ?_
    refine wpAnyH_take (i := 8) (v := .slice (some ⟨bB, oB, none⟩) m b) rfl (by kernel_rfl) (by kernel_rfl) (by kernel_rfl) (fun _ _ _ h => h) (.inl ⟨by rfl, fun U hU => by obtain ⟨N', H', T', h1⟩ := hU; have h3 := h1.c.e1; go_simp⟩) hS0 ?_
    refine wpAnyH_take (i := 9) (v := .int .i64 f) rfl (by kernel_rfl) (by kernel_rfl) (by kernel_rfl) (fun _ _ _ h => h) (.inl ⟨by rfl, fun U hU => by go_simp⟩) hS0 ?_
    refine wpAnyH_take (i := 10) (v := .pointer (some ⟨bB, oB + f, none⟩)) rfl (by kernel_rfl) (by kernel_rfl) (by kernel_rfl) (fun _ _ _ h => h) (.inl ⟨by rfl, fun U hU => by go_simp⟩) hS0 ?_
    refine wpAnyH_take (i := 11) (v := .int .i64 hf0) rfl (by kernel_rfl) (by kernel_rfl) (by kernel_rfl) (fun _ _ _ h => h) (.inl ⟨by rfl, fun U hU => by obtain ⟨N', H', T', h1⟩ := hU; have h3 := HCF.out _ h1.below; go_simp⟩) hS0 ?_
    refine wpAnyH_all (rs := [12]) (by kernel_rfl) (by simp) ?_
    intro i' hi'
    simp only [List.mem_cons, List.not_mem_nil, or_false] at hi'
    subst hi'
    unfold wpOp
    go_simp
    left
    refine (link_next _ _ _ n a5 m b5 m d5 gA tp t hf0 W6.drew _ rfl htp hgA6 (S6d.cellN htp).1 (S6d.cellN htp).2).mono ?_
    rintro e w8 ⟨rfl, rfl⟩
    have S7 := (S6d.setN (j := tp) hff).alloc (.cells #[.slice (some ⟨gA, 0, none⟩) n a5, .slice (some ⟨gB, 0, none⟩) m b5, .slice (some ⟨gD, 0, none⟩) m d5] 24)
    refine ⟨⟨_, _, _, S7⟩, by kernel_rfl, ?_⟩
    clear hS0 S6d hgB6 hgA6
    generalize hW7 : World.alloc _ _ = W7 at S7 ⊢
    clear hW7
    have S7d := S7.drew
    have S8 := S7d.setT (j := t) htff
    have cT := S7d.cellT htm
    have cT1 := cT.1
    have cT2 := cT.2
    go_wp2
    refine wp_region_held (S := fun U => ∃ N' H' T', PuS w U #[.slice A n a, .slice (some ⟨bB, oB, none⟩) m b, .slice (some ⟨bD, oD, none⟩) m d] g (some ⟨gA, 0, none⟩) a5 (some ⟨gB, 0, none⟩) b5 (some ⟨gD, 0, none⟩) d5 n m N' H' T') (by kernel_rfl) ?_
    change wpAnyH _ _ _ _ _ _ _ _ (World.drew _)
    have hS0 : (fun U => ∃ N' H' T', PuS w U #[.slice A n a, .slice (some ⟨bB, oB, none⟩) m b, .slice (some ⟨bD, oD, none⟩) m d] g (some ⟨gA, 0, none⟩) a5 (some ⟨gB, 0, none⟩) b5 (some ⟨gD, 0, none⟩) d5 n m N' H' T') W7.drew := ⟨_, _, _, S7d⟩
    refine wpAnyH_take (i := 0) (v := .pointer (some ⟨g, 2, none⟩)) rfl (by kernel_rfl) (by kernel_rfl) (by kernel_rfl) (fun _ _ _ h => h) (.inl ⟨by rfl, fun U hU => by go_simp⟩) hS0 ?_
    refine wpAnyH_take (i := 1) (v := .slice (some ⟨gD, 0, none⟩) m d5) rfl (by kernel_rfl) (by kernel_rfl) (by kernel_rfl) (fun _ _ _ h => h) (.inl ⟨by rfl, fun U hU => by obtain ⟨N', H', T', h1⟩ := hU; have h3 := h1.p.e2; go_simp⟩) hS0 ?_
    refine wpAnyH_take (i := 2) (v := .int .i64 t) rfl (by kernel_rfl) (by kernel_rfl) (by kernel_rfl) (fun _ _ _ h => h) (.inl ⟨by rfl, fun U hU => by go_simp⟩) hS0 ?_
    refine wpAnyH_take (i := 3) (v := .pointer (some ⟨w.heap.size, 2, none⟩)) rfl (by kernel_rfl) (by kernel_rfl) (by kernel_rfl) (fun _ _ _ h => h) (.inl ⟨by rfl, fun U hU => by go_simp⟩) hS0 ?_
    refine wpAnyH_take (i := 4) (v := .slice (some ⟨bD, oD, none⟩) m d) rfl (by kernel_rfl) (by kernel_rfl) (by kernel_rfl) (fun _ _ _ h => h) (.inl ⟨by rfl, fun U hU => by obtain ⟨N', H', T', h1⟩ := hU; have h3 := h1.c.e2; go_simp⟩) hS0 ?_
    refine wpAnyH_take (i := 5) (v := .int .i64 f) rfl (by kernel_rfl) (by kernel_rfl) (by kernel_rfl) (fun _ _ _ h => h) (.inl ⟨by rfl, fun U hU => by go_simp⟩) hS0 ?_
    refine wpAnyH_take (i := 6) (v := .pointer (some ⟨bD, oD + f, none⟩)) rfl (by kernel_rfl) (by kernel_rfl) (by kernel_rfl) (fun _ _ _ h => h) (.inl ⟨by rfl, fun U hU => by go_simp⟩) hS0 ?_
    refine wpAnyH_take (i := 7) (v := .int .i64 tf) rfl (by kernel_rfl) (by kernel_rfl) (by kernel_rfl) (fun _ _ _ h => h) (.inl ⟨by rfl, fun U hU => by obtain ⟨N', H', T', h1⟩ := hU; have h3 := HCTF.out _ h1.below; go_simp⟩) hS0 ?_
    refine wpAnyH_take (i := 8) (v := .pointer (some ⟨gD, t, none⟩)) rfl (by kernel_rfl) (by kernel_rfl) (by kernel_rfl) (fun _ _ _ h => h) (.inl ⟨by rfl, fun U hU => by go_simp⟩) hS0 ?_
    refine wpAnyH_all (rs := [9]) (by kernel_rfl) (by simp) ?_
    intro i' hi'
    simp only [List.mem_cons, List.not_mem_nil, or_false] at hi'
    subst hi'
    unfold wpOp
    go_simp
    left
    refine ⟨⟨_, _, _, S8⟩, by kernel_rfl, ?_⟩
    clear hS0 cT cT1 cT2
    generalize hW8 : World.drew _ = W8
    replace S8 : PuS w W8 #[.slice A n a, .slice (some ⟨bB, oB, none⟩) m b, .slice (some ⟨bD, oD, none⟩) m d] g (some ⟨gA, 0, none⟩) a5 (some ⟨gB, 0, none⟩) b5 (some ⟨gD, 0, none⟩) d5 n m (next.set tp hf0) head (tail.set t tf) := by rw [← hW8]; exact S8
    clear hW8 S7 S7d
    have S8d := S8.drew
    have S9 := S8d.setH (j := f) (fitI (-1) (by omega) (by omega))
    have S10 := S9.setT (j := f) (fitI (-1) (by omega) (by omega))
    have e1 : joinN next head tail f t = (next.set tp hf0) := by unfold joinN; rw [HTT.out, HHF.out]; rw [if_neg HTM.out, Int.toNat_natCast]
    have e2 : joinH head tail f t = head.set f (-1) := by unfold joinH; rw [HTT.out, HHF.out]; rw [if_neg HTM.out]
    have e3 : joinT tail f t = (tail.set t tf).set f (-1) := by unfold joinT; rw [HTF.out]
    have HF := Lib.hid (show NewCE (joinN next head tail f t) (joinH head tail f t) (joinT tail f t) 0 w _ _ from by rw [e1, e2, e3]; exact S10.done (er := 0))
    clear e1 e2 e3
    have cH := S8d.cellH hfm
    have cH1 := cH.1
    have cH2 := cH.2
    have cT := S8.cellT hfm
    have cT1 := cT.1
    have cT2 := cT.2
    have p0 := S8.p.e0
    have p1 := S8.p.e1
    have p2 := S8.p.e2
    have z0 := S8.z.e0
    have z1 := S8.z.e1
    have z2 := S8.z.e2
    have f0 := S8.z.frozen 0
    have f1 := S8.z.frozen 1
    have f2 := S8.z.frozen 2
    clear cH cT
    go_wp2
    refine wp_region_held (S := fun U => ∃ N' H' T', PuS w U #[.slice A n a, .slice (some ⟨bB, oB, none⟩) m b, .slice (some ⟨bD, oD, none⟩) m d] g (some ⟨gA, 0, none⟩) a5 (some ⟨gB, 0, none⟩) b5 (some ⟨gD, 0, none⟩) d5 n m N' H' T') (by kernel_rfl) ?_
    change wpAnyH _ _ _ _ _ _ _ _ (World.drew _)
    have hS0 : (fun U => ∃ N' H' T', PuS w U #[.slice A n a, .slice (some ⟨bB, oB, none⟩) m b, .slice (some ⟨bD, oD, none⟩) m d] g (some ⟨gA, 0, none⟩) a5 (some ⟨gB, 0, none⟩) b5 (some ⟨gD, 0, none⟩) d5 n m N' H' T') W8.drew := ⟨_, _, _, S8d⟩
    refine wpAnyH_take (i := 0) (v := .pointer (some ⟨g, 1, none⟩)) rfl (by kernel_rfl) (by kernel_rfl) (by kernel_rfl) (fun _ _ _ h => h) (.inl ⟨by rfl, fun U hU => by go_simp⟩) hS0 ?_
    refine wpAnyH_take (i := 1) (v := .slice (some ⟨gB, 0, none⟩) m b5) rfl (by kernel_rfl) (by kernel_rfl) (by kernel_rfl) (fun _ _ _ h => h) (.inl ⟨by rfl, fun U hU => by obtain ⟨N', H', T', h1⟩ := hU; have h3 := h1.p.e1; go_simp⟩) hS0 ?_
    refine wpAnyH_take (i := 2) (v := .int .i64 f) rfl (by kernel_rfl) (by kernel_rfl) (by kernel_rfl) (fun _ _ _ h => h) (.inl ⟨by rfl, fun U hU => by go_simp⟩) hS0 ?_
    refine wpAnyH_take (i := 3) (v := .pointer (some ⟨g, 2, none⟩)) rfl (by kernel_rfl) (by kernel_rfl) (by kernel_rfl) (fun _ _ _ h => h) (.inl ⟨by rfl, fun U hU => by go_simp⟩) hS0 ?_
    refine wpAnyH_take (i := 4) (v := .slice (some ⟨gD, 0, none⟩) m d5) rfl (by kernel_rfl) (by kernel_rfl) (by kernel_rfl) (fun _ _ _ h => h) (.inl ⟨by rfl, fun U hU => by obtain ⟨N', H', T', h1⟩ := hU; have h3 := h1.p.e2; go_simp⟩) hS0 ?_
    refine wpAnyH_take (i := 5) (v := .int .i64 f) rfl (by kernel_rfl) (by kernel_rfl) (by kernel_rfl) (fun _ _ _ h => h) (.inl ⟨by rfl, fun U hU => by go_simp⟩) hS0 ?_
    refine wpAnyH_take (i := 6) (v := .pointer (some ⟨gB, f, none⟩)) rfl (by kernel_rfl) (by kernel_rfl) (by kernel_rfl) (fun _ _ _ h => h) (.inl ⟨by rfl, fun U hU => by go_simp⟩) hS0 ?_
    refine wpAnyH_all (rs := [7]) (by kernel_rfl) (by simp) ?_
    intro i' hi'
    simp only [List.mem_cons, List.not_mem_nil, or_false] at hi'
    subst hi'
    unfold wpOp
    go_simp
    left
    refine ⟨⟨_, _, _, S9⟩, ?_⟩
    refine wpAnyH_take (i := 8) (v := .pointer (some ⟨gD, f, none⟩)) rfl (by kernel_rfl) (by kernel_rfl) (by kernel_rfl) (fun _ _ _ h => h) (.inl ⟨by rfl, fun U hU => by go_simp⟩) ⟨_, _, _, S9⟩ ?_
    refine wpAnyH_all (rs := [9]) (by kernel_rfl) (by simp) ?_
    intro i' hi'
    simp only [List.mem_cons, List.not_mem_nil, or_false] at hi'
    subst hi'
    unfold wpOp
    go_simp
    left
    refine ⟨⟨_, _, _, S10⟩, by kernel_rfl, ?_⟩
    clear S8 S8d S9 S10 hS0
    go_wp2
    exact bodyPost_ret (v := .tuple #[.agg #[.slice (some ⟨gA, 0, none⟩) n a5, .slice (some ⟨gB, 0, none⟩) m b5, .slice (some ⟨gD, 0, none⟩) m d5], .int .i64 0]) (by simp [results, Try.results18, go_sem, *]) rfl HF.out

end Go.Proofs.Ytiheeehegjfmgaa
