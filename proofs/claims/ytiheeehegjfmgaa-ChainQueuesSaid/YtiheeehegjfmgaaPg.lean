/-
  The program's New, Push.
-/
import Derived.Test.YtiheeehegjfmgaaPf
namespace Go.Proofs.Ytiheeehegjfmgaa
open Go.RowKit Go.Shelf

/-- New chains, and an error, are handed back. -/
def NewCE (next head tail : List Int) (er : Int) (w : World) (e : Ending) (w' : World) : Prop :=
  ∃ A a B b D d, e = .returned (.tuple #[.agg #[.slice A next.length a, .slice B head.length b, .slice D tail.length d], .int .i64 er]) ∧ OwnK w' w.heap.size A a B b D d next head tail ∧ Below w.heap.size w w'
theorem ownk_nil (w : World) (base : Nat) : OwnK w base none 0 none 0 none 0 [] [] [] := ⟨⟨OwnI.nil_ _ _ _, OwnI.nil_ _ _ _, OwnI.nil_ _ _ _⟩, fun k h => by simp [blkA, Value.ownBlock] at h, fun k h => by simp [blkA, Value.ownBlock] at h, fun k h => by simp [blkA, Value.ownBlock] at h⟩

def pushN (next tail : List Int) (i : Nat) (x : Int) : List Int := (if nth tail i = -1 then next else next.set (nth tail i).toNat x).set x.toNat (-1)
def pushH (head tail : List Int) (i : Nat) (x : Int) : List Int := if nth tail i = -1 then head.set i x else head
def pushT (tail : List Int) (i : Nat) (x : Int) : List Int := tail.set i x

theorem new_bad (x y : Int) (h : x < 0 ∨ 1024 < x ∨ y < 1 ∨ 256 < y) (w : World) : Calls Try.prog 21 #[.int .i64 x, .int .i64 y] w (NewCE [] [] [] 1 w) := by
  have HB3 := Lib.hid ((Below.refl w.heap.size w).alloc (Nat.le_refl _) (.cells #[.slice none 0 0, .slice none 0 0, .slice none 0 0] 24))
  have h2 : x < 0 ∨ (¬ x < 0 ∧ 1024 < x) ∨ (¬ x < 0 ∧ ¬ 1024 < x ∧ y < 1) ∨ (¬ x < 0 ∧ ¬ 1024 < x ∧ ¬ y < 1 ∧ 256 < y) := by omega
  rcases h2 with h | ⟨h0, h⟩ | ⟨h0, h1, h⟩ | ⟨h0, h1, h2, h⟩
  all_goals
    go_enter Try.func21, Try.ntmps21
    go_wp2
    exact bodyPost_ret (v := .tuple #[.agg #[.slice none 0 0, .slice none 0 0, .slice none 0 0], .int .i64 1]) (by simp [results, Try.results21, go_sem]) rfl ⟨none, 0, none, 0, none, 0, rfl, ownk_nil _ _, HB3.out⟩

set_option maxHeartbeats 2000000 in
theorem new_ok (n m : Nat) (hn : n ≤ 1024) (h1 : 1 ≤ m) (h2 : m ≤ 256) (w : World) : Calls Try.prog 21 #[.int .i64 n, .int .i64 m] w (NewCE (List.replicate n (-2)) (List.replicate m (-1)) (List.replicate m (-1)) 0 w) := by
  have hb1 := (Below.refl w.heap.size w).alloc (Nat.le_refl _) (.cells #[.slice none 0 0, .slice none 0 0, .slice none 0 0] 24)
  have Z1 := Bk.new w 24 #[.slice none 0 0, .slice none 0 0, .slice none 0 0]
  have HB1 := Lib.hid hb1
  have hq1 := filled_any (-2) (fitI _ (by omega) (by omega)) n hn (w.alloc (.cells #[.slice none 0 0, .slice none 0 0, .slice none 0 0] 24))
  have hn2 : (List.replicate n (-2 : Int)).length = n := by simp
  have hm2 : (List.replicate m (-1 : Int)).length = m := by simp
  clear hb1
  go_enter Try.func21, Try.ntmps21
  go_wp2_with first
    | (go_at_call 40; refine hq1.mono ?_; clear hq1; rintro e w2 ⟨A, a, he, ho1, hb2⟩; rw [hn2] at he; subst he; have hq2 := filled_any (-1) (fitI _ (by omega) (by omega)) m (by omega) w2; have O1 := Lib.hid ho1; have Z2 := Z1.below hb2 Z1.lt; have HB2 := Lib.hid (below3 HB1.out hb2); clear ho1 hb2)
    | (go_at_call 40; refine hq2.mono ?_; clear hq2; rintro e w3 ⟨B, b, he, ho2, hb3⟩; rw [hm2] at he; subst he; have hq3 := filled_any (-1) (fitI _ (by omega) (by omega)) m (by omega) w3; have HAB := Lib.hid (fresh_apart O1.out ho2 (Nat.le_refl _)); have O2 := Lib.hid ho2; have O1b := Lib.hid (O1.out.below hb3); have Z3 := Z2.below hb3 Z2.lt; have HB3 := Lib.hid (below3 HB2.out hb3); have hs3 := hb3.size; clear ho2 hb3)
    | (go_at_call 40; refine hq3.mono ?_; clear hq3; rintro e w4 ⟨D, d, he, ho3, hb4⟩; rw [hm2] at he; subst he; have HAD := Lib.hid (fresh_apart O1b.out ho3 (Nat.le_refl _)); have HBD := Lib.hid (fresh_apart O2.out ho3 (Nat.le_refl _)); have O3 := Lib.hid ho3; have O2b := Lib.hid (O2.out.below hb4); have O1c := Lib.hid (O1b.out.below hb4); have Z4 := Z3.below hb4 Z3.lt; have z0 := Z4.e0; have z1 := Z4.e1; have z2 := Z4.e2; have f0 := Z4.frozen 0; have f1 := Z4.frozen 1; have f2 := Z4.frozen 2; have HB4 := Lib.hid (below3 HB3.out hb4); have hs4 := hb4.size; clear ho3 hb4)
  have hs1 : (w.alloc (.cells #[.slice none 0 0, .slice none 0 0, .slice none 0 0] 24)).heap.size = w.heap.size + 1 := by simp
  have hs2 := Z2.lt
  have KF : OwnK w4 (w.heap.size + 1) A a B b D d (List.replicate n (-2)) (List.replicate m (-1)) (List.replicate m (-1)) := ⟨⟨O1c.out.base (by omega), O2b.out.base (by omega), O3.out.base (by omega)⟩, HAB.out, HAD.out, HBD.out⟩
  exact bodyPost_ret (v := .tuple #[.agg #[.slice A n a, .slice B m b, .slice D m d], .int .i64 0]) (by simp [results, Try.results21, go_sem, *]) rfl ⟨A, a, B, b, D, d, by rw [hn2, hm2], (((KF.far (g := w.heap.size) (j := 0) (by omega) (.slice A n a)).far (g := w.heap.size) (j := 1) (by omega) (.slice B m b)).far (g := w.heap.size) (j := 2) (by omega) (.slice D m d)).base_ (by omega), ((HB4.out.setCell (p := ⟨w.heap.size, 0, none⟩) (Nat.le_refl _) (.slice A n a)).setCell (p := ⟨w.heap.size, 1, none⟩) (Nat.le_refl _) (.slice B m b)).setCell (p := ⟨w.heap.size, 2, none⟩) (Nat.le_refl _) (.slice D m d)⟩

set_option maxHeartbeats 2000000 in
theorem push_no (A B D : Option Addr) (n a m b k d : Nat) (next head tail : List Int) (list x : Int) (hno : ∀ qs, ¬ Rep next head tail qs) (w : World) (hp : Chn w A n B m D k next head tail) :
    Calls Try.prog 12 #[.agg #[.slice A n a, .slice B m b, .slice D k d], .int .i64 list, .int .i64 x] w (NewCE [] [] [] 1 w) := by
  have hb2 := ((Below.refl w.heap.size w).alloc (Nat.le_refl _) (.cells #[.slice A n a, .slice B m b, .slice D k d] 24)).alloc (by simp) (.cells #[.slice none 0 0, .slice none 0 0, .slice none 0 0] 24)
  have K2 := (Bk.new w 24 #[.slice A n a, .slice B m b, .slice D k d]).alloc (.cells #[.slice none 0 0, .slice none 0 0, .slice none 0 0] 24)
  have Z2 := Bk.new (w.alloc (.cells #[.slice A n a, .slice B m b, .slice D k d] 24)) 24 #[.slice none 0 0, .slice none 0 0, .slice none 0 0]
  rw [size_alloc] at Z2
  have HP2 := Lib.hid (hp.below hb2)
  have HB2 := Lib.hid hb2
  have c0 := K2.e0
  have c1 := K2.e1
  have c2 := K2.e2
  have HP0 := Lib.hid hp
  have HLX := Lib.hid hp.x.1
  have HLH := Lib.hid hp.h.1
  have HLT := Lib.hid hp.t.1
  clear hp hb2
  go_enter Try.func12, Try.ntmps12
  go_wp2_with (go_at_call 25; refine (whereF_no A B D n a m b k d next head tail x hno ((w.alloc (.cells #[.slice A n a, .slice B m b, .slice D k d] 24)).alloc (.cells #[.slice none 0 0, .slice none 0 0, .slice none 0 0] 24)) HP2.out).mono ?_; rintro e w3 ⟨rfl, hb3⟩; have HB3 := Lib.hid (below3 HB2.out hb3); have K3 := K2.below hb3 K2.lt; have k0 := K3.e0; have k1 := K3.e1; have k2 := K3.e2; have Z3 := Z2.below hb3 Z2.lt; have z0 := Z3.e0; have z1 := Z3.e1; have z2 := Z3.e2; have f0 := Z3.frozen 0; have f1 := Z3.frozen 1; have f2 := Z3.frozen 2; have HP3 := Lib.hid (HP2.out.below hb3); have HS3 := Lib.hid hb3.size; clear hb3)
  exact bodyPost_ret (v := .tuple #[.agg #[.slice none 0 0, .slice none 0 0, .slice none 0 0], .int .i64 1]) (by simp [results, Try.results12, go_sem, *]) rfl ⟨none, 0, none, 0, none, 0, rfl, ownk_nil _ _, (((HB3.out.setCell (p := ⟨w.heap.size + 1, 0, none⟩) (by simp) (.slice none 0 0)).setCell (p := ⟨w.heap.size + 1, 1, none⟩) (by simp) (.slice none 0 0)).setCell (p := ⟨w.heap.size + 1, 2, none⟩) (by simp) (.slice none 0 0))⟩

set_option maxHeartbeats 2000000 in
theorem push_out2 (A B D : Option Addr) (n a m b k d : Nat) (next head tail : List Int) (list x : Int) (qs : List (List Int)) (r : Rep next head tail qs) (hin2 : inBd x (n : Int) = false) (w : World) (hp : Chn w A n B m D k next head tail) :
    Calls Try.prog 12 #[.agg #[.slice A n a, .slice B m b, .slice D k d], .int .i64 list, .int .i64 x] w (NewCE [] [] [] 1 w) := by
  have hb2 := ((Below.refl w.heap.size w).alloc (Nat.le_refl _) (.cells #[.slice A n a, .slice B m b, .slice D k d] 24)).alloc (by simp) (.cells #[.slice none 0 0, .slice none 0 0, .slice none 0 0] 24)
  have K2 := (Bk.new w 24 #[.slice A n a, .slice B m b, .slice D k d]).alloc (.cells #[.slice none 0 0, .slice none 0 0, .slice none 0 0] 24)
  have Z2 := Bk.new (w.alloc (.cells #[.slice A n a, .slice B m b, .slice D k d] 24)) 24 #[.slice none 0 0, .slice none 0 0, .slice none 0 0]
  rw [size_alloc] at Z2
  have HP2 := Lib.hid (hp.below hb2)
  have HB2 := Lib.hid hb2
  have c0 := K2.e0
  have c1 := K2.e1
  have c2 := K2.e2
  have HP0 := Lib.hid hp
  have HLX := Lib.hid hp.x.1
  have HLH := Lib.hid hp.h.1
  have HLT := Lib.hid hp.t.1
  clear hp hb2
  go_enter Try.func12, Try.ntmps12
  go_wp2_with (go_at_call 25; refine (whereF_out A B D n a m b k d next head tail x qs r hin2 ((w.alloc (.cells #[.slice A n a, .slice B m b, .slice D k d] 24)).alloc (.cells #[.slice none 0 0, .slice none 0 0, .slice none 0 0] 24)) HP2.out).mono ?_; rintro e w3 ⟨rfl, hb3⟩; have HB3 := Lib.hid (below3 HB2.out hb3); have K3 := K2.below hb3 K2.lt; have k0 := K3.e0; have k1 := K3.e1; have k2 := K3.e2; have Z3 := Z2.below hb3 Z2.lt; have z0 := Z3.e0; have z1 := Z3.e1; have z2 := Z3.e2; have f0 := Z3.frozen 0; have f1 := Z3.frozen 1; have f2 := Z3.frozen 2; have HP3 := Lib.hid (HP2.out.below hb3); have HS3 := Lib.hid hb3.size; clear hb3)
  exact bodyPost_ret (v := .tuple #[.agg #[.slice none 0 0, .slice none 0 0, .slice none 0 0], .int .i64 1]) (by simp [results, Try.results12, go_sem, *]) rfl ⟨none, 0, none, 0, none, 0, rfl, ownk_nil _ _, (((HB3.out.setCell (p := ⟨w.heap.size + 1, 0, none⟩) (by simp) (.slice none 0 0)).setCell (p := ⟨w.heap.size + 1, 1, none⟩) (by simp) (.slice none 0 0)).setCell (p := ⟨w.heap.size + 1, 2, none⟩) (by simp) (.slice none 0 0))⟩

set_option maxHeartbeats 2000000 in
theorem push_out1 (A B D : Option Addr) (n a m b k d : Nat) (next head tail : List Int) (list x : Int) (qs : List (List Int)) (r : Rep next head tail qs) (hin2 : inBd x (n : Int) = true) (hin : inBd list (m : Int) = false) (w : World) (hp : Chn w A n B m D k next head tail) :
    Calls Try.prog 12 #[.agg #[.slice A n a, .slice B m b, .slice D k d], .int .i64 list, .int .i64 x] w (NewCE [] [] [] 1 w) := by
  have hb2 := ((Below.refl w.heap.size w).alloc (Nat.le_refl _) (.cells #[.slice A n a, .slice B m b, .slice D k d] 24)).alloc (by simp) (.cells #[.slice none 0 0, .slice none 0 0, .slice none 0 0] 24)
  have K2 := (Bk.new w 24 #[.slice A n a, .slice B m b, .slice D k d]).alloc (.cells #[.slice none 0 0, .slice none 0 0, .slice none 0 0] 24)
  have Z2 := Bk.new (w.alloc (.cells #[.slice A n a, .slice B m b, .slice D k d] 24)) 24 #[.slice none 0 0, .slice none 0 0, .slice none 0 0]
  rw [size_alloc] at Z2
  have HP2 := Lib.hid (hp.below hb2)
  have HB2 := Lib.hid hb2
  have c0 := K2.e0
  have c1 := K2.e1
  have c2 := K2.e2
  have HP0 := Lib.hid hp
  have HLX := Lib.hid hp.x.1
  have HLH := Lib.hid hp.h.1
  have HLT := Lib.hid hp.t.1
  clear hp hb2
  by_cases h0 : list < 0
  · go_enter Try.func12, Try.ntmps12
    go_wp2_with (go_at_call 25; refine (whereF_ok A B D n a m b k d next head tail x qs r hin2 ((w.alloc (.cells #[.slice A n a, .slice B m b, .slice D k d] 24)).alloc (.cells #[.slice none 0 0, .slice none 0 0, .slice none 0 0] 24)) HP2.out).mono ?_; rintro e w3 ⟨rfl, hb3⟩; have HB3 := Lib.hid (below3 HB2.out hb3); have K3 := K2.below hb3 K2.lt; have k0 := K3.e0; have k1 := K3.e1; have k2 := K3.e2; have Z3 := Z2.below hb3 Z2.lt; have z0 := Z3.e0; have z1 := Z3.e1; have z2 := Z3.e2; have f0 := Z3.frozen 0; have f1 := Z3.frozen 1; have f2 := Z3.frozen 2; have HP3 := Lib.hid (HP2.out.below hb3); have HS3 := Lib.hid hb3.size; clear hb3)
    exact bodyPost_ret (v := .tuple #[.agg #[.slice none 0 0, .slice none 0 0, .slice none 0 0], .int .i64 1]) (by simp [results, Try.results12, go_sem, *]) rfl ⟨none, 0, none, 0, none, 0, rfl, ownk_nil _ _, (((HB3.out.setCell (p := ⟨w.heap.size + 1, 0, none⟩) (by simp) (.slice none 0 0)).setCell (p := ⟨w.heap.size + 1, 1, none⟩) (by simp) (.slice none 0 0)).setCell (p := ⟨w.heap.size + 1, 2, none⟩) (by simp) (.slice none 0 0))⟩
  · have h1 : (m : Int) ≤ list := by
      by_cases h : list < (m : Int)
      · have : inBd list (m : Int) = true := by simp [inBd]; omega
        rw [this] at hin
        cases hin
      · omega
    go_enter Try.func12, Try.ntmps12
    go_wp2_with (go_at_call 25; refine (whereF_ok A B D n a m b k d next head tail x qs r hin2 ((w.alloc (.cells #[.slice A n a, .slice B m b, .slice D k d] 24)).alloc (.cells #[.slice none 0 0, .slice none 0 0, .slice none 0 0] 24)) HP2.out).mono ?_; rintro e w3 ⟨rfl, hb3⟩; have HB3 := Lib.hid (below3 HB2.out hb3); have K3 := K2.below hb3 K2.lt; have k0 := K3.e0; have k1 := K3.e1; have k2 := K3.e2; have Z3 := Z2.below hb3 Z2.lt; have z0 := Z3.e0; have z1 := Z3.e1; have z2 := Z3.e2; have f0 := Z3.frozen 0; have f1 := Z3.frozen 1; have f2 := Z3.frozen 2; have HP3 := Lib.hid (HP2.out.below hb3); have HS3 := Lib.hid hb3.size; clear hb3)
    exact bodyPost_ret (v := .tuple #[.agg #[.slice none 0 0, .slice none 0 0, .slice none 0 0], .int .i64 1]) (by simp [results, Try.results12, go_sem, *]) rfl ⟨none, 0, none, 0, none, 0, rfl, ownk_nil _ _, (((HB3.out.setCell (p := ⟨w.heap.size + 1, 0, none⟩) (by simp) (.slice none 0 0)).setCell (p := ⟨w.heap.size + 1, 1, none⟩) (by simp) (.slice none 0 0)).setCell (p := ⟨w.heap.size + 1, 2, none⟩) (by simp) (.slice none 0 0))⟩

set_option maxHeartbeats 2000000 in
theorem push_there (A B D : Option Addr) (n a m b k d : Nat) (next head tail : List Int) (list x : Int) (qs : List (List Int)) (r : Rep next head tail qs) (hin2 : inBd x (n : Int) = true) (hin : inBd list (m : Int) = true) (hw : 0 ≤ whereQ qs x) (w : World) (hp : Chn w A n B m D k next head tail) :
    Calls Try.prog 12 #[.agg #[.slice A n a, .slice B m b, .slice D k d], .int .i64 list, .int .i64 x] w (NewCE [] [] [] 6 w) := by
  have hb2 := ((Below.refl w.heap.size w).alloc (Nat.le_refl _) (.cells #[.slice A n a, .slice B m b, .slice D k d] 24)).alloc (by simp) (.cells #[.slice none 0 0, .slice none 0 0, .slice none 0 0] 24)
  have K2 := (Bk.new w 24 #[.slice A n a, .slice B m b, .slice D k d]).alloc (.cells #[.slice none 0 0, .slice none 0 0, .slice none 0 0] 24)
  have Z2 := Bk.new (w.alloc (.cells #[.slice A n a, .slice B m b, .slice D k d] 24)) 24 #[.slice none 0 0, .slice none 0 0, .slice none 0 0]
  rw [size_alloc] at Z2
  have HP2 := Lib.hid (hp.below hb2)
  have HB2 := Lib.hid hb2
  have c0 := K2.e0
  have c1 := K2.e1
  have c2 := K2.e2
  have HP0 := Lib.hid hp
  have HLX := Lib.hid hp.x.1
  have HLH := Lib.hid hp.h.1
  have HLT := Lib.hid hp.t.1
  clear hp hb2
  have h01 : 0 ≤ list ∧ list < (m : Int) := by simpa [inBd] using hin
  obtain ⟨h0, h1⟩ := h01
  have hwb : (whereQ qs x != -1) = true := by simp; omega
  go_enter Try.func12, Try.ntmps12
  go_wp2_with (go_at_call 25; refine (whereF_ok A B D n a m b k d next head tail x qs r hin2 ((w.alloc (.cells #[.slice A n a, .slice B m b, .slice D k d] 24)).alloc (.cells #[.slice none 0 0, .slice none 0 0, .slice none 0 0] 24)) HP2.out).mono ?_; rintro e w3 ⟨rfl, hb3⟩; have HB3 := Lib.hid (below3 HB2.out hb3); have K3 := K2.below hb3 K2.lt; have k0 := K3.e0; have k1 := K3.e1; have k2 := K3.e2; have Z3 := Z2.below hb3 Z2.lt; have z0 := Z3.e0; have z1 := Z3.e1; have z2 := Z3.e2; have f0 := Z3.frozen 0; have f1 := Z3.frozen 1; have f2 := Z3.frozen 2; have HP3 := Lib.hid (HP2.out.below hb3); have HS3 := Lib.hid hb3.size; clear hb3)
  exact bodyPost_ret (v := .tuple #[.agg #[.slice none 0 0, .slice none 0 0, .slice none 0 0], .int .i64 6]) (by simp [results, Try.results12, go_sem, *]) rfl ⟨none, 0, none, 0, none, 0, rfl, ownk_nil _ _, (((HB3.out.setCell (p := ⟨w.heap.size + 1, 0, none⟩) (by simp) (.slice none 0 0)).setCell (p := ⟨w.heap.size + 1, 1, none⟩) (by simp) (.slice none 0 0)).setCell (p := ⟨w.heap.size + 1, 2, none⟩) (by simp) (.slice none 0 0))⟩

end Go.Proofs.Ytiheeehegjfmgaa
