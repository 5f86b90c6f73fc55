/-
  The contracts of List (layer 7): the document's, and the program's.
-/
import Derived.Test.YtfmiamjbhlglbaaSc
import Derived.Test.YtfmiamjbhlglbaaIB
namespace Go.Proofs.Ytfmiamjbhlglbaa
open Go.RowKit

/-- May a deque's numbers be told? -/
def LstOk (ms : List Int) (base cap : Nat) : Prop := cntOk (nth ms base) 0 ∧ cntOk (nth ms (base + 1)) 0 ∧ nth ms base ≤ nth ms (base + 1) ∧ nth ms (base + 1) - nth ms base ≤ cap
instance (ms : List Int) (base cap : Nat) : Decidable (LstOk ms base cap) := by unfold LstOk; exact inferInstance
/-- k numbers from t on. -/
def lstP (ms : List Int) (base cap : Nat) (t : Int) (k : Nat) : List Int := (List.range k).map fun i => nth ms (slI base cap (t + (i : Nat)))
theorem lstP_len (ms : List Int) (base cap : Nat) (t : Int) (k : Nat) : (lstP ms base cap t k).length = k := by simp [lstP]
theorem lstP_more (ms : List Int) (base cap : Nat) (t : Int) (k : Nat) : lstP ms base cap t (k + 1) = lstP ms base cap t k ++ [nth ms (slI base cap (t + (k : Nat)))] := by simp [lstP, List.range_succ]
/-- What List comes to. -/
def listF (ms : List Int) (base cap : Int) : Int × List Int :=
  if MayQ ms.length base cap then
    if LstOk ms base.toNat cap.toNat then (0, lstP ms base.toNat cap.toNat (nth ms base.toNat) (nth ms (base.toNat + 1) - nth ms base.toNat).toNat) else (9, [])
  else (1, [])
def ListOf (r : Int × List Int) (w : World) (e : Ending) (w' : World) : Prop :=
  ∃ A c, e = .returned (.tuple #[.slice A r.2.length c, .int .i64 r.1]) ∧ OwnI 2 w' w.heap.size A c r.2 ∧ Below w.heap.size w w'

theorem rcount_is (n least : Int) (w : World) : Calls Try.prog 31 #[.int .i64 n, .int .i64 least] w fun e w' => e = .returned (.bool (decide (cntOk n least))) ∧ w = w' := by
  by_cases h1 : least ≤ n
  · by_cases h2 : n ≤ 1099511627776
    · have h : decide (cntOk n least) = true := decide_eq_true ⟨h1, h2⟩
      rw [h]
      go_enter Try.func31, Try.ntmps31
      go_wp2
      go_ret
      exact ⟨by simp, rfl⟩
    · have h : decide (cntOk n least) = false := decide_eq_false (fun q => h2 q.2)
      rw [h]
      go_enter Try.func31, Try.ntmps31
      go_wp2
      go_ret
      exact ⟨by simp, rfl⟩
  · have h : decide (cntOk n least) = false := decide_eq_false (fun q => h1 q.1)
    rw [h]
    go_enter Try.func31, Try.ntmps31
    go_wp2
    go_ret
    exact ⟨by simp, rfl⟩

theorem grown_cell {w w' : World} {row : Option Nat} (h : w.grownBy w' row) {p : Addr} (hp : p.block < w.heap.size) (hne : some p.block ≠ row) : w'.cell? p = w.cell? p := by
  simp only [World.cell?, h.block p.block hp hne]

/-- What stays true while List's numbers are put one behind the other. -/
structure LsI (W : World) (w1 : World) (s : Nat) (bn cn : Nat) (ms : List Int) (t : Int) (k : Nat) (A : Option Addr) (c : Nat) : Prop where
  own : OwnI 2 W w1.heap.size A c (lstP ms bn cn t k)
  bl : Below w1.heap.size w1 W

theorem rlist_bad (A : Option Addr) (n c : Nat) (base cap : Int) (w : World) (hn : n ≤ 9223372036854775807) (fb : Fit base) (fc : Fit cap) (hq : ¬ MayQ n base cap) :
    Calls Try.prog 16 #[.slice A n c, .agg #[.int .i64 base, .int .i64 cap]] w (ListOf (1, []) w) := by
  have B0 := Lib.hid ((Below.refl w.heap.size w).alloc (Nat.le_refl _) (.cells #[.int .i64 base, .int .i64 cap] 25))
  have k0 := Bk.new w 25 #[.int .i64 base, .int .i64 cap]
  have c0 : _ = some (Value.int .i64 base) := k0.cell 0
  have c1 : _ = some (Value.int .i64 cap) := k0.cell 1
  have HN := Lib.hid hn
  have FB := Lib.hid fb
  have FC := Lib.hid fc
  clear k0 hn fb fc
  go_enter Try.func16, Try.ntmps16
  go_wp2_with fail
  refine (rcheckq_any A n c base cap _ HN.out).mono ?_
  rw [if_neg hq]
  rintro e w1 ⟨rfl, b1⟩
  have B1 := Lib.hid (below3 B0.out b1)
  clear b1 c0 c1
  go_wp2
  go_ret2
  exact ⟨none, 0, rfl, OwnI.nil_ _ _ _, B1.out⟩

set_option maxHeartbeats 1000000 in
theorem rlist_0 (A : Option Addr) (c : Nat) (bn cn : Nat) (ms : List Int) (w : World) (hx : Ints w A ms.length ms) (hq : MayQ ms.length bn cn) (t b : Int) (ht : nth ms bn = t) (hb : nth ms (bn + 1) = b) (g0 : decide (cntOk t 0) = false) :
    Calls Try.prog 16 #[.slice A ms.length c, .agg #[.int .i64 bn, .int .i64 cn]] w (ListOf (9, []) w) := by
  have B0 := Lib.hid ((Below.refl w.heap.size w).alloc (Nat.le_refl _) (.cells #[.int .i64 bn, .int .i64 cn] 25))
  have k0 := Lib.hid (Bk.new w 25 #[.int .i64 bn, .int .i64 cn])
  have c0 : _ = some (Value.int .i64 bn) := k0.out.cell 0
  have c1 : _ = some (Value.int .i64 cn) := k0.out.cell 1
  have hbig := hq.1
  have hlen : bn + 2 + cn ≤ ms.length := by have := hq.2.2.2.2.2; omega
  have h1 : 1 ≤ cn := by have := hq.2.1; omega
  have h2 : cn ≤ 1024 := by have := hq.2.2.1; omega
  have HN : Hid (ms.length ≤ 9223372036854775807) := Lib.hid (by omega)
  have FB := Lib.hid (⟨by omega, by omega⟩ : Fit (bn : Int))
  have FC := Lib.hid (⟨by omega, by omega⟩ : Fit (cn : Int))
  have HX := Lib.hid hx
  obtain ⟨bA, oA, rfl, hbA, hcA⟩ := hx.2.2.2 (by omega)
  have HA := Lib.hid hcA
  have HT := Lib.hid ht
  have HB := Lib.hid hb
  have hi0 : bn < ms.length := by omega
  have hi1 : bn + 1 < ms.length := by omega
  clear hx hcA ht hb
  go_enter Try.func16, Try.ntmps16
  go_wp2_with fail
  refine (rcheckq_any _ ms.length c bn cn _ HN.out).mono ?_
  rw [if_pos hq]
  rintro e w1 ⟨rfl, b1⟩
  have B1 := Lib.hid (below3 B0.out b1)
  have k1 := Lib.hid (k0.out.below b1 k0.out.lt)
  have X1 := Lib.hid (HX.out.below B1.out)
  have lq := k1.out.lt
  have lA : bA < w1.heap.size := Nat.lt_of_lt_of_le hbA B1.out.size
  clear b1 c0 c1
  have c0 : _ = some (Value.int .i64 bn) := k1.out.cell 0
  have c1 : _ = some (Value.int .i64 cn) := k1.out.cell 1
  have m0 : w1.cell? ⟨bA, oA + bn, none⟩ = some (.int .i64 t) := by rw [B1.out.cell (p := ⟨bA, oA + bn, none⟩) hbA, HA.out bn hi0, HT.out]
  have m1 : w1.cell? ⟨bA, oA + (bn + 1), none⟩ = some (.int .i64 b) := by rw [B1.out.cell (p := ⟨bA, oA + (bn + 1), none⟩) hbA, HA.out (bn + 1) hi1, HB.out]
  go_wp2_with (go_at_call 31; refine (rcount_is _ _ _).mono ?_; rintro e w2 ⟨rfl, rfl⟩)
  go_ret2
  exact ⟨none, 0, rfl, OwnI.nil_ _ _ _, B1.out⟩

set_option maxHeartbeats 1000000 in
theorem rlist_1 (A : Option Addr) (c : Nat) (bn cn : Nat) (ms : List Int) (w : World) (hx : Ints w A ms.length ms) (hq : MayQ ms.length bn cn) (t b : Int) (ht : nth ms bn = t) (hb : nth ms (bn + 1) = b) (g0 : decide (cntOk t 0) = true) (g1 : decide (cntOk b 0) = false) :
    Calls Try.prog 16 #[.slice A ms.length c, .agg #[.int .i64 bn, .int .i64 cn]] w (ListOf (9, []) w) := by
  have B0 := Lib.hid ((Below.refl w.heap.size w).alloc (Nat.le_refl _) (.cells #[.int .i64 bn, .int .i64 cn] 25))
  have k0 := Lib.hid (Bk.new w 25 #[.int .i64 bn, .int .i64 cn])
  have c0 : _ = some (Value.int .i64 bn) := k0.out.cell 0
  have c1 : _ = some (Value.int .i64 cn) := k0.out.cell 1
  have hbig := hq.1
  have hlen : bn + 2 + cn ≤ ms.length := by have := hq.2.2.2.2.2; omega
  have h1 : 1 ≤ cn := by have := hq.2.1; omega
  have h2 : cn ≤ 1024 := by have := hq.2.2.1; omega
  have HN : Hid (ms.length ≤ 9223372036854775807) := Lib.hid (by omega)
  have FB := Lib.hid (⟨by omega, by omega⟩ : Fit (bn : Int))
  have FC := Lib.hid (⟨by omega, by omega⟩ : Fit (cn : Int))
  have HX := Lib.hid hx
  obtain ⟨bA, oA, rfl, hbA, hcA⟩ := hx.2.2.2 (by omega)
  have HA := Lib.hid hcA
  have HT := Lib.hid ht
  have HB := Lib.hid hb
  have hi0 : bn < ms.length := by omega
  have hi1 : bn + 1 < ms.length := by omega
  clear hx hcA ht hb
  go_enter Try.func16, Try.ntmps16
  go_wp2_with fail
  refine (rcheckq_any _ ms.length c bn cn _ HN.out).mono ?_
  rw [if_pos hq]
  rintro e w1 ⟨rfl, b1⟩
  have B1 := Lib.hid (below3 B0.out b1)
  have k1 := Lib.hid (k0.out.below b1 k0.out.lt)
  have X1 := Lib.hid (HX.out.below B1.out)
  have lq := k1.out.lt
  have lA : bA < w1.heap.size := Nat.lt_of_lt_of_le hbA B1.out.size
  clear b1 c0 c1
  have c0 : _ = some (Value.int .i64 bn) := k1.out.cell 0
  have c1 : _ = some (Value.int .i64 cn) := k1.out.cell 1
  have m0 : w1.cell? ⟨bA, oA + bn, none⟩ = some (.int .i64 t) := by rw [B1.out.cell (p := ⟨bA, oA + bn, none⟩) hbA, HA.out bn hi0, HT.out]
  have m1 : w1.cell? ⟨bA, oA + (bn + 1), none⟩ = some (.int .i64 b) := by rw [B1.out.cell (p := ⟨bA, oA + (bn + 1), none⟩) hbA, HA.out (bn + 1) hi1, HB.out]
  go_wp2_with (go_at_call 31; refine (rcount_is _ _ _).mono ?_; rintro e w2 ⟨rfl, rfl⟩)
  go_ret2
  exact ⟨none, 0, rfl, OwnI.nil_ _ _ _, B1.out⟩

set_option maxHeartbeats 1000000 in
theorem rlist_2 (A : Option Addr) (c : Nat) (bn cn : Nat) (ms : List Int) (w : World) (hx : Ints w A ms.length ms) (hq : MayQ ms.length bn cn) (t b : Int) (ht : nth ms bn = t) (hb : nth ms (bn + 1) = b) (g0 : decide (cntOk t 0) = true) (g1 : decide (cntOk b 0) = true) (g2 : b < t) (ct : 0 ≤ t ∧ t ≤ 1099511627776) (cb : 0 ≤ b ∧ b ≤ 1099511627776) :
    Calls Try.prog 16 #[.slice A ms.length c, .agg #[.int .i64 bn, .int .i64 cn]] w (ListOf (9, []) w) := by
  have B0 := Lib.hid ((Below.refl w.heap.size w).alloc (Nat.le_refl _) (.cells #[.int .i64 bn, .int .i64 cn] 25))
  have k0 := Lib.hid (Bk.new w 25 #[.int .i64 bn, .int .i64 cn])
  have c0 : _ = some (Value.int .i64 bn) := k0.out.cell 0
  have c1 : _ = some (Value.int .i64 cn) := k0.out.cell 1
  have hbig := hq.1
  have hlen : bn + 2 + cn ≤ ms.length := by have := hq.2.2.2.2.2; omega
  have h1 : 1 ≤ cn := by have := hq.2.1; omega
  have h2 : cn ≤ 1024 := by have := hq.2.2.1; omega
  have HN : Hid (ms.length ≤ 9223372036854775807) := Lib.hid (by omega)
  have FB := Lib.hid (⟨by omega, by omega⟩ : Fit (bn : Int))
  have FC := Lib.hid (⟨by omega, by omega⟩ : Fit (cn : Int))
  have HX := Lib.hid hx
  obtain ⟨bA, oA, rfl, hbA, hcA⟩ := hx.2.2.2 (by omega)
  have HA := Lib.hid hcA
  have HT := Lib.hid ht
  have HB := Lib.hid hb
  have hi0 : bn < ms.length := by omega
  have hi1 : bn + 1 < ms.length := by omega
  clear hx hcA ht hb
  go_enter Try.func16, Try.ntmps16
  go_wp2_with fail
  refine (rcheckq_any _ ms.length c bn cn _ HN.out).mono ?_
  rw [if_pos hq]
  rintro e w1 ⟨rfl, b1⟩
  have B1 := Lib.hid (below3 B0.out b1)
  have k1 := Lib.hid (k0.out.below b1 k0.out.lt)
  have X1 := Lib.hid (HX.out.below B1.out)
  have lq := k1.out.lt
  have lA : bA < w1.heap.size := Nat.lt_of_lt_of_le hbA B1.out.size
  clear b1 c0 c1
  have c0 : _ = some (Value.int .i64 bn) := k1.out.cell 0
  have c1 : _ = some (Value.int .i64 cn) := k1.out.cell 1
  have m0 : w1.cell? ⟨bA, oA + bn, none⟩ = some (.int .i64 t) := by rw [B1.out.cell (p := ⟨bA, oA + bn, none⟩) hbA, HA.out bn hi0, HT.out]
  have m1 : w1.cell? ⟨bA, oA + (bn + 1), none⟩ = some (.int .i64 b) := by rw [B1.out.cell (p := ⟨bA, oA + (bn + 1), none⟩) hbA, HA.out (bn + 1) hi1, HB.out]
  obtain ⟨ct1, ct2⟩ := ct
  obtain ⟨cb1, cb2⟩ := cb
  go_wp2_with (go_at_call 31; refine (rcount_is _ _ _).mono ?_; rintro e w2 ⟨rfl, rfl⟩)
  go_ret2
  exact ⟨none, 0, rfl, OwnI.nil_ _ _ _, B1.out⟩

set_option maxHeartbeats 1000000 in
theorem rlist_3 (A : Option Addr) (c : Nat) (bn cn : Nat) (ms : List Int) (w : World) (hx : Ints w A ms.length ms) (hq : MayQ ms.length bn cn) (t b : Int) (ht : nth ms bn = t) (hb : nth ms (bn + 1) = b) (g0 : decide (cntOk t 0) = true) (g1 : decide (cntOk b 0) = true) (g2 : ¬ b < t) (g3 : (cn : Int) < b - t) (ct : 0 ≤ t ∧ t ≤ 1099511627776) (cb : 0 ≤ b ∧ b ≤ 1099511627776) :
    Calls Try.prog 16 #[.slice A ms.length c, .agg #[.int .i64 bn, .int .i64 cn]] w (ListOf (9, []) w) := by
  have B0 := Lib.hid ((Below.refl w.heap.size w).alloc (Nat.le_refl _) (.cells #[.int .i64 bn, .int .i64 cn] 25))
  have k0 := Lib.hid (Bk.new w 25 #[.int .i64 bn, .int .i64 cn])
  have c0 : _ = some (Value.int .i64 bn) := k0.out.cell 0
  have c1 : _ = some (Value.int .i64 cn) := k0.out.cell 1
  have hbig := hq.1
  have hlen : bn + 2 + cn ≤ ms.length := by have := hq.2.2.2.2.2; omega
  have h1 : 1 ≤ cn := by have := hq.2.1; omega
  have h2 : cn ≤ 1024 := by have := hq.2.2.1; omega
  have HN : Hid (ms.length ≤ 9223372036854775807) := Lib.hid (by omega)
  have FB := Lib.hid (⟨by omega, by omega⟩ : Fit (bn : Int))
  have FC := Lib.hid (⟨by omega, by omega⟩ : Fit (cn : Int))
  have HX := Lib.hid hx
  obtain ⟨bA, oA, rfl, hbA, hcA⟩ := hx.2.2.2 (by omega)
  have HA := Lib.hid hcA
  have HT := Lib.hid ht
  have HB := Lib.hid hb
  have hi0 : bn < ms.length := by omega
  have hi1 : bn + 1 < ms.length := by omega
  clear hx hcA ht hb
  go_enter Try.func16, Try.ntmps16
  go_wp2_with fail
  refine (rcheckq_any _ ms.length c bn cn _ HN.out).mono ?_
  rw [if_pos hq]
  rintro e w1 ⟨rfl, b1⟩
  have B1 := Lib.hid (below3 B0.out b1)
  have k1 := Lib.hid (k0.out.below b1 k0.out.lt)
  have X1 := Lib.hid (HX.out.below B1.out)
  have lq := k1.out.lt
  have lA : bA < w1.heap.size := Nat.lt_of_lt_of_le hbA B1.out.size
  clear b1 c0 c1
  have c0 : _ = some (Value.int .i64 bn) := k1.out.cell 0
  have c1 : _ = some (Value.int .i64 cn) := k1.out.cell 1
  have m0 : w1.cell? ⟨bA, oA + bn, none⟩ = some (.int .i64 t) := by rw [B1.out.cell (p := ⟨bA, oA + bn, none⟩) hbA, HA.out bn hi0, HT.out]
  have m1 : w1.cell? ⟨bA, oA + (bn + 1), none⟩ = some (.int .i64 b) := by rw [B1.out.cell (p := ⟨bA, oA + (bn + 1), none⟩) hbA, HA.out (bn + 1) hi1, HB.out]
  obtain ⟨ct1, ct2⟩ := ct
  obtain ⟨cb1, cb2⟩ := cb
  have hle : t ≤ b := by omega
  go_wp2_with (go_at_call 31; refine (rcount_is _ _ _).mono ?_; rintro e w2 ⟨rfl, rfl⟩)
  go_ret2
  exact ⟨none, 0, rfl, OwnI.nil_ _ _ _, B1.out⟩

set_option maxHeartbeats 1000000 in
theorem rlist_4 (A : Option Addr) (c : Nat) (bn cn : Nat) (ms : List Int) (w : World) (hx : Ints w A ms.length ms) (hq : MayQ ms.length bn cn) (t b : Int) (ht : nth ms bn = t) (hb : nth ms (bn + 1) = b) (g0 : decide (cntOk t 0) = true) (g1 : decide (cntOk b 0) = true) (g2 : ¬ b < t) (g3 : ¬ (cn : Int) < b - t) (ct : 0 ≤ t ∧ t ≤ 1099511627776) (cb : 0 ≤ b ∧ b ≤ 1099511627776) :
    Calls Try.prog 16 #[.slice A ms.length c, .agg #[.int .i64 bn, .int .i64 cn]] w (ListOf (0, lstP ms bn cn t (b - t).toNat) w) := by
  have B0 := Lib.hid ((Below.refl w.heap.size w).alloc (Nat.le_refl _) (.cells #[.int .i64 bn, .int .i64 cn] 25))
  have k0 := Lib.hid (Bk.new w 25 #[.int .i64 bn, .int .i64 cn])
  have c0 : _ = some (Value.int .i64 bn) := k0.out.cell 0
  have c1 : _ = some (Value.int .i64 cn) := k0.out.cell 1
  have hbig := hq.1
  have hlen : bn + 2 + cn ≤ ms.length := by have := hq.2.2.2.2.2; omega
  have h1 : 1 ≤ cn := by have := hq.2.1; omega
  have h2 : cn ≤ 1024 := by have := hq.2.2.1; omega
  have HN : Hid (ms.length ≤ 9223372036854775807) := Lib.hid (by omega)
  have FB := Lib.hid (⟨by omega, by omega⟩ : Fit (bn : Int))
  have FC := Lib.hid (⟨by omega, by omega⟩ : Fit (cn : Int))
  have HX := Lib.hid hx
  obtain ⟨bA, oA, rfl, hbA, hcA⟩ := hx.2.2.2 (by omega)
  have HA := Lib.hid hcA
  have HT := Lib.hid ht
  have HB := Lib.hid hb
  have hi0 : bn < ms.length := by omega
  have hi1 : bn + 1 < ms.length := by omega
  clear hx hcA ht hb
  go_enter Try.func16, Try.ntmps16
  go_wp2_with fail
  refine (rcheckq_any _ ms.length c bn cn _ HN.out).mono ?_
  rw [if_pos hq]
  rintro e w1 ⟨rfl, b1⟩
  have B1 := Lib.hid (below3 B0.out b1)
  have k1 := Lib.hid (k0.out.below b1 k0.out.lt)
  have X1 := Lib.hid (HX.out.below B1.out)
  have lq := k1.out.lt
  have lA : bA < w1.heap.size := Nat.lt_of_lt_of_le hbA B1.out.size
  clear b1 c0 c1
  have c0 : _ = some (Value.int .i64 bn) := k1.out.cell 0
  have c1 : _ = some (Value.int .i64 cn) := k1.out.cell 1
  have m0 : w1.cell? ⟨bA, oA + bn, none⟩ = some (.int .i64 t) := by rw [B1.out.cell (p := ⟨bA, oA + bn, none⟩) hbA, HA.out bn hi0, HT.out]
  have m1 : w1.cell? ⟨bA, oA + (bn + 1), none⟩ = some (.int .i64 b) := by rw [B1.out.cell (p := ⟨bA, oA + (bn + 1), none⟩) hbA, HA.out (bn + 1) hi1, HB.out]
  obtain ⟨ct1, ct2⟩ := ct
  obtain ⟨cb1, cb2⟩ := cb
  have hle : t ≤ b := by omega
  go_wp2_with (go_at_call 31; refine (rcount_is _ _ _).mono ?_; rintro e w2 ⟨rfl, rfl⟩)
  have hcn : b - t ≤ cn := by omega
  have X2 : Hid (Ints w1 (some ⟨bA, oA, none⟩) ms.length ms) := X1
  have K2 : Hid (Bk w1 w.heap.size 25 #[.int .i64 bn, .int .i64 cn]) := k1
  have B2 : Hid (Below w.heap.size w w1) := B1
  have lA2 : bA < w1.heap.size := lA
  have lq2 : w.heap.size < w1.heap.size := lq
  have I0 := Lib.hid (⟨OwnI.nil_ _ _ _, Below.refl _ _⟩ : LsI w1 w1 w.heap.size bn cn ms t 0 none 0)
  clear X1 k1 B1 lA lq m0 m1 c0 c1
  generalize w1 = V1 at I0 X2 K2 B2 lA2 lq2 ⊢
  go_loopw [8, 9] (fun l n wr => ∃ (k : Nat) (A' : Option Addr) (c' : Nat), (k : Int) ≤ b - t ∧ n = .int .i64 (t + k) ∧ l = .slice A' k c' ∧ Hid (LsI wr V1 w.heap.size bn cn ms t k A' c')) (fun l n _ => (b - intOf n).toNat)
  case atStart => exact ⟨0, none, 0, by omega, by go_num, rfl, I0⟩
  case round =>
    obtain ⟨k, A', c', hk, rfl, rfl, IJ⟩ := hrel
    by_cases hlt : t + k < b
    · obtain ⟨y, hy⟩ : ∃ y, nth ms (slI bn cn (t + (k : Nat))) = y := ⟨_, rfl⟩
      have FY := Lib.hid (hy ▸ fit_cell HX.out.2.2.1 _ : Fit y)
      have HL := lstP_more ms bn cn t k
      rw [hy] at HL
      have HL := Lib.hid HL
      have h0 : 0 ≤ t + (k : Int) := by omega
      have hs1 := slR_lt h1 h0
      have hsa := slR_add bn cn (t + (k : Int))
      rw [← hsa] at hy
      obtain ⟨q, hq2⟩ : ∃ q, slR cn (t + (k : Int)) = q := ⟨_, rfl⟩
      rw [hq2] at hs1 hsa hy
      have hql : bn + q < ms.length := by omega
      have HY := Lib.hid hy
      have HQ := Lib.hid hq2
      have HSA := Lib.hid hsa
      have hbl := IJ.out.bl
      have kq := K2.out.below hbl K2.out.lt
      have c0 : _ = some (Value.int .i64 bn) := kq.cell 0
      have c1 : _ = some (Value.int .i64 cn) := kq.cell 1
      have l0 := kq.lt
      have hcell : wr.cell? ⟨bA, oA + (bn + q), none⟩ = some (.int .i64 y) := by
        obtain ⟨b', o', e, hb', hc'⟩ := X2.out.2.2.2 (by omega)
        injection e with e
        injection e with e1 e2 _
        subst e1 e2
        rw [hbl.cell (p := ⟨bA, oA + (bn + q), none⟩) lA2, hc' _ hql, HY.out]
      have lAr : bA < wr.heap.size := Nat.lt_of_lt_of_le lA2 hbl.size
      have hsz : V1.heap.size ≤ wr.heap.size := hbl.size
      have hkc : k + 1 ≤ 1024 := by omega
      have hkn : ((k + 1 : Nat) : Int) ≤ b - t := by omega
      clear hy hq2 hsa hbl
      clear kq
      go_wp2_with fail
      refine (slot_any bn cn (t + k) _ (by omega) h1 h2 h0).mono ?_
      rw [← HSA.out]
      rintro e w2 ⟨rfl, b2⟩
      have O2 := Lib.hid (IJ.out.own.below b2)
      have hc2 : w2.cell? ⟨bA, oA + (bn + q), none⟩ = some (.int .i64 y) := by rw [b2.cell (p := ⟨bA, oA + (bn + q), none⟩) lAr]; exact hcell
      have hs2 : V1.heap.size ≤ w2.heap.size := Nat.le_trans hsz b2.size
      have BX := Lib.hid (below3 IJ.out.bl b2)
      clear b2 c0 c1 l0 hcell hsz
      go_wp2_with (at_builtin; refine wpList_append_ints _ rfl _ _ 22 rfl 2 Try.underlying22 infoI V1.heap.size A' c' (lstP ms bn cn t k) k (lstP_len ..).symm rfl (O2.out.below ((Below.refl _ _).alloc (Nat.le_refl _) _)) (some ⟨w2.heap.size, 0, none⟩) 1 1 [y] rfl (ints1 w2 2 FY.out) (by rw [lstP_len]; omega) (by simp; omega) ?_; intro A2 c2 w3 ho hg; have HO := Lib.hid ho; have BW := Lib.hid ((BX.out.alloc hs2 (.cells #[.int .i64 y] 2)).grown hg (by simp; omega) (fun j hj => O2.out.block j hj)); clear ho hg)
      go_roundw
      case rel =>
        refine ⟨k + 1, A2, c2, hkn, by go_num, ?_, ?_⟩
        · simp [lstP_len]
        · refine Lib.hid ⟨?_, BW.out⟩
          rw [HL.out]
          exact HO.out
      case measure => simp [intOf]; omega
    · obtain rfl : k = (b - t).toNat := by omega
      go_wp2
      go_ret2
      exact ⟨A', c', by rw [lstP_len]; rfl, IJ.out.own.base B2.out.size, below3 B2.out IJ.out.bl⟩

theorem list_bad (A : Option Addr) (n c : Nat) (base cap : Int) (w : World) (hn : n ≤ 9223372036854775807) (fb : Fit base) (fc : Fit cap) (hq : ¬ MayQ n base cap) :
    Calls Try.prog 15 #[.slice A n c, .agg #[.int .i64 base, .int .i64 cap]] w (ListOf (1, []) w) := by
  have B0 := Lib.hid ((Below.refl w.heap.size w).alloc (Nat.le_refl _) (.cells #[.int .i64 base, .int .i64 cap] 25))
  have k0 := Bk.new w 25 #[.int .i64 base, .int .i64 cap]
  have c0 : _ = some (Value.int .i64 base) := k0.cell 0
  have c1 : _ = some (Value.int .i64 cap) := k0.cell 1
  have HN := Lib.hid hn
  have FB := Lib.hid fb
  have FC := Lib.hid fc
  clear k0 hn fb fc
  go_enter Try.func15, Try.ntmps15
  go_wp2_with fail
  refine (checkq_any A n c base cap _ HN.out FB.out FC.out).mono ?_
  rw [if_neg hq]
  rintro e w1 ⟨rfl, b1⟩
  have B1 := Lib.hid (below3 B0.out b1)
  clear b1 c0 c1
  go_wp2
  go_ret2
  exact ⟨none, 0, rfl, OwnI.nil_ _ _ _, B1.out⟩

set_option maxHeartbeats 1000000 in
theorem list_0 (A : Option Addr) (c : Nat) (bn cn : Nat) (ms : List Int) (w : World) (hx : Ints w A ms.length ms) (hq : MayQ ms.length bn cn) (t b : Int) (ht : nth ms bn = t) (hb : nth ms (bn + 1) = b) (g0 : decide (cntOk t 0) = false) :
    Calls Try.prog 15 #[.slice A ms.length c, .agg #[.int .i64 bn, .int .i64 cn]] w (ListOf (9, []) w) := by
  have B0 := Lib.hid ((Below.refl w.heap.size w).alloc (Nat.le_refl _) (.cells #[.int .i64 bn, .int .i64 cn] 25))
  have k0 := Lib.hid (Bk.new w 25 #[.int .i64 bn, .int .i64 cn])
  have c0 : _ = some (Value.int .i64 bn) := k0.out.cell 0
  have c1 : _ = some (Value.int .i64 cn) := k0.out.cell 1
  have hbig := hq.1
  have hlen : bn + 2 + cn ≤ ms.length := by have := hq.2.2.2.2.2; omega
  have h1 : 1 ≤ cn := by have := hq.2.1; omega
  have h2 : cn ≤ 1024 := by have := hq.2.2.1; omega
  have HN : Hid (ms.length ≤ 9223372036854775807) := Lib.hid (by omega)
  have FB := Lib.hid (⟨by omega, by omega⟩ : Fit (bn : Int))
  have FC := Lib.hid (⟨by omega, by omega⟩ : Fit (cn : Int))
  have HX := Lib.hid hx
  obtain ⟨bA, oA, rfl, hbA, hcA⟩ := hx.2.2.2 (by omega)
  have HA := Lib.hid hcA
  have HT := Lib.hid ht
  have HB := Lib.hid hb
  have hi0 : bn < ms.length := by omega
  have hi1 : bn + 1 < ms.length := by omega
  clear hx hcA ht hb
  go_enter Try.func15, Try.ntmps15
  go_wp2_with fail
  refine (checkq_any _ ms.length c bn cn _ HN.out FB.out FC.out).mono ?_
  rw [if_pos hq]
  rintro e w1 ⟨rfl, b1⟩
  have B1 := Lib.hid (below3 B0.out b1)
  have k1 := Lib.hid (k0.out.below b1 k0.out.lt)
  have X1 := Lib.hid (HX.out.below B1.out)
  have lq := k1.out.lt
  have lA : bA < w1.heap.size := Nat.lt_of_lt_of_le hbA B1.out.size
  clear b1 c0 c1
  have c0 : _ = some (Value.int .i64 bn) := k1.out.cell 0
  have c1 : _ = some (Value.int .i64 cn) := k1.out.cell 1
  have m0 : w1.cell? ⟨bA, oA + bn, none⟩ = some (.int .i64 t) := by rw [B1.out.cell (p := ⟨bA, oA + bn, none⟩) hbA, HA.out bn hi0, HT.out]
  have m1 : w1.cell? ⟨bA, oA + (bn + 1), none⟩ = some (.int .i64 b) := by rw [B1.out.cell (p := ⟨bA, oA + (bn + 1), none⟩) hbA, HA.out (bn + 1) hi1, HB.out]
  go_wp2
  refine wp_region_held (S := fun U => U = w1.drew) (by kernel_rfl) ?_
  change wpAnyH _ _ _ _ _ _ _ _ (World.drew _)
  have hS0 : w1.drew = w1.drew := rfl
  refine take_at (i := 0) (d := 17) (v := .slice (some ⟨bA, oA, none⟩) ms.length c) rfl rfl (by kernel_rfl) (by kernel_rfl) (by kernel_rfl) (fun _ _ _ h => h) (.inl ⟨by kernel_rfl, fun U hU => by go_simp⟩) hS0 ?_
  simp only [Act.put, List.setIfInBounds_toArray, List.set_cons_zero, List.set_cons_succ]
  refine take_at (i := 1) (d := 18) (v := .pointer (some ⟨w.heap.size, 0, none⟩)) rfl rfl (by kernel_rfl) (by kernel_rfl) (by kernel_rfl) (fun _ _ _ h => h) (.inl ⟨by kernel_rfl, fun U hU => by go_simp⟩) hS0 ?_
  simp only [Act.put, List.setIfInBounds_toArray, List.set_cons_zero, List.set_cons_succ]
  refine take_at (i := 2) (d := 19) (v := .int .i64 bn) rfl rfl (by kernel_rfl) (by kernel_rfl) (by kernel_rfl) (fun _ _ _ h => h) (.inl ⟨by kernel_rfl, fun U hU => by subst hU; have q0 : w1.drew.cell? ⟨w.heap.size, 0, none⟩ = some (Value.int .i64 bn) := c0; go_simp⟩) hS0 ?_
  simp only [Act.put, List.setIfInBounds_toArray, List.set_cons_zero, List.set_cons_succ]
  refine take_at (i := 3) (d := 20) (v := .int .i64 bn) rfl rfl (by kernel_rfl) (by kernel_rfl) (by kernel_rfl) (fun _ _ _ h => h) (.inl ⟨by kernel_rfl, fun U hU => by have h7 : IntKind.i64.wrap (bn : Int) = bn := (by rw [IntKind.wrap_i64]; omega); go_simp⟩) hS0 ?_
  simp only [Act.put, List.setIfInBounds_toArray, List.set_cons_zero, List.set_cons_succ]
  refine take_at (i := 4) (d := 21) (v := .pointer (some ⟨bA, oA + bn, none⟩)) rfl rfl (by kernel_rfl) (by kernel_rfl) (by kernel_rfl) (fun _ _ _ h => h) (.inl ⟨by kernel_rfl, fun U hU => by go_simp⟩) hS0 ?_
  simp only [Act.put, List.setIfInBounds_toArray, List.set_cons_zero, List.set_cons_succ]
  refine take_at (i := 5) (d := 22) (v := .int .i64 t) rfl rfl (by kernel_rfl) (by kernel_rfl) (by kernel_rfl) (fun _ _ _ h => h) (.inl ⟨by kernel_rfl, fun U hU => by subst hU; have q0 : w1.drew.cell? ⟨bA, oA + bn, none⟩ = some (Value.int .i64 t) := m0; go_simp⟩) hS0 ?_
  simp only [Act.put, List.setIfInBounds_toArray, List.set_cons_zero, List.set_cons_succ]
  refine take_at (i := 6) (d := 23) (v := .slice (some ⟨bA, oA, none⟩) ms.length c) rfl rfl (by kernel_rfl) (by kernel_rfl) (by kernel_rfl) (fun _ _ _ h => h) (.inl ⟨by kernel_rfl, fun U hU => by go_simp⟩) hS0 ?_
  simp only [Act.put, List.setIfInBounds_toArray, List.set_cons_zero, List.set_cons_succ]
  refine take_at (i := 7) (d := 24) (v := .pointer (some ⟨w.heap.size, 0, none⟩)) rfl rfl (by kernel_rfl) (by kernel_rfl) (by kernel_rfl) (fun _ _ _ h => h) (.inl ⟨by kernel_rfl, fun U hU => by go_simp⟩) hS0 ?_
  simp only [Act.put, List.setIfInBounds_toArray, List.set_cons_zero, List.set_cons_succ]
  refine take_at (i := 8) (d := 25) (v := .int .i64 bn) rfl rfl (by kernel_rfl) (by kernel_rfl) (by kernel_rfl) (fun _ _ _ h => h) (.inl ⟨by kernel_rfl, fun U hU => by subst hU; have q0 : w1.drew.cell? ⟨w.heap.size, 0, none⟩ = some (Value.int .i64 bn) := c0; go_simp⟩) hS0 ?_
  simp only [Act.put, List.setIfInBounds_toArray, List.set_cons_zero, List.set_cons_succ]
  refine take_at (i := 9) (d := 26) (v := .int .i64 ((bn : Int) + 1)) rfl rfl (by kernel_rfl) (by kernel_rfl) (by kernel_rfl) (fun _ _ _ h => h) (.inl ⟨by kernel_rfl, fun U hU => by have h7 : IntKind.i64.wrap ((bn : Int) + 1) = (bn : Int) + 1 := (by rw [IntKind.wrap_i64]; omega); go_simp⟩) hS0 ?_
  simp only [Act.put, List.setIfInBounds_toArray, List.set_cons_zero, List.set_cons_succ]
  refine take_at (i := 10) (d := 27) (v := .pointer (some ⟨bA, oA + (bn + 1), none⟩)) rfl rfl (by kernel_rfl) (by kernel_rfl) (by kernel_rfl) (fun _ _ _ h => h) (.inl ⟨by kernel_rfl, fun U hU => by have h7 : ¬ ((ms.length : Int) ≤ (bn : Int) + 1) := (by omega); have h8 : (0 : Int) ≤ (bn : Int) + 1 := (by omega); have h9 : ((bn : Int) + 1).toNat = bn + 1 := (by omega); go_simp⟩) hS0 ?_
  simp only [Act.put, List.setIfInBounds_toArray, List.set_cons_zero, List.set_cons_succ]
  refine take_at (i := 11) (d := 28) (v := .int .i64 b) rfl rfl (by kernel_rfl) (by kernel_rfl) (by kernel_rfl) (fun _ _ _ h => h) (.inl ⟨by kernel_rfl, fun U hU => by subst hU; have q0 : w1.drew.cell? ⟨bA, oA + (bn + 1), none⟩ = some (Value.int .i64 b) := m1; go_simp⟩) hS0 ?_
  simp only [Act.put, List.setIfInBounds_toArray, List.set_cons_zero, List.set_cons_succ]
  refine take_at (i := 12) (d := 7) (v := .int .i64 t) rfl rfl (by kernel_rfl) (by kernel_rfl) (by kernel_rfl) (fun _ _ _ h => h) (.inl ⟨by kernel_rfl, fun U hU => by go_simp⟩) hS0 ?_
  simp only [Act.put, List.setIfInBounds_toArray, List.set_cons_zero, List.set_cons_succ]
  refine take_at (i := 13) (d := 8) (v := .int .i64 b) rfl rfl (by kernel_rfl) (by kernel_rfl) (by kernel_rfl) (fun _ _ _ h => h) (.inl ⟨by kernel_rfl, fun U hU => by go_simp⟩) hS0 ?_
  simp only [Act.put, List.setIfInBounds_toArray, List.set_cons_zero, List.set_cons_succ]
  refine wpAnyH_done (by kernel_rfl) ?_ _
  replace c0 : w1.drew.cell? ⟨w.heap.size, 0, none⟩ = some (Value.int .i64 bn) := c0
  replace c1 : w1.drew.cell? ⟨w.heap.size, 1, none⟩ = some (Value.int .i64 cn) := c1
  go_wp2_with (go_at_call 29; refine (counts_is _ _ _).mono ?_; rintro e w2 ⟨rfl, rfl⟩)
  go_ret2
  exact ⟨none, 0, rfl, OwnI.nil_ _ _ _, B1.out.drew⟩

set_option maxHeartbeats 1000000 in
theorem list_1 (A : Option Addr) (c : Nat) (bn cn : Nat) (ms : List Int) (w : World) (hx : Ints w A ms.length ms) (hq : MayQ ms.length bn cn) (t b : Int) (ht : nth ms bn = t) (hb : nth ms (bn + 1) = b) (g0 : decide (cntOk t 0) = true) (g1 : decide (cntOk b 0) = false) :
    Calls Try.prog 15 #[.slice A ms.length c, .agg #[.int .i64 bn, .int .i64 cn]] w (ListOf (9, []) w) := by
  have B0 := Lib.hid ((Below.refl w.heap.size w).alloc (Nat.le_refl _) (.cells #[.int .i64 bn, .int .i64 cn] 25))
  have k0 := Lib.hid (Bk.new w 25 #[.int .i64 bn, .int .i64 cn])
  have c0 : _ = some (Value.int .i64 bn) := k0.out.cell 0
  have c1 : _ = some (Value.int .i64 cn) := k0.out.cell 1
  have hbig := hq.1
  have hlen : bn + 2 + cn ≤ ms.length := by have := hq.2.2.2.2.2; omega
  have h1 : 1 ≤ cn := by have := hq.2.1; omega
  have h2 : cn ≤ 1024 := by have := hq.2.2.1; omega
  have HN : Hid (ms.length ≤ 9223372036854775807) := Lib.hid (by omega)
  have FB := Lib.hid (⟨by omega, by omega⟩ : Fit (bn : Int))
  have FC := Lib.hid (⟨by omega, by omega⟩ : Fit (cn : Int))
  have HX := Lib.hid hx
  obtain ⟨bA, oA, rfl, hbA, hcA⟩ := hx.2.2.2 (by omega)
  have HA := Lib.hid hcA
  have HT := Lib.hid ht
  have HB := Lib.hid hb
  have hi0 : bn < ms.length := by omega
  have hi1 : bn + 1 < ms.length := by omega
  clear hx hcA ht hb
  go_enter Try.func15, Try.ntmps15
  go_wp2_with fail
  refine (checkq_any _ ms.length c bn cn _ HN.out FB.out FC.out).mono ?_
  rw [if_pos hq]
  rintro e w1 ⟨rfl, b1⟩
  have B1 := Lib.hid (below3 B0.out b1)
  have k1 := Lib.hid (k0.out.below b1 k0.out.lt)
  have X1 := Lib.hid (HX.out.below B1.out)
  have lq := k1.out.lt
  have lA : bA < w1.heap.size := Nat.lt_of_lt_of_le hbA B1.out.size
  clear b1 c0 c1
  have c0 : _ = some (Value.int .i64 bn) := k1.out.cell 0
  have c1 : _ = some (Value.int .i64 cn) := k1.out.cell 1
  have m0 : w1.cell? ⟨bA, oA + bn, none⟩ = some (.int .i64 t) := by rw [B1.out.cell (p := ⟨bA, oA + bn, none⟩) hbA, HA.out bn hi0, HT.out]
  have m1 : w1.cell? ⟨bA, oA + (bn + 1), none⟩ = some (.int .i64 b) := by rw [B1.out.cell (p := ⟨bA, oA + (bn + 1), none⟩) hbA, HA.out (bn + 1) hi1, HB.out]
  go_wp2
  refine wp_region_held (S := fun U => U = w1.drew) (by kernel_rfl) ?_
  change wpAnyH _ _ _ _ _ _ _ _ (World.drew _)
  have hS0 : w1.drew = w1.drew := rfl
  refine take_at (i := 0) (d := 17) (v := .slice (some ⟨bA, oA, none⟩) ms.length c) rfl rfl (by kernel_rfl) (by kernel_rfl) (by kernel_rfl) (fun _ _ _ h => h) (.inl ⟨by kernel_rfl, fun U hU => by go_simp⟩) hS0 ?_
  simp only [Act.put, List.setIfInBounds_toArray, List.set_cons_zero, List.set_cons_succ]
  refine take_at (i := 1) (d := 18) (v := .pointer (some ⟨w.heap.size, 0, none⟩)) rfl rfl (by kernel_rfl) (by kernel_rfl) (by kernel_rfl) (fun _ _ _ h => h) (.inl ⟨by kernel_rfl, fun U hU => by go_simp⟩) hS0 ?_
  simp only [Act.put, List.setIfInBounds_toArray, List.set_cons_zero, List.set_cons_succ]
  refine take_at (i := 2) (d := 19) (v := .int .i64 bn) rfl rfl (by kernel_rfl) (by kernel_rfl) (by kernel_rfl) (fun _ _ _ h => h) (.inl ⟨by kernel_rfl, fun U hU => by subst hU; have q0 : w1.drew.cell? ⟨w.heap.size, 0, none⟩ = some (Value.int .i64 bn) := c0; go_simp⟩) hS0 ?_
  simp only [Act.put, List.setIfInBounds_toArray, List.set_cons_zero, List.set_cons_succ]
  refine take_at (i := 3) (d := 20) (v := .int .i64 bn) rfl rfl (by kernel_rfl) (by kernel_rfl) (by kernel_rfl) (fun _ _ _ h => h) (.inl ⟨by kernel_rfl, fun U hU => by have h7 : IntKind.i64.wrap (bn : Int) = bn := (by rw [IntKind.wrap_i64]; omega); go_simp⟩) hS0 ?_
  simp only [Act.put, List.setIfInBounds_toArray, List.set_cons_zero, List.set_cons_succ]
  refine take_at (i := 4) (d := 21) (v := .pointer (some ⟨bA, oA + bn, none⟩)) rfl rfl (by kernel_rfl) (by kernel_rfl) (by kernel_rfl) (fun _ _ _ h => h) (.inl ⟨by kernel_rfl, fun U hU => by go_simp⟩) hS0 ?_
  simp only [Act.put, List.setIfInBounds_toArray, List.set_cons_zero, List.set_cons_succ]
  refine take_at (i := 5) (d := 22) (v := .int .i64 t) rfl rfl (by kernel_rfl) (by kernel_rfl) (by kernel_rfl) (fun _ _ _ h => h) (.inl ⟨by kernel_rfl, fun U hU => by subst hU; have q0 : w1.drew.cell? ⟨bA, oA + bn, none⟩ = some (Value.int .i64 t) := m0; go_simp⟩) hS0 ?_
  simp only [Act.put, List.setIfInBounds_toArray, List.set_cons_zero, List.set_cons_succ]
  refine take_at (i := 6) (d := 23) (v := .slice (some ⟨bA, oA, none⟩) ms.length c) rfl rfl (by kernel_rfl) (by kernel_rfl) (by kernel_rfl) (fun _ _ _ h => h) (.inl ⟨by kernel_rfl, fun U hU => by go_simp⟩) hS0 ?_
  simp only [Act.put, List.setIfInBounds_toArray, List.set_cons_zero, List.set_cons_succ]
  refine take_at (i := 7) (d := 24) (v := .pointer (some ⟨w.heap.size, 0, none⟩)) rfl rfl (by kernel_rfl) (by kernel_rfl) (by kernel_rfl) (fun _ _ _ h => h) (.inl ⟨by kernel_rfl, fun U hU => by go_simp⟩) hS0 ?_
  simp only [Act.put, List.setIfInBounds_toArray, List.set_cons_zero, List.set_cons_succ]
  refine take_at (i := 8) (d := 25) (v := .int .i64 bn) rfl rfl (by kernel_rfl) (by kernel_rfl) (by kernel_rfl) (fun _ _ _ h => h) (.inl ⟨by kernel_rfl, fun U hU => by subst hU; have q0 : w1.drew.cell? ⟨w.heap.size, 0, none⟩ = some (Value.int .i64 bn) := c0; go_simp⟩) hS0 ?_
  simp only [Act.put, List.setIfInBounds_toArray, List.set_cons_zero, List.set_cons_succ]
  refine take_at (i := 9) (d := 26) (v := .int .i64 ((bn : Int) + 1)) rfl rfl (by kernel_rfl) (by kernel_rfl) (by kernel_rfl) (fun _ _ _ h => h) (.inl ⟨by kernel_rfl, fun U hU => by have h7 : IntKind.i64.wrap ((bn : Int) + 1) = (bn : Int) + 1 := (by rw [IntKind.wrap_i64]; omega); go_simp⟩) hS0 ?_
  simp only [Act.put, List.setIfInBounds_toArray, List.set_cons_zero, List.set_cons_succ]
  refine take_at (i := 10) (d := 27) (v := .pointer (some ⟨bA, oA + (bn + 1), none⟩)) rfl rfl (by kernel_rfl) (by kernel_rfl) (by kernel_rfl) (fun _ _ _ h => h) (.inl ⟨by kernel_rfl, fun U hU => by have h7 : ¬ ((ms.length : Int) ≤ (bn : Int) + 1) := (by omega); have h8 : (0 : Int) ≤ (bn : Int) + 1 := (by omega); have h9 : ((bn : Int) + 1).toNat = bn + 1 := (by omega); go_simp⟩) hS0 ?_
  simp only [Act.put, List.setIfInBounds_toArray, List.set_cons_zero, List.set_cons_succ]
  refine take_at (i := 11) (d := 28) (v := .int .i64 b) rfl rfl (by kernel_rfl) (by kernel_rfl) (by kernel_rfl) (fun _ _ _ h => h) (.inl ⟨by kernel_rfl, fun U hU => by subst hU; have q0 : w1.drew.cell? ⟨bA, oA + (bn + 1), none⟩ = some (Value.int .i64 b) := m1; go_simp⟩) hS0 ?_
  simp only [Act.put, List.setIfInBounds_toArray, List.set_cons_zero, List.set_cons_succ]
  refine take_at (i := 12) (d := 7) (v := .int .i64 t) rfl rfl (by kernel_rfl) (by kernel_rfl) (by kernel_rfl) (fun _ _ _ h => h) (.inl ⟨by kernel_rfl, fun U hU => by go_simp⟩) hS0 ?_
  simp only [Act.put, List.setIfInBounds_toArray, List.set_cons_zero, List.set_cons_succ]
  refine take_at (i := 13) (d := 8) (v := .int .i64 b) rfl rfl (by kernel_rfl) (by kernel_rfl) (by kernel_rfl) (fun _ _ _ h => h) (.inl ⟨by kernel_rfl, fun U hU => by go_simp⟩) hS0 ?_
  simp only [Act.put, List.setIfInBounds_toArray, List.set_cons_zero, List.set_cons_succ]
  refine wpAnyH_done (by kernel_rfl) ?_ _
  replace c0 : w1.drew.cell? ⟨w.heap.size, 0, none⟩ = some (Value.int .i64 bn) := c0
  replace c1 : w1.drew.cell? ⟨w.heap.size, 1, none⟩ = some (Value.int .i64 cn) := c1
  go_wp2_with (go_at_call 29; refine (counts_is _ _ _).mono ?_; rintro e w2 ⟨rfl, rfl⟩)
  go_ret2
  exact ⟨none, 0, rfl, OwnI.nil_ _ _ _, B1.out.drew⟩

set_option maxHeartbeats 1000000 in
theorem list_2 (A : Option Addr) (c : Nat) (bn cn : Nat) (ms : List Int) (w : World) (hx : Ints w A ms.length ms) (hq : MayQ ms.length bn cn) (t b : Int) (ht : nth ms bn = t) (hb : nth ms (bn + 1) = b) (g0 : decide (cntOk t 0) = true) (g1 : decide (cntOk b 0) = true) (g2 : b < t) (ct : 0 ≤ t ∧ t ≤ 1099511627776) (cb : 0 ≤ b ∧ b ≤ 1099511627776) :
    Calls Try.prog 15 #[.slice A ms.length c, .agg #[.int .i64 bn, .int .i64 cn]] w (ListOf (9, []) w) := by
  have B0 := Lib.hid ((Below.refl w.heap.size w).alloc (Nat.le_refl _) (.cells #[.int .i64 bn, .int .i64 cn] 25))
  have k0 := Lib.hid (Bk.new w 25 #[.int .i64 bn, .int .i64 cn])
  have c0 : _ = some (Value.int .i64 bn) := k0.out.cell 0
  have c1 : _ = some (Value.int .i64 cn) := k0.out.cell 1
  have hbig := hq.1
  have hlen : bn + 2 + cn ≤ ms.length := by have := hq.2.2.2.2.2; omega
  have h1 : 1 ≤ cn := by have := hq.2.1; omega
  have h2 : cn ≤ 1024 := by have := hq.2.2.1; omega
  have HN : Hid (ms.length ≤ 9223372036854775807) := Lib.hid (by omega)
  have FB := Lib.hid (⟨by omega, by omega⟩ : Fit (bn : Int))
  have FC := Lib.hid (⟨by omega, by omega⟩ : Fit (cn : Int))
  have HX := Lib.hid hx
  obtain ⟨bA, oA, rfl, hbA, hcA⟩ := hx.2.2.2 (by omega)
  have HA := Lib.hid hcA
  have HT := Lib.hid ht
  have HB := Lib.hid hb
  have hi0 : bn < ms.length := by omega
  have hi1 : bn + 1 < ms.length := by omega
  clear hx hcA ht hb
  go_enter Try.func15, Try.ntmps15
  go_wp2_with fail
  refine (checkq_any _ ms.length c bn cn _ HN.out FB.out FC.out).mono ?_
  rw [if_pos hq]
  rintro e w1 ⟨rfl, b1⟩
  have B1 := Lib.hid (below3 B0.out b1)
  have k1 := Lib.hid (k0.out.below b1 k0.out.lt)
  have X1 := Lib.hid (HX.out.below B1.out)
  have lq := k1.out.lt
  have lA : bA < w1.heap.size := Nat.lt_of_lt_of_le hbA B1.out.size
  clear b1 c0 c1
  have c0 : _ = some (Value.int .i64 bn) := k1.out.cell 0
  have c1 : _ = some (Value.int .i64 cn) := k1.out.cell 1
  have m0 : w1.cell? ⟨bA, oA + bn, none⟩ = some (.int .i64 t) := by rw [B1.out.cell (p := ⟨bA, oA + bn, none⟩) hbA, HA.out bn hi0, HT.out]
  have m1 : w1.cell? ⟨bA, oA + (bn + 1), none⟩ = some (.int .i64 b) := by rw [B1.out.cell (p := ⟨bA, oA + (bn + 1), none⟩) hbA, HA.out (bn + 1) hi1, HB.out]
  obtain ⟨ct1, ct2⟩ := ct
  obtain ⟨cb1, cb2⟩ := cb
  go_wp2
  refine wp_region_held (S := fun U => U = w1.drew) (by kernel_rfl) ?_
  change wpAnyH _ _ _ _ _ _ _ _ (World.drew _)
  have hS0 : w1.drew = w1.drew := rfl
  refine take_at (i := 0) (d := 17) (v := .slice (some ⟨bA, oA, none⟩) ms.length c) rfl rfl (by kernel_rfl) (by kernel_rfl) (by kernel_rfl) (fun _ _ _ h => h) (.inl ⟨by kernel_rfl, fun U hU => by go_simp⟩) hS0 ?_
  simp only [Act.put, List.setIfInBounds_toArray, List.set_cons_zero, List.set_cons_succ]
  refine take_at (i := 1) (d := 18) (v := .pointer (some ⟨w.heap.size, 0, none⟩)) rfl rfl (by kernel_rfl) (by kernel_rfl) (by kernel_rfl) (fun _ _ _ h => h) (.inl ⟨by kernel_rfl, fun U hU => by go_simp⟩) hS0 ?_
  simp only [Act.put, List.setIfInBounds_toArray, List.set_cons_zero, List.set_cons_succ]
  refine take_at (i := 2) (d := 19) (v := .int .i64 bn) rfl rfl (by kernel_rfl) (by kernel_rfl) (by kernel_rfl) (fun _ _ _ h => h) (.inl ⟨by kernel_rfl, fun U hU => by subst hU; have q0 : w1.drew.cell? ⟨w.heap.size, 0, none⟩ = some (Value.int .i64 bn) := c0; go_simp⟩) hS0 ?_
  simp only [Act.put, List.setIfInBounds_toArray, List.set_cons_zero, List.set_cons_succ]
  refine take_at (i := 3) (d := 20) (v := .int .i64 bn) rfl rfl (by kernel_rfl) (by kernel_rfl) (by kernel_rfl) (fun _ _ _ h => h) (.inl ⟨by kernel_rfl, fun U hU => by have h7 : IntKind.i64.wrap (bn : Int) = bn := (by rw [IntKind.wrap_i64]; omega); go_simp⟩) hS0 ?_
  simp only [Act.put, List.setIfInBounds_toArray, List.set_cons_zero, List.set_cons_succ]
  refine take_at (i := 4) (d := 21) (v := .pointer (some ⟨bA, oA + bn, none⟩)) rfl rfl (by kernel_rfl) (by kernel_rfl) (by kernel_rfl) (fun _ _ _ h => h) (.inl ⟨by kernel_rfl, fun U hU => by go_simp⟩) hS0 ?_
  simp only [Act.put, List.setIfInBounds_toArray, List.set_cons_zero, List.set_cons_succ]
  refine take_at (i := 5) (d := 22) (v := .int .i64 t) rfl rfl (by kernel_rfl) (by kernel_rfl) (by kernel_rfl) (fun _ _ _ h => h) (.inl ⟨by kernel_rfl, fun U hU => by subst hU; have q0 : w1.drew.cell? ⟨bA, oA + bn, none⟩ = some (Value.int .i64 t) := m0; go_simp⟩) hS0 ?_
  simp only [Act.put, List.setIfInBounds_toArray, List.set_cons_zero, List.set_cons_succ]
  refine take_at (i := 6) (d := 23) (v := .slice (some ⟨bA, oA, none⟩) ms.length c) rfl rfl (by kernel_rfl) (by kernel_rfl) (by kernel_rfl) (fun _ _ _ h => h) (.inl ⟨by kernel_rfl, fun U hU => by go_simp⟩) hS0 ?_
  simp only [Act.put, List.setIfInBounds_toArray, List.set_cons_zero, List.set_cons_succ]
  refine take_at (i := 7) (d := 24) (v := .pointer (some ⟨w.heap.size, 0, none⟩)) rfl rfl (by kernel_rfl) (by kernel_rfl) (by kernel_rfl) (fun _ _ _ h => h) (.inl ⟨by kernel_rfl, fun U hU => by go_simp⟩) hS0 ?_
  simp only [Act.put, List.setIfInBounds_toArray, List.set_cons_zero, List.set_cons_succ]
  refine take_at (i := 8) (d := 25) (v := .int .i64 bn) rfl rfl (by kernel_rfl) (by kernel_rfl) (by kernel_rfl) (fun _ _ _ h => h) (.inl ⟨by kernel_rfl, fun U hU => by subst hU; have q0 : w1.drew.cell? ⟨w.heap.size, 0, none⟩ = some (Value.int .i64 bn) := c0; go_simp⟩) hS0 ?_
  simp only [Act.put, List.setIfInBounds_toArray, List.set_cons_zero, List.set_cons_succ]
  refine take_at (i := 9) (d := 26) (v := .int .i64 ((bn : Int) + 1)) rfl rfl (by kernel_rfl) (by kernel_rfl) (by kernel_rfl) (fun _ _ _ h => h) (.inl ⟨by kernel_rfl, fun U hU => by have h7 : IntKind.i64.wrap ((bn : Int) + 1) = (bn : Int) + 1 := (by rw [IntKind.wrap_i64]; omega); go_simp⟩) hS0 ?_
  simp only [Act.put, List.setIfInBounds_toArray, List.set_cons_zero, List.set_cons_succ]
  refine take_at (i := 10) (d := 27) (v := .pointer (some ⟨bA, oA + (bn + 1), none⟩)) rfl rfl (by kernel_rfl) (by kernel_rfl) (by kernel_rfl) (fun _ _ _ h => h) (.inl ⟨by kernel_rfl, fun U hU => by have h7 : ¬ ((ms.length : Int) ≤ (bn : Int) + 1) := (by omega); have h8 : (0 : Int) ≤ (bn : Int) + 1 := (by omega); have h9 : ((bn : Int) + 1).toNat = bn + 1 := (by omega); go_simp⟩) hS0 ?_
  simp only [Act.put, List.setIfInBounds_toArray, List.set_cons_zero, List.set_cons_succ]
  refine take_at (i := 11) (d := 28) (v := .int .i64 b) rfl rfl (by kernel_rfl) (by kernel_rfl) (by kernel_rfl) (fun _ _ _ h => h) (.inl ⟨by kernel_rfl, fun U hU => by subst hU; have q0 : w1.drew.cell? ⟨bA, oA + (bn + 1), none⟩ = some (Value.int .i64 b) := m1; go_simp⟩) hS0 ?_
  simp only [Act.put, List.setIfInBounds_toArray, List.set_cons_zero, List.set_cons_succ]
  refine take_at (i := 12) (d := 7) (v := .int .i64 t) rfl rfl (by kernel_rfl) (by kernel_rfl) (by kernel_rfl) (fun _ _ _ h => h) (.inl ⟨by kernel_rfl, fun U hU => by go_simp⟩) hS0 ?_
  simp only [Act.put, List.setIfInBounds_toArray, List.set_cons_zero, List.set_cons_succ]
  refine take_at (i := 13) (d := 8) (v := .int .i64 b) rfl rfl (by kernel_rfl) (by kernel_rfl) (by kernel_rfl) (fun _ _ _ h => h) (.inl ⟨by kernel_rfl, fun U hU => by go_simp⟩) hS0 ?_
  simp only [Act.put, List.setIfInBounds_toArray, List.set_cons_zero, List.set_cons_succ]
  refine wpAnyH_done (by kernel_rfl) ?_ _
  replace c0 : w1.drew.cell? ⟨w.heap.size, 0, none⟩ = some (Value.int .i64 bn) := c0
  replace c1 : w1.drew.cell? ⟨w.heap.size, 1, none⟩ = some (Value.int .i64 cn) := c1
  go_wp2_with (go_at_call 29; refine (counts_is _ _ _).mono ?_; rintro e w2 ⟨rfl, rfl⟩)
  go_ret2
  exact ⟨none, 0, rfl, OwnI.nil_ _ _ _, B1.out.drew⟩

set_option maxHeartbeats 1000000 in
theorem list_3 (A : Option Addr) (c : Nat) (bn cn : Nat) (ms : List Int) (w : World) (hx : Ints w A ms.length ms) (hq : MayQ ms.length bn cn) (t b : Int) (ht : nth ms bn = t) (hb : nth ms (bn + 1) = b) (g0 : decide (cntOk t 0) = true) (g1 : decide (cntOk b 0) = true) (g2 : ¬ b < t) (g3 : (cn : Int) < b - t) (ct : 0 ≤ t ∧ t ≤ 1099511627776) (cb : 0 ≤ b ∧ b ≤ 1099511627776) :
    Calls Try.prog 15 #[.slice A ms.length c, .agg #[.int .i64 bn, .int .i64 cn]] w (ListOf (9, []) w) := by
  have B0 := Lib.hid ((Below.refl w.heap.size w).alloc (Nat.le_refl _) (.cells #[.int .i64 bn, .int .i64 cn] 25))
  have k0 := Lib.hid (Bk.new w 25 #[.int .i64 bn, .int .i64 cn])
  have c0 : _ = some (Value.int .i64 bn) := k0.out.cell 0
  have c1 : _ = some (Value.int .i64 cn) := k0.out.cell 1
  have hbig := hq.1
  have hlen : bn + 2 + cn ≤ ms.length := by have := hq.2.2.2.2.2; omega
  have h1 : 1 ≤ cn := by have := hq.2.1; omega
  have h2 : cn ≤ 1024 := by have := hq.2.2.1; omega
  have HN : Hid (ms.length ≤ 9223372036854775807) := Lib.hid (by omega)
  have FB := Lib.hid (⟨by omega, by omega⟩ : Fit (bn : Int))
  have FC := Lib.hid (⟨by omega, by omega⟩ : Fit (cn : Int))
  have HX := Lib.hid hx
  obtain ⟨bA, oA, rfl, hbA, hcA⟩ := hx.2.2.2 (by omega)
  have HA := Lib.hid hcA
  have HT := Lib.hid ht
  have HB := Lib.hid hb
  have hi0 : bn < ms.length := by omega
  have hi1 : bn + 1 < ms.length := by omega
  clear hx hcA ht hb
  go_enter Try.func15, Try.ntmps15
  go_wp2_with fail
  refine (checkq_any _ ms.length c bn cn _ HN.out FB.out FC.out).mono ?_
  rw [if_pos hq]
  rintro e w1 ⟨rfl, b1⟩
  have B1 := Lib.hid (below3 B0.out b1)
  have k1 := Lib.hid (k0.out.below b1 k0.out.lt)
  have X1 := Lib.hid (HX.out.below B1.out)
  have lq := k1.out.lt
  have lA : bA < w1.heap.size := Nat.lt_of_lt_of_le hbA B1.out.size
  clear b1 c0 c1
  have c0 : _ = some (Value.int .i64 bn) := k1.out.cell 0
  have c1 : _ = some (Value.int .i64 cn) := k1.out.cell 1
  have m0 : w1.cell? ⟨bA, oA + bn, none⟩ = some (.int .i64 t) := by rw [B1.out.cell (p := ⟨bA, oA + bn, none⟩) hbA, HA.out bn hi0, HT.out]
  have m1 : w1.cell? ⟨bA, oA + (bn + 1), none⟩ = some (.int .i64 b) := by rw [B1.out.cell (p := ⟨bA, oA + (bn + 1), none⟩) hbA, HA.out (bn + 1) hi1, HB.out]
  obtain ⟨ct1, ct2⟩ := ct
  obtain ⟨cb1, cb2⟩ := cb
  have hle : t ≤ b := by omega
  go_wp2
  refine wp_region_held (S := fun U => U = w1.drew) (by kernel_rfl) ?_
  change wpAnyH _ _ _ _ _ _ _ _ (World.drew _)
  have hS0 : w1.drew = w1.drew := rfl
  refine take_at (i := 0) (d := 17) (v := .slice (some ⟨bA, oA, none⟩) ms.length c) rfl rfl (by kernel_rfl) (by kernel_rfl) (by kernel_rfl) (fun _ _ _ h => h) (.inl ⟨by kernel_rfl, fun U hU => by go_simp⟩) hS0 ?_
  simp only [Act.put, List.setIfInBounds_toArray, List.set_cons_zero, List.set_cons_succ]
  refine take_at (i := 1) (d := 18) (v := .pointer (some ⟨w.heap.size, 0, none⟩)) rfl rfl (by kernel_rfl) (by kernel_rfl) (by kernel_rfl) (fun _ _ _ h => h) (.inl ⟨by kernel_rfl, fun U hU => by go_simp⟩) hS0 ?_
  simp only [Act.put, List.setIfInBounds_toArray, List.set_cons_zero, List.set_cons_succ]
  refine take_at (i := 2) (d := 19) (v := .int .i64 bn) rfl rfl (by kernel_rfl) (by kernel_rfl) (by kernel_rfl) (fun _ _ _ h => h) (.inl ⟨by kernel_rfl, fun U hU => by subst hU; have q0 : w1.drew.cell? ⟨w.heap.size, 0, none⟩ = some (Value.int .i64 bn) := c0; go_simp⟩) hS0 ?_
  simp only [Act.put, List.setIfInBounds_toArray, List.set_cons_zero, List.set_cons_succ]
  refine take_at (i := 3) (d := 20) (v := .int .i64 bn) rfl rfl (by kernel_rfl) (by kernel_rfl) (by kernel_rfl) (fun _ _ _ h => h) (.inl ⟨by kernel_rfl, fun U hU => by have h7 : IntKind.i64.wrap (bn : Int) = bn := (by rw [IntKind.wrap_i64]; omega); go_simp⟩) hS0 ?_
  simp only [Act.put, List.setIfInBounds_toArray, List.set_cons_zero, List.set_cons_succ]
  refine take_at (i := 4) (d := 21) (v := .pointer (some ⟨bA, oA + bn, none⟩)) rfl rfl (by kernel_rfl) (by kernel_rfl) (by kernel_rfl) (fun _ _ _ h => h) (.inl ⟨by kernel_rfl, fun U hU => by go_simp⟩) hS0 ?_
  simp only [Act.put, List.setIfInBounds_toArray, List.set_cons_zero, List.set_cons_succ]
  refine take_at (i := 5) (d := 22) (v := .int .i64 t) rfl rfl (by kernel_rfl) (by kernel_rfl) (by kernel_rfl) (fun _ _ _ h => h) (.inl ⟨by kernel_rfl, fun U hU => by subst hU; have q0 : w1.drew.cell? ⟨bA, oA + bn, none⟩ = some (Value.int .i64 t) := m0; go_simp⟩) hS0 ?_
  simp only [Act.put, List.setIfInBounds_toArray, List.set_cons_zero, List.set_cons_succ]
  refine take_at (i := 6) (d := 23) (v := .slice (some ⟨bA, oA, none⟩) ms.length c) rfl rfl (by kernel_rfl) (by kernel_rfl) (by kernel_rfl) (fun _ _ _ h => h) (.inl ⟨by kernel_rfl, fun U hU => by go_simp⟩) hS0 ?_
  simp only [Act.put, List.setIfInBounds_toArray, List.set_cons_zero, List.set_cons_succ]
  refine take_at (i := 7) (d := 24) (v := .pointer (some ⟨w.heap.size, 0, none⟩)) rfl rfl (by kernel_rfl) (by kernel_rfl) (by kernel_rfl) (fun _ _ _ h => h) (.inl ⟨by kernel_rfl, fun U hU => by go_simp⟩) hS0 ?_
  simp only [Act.put, List.setIfInBounds_toArray, List.set_cons_zero, List.set_cons_succ]
  refine take_at (i := 8) (d := 25) (v := .int .i64 bn) rfl rfl (by kernel_rfl) (by kernel_rfl) (by kernel_rfl) (fun _ _ _ h => h) (.inl ⟨by kernel_rfl, fun U hU => by subst hU; have q0 : w1.drew.cell? ⟨w.heap.size, 0, none⟩ = some (Value.int .i64 bn) := c0; go_simp⟩) hS0 ?_
  simp only [Act.put, List.setIfInBounds_toArray, List.set_cons_zero, List.set_cons_succ]
  refine take_at (i := 9) (d := 26) (v := .int .i64 ((bn : Int) + 1)) rfl rfl (by kernel_rfl) (by kernel_rfl) (by kernel_rfl) (fun _ _ _ h => h) (.inl ⟨by kernel_rfl, fun U hU => by have h7 : IntKind.i64.wrap ((bn : Int) + 1) = (bn : Int) + 1 := (by rw [IntKind.wrap_i64]; omega); go_simp⟩) hS0 ?_
  simp only [Act.put, List.setIfInBounds_toArray, List.set_cons_zero, List.set_cons_succ]
  refine take_at (i := 10) (d := 27) (v := .pointer (some ⟨bA, oA + (bn + 1), none⟩)) rfl rfl (by kernel_rfl) (by kernel_rfl) (by kernel_rfl) (fun _ _ _ h => h) (.inl ⟨by kernel_rfl, fun U hU => by have h7 : ¬ ((ms.length : Int) ≤ (bn : Int) + 1) := (by omega); have h8 : (0 : Int) ≤ (bn : Int) + 1 := (by omega); have h9 : ((bn : Int) + 1).toNat = bn + 1 := (by omega); go_simp⟩) hS0 ?_
  simp only [Act.put, List.setIfInBounds_toArray, List.set_cons_zero, List.set_cons_succ]
  refine take_at (i := 11) (d := 28) (v := .int .i64 b) rfl rfl (by kernel_rfl) (by kernel_rfl) (by kernel_rfl) (fun _ _ _ h => h) (.inl ⟨by kernel_rfl, fun U hU => by subst hU; have q0 : w1.drew.cell? ⟨bA, oA + (bn + 1), none⟩ = some (Value.int .i64 b) := m1; go_simp⟩) hS0 ?_
  simp only [Act.put, List.setIfInBounds_toArray, List.set_cons_zero, List.set_cons_succ]
  refine take_at (i := 12) (d := 7) (v := .int .i64 t) rfl rfl (by kernel_rfl) (by kernel_rfl) (by kernel_rfl) (fun _ _ _ h => h) (.inl ⟨by kernel_rfl, fun U hU => by go_simp⟩) hS0 ?_
  simp only [Act.put, List.setIfInBounds_toArray, List.set_cons_zero, List.set_cons_succ]
  refine take_at (i := 13) (d := 8) (v := .int .i64 b) rfl rfl (by kernel_rfl) (by kernel_rfl) (by kernel_rfl) (fun _ _ _ h => h) (.inl ⟨by kernel_rfl, fun U hU => by go_simp⟩) hS0 ?_
  simp only [Act.put, List.setIfInBounds_toArray, List.set_cons_zero, List.set_cons_succ]
  refine wpAnyH_done (by kernel_rfl) ?_ _
  replace c0 : w1.drew.cell? ⟨w.heap.size, 0, none⟩ = some (Value.int .i64 bn) := c0
  replace c1 : w1.drew.cell? ⟨w.heap.size, 1, none⟩ = some (Value.int .i64 cn) := c1
  go_wp2_with (go_at_call 29; refine (counts_is _ _ _).mono ?_; rintro e w2 ⟨rfl, rfl⟩)
  go_ret2
  exact ⟨none, 0, rfl, OwnI.nil_ _ _ _, B1.out.drew⟩

set_option maxHeartbeats 1000000 in
theorem list_4 (A : Option Addr) (c : Nat) (bn cn : Nat) (ms : List Int) (w : World) (hx : Ints w A ms.length ms) (hq : MayQ ms.length bn cn) (t b : Int) (ht : nth ms bn = t) (hb : nth ms (bn + 1) = b) (g0 : decide (cntOk t 0) = true) (g1 : decide (cntOk b 0) = true) (g2 : ¬ b < t) (g3 : ¬ (cn : Int) < b - t) (ct : 0 ≤ t ∧ t ≤ 1099511627776) (cb : 0 ≤ b ∧ b ≤ 1099511627776) :
    Calls Try.prog 15 #[.slice A ms.length c, .agg #[.int .i64 bn, .int .i64 cn]] w (ListOf (0, lstP ms bn cn t (b - t).toNat) w) := by
  have B0 := Lib.hid ((Below.refl w.heap.size w).alloc (Nat.le_refl _) (.cells #[.int .i64 bn, .int .i64 cn] 25))
  have k0 := Lib.hid (Bk.new w 25 #[.int .i64 bn, .int .i64 cn])
  have c0 : _ = some (Value.int .i64 bn) := k0.out.cell 0
  have c1 : _ = some (Value.int .i64 cn) := k0.out.cell 1
  have hbig := hq.1
  have hlen : bn + 2 + cn ≤ ms.length := by have := hq.2.2.2.2.2; omega
  have h1 : 1 ≤ cn := by have := hq.2.1; omega
  have h2 : cn ≤ 1024 := by have := hq.2.2.1; omega
  have HN : Hid (ms.length ≤ 9223372036854775807) := Lib.hid (by omega)
  have FB := Lib.hid (⟨by omega, by omega⟩ : Fit (bn : Int))
  have FC := Lib.hid (⟨by omega, by omega⟩ : Fit (cn : Int))
  have HX := Lib.hid hx
  obtain ⟨bA, oA, rfl, hbA, hcA⟩ := hx.2.2.2 (by omega)
  have HA := Lib.hid hcA
  have HT := Lib.hid ht
  have HB := Lib.hid hb
  have hi0 : bn < ms.length := by omega
  have hi1 : bn + 1 < ms.length := by omega
  clear hx hcA ht hb
  go_enter Try.func15, Try.ntmps15
  go_wp2_with fail
  refine (checkq_any _ ms.length c bn cn _ HN.out FB.out FC.out).mono ?_
  rw [if_pos hq]
  rintro e w1 ⟨rfl, b1⟩
  have B1 := Lib.hid (below3 B0.out b1)
  have k1 := Lib.hid (k0.out.below b1 k0.out.lt)
  have X1 := Lib.hid (HX.out.below B1.out)
  have lq := k1.out.lt
  have lA : bA < w1.heap.size := Nat.lt_of_lt_of_le hbA B1.out.size
  clear b1 c0 c1
  have c0 : _ = some (Value.int .i64 bn) := k1.out.cell 0
  have c1 : _ = some (Value.int .i64 cn) := k1.out.cell 1
  have m0 : w1.cell? ⟨bA, oA + bn, none⟩ = some (.int .i64 t) := by rw [B1.out.cell (p := ⟨bA, oA + bn, none⟩) hbA, HA.out bn hi0, HT.out]
  have m1 : w1.cell? ⟨bA, oA + (bn + 1), none⟩ = some (.int .i64 b) := by rw [B1.out.cell (p := ⟨bA, oA + (bn + 1), none⟩) hbA, HA.out (bn + 1) hi1, HB.out]
  obtain ⟨ct1, ct2⟩ := ct
  obtain ⟨cb1, cb2⟩ := cb
  have hle : t ≤ b := by omega
  go_wp2
  refine wp_region_held (S := fun U => U = w1.drew) (by kernel_rfl) ?_
  change wpAnyH _ _ _ _ _ _ _ _ (World.drew _)
  have hS0 : w1.drew = w1.drew := rfl
  refine take_at (i := 0) (d := 17) (v := .slice (some ⟨bA, oA, none⟩) ms.length c) rfl rfl (by kernel_rfl) (by kernel_rfl) (by kernel_rfl) (fun _ _ _ h => h) (.inl ⟨by kernel_rfl, fun U hU => by go_simp⟩) hS0 ?_
  simp only [Act.put, List.setIfInBounds_toArray, List.set_cons_zero, List.set_cons_succ]
  refine take_at (i := 1) (d := 18) (v := .pointer (some ⟨w.heap.size, 0, none⟩)) rfl rfl (by kernel_rfl) (by kernel_rfl) (by kernel_rfl) (fun _ _ _ h => h) (.inl ⟨by kernel_rfl, fun U hU => by go_simp⟩) hS0 ?_
  simp only [Act.put, List.setIfInBounds_toArray, List.set_cons_zero, List.set_cons_succ]
  refine take_at (i := 2) (d := 19) (v := .int .i64 bn) rfl rfl (by kernel_rfl) (by kernel_rfl) (by kernel_rfl) (fun _ _ _ h => h) (.inl ⟨by kernel_rfl, fun U hU => by subst hU; have q0 : w1.drew.cell? ⟨w.heap.size, 0, none⟩ = some (Value.int .i64 bn) := c0; go_simp⟩) hS0 ?_
  simp only [Act.put, List.setIfInBounds_toArray, List.set_cons_zero, List.set_cons_succ]
  refine take_at (i := 3) (d := 20) (v := .int .i64 bn) rfl rfl (by kernel_rfl) (by kernel_rfl) (by kernel_rfl) (fun _ _ _ h => h) (.inl ⟨by kernel_rfl, fun U hU => by have h7 : IntKind.i64.wrap (bn : Int) = bn := (by rw [IntKind.wrap_i64]; omega); go_simp⟩) hS0 ?_
  simp only [Act.put, List.setIfInBounds_toArray, List.set_cons_zero, List.set_cons_succ]
  refine take_at (i := 4) (d := 21) (v := .pointer (some ⟨bA, oA + bn, none⟩)) rfl rfl (by kernel_rfl) (by kernel_rfl) (by kernel_rfl) (fun _ _ _ h => h) (.inl ⟨by kernel_rfl, fun U hU => by go_simp⟩) hS0 ?_
  simp only [Act.put, List.setIfInBounds_toArray, List.set_cons_zero, List.set_cons_succ]
  refine take_at (i := 5) (d := 22) (v := .int .i64 t) rfl rfl (by kernel_rfl) (by kernel_rfl) (by kernel_rfl) (fun _ _ _ h => h) (.inl ⟨by kernel_rfl, fun U hU => by subst hU; have q0 : w1.drew.cell? ⟨bA, oA + bn, none⟩ = some (Value.int .i64 t) := m0; go_simp⟩) hS0 ?_
  simp only [Act.put, List.setIfInBounds_toArray, List.set_cons_zero, List.set_cons_succ]
  refine take_at (i := 6) (d := 23) (v := .slice (some ⟨bA, oA, none⟩) ms.length c) rfl rfl (by kernel_rfl) (by kernel_rfl) (by kernel_rfl) (fun _ _ _ h => h) (.inl ⟨by kernel_rfl, fun U hU => by go_simp⟩) hS0 ?_
  simp only [Act.put, List.setIfInBounds_toArray, List.set_cons_zero, List.set_cons_succ]
  refine take_at (i := 7) (d := 24) (v := .pointer (some ⟨w.heap.size, 0, none⟩)) rfl rfl (by kernel_rfl) (by kernel_rfl) (by kernel_rfl) (fun _ _ _ h => h) (.inl ⟨by kernel_rfl, fun U hU => by go_simp⟩) hS0 ?_
  simp only [Act.put, List.setIfInBounds_toArray, List.set_cons_zero, List.set_cons_succ]
  refine take_at (i := 8) (d := 25) (v := .int .i64 bn) rfl rfl (by kernel_rfl) (by kernel_rfl) (by kernel_rfl) (fun _ _ _ h => h) (.inl ⟨by kernel_rfl, fun U hU => by subst hU; have q0 : w1.drew.cell? ⟨w.heap.size, 0, none⟩ = some (Value.int .i64 bn) := c0; go_simp⟩) hS0 ?_
  simp only [Act.put, List.setIfInBounds_toArray, List.set_cons_zero, List.set_cons_succ]
  refine take_at (i := 9) (d := 26) (v := .int .i64 ((bn : Int) + 1)) rfl rfl (by kernel_rfl) (by kernel_rfl) (by kernel_rfl) (fun _ _ _ h => h) (.inl ⟨by kernel_rfl, fun U hU => by have h7 : IntKind.i64.wrap ((bn : Int) + 1) = (bn : Int) + 1 := (by rw [IntKind.wrap_i64]; omega); go_simp⟩) hS0 ?_
  simp only [Act.put, List.setIfInBounds_toArray, List.set_cons_zero, List.set_cons_succ]
  refine take_at (i := 10) (d := 27) (v := .pointer (some ⟨bA, oA + (bn + 1), none⟩)) rfl rfl (by kernel_rfl) (by kernel_rfl) (by kernel_rfl) (fun _ _ _ h => h) (.inl ⟨by kernel_rfl, fun U hU => by have h7 : ¬ ((ms.length : Int) ≤ (bn : Int) + 1) := (by omega); have h8 : (0 : Int) ≤ (bn : Int) + 1 := (by omega); have h9 : ((bn : Int) + 1).toNat = bn + 1 := (by omega); go_simp⟩) hS0 ?_
  simp only [Act.put, List.setIfInBounds_toArray, List.set_cons_zero, List.set_cons_succ]
  refine take_at (i := 11) (d := 28) (v := .int .i64 b) rfl rfl (by kernel_rfl) (by kernel_rfl) (by kernel_rfl) (fun _ _ _ h => h) (.inl ⟨by kernel_rfl, fun U hU => by subst hU; have q0 : w1.drew.cell? ⟨bA, oA + (bn + 1), none⟩ = some (Value.int .i64 b) := m1; go_simp⟩) hS0 ?_
  simp only [Act.put, List.setIfInBounds_toArray, List.set_cons_zero, List.set_cons_succ]
  refine take_at (i := 12) (d := 7) (v := .int .i64 t) rfl rfl (by kernel_rfl) (by kernel_rfl) (by kernel_rfl) (fun _ _ _ h => h) (.inl ⟨by kernel_rfl, fun U hU => by go_simp⟩) hS0 ?_
  simp only [Act.put, List.setIfInBounds_toArray, List.set_cons_zero, List.set_cons_succ]
  refine take_at (i := 13) (d := 8) (v := .int .i64 b) rfl rfl (by kernel_rfl) (by kernel_rfl) (by kernel_rfl) (fun _ _ _ h => h) (.inl ⟨by kernel_rfl, fun U hU => by go_simp⟩) hS0 ?_
  simp only [Act.put, List.setIfInBounds_toArray, List.set_cons_zero, List.set_cons_succ]
  refine wpAnyH_done (by kernel_rfl) ?_ _
  replace c0 : w1.drew.cell? ⟨w.heap.size, 0, none⟩ = some (Value.int .i64 bn) := c0
  replace c1 : w1.drew.cell? ⟨w.heap.size, 1, none⟩ = some (Value.int .i64 cn) := c1
  go_wp2_with (go_at_call 29; refine (counts_is _ _ _).mono ?_; rintro e w2 ⟨rfl, rfl⟩)
  have hcn : b - t ≤ cn := by omega
  have X2 : Hid (Ints w1.drew (some ⟨bA, oA, none⟩) ms.length ms) := Lib.hid (X1.out.below (Below.refl _ _).drew)
  have K2 : Hid (Bk w1.drew w.heap.size 25 #[.int .i64 bn, .int .i64 cn]) := Lib.hid k1.out.drew
  have B2 : Hid (Below w.heap.size w w1.drew) := Lib.hid B1.out.drew
  have lA2 : bA < w1.drew.heap.size := lA
  have lq2 : w.heap.size < w1.drew.heap.size := lq
  have I0 := Lib.hid (⟨OwnI.nil_ _ _ _, Below.refl _ _⟩ : LsI w1.drew w1.drew w.heap.size bn cn ms t 0 none 0)
  clear X1 k1 B1 lA lq m0 m1 c0 c1
  generalize w1.drew = V1 at I0 X2 K2 B2 lA2 lq2 ⊢
  go_loopw [9, 10] (fun l n wr => ∃ (k : Nat) (A' : Option Addr) (c' : Nat), (k : Int) ≤ b - t ∧ n = .int .i64 (t + k) ∧ l = .slice A' k c' ∧ Hid (LsI wr V1 w.heap.size bn cn ms t k A' c')) (fun l n _ => (b - intOf n).toNat)
  case atStart => exact ⟨0, none, 0, by omega, by go_num, rfl, I0⟩
  case round =>
    obtain ⟨k, A', c', hk, rfl, rfl, IJ⟩ := hrel
    by_cases hlt : t + k < b
    · obtain ⟨y, hy⟩ : ∃ y, nth ms (slI bn cn (t + (k : Nat))) = y := ⟨_, rfl⟩
      have FY := Lib.hid (hy ▸ fit_cell HX.out.2.2.1 _ : Fit y)
      have HL := lstP_more ms bn cn t k
      rw [hy] at HL
      have HL := Lib.hid HL
      have h0 : 0 ≤ t + (k : Int) := by omega
      have hs1 := slR_lt h1 h0
      have hsa := slR_add bn cn (t + (k : Int))
      rw [← hsa] at hy
      obtain ⟨q, hq2⟩ : ∃ q, slR cn (t + (k : Int)) = q := ⟨_, rfl⟩
      rw [hq2] at hs1 hsa hy
      have hql : bn + q < ms.length := by omega
      have HY := Lib.hid hy
      have HQ := Lib.hid hq2
      have HSA := Lib.hid hsa
      have hbl := IJ.out.bl
      have kq := K2.out.below hbl K2.out.lt
      have c0 : _ = some (Value.int .i64 bn) := kq.cell 0
      have c1 : _ = some (Value.int .i64 cn) := kq.cell 1
      have l0 := kq.lt
      have hcell : wr.cell? ⟨bA, oA + (bn + q), none⟩ = some (.int .i64 y) := by
        obtain ⟨b', o', e, hb', hc'⟩ := X2.out.2.2.2 (by omega)
        injection e with e
        injection e with e1 e2 _
        subst e1 e2
        rw [hbl.cell (p := ⟨bA, oA + (bn + q), none⟩) lA2, hc' _ hql, HY.out]
      have lAr : bA < wr.heap.size := Nat.lt_of_lt_of_le lA2 hbl.size
      have hsz : V1.heap.size ≤ wr.heap.size := hbl.size
      have hkc : k + 1 ≤ 1024 := by omega
      have hkn : ((k + 1 : Nat) : Int) ≤ b - t := by omega
      clear hy hq2 hsa hbl
      go_wp2
      refine wp_region_held (S := fun U => Bk U w.heap.size 25 #[.int .i64 bn, .int .i64 cn] ∧ U.cell? ⟨bA, oA + (bn + q), none⟩ = some (.int .i64 y)) (by kernel_rfl) ?_
      change wpAnyH _ _ _ _ _ _ _ _ (World.drew _)
      have hS0 : Bk wr.drew w.heap.size 25 #[.int .i64 bn, .int .i64 cn] ∧ wr.drew.cell? ⟨bA, oA + (bn + q), none⟩ = some (.int .i64 y) := ⟨kq.drew, hcell⟩
      refine take_at (i := 0) (d := 56) (v := .slice A' k c') rfl rfl (by kernel_rfl) (by kernel_rfl) (by kernel_rfl) (fun _ _ _ h => h) (.inl ⟨by kernel_rfl, fun U hU => by go_simp⟩) hS0 ?_
      simp only [Act.put, List.setIfInBounds_toArray, List.set_cons_zero, List.set_cons_succ]
      refine take_at (i := 1) (d := 57) (v := .slice (some ⟨bA, oA, none⟩) ms.length c) rfl rfl (by kernel_rfl) (by kernel_rfl) (by kernel_rfl) (fun _ _ _ h => h) (.inl ⟨by kernel_rfl, fun U hU => by go_simp⟩) hS0 ?_
      simp only [Act.put, List.setIfInBounds_toArray, List.set_cons_zero, List.set_cons_succ]
      refine take_at (i := 2) (d := 58) (v := .pointer (some ⟨w.heap.size, 0, none⟩)) rfl rfl (by kernel_rfl) (by kernel_rfl) (by kernel_rfl) (fun _ _ _ h => h) (.inl ⟨by kernel_rfl, fun U hU => by go_simp⟩) hS0 ?_
      simp only [Act.put, List.setIfInBounds_toArray, List.set_cons_zero, List.set_cons_succ]
      refine take_at (i := 3) (d := 59) (v := .int .i64 bn) rfl rfl (by kernel_rfl) (by kernel_rfl) (by kernel_rfl) (fun _ _ _ h => h) (.inl ⟨by kernel_rfl, fun U hU => by have q0 : _ = some (Value.int .i64 bn) := hU.1.cell 0; go_simp⟩) hS0 ?_
      simp only [Act.put, List.setIfInBounds_toArray, List.set_cons_zero, List.set_cons_succ]
      refine take_at (i := 4) (d := 60) (v := .agg #[.int .i64 bn, .int .i64 cn]) rfl rfl (by kernel_rfl) (by kernel_rfl) (by kernel_rfl) (fun _ _ _ h => h) (.inl ⟨by kernel_rfl, fun U hU => by have q0 : _ = some (Value.int .i64 bn) := hU.1.cell 0; have q1 : _ = some (Value.int .i64 cn) := hU.1.cell 1; go_simp⟩) hS0 ?_
      simp only [Act.put, List.setIfInBounds_toArray, List.set_cons_zero, List.set_cons_succ]
      refine take_at (i := 5) (d := 61) (v := .int .i64 (t + k)) rfl rfl (by kernel_rfl) (by kernel_rfl) (by kernel_rfl) (fun _ _ _ h => h) (.inl ⟨by kernel_rfl, fun U hU => by go_simp⟩) hS0 ?_
      simp only [Act.put, List.setIfInBounds_toArray, List.set_cons_zero, List.set_cons_succ]
      refine wpAnyH_all (rs := [6]) (by kernel_rfl) (by simp) ?_
      intro i hi
      simp only [List.mem_cons, List.not_mem_nil, or_false] at hi
      subst hi
      unfold wpOp
      go_simp
      left
      refine (slotat_any bn cn (t + k) _ h1 h2 h0).mono ?_
      rw [HQ.out]
      rintro e w2 ⟨rfl, b2⟩
      have hS1 : Bk w2 w.heap.size 25 #[.int .i64 bn, .int .i64 cn] ∧ w2.cell? ⟨bA, oA + (bn + q), none⟩ = some (.int .i64 y) := ⟨hS0.1.below b2 hS0.1.lt, by rw [b2.cell (p := ⟨bA, oA + (bn + q), none⟩) lAr]; exact hS0.2⟩
      have O2 := Lib.hid ((IJ.out.own.below (Below.refl _ _).drew).below b2)
      have hs2 : V1.heap.size ≤ w2.heap.size := Nat.le_trans hsz b2.size
      have BX := Lib.hid (below3 IJ.out.bl.drew b2)
      have lA3 : bA < w2.heap.size := Nat.lt_of_lt_of_le lAr b2.size
      have lq3 : w.heap.size < w2.heap.size := hS1.1.lt
      clear b2 c0 c1 l0 hcell hsz
      refine ⟨hS1, ?_⟩
      refine take_at (i := 7) (d := 63) (v := .int .i64 ((bn : Int) + q)) rfl rfl (by kernel_rfl) (by kernel_rfl) (by kernel_rfl) (fun _ _ _ h => h) (.inl ⟨by kernel_rfl, fun U hU => by have h7 : IntKind.i64.wrap ((bn : Int) + q) = (bn : Int) + q := (by rw [IntKind.wrap_i64]; omega); go_simp⟩) hS1 ?_
      simp only [Act.put, List.setIfInBounds_toArray, List.set_cons_zero, List.set_cons_succ]
      refine take_at (i := 8) (d := 64) (v := .pointer (some ⟨bA, oA + (bn + q), none⟩)) rfl rfl (by kernel_rfl) (by kernel_rfl) (by kernel_rfl) (fun _ _ _ h => h) (.inl ⟨by kernel_rfl, fun U hU => by have h7 : ¬ ((ms.length : Int) ≤ (bn : Int) + q) := (by omega); have h8 : (0 : Int) ≤ (bn : Int) + q := (by omega); have h9 : ((bn : Int) + q).toNat = bn + q := (by omega); go_simp⟩) hS1 ?_
      simp only [Act.put, List.setIfInBounds_toArray, List.set_cons_zero, List.set_cons_succ]
      refine take_at (i := 9) (d := 65) (v := .int .i64 y) rfl rfl (by kernel_rfl) (by kernel_rfl) (by kernel_rfl) (fun _ _ _ h => h) (.inl ⟨by kernel_rfl, fun U hU => by have h7 := hU.2; go_simp⟩) hS1 ?_
      simp only [Act.put, List.setIfInBounds_toArray, List.set_cons_zero, List.set_cons_succ]
      have hS2 : Bk (w2.alloc (.cells #[.int .i64 y] 2)) w.heap.size 25 #[.int .i64 bn, .int .i64 cn] ∧ (w2.alloc (.cells #[.int .i64 y] 2)).cell? ⟨bA, oA + (bn + q), none⟩ = some (.int .i64 y) := ⟨hS1.1.alloc _, by rw [((Below.refl w2.heap.size w2).alloc (Nat.le_refl _) (.cells #[.int .i64 y] 2)).cell (p := ⟨bA, oA + (bn + q), none⟩) lA3]; exact hS1.2⟩
      refine wpAnyH_all (rs := [10]) (by kernel_rfl) (by simp) ?_
      intro i hi
      simp only [List.mem_cons, List.not_mem_nil, or_false] at hi
      subst hi
      unfold wpOp
      go_simp
      left
      obtain ⟨v3, w3, hrun, A2, c2, rfl, ho, hg⟩ := run_append_ints (P := Try.prog) (w2.alloc (.cells #[.int .i64 y] 2)) 22 22 2 Try.underlying22 infoI V1.heap.size A' c' (lstP ms bn cn t k) (O2.out.below ((Below.refl _ _).alloc (Nat.le_refl _) _)) (some ⟨w2.heap.size, 0, none⟩) 1 1 [y] (ints1 w2 2 FY.out) (by rw [lstP_len]; omega) (by simp; omega)
      rw [lstP_len] at hrun hg
      have hS3 : Bk w3 w.heap.size 25 #[.int .i64 bn, .int .i64 cn] ∧ w3.cell? ⟨bA, oA + (bn + q), none⟩ = some (.int .i64 y) := ⟨hS2.1.grown hg (fun e => by have := O2.out.block _ e.symm; omega), by rw [grown_cell hg (by simp; omega) (fun e => by have := O2.out.block _ e.symm; simp only at this; omega)]; exact hS2.2⟩
      have HO := Lib.hid ho
      have BW := Lib.hid ((BX.out.alloc hs2 (.cells #[.int .i64 y] 2)).grown hg (by simp; omega) (fun j hj => O2.out.block j hj))
      clear ho hg
      refine wpAnyH_all (rs := [11]) (by kernel_rfl) (by simp) ?_
      intro i hi
      simp only [List.mem_cons, List.not_mem_nil, or_false] at hi
      subst hi
      refine wpOp_append (.tmp 56) (.tmp 66) 22 _ (.slice A' k c') (.slice (some ⟨w2.heap.size, 0, none⟩) 1 1) rfl (by kernel_rfl) rfl (by kernel_rfl) (by kernel_rfl) hrun ?_
      refine ⟨hS3, ?_⟩
      refine take_at (i := 12) (d := 9) (v := .slice A2 (lstP ms bn cn t k ++ [y]).length c2) rfl rfl (by kernel_rfl) (by kernel_rfl) (by kernel_rfl) (fun _ _ _ h => h) (.inl ⟨by kernel_rfl, fun U hU => by go_simp⟩) hS3 ?_
      refine wpAnyH_done (by kernel_rfl) ?_ _
      clear hS0 hS1 hS2 hS3 hrun kq
      go_wp2
      go_roundw
      case rel =>
        refine ⟨k + 1, A2, c2, hkn, by go_num, ?_, ?_⟩
        · simp [lstP_len]
        · refine Lib.hid ⟨?_, BW.out⟩
          rw [HL.out]
          exact HO.out
      case measure => simp [intOf]; omega
    · obtain rfl : k = (b - t).toNat := by omega
      go_wp2
      go_ret2
      exact ⟨A', c', by rw [lstP_len]; rfl, IJ.out.own.base B2.out.size, below3 B2.out IJ.out.bl⟩

end Go.Proofs.Ytfmiamjbhlglbaa
