/-
  The document's functions of layer 6: Walk, Where, New, Push, Pop, Cut, Join.
-/
import Derived.Test.YtiheeehegjfmgaaOf
import Derived.Test.YtiheeehegjfmgaaSa
namespace Go.Proofs.Ytiheeehegjfmgaa
open Go.RowKit

theorem ListsAns.no {next head tail : List Int} {w w' : World} {e : Ending} (h : ListsAns next head tail w e w') (hno : ∀ qs, ¬ Rep next head tail qs) : e = .returned (.tuple #[.slice none 0 0, .bool false]) ∧ Below w.heap.size w w' := by
  obtain ⟨hb, ⟨qs, r, _⟩ | ⟨_, he⟩⟩ := h
  · exact absurd r (hno qs)
  · exact ⟨he, hb⟩
theorem ListsAns.yes {next head tail : List Int} {w w' : World} {e : Ending} {qs : List (List Int)} (h : ListsAns next head tail w e w') (r : Rep next head tail qs) :
    ∃ H C hs, e = .returned (.tuple #[.slice H qs.length C, .bool true]) ∧ OwnQs 3 22 w' w.heap.size H C hs qs ∧ Below w.heap.size w w' := by
  obtain ⟨hb, ⟨qs', r', H, C, hs, he, hq⟩ | ⟨hno, _⟩⟩ := h
  · obtain rfl := r.unique r'
    exact ⟨H, C, hs, he, hq, hb⟩
  · exact absurd r (hno qs)
theorem Rep.mem_one {next head tail : List Int} {qs : List (List Int)} (h : Rep next head tail qs) {x : Int} : ∀ i j, i < qs.length → j < qs.length → x ∈ qth qs i → x ∈ qth qs j → i = j := by
  intro i j hi hj h1 h2
  obtain ⟨p, hp, e⟩ := mem_nth h1
  obtain ⟨q, hq, e'⟩ := mem_nth h2
  exact (h.one i j p q hi hj hp hq (by rw [e, e'])).1
theorem pigeon : ∀ (n : Nat) (l : List Int), (∀ p, p < l.length → 0 ≤ nth l p ∧ nth l p < (n : Int)) → (∀ p q, p < l.length → q < l.length → nth l p = nth l q → p = q) → l.length ≤ n
  | 0, l, h, _ => by
    rcases Nat.eq_zero_or_pos l.length with e | e
    · omega
    · have := h 0 e
      omega
  | n + 1, l, h, hi => by
    by_cases hex : ∃ p, p < l.length ∧ nth l p = (n : Int)
    · obtain ⟨p, hp, e⟩ := hex
      have hl := len_erase hp
      have hne : ∀ q, q < l.length → q ≠ p → nth l q ≠ (n : Int) := fun q hq hqp e2 => hqp (hi q p hq hp (by rw [e, e2]))
      have := pigeon n (l.eraseIdx p) (fun q hq => by
        rw [nth_erase]
        split
        · have h1 := h q (by omega)
          have h2 := hne q (by omega) (by omega)
          omega
        · have h1 := h (q + 1) (by omega)
          have h2 := hne (q + 1) (by omega) (by omega)
          omega) (fun q q' hq hq' e3 => by
        rw [nth_erase, nth_erase] at e3
        split at e3 <;> split at e3
        · exact hi _ _ (by omega) (by omega) e3
        · have := hi _ _ (by omega) (by omega) e3; omega
        · have := hi _ _ (by omega) (by omega) e3; omega
        · have := hi _ _ (by omega) (by omega) e3; omega)
      omega
    · have := pigeon n l (fun q hq => by
        have h1 := h q hq
        have h2 : nth l q ≠ (n : Int) := fun e => hex ⟨q, hq, e⟩
        omega) hi
      omega
theorem Rep.short {next head tail : List Int} {qs : List (List Int)} (h : Rep next head tail qs) {i : Nat} (hi : i < qs.length) : (qth qs i).length ≤ 1024 :=
  Nat.le_trans (pigeon next.length _ (fun p hp => h.rng i p hi hp) (fun p q hp hq e => (h.one i i p q hi hi hp hq e).2)) h.few
/-- Chains, and an error, are handed back; a number ahead of them. -/
def RetCE (next head tail : List Int) (er : Int) (w : World) (e : Ending) (w' : World) : Prop :=
  ∃ A a B b D d, e = .returned (.tuple #[.agg #[.slice A next.length a, .slice B head.length b, .slice D tail.length d], .int .i64 er]) ∧ QC w' w.heap.size A a B b D d next head tail ∧ Below w.heap.size w w'
def RetPE (x : Int) (next head tail : List Int) (er : Int) (w : World) (e : Ending) (w' : World) : Prop :=
  ∃ A a B b D d, e = .returned (.tuple #[.int .i64 x, .agg #[.slice A next.length a, .slice B head.length b, .slice D tail.length d], .int .i64 er]) ∧ QC w' w.heap.size A a B b D d next head tail ∧ Below w.heap.size w w'
/-- Numbers, and an error. -/
def RetIE (zs : List Int) (er : Int) (w : World) (e : Ending) (w' : World) : Prop :=
  ∃ A c, e = .returned (.tuple #[.slice A zs.length c, .int .i64 er]) ∧ OwnQ 3 w' w.heap.size A c zs ∧ Below w.heap.size w w'
def RetNE (x er : Int) (w : World) (e : Ending) (w' : World) : Prop := e = .returned (.tuple #[.int .i64 x, .int .i64 er]) ∧ Below w.heap.size w w'

set_option maxHeartbeats 1000000 in
theorem rwalk_no (A B D : Option Addr) (n a m b k d : Nat) (next head tail : List Int) (list : Int) (hno : ∀ qs, ¬ Rep next head tail qs) (w : World) (hp : Chn w A n B m D k next head tail) :
    Calls Try.prog 24 #[.agg #[.slice A n a, .slice B m b, .slice D k d], .int .i64 list] w (RetIE [] 1 w) := by
  have hb2 := (Below.refl w.heap.size w).alloc (Nat.le_refl _) (.cells #[.slice A n a, .slice B m b, .slice D k d] 24)
  have K2 := Bk.new w 24 #[.slice A n a, .slice B m b, .slice D k d]
  have HP2 := Lib.hid (hp.below hb2)
  have HB2 := Lib.hid hb2
  have c0 := K2.e0
  have c1 := K2.e1
  have c2 := K2.e2
  have hl := rlists_any A B D n a m b k d next head tail (w.alloc (.cells #[.slice A n a, .slice B m b, .slice D k d] 24)) HP2.out.x HP2.out.h HP2.out.t
  have HLX := Lib.hid hp.x.1
  clear hp hb2
  go_enter Try.func24, Try.ntmps24
  go_wp2_with (go_at_call 27; refine hl.mono ?_; clear hl; rintro e w3 h3; obtain ⟨rfl, hb3⟩ := h3.no hno; have HB3 := Lib.hid (below3 HB2.out hb3); have K3 := K2.below hb3 K2.lt; have k0 := K3.e0; clear hb3 h3)
  go_ret2
  exact ⟨none, 0, rfl, OwnQ.nil_ _ _ _, HB3.out⟩

set_option maxHeartbeats 1000000 in
theorem rwalk_out (A B D : Option Addr) (n a m b k d : Nat) (next head tail : List Int) (list : Int) (qs : List (List Int)) (r : Rep next head tail qs) (hin : inBd list (qs.length : Int) = false) (w : World) (hp : Chn w A n B m D k next head tail) :
    Calls Try.prog 24 #[.agg #[.slice A n a, .slice B m b, .slice D k d], .int .i64 list] w (RetIE [] 1 w) := by
  have hb2 := (Below.refl w.heap.size w).alloc (Nat.le_refl _) (.cells #[.slice A n a, .slice B m b, .slice D k d] 24)
  have K2 := Bk.new w 24 #[.slice A n a, .slice B m b, .slice D k d]
  have HP2 := Lib.hid (hp.below hb2)
  have HB2 := Lib.hid hb2
  have c0 := K2.e0
  have c1 := K2.e1
  have c2 := K2.e2
  have hl := rlists_any A B D n a m b k d next head tail (w.alloc (.cells #[.slice A n a, .slice B m b, .slice D k d] 24)) HP2.out.x HP2.out.h HP2.out.t
  have HLX := Lib.hid hp.x.1
  clear hp hb2
  go_enter Try.func24, Try.ntmps24
  go_wp2_with first
    | (go_at_call 27; refine hl.mono ?_; clear hl; rintro e w3 h3; obtain ⟨H, C, hs, rfl, hq3, hb3⟩ := h3.yes r; have HB3 := Lib.hid (below3 HB2.out hb3); have K3 := K2.below hb3 K2.lt; have k0 := K3.e0; have Q3 := Lib.hid hq3; have HS3 := Lib.hid hb3.size; clear hb3 h3 hq3)
    | (go_at_call 34; refine (rin_any _ _ _).mono ?_; rintro e w4 ⟨rfl, rfl⟩)
  go_ret2
  exact ⟨none, 0, rfl, OwnQ.nil_ _ _ _, HB3.out⟩

set_option maxHeartbeats 1000000 in
theorem rwalk_ok (A B D : Option Addr) (n a m b k d : Nat) (next head tail : List Int) (i : Nat) (qs : List (List Int)) (r : Rep next head tail qs) (hi : i < qs.length) (w : World) (hp : Chn w A n B m D k next head tail) :
    Calls Try.prog 24 #[.agg #[.slice A n a, .slice B m b, .slice D k d], .int .i64 i] w (RetIE (qth qs i) 0 w) := by
  have hb2 := (Below.refl w.heap.size w).alloc (Nat.le_refl _) (.cells #[.slice A n a, .slice B m b, .slice D k d] 24)
  have K2 := Bk.new w 24 #[.slice A n a, .slice B m b, .slice D k d]
  have HP2 := Lib.hid (hp.below hb2)
  have HB2 := Lib.hid hb2
  have c0 := K2.e0
  have c1 := K2.e1
  have c2 := K2.e2
  have hl := rlists_any A B D n a m b k d next head tail (w.alloc (.cells #[.slice A n a, .slice B m b, .slice D k d] 24)) HP2.out.x HP2.out.h HP2.out.t
  have HLX := Lib.hid hp.x.1
  clear hp hb2
  have hin : inBd (i : Int) (qs.length : Int) = true := by simp [inBd]; omega
  go_enter Try.func24, Try.ntmps24
  go_wp2_with first
    | (go_at_call 27; refine hl.mono ?_; clear hl; rintro e w3 h3; obtain ⟨H, C, hs, rfl, hq3, hb3⟩ := h3.yes r; have HB3 := Lib.hid (below3 HB2.out hb3); have K3 := K2.below hb3 K2.lt; have k0 := K3.e0; have Q3 := Lib.hid hq3; have HS3 := Lib.hid hb3.size; obtain ⟨gh, rfl, -, hgh⟩ := hq3.form (by omega); obtain ⟨ch, fh⟩ := hq3.at_ hi; have HHL := Lib.hid ((hq3.own i hi).ints); have HOW := Lib.hid ((hq3.own i hi).base_ (base' := w.heap.size) (by simp)); clear hb3 h3 hq3)
    | (go_at_call 34; refine (rin_any _ _ _).mono ?_; rintro e w4 ⟨rfl, rfl⟩)
  go_ret2
  exact ⟨_, _, rfl, HOW.out, HB3.out⟩

set_option maxHeartbeats 1000000 in
theorem rwhereF_no (A B D : Option Addr) (n a m b k d : Nat) (next head tail : List Int) (x : Int) (hno : ∀ qs, ¬ Rep next head tail qs) (w : World) (hp : Chn w A n B m D k next head tail) :
    Calls Try.prog 26 #[.agg #[.slice A n a, .slice B m b, .slice D k d], .int .i64 x] w (RetNE 0 1 w) := by
  have hb2 := (Below.refl w.heap.size w).alloc (Nat.le_refl _) (.cells #[.slice A n a, .slice B m b, .slice D k d] 24)
  have K2 := Bk.new w 24 #[.slice A n a, .slice B m b, .slice D k d]
  have HP2 := Lib.hid (hp.below hb2)
  have HB2 := Lib.hid hb2
  have c0 := K2.e0
  have c1 := K2.e1
  have c2 := K2.e2
  have hl := rlists_any A B D n a m b k d next head tail (w.alloc (.cells #[.slice A n a, .slice B m b, .slice D k d] 24)) HP2.out.x HP2.out.h HP2.out.t
  have HLX := Lib.hid hp.x.1
  clear hp hb2
  go_enter Try.func26, Try.ntmps26
  go_wp2_with (go_at_call 27; refine hl.mono ?_; clear hl; rintro e w3 h3; obtain ⟨rfl, hb3⟩ := h3.no hno; have HB3 := Lib.hid (below3 HB2.out hb3); have K3 := K2.below hb3 K2.lt; have k0 := K3.e0; clear hb3 h3)
  go_ret2
  exact ⟨rfl, HB3.out⟩

set_option maxHeartbeats 1000000 in
theorem rwhereF_out (A B D : Option Addr) (n a m b k d : Nat) (next head tail : List Int) (x : Int) (qs : List (List Int)) (r : Rep next head tail qs) (hin : inBd x (n : Int) = false) (w : World) (hp : Chn w A n B m D k next head tail) :
    Calls Try.prog 26 #[.agg #[.slice A n a, .slice B m b, .slice D k d], .int .i64 x] w (RetNE 0 1 w) := by
  have hb2 := (Below.refl w.heap.size w).alloc (Nat.le_refl _) (.cells #[.slice A n a, .slice B m b, .slice D k d] 24)
  have K2 := Bk.new w 24 #[.slice A n a, .slice B m b, .slice D k d]
  have HP2 := Lib.hid (hp.below hb2)
  have HB2 := Lib.hid hb2
  have c0 := K2.e0
  have c1 := K2.e1
  have c2 := K2.e2
  have hl := rlists_any A B D n a m b k d next head tail (w.alloc (.cells #[.slice A n a, .slice B m b, .slice D k d] 24)) HP2.out.x HP2.out.h HP2.out.t
  have HLX := Lib.hid hp.x.1
  clear hp hb2
  go_enter Try.func26, Try.ntmps26
  go_wp2_with first
    | (go_at_call 27; refine hl.mono ?_; clear hl; rintro e w3 h3; obtain ⟨H, C, hs, rfl, hq3, hb3⟩ := h3.yes r; have HB3 := Lib.hid (below3 HB2.out hb3); have K3 := K2.below hb3 K2.lt; have k0 := K3.e0; have Q3 := Lib.hid hq3; have HS3 := Lib.hid hb3.size; clear hb3 h3 hq3)
    | (go_at_call 34; refine (rin_any _ _ _).mono ?_; rintro e w4 ⟨rfl, rfl⟩)
  go_ret2
  exact ⟨rfl, HB3.out⟩

set_option maxHeartbeats 1000000 in
theorem rwhereF_ok (A B D : Option Addr) (n a m b k d : Nat) (next head tail : List Int) (x : Int) (qs : List (List Int)) (r : Rep next head tail qs) (hin : inBd x (n : Int) = true) (w : World) (hp : Chn w A n B m D k next head tail) :
    Calls Try.prog 26 #[.agg #[.slice A n a, .slice B m b, .slice D k d], .int .i64 x] w (RetNE (whereQ qs x) 0 w) := by
  have hb2 := (Below.refl w.heap.size w).alloc (Nat.le_refl _) (.cells #[.slice A n a, .slice B m b, .slice D k d] 24)
  have K2 := Bk.new w 24 #[.slice A n a, .slice B m b, .slice D k d]
  have HP2 := Lib.hid (hp.below hb2)
  have HB2 := Lib.hid hb2
  have c0 := K2.e0
  have c1 := K2.e1
  have c2 := K2.e2
  have hl := rlists_any A B D n a m b k d next head tail (w.alloc (.cells #[.slice A n a, .slice B m b, .slice D k d] 24)) HP2.out.x HP2.out.h HP2.out.t
  have HLX := Lib.hid hp.x.1
  clear hp hb2
  go_enter Try.func26, Try.ntmps26
  go_wp2_with first
    | (go_at_call 27; refine hl.mono ?_; clear hl; rintro e w3 h3; obtain ⟨H, C, hs, rfl, hq3, hb3⟩ := h3.yes r; have HB3 := Lib.hid (below3 HB2.out hb3); have K3 := K2.below hb3 K2.lt; have k0 := K3.e0; have Q3 := Lib.hid hq3; have HS3 := Lib.hid hb3.size; clear hb3 h3 hq3)
    | (go_at_call 34; refine (rin_any _ _ _).mono ?_; rintro e w4 ⟨rfl, rfl⟩)
    | (go_at_call 35; refine (rwhere_any H qs.length C hs qs x _ w3 rfl r.l2 Q3.out r.mem_one).mono ?_; rintro e w5 ⟨rfl, rfl⟩)
  go_ret2
  exact ⟨rfl, HB3.out⟩

set_option maxHeartbeats 1000000 in
theorem rpush_no (A B D : Option Addr) (n a m b k d : Nat) (next head tail : List Int) (list x : Int) (hno : ∀ qs, ¬ Rep next head tail qs) (w : World) (hp : Chn w A n B m D k next head tail) :
    Calls Try.prog 13 #[.agg #[.slice A n a, .slice B m b, .slice D k d], .int .i64 list, .int .i64 x] w (RetCE [] [] [] 1 w) := by
  have hb2 := ((Below.refl w.heap.size w).alloc (Nat.le_refl _) (.cells #[.slice A n a, .slice B m b, .slice D k d] 24)).alloc (by simp) (.cells #[.slice none 0 0, .slice none 0 0, .slice none 0 0] 24)
  have K2 := (Bk.new w 24 #[.slice A n a, .slice B m b, .slice D k d]).alloc (.cells #[.slice none 0 0, .slice none 0 0, .slice none 0 0] 24)
  have Z2 := Bk.new (w.alloc (.cells #[.slice A n a, .slice B m b, .slice D k d] 24)) 24 #[.slice none 0 0, .slice none 0 0, .slice none 0 0]
  rw [size_alloc] at Z2
  have HP2 := Lib.hid (hp.below hb2)
  have HB2 := Lib.hid hb2
  have c0 := K2.e0
  have c1 := K2.e1
  have c2 := K2.e2
  have hl := rlists_any A B D n a m b k d next head tail ((w.alloc (.cells #[.slice A n a, .slice B m b, .slice D k d] 24)).alloc (.cells #[.slice none 0 0, .slice none 0 0, .slice none 0 0] 24)) HP2.out.x HP2.out.h HP2.out.t
  have HLX := Lib.hid hp.x.1
  clear hp hb2
  go_enter Try.func13, Try.ntmps13
  go_wp2_with (go_at_call 27; refine hl.mono ?_; clear hl; rintro e w3 h3; obtain ⟨rfl, hb3⟩ := h3.no hno; have HB3 := Lib.hid (below3 HB2.out hb3); have K3 := K2.below hb3 K2.lt; have k0 := K3.e0; have Z3 := Z2.below hb3 Z2.lt; have z0 := Z3.e0; have z1 := Z3.e1; have z2 := Z3.e2; have f0 := Z3.frozen 0; have f1 := Z3.frozen 1; have f2 := Z3.frozen 2; clear hb3 h3)
  exact bodyPost_ret (v := .tuple #[.agg #[.slice none 0 0, .slice none 0 0, .slice none 0 0], .int .i64 1]) (by simp [results, Try.results13, go_sem, *]) rfl ⟨none, 0, none, 0, none, 0, rfl, QC.nil_ _ _, (((HB3.out.setCell (p := ⟨w.heap.size + 1, 0, none⟩) (by simp) (.slice none 0 0)).setCell (p := ⟨w.heap.size + 1, 1, none⟩) (by simp) (.slice none 0 0)).setCell (p := ⟨w.heap.size + 1, 2, none⟩) (by simp) (.slice none 0 0))⟩

set_option maxHeartbeats 1000000 in
theorem rpush_out1 (A B D : Option Addr) (n a m b k d : Nat) (next head tail : List Int) (list x : Int) (qs : List (List Int)) (r : Rep next head tail qs) (hin : inBd list (qs.length : Int) = false) (w : World) (hp : Chn w A n B m D k next head tail) :
    Calls Try.prog 13 #[.agg #[.slice A n a, .slice B m b, .slice D k d], .int .i64 list, .int .i64 x] w (RetCE [] [] [] 1 w) := by
  have hb2 := ((Below.refl w.heap.size w).alloc (Nat.le_refl _) (.cells #[.slice A n a, .slice B m b, .slice D k d] 24)).alloc (by simp) (.cells #[.slice none 0 0, .slice none 0 0, .slice none 0 0] 24)
  have K2 := (Bk.new w 24 #[.slice A n a, .slice B m b, .slice D k d]).alloc (.cells #[.slice none 0 0, .slice none 0 0, .slice none 0 0] 24)
  have Z2 := Bk.new (w.alloc (.cells #[.slice A n a, .slice B m b, .slice D k d] 24)) 24 #[.slice none 0 0, .slice none 0 0, .slice none 0 0]
  rw [size_alloc] at Z2
  have HP2 := Lib.hid (hp.below hb2)
  have HB2 := Lib.hid hb2
  have c0 := K2.e0
  have c1 := K2.e1
  have c2 := K2.e2
  have hl := rlists_any A B D n a m b k d next head tail ((w.alloc (.cells #[.slice A n a, .slice B m b, .slice D k d] 24)).alloc (.cells #[.slice none 0 0, .slice none 0 0, .slice none 0 0] 24)) HP2.out.x HP2.out.h HP2.out.t
  have HLX := Lib.hid hp.x.1
  clear hp hb2
  go_enter Try.func13, Try.ntmps13
  go_wp2_with first
    | (go_at_call 27; refine hl.mono ?_; clear hl; rintro e w3 h3; obtain ⟨H, C, hs, rfl, hq3, hb3⟩ := h3.yes r; have HB3 := Lib.hid (below3 HB2.out hb3); have K3 := K2.below hb3 K2.lt; have k0 := K3.e0; have Q3 := Lib.hid hq3; have HS3 := Lib.hid hb3.size; have Z3 := Z2.below hb3 Z2.lt; have z0 := Z3.e0; have z1 := Z3.e1; have z2 := Z3.e2; have f0 := Z3.frozen 0; have f1 := Z3.frozen 1; have f2 := Z3.frozen 2; clear hb3 h3 hq3)
    | (go_at_call 34; refine (rin_any _ _ _).mono ?_; rintro e w4 ⟨rfl, rfl⟩)
  exact bodyPost_ret (v := .tuple #[.agg #[.slice none 0 0, .slice none 0 0, .slice none 0 0], .int .i64 1]) (by simp [results, Try.results13, go_sem, *]) rfl ⟨none, 0, none, 0, none, 0, rfl, QC.nil_ _ _, (((HB3.out.setCell (p := ⟨w.heap.size + 1, 0, none⟩) (by simp) (.slice none 0 0)).setCell (p := ⟨w.heap.size + 1, 1, none⟩) (by simp) (.slice none 0 0)).setCell (p := ⟨w.heap.size + 1, 2, none⟩) (by simp) (.slice none 0 0))⟩

set_option maxHeartbeats 1000000 in
theorem rpush_out2 (A B D : Option Addr) (n a m b k d : Nat) (next head tail : List Int) (list x : Int) (qs : List (List Int)) (r : Rep next head tail qs) (hin : inBd list (qs.length : Int) = true) (hin2 : inBd x (n : Int) = false) (w : World) (hp : Chn w A n B m D k next head tail) :
    Calls Try.prog 13 #[.agg #[.slice A n a, .slice B m b, .slice D k d], .int .i64 list, .int .i64 x] w (RetCE [] [] [] 1 w) := by
  have hb2 := ((Below.refl w.heap.size w).alloc (Nat.le_refl _) (.cells #[.slice A n a, .slice B m b, .slice D k d] 24)).alloc (by simp) (.cells #[.slice none 0 0, .slice none 0 0, .slice none 0 0] 24)
  have K2 := (Bk.new w 24 #[.slice A n a, .slice B m b, .slice D k d]).alloc (.cells #[.slice none 0 0, .slice none 0 0, .slice none 0 0] 24)
  have Z2 := Bk.new (w.alloc (.cells #[.slice A n a, .slice B m b, .slice D k d] 24)) 24 #[.slice none 0 0, .slice none 0 0, .slice none 0 0]
  rw [size_alloc] at Z2
  have HP2 := Lib.hid (hp.below hb2)
  have HB2 := Lib.hid hb2
  have c0 := K2.e0
  have c1 := K2.e1
  have c2 := K2.e2
  have hl := rlists_any A B D n a m b k d next head tail ((w.alloc (.cells #[.slice A n a, .slice B m b, .slice D k d] 24)).alloc (.cells #[.slice none 0 0, .slice none 0 0, .slice none 0 0] 24)) HP2.out.x HP2.out.h HP2.out.t
  have HLX := Lib.hid hp.x.1
  clear hp hb2
  go_enter Try.func13, Try.ntmps13
  go_wp2_with first
    | (go_at_call 27; refine hl.mono ?_; clear hl; rintro e w3 h3; obtain ⟨H, C, hs, rfl, hq3, hb3⟩ := h3.yes r; have HB3 := Lib.hid (below3 HB2.out hb3); have K3 := K2.below hb3 K2.lt; have k0 := K3.e0; have Q3 := Lib.hid hq3; have HS3 := Lib.hid hb3.size; have Z3 := Z2.below hb3 Z2.lt; have z0 := Z3.e0; have z1 := Z3.e1; have z2 := Z3.e2; have f0 := Z3.frozen 0; have f1 := Z3.frozen 1; have f2 := Z3.frozen 2; clear hb3 h3 hq3)
    | (go_at_call 34; refine (rin_any _ _ _).mono ?_; rintro e w4 ⟨rfl, rfl⟩)
  exact bodyPost_ret (v := .tuple #[.agg #[.slice none 0 0, .slice none 0 0, .slice none 0 0], .int .i64 1]) (by simp [results, Try.results13, go_sem, *]) rfl ⟨none, 0, none, 0, none, 0, rfl, QC.nil_ _ _, (((HB3.out.setCell (p := ⟨w.heap.size + 1, 0, none⟩) (by simp) (.slice none 0 0)).setCell (p := ⟨w.heap.size + 1, 1, none⟩) (by simp) (.slice none 0 0)).setCell (p := ⟨w.heap.size + 1, 2, none⟩) (by simp) (.slice none 0 0))⟩

set_option maxHeartbeats 1000000 in
theorem rpush_there (A B D : Option Addr) (n a m b k d : Nat) (next head tail : List Int) (list x : Int) (qs : List (List Int)) (r : Rep next head tail qs) (hin : inBd list (qs.length : Int) = true) (hin2 : inBd x (n : Int) = true) (hw : 0 ≤ whereQ qs x) (w : World) (hp : Chn w A n B m D k next head tail) :
    Calls Try.prog 13 #[.agg #[.slice A n a, .slice B m b, .slice D k d], .int .i64 list, .int .i64 x] w (RetCE [] [] [] 6 w) := by
  have hb2 := ((Below.refl w.heap.size w).alloc (Nat.le_refl _) (.cells #[.slice A n a, .slice B m b, .slice D k d] 24)).alloc (by simp) (.cells #[.slice none 0 0, .slice none 0 0, .slice none 0 0] 24)
  have K2 := (Bk.new w 24 #[.slice A n a, .slice B m b, .slice D k d]).alloc (.cells #[.slice none 0 0, .slice none 0 0, .slice none 0 0] 24)
  have Z2 := Bk.new (w.alloc (.cells #[.slice A n a, .slice B m b, .slice D k d] 24)) 24 #[.slice none 0 0, .slice none 0 0, .slice none 0 0]
  rw [size_alloc] at Z2
  have HP2 := Lib.hid (hp.below hb2)
  have HB2 := Lib.hid hb2
  have c0 := K2.e0
  have c1 := K2.e1
  have c2 := K2.e2
  have hl := rlists_any A B D n a m b k d next head tail ((w.alloc (.cells #[.slice A n a, .slice B m b, .slice D k d] 24)).alloc (.cells #[.slice none 0 0, .slice none 0 0, .slice none 0 0] 24)) HP2.out.x HP2.out.h HP2.out.t
  have HLX := Lib.hid hp.x.1
  clear hp hb2
  go_enter Try.func13, Try.ntmps13
  go_wp2_with first
    | (go_at_call 27; refine hl.mono ?_; clear hl; rintro e w3 h3; obtain ⟨H, C, hs, rfl, hq3, hb3⟩ := h3.yes r; have HB3 := Lib.hid (below3 HB2.out hb3); have K3 := K2.below hb3 K2.lt; have k0 := K3.e0; have Q3 := Lib.hid hq3; have HS3 := Lib.hid hb3.size; have Z3 := Z2.below hb3 Z2.lt; have z0 := Z3.e0; have z1 := Z3.e1; have z2 := Z3.e2; have f0 := Z3.frozen 0; have f1 := Z3.frozen 1; have f2 := Z3.frozen 2; clear hb3 h3 hq3)
    | (go_at_call 34; refine (rin_any _ _ _).mono ?_; rintro e w4 ⟨rfl, rfl⟩)
    | (go_at_call 35; refine (rwhere_any H qs.length C hs qs x _ w3 rfl r.l2 Q3.out r.mem_one).mono ?_; rintro e w5 ⟨rfl, rfl⟩)
  exact bodyPost_ret (v := .tuple #[.agg #[.slice none 0 0, .slice none 0 0, .slice none 0 0], .int .i64 6]) (by simp [results, Try.results13, go_sem, *]) rfl ⟨none, 0, none, 0, none, 0, rfl, QC.nil_ _ _, (((HB3.out.setCell (p := ⟨w.heap.size + 1, 0, none⟩) (by simp) (.slice none 0 0)).setCell (p := ⟨w.heap.size + 1, 1, none⟩) (by simp) (.slice none 0 0)).setCell (p := ⟨w.heap.size + 1, 2, none⟩) (by simp) (.slice none 0 0))⟩

/-- What stays while a row of the lists is appended onto, and put in its place. -/
theorem put_after {w1 w5 : World} {base g C i : Nat} {hs : List (Option Addr × Nat)} {qs : List (List Int)} (h : OwnQs 3 22 w1 base (some ⟨g, 0, none⟩) C hs qs) (hi : i < qs.length) {n0 c0 : Nat} (hg : w1.grownBy w5 (Value.slice (qa hs i).1 n0 c0).ownBlock)
    {A' : Option Addr} {c' : Nat} {l : List Int} (ln : Nat) (hln : l.length = ln) (hq : OwnQ 3 w5 base A' c' l) (hf : ∀ k, (Value.slice A' 0 0).ownBlock = some k → (Value.slice (qa hs i).1 0 0).ownBlock = some k ∨ w1.heap.size ≤ k) :
    (∃ v, w5.cell? ⟨g, i, none⟩ = some v) ∧ w5.frozen? ⟨g, i, none⟩ = false ∧ OwnQs 3 22 (w5.setCell ⟨g, i, none⟩ (.slice A' ln c')) base (some ⟨g, 0, none⟩) C (hs.set i (A', c')) (qs.set i l) ∧
      (∀ {k : Nat} {T : TypeId} {cs : Array Value}, Bk w1 k T cs → k < base → Bk (w5.setCell ⟨g, i, none⟩ (.slice A' ln c')) k T cs) ∧ (∀ {W : World}, Below W.heap.size W w1 → W.heap.size ≤ base → Below W.heap.size W (w5.setCell ⟨g, i, none⟩ (.slice A' ln c'))) ∧ (∀ {k : Nat} {T : TypeId} {cs : Array Value}, Bk w1 k T cs → k < base → Bk w5 k T cs) := by
  subst hln
  have hg' : w1.grownBy w5 (qblk (qa hs i)) := by
    have : (Value.slice (qa hs i).1 n0 c0).ownBlock = qblk (qa hs i) := blk_any _ _ _
    rwa [this] at hg
  have hgb := (h.hblock (n := 0) (d := 0) g rfl).1
  obtain ⟨ch, hkh⟩ := h.type (n := 0) (d := 0) (k := g) rfl
  have hne : (some g : Option Nat) ≠ qblk (qa hs i) := by
    intro e
    obtain ⟨cs', hk'⟩ := (h.own i hi).type (n := 0) (d := 0) (k := g) e.symm
    have := bk_types hk' hkh
    revert this; decide
  have hk5 := hkh.grown hg' hne
  obtain ⟨c1, _⟩ := h.at_ hi
  rw [hkh.cell] at c1
  have hblk : ∀ k, qblk (qa hs i) = some k → base ≤ k := fun k hk => ((h.own i hi).block (n := 0) (d := 0) k hk).1
  have hk0 : ∀ {k : Nat} {T : TypeId} {cs : Array Value}, Bk w1 k T cs → k < base → Bk w5 k T cs := fun hk hlt => hk.grown hg' fun e => by have := hblk _ e.symm; omega
  refine ⟨⟨_, by rw [hk5.cell]; exact c1⟩, hk5.frozen i, h.put (by decide) hi hg' hq hf, fun hk hlt => (hk0 hk hlt).far (by simp; omega) _, fun hb hW => (hb.grown hg' hb.size fun k hk => by have := hblk k hk; omega).setCell (p := ⟨g, i, none⟩) (by simp; omega) _, hk0⟩

set_option maxHeartbeats 1000000 in
theorem rpush_ok (A B D : Option Addr) (n a m b k d : Nat) (next head tail : List Int) (i : Nat) (x : Int) (qs : List (List Int)) (N0 H0 T0 : List Int) (r : Rep next head tail qs) (hi : i < qs.length) (hx : inBd x (n : Int) = true) (hw : whereQ qs x = -1) (r' : Rep N0 H0 T0 (qs.set i (qth qs i ++ [x]))) (hN0 : N0.length = n) (w : World) (hp : Chn w A n B m D k next head tail) :
    Calls Try.prog 13 #[.agg #[.slice A n a, .slice B m b, .slice D k d], .int .i64 i, .int .i64 x] w (RetCE N0 H0 T0 0 w) := by
  have hb2 := ((Below.refl w.heap.size w).alloc (Nat.le_refl _) (.cells #[.slice A n a, .slice B m b, .slice D k d] 24)).alloc (by simp) (.cells #[.slice none 0 0, .slice none 0 0, .slice none 0 0] 24)
  have K2 := (Bk.new w 24 #[.slice A n a, .slice B m b, .slice D k d]).alloc (.cells #[.slice none 0 0, .slice none 0 0, .slice none 0 0] 24)
  have Z2 := Bk.new (w.alloc (.cells #[.slice A n a, .slice B m b, .slice D k d] 24)) 24 #[.slice none 0 0, .slice none 0 0, .slice none 0 0]
  rw [size_alloc] at Z2
  have HP2 := Lib.hid (hp.below hb2)
  have HB2 := Lib.hid hb2
  have c0 := K2.e0
  have c1 := K2.e1
  have c2 := K2.e2
  have hl := rlists_any A B D n a m b k d next head tail ((w.alloc (.cells #[.slice A n a, .slice B m b, .slice D k d] 24)).alloc (.cells #[.slice none 0 0, .slice none 0 0, .slice none 0 0] 24)) HP2.out.x HP2.out.h HP2.out.t
  have HLX := Lib.hid hp.x.1
  clear hp hb2
  have hin : inBd (i : Int) (qs.length : Int) = true := by simp [inBd]; omega
  have hn1 : n ≤ 1024 := by rw [← HLX.out]; exact r.few
  have hxf : Fit x := by have hx' : 0 ≤ x ∧ x < n := by simpa [inBd] using hx
                         unfold Fit; omega
  have hw0 : ¬ 0 ≤ whereQ qs x := by rw [hw]; omega
  go_enter Try.func13, Try.ntmps13
  go_wp2_with first
    | (go_at_call 27; refine hl.mono ?_; clear hl; rintro e w3 h3; obtain ⟨H, C, hs, rfl, hq3, hb3⟩ := h3.yes r; have HB3 := Lib.hid (below3 HB2.out hb3); have K3 := K2.below hb3 K2.lt; have k0 := K3.e0; have Q3 := Lib.hid hq3; have HS3 := Lib.hid hb3.size; have Z3 := Z2.below hb3 Z2.lt; have z0 := Z3.e0; have z1 := Z3.e1; have z2 := Z3.e2; have f0 := Z3.frozen 0; have f1 := Z3.frozen 1; have f2 := Z3.frozen 2; obtain ⟨gh, rfl, -, hgh⟩ := hq3.form (by omega); obtain ⟨ch, fh⟩ := hq3.at_ hi; have HHL := Lib.hid ((hq3.own i hi).ints); have HS3b : Hid (w.heap.size + 2 ≤ w3.heap.size) := Lib.hid (by have := hb3.size; simp at this; omega); have hl8 := r.short hi; have Q4 := Lib.hid (hq3.below ((Below.refl w3.heap.size w3).alloc (Nat.le_refl _) (.cells #[.int .i64 x] 3))); have HB4 := Lib.hid (HB3.out.alloc HB3.out.size (.cells #[.int .i64 x] 3)); clear hb3 h3 hq3)
    | (go_at_call 34; refine (rin_any _ _ _).mono ?_; rintro e w4 ⟨rfl, rfl⟩)
    | (go_at_call 35; refine (rwhere_any (some ⟨gh, 0, none⟩) qs.length C hs qs x _ w3 rfl r.l2 Q3.out r.mem_one).mono ?_; rintro e w5 ⟨rfl, rfl⟩)
    | (at_builtin; refine wpList_append_que _ rfl _ _ 22 rfl 3 Try.underlying22 Try.intInfo _ (qa hs i).1 (qa hs i).2 (qth qs i) (qth qs i).length rfl rfl (Q4.out.own i hi) (some ⟨w3.heap.size, 0, none⟩) 1 1 [x] rfl (ints1 w3 3 hxf) (by omega) (by have := HS3.out; simp at this; simp; omega) ?_; intro A5 c5 w5 hq5 hg5 hf5; have e5 : (qth qs i ++ [x]).length = (qth qs i).length + 1 := (by simp); rw [e5]; obtain ⟨⟨v5, cv5⟩, fr5, Q6', K6', B6', K5'⟩ := put_after Q4.out hi hg5 ((qth qs i).length + 1) (by simp) hq5 hf5; have Q6 := Lib.hid Q6'; have HB6 := Lib.hid (B6' HB4.out (by rw [size_alloc, size_alloc]; omega)); have KC6 := K6' (K3.alloc _) (by rw [size_alloc, size_alloc]; omega); have k60 := KC6.e0; have KZ6 := K6' (Z3.alloc _) (by rw [size_alloc, size_alloc]; omega); have HSZ := Lib.hid (KZ6.lt); clear Q6' K6' B6' K5' hq5 hg5 hf5 Q4)
    | (go_at_call 36; refine (rof_any _ _ _ _ _ _ N0 H0 T0 n _ hN0 (by simp) r' Q6.out).mono ?_; rintro e w7 ⟨A7, a7, B7, b7, D7, d7, rfl, hq7, hb7⟩; have Z7 := KZ6.below hb7 KZ6.lt; have z0 := Z7.e0; have z1 := Z7.e1; have z2 := Z7.e2; have f0 := Z7.frozen 0; have f1 := Z7.frozen 1; have f2 := Z7.frozen 2; have HB7 := Lib.hid (below3 HB6.out hb7); have Q7 := Lib.hid hq7; clear hb7 hq7)
  have hbz := HSZ.out
  exact bodyPost_ret (v := .tuple #[.agg #[.slice A7 n a7, .slice B7 H0.length b7, .slice D7 T0.length d7], .int .i64 0]) (by simp [results, Try.results13, go_sem, *]) rfl ⟨A7, a7, B7, b7, D7, d7, by rw [hN0], (((Q7.out.far (p := ⟨w.heap.size + 1, 0, none⟩) (by first | (simp only []; omega) | (simp at hbz ⊢; omega)) (.slice A7 n a7)).far (p := ⟨w.heap.size + 1, 1, none⟩) (by first | (simp only []; omega) | (simp at hbz ⊢; omega)) (.slice B7 H0.length b7)).far (p := ⟨w.heap.size + 1, 2, none⟩) (by first | (simp only []; omega) | (simp at hbz ⊢; omega)) (.slice D7 T0.length d7)).base_ (by first | omega | (simp at hbz ⊢; omega)), (((HB7.out.setCell (p := ⟨w.heap.size + 1, 0, none⟩) (by simp) (.slice A7 n a7)).setCell (p := ⟨w.heap.size + 1, 1, none⟩) (by simp) (.slice B7 H0.length b7)).setCell (p := ⟨w.heap.size + 1, 2, none⟩) (by simp) (.slice D7 T0.length d7))⟩

set_option maxHeartbeats 1000000 in
theorem rpop_no (A B D : Option Addr) (n a m b k d : Nat) (next head tail : List Int) (list : Int) (hno : ∀ qs, ¬ Rep next head tail qs) (w : World) (hp : Chn w A n B m D k next head tail) :
    Calls Try.prog 15 #[.agg #[.slice A n a, .slice B m b, .slice D k d], .int .i64 list] w (RetPE 0 [] [] [] 1 w) := by
  have hb2 := ((Below.refl w.heap.size w).alloc (Nat.le_refl _) (.cells #[.slice A n a, .slice B m b, .slice D k d] 24)).alloc (by simp) (.cells #[.slice none 0 0, .slice none 0 0, .slice none 0 0] 24)
  have K2 := (Bk.new w 24 #[.slice A n a, .slice B m b, .slice D k d]).alloc (.cells #[.slice none 0 0, .slice none 0 0, .slice none 0 0] 24)
  have Z2 := Bk.new (w.alloc (.cells #[.slice A n a, .slice B m b, .slice D k d] 24)) 24 #[.slice none 0 0, .slice none 0 0, .slice none 0 0]
  rw [size_alloc] at Z2
  have HP2 := Lib.hid (hp.below hb2)
  have HB2 := Lib.hid hb2
  have c0 := K2.e0
  have c1 := K2.e1
  have c2 := K2.e2
  have hl := rlists_any A B D n a m b k d next head tail ((w.alloc (.cells #[.slice A n a, .slice B m b, .slice D k d] 24)).alloc (.cells #[.slice none 0 0, .slice none 0 0, .slice none 0 0] 24)) HP2.out.x HP2.out.h HP2.out.t
  have HLX := Lib.hid hp.x.1
  clear hp hb2
  go_enter Try.func15, Try.ntmps15
  go_wp2_with (go_at_call 27; refine hl.mono ?_; clear hl; rintro e w3 h3; obtain ⟨rfl, hb3⟩ := h3.no hno; have HB3 := Lib.hid (below3 HB2.out hb3); have K3 := K2.below hb3 K2.lt; have k0 := K3.e0; have Z3 := Z2.below hb3 Z2.lt; have z0 := Z3.e0; have z1 := Z3.e1; have z2 := Z3.e2; have f0 := Z3.frozen 0; have f1 := Z3.frozen 1; have f2 := Z3.frozen 2; clear hb3 h3)
  exact bodyPost_ret (v := .tuple #[.int .i64 0, .agg #[.slice none 0 0, .slice none 0 0, .slice none 0 0], .int .i64 1]) (by simp [results, Try.results15, go_sem, *]) rfl ⟨none, 0, none, 0, none, 0, rfl, QC.nil_ _ _, (((HB3.out.setCell (p := ⟨w.heap.size + 1, 0, none⟩) (by simp) (.slice none 0 0)).setCell (p := ⟨w.heap.size + 1, 1, none⟩) (by simp) (.slice none 0 0)).setCell (p := ⟨w.heap.size + 1, 2, none⟩) (by simp) (.slice none 0 0))⟩

set_option maxHeartbeats 1000000 in
theorem rpop_out (A B D : Option Addr) (n a m b k d : Nat) (next head tail : List Int) (list : Int) (qs : List (List Int)) (r : Rep next head tail qs) (hin : inBd list (qs.length : Int) = false) (w : World) (hp : Chn w A n B m D k next head tail) :
    Calls Try.prog 15 #[.agg #[.slice A n a, .slice B m b, .slice D k d], .int .i64 list] w (RetPE 0 [] [] [] 1 w) := by
  have hb2 := ((Below.refl w.heap.size w).alloc (Nat.le_refl _) (.cells #[.slice A n a, .slice B m b, .slice D k d] 24)).alloc (by simp) (.cells #[.slice none 0 0, .slice none 0 0, .slice none 0 0] 24)
  have K2 := (Bk.new w 24 #[.slice A n a, .slice B m b, .slice D k d]).alloc (.cells #[.slice none 0 0, .slice none 0 0, .slice none 0 0] 24)
  have Z2 := Bk.new (w.alloc (.cells #[.slice A n a, .slice B m b, .slice D k d] 24)) 24 #[.slice none 0 0, .slice none 0 0, .slice none 0 0]
  rw [size_alloc] at Z2
  have HP2 := Lib.hid (hp.below hb2)
  have HB2 := Lib.hid hb2
  have c0 := K2.e0
  have c1 := K2.e1
  have c2 := K2.e2
  have hl := rlists_any A B D n a m b k d next head tail ((w.alloc (.cells #[.slice A n a, .slice B m b, .slice D k d] 24)).alloc (.cells #[.slice none 0 0, .slice none 0 0, .slice none 0 0] 24)) HP2.out.x HP2.out.h HP2.out.t
  have HLX := Lib.hid hp.x.1
  clear hp hb2
  go_enter Try.func15, Try.ntmps15
  go_wp2_with first
    | (go_at_call 27; refine hl.mono ?_; clear hl; rintro e w3 h3; obtain ⟨H, C, hs, rfl, hq3, hb3⟩ := h3.yes r; have HB3 := Lib.hid (below3 HB2.out hb3); have K3 := K2.below hb3 K2.lt; have k0 := K3.e0; have Q3 := Lib.hid hq3; have HS3 := Lib.hid hb3.size; have Z3 := Z2.below hb3 Z2.lt; have z0 := Z3.e0; have z1 := Z3.e1; have z2 := Z3.e2; have f0 := Z3.frozen 0; have f1 := Z3.frozen 1; have f2 := Z3.frozen 2; clear hb3 h3 hq3)
    | (go_at_call 34; refine (rin_any _ _ _).mono ?_; rintro e w4 ⟨rfl, rfl⟩)
  exact bodyPost_ret (v := .tuple #[.int .i64 0, .agg #[.slice none 0 0, .slice none 0 0, .slice none 0 0], .int .i64 1]) (by simp [results, Try.results15, go_sem, *]) rfl ⟨none, 0, none, 0, none, 0, rfl, QC.nil_ _ _, (((HB3.out.setCell (p := ⟨w.heap.size + 1, 0, none⟩) (by simp) (.slice none 0 0)).setCell (p := ⟨w.heap.size + 1, 1, none⟩) (by simp) (.slice none 0 0)).setCell (p := ⟨w.heap.size + 1, 2, none⟩) (by simp) (.slice none 0 0))⟩

set_option maxHeartbeats 1000000 in
theorem rpop_none (A B D : Option Addr) (n a m b k d : Nat) (next head tail : List Int) (i : Nat) (qs : List (List Int)) (r : Rep next head tail qs) (hi : i < qs.length) (hz : (qth qs i).length = 0) (w : World) (hp : Chn w A n B m D k next head tail) :
    Calls Try.prog 15 #[.agg #[.slice A n a, .slice B m b, .slice D k d], .int .i64 i] w (RetPE 0 [] [] [] 5 w) := by
  have hb2 := ((Below.refl w.heap.size w).alloc (Nat.le_refl _) (.cells #[.slice A n a, .slice B m b, .slice D k d] 24)).alloc (by simp) (.cells #[.slice none 0 0, .slice none 0 0, .slice none 0 0] 24)
  have K2 := (Bk.new w 24 #[.slice A n a, .slice B m b, .slice D k d]).alloc (.cells #[.slice none 0 0, .slice none 0 0, .slice none 0 0] 24)
  have Z2 := Bk.new (w.alloc (.cells #[.slice A n a, .slice B m b, .slice D k d] 24)) 24 #[.slice none 0 0, .slice none 0 0, .slice none 0 0]
  rw [size_alloc] at Z2
  have HP2 := Lib.hid (hp.below hb2)
  have HB2 := Lib.hid hb2
  have c0 := K2.e0
  have c1 := K2.e1
  have c2 := K2.e2
  have hl := rlists_any A B D n a m b k d next head tail ((w.alloc (.cells #[.slice A n a, .slice B m b, .slice D k d] 24)).alloc (.cells #[.slice none 0 0, .slice none 0 0, .slice none 0 0] 24)) HP2.out.x HP2.out.h HP2.out.t
  have HLX := Lib.hid hp.x.1
  clear hp hb2
  have hin : inBd (i : Int) (qs.length : Int) = true := by simp [inBd]; omega
  go_enter Try.func15, Try.ntmps15
  go_wp2_with first
    | (go_at_call 27; refine hl.mono ?_; clear hl; rintro e w3 h3; obtain ⟨H, C, hs, rfl, hq3, hb3⟩ := h3.yes r; have HB3 := Lib.hid (below3 HB2.out hb3); have K3 := K2.below hb3 K2.lt; have k0 := K3.e0; have Q3 := Lib.hid hq3; have HS3 := Lib.hid hb3.size; have Z3 := Z2.below hb3 Z2.lt; have z0 := Z3.e0; have z1 := Z3.e1; have z2 := Z3.e2; have f0 := Z3.frozen 0; have f1 := Z3.frozen 1; have f2 := Z3.frozen 2; obtain ⟨gh, rfl, -, hgh⟩ := hq3.form (by omega); obtain ⟨ch, fh⟩ := hq3.at_ hi; rw [hz] at ch; have HHL := Lib.hid ((hq3.own i hi).ints); clear hb3 h3 hq3)
    | (go_at_call 34; refine (rin_any _ _ _).mono ?_; rintro e w4 ⟨rfl, rfl⟩)
  exact bodyPost_ret (v := .tuple #[.int .i64 0, .agg #[.slice none 0 0, .slice none 0 0, .slice none 0 0], .int .i64 5]) (by simp [results, Try.results15, go_sem, *]) rfl ⟨none, 0, none, 0, none, 0, rfl, QC.nil_ _ _, (((HB3.out.setCell (p := ⟨w.heap.size + 1, 0, none⟩) (by simp) (.slice none 0 0)).setCell (p := ⟨w.heap.size + 1, 1, none⟩) (by simp) (.slice none 0 0)).setCell (p := ⟨w.heap.size + 1, 2, none⟩) (by simp) (.slice none 0 0))⟩

set_option maxHeartbeats 2000000 in
theorem rpop_okW (A B D : Option Addr) (n a m b k d : Nat) (next head tail : List Int) (i : Nat) (qs : List (List Int)) (N0 H0 T0 : List Int) (r : Rep next head tail qs) (hi : i < qs.length) (hz : 0 < (qth qs i).length) (r' : Rep N0 H0 T0 (qs.set i ((qth qs i).drop 1))) (hN0 : N0.length = n) (w : World) (hp : Chn w A n B m D k next head tail) :
    Calls Try.prog 15 #[.agg #[.slice A n a, .slice B m b, .slice D k d], .int .i64 i] w (RetPE (nth (qth qs i) 0) N0 H0 T0 0 w) := by
  have hb2 := ((Below.refl w.heap.size w).alloc (Nat.le_refl _) (.cells #[.slice A n a, .slice B m b, .slice D k d] 24)).alloc (by simp) (.cells #[.slice none 0 0, .slice none 0 0, .slice none 0 0] 24)
  have K2 := (Bk.new w 24 #[.slice A n a, .slice B m b, .slice D k d]).alloc (.cells #[.slice none 0 0, .slice none 0 0, .slice none 0 0] 24)
  have Z2 := Bk.new (w.alloc (.cells #[.slice A n a, .slice B m b, .slice D k d] 24)) 24 #[.slice none 0 0, .slice none 0 0, .slice none 0 0]
  rw [size_alloc] at Z2
  have HP2 := Lib.hid (hp.below hb2)
  have HB2 := Lib.hid hb2
  have c0 := K2.e0
  have c1 := K2.e1
  have c2 := K2.e2
  have hl := rlists_any A B D n a m b k d next head tail ((w.alloc (.cells #[.slice A n a, .slice B m b, .slice D k d] 24)).alloc (.cells #[.slice none 0 0, .slice none 0 0, .slice none 0 0] 24)) HP2.out.x HP2.out.h HP2.out.t
  have HLX := Lib.hid hp.x.1
  clear hp hb2
  have hin : inBd (i : Int) (qs.length : Int) = true := by simp [inBd]; omega
  have hn0 : (((qth qs i).length : Int) == 0) = false := by rw [beq_eq_false_iff_ne]; omega
  have hld : ((qth qs i).drop 1).length = (qth qs i).length - 1 := by simp
  have hwl : IntKind.i64.wrap ((qth qs i).length : Int) = (qth qs i).length := by have := r.short hi; rw [IntKind.wrap_i64]; omega
  obtain ⟨x0, hx0⟩ : ∃ x, nth (qth qs i) 0 = x := ⟨_, rfl⟩
  rw [hx0]
  go_enter Try.func15, Try.ntmps15
  go_wp2_with first
    | (go_at_call 27; go_loud (refine hl.mono ?_; clear hl; rintro e w3 h3; obtain ⟨H, C, hs, rfl, hq3, hb3⟩ := h3.yes r; have HB3 := Lib.hid (below3 HB2.out hb3); have K3 := K2.below hb3 K2.lt; have k0 := K3.e0; have Z3 := Z2.below hb3 Z2.lt; obtain ⟨gh, rfl, hgb, hgh⟩ := hq3.form (by omega); rw [size_alloc, size_alloc] at hgb; obtain ⟨ch, fh⟩ := hq3.at_ hi; have hown := hq3.own i hi; obtain ⟨gl, ol, hA, -, -, -, -⟩ := hown.form hz; have hap : ∀ o2 k, (Value.slice (some ⟨gl, o2, none⟩) 0 0).ownBlock = some k → qblk (qa hs i) = some k := (fun o2 k hk => by rw [qblk, hA]; simpa [Value.ownBlock] using hk); rw [hA] at ch hown; obtain ⟨cl, -⟩ := hown.at_ 0 hz; rw [Nat.add_zero] at cl; rw [hx0] at cl; have hl8 := r.short hi; obtain ⟨cp, hcp⟩ : ∃ c, (qa hs i).2 = c := ⟨_, rfl⟩; rw [hcp] at ch hown; have hlc : (qth qs i).length ≤ cp := (by rcases hown.2.2 with ⟨e, _⟩ | ⟨_, _, _, _, _, _, h4, _⟩; cases e; exact h4); clear hb3 h3; by_cases hc1 : cp = 1; (have hcz : cp - 1 = 0 := (by omega); have Q6a := hq3.turn (by decide) hi (hown.tail hz (o' := ol) (.inr ⟨hc1, rfl⟩)) (hap (ol)); rw [hld, hcz] at Q6a; have Q6 := Lib.hid Q6a; have HB6 := Lib.hid (HB3.out.setCell (p := ⟨gh, i, none⟩) (by simp only []; omega) (.slice (some ⟨gl, ol, none⟩) ((qth qs i).length - 1) 0)); have KC6 := K3.far (p := ⟨gh, i, none⟩) (by simp only []; omega) (.slice (some ⟨gl, ol, none⟩) ((qth qs i).length - 1) 0); have k60 := KC6.e0; have KZ6 := Z3.far (p := ⟨gh, i, none⟩) (by simp only []; omega) (.slice (some ⟨gl, ol, none⟩) ((qth qs i).length - 1) 0); have HSZ := Lib.hid KZ6.lt; clear Q6a hq3 hown hap); rotate_left; (have hcz : ¬ cp - 1 = 0 := (by omega); have Q6a := hq3.turn (by decide) hi (hown.tail hz (o' := ol + 1) (.inl rfl)) (hap (ol + 1)); rw [hld] at Q6a; have Q6 := Lib.hid Q6a; have HB6 := Lib.hid (HB3.out.setCell (p := ⟨gh, i, none⟩) (by simp only []; omega) (.slice (some ⟨gl, ol + 1, none⟩) ((qth qs i).length - 1) (cp - 1))); have KC6 := K3.far (p := ⟨gh, i, none⟩) (by simp only []; omega) (.slice (some ⟨gl, ol + 1, none⟩) ((qth qs i).length - 1) (cp - 1)); have k60 := KC6.e0; have KZ6 := Z3.far (p := ⟨gh, i, none⟩) (by simp only []; omega) (.slice (some ⟨gl, ol + 1, none⟩) ((qth qs i).length - 1) (cp - 1)); have HSZ := Lib.hid KZ6.lt; clear Q6a hq3 hown hap); rotate_left))
    | (go_at_call 34; refine (rin_any _ _ _).mono ?_; rintro e w4 ⟨rfl, rfl⟩)
    | (go_at_call 36; refine (rof_any _ _ _ _ _ _ N0 H0 T0 n _ hN0 (by simp) r' Q6.out).mono ?_; rintro e w7 ⟨A7, a7, B7, b7, D7, d7, rfl, hq7, hb7⟩; have Z7 := KZ6.below hb7 KZ6.lt; have z0 := Z7.e0; have z1 := Z7.e1; have z2 := Z7.e2; have f0 := Z7.frozen 0; have f1 := Z7.frozen 1; have f2 := Z7.frozen 2; have HB7 := Lib.hid (below3 HB6.out hb7); have Q7 := Lib.hid hq7; clear hb7 hq7)
  all_goals have hbz := HSZ.out
  all_goals exact bodyPost_ret (v := .tuple #[.int .i64 x0, .agg #[.slice A7 n a7, .slice B7 H0.length b7, .slice D7 T0.length d7], .int .i64 0]) (by simp [results, Try.results15, go_sem, *]) rfl ⟨A7, a7, B7, b7, D7, d7, by rw [hN0], (((Q7.out.far (p := ⟨w.heap.size + 1, 0, none⟩) (by first | (simp only []; omega) | (simp at hbz ⊢; omega)) (.slice A7 n a7)).far (p := ⟨w.heap.size + 1, 1, none⟩) (by first | (simp only []; omega) | (simp at hbz ⊢; omega)) (.slice B7 H0.length b7)).far (p := ⟨w.heap.size + 1, 2, none⟩) (by first | (simp only []; omega) | (simp at hbz ⊢; omega)) (.slice D7 T0.length d7)).base_ (by first | omega | (simp at hbz ⊢; omega)), (((HB7.out.setCell (p := ⟨w.heap.size + 1, 0, none⟩) (by simp) (.slice A7 n a7)).setCell (p := ⟨w.heap.size + 1, 1, none⟩) (by simp) (.slice B7 H0.length b7)).setCell (p := ⟨w.heap.size + 1, 2, none⟩) (by simp) (.slice D7 T0.length d7))⟩

set_option maxHeartbeats 1000000 in
theorem rcut_no (A B D : Option Addr) (n a m b k d : Nat) (next head tail : List Int) (x : Int) (hno : ∀ qs, ¬ Rep next head tail qs) (w : World) (hp : Chn w A n B m D k next head tail) :
    Calls Try.prog 17 #[.agg #[.slice A n a, .slice B m b, .slice D k d], .int .i64 x] w (RetCE [] [] [] 1 w) := by
  have hb2 := ((Below.refl w.heap.size w).alloc (Nat.le_refl _) (.cells #[.slice A n a, .slice B m b, .slice D k d] 24)).alloc (by simp) (.cells #[.slice none 0 0, .slice none 0 0, .slice none 0 0] 24)
  have K2 := (Bk.new w 24 #[.slice A n a, .slice B m b, .slice D k d]).alloc (.cells #[.slice none 0 0, .slice none 0 0, .slice none 0 0] 24)
  have Z2 := Bk.new (w.alloc (.cells #[.slice A n a, .slice B m b, .slice D k d] 24)) 24 #[.slice none 0 0, .slice none 0 0, .slice none 0 0]
  rw [size_alloc] at Z2
  have HP2 := Lib.hid (hp.below hb2)
  have HB2 := Lib.hid hb2
  have c0 := K2.e0
  have c1 := K2.e1
  have c2 := K2.e2
  have hl := rlists_any A B D n a m b k d next head tail ((w.alloc (.cells #[.slice A n a, .slice B m b, .slice D k d] 24)).alloc (.cells #[.slice none 0 0, .slice none 0 0, .slice none 0 0] 24)) HP2.out.x HP2.out.h HP2.out.t
  have HLX := Lib.hid hp.x.1
  clear hp hb2
  go_enter Try.func17, Try.ntmps17
  go_wp2_with (go_at_call 27; refine hl.mono ?_; clear hl; rintro e w3 h3; obtain ⟨rfl, hb3⟩ := h3.no hno; have HB3 := Lib.hid (below3 HB2.out hb3); have K3 := K2.below hb3 K2.lt; have k0 := K3.e0; have Z3 := Z2.below hb3 Z2.lt; have z0 := Z3.e0; have z1 := Z3.e1; have z2 := Z3.e2; have f0 := Z3.frozen 0; have f1 := Z3.frozen 1; have f2 := Z3.frozen 2; clear hb3 h3)
  exact bodyPost_ret (v := .tuple #[.agg #[.slice none 0 0, .slice none 0 0, .slice none 0 0], .int .i64 1]) (by simp [results, Try.results17, go_sem, *]) rfl ⟨none, 0, none, 0, none, 0, rfl, QC.nil_ _ _, (((HB3.out.setCell (p := ⟨w.heap.size + 1, 0, none⟩) (by simp) (.slice none 0 0)).setCell (p := ⟨w.heap.size + 1, 1, none⟩) (by simp) (.slice none 0 0)).setCell (p := ⟨w.heap.size + 1, 2, none⟩) (by simp) (.slice none 0 0))⟩

set_option maxHeartbeats 1000000 in
theorem rcut_out (A B D : Option Addr) (n a m b k d : Nat) (next head tail : List Int) (x : Int) (qs : List (List Int)) (r : Rep next head tail qs) (hin : inBd x (n : Int) = false) (w : World) (hp : Chn w A n B m D k next head tail) :
    Calls Try.prog 17 #[.agg #[.slice A n a, .slice B m b, .slice D k d], .int .i64 x] w (RetCE [] [] [] 1 w) := by
  have hb2 := ((Below.refl w.heap.size w).alloc (Nat.le_refl _) (.cells #[.slice A n a, .slice B m b, .slice D k d] 24)).alloc (by simp) (.cells #[.slice none 0 0, .slice none 0 0, .slice none 0 0] 24)
  have K2 := (Bk.new w 24 #[.slice A n a, .slice B m b, .slice D k d]).alloc (.cells #[.slice none 0 0, .slice none 0 0, .slice none 0 0] 24)
  have Z2 := Bk.new (w.alloc (.cells #[.slice A n a, .slice B m b, .slice D k d] 24)) 24 #[.slice none 0 0, .slice none 0 0, .slice none 0 0]
  rw [size_alloc] at Z2
  have HP2 := Lib.hid (hp.below hb2)
  have HB2 := Lib.hid hb2
  have c0 := K2.e0
  have c1 := K2.e1
  have c2 := K2.e2
  have hl := rlists_any A B D n a m b k d next head tail ((w.alloc (.cells #[.slice A n a, .slice B m b, .slice D k d] 24)).alloc (.cells #[.slice none 0 0, .slice none 0 0, .slice none 0 0] 24)) HP2.out.x HP2.out.h HP2.out.t
  have HLX := Lib.hid hp.x.1
  clear hp hb2
  go_enter Try.func17, Try.ntmps17
  go_wp2_with first
    | (go_at_call 27; refine hl.mono ?_; clear hl; rintro e w3 h3; obtain ⟨H, C, hs, rfl, hq3, hb3⟩ := h3.yes r; have HB3 := Lib.hid (below3 HB2.out hb3); have K3 := K2.below hb3 K2.lt; have k0 := K3.e0; have Q3 := Lib.hid hq3; have HS3 := Lib.hid hb3.size; have Z3 := Z2.below hb3 Z2.lt; have z0 := Z3.e0; have z1 := Z3.e1; have z2 := Z3.e2; have f0 := Z3.frozen 0; have f1 := Z3.frozen 1; have f2 := Z3.frozen 2; clear hb3 h3 hq3)
    | (go_at_call 34; refine (rin_any _ _ _).mono ?_; rintro e w4 ⟨rfl, rfl⟩)
  exact bodyPost_ret (v := .tuple #[.agg #[.slice none 0 0, .slice none 0 0, .slice none 0 0], .int .i64 1]) (by simp [results, Try.results17, go_sem, *]) rfl ⟨none, 0, none, 0, none, 0, rfl, QC.nil_ _ _, (((HB3.out.setCell (p := ⟨w.heap.size + 1, 0, none⟩) (by simp) (.slice none 0 0)).setCell (p := ⟨w.heap.size + 1, 1, none⟩) (by simp) (.slice none 0 0)).setCell (p := ⟨w.heap.size + 1, 2, none⟩) (by simp) (.slice none 0 0))⟩

set_option maxHeartbeats 1000000 in
theorem rcut_none (A B D : Option Addr) (n a m b k d : Nat) (next head tail : List Int) (x : Int) (qs : List (List Int)) (r : Rep next head tail qs) (hin : inBd x (n : Int) = true) (hw : whereQ qs x = -1) (w : World) (hp : Chn w A n B m D k next head tail) :
    Calls Try.prog 17 #[.agg #[.slice A n a, .slice B m b, .slice D k d], .int .i64 x] w (RetCE [] [] [] 5 w) := by
  have hb2 := ((Below.refl w.heap.size w).alloc (Nat.le_refl _) (.cells #[.slice A n a, .slice B m b, .slice D k d] 24)).alloc (by simp) (.cells #[.slice none 0 0, .slice none 0 0, .slice none 0 0] 24)
  have K2 := (Bk.new w 24 #[.slice A n a, .slice B m b, .slice D k d]).alloc (.cells #[.slice none 0 0, .slice none 0 0, .slice none 0 0] 24)
  have Z2 := Bk.new (w.alloc (.cells #[.slice A n a, .slice B m b, .slice D k d] 24)) 24 #[.slice none 0 0, .slice none 0 0, .slice none 0 0]
  rw [size_alloc] at Z2
  have HP2 := Lib.hid (hp.below hb2)
  have HB2 := Lib.hid hb2
  have c0 := K2.e0
  have c1 := K2.e1
  have c2 := K2.e2
  have hl := rlists_any A B D n a m b k d next head tail ((w.alloc (.cells #[.slice A n a, .slice B m b, .slice D k d] 24)).alloc (.cells #[.slice none 0 0, .slice none 0 0, .slice none 0 0] 24)) HP2.out.x HP2.out.h HP2.out.t
  have HLX := Lib.hid hp.x.1
  clear hp hb2
  have hw0 : whereQ qs x < 0 := by rw [hw]; omega
  go_enter Try.func17, Try.ntmps17
  go_wp2_with first
    | (go_at_call 27; refine hl.mono ?_; clear hl; rintro e w3 h3; obtain ⟨H, C, hs, rfl, hq3, hb3⟩ := h3.yes r; have HB3 := Lib.hid (below3 HB2.out hb3); have K3 := K2.below hb3 K2.lt; have k0 := K3.e0; have Q3 := Lib.hid hq3; have HS3 := Lib.hid hb3.size; have Z3 := Z2.below hb3 Z2.lt; have z0 := Z3.e0; have z1 := Z3.e1; have z2 := Z3.e2; have f0 := Z3.frozen 0; have f1 := Z3.frozen 1; have f2 := Z3.frozen 2; clear hb3 h3 hq3)
    | (go_at_call 34; refine (rin_any _ _ _).mono ?_; rintro e w4 ⟨rfl, rfl⟩)
    | (go_at_call 35; refine (rwhere_any H qs.length C hs qs x _ w3 rfl r.l2 Q3.out r.mem_one).mono ?_; rintro e w5 ⟨rfl, rfl⟩)
  exact bodyPost_ret (v := .tuple #[.agg #[.slice none 0 0, .slice none 0 0, .slice none 0 0], .int .i64 5]) (by simp [results, Try.results17, go_sem, *]) rfl ⟨none, 0, none, 0, none, 0, rfl, QC.nil_ _ _, (((HB3.out.setCell (p := ⟨w.heap.size + 1, 0, none⟩) (by simp) (.slice none 0 0)).setCell (p := ⟨w.heap.size + 1, 1, none⟩) (by simp) (.slice none 0 0)).setCell (p := ⟨w.heap.size + 1, 2, none⟩) (by simp) (.slice none 0 0))⟩

set_option maxHeartbeats 1000000 in
theorem rcut_ok (A B D : Option Addr) (n a m b k d : Nat) (next head tail : List Int) (i : Nat) (x : Int) (qs : List (List Int)) (N0 H0 T0 : List Int) (r : Rep next head tail qs) (hi : i < qs.length) (hin : inBd x (n : Int) = true) (hw : whereQ qs x = (i : Int)) (r' : Rep N0 H0 T0 (qs.set i ((qth qs i).filter (fun y => y != x)))) (hN0 : N0.length = n) (w : World) (hp : Chn w A n B m D k next head tail) :
    Calls Try.prog 17 #[.agg #[.slice A n a, .slice B m b, .slice D k d], .int .i64 x] w (RetCE N0 H0 T0 0 w) := by
  have hb2 := ((Below.refl w.heap.size w).alloc (Nat.le_refl _) (.cells #[.slice A n a, .slice B m b, .slice D k d] 24)).alloc (by simp) (.cells #[.slice none 0 0, .slice none 0 0, .slice none 0 0] 24)
  have K2 := (Bk.new w 24 #[.slice A n a, .slice B m b, .slice D k d]).alloc (.cells #[.slice none 0 0, .slice none 0 0, .slice none 0 0] 24)
  have Z2 := Bk.new (w.alloc (.cells #[.slice A n a, .slice B m b, .slice D k d] 24)) 24 #[.slice none 0 0, .slice none 0 0, .slice none 0 0]
  rw [size_alloc] at Z2
  have HP2 := Lib.hid (hp.below hb2)
  have HB2 := Lib.hid hb2
  have c0 := K2.e0
  have c1 := K2.e1
  have c2 := K2.e2
  have hl := rlists_any A B D n a m b k d next head tail ((w.alloc (.cells #[.slice A n a, .slice B m b, .slice D k d] 24)).alloc (.cells #[.slice none 0 0, .slice none 0 0, .slice none 0 0] 24)) HP2.out.x HP2.out.h HP2.out.t
  have HLX := Lib.hid hp.x.1
  clear hp hb2
  go_enter Try.func17, Try.ntmps17
  go_wp2_with first
    | (go_at_call 27; refine hl.mono ?_; clear hl; rintro e w3 h3; obtain ⟨H, C, hs, rfl, hq3, hb3⟩ := h3.yes r; have HB3 := Lib.hid (below3 HB2.out hb3); have K3 := K2.below hb3 K2.lt; have k0 := K3.e0; have Q3 := Lib.hid hq3; have HS3 := Lib.hid hb3.size; have Z3 := Z2.below hb3 Z2.lt; have z0 := Z3.e0; have z1 := Z3.e1; have z2 := Z3.e2; have f0 := Z3.frozen 0; have f1 := Z3.frozen 1; have f2 := Z3.frozen 2; obtain ⟨gh, rfl, -, hgh⟩ := hq3.form (by omega); obtain ⟨ch, fh⟩ := hq3.at_ hi; have HHL := Lib.hid ((hq3.own i hi).ints); clear hb3 h3 hq3)
    | (go_at_call 34; refine (rin_any _ _ _).mono ?_; rintro e w4 ⟨rfl, rfl⟩)
    | (go_at_call 35; refine (rwhere_any (some ⟨gh, 0, none⟩) qs.length C hs qs x _ w3 rfl r.l2 Q3.out r.mem_one).mono ?_; rintro e w5 ⟨rfl, rfl⟩; rw [hw])
    | (go_at_call 39; refine (rwithout_any (qa hs i).1 (qth qs i).length (qa hs i).2 (qth qs i) x w3 HHL.out).mono ?_; rintro e w5 ⟨A5, c5, rfl, ho5, hb5⟩; obtain ⟨⟨v5, cv5⟩, fr5, Q6', K6', B6', K5'⟩ := put_after Q3.out hi (n0 := 0) (c0 := 0) (w5 := w5) ⟨hb5.os, hb5.tape, hb5.output, hb5.size, fun k hk _ => hb5.block k hk⟩ ((qth qs i).filter (fun y => y != x)).length rfl (ho5.que.base_ (by have := HS3.out; exact this)) (fun k hk => .inr (ho5.block k hk)); have Q6 := Lib.hid Q6'; have HB6 := Lib.hid (B6' HB3.out (by rw [size_alloc, size_alloc]; omega)); have KC6 := K6' K3 (by rw [size_alloc, size_alloc]; omega); have k60 := KC6.e0; have KZ6 := K6' Z3 (by rw [size_alloc, size_alloc]; omega); have HSZ := Lib.hid (KZ6.lt); clear Q6' K6' B6' K5' ho5 hb5)
    | (go_at_call 36; refine (rof_any _ _ _ _ _ _ N0 H0 T0 n _ hN0 (by simp) r' Q6.out).mono ?_; rintro e w7 ⟨A7, a7, B7, b7, D7, d7, rfl, hq7, hb7⟩; have Z7 := KZ6.below hb7 KZ6.lt; have z0 := Z7.e0; have z1 := Z7.e1; have z2 := Z7.e2; have f0 := Z7.frozen 0; have f1 := Z7.frozen 1; have f2 := Z7.frozen 2; have HB7 := Lib.hid (below3 HB6.out hb7); have Q7 := Lib.hid hq7; clear hb7 hq7)
  have hbz := HSZ.out
  exact bodyPost_ret (v := .tuple #[.agg #[.slice A7 n a7, .slice B7 H0.length b7, .slice D7 T0.length d7], .int .i64 0]) (by simp [results, Try.results17, go_sem, *]) rfl ⟨A7, a7, B7, b7, D7, d7, by rw [hN0], (((Q7.out.far (p := ⟨w.heap.size + 1, 0, none⟩) (by first | (simp only []; omega) | (simp at hbz ⊢; omega)) (.slice A7 n a7)).far (p := ⟨w.heap.size + 1, 1, none⟩) (by first | (simp only []; omega) | (simp at hbz ⊢; omega)) (.slice B7 H0.length b7)).far (p := ⟨w.heap.size + 1, 2, none⟩) (by first | (simp only []; omega) | (simp at hbz ⊢; omega)) (.slice D7 T0.length d7)).base_ (by first | omega | (simp at hbz ⊢; omega)), (((HB7.out.setCell (p := ⟨w.heap.size + 1, 0, none⟩) (by simp) (.slice A7 n a7)).setCell (p := ⟨w.heap.size + 1, 1, none⟩) (by simp) (.slice B7 H0.length b7)).setCell (p := ⟨w.heap.size + 1, 2, none⟩) (by simp) (.slice D7 T0.length d7))⟩

theorem rnew_bad (x y : Int) (h : x < 0 ∨ 1024 < x ∨ y < 1 ∨ 256 < y) (w : World) : Calls Try.prog 22 #[.int .i64 x, .int .i64 y] w (RetCE [] [] [] 1 w) := by
  have hb1 := (Below.refl w.heap.size w).alloc (Nat.le_refl _) (.cells #[.slice none 0 0, .slice none 0 0, .slice none 0 0] 24)
  have Z3 := Bk.new w 24 #[.slice none 0 0, .slice none 0 0, .slice none 0 0]
  have HB3 := Lib.hid hb1
  clear hb1
  have h2 : x < 0 ∨ (¬ x < 0 ∧ 1024 < x) ∨ (¬ x < 0 ∧ ¬ 1024 < x ∧ y < 1) ∨ (¬ x < 0 ∧ ¬ 1024 < x ∧ ¬ y < 1 ∧ 256 < y) := by omega
  rcases h2 with h | ⟨h0, h⟩ | ⟨h0, h1, h⟩ | ⟨h0, h1, h2, h⟩
  all_goals
    go_enter Try.func22, Try.ntmps22
    go_wp2
    exact bodyPost_ret (v := .tuple #[.agg #[.slice none 0 0, .slice none 0 0, .slice none 0 0], .int .i64 1]) (by simp [results, Try.results22, go_sem]) rfl ⟨none, 0, none, 0, none, 0, rfl, QC.nil_ _ _, HB3.out⟩

theorem mkRows (m : Nat) (h : m ≤ 256) (W : World) : (Instr.makeSlice 41 (.int .i64 (m : Int)) (.int .i64 (m : Int))).run Try.prog W = .ok (.slice (some ⟨W.heap.size, 0, none⟩) m m) (W.alloc (.cells (madeCells #[.slice none 0 0] m) 22)) :=
  run_make_row' (P := Try.prog) 41 22 (.slice none 0 0) 24 Try.underlying41 Try.rowInfo rfl .i64 .i64 m (by omega) (by omega) W
theorem rows_made (w : World) (base m : Nat) (hb : base ≤ w.heap.size) (hm : m ≤ 256) (z : Array Value) (hz : madeCells #[Value.slice none 0 0] m = z) :
    OwnQs 3 22 (w.alloc (.cells z 22)) base (some ⟨w.heap.size, 0, none⟩) m (List.replicate m (none, 0)) (List.replicate m []) := by
  subst hz
  have hs : (madeCells #[Value.slice none 0 0] m).size = m * 1 := by rw [← Array.length_toList, toList_madeCells_one]; simp
  have hq : ∀ j, j < m → qth (List.replicate m ([] : List Int)) j = [] := fun j hj => by rw [qth_get (by simpa using hj)]; simp
  have ha : ∀ j, j < m → qa (List.replicate m ((none, 0) : Option Addr × Nat)) j = (none, 0) := fun j hj => by rw [qa_get (by simpa using hj)]; simp
  refine ⟨by simp, ?_, fun j hj => ?_, fun i j hi hj hij k hk => ?_⟩
  · have := World.ownsRow_lit (base := base) (e := 22) (size := 1) w (madeCells #[Value.slice none 0 0] m) m hb (by unfold maxLen; omega) hs
    have e : List.zipWith qv (List.replicate m ((none, 0) : Option Addr × Nat)) (List.replicate m ([] : List Int)) = List.replicate m (Value.slice none 0 0) := by
      rw [List.zipWith_replicate]; simp [qv]
    rw [e, List.length_replicate]
    rwa [toList_madeCells_one] at this
  · have hj' : j < m := by simpa using hj
    rw [ha j hj', hq j hj']
    exact OwnQ.nil_ _ _ _
  · have hi' : i < m := by simpa using hi
    rw [ha i hi'] at hk
    simp [qblk, Value.ownBlock] at hk

set_option maxHeartbeats 1000000 in
theorem rnew_ok (n m : Nat) (hn : n ≤ 1024) (h1 : 1 ≤ m) (h2 : m ≤ 256) (w : World) : Calls Try.prog 22 #[.int .i64 n, .int .i64 m] w (RetCE (List.replicate n (-2)) (List.replicate m (-1)) (List.replicate m (-1)) 0 w) := by
  have hb1 := (Below.refl w.heap.size w).alloc (Nat.le_refl _) (.cells #[.slice none 0 0, .slice none 0 0, .slice none 0 0] 24)
  have Z1 := Bk.new w 24 #[.slice none 0 0, .slice none 0 0, .slice none 0 0]
  have mk := mkRows m h2
  obtain ⟨z, hz⟩ : ∃ z, madeCells #[Value.slice none 0 0] m = z := ⟨_, rfl⟩
  rw [hz] at mk
  have Q2 := Lib.hid (rows_made (w.alloc (.cells #[.slice none 0 0, .slice none 0 0, .slice none 0 0] 24)) (w.heap.size + 1) m (by simp) h2 z hz)
  have Z2 := Z1.alloc (.cells z 22)
  have HB2 := Lib.hid (hb1.alloc (by simp) (.cells z 22))
  have HSZ := Lib.hid Z2.lt
  have hof := rof_any (some ⟨(w.alloc (.cells #[.slice none 0 0, .slice none 0 0, .slice none 0 0] 24)).heap.size, 0, none⟩) m m _ _ (List.replicate m []) (List.replicate n (-2)) (List.replicate m (-1)) (List.replicate m (-1)) n _ (by simp) (by simp) (rep_new hn h1 h2) Q2.out
  rw [size_alloc] at hof
  have hN0 : (List.replicate n (-2 : Int)).length = n := by simp
  have hH0 : (List.replicate m (-1 : Int)).length = m := by simp
  clear hb1 Z1 hz
  go_enter Try.func22, Try.ntmps22
  go_wp2_with (go_at_call 36; refine hof.mono ?_; rintro e w7 ⟨A7, a7, B7, b7, D7, d7, he, hq7, hb7⟩; rw [hN0, hH0] at he; subst he; have Z7 := Z2.below hb7 Z2.lt; have z0 := Z7.e0; have z1 := Z7.e1; have z2 := Z7.e2; have f0 := Z7.frozen 0; have f1 := Z7.frozen 1; have f2 := Z7.frozen 2; have HB7 := Lib.hid (below3 HB2.out hb7); have Q7 := Lib.hid hq7; clear hb7 hq7)
  have hbz := HSZ.out
  exact bodyPost_ret (v := .tuple #[.agg #[.slice A7 n a7, .slice B7 m b7, .slice D7 m d7], .int .i64 0]) (by simp [results, Try.results22, go_sem, *]) rfl ⟨A7, a7, B7, b7, D7, d7, by rw [hN0, hH0], (((Q7.out.far (p := ⟨w.heap.size, 0, none⟩) (by simp only []; omega) (.slice A7 n a7)).far (p := ⟨w.heap.size, 1, none⟩) (by simp only []; omega) (.slice B7 m b7)).far (p := ⟨w.heap.size, 2, none⟩) (by simp only []; omega) (.slice D7 m d7)).base_ (by omega), (((HB7.out.setCell (p := ⟨w.heap.size, 0, none⟩) (Nat.le_refl _) (.slice A7 n a7)).setCell (p := ⟨w.heap.size, 1, none⟩) (Nat.le_refl _) (.slice B7 m b7)).setCell (p := ⟨w.heap.size, 2, none⟩) (Nat.le_refl _) (.slice D7 m d7))⟩

set_option maxHeartbeats 1000000 in
theorem rjoin_no (A B D : Option Addr) (n a m b k d : Nat) (next head tail : List Int) (x y : Int) (hno : ∀ qs, ¬ Rep next head tail qs) (w : World) (hp : Chn w A n B m D k next head tail) :
    Calls Try.prog 19 #[.agg #[.slice A n a, .slice B m b, .slice D k d], .int .i64 x, .int .i64 y] w (RetCE [] [] [] 1 w) := by
  have hb2 := ((Below.refl w.heap.size w).alloc (Nat.le_refl _) (.cells #[.slice A n a, .slice B m b, .slice D k d] 24)).alloc (by simp) (.cells #[.slice none 0 0, .slice none 0 0, .slice none 0 0] 24)
  have K2 := (Bk.new w 24 #[.slice A n a, .slice B m b, .slice D k d]).alloc (.cells #[.slice none 0 0, .slice none 0 0, .slice none 0 0] 24)
  have Z2 := Bk.new (w.alloc (.cells #[.slice A n a, .slice B m b, .slice D k d] 24)) 24 #[.slice none 0 0, .slice none 0 0, .slice none 0 0]
  rw [size_alloc] at Z2
  have HP2 := Lib.hid (hp.below hb2)
  have HB2 := Lib.hid hb2
  have c0 := K2.e0
  have c1 := K2.e1
  have c2 := K2.e2
  have hl := rlists_any A B D n a m b k d next head tail ((w.alloc (.cells #[.slice A n a, .slice B m b, .slice D k d] 24)).alloc (.cells #[.slice none 0 0, .slice none 0 0, .slice none 0 0] 24)) HP2.out.x HP2.out.h HP2.out.t
  have HLX := Lib.hid hp.x.1
  clear hp hb2
  go_enter Try.func19, Try.ntmps19
  go_wp2_with (go_at_call 27; refine hl.mono ?_; clear hl; rintro e w3 h3; obtain ⟨rfl, hb3⟩ := h3.no hno; have HB3 := Lib.hid (below3 HB2.out hb3); have K3 := K2.below hb3 K2.lt; have k0 := K3.e0; have Z3 := Z2.below hb3 Z2.lt; have z0 := Z3.e0; have z1 := Z3.e1; have z2 := Z3.e2; have f0 := Z3.frozen 0; have f1 := Z3.frozen 1; have f2 := Z3.frozen 2; clear hb3 h3)
  exact bodyPost_ret (v := .tuple #[.agg #[.slice none 0 0, .slice none 0 0, .slice none 0 0], .int .i64 1]) (by simp [results, Try.results19, go_sem, *]) rfl ⟨none, 0, none, 0, none, 0, rfl, QC.nil_ _ _, (((HB3.out.setCell (p := ⟨w.heap.size + 1, 0, none⟩) (by simp) (.slice none 0 0)).setCell (p := ⟨w.heap.size + 1, 1, none⟩) (by simp) (.slice none 0 0)).setCell (p := ⟨w.heap.size + 1, 2, none⟩) (by simp) (.slice none 0 0))⟩

set_option maxHeartbeats 1000000 in
theorem rjoin_out1 (A B D : Option Addr) (n a m b k d : Nat) (next head tail : List Int) (x y : Int) (qs : List (List Int)) (r : Rep next head tail qs) (hin : inBd x (qs.length : Int) = false) (w : World) (hp : Chn w A n B m D k next head tail) :
    Calls Try.prog 19 #[.agg #[.slice A n a, .slice B m b, .slice D k d], .int .i64 x, .int .i64 y] w (RetCE [] [] [] 1 w) := by
  have hb2 := ((Below.refl w.heap.size w).alloc (Nat.le_refl _) (.cells #[.slice A n a, .slice B m b, .slice D k d] 24)).alloc (by simp) (.cells #[.slice none 0 0, .slice none 0 0, .slice none 0 0] 24)
  have K2 := (Bk.new w 24 #[.slice A n a, .slice B m b, .slice D k d]).alloc (.cells #[.slice none 0 0, .slice none 0 0, .slice none 0 0] 24)
  have Z2 := Bk.new (w.alloc (.cells #[.slice A n a, .slice B m b, .slice D k d] 24)) 24 #[.slice none 0 0, .slice none 0 0, .slice none 0 0]
  rw [size_alloc] at Z2
  have HP2 := Lib.hid (hp.below hb2)
  have HB2 := Lib.hid hb2
  have c0 := K2.e0
  have c1 := K2.e1
  have c2 := K2.e2
  have hl := rlists_any A B D n a m b k d next head tail ((w.alloc (.cells #[.slice A n a, .slice B m b, .slice D k d] 24)).alloc (.cells #[.slice none 0 0, .slice none 0 0, .slice none 0 0] 24)) HP2.out.x HP2.out.h HP2.out.t
  have HLX := Lib.hid hp.x.1
  clear hp hb2
  go_enter Try.func19, Try.ntmps19
  go_wp2_with first
    | (go_at_call 27; refine hl.mono ?_; clear hl; rintro e w3 h3; obtain ⟨H, C, hs, rfl, hq3, hb3⟩ := h3.yes r; have HB3 := Lib.hid (below3 HB2.out hb3); have K3 := K2.below hb3 K2.lt; have k0 := K3.e0; have Q3 := Lib.hid hq3; have HS3 := Lib.hid hb3.size; have Z3 := Z2.below hb3 Z2.lt; have z0 := Z3.e0; have z1 := Z3.e1; have z2 := Z3.e2; have f0 := Z3.frozen 0; have f1 := Z3.frozen 1; have f2 := Z3.frozen 2; clear hb3 h3 hq3)
    | (go_at_call 34; refine (rin_any _ _ _).mono ?_; rintro e w4 ⟨rfl, rfl⟩)
  exact bodyPost_ret (v := .tuple #[.agg #[.slice none 0 0, .slice none 0 0, .slice none 0 0], .int .i64 1]) (by simp [results, Try.results19, go_sem, *]) rfl ⟨none, 0, none, 0, none, 0, rfl, QC.nil_ _ _, (((HB3.out.setCell (p := ⟨w.heap.size + 1, 0, none⟩) (by simp) (.slice none 0 0)).setCell (p := ⟨w.heap.size + 1, 1, none⟩) (by simp) (.slice none 0 0)).setCell (p := ⟨w.heap.size + 1, 2, none⟩) (by simp) (.slice none 0 0))⟩

set_option maxHeartbeats 1000000 in
theorem rjoin_out2 (A B D : Option Addr) (n a m b k d : Nat) (next head tail : List Int) (x y : Int) (qs : List (List Int)) (r : Rep next head tail qs) (hin : inBd x (qs.length : Int) = true) (hin2 : inBd y (qs.length : Int) = false) (w : World) (hp : Chn w A n B m D k next head tail) :
    Calls Try.prog 19 #[.agg #[.slice A n a, .slice B m b, .slice D k d], .int .i64 x, .int .i64 y] w (RetCE [] [] [] 1 w) := by
  have hb2 := ((Below.refl w.heap.size w).alloc (Nat.le_refl _) (.cells #[.slice A n a, .slice B m b, .slice D k d] 24)).alloc (by simp) (.cells #[.slice none 0 0, .slice none 0 0, .slice none 0 0] 24)
  have K2 := (Bk.new w 24 #[.slice A n a, .slice B m b, .slice D k d]).alloc (.cells #[.slice none 0 0, .slice none 0 0, .slice none 0 0] 24)
  have Z2 := Bk.new (w.alloc (.cells #[.slice A n a, .slice B m b, .slice D k d] 24)) 24 #[.slice none 0 0, .slice none 0 0, .slice none 0 0]
  rw [size_alloc] at Z2
  have HP2 := Lib.hid (hp.below hb2)
  have HB2 := Lib.hid hb2
  have c0 := K2.e0
  have c1 := K2.e1
  have c2 := K2.e2
  have hl := rlists_any A B D n a m b k d next head tail ((w.alloc (.cells #[.slice A n a, .slice B m b, .slice D k d] 24)).alloc (.cells #[.slice none 0 0, .slice none 0 0, .slice none 0 0] 24)) HP2.out.x HP2.out.h HP2.out.t
  have HLX := Lib.hid hp.x.1
  clear hp hb2
  go_enter Try.func19, Try.ntmps19
  go_wp2_with first
    | (go_at_call 27; refine hl.mono ?_; clear hl; rintro e w3 h3; obtain ⟨H, C, hs, rfl, hq3, hb3⟩ := h3.yes r; have HB3 := Lib.hid (below3 HB2.out hb3); have K3 := K2.below hb3 K2.lt; have k0 := K3.e0; have Q3 := Lib.hid hq3; have HS3 := Lib.hid hb3.size; have Z3 := Z2.below hb3 Z2.lt; have z0 := Z3.e0; have z1 := Z3.e1; have z2 := Z3.e2; have f0 := Z3.frozen 0; have f1 := Z3.frozen 1; have f2 := Z3.frozen 2; clear hb3 h3 hq3)
    | (go_at_call 34; refine (rin_any _ _ _).mono ?_; rintro e w4 ⟨rfl, rfl⟩)
  exact bodyPost_ret (v := .tuple #[.agg #[.slice none 0 0, .slice none 0 0, .slice none 0 0], .int .i64 1]) (by simp [results, Try.results19, go_sem, *]) rfl ⟨none, 0, none, 0, none, 0, rfl, QC.nil_ _ _, (((HB3.out.setCell (p := ⟨w.heap.size + 1, 0, none⟩) (by simp) (.slice none 0 0)).setCell (p := ⟨w.heap.size + 1, 1, none⟩) (by simp) (.slice none 0 0)).setCell (p := ⟨w.heap.size + 1, 2, none⟩) (by simp) (.slice none 0 0))⟩

set_option maxHeartbeats 1000000 in
theorem rjoin_same (A B D : Option Addr) (n a m b k d : Nat) (next head tail : List Int) (x : Int) (qs : List (List Int)) (r : Rep next head tail qs) (hin : inBd x (qs.length : Int) = true) (w : World) (hp : Chn w A n B m D k next head tail) :
    Calls Try.prog 19 #[.agg #[.slice A n a, .slice B m b, .slice D k d], .int .i64 x, .int .i64 x] w (RetCE [] [] [] 1 w) := by
  have hb2 := ((Below.refl w.heap.size w).alloc (Nat.le_refl _) (.cells #[.slice A n a, .slice B m b, .slice D k d] 24)).alloc (by simp) (.cells #[.slice none 0 0, .slice none 0 0, .slice none 0 0] 24)
  have K2 := (Bk.new w 24 #[.slice A n a, .slice B m b, .slice D k d]).alloc (.cells #[.slice none 0 0, .slice none 0 0, .slice none 0 0] 24)
  have Z2 := Bk.new (w.alloc (.cells #[.slice A n a, .slice B m b, .slice D k d] 24)) 24 #[.slice none 0 0, .slice none 0 0, .slice none 0 0]
  rw [size_alloc] at Z2
  have HP2 := Lib.hid (hp.below hb2)
  have HB2 := Lib.hid hb2
  have c0 := K2.e0
  have c1 := K2.e1
  have c2 := K2.e2
  have hl := rlists_any A B D n a m b k d next head tail ((w.alloc (.cells #[.slice A n a, .slice B m b, .slice D k d] 24)).alloc (.cells #[.slice none 0 0, .slice none 0 0, .slice none 0 0] 24)) HP2.out.x HP2.out.h HP2.out.t
  have HLX := Lib.hid hp.x.1
  clear hp hb2
  go_enter Try.func19, Try.ntmps19
  go_wp2_with first
    | (go_at_call 27; refine hl.mono ?_; clear hl; rintro e w3 h3; obtain ⟨H, C, hs, rfl, hq3, hb3⟩ := h3.yes r; have HB3 := Lib.hid (below3 HB2.out hb3); have K3 := K2.below hb3 K2.lt; have k0 := K3.e0; have Q3 := Lib.hid hq3; have HS3 := Lib.hid hb3.size; have Z3 := Z2.below hb3 Z2.lt; have z0 := Z3.e0; have z1 := Z3.e1; have z2 := Z3.e2; have f0 := Z3.frozen 0; have f1 := Z3.frozen 1; have f2 := Z3.frozen 2; clear hb3 h3 hq3)
    | (go_at_call 34; refine (rin_any _ _ _).mono ?_; rintro e w4 ⟨rfl, rfl⟩)
  exact bodyPost_ret (v := .tuple #[.agg #[.slice none 0 0, .slice none 0 0, .slice none 0 0], .int .i64 1]) (by simp [results, Try.results19, go_sem, *]) rfl ⟨none, 0, none, 0, none, 0, rfl, QC.nil_ _ _, (((HB3.out.setCell (p := ⟨w.heap.size + 1, 0, none⟩) (by simp) (.slice none 0 0)).setCell (p := ⟨w.heap.size + 1, 1, none⟩) (by simp) (.slice none 0 0)).setCell (p := ⟨w.heap.size + 1, 2, none⟩) (by simp) (.slice none 0 0))⟩

set_option maxHeartbeats 4000000 in
theorem rjoin_ok (A B D : Option Addr) (n a m b k d : Nat) (next head tail : List Int) (f t : Nat) (qs : List (List Int)) (N0 H0 T0 : List Int) (r : Rep next head tail qs) (hf : f < qs.length) (ht : t < qs.length) (hft : f ≠ t) (r' : Rep N0 H0 T0 ((qs.set t (qth qs t ++ qth qs f)).set f [])) (hN0 : N0.length = n) (w : World) (hp : Chn w A n B m D k next head tail) :
    Calls Try.prog 19 #[.agg #[.slice A n a, .slice B m b, .slice D k d], .int .i64 f, .int .i64 t] w (RetCE N0 H0 T0 0 w) := by
  have hb2 := ((Below.refl w.heap.size w).alloc (Nat.le_refl _) (.cells #[.slice A n a, .slice B m b, .slice D k d] 24)).alloc (by simp) (.cells #[.slice none 0 0, .slice none 0 0, .slice none 0 0] 24)
  have K2 := (Bk.new w 24 #[.slice A n a, .slice B m b, .slice D k d]).alloc (.cells #[.slice none 0 0, .slice none 0 0, .slice none 0 0] 24)
  have Z2 := Bk.new (w.alloc (.cells #[.slice A n a, .slice B m b, .slice D k d] 24)) 24 #[.slice none 0 0, .slice none 0 0, .slice none 0 0]
  rw [size_alloc] at Z2
  have HP2 := Lib.hid (hp.below hb2)
  have HB2 := Lib.hid hb2
  have c0 := K2.e0
  have c1 := K2.e1
  have c2 := K2.e2
  have hl := rlists_any A B D n a m b k d next head tail ((w.alloc (.cells #[.slice A n a, .slice B m b, .slice D k d] 24)).alloc (.cells #[.slice none 0 0, .slice none 0 0, .slice none 0 0] 24)) HP2.out.x HP2.out.h HP2.out.t
  have HLX := Lib.hid hp.x.1
  clear hp hb2
  have hin : inBd (f : Int) (qs.length : Int) = true := by simp [inBd]; omega
  have hin2 : inBd (t : Int) (qs.length : Int) = true := by simp [inBd]; omega
  have hneb : ((f : Int) == (t : Int)) = false := by rw [beq_eq_false_iff_ne]; omega
  have hl1 := r.short hf
  have hl2 := r.short ht
  go_enter Try.func19, Try.ntmps19
  go_wp2_with first
    | (go_at_call 27; refine hl.mono ?_; clear hl; rintro e w3 h3; obtain ⟨H, C, hs, rfl, hq3, hb3⟩ := h3.yes r; have HB3 := Lib.hid (below3 HB2.out hb3); have K3 := K2.below hb3 K2.lt; have k0 := K3.e0; have Q3 := Lib.hid hq3; have HS3 := Lib.hid hb3.size; have Z3 := Z2.below hb3 Z2.lt; have z0 := Z3.e0; have z1 := Z3.e1; have z2 := Z3.e2; have f0 := Z3.frozen 0; have f1 := Z3.frozen 1; have f2 := Z3.frozen 2; obtain ⟨gh, rfl, hgb, hgh⟩ := hq3.form (by omega); rw [size_alloc, size_alloc] at hgb; obtain ⟨ct, ft⟩ := hq3.at_ ht; obtain ⟨cf, ff⟩ := hq3.at_ hf; clear hb3 h3)
    | (go_at_call 34; refine (rin_any _ _ _).mono ?_; rintro e w4 ⟨rfl, rfl⟩)
  have q3 : OwnQs 3 22 w3.drew _ (some ⟨gh, 0, none⟩) C hs qs := hq3.below (Below.refl w3.heap.size w3).drew
  have HIF := (q3.own f hf).ints
  obtain ⟨A5, c5, w5, hr5, hq5, hg5, hf5⟩ := run_append_que (P := Try.prog) w3.drew 22 22 3 Try.underlying22 Try.intInfo _ (qa hs t).1 (qa hs t).2 (qth qs t) (q3.own t ht) (qa hs f).1 (qth qs f).length (qa hs f).2 (qth qs f) HIF (by omega) (by have := HS3.out; exact this)
  obtain ⟨ln, hln⟩ : ∃ z, (qth qs t ++ qth qs f).length = z := ⟨_, rfl⟩
  rw [hln] at hr5
  obtain ⟨⟨v5, cv5⟩, fr5, Q6, K6, B6, K5⟩ := put_after q3 ht hg5 ln hln hq5 hf5
  have hB6 := B6 (HB3.out.drew) (by rw [size_alloc, size_alloc]; omega)
  have KC6 := K6 K3.drew (by rw [size_alloc, size_alloc]; omega)
  have KZ6 := K6 Z3.drew (by rw [size_alloc, size_alloc]; omega)
  have hfl : f < (qs.set t (qth qs t ++ qth qs f)).length := by simpa using hf
  obtain ⟨cf6, ff6⟩ := Q6.at_ hfl
  have Q7 := Q6.turn (by decide) hfl (OwnQ.nil_ 3 _ _) (fun k hk => by simp [Value.ownBlock] at hk)
  have hB7 := hB6.setCell (p := ⟨gh, f, none⟩) (by simp only []; omega) (.slice none 0 0)
  have KC7 := KC6.far (p := ⟨gh, f, none⟩) (by simp only []; omega) (.slice none 0 0)
  have KZ7 := KZ6.far (p := ⟨gh, f, none⟩) (by simp only []; omega) (.slice none 0 0)
  have HQ7 := Lib.hid Q7
  have HB7 := Lib.hid hB7
  have HSZ := Lib.hid KZ7.lt
  have k60 := KC7.e0
  have cf5 : w5.cell? ⟨gh, f, none⟩ = some (.slice (qa hs f).1 (qth qs f).length (qa hs f).2) := by
    have := cf6
    rw [World.cell?_setCell_other _ _ _ _ (by intro e; injection e with _ e _; exact hft (by first | exact e | exact e.symm)), qa_set _ _ _ _ (by rw [hq3.len]; exact hf), if_neg (Ne.symm hft), qth_set _ _ _ _ hf, if_neg (Ne.symm hft)] at this
    exact this
  have hft' : ¬ t = f := fun e => hft e.symm
  rw [World.frozen?_setCell] at ff6
  clear cf6
  refine wp_region_held (S := fun U => U = w3.drew ∨ U = w5 ∨ U = w5.setCell ⟨gh, t, none⟩ (.slice A5 ln c5)) (by kernel_rfl) ?_
  change wpAnyH _ _ _ _ _ _ _ _ (World.drew _)
  have hS0 : (fun U => U = w3.drew ∨ U = w5 ∨ U = w5.setCell ⟨gh, t, none⟩ (.slice A5 ln c5)) w3.drew := .inl rfl
  refine wpAnyH_take (i := 0) (v := .slice (some ⟨gh, 0, none⟩) qs.length C) rfl (by kernel_rfl) (by kernel_rfl) (by kernel_rfl) (fun _ _ _ h => h) (.inl ⟨by rfl, fun U hU => by go_simp⟩) hS0 ?_
  refine wpAnyH_take (i := 1) (v := .int .i64 t) rfl (by kernel_rfl) (by kernel_rfl) (by kernel_rfl) (fun _ _ _ h => h) (.inl ⟨by rfl, fun U hU => by go_simp⟩) hS0 ?_
  refine wpAnyH_take (i := 2) (v := .slice (some ⟨gh, 0, none⟩) qs.length C) rfl (by kernel_rfl) (by kernel_rfl) (by kernel_rfl) (fun _ _ _ h => h) (.inl ⟨by rfl, fun U hU => by go_simp⟩) hS0 ?_
  refine wpAnyH_take (i := 3) (v := .int .i64 t) rfl (by kernel_rfl) (by kernel_rfl) (by kernel_rfl) (fun _ _ _ h => h) (.inl ⟨by rfl, fun U hU => by go_simp⟩) hS0 ?_
  refine wpAnyH_take (i := 4) (v := .pointer (some ⟨gh, t, none⟩)) rfl (by kernel_rfl) (by kernel_rfl) (by kernel_rfl) (fun _ _ _ h => h) (.inl ⟨by rfl, fun U hU => by go_simp⟩) hS0 ?_
  refine wpAnyH_take (i := 6) (v := .slice (some ⟨gh, 0, none⟩) qs.length C) rfl (by kernel_rfl) (by kernel_rfl) (by kernel_rfl) (fun _ _ _ h => h) (.inl ⟨by rfl, fun U hU => by go_simp⟩) hS0 ?_
  refine wpAnyH_take (i := 7) (v := .int .i64 f) rfl (by kernel_rfl) (by kernel_rfl) (by kernel_rfl) (fun _ _ _ h => h) (.inl ⟨by rfl, fun U hU => by go_simp⟩) hS0 ?_
  refine wpAnyH_take (i := 8) (v := .pointer (some ⟨gh, f, none⟩)) rfl (by kernel_rfl) (by kernel_rfl) (by kernel_rfl) (fun _ _ _ h => h) (.inl ⟨by rfl, fun U hU => by go_simp⟩) hS0 ?_
  refine wpAnyH_take (i := 9) (v := .slice (qa hs f).1 (qth qs f).length (qa hs f).2) rfl (by kernel_rfl) (by kernel_rfl) (by kernel_rfl) (fun _ _ _ h => h) (.inl ⟨by rfl, fun U hU => by rcases hU with rfl | rfl | rfl; (go_simp); (go_simp); go_simp⟩) hS0 ?_
  refine wpAnyH_all (rs := [5]) (by kernel_rfl) (by simp) ?_
  intro i' hi'
  simp only [List.mem_cons, List.not_mem_nil, or_false] at hi'
  subst hi'
  unfold wpOp
  go_simp
  left
  refine wpAnyH_all (rs := [10]) (by kernel_rfl) (by simp) ?_
  intro i' hi'
  simp only [List.mem_cons, List.not_mem_nil, or_false] at hi'
  subst hi'
  refine wpOp_append (.tmp 42) (.tmp 46) 22 (.slice A5 ln c5) (.slice (qa hs t).1 (qth qs t).length (qa hs t).2) (.slice (qa hs f).1 (qth qs f).length (qa hs f).2) rfl (by kernel_rfl) rfl (by kernel_rfl) (by kernel_rfl) hr5 ?_
  refine ⟨.inr (.inl rfl), ?_⟩
  refine wpAnyH_take (i := 11) (v := .pointer (some ⟨gh, t, none⟩)) rfl (by kernel_rfl) (by kernel_rfl) (by kernel_rfl) (fun _ _ _ h => h) (.inl ⟨by rfl, fun U hU => by go_simp⟩) (.inr (.inl rfl)) ?_
  refine wpAnyH_all (rs := [12]) (by kernel_rfl) (by simp) ?_
  intro i' hi'
  simp only [List.mem_cons, List.not_mem_nil, or_false] at hi'
  subst hi'
  unfold wpOp
  go_simp
  left
  refine ⟨by kernel_rfl, ?_⟩
  go_wp2_with (go_at_call 36; refine (rof_any _ _ _ _ _ _ N0 H0 T0 n _ hN0 (by simp) r' HQ7.out).mono ?_; rintro e w7 ⟨A7, a7, B7, b7, D7, d7, rfl, hq7, hb7⟩; have Z7 := KZ7.below hb7 KZ7.lt; have z0 := Z7.e0; have z1 := Z7.e1; have z2 := Z7.e2; have f0 := Z7.frozen 0; have f1 := Z7.frozen 1; have f2 := Z7.frozen 2; have HB8 := Lib.hid (below3 HB7.out hb7); have Q7 := Lib.hid hq7; clear hb7 hq7 HB7; have HB7 := HB8)
  have hbz := HSZ.out
  exact bodyPost_ret (v := .tuple #[.agg #[.slice A7 n a7, .slice B7 H0.length b7, .slice D7 T0.length d7], .int .i64 0]) (by simp [results, Try.results19, go_sem, *]) rfl ⟨A7, a7, B7, b7, D7, d7, by rw [hN0], (((Q7.out.far (p := ⟨w.heap.size + 1, 0, none⟩) (by first | (simp only []; omega) | (simp at hbz ⊢; omega)) (.slice A7 n a7)).far (p := ⟨w.heap.size + 1, 1, none⟩) (by first | (simp only []; omega) | (simp at hbz ⊢; omega)) (.slice B7 H0.length b7)).far (p := ⟨w.heap.size + 1, 2, none⟩) (by first | (simp only []; omega) | (simp at hbz ⊢; omega)) (.slice D7 T0.length d7)).base_ (by first | omega | (simp at hbz ⊢; omega)), (((HB7.out.setCell (p := ⟨w.heap.size + 1, 0, none⟩) (by simp) (.slice A7 n a7)).setCell (p := ⟨w.heap.size + 1, 1, none⟩) (by simp) (.slice B7 H0.length b7)).setCell (p := ⟨w.heap.size + 1, 2, none⟩) (by simp) (.slice D7 T0.length d7))⟩

end Go.Proofs.Ytiheeehegjfmgaa
