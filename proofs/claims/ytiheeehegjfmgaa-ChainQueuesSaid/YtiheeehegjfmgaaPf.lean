/-
  The program's Check, Where, Walk, New.
-/
import Derived.Test.YtiheeehegjfmgaaPe
namespace Go.Proofs.Ytiheeehegjfmgaa
open Go.RowKit Go.Shelf

theorem OwnAns.no {next head tail : List Int} {w w' : World} {e : Ending} (h : OwnAns next head tail w e w') (hno : ∀ qs, ¬ Rep next head tail qs) : e = .returned (.tuple #[.slice none 0 0, .bool false]) ∧ Below w.heap.size w w' := by
  obtain ⟨hb, ⟨qs, r, _⟩ | ⟨_, he⟩⟩ := h
  · exact absurd r (hno qs)
  · exact ⟨he, hb⟩
theorem OwnAns.yes {next head tail : List Int} {w w' : World} {e : Ending} {qs : List (List Int)} (h : OwnAns next head tail w e w') (r : Rep next head tail qs) :
    ∃ A c, e = .returned (.tuple #[.slice A next.length c, .bool true]) ∧ OwnI 3 w' w.heap.size A c (inL next.length qs) ∧ Below w.heap.size w w' := by
  obtain ⟨hb, ⟨qs', r', A, c, he, ho⟩ | ⟨hno, _⟩⟩ := h
  · obtain rfl := r.unique r'
    exact ⟨A, c, he, ho, hb⟩
  · exact absurd r (hno qs)

set_option maxHeartbeats 1000000 in
theorem check_no (A B D : Option Addr) (n a m b k d : Nat) (next head tail : List Int) (hno : ∀ qs, ¬ Rep next head tail qs) (w : World) (hp : Chn w A n B m D k next head tail) :
    Calls Try.prog 29 #[.agg #[.slice A n a, .slice B m b, .slice D k d]] w (RetB (.int .i64 1) w) := by
  have hb2 := (Below.refl w.heap.size w).alloc (Nat.le_refl _) (.cells #[.slice A n a, .slice B m b, .slice D k d] 24)
  have K2 := Bk.new w 24 #[.slice A n a, .slice B m b, .slice D k d]
  have HP2 := Lib.hid (hp.below hb2)
  have HB2 := Lib.hid hb2
  have c0 := K2.e0
  have c1 := K2.e1
  have c2 := K2.e2
  have HLX := Lib.hid hp.x.1
  have HLH := Lib.hid hp.h.1
  clear hp hb2
  go_enter Try.func29, Try.ntmps29
  go_wp2_with (go_at_call 43; refine (owners_any A B D n a m b k d next head tail (w.alloc (.cells #[.slice A n a, .slice B m b, .slice D k d] 24)) HP2.out.x HP2.out.h HP2.out.t).mono ?_; rintro e w3 h3; obtain ⟨rfl, hb3⟩ := h3.no hno; have HB3 := Lib.hid (below3 HB2.out hb3); have K3 := K2.below hb3 K2.lt; have k0 := K3.e0; have k1 := K3.e1; have k2 := K3.e2; clear h3)
  go_ret
  exact ⟨rfl, HB3.out⟩

set_option maxHeartbeats 1000000 in
theorem check_yes (A B D : Option Addr) (n a m b k d : Nat) (next head tail : List Int) (qs : List (List Int)) (r : Rep next head tail qs) (w : World) (hp : Chn w A n B m D k next head tail) :
    Calls Try.prog 29 #[.agg #[.slice A n a, .slice B m b, .slice D k d]] w (RetB (.int .i64 0) w) := by
  have hb2 := (Below.refl w.heap.size w).alloc (Nat.le_refl _) (.cells #[.slice A n a, .slice B m b, .slice D k d] 24)
  have K2 := Bk.new w 24 #[.slice A n a, .slice B m b, .slice D k d]
  have HP2 := Lib.hid (hp.below hb2)
  have HB2 := Lib.hid hb2
  have c0 := K2.e0
  have c1 := K2.e1
  have c2 := K2.e2
  have HLX := Lib.hid hp.x.1
  have HLH := Lib.hid hp.h.1
  clear hp hb2
  go_enter Try.func29, Try.ntmps29
  go_wp2_with (go_at_call 43; refine (owners_any A B D n a m b k d next head tail (w.alloc (.cells #[.slice A n a, .slice B m b, .slice D k d] 24)) HP2.out.x HP2.out.h HP2.out.t).mono ?_; rintro e w3 h3; obtain ⟨E, c, rfl, ho3, hb3⟩ := h3.yes r; rw [HLX.out]; have HO3 := Lib.hid ho3; have HB3 := Lib.hid (below3 HB2.out hb3); have K3 := K2.below hb3 K2.lt; have k0 := K3.e0; have k1 := K3.e1; have k2 := K3.e2; clear h3)
  go_ret
  exact ⟨rfl, HB3.out⟩

set_option maxHeartbeats 1000000 in
theorem has_no (A B D : Option Addr) (n a m b k d : Nat) (next head tail : List Int) (list : Int) (hno : ∀ qs, ¬ Rep next head tail qs) (w : World) (hp : Chn w A n B m D k next head tail) :
    Calls Try.prog 37 #[.agg #[.slice A n a, .slice B m b, .slice D k d], .int .i64 list] w (RetB (.bool false) w) := by
  have hb2 := (Below.refl w.heap.size w).alloc (Nat.le_refl _) (.cells #[.slice A n a, .slice B m b, .slice D k d] 24)
  have K2 := Bk.new w 24 #[.slice A n a, .slice B m b, .slice D k d]
  have HP2 := Lib.hid (hp.below hb2)
  have HB2 := Lib.hid hb2
  have c0 := K2.e0
  have c1 := K2.e1
  have c2 := K2.e2
  have HLX := Lib.hid hp.x.1
  have HLH := Lib.hid hp.h.1
  clear hp hb2
  go_enter Try.func37, Try.ntmps37
  go_wp2_with (go_at_call 29; refine (check_no A B D n a m b k d next head tail hno (w.alloc (.cells #[.slice A n a, .slice B m b, .slice D k d] 24)) HP2.out).mono ?_; rintro e w3 ⟨rfl, hb3⟩; have HB3 := Lib.hid (below3 HB2.out hb3); have K3 := K2.below hb3 K2.lt; have k0 := K3.e0; have k1 := K3.e1; have k2 := K3.e2; clear hb3)
  go_ret
  exact ⟨rfl, HB3.out⟩

set_option maxHeartbeats 1000000 in
theorem has_out (A B D : Option Addr) (n a m b k d : Nat) (next head tail : List Int) (list : Int) (qs : List (List Int)) (r : Rep next head tail qs) (hin : inBd list (m : Int) = false) (w : World) (hp : Chn w A n B m D k next head tail) :
    Calls Try.prog 37 #[.agg #[.slice A n a, .slice B m b, .slice D k d], .int .i64 list] w (RetB (.bool false) w) := by
  have hb2 := (Below.refl w.heap.size w).alloc (Nat.le_refl _) (.cells #[.slice A n a, .slice B m b, .slice D k d] 24)
  have K2 := Bk.new w 24 #[.slice A n a, .slice B m b, .slice D k d]
  have HP2 := Lib.hid (hp.below hb2)
  have HB2 := Lib.hid hb2
  have c0 := K2.e0
  have c1 := K2.e1
  have c2 := K2.e2
  have HLX := Lib.hid hp.x.1
  have HLH := Lib.hid hp.h.1
  clear hp hb2
  by_cases h0 : list < 0
  · go_enter Try.func37, Try.ntmps37
    go_wp2_with (go_at_call 29; refine (check_yes A B D n a m b k d next head tail qs r (w.alloc (.cells #[.slice A n a, .slice B m b, .slice D k d] 24)) HP2.out).mono ?_; rintro e w3 ⟨rfl, hb3⟩; have HB3 := Lib.hid (below3 HB2.out hb3); have K3 := K2.below hb3 K2.lt; have k0 := K3.e0; have k1 := K3.e1; have k2 := K3.e2; clear hb3)
    go_ret
    exact ⟨rfl, HB3.out⟩
  · have h1 : ¬ list < (m : Int) := by
      intro h
      have : inBd list (m : Int) = true := by simp [inBd]; omega
      rw [this] at hin
      cases hin
    go_enter Try.func37, Try.ntmps37
    go_wp2_with (go_at_call 29; refine (check_yes A B D n a m b k d next head tail qs r (w.alloc (.cells #[.slice A n a, .slice B m b, .slice D k d] 24)) HP2.out).mono ?_; rintro e w3 ⟨rfl, hb3⟩; have HB3 := Lib.hid (below3 HB2.out hb3); have K3 := K2.below hb3 K2.lt; have k0 := K3.e0; have k1 := K3.e1; have k2 := K3.e2; clear hb3)
    go_ret
    exact ⟨by simp [h1], HB3.out⟩

set_option maxHeartbeats 1000000 in
theorem has_yes (A B D : Option Addr) (n a m b k d : Nat) (next head tail : List Int) (list : Int) (qs : List (List Int)) (r : Rep next head tail qs) (hin : inBd list (m : Int) = true) (w : World) (hp : Chn w A n B m D k next head tail) :
    Calls Try.prog 37 #[.agg #[.slice A n a, .slice B m b, .slice D k d], .int .i64 list] w (RetB (.bool true) w) := by
  have hb2 := (Below.refl w.heap.size w).alloc (Nat.le_refl _) (.cells #[.slice A n a, .slice B m b, .slice D k d] 24)
  have K2 := Bk.new w 24 #[.slice A n a, .slice B m b, .slice D k d]
  have HP2 := Lib.hid (hp.below hb2)
  have HB2 := Lib.hid hb2
  have c0 := K2.e0
  have c1 := K2.e1
  have c2 := K2.e2
  have HLX := Lib.hid hp.x.1
  have HLH := Lib.hid hp.h.1
  clear hp hb2
  have h01 : 0 ≤ list ∧ list < (m : Int) := by simpa [inBd] using hin
  obtain ⟨h0, h1⟩ := h01
  go_enter Try.func37, Try.ntmps37
  go_wp2_with (go_at_call 29; refine (check_yes A B D n a m b k d next head tail qs r (w.alloc (.cells #[.slice A n a, .slice B m b, .slice D k d] 24)) HP2.out).mono ?_; rintro e w3 ⟨rfl, hb3⟩; have HB3 := Lib.hid (below3 HB2.out hb3); have K3 := K2.below hb3 K2.lt; have k0 := K3.e0; have k1 := K3.e1; have k2 := K3.e2; clear hb3)
  go_ret
  exact ⟨rfl, HB3.out⟩

set_option maxHeartbeats 1000000 in
theorem whereF_no (A B D : Option Addr) (n a m b k d : Nat) (next head tail : List Int) (x : Int) (hno : ∀ qs, ¬ Rep next head tail qs) (w : World) (hp : Chn w A n B m D k next head tail) :
    Calls Try.prog 25 #[.agg #[.slice A n a, .slice B m b, .slice D k d], .int .i64 x] w (RetNE 0 1 w) := by
  have hb2 := (Below.refl w.heap.size w).alloc (Nat.le_refl _) (.cells #[.slice A n a, .slice B m b, .slice D k d] 24)
  have K2 := Bk.new w 24 #[.slice A n a, .slice B m b, .slice D k d]
  have HP2 := Lib.hid (hp.below hb2)
  have HB2 := Lib.hid hb2
  have c0 := K2.e0
  have c1 := K2.e1
  have c2 := K2.e2
  have HLX := Lib.hid hp.x.1
  have HLH := Lib.hid hp.h.1
  clear hp hb2
  go_enter Try.func25, Try.ntmps25
  go_wp2_with (go_at_call 43; refine (owners_any A B D n a m b k d next head tail (w.alloc (.cells #[.slice A n a, .slice B m b, .slice D k d] 24)) HP2.out.x HP2.out.h HP2.out.t).mono ?_; rintro e w3 h3; obtain ⟨rfl, hb3⟩ := h3.no hno; have HB3 := Lib.hid (below3 HB2.out hb3); have K3 := K2.below hb3 K2.lt; have k0 := K3.e0; have k1 := K3.e1; have k2 := K3.e2; clear h3)
  go_ret2
  exact ⟨rfl, HB3.out⟩

set_option maxHeartbeats 1000000 in
theorem whereF_out (A B D : Option Addr) (n a m b k d : Nat) (next head tail : List Int) (x : Int) (qs : List (List Int)) (r : Rep next head tail qs) (hin : inBd x (n : Int) = false) (w : World) (hp : Chn w A n B m D k next head tail) :
    Calls Try.prog 25 #[.agg #[.slice A n a, .slice B m b, .slice D k d], .int .i64 x] w (RetNE 0 1 w) := by
  have hb2 := (Below.refl w.heap.size w).alloc (Nat.le_refl _) (.cells #[.slice A n a, .slice B m b, .slice D k d] 24)
  have K2 := Bk.new w 24 #[.slice A n a, .slice B m b, .slice D k d]
  have HP2 := Lib.hid (hp.below hb2)
  have HB2 := Lib.hid hb2
  have c0 := K2.e0
  have c1 := K2.e1
  have c2 := K2.e2
  have HLX := Lib.hid hp.x.1
  have HLH := Lib.hid hp.h.1
  clear hp hb2
  by_cases h0 : x < 0
  · go_enter Try.func25, Try.ntmps25
    go_wp2_with (go_at_call 43; refine (owners_any A B D n a m b k d next head tail (w.alloc (.cells #[.slice A n a, .slice B m b, .slice D k d] 24)) HP2.out.x HP2.out.h HP2.out.t).mono ?_; rintro e w3 h3; obtain ⟨E, c, rfl, ho3, hb3⟩ := h3.yes r; rw [HLX.out]; have HO3 := Lib.hid ho3; have HB3 := Lib.hid (below3 HB2.out hb3); have K3 := K2.below hb3 K2.lt; have k0 := K3.e0; have k1 := K3.e1; have k2 := K3.e2; clear h3)
    go_ret2
    exact ⟨rfl, HB3.out⟩
  · have h1 : (n : Int) ≤ x := by
      by_cases h : x < (n : Int)
      · have : inBd x (n : Int) = true := by simp [inBd]; omega
        rw [this] at hin
        cases hin
      · omega
    go_enter Try.func25, Try.ntmps25
    go_wp2_with (go_at_call 43; refine (owners_any A B D n a m b k d next head tail (w.alloc (.cells #[.slice A n a, .slice B m b, .slice D k d] 24)) HP2.out.x HP2.out.h HP2.out.t).mono ?_; rintro e w3 h3; obtain ⟨E, c, rfl, ho3, hb3⟩ := h3.yes r; rw [HLX.out]; have HO3 := Lib.hid ho3; have HB3 := Lib.hid (below3 HB2.out hb3); have K3 := K2.below hb3 K2.lt; have k0 := K3.e0; have k1 := K3.e1; have k2 := K3.e2; clear h3)
    go_ret2
    exact ⟨rfl, HB3.out⟩

set_option maxHeartbeats 1000000 in
theorem whereF_ok (A B D : Option Addr) (n a m b k d : Nat) (next head tail : List Int) (x : Int) (qs : List (List Int)) (r : Rep next head tail qs) (hin : inBd x (n : Int) = true) (w : World) (hp : Chn w A n B m D k next head tail) :
    Calls Try.prog 25 #[.agg #[.slice A n a, .slice B m b, .slice D k d], .int .i64 x] w (RetNE (whereQ qs x) 0 w) := by
  have hb2 := (Below.refl w.heap.size w).alloc (Nat.le_refl _) (.cells #[.slice A n a, .slice B m b, .slice D k d] 24)
  have K2 := Bk.new w 24 #[.slice A n a, .slice B m b, .slice D k d]
  have HP2 := Lib.hid (hp.below hb2)
  have HB2 := Lib.hid hb2
  have c0 := K2.e0
  have c1 := K2.e1
  have c2 := K2.e2
  have HLX := Lib.hid hp.x.1
  have HLH := Lib.hid hp.h.1
  clear hp hb2
  have h01 : 0 ≤ x ∧ x < (n : Int) := by simpa [inBd] using hin
  obtain ⟨h0, h1⟩ := h01
  go_enter Try.func25, Try.ntmps25
  go_wp2_with (go_at_call 43; refine (owners_any A B D n a m b k d next head tail (w.alloc (.cells #[.slice A n a, .slice B m b, .slice D k d] 24)) HP2.out.x HP2.out.h HP2.out.t).mono ?_; rintro e w3 h3; obtain ⟨E, c, rfl, ho3, hb3⟩ := h3.yes r; rw [HLX.out]; have HO3 := Lib.hid ho3; have HB3 := Lib.hid (below3 HB2.out hb3); have K3 := K2.below hb3 K2.lt; have k0 := K3.e0; have k1 := K3.e1; have k2 := K3.e2; obtain ⟨ge, rfl, -, -, -, -⟩ := ho3.form (by rw [inL_len, HLX.out]; omega); have ce := (ho3.at_ (j := x.toNat) (by rw [inL_len, HLX.out]; omega)).1; rw [HLX.out, inL_at qs (by omega), show ((x.toNat : Nat) : Int) = x by omega] at ce; clear h3 ho3 hb3)
  go_ret2
  exact ⟨rfl, HB3.out⟩

theorem collect_nodes (C g gf : Nat) (lb : Array Value) (next l : List Int) (w : World) (eg : ∀ args w, (callFunc gf args).run Try.prog w = .ok (.enter gf args) w) (hl : l.length ≤ 1024) (hn : next.length ≤ 1024)
    (hr : ∀ q, q < l.length → 0 ≤ nth l q ∧ nth l q < (next.length : Int)) (hx : ∀ q, q < l.length → nth next (nth l q).toNat = hdK l (q + 1)) (hC : C ≤ w.heap.size) (hg : g + 1 < w.heap.size)
    (hseq : ∀ w1, Below w.heap.size w w1 → SeqN 4 Try.prog gf lb (KpN C g) (hdK l 0) next w1) :
    Calls Try.prog 41 #[.func (.func gf) #[] lb] w (RetI l w) := by
  have ha := appendSeq_nodes C g gf lb next l w eg hl hn hr hx hC hg hseq
  clear hr hx hseq
  go_enter Try.func41, Try.ntmps41
  go_wp2_with (go_at_call 48; refine ha.mono ?_; rintro e w1 ⟨A, c, rfl, ho, hb⟩; have HO := Lib.hid ho; have HB := Lib.hid hb; clear ho hb)
  go_ret
  exact ⟨A, c, rfl, HO.out, HB.out⟩

set_option maxHeartbeats 1000000 in
theorem walk_no (A B D : Option Addr) (n a m b k d : Nat) (next head tail : List Int) (list : Int) (hno : ∀ qs, ¬ Rep next head tail qs) (w : World) (hp : Chn w A n B m D k next head tail) :
    Calls Try.prog 23 #[.agg #[.slice A n a, .slice B m b, .slice D k d], .int .i64 list] w (RetIE [] 1 w) := by
  have hb2 := (Below.refl w.heap.size w).alloc (Nat.le_refl _) (.cells #[.slice A n a, .slice B m b, .slice D k d] 24)
  have K2 := Bk.new w 24 #[.slice A n a, .slice B m b, .slice D k d]
  have HP2 := Lib.hid (hp.below hb2)
  have HB2 := Lib.hid hb2
  have c0 := K2.e0
  have c1 := K2.e1
  have c2 := K2.e2
  have HLX := Lib.hid hp.x.1
  have HLH := Lib.hid hp.h.1
  clear hp hb2
  go_enter Try.func23, Try.ntmps23
  go_wp2_with (go_at_call 37; refine (has_no A B D n a m b k d next head tail list hno (w.alloc (.cells #[.slice A n a, .slice B m b, .slice D k d] 24)) HP2.out).mono ?_; rintro e w3 ⟨rfl, hb3⟩; have HB3 := Lib.hid (below3 HB2.out hb3); have K3 := K2.below hb3 K2.lt; have k0 := K3.e0; have k1 := K3.e1; have k2 := K3.e2; have HP3 := Lib.hid (HP2.out.below hb3); have HS3 := Lib.hid hb3.size; clear hb3)
  go_ret2
  exact ⟨none, 0, rfl, OwnQ.nil_ _ _ _, HB3.out⟩

set_option maxHeartbeats 1000000 in
theorem walk_out (A B D : Option Addr) (n a m b k d : Nat) (next head tail : List Int) (list : Int) (qs : List (List Int)) (r : Rep next head tail qs) (hin : inBd list (m : Int) = false) (w : World) (hp : Chn w A n B m D k next head tail) :
    Calls Try.prog 23 #[.agg #[.slice A n a, .slice B m b, .slice D k d], .int .i64 list] w (RetIE [] 1 w) := by
  have hb2 := (Below.refl w.heap.size w).alloc (Nat.le_refl _) (.cells #[.slice A n a, .slice B m b, .slice D k d] 24)
  have K2 := Bk.new w 24 #[.slice A n a, .slice B m b, .slice D k d]
  have HP2 := Lib.hid (hp.below hb2)
  have HB2 := Lib.hid hb2
  have c0 := K2.e0
  have c1 := K2.e1
  have c2 := K2.e2
  have HLX := Lib.hid hp.x.1
  have HLH := Lib.hid hp.h.1
  clear hp hb2
  go_enter Try.func23, Try.ntmps23
  go_wp2_with (go_at_call 37; refine (has_out A B D n a m b k d next head tail list qs r hin (w.alloc (.cells #[.slice A n a, .slice B m b, .slice D k d] 24)) HP2.out).mono ?_; rintro e w3 ⟨rfl, hb3⟩; have HB3 := Lib.hid (below3 HB2.out hb3); have K3 := K2.below hb3 K2.lt; have k0 := K3.e0; have k1 := K3.e1; have k2 := K3.e2; have HP3 := Lib.hid (HP2.out.below hb3); have HS3 := Lib.hid hb3.size; clear hb3)
  go_ret2
  exact ⟨none, 0, rfl, OwnQ.nil_ _ _ _, HB3.out⟩

set_option maxHeartbeats 1000000 in
theorem walk_ok (A B D : Option Addr) (n a m b k d : Nat) (next head tail : List Int) (i : Nat) (qs : List (List Int)) (r : Rep next head tail qs) (hi : i < qs.length) (w : World) (hp : Chn w A n B m D k next head tail) :
    Calls Try.prog 23 #[.agg #[.slice A n a, .slice B m b, .slice D k d], .int .i64 i] w (RetIE (qth qs i) 0 w) := by
  have hb2 := (Below.refl w.heap.size w).alloc (Nat.le_refl _) (.cells #[.slice A n a, .slice B m b, .slice D k d] 24)
  have K2 := Bk.new w 24 #[.slice A n a, .slice B m b, .slice D k d]
  have HP2 := Lib.hid (hp.below hb2)
  have HB2 := Lib.hid hb2
  have c0 := K2.e0
  have c1 := K2.e1
  have c2 := K2.e2
  have HLX := Lib.hid hp.x.1
  have HLH := Lib.hid hp.h.1
  clear hp hb2
  have him : i < m := by have := HLH.out; have := r.lh; omega
  have hin : inBd (i : Int) (m : Int) = true := by simp [inBd]; omega
  go_enter Try.func23, Try.ntmps23
  go_wp2_with first
    | (go_at_call 37; refine (has_yes A B D n a m b k d next head tail i qs r hin (w.alloc (.cells #[.slice A n a, .slice B m b, .slice D k d] 24)) HP2.out).mono ?_; rintro e w3 ⟨rfl, hb3⟩; have HB3 := Lib.hid (below3 HB2.out hb3); have K3 := K2.below hb3 K2.lt; have k0 := K3.e0; have k1 := K3.e1; have k2 := K3.e2; have HP3 := Lib.hid (HP2.out.below hb3); have HS3 := Lib.hid hb3.size; clear hb3)
    | (go_at_call 42; refine (nodes_any _ _ rfl ⟨_, _, _, rfl⟩ i w3).mono ?_; rintro e w4 ⟨rfl, rfl⟩; have L4 := lie_new (w0 := w3) (w := w3) (fun _ _ => rfl) (Nat.le_refl _) #[.slice A n a, .slice B m b, .slice D k d] i; have hb4 := ((Below.refl w3.heap.size w3).alloc (Nat.le_refl _) (.cells #[.slice A n a, .slice B m b, .slice D k d] 24)).alloc (by simp) (.cells #[.int .i64 i] 3); have HB4 := Lib.hid (below3 HB3.out hb4))
    | (go_at_call 41; refine (collect_nodes w3.heap.size w3.heap.size 49 _ next (qth qs i) _ (enters_of Try.func49 (by kernel_rfl) rfl) (r.short hi) r.few (fun q hq => r.rng i q hi hq) (fun q hq => r.nx i q hi hq) (by simp; omega) (by simp) (fun w1 hw1 => by rw [hdK_zero, ← r.hd i hi]; exact nodes1_seq 4 w3.heap.size w3.heap.size A B D n a m b k d next head i w3 w1 HP3.out.x HP3.out.h rfl (Nat.le_trans (by simp; omega) hw1.size) him (L4.kept (KpN.of_below hw1 (by simp; omega) (by simp)) (by simp; omega)))).mono ?_; rintro e w5 ⟨E, c, rfl, ho5, hb5⟩; have HO5 := Lib.hid (ho5.base_ (base' := w.heap.size) (by have := HB4.out.size; exact this)); have HB5 := Lib.hid (below3 HB4.out hb5); clear ho5 hb5)
  go_ret2
  exact ⟨_, _, rfl, HO5.out, HB5.out⟩

end Go.Proofs.Ytiheeehegjfmgaa
