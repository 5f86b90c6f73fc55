/-
  The document's layer 8: a list in order.
-/
import Derived.Test.YtjamoafihmcmeaaTb
namespace Go.Proofs.Ytjamoafihmcmeaa
open Go.RowKit

theorem filter_two (l : List Tm) (f : Tm → Bool) : (l.filter (fun x => !f x)).length + (l.filter f).length = l.length := by
  induction l with
  | nil => rfl
  | cons x l ih => cases h : f x <;> simp [h] <;> omega
theorem withF_len (l : List Tm) (t : Tm) : (withF l t).length = l.length + 1 := by
  have := filter_two l (fun x => decide (lessT t x))
  unfold withF
  rw [List.length_append, List.length_cons]
  omega
theorem orderF_next {l : List Tm} {k : Nat} (h : k < l.length) : orderF (l.take (k + 1)) = withF (orderF (l.take k)) (ith l k) := by
  rw [take_succ h]; simp [orderF]
theorem orderF_app (l : List Tm) (t : Tm) : orderF (l ++ [t]) = withF (orderF l) t := by simp [orderF]
theorem fold_len (l acc : List Tm) : (l.foldl withF acc).length = acc.length + l.length := by
  induction l generalizing acc with
  | nil => simp
  | cons t l ih => rw [List.foldl_cons, ih, withF_len, List.length_cons]; omega
theorem orderF_len (l : List Tm) : (orderF l).length = l.length := by unfold orderF; rw [fold_len]; simp
theorem withF_mem {l : List Tm} {t x : Tm} : x ∈ withF l t ↔ x ∈ l ∨ x = t := by
  simp only [withF, List.mem_append, List.mem_cons, List.mem_filter]
  by_cases h : lessT t x
  · simp [h]; constructor
    · rintro (h | h); exact .inr h; exact .inl h
    · rintro (h | h); exact .inr h; exact .inl h
  · simp [h]

set_option maxHeartbeats 2000000 in
theorem order_any (A : Option Addr) (n c : Nat) (l : List Tm) (w : World) (hx : Tms w A n c l) (hn : n ≤ 1000) :
    Calls Try.prog 39 #[.slice A n c] w (NewT (orderF l) w) := by
  have HX := Lib.hid hx
  have LX := Lib.hid hx.1
  clear hx
  go_enter Try.func39, Try.ntmps39
  go_wp2_with fail
  go_loopw [3, 8] (fun u3 t wr => ∃ k : Nat, k ≤ n ∧ t = .int .i64 k ∧ ∃ Ao co ys, ys = orderF (l.take k) ∧ u3 = .slice Ao ys.length co ∧ Hid (OwnT 24 wr w.heap.size Ao co ys ∧ Below w.heap.size w wr)) (fun _ t _ => n - (intOf t).toNat)
  case atStart => exact ⟨0, Nat.zero_le _, rfl, none, 0, [], rfl, rfl, Lib.hid ⟨OwnT.nil_ _ _ _, Below.refl _ _⟩⟩
  case round =>
    rename World => wr
    obtain ⟨k, hk, rfl, Ao, co, ys, hys, rfl, WI⟩ := hrel
    by_cases hkn : k < n
    · obtain ⟨bL, oL, rfl, hbL, c0, c1⟩ := (HX.out.below WI.out.2).at_ hkn
      obtain ⟨fa, fb⟩ := HX.out.fit hkn
      have hkl : k < l.length := by rw [LX.out]; exact hkn
      have hyl : ys.length ≤ 1000 := by rw [hys, orderF_len, List.length_take]; omega
      obtain ⟨z1, hz1⟩ : ∃ z, jO l k = z := ⟨_, rfl⟩
      obtain ⟨z2, hz2⟩ : ∃ z, jA l k = z := ⟨_, rfl⟩
      rw [hz1] at c0 fa
      rw [hz2] at c1 fb
      have hz : ith l k = (z1, z2) := by rw [← hz1, ← hz2]; rfl
      have HYN : Hid (withF ys (z1, z2) = orderF (l.take (k + 1))) := Lib.hid (by rw [orderF_next hkl, hys, hz])
      have ba := (Below.refl wr.heap.size wr).alloc (Nat.le_refl _) (.cells #[.int .i64 z1, .int .i64 z2] 24)
      have ka := Bk.new wr 24 #[.int .i64 z1, .int .i64 z2]
      have o2 := WI.out.1.below ba
      have b2 := below3 WI.out.2 ba
      obtain ⟨g, hg⟩ : ∃ g, wr.heap.size = g := ⟨_, rfl⟩
      have hgw : w.heap.size ≤ g := by rw [← hg]; exact WI.out.2.size
      obtain ⟨V, hV⟩ : ∃ V, wr.alloc (.cells #[.int .i64 z1, .int .i64 z2] 24) = V := ⟨_, rfl⟩
      rw [hV] at ka o2 b2
      rw [hg] at ka
      have HV := Lib.hid hV
      have HG := Lib.hid hg
      have KA := Lib.hid ka
      have O2 := Lib.hid o2
      have B2 := Lib.hid b2
      have CW := Lib.hid (with_any Ao ys.length co ys z1 z2 V o2.tms fa fb (by omega))
      clear hV hg ka o2 b2 ba hz1 hz2 fa fb hz hys
      go_upto_region 5 with fail
      rw [HV.out]
      try rw [HG.out]
      clear HV HG c0 c1 WI
      have a0 : _ = some (Value.int .i64 z1) := KA.out.cell 0
      have a1 : _ = some (Value.int .i64 z2) := KA.out.cell 1
      have la := KA.out.lt
      go_wp2_with fail
      refine CW.out.mono ?_
      rintro e U ⟨A2, c2, rfl, o3, b3⟩
      have W5 := Lib.hid (⟨o3.base (by have := B2.out.size; omega), below3 B2.out b3⟩ : OwnT 24 U w.heap.size A2 c2 (withF ys (z1, z2)) ∧ Below w.heap.size w U)
      clear a0 a1 la KA O2 B2 CW o3 b3
      go_wp2
      go_roundw
      case rel => exact ⟨k + 1, by omega, by go_num, A2, c2, _, HYN.out, rfl, W5⟩
      case measure => simp [intOf]; omega
    · obtain rfl : n = k := by omega
      have e : ys = orderF l := by rw [hys, ← LX.out, List.take_length]
      subst e
      clear hk hkn
      go_wp2
      go_ret
      exact ⟨Ao, co, rfl, WI.out.1, WI.out.2⟩

end Go.Proofs.Ytjamoafihmcmeaa
