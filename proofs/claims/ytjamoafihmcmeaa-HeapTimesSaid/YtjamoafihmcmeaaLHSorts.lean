/-
  The law HeapSorts: expired at the greatest time all come, in order; in two goes as in one: the walk.
-/
import Derived.Test.YtjamoafihmcmeaaLHi
namespace Go.Proofs.Ytjamoafihmcmeaa
open Go.RowKit

/-- append, at an operation that is wanted, by its run. -/
theorem wpList_append_run {P : Program} {ops : Array Oper} {rest : List Oper} {o : Oper} {a : Act} {w w' : World} {Q : Exit → Act → World → Prop} (hw : Region.wanted o (yielded ops a.tmps) = true) (s x : Operand) (t : TypeId)
    (ho : o.op = .call { callee := .builtin .append, args := #[s, x], argTypes := #[t, t] }) (sv xv v : Value) (hs : a.eval s = sv) (hx : a.eval x = xv) (hr : (Builtin.append_ #[t, t] o.type #[sv, xv]).run P w = .ok v w')
    (h : wpList P ops Q rest (a.put o.dst v) w') : wpList P ops Q (o :: rest) a w := by
  unfold wpList
  rw [if_pos hw]
  left
  unfold Oper.wp execOp
  simp only [ho, resolve, invoke, builtin, Sem.run_bind, Sem.run_pure, Result.andThen_ok, List.map_toArray, List.map_cons, List.map_nil, hs, hx, hr]
  exact h

theorem wpList_move_run {P : Program} {ops : Array Oper} {rest : List Oper} {o : Oper} {a : Act} {w : World} {Q : Exit → Act → World → Prop} (hw : Region.wanted o (yielded ops a.tmps) = true) (x : Operand)
    (ho : o.op = .move x) (v : Value) (hx : a.eval x = v) (h : wpList P ops Q rest (a.put o.dst v) w) : wpList P ops Q (o :: rest) a w := by
  unfold wpList
  rw [if_pos hw]
  left
  unfold Oper.wp execOp
  simp only [ho, Sem.run_pure, hx]
  exact h

theorem srt_split {s : List Tm} (h : Srt s) (c : Int) : s.filter (fun t => decide (t.1 ≤ c)) ++ s.filter (fun t => !decide (t.1 ≤ c)) = s := by
  induction s with
  | nil => rfl
  | cons x r ih =>
    obtain ⟨h1, h2⟩ := List.pairwise_cons.1 h
    by_cases hx : x.1 ≤ c
    · rw [List.filter_cons, if_pos (by simpa using hx), List.filter_cons, if_neg (by simpa using hx), List.cons_append, ih h2]
    · have hr : ∀ y ∈ r, ¬ y.1 ≤ c := fun y hy => by
        have := h1 y hy
        unfold leT lessT at this
        omega
      rw [List.filter_cons, if_neg (by simpa using hx), List.filter_cons, if_pos (by simpa using hx), List.filter_eq_nil_iff.2 (fun y hy => by simpa using hr y hy),
        List.filter_eq_self.2 (fun y hy => by have := hr y hy; simpa using this)]
      rfl
theorem order_left {l a : List Tm} {c : Int} (h : a.Perm (leftL l c)) : orderF a = (orderF l).filter (fun t => !decide (t.1 ≤ c)) :=
  orderF_of_srt (List.Pairwise.filter _ (orderF_srt l)) (((orderF_perm l).filter _).trans h.symm)
theorem due_two {l a : List Tm} {mn mx : Int} (hm : mn ≤ mx) (h : a.Perm (leftL l mn)) : dueL l mn ++ dueL a mx = dueL l mx := by
  unfold dueL
  rw [order_left h, ← List.map_append]
  congr 1
  have hs := congrArg (List.filter (fun t : Tm => decide (t.1 ≤ mx))) (srt_split (orderF_srt l) mn)
  rw [← hs, List.filter_append]
  congr 1
  · symm
    rw [List.filter_filter]
    congr 1
    funext t
    by_cases h1 : t.1 ≤ mn
    · simp [h1, show t.1 ≤ mx by omega]
    · simp [h1]
theorem left_two {l a : List Tm} {mn mx : Int} (hm : mn ≤ mx) (h : a.Perm (leftL l mn)) : (leftL a mx).Perm (leftL l mx) := by
  have h1 : (leftL a mx).Perm (leftL (leftL l mn) mx) := h.filter _
  refine h1.trans (List.Perm.of_eq ?_)
  unfold leftL
  rw [List.filter_filter]
  congr 1
  funext t
  by_cases h2 : t.1 ≤ mn
  · simp [h2, show t.1 ≤ mx by omega]
  · simp [h2]
theorem due_all {l : List Tm} (h : heapOk l) {c : Int} (hc : 1125899906842624 ≤ c) : dueL l c = (orderF l).map (·.2) ∧ leftL l c = [] := by
  have ha : ∀ t ∈ l, t.1 ≤ c := fun t ht => by have := (h.may ht).2.1; omega
  constructor
  · unfold dueL
    rw [List.filter_eq_self.2 (fun t ht => by simpa using ha t ((orderF_perm l).mem_iff.1 ht))]
  · unfold leftL
    exact List.filter_eq_nil_iff.2 (fun t ht => by simpa using ha t ht)
theorem order_strict {l : List Tm} (h : heapOk l) {i k : Nat} (hi : i < k) (hk : k < (orderF l).length) : lessT (ith (orderF l) i) (ith (orderF l) k) := by
  have h1 := (List.pairwise_iff_getElem.1 (orderF_srt l)) i k (by omega) hk hi
  have h2 : NoTwo (orderF l) := (noTwo_perm (orderF_perm l)).2 h.noTwo
  unfold NoTwo at h2
  rw [List.nodup_iff_pairwise_ne, List.pairwise_iff_getElem] at h2
  have h3 := h2 i k (by rw [List.length_map]; omega) (by rw [List.length_map]; exact hk) hi
  rw [List.getElem_map, List.getElem_map] at h3
  rw [ith_get (by omega), ith_get hk]
  unfold leT lessT at *
  omega
theorem expire_zero {l : List Tm} (h : heapOk l) {now z : Int} {xs : List Int} {a : List Tm} (s : ExpireSpec l now z xs a) : z = 0 ∧ xs = dueL l now ∧ heapOk a ∧ a.Perm (leftL l now) := by
  have hz : z = 0 := by rw [s.1, expireR, if_pos h]
  exact ⟨hz, s.2.2 hz⟩
theorem nth_map {s : List Tm} {k : Nat} (h : k < s.length) : nth (s.map (·.2)) k = jA s k := by
  unfold jA
  rw [ith_get h, nth_get (by rw [List.length_map]; exact h), List.getElem_map]
/-- What a round reads: its own timer, the number, the timer ahead. -/
structure SrS (V : World) (gt bX oX bA oA : Nat) (x1 x2 y1 y2 : Int) : Prop where
  k : Bk V gt 24 #[.int .i64 x1, .int .i64 x2]
  x : bX < V.heap.size ∧ V.cell? ⟨bX, oX, none⟩ = some (.int .i64 x2)
  u : bA < V.heap.size ∧ V.cell? ⟨bA, oA, none⟩ = some (.int .i64 y1) ∧ V.cell? ⟨bA, oA + 1, none⟩ = some (.int .i64 y2)
section
variable {V U : World} {gt bX oX bA oA : Nat} {x1 x2 y1 y2 : Int}
theorem SrS.tim (h : SrS V gt bX oX bA oA x1 x2 y1 y2) (hU : Below V.heap.size V U) : U.cell? ⟨gt, 0, none⟩ = some (.int .i64 x1) ∧ U.cell? ⟨gt, 1, none⟩ = some (.int .i64 x2) :=
  ⟨(h.k.below hU h.k.lt).cell 0, (h.k.below hU h.k.lt).cell 1⟩
theorem SrS.num (h : SrS V gt bX oX bA oA x1 x2 y1 y2) (hU : Below V.heap.size V U) : U.cell? ⟨bX, oX, none⟩ = some (.int .i64 x2) := (hU.cell (p := ⟨bX, oX, none⟩) h.x.1).trans h.x.2
theorem SrS.up (h : SrS V gt bX oX bA oA x1 x2 y1 y2) (hU : Below V.heap.size V U) : U.cell? ⟨bA, oA, none⟩ = some (.int .i64 y1) ∧ U.cell? ⟨bA, oA + 1, none⟩ = some (.int .i64 y2) :=
  ⟨(hU.cell (p := ⟨bA, oA, none⟩) h.u.1).trans h.u.2.1, (hU.cell (p := ⟨bA, oA + 1, none⟩) h.u.1).trans h.u.2.2⟩
end

theorem due_len (l : List Tm) (c : Int) : (dueL l c).length ≤ l.length := by
  unfold dueL
  rw [List.length_map]
  exact Nat.le_trans (List.length_filter_le _ _) (by rw [orderF_len]; exact Nat.le_refl _)

set_option maxRecDepth 100000 in
set_option maxHeartbeats 8000000 in
theorem lsorts_any (A : Option Addr) (n c : Nat) (l : List Tm) (a b : Int) (w : World) (hx : Tms w A n c l) :
    Calls Try.prog 7 #[.slice A n c, .int .i64 a, .int .i64 b] w (TrueAns w) := by
  have HX := Lib.hid hx
  have LX := Lib.hid hx.1
  have hnc := hx.2.1
  have BB := Lib.hid (Below.refl w.heap.size w)
  clear hx
  go_enter Try.func7, Try.ntmps7
  go_wp2_with fail
  refine (live_any _).mono ?_
  rintro e w1 ⟨rfl, b1⟩
  replace HX := Lib.hid (HX.out.below b1)
  replace BB := Lib.hid (below3 BB.out b1)
  clear b1
  by_cases h300 : 300 < n
  · go_wp2_with fail
    go_ret
    exact ⟨rfl, BB.out⟩
  · have h300' : n ≤ 300 := by omega
    go_wp2_with fail
    refine (psorted_any A n c l _ HX.out).mono ?_
    rintro e w2 ⟨A2, c2, rfl, o2, b2⟩
    replace HX := Lib.hid (HX.out.below b2)
    replace BB := Lib.hid (below3 BB.out b2)
    have OA := Lib.hid o2.tms
    clear o2 b2
    obtain ⟨r, s, hsr⟩ : ∃ r s, sortedR l = (r, s) := ⟨_, _, rfl⟩
    rw [hsr] at OA ⊢
    have HSR := Lib.hid hsr
    clear hsr
    go_wp2_with fail
    refine (pexpire_any A n c l 4611686018427387904 _ HX.out).mono ?_
    rintro e w3 ⟨A3, c3, xs, B3, d3, a3, z3, rfl, s3, i3, o3, b3⟩
    replace HX := Lib.hid (HX.out.below b3)
    replace OA := Lib.hid (OA.out.below b3)
    replace BB := Lib.hid (below3 BB.out b3)
    have OX := Lib.hid i3.ints
    have SP := Lib.hid s3
    clear i3 o3 b3 s3
    by_cases hok : heapOk l
    · have hsr := HSR.out
      rw [sortedR, if_pos hok] at hsr
      injection hsr with hr hs
      subst hr
      obtain ⟨hz, hxs, hk3, hp3⟩ := expire_zero hok SP.out
      subst hz
      obtain ⟨hd1, hd2⟩ := due_all hok (c := 4611686018427387904) (by decide)
      rw [hd2] at hp3
      have ha3 : a3 = [] := List.perm_nil.1 hp3
      subst ha3
      have hsl : s.length = n := by rw [← hs, orderF_len]; exact LX.out
      have hxl : xs.length = n := by rw [hxs, hd1, List.length_map, orderF_len]; exact LX.out
      have HXS := Lib.hid (show xs = s.map (·.2) by rw [hxs, hd1, hs])
      have HS := Lib.hid hs
      have HOK := Lib.hid hok
      have OA2 := Lib.hid (hsl ▸ OA.out)
      have OX2 := Lib.hid (hxl ▸ OX.out)
      have HSL := Lib.hid hsl
      rw [hsl, hxl]
      have BC := Lib.hid (Below.refl w3.heap.size w3)
      have hc2 : n ≤ c2 ∧ c2 ≤ 9223372036854775807 := by have := OA.out.2.1; omega
      clear hok hs hxs hk3 hp3 hd1 hd2 hsl hxl HSR SP OA OX
      go_wp2_with fail
      go_loopw [66] (fun t wr => ∃ k : Nat, t = .int .i64 (k : Int) ∧ k ≤ n ∧ Hid (Below w3.heap.size w3 wr)) (fun t _ => n - (intOf t).toNat)
      case atStart => exact ⟨0, rfl, Nat.zero_le _, BC⟩
      case round =>
        clear BC
        rename World => wr
        obtain ⟨k, rfl, hk, BC⟩ := hrel
        by_cases hkn : k < n
        · have hks : k < s.length := by rw [HSL.out]; exact hkn
          obtain ⟨bA, oA, rfl, hbA, c0, c1⟩ := (OA2.out.below BC.out).at_ hkn
          obtain ⟨bB, oB, hB, hbB, d0, d1⟩ := (OA2.out.below BC.out).at_ (j := k - 1) (by omega)
          injection hB with hB
          injection hB with hB1 hB2
          subst hB1 hB2
          obtain ⟨bX, oX, rfl, hbX, e0⟩ := (OX2.out.below BC.out).2.2.2 (by omega)
          have e0 := e0 k hkn
          rw [HXS.out, nth_map hks] at e0
          obtain ⟨x1, hx1⟩ : ∃ z, jO s k = z := ⟨_, rfl⟩
          obtain ⟨x2, hx2⟩ : ∃ z, jA s k = z := ⟨_, rfl⟩
          obtain ⟨y1, hy1⟩ : ∃ z, jO s (k - 1) = z := ⟨_, rfl⟩
          obtain ⟨y2, hy2⟩ : ∃ z, jA s (k - 1) = z := ⟨_, rfl⟩
          have hlt : 0 < k → lessT (y1, y2) (x1, x2) := fun h0 => by
            have := order_strict HOK.out (i := k - 1) (k := k) (by omega) (by rw [HS.out]; exact hks)
            rw [HS.out] at this
            have e1 : ith s k = (x1, x2) := by rw [← hx1, ← hx2]; rfl
            have e2 : ith s (k - 1) = (y1, y2) := by rw [← hy1, ← hy2]; rfl
            rw [e1, e2] at this
            exact this
          rw [hx1] at c0
          rw [hx2] at c1 e0
          rw [hy1] at d0
          rw [hy2] at d1
          have HLT := Lib.hid hlt
          have k1 := Bk.new wr 24 #[.int .i64 x1, .int .i64 x2]
          have b1 := (Below.refl wr.heap.size wr).alloc (Nat.le_refl _) (.cells #[.int .i64 x1, .int .i64 x2] 24)
          have ss : SrS (wr.alloc (.cells #[.int .i64 x1, .int .i64 x2] 24)) wr.heap.size bX (oX + k) bA (oA + (k - 1) * 2) x1 x2 y1 y2 :=
            ⟨k1, by simp; exact ⟨by omega, (b1.cell (p := ⟨bX, _, none⟩) hbX).trans e0⟩, by simp; omega, (b1.cell (p := ⟨bA, _, none⟩) hbB).trans d0, (b1.cell (p := ⟨bA, _, none⟩) hbB).trans d1⟩
          obtain ⟨gt, hgt⟩ : ∃ g, wr.heap.size = g := ⟨_, rfl⟩
          obtain ⟨V, hV⟩ : ∃ V, wr.alloc (.cells #[.int .i64 x1, .int .i64 x2] 24) = V := ⟨_, rfl⟩
          rw [hV] at ss b1
          rw [hgt] at ss
          obtain ⟨kp, hkp⟩ : ∃ q, k - 1 = q := ⟨_, rfl⟩
          rw [hkp] at ss
          have BV := Lib.hid (below3 BC.out b1)
          have SS := Lib.hid ss
          have HV := Lib.hid hV
          have HGT := Lib.hid hgt
          have hnX : n ≤ 9223372036854775807 := by omega
          have HKP := Lib.hid hkp
          clear hV hgt k1 b1 ss hx1 hx2 hy1 hy2 d0 d1 e0 hlt BC hkp
          go_upto_region 15 with fail
          rw [HV.out]
          try rw [HGT.out]
          clear HV HGT c0 c1 hbA hbX hbB
          by_cases h0 : 0 < k
          · have HL := Lib.hid (decide_eq_true (HLT.out h0))
            have hkp := HKP.out
            have hkz : (k : Int) - 1 = (kp : Int) := by omega
            have hkpn : kp < n := by omega
            have hwr : IntKind.i64.wrap (kp : Int) = (kp : Int) := by rw [IntKind.wrap_i64]; omega
            clear HLT
            clear hkp
            refine calm_region (S := fun U => Below V.heap.size V U) (by kernel_rfl) (Below.refl _ _).drew ?_
            refine calm_to (i := 0) (t := 71) (v := .slice (some ⟨bX, oX, none⟩) n c3) rfl rfl (by kernel_rfl) (by kernel_rfl) (by kernel_rfl) (fun _ _ _ h => h) (calm_move (by kernel_rfl) (.tmp 10) (.inl rfl) rfl) ?_
            simp only [List.setIfInBounds_toArray, List.set_cons_zero, List.set_cons_succ]
            refine calm_to (i := 1) (t := 72) (v := .int .i64 (k : Int)) rfl rfl (by kernel_rfl) (by kernel_rfl) (by kernel_rfl) (fun _ _ _ h => h) (calm_move (by kernel_rfl) (.tmp 13) (.inl rfl) rfl) ?_
            simp only [List.setIfInBounds_toArray, List.set_cons_zero, List.set_cons_succ]
            refine calm_to (i := 2) (t := 73) (v := .pointer (some ⟨bX, oX + k, none⟩)) rfl rfl (by kernel_rfl) (by kernel_rfl) (by kernel_rfl) (fun _ _ _ h => h) (calm_of (by kernel_rfl) (fun U hU => by go_simp)) ?_
            simp only [List.setIfInBounds_toArray, List.set_cons_zero, List.set_cons_succ]
            refine calm_to (i := 3) (t := 74) (v := .int .i64 x2) rfl rfl (by kernel_rfl) (by kernel_rfl) (by kernel_rfl) (fun _ _ _ h => h) (calm_of (by kernel_rfl) (fun U hU => by have q0 := SS.out.num hU; go_simp)) ?_
            simp only [List.setIfInBounds_toArray, List.set_cons_zero, List.set_cons_succ]
            refine calm_to (i := 4) (t := 75) (v := .pointer (some ⟨gt, 1, none⟩)) rfl rfl (by kernel_rfl) (by kernel_rfl) (by kernel_rfl) (fun _ _ _ h => h) (calm_of (by kernel_rfl) (fun U hU => by go_simp)) ?_
            simp only [List.setIfInBounds_toArray, List.set_cons_zero, List.set_cons_succ]
            refine calm_to (i := 5) (t := 76) (v := .int .i64 x2) rfl rfl (by kernel_rfl) (by kernel_rfl) (by kernel_rfl) (fun _ _ _ h => h) (calm_of (by kernel_rfl) (fun U hU => by have q0 := (SS.out.tim hU).2; go_simp)) ?_
            simp only [List.setIfInBounds_toArray, List.set_cons_zero, List.set_cons_succ]
            refine calm_to (i := 6) (t := 77) (v := .bool false) rfl rfl (by kernel_rfl) (by kernel_rfl) (by kernel_rfl) (fun _ _ _ h => h) (calm_of (by kernel_rfl) (fun U hU => by go_simp)) ?_
            simp only [List.setIfInBounds_toArray, List.set_cons_zero, List.set_cons_succ]
            refine calm_to (i := 7) (t := 78) (v := .bool false) rfl rfl (by kernel_rfl) (by kernel_rfl) (by kernel_rfl) (fun _ _ _ h => h) (calm_move (by kernel_rfl) (.tmp 77) (.inl rfl) rfl) ?_
            simp only [List.setIfInBounds_toArray, List.set_cons_zero, List.set_cons_succ]
            refine calm_to (i := 8) (t := 79) (v := .int .i64 (k : Int)) rfl rfl (by kernel_rfl) (by kernel_rfl) (by kernel_rfl) (fun _ _ _ h => h) (calm_move (by kernel_rfl) (.tmp 13) (.inl rfl) rfl) ?_
            simp only [List.setIfInBounds_toArray, List.set_cons_zero, List.set_cons_succ]
            refine calm_to (i := 9) (t := 80) (v := .bool true) rfl rfl (by kernel_rfl) (by kernel_rfl) (by kernel_rfl) (fun _ _ _ h => h) (calm_of (by kernel_rfl) (fun U hU => by go_simp)) ?_
            simp only [List.setIfInBounds_toArray, List.set_cons_zero, List.set_cons_succ]
            refine calm_to (i := 10) (t := 81) (v := .bool true) rfl rfl (by kernel_rfl) (by kernel_rfl) (by kernel_rfl) (fun _ _ _ h => h) (calm_move (by kernel_rfl) (.tmp 80) (.inl rfl) rfl) ?_
            simp only [List.setIfInBounds_toArray, List.set_cons_zero, List.set_cons_succ]
            refine calm_to (i := 11) (t := 82) (v := .slice (some ⟨bA, oA, none⟩) n c2) rfl rfl (by kernel_rfl) (by kernel_rfl) (by kernel_rfl) (fun _ _ _ h => h) (calm_move (by kernel_rfl) (.tmp 8) (.inl rfl) rfl) ?_
            simp only [List.setIfInBounds_toArray, List.set_cons_zero, List.set_cons_succ]
            refine calm_to (i := 12) (t := 83) (v := .int .i64 (k : Int)) rfl rfl (by kernel_rfl) (by kernel_rfl) (by kernel_rfl) (fun _ _ _ h => h) (calm_move (by kernel_rfl) (.tmp 13) (.inl rfl) rfl) ?_
            simp only [List.setIfInBounds_toArray, List.set_cons_zero, List.set_cons_succ]
            refine calm_to (i := 13) (t := 84) (v := .int .i64 (kp : Int)) rfl rfl (by kernel_rfl) (by kernel_rfl) (by kernel_rfl) (fun _ _ _ h => h) (calm_of (by kernel_rfl) (fun U hU => by go_simp)) ?_
            simp only [List.setIfInBounds_toArray, List.set_cons_zero, List.set_cons_succ]
            refine calm_to (i := 14) (t := 85) (v := .pointer (some ⟨bA, oA + kp * 2, none⟩)) rfl rfl (by kernel_rfl) (by kernel_rfl) (by kernel_rfl) (fun _ _ _ h => h) (calm_of (by kernel_rfl) (fun U hU => by go_simp)) ?_
            simp only [List.setIfInBounds_toArray, List.set_cons_zero, List.set_cons_succ]
            refine calm_to (i := 15) (t := 86) (v := .agg #[.int .i64 y1, .int .i64 y2]) rfl rfl (by kernel_rfl) (by kernel_rfl) (by kernel_rfl) (fun _ _ _ h => h) (calm_of (by kernel_rfl) (fun U hU => by obtain ⟨q0, q1⟩ := SS.out.up hU; go_simp)) ?_
            simp only [List.setIfInBounds_toArray, List.set_cons_zero, List.set_cons_succ]
            refine calm_to (i := 16) (t := 87) (v := .agg #[.int .i64 x1, .int .i64 x2]) rfl rfl (by kernel_rfl) (by kernel_rfl) (by kernel_rfl) (fun _ _ _ h => h) (calm_of (by kernel_rfl) (fun U hU => by obtain ⟨q0, q1⟩ := SS.out.tim hU; go_simp)) ?_
            simp only [List.setIfInBounds_toArray, List.set_cons_zero, List.set_cons_succ]
            refine calm_to (i := 17) (t := 88) (v := .bool true) rfl rfl (by kernel_rfl) (by kernel_rfl) (by kernel_rfl) (fun _ _ _ h => h) (calm_call2 (by kernel_rfl) 30 (.tmp 86) (.tmp 87) #[24, 24] rfl (enters_of Try.func30 (by kernel_rfl) rfl) (.agg #[.int .i64 y1, .int .i64 y2]) (.agg #[.int .i64 x1, .int .i64 x2]) rfl rfl (fun U hU => (less_any y1 y2 x1 x2 U).mono fun _ _ q => ⟨by rw [q.1, HL.out], hU.trans (q.2.mono hU.size)⟩)) ?_
            simp only [List.setIfInBounds_toArray, List.set_cons_zero, List.set_cons_succ]
            refine calm_to (i := 18) (t := 89) (v := .bool false) rfl rfl (by kernel_rfl) (by kernel_rfl) (by kernel_rfl) (fun _ _ _ h => h) (calm_of (by kernel_rfl) (fun U hU => by go_simp)) ?_
            simp only [List.setIfInBounds_toArray, List.set_cons_zero, List.set_cons_succ]
            refine calm_to (i := 19) (t := 90) (v := .bool false) rfl rfl (by kernel_rfl) (by kernel_rfl) (by kernel_rfl) (fun _ _ _ h => h) (calm_pick (by kernel_rfl) (.tmp 81) (.tmp 89) (.const (.bool false)) rfl true rfl rfl) ?_
            simp only [List.setIfInBounds_toArray, List.set_cons_zero, List.set_cons_succ]
            refine calm_to (i := 20) (t := 91) (v := .bool false) rfl rfl (by kernel_rfl) (by kernel_rfl) (by kernel_rfl) (fun _ _ _ h => h) (calm_pick (by kernel_rfl) (.tmp 78) (.const (.bool true)) (.tmp 90) rfl false rfl rfl) ?_
            simp only [List.setIfInBounds_toArray, List.set_cons_zero, List.set_cons_succ]
            refine calm_done (by kernel_rfl) (fun U hU => ?_) _
            have BG := Lib.hid (below3 BV.out hU)
            try clear hwr
            clear hU SS BV
            go_wp2_with fail
            go_roundw
            case rel => exact ⟨k + 1, by go_num, by omega, BG⟩
            case measure => simp only [intOf]; omega
          · have HKZ := Lib.hid h0
            clear h0 HLT
            refine calm_region (S := fun U => Below V.heap.size V U) (by kernel_rfl) (Below.refl _ _).drew ?_
            refine calm_to (i := 0) (t := 71) (v := .slice (some ⟨bX, oX, none⟩) n c3) rfl rfl (by kernel_rfl) (by kernel_rfl) (by kernel_rfl) (fun _ _ _ h => h) (calm_move (by kernel_rfl) (.tmp 10) (.inl rfl) rfl) ?_
            simp only [List.setIfInBounds_toArray, List.set_cons_zero, List.set_cons_succ]
            refine calm_to (i := 1) (t := 72) (v := .int .i64 (k : Int)) rfl rfl (by kernel_rfl) (by kernel_rfl) (by kernel_rfl) (fun _ _ _ h => h) (calm_move (by kernel_rfl) (.tmp 13) (.inl rfl) rfl) ?_
            simp only [List.setIfInBounds_toArray, List.set_cons_zero, List.set_cons_succ]
            refine calm_to (i := 2) (t := 73) (v := .pointer (some ⟨bX, oX + k, none⟩)) rfl rfl (by kernel_rfl) (by kernel_rfl) (by kernel_rfl) (fun _ _ _ h => h) (calm_of (by kernel_rfl) (fun U hU => by go_simp)) ?_
            simp only [List.setIfInBounds_toArray, List.set_cons_zero, List.set_cons_succ]
            refine calm_to (i := 3) (t := 74) (v := .int .i64 x2) rfl rfl (by kernel_rfl) (by kernel_rfl) (by kernel_rfl) (fun _ _ _ h => h) (calm_of (by kernel_rfl) (fun U hU => by have q0 := SS.out.num hU; go_simp)) ?_
            simp only [List.setIfInBounds_toArray, List.set_cons_zero, List.set_cons_succ]
            refine calm_to (i := 4) (t := 75) (v := .pointer (some ⟨gt, 1, none⟩)) rfl rfl (by kernel_rfl) (by kernel_rfl) (by kernel_rfl) (fun _ _ _ h => h) (calm_of (by kernel_rfl) (fun U hU => by go_simp)) ?_
            simp only [List.setIfInBounds_toArray, List.set_cons_zero, List.set_cons_succ]
            refine calm_to (i := 5) (t := 76) (v := .int .i64 x2) rfl rfl (by kernel_rfl) (by kernel_rfl) (by kernel_rfl) (fun _ _ _ h => h) (calm_of (by kernel_rfl) (fun U hU => by have q0 := (SS.out.tim hU).2; go_simp)) ?_
            simp only [List.setIfInBounds_toArray, List.set_cons_zero, List.set_cons_succ]
            refine calm_to (i := 6) (t := 77) (v := .bool false) rfl rfl (by kernel_rfl) (by kernel_rfl) (by kernel_rfl) (fun _ _ _ h => h) (calm_of (by kernel_rfl) (fun U hU => by go_simp)) ?_
            simp only [List.setIfInBounds_toArray, List.set_cons_zero, List.set_cons_succ]
            refine calm_to (i := 7) (t := 78) (v := .bool false) rfl rfl (by kernel_rfl) (by kernel_rfl) (by kernel_rfl) (fun _ _ _ h => h) (calm_move (by kernel_rfl) (.tmp 77) (.inl rfl) rfl) ?_
            simp only [List.setIfInBounds_toArray, List.set_cons_zero, List.set_cons_succ]
            refine calm_to (i := 8) (t := 79) (v := .int .i64 (k : Int)) rfl rfl (by kernel_rfl) (by kernel_rfl) (by kernel_rfl) (fun _ _ _ h => h) (calm_move (by kernel_rfl) (.tmp 13) (.inl rfl) rfl) ?_
            simp only [List.setIfInBounds_toArray, List.set_cons_zero, List.set_cons_succ]
            refine calm_to (i := 9) (t := 80) (v := .bool false) rfl rfl (by kernel_rfl) (by kernel_rfl) (by kernel_rfl) (fun _ _ _ h => h) (calm_of (by kernel_rfl) (fun U hU => by go_simp; have := HKZ.out; omega)) ?_
            simp only [List.setIfInBounds_toArray, List.set_cons_zero, List.set_cons_succ]
            refine calm_to (i := 10) (t := 81) (v := .bool false) rfl rfl (by kernel_rfl) (by kernel_rfl) (by kernel_rfl) (fun _ _ _ h => h) (calm_move (by kernel_rfl) (.tmp 80) (.inl rfl) rfl) ?_
            simp only [List.setIfInBounds_toArray, List.set_cons_zero, List.set_cons_succ]
            refine calm_to (i := 11) (t := 82) (v := undef) rfl rfl (by kernel_rfl) (by kernel_rfl) (by kernel_rfl) (fun _ _ _ h => h) (calm_skip (by kernel_rfl)) ?_
            simp only [List.setIfInBounds_toArray, List.set_cons_zero, List.set_cons_succ]
            refine calm_to (i := 12) (t := 83) (v := undef) rfl rfl (by kernel_rfl) (by kernel_rfl) (by kernel_rfl) (fun _ _ _ h => h) (calm_skip (by kernel_rfl)) ?_
            simp only [List.setIfInBounds_toArray, List.set_cons_zero, List.set_cons_succ]
            refine calm_to (i := 13) (t := 84) (v := undef) rfl rfl (by kernel_rfl) (by kernel_rfl) (by kernel_rfl) (fun _ _ _ h => h) (calm_skip (by kernel_rfl)) ?_
            simp only [List.setIfInBounds_toArray, List.set_cons_zero, List.set_cons_succ]
            refine calm_to (i := 14) (t := 85) (v := undef) rfl rfl (by kernel_rfl) (by kernel_rfl) (by kernel_rfl) (fun _ _ _ h => h) (calm_skip (by kernel_rfl)) ?_
            simp only [List.setIfInBounds_toArray, List.set_cons_zero, List.set_cons_succ]
            refine calm_to (i := 15) (t := 86) (v := undef) rfl rfl (by kernel_rfl) (by kernel_rfl) (by kernel_rfl) (fun _ _ _ h => h) (calm_skip (by kernel_rfl)) ?_
            simp only [List.setIfInBounds_toArray, List.set_cons_zero, List.set_cons_succ]
            refine calm_to (i := 16) (t := 87) (v := undef) rfl rfl (by kernel_rfl) (by kernel_rfl) (by kernel_rfl) (fun _ _ _ h => h) (calm_skip (by kernel_rfl)) ?_
            simp only [List.setIfInBounds_toArray, List.set_cons_zero, List.set_cons_succ]
            refine calm_to (i := 17) (t := 88) (v := undef) rfl rfl (by kernel_rfl) (by kernel_rfl) (by kernel_rfl) (fun _ _ _ h => h) (calm_skip (by kernel_rfl)) ?_
            simp only [List.setIfInBounds_toArray, List.set_cons_zero, List.set_cons_succ]
            refine calm_to (i := 18) (t := 89) (v := undef) rfl rfl (by kernel_rfl) (by kernel_rfl) (by kernel_rfl) (fun _ _ _ h => h) (calm_skip (by kernel_rfl)) ?_
            simp only [List.setIfInBounds_toArray, List.set_cons_zero, List.set_cons_succ]
            refine calm_to (i := 19) (t := 90) (v := .bool false) rfl rfl (by kernel_rfl) (by kernel_rfl) (by kernel_rfl) (fun _ _ _ h => h) (calm_pick (by kernel_rfl) (.tmp 81) (.tmp 89) (.const (.bool false)) rfl false rfl rfl) ?_
            simp only [List.setIfInBounds_toArray, List.set_cons_zero, List.set_cons_succ]
            refine calm_to (i := 20) (t := 91) (v := .bool false) rfl rfl (by kernel_rfl) (by kernel_rfl) (by kernel_rfl) (fun _ _ _ h => h) (calm_pick (by kernel_rfl) (.tmp 78) (.const (.bool true)) (.tmp 90) rfl false rfl rfl) ?_
            simp only [List.setIfInBounds_toArray, List.set_cons_zero, List.set_cons_succ]
            refine calm_done (by kernel_rfl) (fun U hU => ?_) _
            have BG := Lib.hid (below3 BV.out hU)
            try clear hwr
            clear hU SS BV
            go_wp2_with fail
            go_roundw
            case rel => exact ⟨k + 1, by go_num, by omega, BG⟩
            case measure => simp only [intOf]; omega
        · have hkn' : k = n := by omega
          have HKN := Lib.hid hkn'
          replace HX := Lib.hid (HX.out.below BC.out)
          replace BB := Lib.hid (below3 BB.out BC.out)
          clear hkn' BC OA2 OX2
          by_cases hab : a ≤ b
          · have HMM := Lib.hid hab
            have t1 : min a b = a := Int.min_eq_left hab
            have t2 : max a b = b := Int.max_eq_right hab
            go_wp2_with fail
            refine (pexpire_any A n c l a _ HX.out).mono ?_
            rintro e w4 ⟨A4, c4, xs4, B4, d4, a4, z4, rfl, s4, i4, o4, b4⟩
            obtain ⟨rfl, hx4, hk4, hp4⟩ := expire_zero HOK.out s4
            replace HX := Lib.hid (HX.out.below b4)
            replace BB := Lib.hid (below3 BB.out b4)
            have OX4 := Lib.hid i4.ints
            have OB4 := Lib.hid o4.tms
            have HX4 := Lib.hid hx4
            have HP4 := Lib.hid hp4
            have HK4 := Lib.hid hk4
            clear s4 i4 o4 b4 hx4 hk4 hp4
            go_wp2_with fail
            refine (pexpire_any B4 _ d4 a4 b _ OB4.out).mono ?_
            rintro e w5 ⟨A5, c5, xs5, B5, d5, a5, z5, rfl, s5, i5, o5, b5⟩
            obtain ⟨rfl, hx5, hk5, hp5⟩ := expire_zero HK4.out s5
            replace HX := Lib.hid (HX.out.below b5)
            replace OX4 := Lib.hid (OX4.out.below b5)
            replace OB4 := Lib.hid (OB4.out.below b5)
            replace BB := Lib.hid (below3 BB.out b5)
            have OX5 := Lib.hid i5.ints
            have OB5 := Lib.hid o5.tms
            have HX5 := Lib.hid hx5
            have HP5 := Lib.hid (hp5.trans (left_two HMM.out HP4.out))
            have HF5 := Lib.hid hk5.few
            clear s5 i5 o5 b5 hx5 hk5 hp5
            go_wp2_with fail
            refine (pexpire_any A n c l b _ HX.out).mono ?_
            rintro e w6 ⟨A6, c6, xs6, B6, d6, a6, z6, rfl, s6, i6, o6, b6⟩
            obtain ⟨rfl, hx6, hk6, hp6⟩ := expire_zero HOK.out s6
            replace HX := Lib.hid (HX.out.below b6)
            replace OX4 := Lib.hid (OX4.out.below b6)
            replace OB4 := Lib.hid (OB4.out.below b6)
            replace OX5 := Lib.hid (OX5.out.below b6)
            replace OB5 := Lib.hid (OB5.out.below b6)
            replace BB := Lib.hid (below3 BB.out b6)
            have OX6 := Lib.hid i6.ints
            have OB6 := Lib.hid o6.tms
            have HE := Lib.hid (show xs4 ++ xs5 = xs6 by rw [HX4.out, HX5.out, hx6]; exact due_two HMM.out HP4.out)
            have HPP := Lib.hid (show a5.Perm a6 from HP5.out.trans hp6.symm)
            have HF6 := Lib.hid hk6.few
            clear s6 i6 o6 b6 hx6 hk6 hp6
            have h45 : xs4.length + xs5.length ≤ 1000 := by have h1 := due_len l a; have h2 := due_len a4 b; rw [← HX4.out] at h1; rw [← HX5.out] at h2; have h3 := HK4.out.few; have h4 := HOK.out.few; omega
            obtain ⟨v7, w7, hr7, A7, c7, rfl, o7, g7⟩ := run_append_ints (P := Try.prog) w6 37 37 2 Try.underlying37 infoI8 w6.heap.size none 0 [] (OwnI.nil_ _ _ _) A4 xs4.length c4 xs4 OX4.out (by simp; omega) (Nat.le_refl _)
            have b7 : Below w6.heap.size w6 w7 := (Below.refl _ _).grown g7 (Nat.le_refl _) (by intro k hk; simp [Value.ownBlock] at hk)
            rw [List.nil_append] at o7
            simp only [List.nil_append, List.length_nil] at hr7
            obtain ⟨v8, w8, hr8, A8, c8, rfl, o8, g8⟩ := run_append_ints (P := Try.prog) w7 37 37 2 Try.underlying37 infoI8 w6.heap.size A7 c7 xs4 o7 A5 xs5.length c5 xs5 (OX5.out.below b7) (by omega) b7.size
            rw [HE.out] at hr8 o8
            have B8 := Lib.hid (b7.grown g8 b7.size (fun k hk => o7.block k hk))
            have O8 := Lib.hid o8.ints
            clear o7 g7 b7 o8 g8
            go_wp2_with (at_builtin; refine wpList_append_run (w' := w7) (by kernel_rfl) (.const (.slice none 0 0)) (.tmp 134) 37 rfl (.slice none 0 0) (.slice A4 xs4.length c4) (.slice A7 xs4.length c7) (by kernel_rfl) (by kernel_rfl) hr7 ?_; refine wpList_move_run (by kernel_rfl) (.tmp 18) rfl (.slice A5 xs5.length c5) (by kernel_rfl) ?_; refine wpList_append_run (w' := w8) (by kernel_rfl) (.tmp 135) (.tmp 136) 37 rfl (.slice A7 xs4.length c7) (.slice A5 xs5.length c5) (.slice A8 xs6.length c8) (by kernel_rfl) (by kernel_rfl) hr8 ?_; simp only [Act.put, List.setIfInBounds_toArray, List.set_cons_zero, List.set_cons_succ])
            clear hr7 hr8
            refine (rsame_any A8 A6 _ c8 _ c6 xs6 xs6 _ O8.out (OX6.out.below B8.out)).mono ?_
            rw [sameB_refl]
            rintro e w9 ⟨rfl, q9, rfl⟩
            have b9 := below3 B8.out (below_drewN (Below.refl w8.heap.size w8) q9)
            generalize w8.drewN q9 = w9 at b9 ⊢
            have B9 := Lib.hid b9
            clear b9
            go_wp2_with fail
            refine (psame_any B5 B6 _ d5 _ d6 a5 a6 _ (OB5.out.below B9.out) (OB6.out.below B9.out) (by have := HF5.out; omega) (by have := HF6.out; omega)).mono ?_
            rw [decide_eq_true HPP.out]
            rintro e v1 ⟨rfl, b1⟩
            have BF := Lib.hid (below3 (below3 BB.out B9.out) b1)
            clear b1
            go_wp2_with fail
            go_ret
            exact ⟨rfl, BF.out⟩
          · have hab' : b ≤ a := by omega
            have HMM := Lib.hid hab'
            have t1 : min a b = b := Int.min_eq_right hab'
            have t2 : max a b = a := Int.max_eq_left hab'
            go_wp2_with fail
            refine (pexpire_any A n c l b _ HX.out).mono ?_
            rintro e w4 ⟨A4, c4, xs4, B4, d4, a4, z4, rfl, s4, i4, o4, b4⟩
            obtain ⟨rfl, hx4, hk4, hp4⟩ := expire_zero HOK.out s4
            replace HX := Lib.hid (HX.out.below b4)
            replace BB := Lib.hid (below3 BB.out b4)
            have OX4 := Lib.hid i4.ints
            have OB4 := Lib.hid o4.tms
            have HX4 := Lib.hid hx4
            have HP4 := Lib.hid hp4
            have HK4 := Lib.hid hk4
            clear s4 i4 o4 b4 hx4 hk4 hp4
            go_wp2_with fail
            refine (pexpire_any B4 _ d4 a4 a _ OB4.out).mono ?_
            rintro e w5 ⟨A5, c5, xs5, B5, d5, a5, z5, rfl, s5, i5, o5, b5⟩
            obtain ⟨rfl, hx5, hk5, hp5⟩ := expire_zero HK4.out s5
            replace HX := Lib.hid (HX.out.below b5)
            replace OX4 := Lib.hid (OX4.out.below b5)
            replace OB4 := Lib.hid (OB4.out.below b5)
            replace BB := Lib.hid (below3 BB.out b5)
            have OX5 := Lib.hid i5.ints
            have OB5 := Lib.hid o5.tms
            have HX5 := Lib.hid hx5
            have HP5 := Lib.hid (hp5.trans (left_two HMM.out HP4.out))
            have HF5 := Lib.hid hk5.few
            clear s5 i5 o5 b5 hx5 hk5 hp5
            go_wp2_with fail
            refine (pexpire_any A n c l a _ HX.out).mono ?_
            rintro e w6 ⟨A6, c6, xs6, B6, d6, a6, z6, rfl, s6, i6, o6, b6⟩
            obtain ⟨rfl, hx6, hk6, hp6⟩ := expire_zero HOK.out s6
            replace HX := Lib.hid (HX.out.below b6)
            replace OX4 := Lib.hid (OX4.out.below b6)
            replace OB4 := Lib.hid (OB4.out.below b6)
            replace OX5 := Lib.hid (OX5.out.below b6)
            replace OB5 := Lib.hid (OB5.out.below b6)
            replace BB := Lib.hid (below3 BB.out b6)
            have OX6 := Lib.hid i6.ints
            have OB6 := Lib.hid o6.tms
            have HE := Lib.hid (show xs4 ++ xs5 = xs6 by rw [HX4.out, HX5.out, hx6]; exact due_two HMM.out HP4.out)
            have HPP := Lib.hid (show a5.Perm a6 from HP5.out.trans hp6.symm)
            have HF6 := Lib.hid hk6.few
            clear s6 i6 o6 b6 hx6 hk6 hp6
            have h45 : xs4.length + xs5.length ≤ 1000 := by have h1 := due_len l b; have h2 := due_len a4 a; rw [← HX4.out] at h1; rw [← HX5.out] at h2; have h3 := HK4.out.few; have h4 := HOK.out.few; omega
            obtain ⟨v7, w7, hr7, A7, c7, rfl, o7, g7⟩ := run_append_ints (P := Try.prog) w6 37 37 2 Try.underlying37 infoI8 w6.heap.size none 0 [] (OwnI.nil_ _ _ _) A4 xs4.length c4 xs4 OX4.out (by simp; omega) (Nat.le_refl _)
            have b7 : Below w6.heap.size w6 w7 := (Below.refl _ _).grown g7 (Nat.le_refl _) (by intro k hk; simp [Value.ownBlock] at hk)
            rw [List.nil_append] at o7
            simp only [List.nil_append, List.length_nil] at hr7
            obtain ⟨v8, w8, hr8, A8, c8, rfl, o8, g8⟩ := run_append_ints (P := Try.prog) w7 37 37 2 Try.underlying37 infoI8 w6.heap.size A7 c7 xs4 o7 A5 xs5.length c5 xs5 (OX5.out.below b7) (by omega) b7.size
            rw [HE.out] at hr8 o8
            have B8 := Lib.hid (b7.grown g8 b7.size (fun k hk => o7.block k hk))
            have O8 := Lib.hid o8.ints
            clear o7 g7 b7 o8 g8
            go_wp2_with (at_builtin; refine wpList_append_run (w' := w7) (by kernel_rfl) (.const (.slice none 0 0)) (.tmp 134) 37 rfl (.slice none 0 0) (.slice A4 xs4.length c4) (.slice A7 xs4.length c7) (by kernel_rfl) (by kernel_rfl) hr7 ?_; refine wpList_move_run (by kernel_rfl) (.tmp 18) rfl (.slice A5 xs5.length c5) (by kernel_rfl) ?_; refine wpList_append_run (w' := w8) (by kernel_rfl) (.tmp 135) (.tmp 136) 37 rfl (.slice A7 xs4.length c7) (.slice A5 xs5.length c5) (.slice A8 xs6.length c8) (by kernel_rfl) (by kernel_rfl) hr8 ?_; simp only [Act.put, List.setIfInBounds_toArray, List.set_cons_zero, List.set_cons_succ])
            clear hr7 hr8
            refine (rsame_any A8 A6 _ c8 _ c6 xs6 xs6 _ O8.out (OX6.out.below B8.out)).mono ?_
            rw [sameB_refl]
            rintro e w9 ⟨rfl, q9, rfl⟩
            have b9 := below3 B8.out (below_drewN (Below.refl w8.heap.size w8) q9)
            generalize w8.drewN q9 = w9 at b9 ⊢
            have B9 := Lib.hid b9
            clear b9
            go_wp2_with fail
            refine (psame_any B5 B6 _ d5 _ d6 a5 a6 _ (OB5.out.below B9.out) (OB6.out.below B9.out) (by have := HF5.out; omega) (by have := HF6.out; omega)).mono ?_
            rw [decide_eq_true HPP.out]
            rintro e v1 ⟨rfl, b1⟩
            have BF := Lib.hid (below3 (below3 BB.out B9.out) b1)
            clear b1
            go_wp2_with fail
            go_ret
            exact ⟨rfl, BF.out⟩
    · have hsr := HSR.out
      rw [sortedR, if_neg hok] at hsr
      injection hsr with hr hs
      subst hr
      have hz : z3 = 1 := by rw [SP.out.1, expireR, if_neg hok]
      subst hz
      clear hok hs HSR SP OA OX
      go_wp2_with fail
      go_ret
      exact ⟨rfl, BB.out⟩

end Go.Proofs.Ytjamoafihmcmeaa
