/-
  The text of programs as lists of octets, and what any octets are taken for: plain mathematics.
-/
import Derived.Test.YtcbgmhbmdklbfaaSlices
namespace Go.Proofs.Ytcbgmhbmdklbfaa

def txtI (x : I3) : List Int := [x.1, x.2.1 / 256, x.2.1 % 256, x.2.2]
def txtP (p : List I3) : List Int := (p.length : Int) :: p.flatMap txtI
def txtL (l : List (List I3)) : List Int := (l.length : Int) :: l.flatMap txtP

theorem txtIs_len (p : List I3) : (p.flatMap txtI).length = 4 * p.length := by
  induction p with
  | nil => rfl
  | cons x p ih => rw [List.flatMap_cons, List.length_append, ih, List.length_cons]; simp [txtI]; omega
theorem txtP_len (p : List I3) : (txtP p).length = 1 + 4 * p.length := by rw [txtP, List.length_cons, txtIs_len]; omega

theorem txtI_oct {x : I3} (h : mayB x = true) : ∀ z ∈ txtI x, Oct z := by
  have := may_bound h
  intro z hz
  simp only [txtI, List.mem_cons, List.not_mem_nil, or_false] at hz
  unfold Oct
  rcases hz with rfl | rfl | rfl | rfl <;> omega

theorem okP_mem {p : List I3} (h : okP p) : ∀ x ∈ p, mayB x = true := by
  intro x hx
  obtain ⟨i, hi, rfl⟩ := List.getElem_of_mem hx
  have := h.2.2 i hi
  rwa [ith_get hi] at this
theorem okL_mem {l : List (List I3)} (h : okL l) : ∀ p ∈ l, okP p := by
  intro p hp
  obtain ⟨i, hi, rfl⟩ := List.getElem_of_mem hp
  have := (h.2.2 i hi).1
  rwa [pth_get hi] at this
theorem txtIs_oct {p : List I3} (h : ∀ x ∈ p, mayB x = true) : ∀ z ∈ p.flatMap txtI, Oct z := by
  intro z hz
  obtain ⟨x, hx, hz⟩ := List.mem_flatMap.1 hz
  exact txtI_oct (h x hx) z hz
theorem txtP_oct {p : List I3} (h : okP p) : ∀ z ∈ txtP p, Oct z := by
  intro z hz
  rcases List.mem_cons.1 hz with rfl | hz
  · have := h.2.1; unfold Oct; omega
  · exact txtIs_oct (okP_mem h) z hz
theorem txtPs_oct {l : List (List I3)} (h : ∀ p ∈ l, okP p) : ∀ z ∈ l.flatMap txtP, Oct z := by
  intro z hz
  obtain ⟨p, hp, hz⟩ := List.mem_flatMap.1 hz
  exact txtP_oct (h p hp) z hz
theorem txtL_oct {l : List (List I3)} (h : okL l) : ∀ z ∈ txtL l, Oct z := by
  intro z hz
  rcases List.mem_cons.1 hz with rfl | hz
  · have := h.2.1; unfold Oct; omega
  · exact txtPs_oct (okL_mem h) z hz
theorem txtPs_len {l : List (List I3)} (h : ∀ p ∈ l, okP p) : (l.flatMap txtP).length ≤ 129 * l.length := by
  induction l with
  | nil => simp
  | cons p l ih =>
    rw [List.flatMap_cons, List.length_append, txtP_len, List.length_cons]
    have := ih (fun q hq => h q (List.mem_cons_of_mem _ hq))
    have := (h p (by simp)).2.1
    omega
theorem txtL_len {l : List (List I3)} (h : okL l) : (txtL l).length ≤ 2065 := by
  rw [txtL, List.length_cons]
  have := txtPs_len (okL_mem h)
  have := h.2.1
  omega

/-- So many instructions out of octets, from a place on. -/
def insAt (bs : List Int) (at_ j : Nat) : List I3 := (List.range j).map fun i => (nth bs (at_ + 4 * i), 256 * nth bs (at_ + 4 * i + 1) + nth bs (at_ + 4 * i + 2), nth bs (at_ + 4 * i + 3))
def insOf (bs : List Int) : List I3 := insAt bs 0 (bs.length / 4)

theorem insAt_len (bs : List Int) (a j : Nat) : (insAt bs a j).length = j := by simp [insAt]
theorem insAt_succ (bs : List Int) (a j : Nat) : insAt bs a (j + 1) = insAt bs a j ++ [(nth bs (a + 4 * j), 256 * nth bs (a + 4 * j + 1) + nth bs (a + 4 * j + 2), nth bs (a + 4 * j + 3))] := by simp [insAt, List.range_succ]

theorem nth_drop (bs : List Int) (a i : Nat) : nth (bs.drop a) i = nth bs (a + i) := by simp [nth, List.getD, List.getElem?_drop]
theorem nth_take {bs : List Int} {k i : Nat} (h : i < k) : nth (bs.take k) i = nth bs i := by simp [nth, List.getD, h]
theorem nth_appl {xs ys : List Int} {i : Nat} (h : i < xs.length) : nth (xs ++ ys) i = nth xs i := by simp [nth, List.getD, List.getElem?_append_left h]
theorem nth_appr {xs ys : List Int} (i : Nat) : nth (xs ++ ys) (xs.length + i) = nth ys i := by
  unfold nth List.getD
  rw [List.getElem?_append_right (by omega), Nat.add_sub_cancel_left]

theorem nth_oct {bs : List Int} (h : ∀ z ∈ bs, Oct z) (i : Nat) : Oct (nth bs i) := by
  rcases Nat.lt_or_ge i bs.length with hi | hi
  · rw [nth_get hi]; exact h _ (List.getElem_mem hi)
  · rw [nth_beyond hi]; unfold Oct; omega

/-- What is taken out of octets, written, is those. -/
theorem insAt_txt {bs : List Int} (h : ∀ z ∈ bs, Oct z) (a : Nat) : ∀ {j : Nat}, a + 4 * j ≤ bs.length → (insAt bs a j).flatMap txtI = (bs.drop a).take (4 * j) := by
  intro j
  induction j with
  | zero => intro _; simp [insAt]
  | succ j ih =>
    intro hl
    rw [insAt_succ, List.flatMap_append, ih (by omega)]
    have h0 := nth_oct h (a + 4 * j)
    have h1 := nth_oct h (a + 4 * j + 1)
    have h2 := nth_oct h (a + 4 * j + 2)
    have h3 := nth_oct h (a + 4 * j + 3)
    unfold Oct at h0 h1 h2 h3
    have e1 : (256 * nth bs (a + 4 * j + 1) + nth bs (a + 4 * j + 2)) / 256 = nth bs (a + 4 * j + 1) := by omega
    have e2 : (256 * nth bs (a + 4 * j + 1) + nth bs (a + 4 * j + 2)) % 256 = nth bs (a + 4 * j + 2) := by omega
    have et : txtI (nth bs (a + 4 * j), 256 * nth bs (a + 4 * j + 1) + nth bs (a + 4 * j + 2), nth bs (a + 4 * j + 3)) = [nth bs (a + 4 * j), nth bs (a + 4 * j + 1), nth bs (a + 4 * j + 2), nth bs (a + 4 * j + 3)] := by
      simp only [txtI]
      rw [e1, e2]
    simp only [List.flatMap_cons, List.flatMap_nil, List.append_nil]
    rw [et]
    refine ext_nth (by simp; omega) fun i hi => ?_
    have hi' : i < 4 * j + 4 := by simp at hi; omega
    rw [nth_take (by omega), nth_drop]
    have hlen : ((bs.drop a).take (4 * j)).length = 4 * j := by simp; omega
    rcases Nat.lt_or_ge i (4 * j) with h4 | h4
    · rw [nth_appl (by omega), nth_take h4, nth_drop]
    · obtain ⟨d, rfl⟩ : ∃ d, i = 4 * j + d := ⟨i - 4 * j, by omega⟩
      have e := nth_appr (xs := (bs.drop a).take (4 * j)) (ys := [nth bs (a + 4 * j), nth bs (a + 4 * j + 1), nth bs (a + 4 * j + 2), nth bs (a + 4 * j + 3)]) d
      rw [hlen] at e
      rw [e, ← Nat.add_assoc]
      match d, (show d < 4 by omega) with
      | 0, _ => rfl
      | 1, _ => rfl
      | 2, _ => rfl
      | 3, _ => rfl

theorem insAt_shift (bs : List Int) (a j : Nat) : insAt (bs.drop a) 0 j = insAt bs a j := by
  unfold insAt
  refine List.map_congr_left fun i _ => ?_
  simp only [nth_drop]
  have e : ∀ k, a + (0 + 4 * i + k) = a + 4 * i + k := by omega
  have e0 : a + (0 + 4 * i) = a + 4 * i := by omega
  rw [e, e, e, e0]
theorem insAt_take {bs : List Int} {k j : Nat} (h : 4 * j ≤ k) : insAt (bs.take k) 0 j = insAt bs 0 j := by
  unfold insAt
  refine List.map_congr_left fun i hi => ?_
  have := List.mem_range.1 hi
  rw [nth_take (by omega), nth_take (by omega), nth_take (by omega), nth_take (by omega)]

theorem may_join {x : I3} (h : mayB x = true) : (x.1, 256 * (x.2.1 / 256) + x.2.1 % 256, x.2.2) = x := by
  obtain ⟨o, a, b⟩ := x
  simp only [Prod.mk.injEq, true_and, and_true]
  omega

/-- What was written is taken out of it. -/
theorem insOf_txt {p : List I3} (h : ∀ x ∈ p, mayB x = true) : insOf (p.flatMap txtI) = p := by
  unfold insOf
  rw [txtIs_len, Nat.mul_div_cancel_left _ (by omega : 0 < 4)]
  induction p with
  | nil => rfl
  | cons x p ih =>
    have ih := ih (fun y hy => h y (List.mem_cons_of_mem _ hy))
    have e1 : insAt ((x :: p).flatMap txtI) 0 (p.length + 1) = x :: insAt (p.flatMap txtI) 0 p.length := by
      have e2 : (x :: p).flatMap txtI = txtI x ++ p.flatMap txtI := by rw [List.flatMap_cons]
      have hd : ((x :: p).flatMap txtI).drop 4 = p.flatMap txtI := by rw [e2]; rfl
      have hx := may_join (h x (by simp))
      rw [← hd, insAt_shift]
      unfold insAt
      rw [List.range_succ_eq_map, List.map_cons, List.map_map]
      congr 1
      refine List.map_congr_left fun i _ => ?_
      simp only [Function.comp_apply]
      rw [show 0 + 4 * Nat.succ i = 4 + 4 * i by omega]
    rw [List.length_cons, e1, ih]

/-! ### Programs out of octets -/

def hdV (rs : List Int) : Int := nth rs 0
def endOf (rs : List Int) : Nat := min (4 * (hdV rs).toNat) (rs.length - 1)
def firstP (rs : List Int) : List I3 := insOf ((rs.drop 1).take (endOf rs))
def stepR (rs : List Int) : List Int := (rs.drop 1).drop (endOf rs)
def restOf (rs : List Int) : Nat → List Int
  | 0 => rs
  | i + 1 => stepR (restOf rs i)
def progsOf (rs : List Int) (k : Nat) : List (List I3) := (List.range k).map fun i => firstP (restOf rs i)
def parse (bs : List Int) : List (List I3) := progsOf (bs.drop 1) (hdV bs).toNat

theorem progsOf_len (rs : List Int) (k : Nat) : (progsOf rs k).length = k := by simp [progsOf]
theorem progsOf_succ (rs : List Int) (k : Nat) : progsOf rs (k + 1) = progsOf rs k ++ [firstP (restOf rs k)] := by simp [progsOf, List.range_succ]
theorem endOf_le (rs : List Int) : endOf rs ≤ rs.length - 1 := by unfold endOf; omega
theorem restOf_oct {rs : List Int} (h : ∀ z ∈ rs, Oct z) : ∀ i, ∀ z ∈ restOf rs i, Oct z := by
  intro i
  induction i with
  | zero => exact h
  | succ i ih => intro z hz; exact ih z (List.mem_of_mem_drop (List.mem_of_mem_drop hz))
theorem restOf_le (rs : List Int) (i : Nat) : (restOf rs i).length ≤ rs.length := by
  induction i with
  | zero => exact Nat.le_refl _
  | succ i ih => simp only [restOf, stepR, List.length_drop]; omega

/-- A program, and what stands behind it. -/
theorem first_txt {p : List I3} (h : okP p) (r : List Int) : firstP (txtP p ++ r) = p ∧ stepR (txtP p ++ r) = r ∧ endOf (txtP p ++ r) = 4 * p.length := by
  have hv : hdV (txtP p ++ r) = (p.length : Int) := rfl
  have hd : (txtP p ++ r).drop 1 = p.flatMap txtI ++ r := rfl
  have hl : (txtP p ++ r).length - 1 = 4 * p.length + r.length := by rw [List.length_append, txtP_len]; omega
  have he : endOf (txtP p ++ r) = 4 * p.length := by unfold endOf; rw [hv, hl]; omega
  have hti := txtIs_len p
  refine ⟨?_, ?_, he⟩
  · unfold firstP
    rw [he, hd, List.take_left' hti]
    exact insOf_txt (okP_mem h)
  · unfold stepR
    rw [he, hd, List.drop_left' hti]

theorem rest_txt {l : List (List I3)} (h : ∀ p ∈ l, okP p) : ∀ i, i ≤ l.length → restOf (l.flatMap txtP) i = (l.drop i).flatMap txtP := by
  intro i
  induction i with
  | zero => intro _; rfl
  | succ i ih =>
    intro hi
    rw [restOf, ih (by omega), List.drop_eq_getElem_cons (by omega), List.flatMap_cons]
    exact (first_txt (h _ (List.getElem_mem _)) _).2.1

theorem progs_txt {l : List (List I3)} (h : ∀ p ∈ l, okP p) : progsOf (l.flatMap txtP) l.length = l := by
  refine List.ext_getElem (progsOf_len _ _) fun i h1 h2 => ?_
  simp only [progsOf, List.getElem_map, List.getElem_range]
  rw [rest_txt h i (by omega), List.drop_eq_getElem_cons h2, List.flatMap_cons]
  exact (first_txt (h _ (List.getElem_mem _)) _).1

/-- WHAT IS WRITTEN IS READ. -/
theorem parse_txt {l : List (List I3)} (h : okL l) : parse (txtL l) = l := by
  show progsOf (l.flatMap txtP) ((l.length : Int)).toNat = l
  rw [Int.toNat_natCast]
  exact progs_txt (okL_mem h)

theorem txtL_inj {l l' : List (List I3)} (h : okL l) (h' : okL l') (e : txtL l = txtL l') : l = l' := by
  rw [← parse_txt h, e, parse_txt h']

/-- Of two texts neither is the beginning of the other one. -/
theorem txtPs_prefix {l l' : List (List I3)} (h : ∀ p ∈ l, okP p) (h' : ∀ p ∈ l', okP p) (hl : l.length = l'.length) {r r' : List Int} (e : l.flatMap txtP ++ r = l'.flatMap txtP ++ r') : r = r' := by
  induction l generalizing l' with
  | nil =>
    cases l' with
    | nil => simpa using e
    | cons p l' => simp at hl
  | cons p l ih =>
    cases l' with
    | nil => simp at hl
    | cons p' l' =>
      rw [List.flatMap_cons, List.flatMap_cons, List.append_assoc, List.append_assoc] at e
      have e1 := (first_txt (h p (by simp)) (l.flatMap txtP ++ r)).2.1
      have e2 := (first_txt (h' p' (by simp)) (l'.flatMap txtP ++ r')).2.1
      rw [e, e2] at e1
      exact ih (fun q hq => h q (List.mem_cons_of_mem _ hq)) (fun q hq => h' q (List.mem_cons_of_mem _ hq)) (by simpa using hl) e1.symm
theorem txtL_prefix {l l' : List (List I3)} (h : okL l) (h' : okL l') {r : List Int} (e : txtL l = txtL l' ++ r) : r = [] := by
  unfold txtL at e
  rw [List.cons_append] at e
  injection e with e1 e2
  have hl : l.length = l'.length := by omega
  have := txtPs_prefix (okL_mem h) (okL_mem h') hl (r := []) (r' := r) (by simpa using e2)
  exact this.symm

open Classical in
/-- What Read answers. -/
noncomputable def readA (bs : List Int) : Option (List (List I3)) := if okL (parse bs) ∧ txtL (parse bs) = bs then some (parse bs) else none
theorem readA_yes {bs : List Int} {l : List (List I3)} (h : okL l) (e : txtL l = bs) : readA bs = some l := by
  subst e
  unfold readA
  rw [parse_txt h, if_pos ⟨h, rfl⟩]
theorem readA_no {bs : List Int} (h : ∀ l, okL l → txtL l ≠ bs) : readA bs = none := if_neg (fun h' => h _ h'.1 h'.2)
theorem readA_some {bs : List Int} {l : List (List I3)} (h : readA bs = some l) : okL l ∧ txtL l = bs := by
  unfold readA at h
  split at h
  · rename_i h'
    injection h with h
    subst h
    exact h'
  · cases h
theorem readA_none {bs : List Int} (h : readA bs = none) : ¬ (okL (parse bs) ∧ txtL (parse bs) = bs) := by
  unfold readA at h
  split at h
  · cases h
  · assumption

end Go.Proofs.Ytcbgmhbmdklbfaa
