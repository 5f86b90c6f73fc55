/-
  Layer 17's words: how many of a list are a number, who rests, when workers may be, what each call is to answer, as plain functions. Over no program.
-/
import Derived.Test.YtmndkofdoclihaaBut
namespace Go.Proofs.Ytmndkofdoclihaa
open Go.RowKit

/-- How many of a list are a number. -/
def manyWo (l : List Int) (x : Int) : Nat := (l.filter fun y => decide (y = x)).length
theorem many_nil (x : Int) : manyWo [] x = 0 := rfl
theorem many_cons (y : Int) (l : List Int) (x : Int) : manyWo (y :: l) x = (if y = x then 1 else 0) + manyWo l x := by
  unfold manyWo
  by_cases h : y = x
  · simp [h]; omega
  · simp [h]
theorem many_app (l k : List Int) (x : Int) : manyWo (l ++ k) x = manyWo l x + manyWo k x := by simp [manyWo]
theorem many_snoc (l : List Int) (y x : Int) : manyWo (l ++ [y]) x = manyWo l x + if y = x then 1 else 0 := by rw [many_app, many_cons, many_nil]; omega
theorem many_next {l : List Int} {k : Nat} (h : k < l.length) (x : Int) : manyWo (l.take (k + 1)) x = manyWo (l.take k) x + if nth l k = x then 1 else 0 := by rw [take_nextBt h, many_snoc]
theorem many_le (l : List Int) (x : Int) : manyWo l x ≤ l.length := List.length_filter_le _ _
theorem many_take_le (l : List Int) (k : Nat) (x : Int) : manyWo (l.take k) x ≤ k := Nat.le_trans (many_le _ _) (by rw [List.length_take]; omega)
theorem many_perm {l k : List Int} (h : l.Perm k) (x : Int) : manyWo l x = manyWo k x := (h.filter _).length_eq
theorem many_none {l : List Int} {x : Int} (h : x ∉ l) : manyWo l x = 0 := by
  unfold manyWo
  rw [List.length_eq_zero_iff, List.filter_eq_nil_iff]
  intro y hy
  simp
  rintro rfl
  exact h hy
theorem many_mem {l : List Int} {x : Int} (h : manyWo l x ≠ 0) : x ∈ l := Classical.byContradiction fun q => h (many_none q)
theorem many_nodup : ∀ {l : List Int} {x : Int}, l.Nodup → x ∈ l → manyWo l x = 1
  | [], x, _, h => by cases h
  | y :: ys, x, hd, h => by
    obtain ⟨h1, h2⟩ := List.nodup_cons.1 hd
    rw [many_cons]
    by_cases e : y = x
    · subst e
      rw [if_pos rfl, many_none h1]
    · rw [if_neg e]
      rcases List.mem_cons.1 h with h | h
      · exact absurd h.symm e
      · rw [many_nodup h2 h]
theorem many_set : ∀ {l : List Int} {k : Nat} (_ : k < l.length) (y x : Int), manyWo (l.set k y) x + (if nth l k = x then 1 else 0) = manyWo l x + (if y = x then 1 else 0)
  | [], k, h, _, _ => by simp at h
  | z :: l, 0, _, y, x => by
    have e : nth (z :: l) 0 = z := rfl
    rw [List.set_cons_zero, many_cons, many_cons, e]
    omega
  | z :: l, k + 1, h, y, x => by
    have e : nth (z :: l) (k + 1) = nth l k := rfl
    rw [List.set_cons_succ, many_cons, many_cons, e]
    have := many_set (l := l) (k := k) (by simpa using h) y x
    omega
theorem many_but (l : List Int) (y x : Int) : manyWo (butBt l y) x = if x = y then 0 else manyWo l x := by
  unfold manyWo butBt
  rw [List.filter_filter]
  by_cases h : x = y
  · rw [if_pos h, List.length_eq_zero_iff, List.filter_eq_nil_iff]
    intro z _
    simp
    omega
  · rw [if_neg h]
    congr 1
    refine List.filter_congr fun z _ => ?_
    by_cases e : z = x
    · subst e; simp [h]
    · simp [e]
theorem many_replicate (n : Nat) (y x : Int) : manyWo (List.replicate n y) x = if y = x then n else 0 := by
  induction n with
  | zero => simp [manyWo]
  | succ n ih =>
    rw [List.replicate_succ, many_cons, ih]
    by_cases h : y = x
    · simp [h]; omega
    · simp [h]

/-- What a worker may be. -/
def fours (is : List Int) : Prop := ∀ x ∈ is, 0 ≤ x ∧ x ≤ 3
instance (is : List Int) : Decidable (fours is) := by unfold fours; exact inferInstance
theorem fours_at {is : List Int} (h : fours is) {k : Nat} (hk : k < is.length) : 0 ≤ nth is k ∧ nth is k ≤ 3 := by rw [nth_get hk]; exact h _ (List.getElem_mem _)
theorem fours_of {is : List Int} (h : ∀ k, k < is.length → 0 ≤ nth is k ∧ nth is k ≤ 3) : fours is := fun x hx => by
  obtain ⟨k, hk, rfl⟩ := nth_memBt.1 hx
  exact h k hk
theorem many_all : ∀ {is : List Int}, fours is → manyWo is 0 + manyWo is 1 + manyWo is 2 + manyWo is 3 = is.length
  | [], _ => rfl
  | x :: l, h => by
    have ih := many_all (is := l) fun y hy => h y (List.mem_cons_of_mem _ hy)
    have hx := h x (List.mem_cons_self ..)
    simp only [many_cons, List.length_cons]
    have : x = 0 ∨ x = 1 ∨ x = 2 ∨ x = 3 := by omega
    rcases this with rfl | rfl | rfl | rfl <;> simp <;> omega
/-- So many may spin as do. -/
def fitsWo (is : List Int) : Prop := 2 * (manyWo is 1 : Int) ≤ (is.length : Int) - (manyWo is 3 : Int) + 1
instance (is : List Int) : Decidable (fitsWo is) := by unfold fitsWo; exact inferInstance
/-- Each who rests stands in the list once. -/
def onceWo (is st : List Int) : Prop := ∀ j, j < is.length → 2 ≤ nth is j → manyWo st j = 1
instance (is st : List Int) : Decidable (onceWo is st) := by unfold onceWo; exact inferInstance
/-- When workers may be. -/
def okWo (is st : List Int) : Prop := (1 ≤ is.length ∧ is.length ≤ 64) ∧ fours is ∧ fitsWo is ∧ st.length = manyWo is 2 + manyWo is 3 ∧ onceWo is st
instance (is st : List Int) : Decidable (okWo is st) := by unfold okWo; exact inferInstance

/-- Those who rest, in order. -/
def restL (is : List Int) : List Int := ((List.range is.length).filter fun j => decide (2 ≤ nth is j)).map fun (j : Nat) => (j : Int)
theorem restL_mem {is : List Int} {x : Int} : x ∈ restL is ↔ 0 ≤ x ∧ x < is.length ∧ 2 ≤ nth is x.toNat := by
  unfold restL
  simp only [List.mem_map, List.mem_filter, List.mem_range, decide_eq_true_eq]
  constructor
  · rintro ⟨j, ⟨h1, h2⟩, rfl⟩
    exact ⟨by omega, by omega, by simpa using h2⟩
  · rintro ⟨h0, h1, h2⟩
    exact ⟨x.toNat, ⟨by omega, h2⟩, by omega⟩
theorem restL_nodup (is : List Int) : (restL is).Nodup := by
  unfold restL
  rw [List.nodup_iff_pairwise_ne, List.pairwise_map]
  exact (List.nodup_iff_pairwise_ne.1 (List.nodup_range.filter _)).imp fun h e => h (by omega)
theorem range_many {is : List Int} (h : fours is) : ∀ k, k ≤ is.length → ((List.range k).filter fun j => decide (2 ≤ nth is j)).length = manyWo (is.take k) 2 + manyWo (is.take k) 3 := by
  intro k
  induction k with
  | zero => intro _; simp [manyWo]
  | succ k ih =>
    intro hk
    have hk' : k < is.length := hk
    have f := fours_at h hk'
    have := ih (by omega)
    rw [List.range_succ, List.filter_append, List.length_append, this, many_next hk', many_next hk']
    by_cases e2 : nth is k = 2
    · simp [e2]; omega
    · by_cases e3 : nth is k = 3
      · simp [e3]; omega
      · have : ¬ 2 ≤ nth is k := by omega
        simp [e2, e3, this]
theorem restL_len {is : List Int} (h : fours is) : (restL is).length = manyWo is 2 + manyWo is 3 := by
  have := range_many h is.length (Nat.le_refl _)
  rw [List.take_length] at this
  unfold restL
  rw [List.length_map, this]

theorem sub_perm : ∀ (a b : List Int), a.Nodup → (∀ x ∈ a, x ∈ b) → ∃ r, b.Perm (a ++ r)
  | [], b, _, _ => ⟨b, List.Perm.refl _⟩
  | x :: a, b, hd, h => by
    obtain ⟨h1, h2⟩ := List.nodup_cons.1 hd
    obtain ⟨r, hr⟩ := sub_perm a (b.erase x) h2 fun y hy => (List.mem_erase_of_ne (by rintro rfl; exact h1 hy)).2 (h y (List.mem_cons_of_mem _ hy))
    exact ⟨r, (List.perm_cons_erase (h x (List.mem_cons_self ..))).trans (hr.cons x)⟩
theorem full_perm {a b : List Int} (hd : a.Nodup) (h : ∀ x ∈ a, x ∈ b) (hl : b.length ≤ a.length) : b.Perm a := by
  obtain ⟨r, hr⟩ := sub_perm a b hd h
  have := hr.length_eq
  rw [List.length_append] at this
  have : r = [] := List.eq_nil_of_length_eq_zero (by omega)
  subst this
  rwa [List.append_nil] at hr

/-- As many as rest, all of whom rest, and nobody twice. -/
def goodWo (is st : List Int) (k : Nat) : Prop := ∀ j, j < k → (0 ≤ nth st j ∧ nth st j < is.length ∧ 2 ≤ nth is (nth st j).toNat) ∧ nth st j ∉ st.take j
theorem nodup_of : ∀ {l : List Int}, (∀ j, j < l.length → nth l j ∉ l.take j) → l.Nodup := fun {l} h => by
  rw [List.nodup_iff_pairwise_ne, List.pairwise_iff_getElem]
  intro i j hi hj hij e
  refine h j hj (List.mem_iff_getElem.2 ⟨i, by rw [List.length_take]; omega, ?_⟩)
  rw [List.getElem_take, nth_get hj, e]
theorem fresh_of {l : List Int} (hd : l.Nodup) {k : Nat} (h : k < l.length) : nth l k ∉ l.take k := by
  intro hm
  obtain ⟨j, hj, he⟩ := List.mem_iff_getElem.1 hm
  rw [List.length_take] at hj
  rw [List.getElem_take, nth_get h] at he
  exact List.pairwise_iff_getElem.1 (List.nodup_iff_pairwise_ne.1 hd) j k (by omega) h (by omega) he
theorem perm_once {is st : List Int} (h : st.Perm (restL is)) : onceWo is st := fun j hj h2 => by
  rw [many_perm h]
  exact many_nodup (restL_nodup is) (restL_mem.2 ⟨by omega, by omega, by simpa using h2⟩)
theorem once_perm {is st : List Int} (hf : fours is) (hl : st.length = manyWo is 2 + manyWo is 3) (h : onceWo is st) : st.Perm (restL is) := by
  refine full_perm (restL_nodup is) (fun x hx => ?_) (by rw [restL_len hf]; omega)
  obtain ⟨h0, h1, h2⟩ := restL_mem.1 hx
  have := h x.toNat (by omega) h2
  rw [show ((x.toNat : Nat) : Int) = x by omega] at this
  exact many_mem (by omega)
theorem good_perm {is st : List Int} (hf : fours is) (hl : st.length = manyWo is 2 + manyWo is 3) (h : goodWo is st st.length) : st.Perm (restL is) := by
  refine (full_perm (nodup_of fun j hj => (h j hj).2) (fun x hx => ?_) (by rw [restL_len hf]; omega)).symm
  obtain ⟨j, hj, rfl⟩ := nth_memBt.1 hx
  exact restL_mem.2 (h j hj).1
theorem perm_good {is st : List Int} (h : st.Perm (restL is)) : goodWo is st st.length := fun j hj =>
  ⟨restL_mem.1 (h.mem_iff.1 (nth_memBt.2 ⟨j, hj, rfl⟩)), fresh_of (h.nodup_iff.2 (restL_nodup is)) hj⟩
theorem good_once {is st : List Int} (hf : fours is) (hl : st.length = manyWo is 2 + manyWo is 3) : goodWo is st st.length ↔ onceWo is st :=
  ⟨fun h => perm_once (good_perm hf hl h), fun h => perm_good (once_perm hf hl h)⟩
theorem ok_perm {is st : List Int} (h : okWo is st) : st.Perm (restL is) := once_perm h.2.1 h.2.2.2.1 h.2.2.2.2
theorem ok_of {is st : List Int} (h1 : 1 ≤ is.length ∧ is.length ≤ 64) (h2 : fours is) (h3 : fitsWo is) (h4 : st.Perm (restL is)) : okWo is st :=
  ⟨h1, h2, h3, by rw [h4.length_eq, restL_len h2], perm_once h4⟩

/-- Workers may be, and a number is one's. -/
def inWo (is st : List Int) (i : Int) : Prop := okWo is st ∧ 0 ≤ i ∧ i < is.length
instance (is st : List Int) (i : Int) : Decidable (inWo is st i) := by unfold inWo; exact inferInstance

def chkWo (is st : List Int) : Int := if okWo is st then 0 else 1
def newWo (n : Int) : List Int × Int := if 1 ≤ n ∧ n ≤ 64 then (List.replicate n.toNat 0, 0) else ([], 1)
def countWo (is st : List Int) (what : Int) : Int × Int := if okWo is st ∧ 0 ≤ what ∧ what ≤ 3 then ((manyWo is what : Int), 0) else (0, 1)
/-- What a change answers, and where: what they are, Stack, the error. -/
def chgWo (is st : List Int) (i to : Int) (from_ : List Int) : List Int × List Int × Int :=
  if inWo is st i then
    (if nth is i.toNat ∈ from_ then
      (is.set i.toNat to, (if to = 2 ∨ to = 3 then (if nth is i.toNat = 2 ∨ nth is i.toNat = 3 then st else st ++ [i]) else butBt st i), 0)
    else ([], [], 9))
  else ([], [], 1)
def spinWo (is st : List Int) (i : Int) : Bool × List Int × List Int × Int :=
  if inWo is st i then (if nth is i.toNat = 0 then (if fitsWo (is.set i.toNat 1) then (true, is.set i.toNat 1, st, 0) else (false, is, st, 0)) else (false, [], [], 9)) else (false, [], [], 1)
def foundWo (is st : List Int) (i : Int) : List Int × List Int × Int :=
  if inWo is st i then (if nth is i.toNat = 3 then ([], [], 9) else (is.set i.toNat 0, butBt st i, 0)) else ([], [], 1)
def annWo (is st : List Int) (i : Int) : List Int × List Int × Int :=
  if inWo is st i then (if nth is i.toNat ≤ 1 then (is.set i.toNat 2, st ++ [i], 0) else ([], [], 9)) else ([], [], 1)
def parkWo (is st : List Int) (i : Int) : List Int × List Int × Int :=
  if inWo is st i then (if nth is i.toNat = 2 ∧ fitsWo (is.set i.toNat 3) then (is.set i.toNat 3, st, 0) else ([], [], 9)) else ([], [], 1)
def wakeWo (is st : List Int) : Int × List Int × List Int × Int :=
  if okWo is st then (if st.length = 0 then (0, [], [], 5) else (nth st (st.length - 1), is.set (nth st (st.length - 1)).toNat 0, butBt st (nth st (st.length - 1)), 0)) else (0, [], [], 1)
def sameWo (a b c d : List Int) : Bool := sameB a c && sameB b d

theorem not_in {is st : List Int} (h : okWo is st) {i : Int} (h2 : nth is i.toNat < 2) : i ∉ st := fun hm => by
  have := (restL_mem.1 ((ok_perm h).mem_iff.1 hm)).2.2
  omega
theorem last_in {is st : List Int} (h : okWo is st) (hn : st.length ≠ 0) : inWo is st (nth st (st.length - 1)) ∧ 2 ≤ nth is (nth st (st.length - 1)).toNat := by
  have := restL_mem.1 ((ok_perm h).mem_iff.1 (nth_memBt.2 ⟨st.length - 1, by omega, rfl⟩))
  exact ⟨⟨h, this.1, this.2.1⟩, this.2.2⟩

end Go.Proofs.Ytmndkofdoclihaa
