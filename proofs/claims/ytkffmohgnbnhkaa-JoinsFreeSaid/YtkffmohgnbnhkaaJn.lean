/-
  Layer 11, plain mathematics: what all calls answer; joins that may be stay such. Over no program.
-/
import Derived.Test.YtkffmohgnbnhkaaJm
namespace Go.Proofs.Ytkffmohgnbnhkaa
open Go.RowKit

/-- Who waits for somebody itself; the joins of others. -/
def goesL (l : List Tm) (on : Int) : List Int := (l.filter fun t => decide (t.1 = on)).map (·.2)
def leftL (l : List Tm) (on : Int) : List Tm := l.filter fun t => decide (t.1 ≠ on)
def lessJ (l : List Tm) (who : Int) : List Tm := l.filter fun t => decide (t.2 ≠ who)
/-- What is answered: an error (0: none), and the rest. -/
def forR (l : List Tm) (who : Int) : Int × List Int := if okJ l then (0, wayJ l who) else (1, [])
def doneR (l : List Tm) (on : Int) : Int × List Int × List Tm := if okJ l then (0, goesL l on, leftL l on) else (1, [], [])
def dropR (l : List Tm) (who : Int) : Int × List Tm := if okJ l then (if 0 ≤ onL l who then (0, lessJ l who) else (5, [])) else (1, [])
def waitR (l : List Tm) (on who : Int) : Int × List Tm :=
  if okJ l ∧ 0 ≤ on ∧ 0 ≤ who then (if 0 ≤ onL l who then (6, []) else if on = who ∨ who ∈ wayJ l on then (9, []) else if l.length = 256 then (7, []) else (0, l ++ [(on, who)])) else (1, [])
def checkR (l : List Tm) : Int := if okJ l then 0 else 1

/-- What the first loop of the document's Check has seen. -/
def okA (l : List Tm) (i : Nat) : Prop := 0 ≤ jO l i ∧ 0 ≤ jA l i ∧ onL (l.take i) (jA l i) < 0
def OkA (l : List Tm) (k : Nat) : Prop := ∀ i, i < k → okA l i
theorem take_len {l : List Tm} {k : Nat} (h : k < l.length) : (l.take k).length = k := by rw [List.length_take]; omega
theorem take_ith {l : List Tm} {k : Nat} (h : k < l.length) : l.take (k + 1) = l.take k ++ [ith l k] := by
  rw [List.take_add_one, List.getElem?_eq_getElem h, ith_get h]; rfl
theorem whos_app (a b : List Tm) : whos (a ++ b) = whos a ++ whos b := List.map_append
theorem nonneg_take {l : List Tm} (h : nonneg l) (k : Nat) : nonneg (l.take k) := fun t ht => h t (List.mem_of_mem_take ht)
theorem OkA.good {l : List Tm} : ∀ {k : Nat}, k ≤ l.length → OkA l k → nonneg (l.take k) ∧ (whos (l.take k)).Nodup
  | 0, _, _ => by simp [nonneg, whos]
  | k + 1, hk, h => by
    obtain ⟨h1, h2⟩ := OkA.good (k := k) (by omega) (fun i hi => h i (by omega))
    obtain ⟨g1, g2, g3⟩ := h k (by omega)
    rw [take_ith (by omega)]
    refine ⟨fun t ht => ?_, ?_⟩
    · rcases List.mem_append.1 ht with ht | ht
      · exact h1 t ht
      · rw [List.mem_singleton.1 ht]; exact ⟨g1, g2⟩
    · rw [whos_app, List.nodup_append]
      refine ⟨h2, by simp [whos], fun x hx y hy => ?_⟩
      have e : y = jA l k := by simpa [whos, jA] using hy
      subst e
      rintro rfl
      have := onL_of_mem h1 hx
      omega
theorem okA_of {l : List Tm} (h : nonneg l) (hn : (whos l).Nodup) {i : Nat} (hi : i < l.length) : okA l i := by
  have hm : ith l i ∈ l := by rw [ith_get hi]; exact List.getElem_mem hi
  refine ⟨(h _ hm).1, (h _ hm).2, ?_⟩
  have h1 : (whos (l.take (i + 1))).Nodup := (List.Sublist.map _ (List.take_sublist _ _)).nodup hn
  rw [take_ith hi, whos_app, List.nodup_append] at h1
  rw [onL_not (fun hx => h1.2.2 _ hx (jA l i) (by simp [whos, jA]) rfl)]
  omega
theorem whos_nth {l : List Tm} {k : Nat} (h : k < l.length) : ith l k ∈ l := by rw [ith_get h]; exact List.getElem_mem h
theorem okJ_of {l : List Tm} (h0 : l.length ≤ 256) (h : OkA l l.length) (h2 : ∀ i, i < l.length → jA l i ∉ wayJ l (jA l i)) : okJ l := by
  have := h.good (Nat.le_refl _)
  rw [List.take_length] at this
  refine ⟨h0, this.1, this.2, fun t ht => ?_⟩
  obtain ⟨i, hi, e⟩ := List.getElem_of_mem ht
  have := h2 i hi
  unfold jA at this
  rw [ith_get hi, e] at this
  exact this
theorem okJ.at_ {l : List Tm} (h : okJ l) {i : Nat} (hi : i < l.length) : okA l i ∧ jA l i ∉ wayJ l (jA l i) :=
  ⟨okA_of h.2.1 h.2.2.1 hi, h.2.2.2 _ (whos_nth hi)⟩
theorem okJ_ends {l : List Tm} : okJ l ↔ l.length ≤ 256 ∧ nonneg l ∧ (whos l).Nodup ∧ ∀ x, Ends l x := by
  unfold okJ
  rw [noSelf_iff]
theorem okJ_nil : okJ [] := ⟨by simp, by simp [nonneg], by simp [whos], by simp⟩

section
variable {l : List Tm}
theorem goes_next {k : Nat} (h : k < l.length) (on : Int) : goesL (l.take (k + 1)) on = if jO l k = on then goesL (l.take k) on ++ [jA l k] else goesL (l.take k) on := by
  unfold goesL
  rw [take_ith h, List.filter_append]
  by_cases e : jO l k = on
  · rw [if_pos e]
    have : (ith l k).1 = on := e
    simp [this, jA]
  · rw [if_neg e]
    have : ¬ (ith l k).1 = on := e
    simp [this]
theorem left_next {k : Nat} (h : k < l.length) (on : Int) : leftL (l.take (k + 1)) on = if jO l k = on then leftL (l.take k) on else leftL (l.take k) on ++ [ith l k] := by
  unfold leftL
  rw [take_ith h, List.filter_append]
  by_cases e : jO l k = on
  · rw [if_pos e]
    have : (ith l k).1 = on := e
    simp [this]
  · rw [if_neg e]
    have : ¬ (ith l k).1 = on := e
    simp [this]
theorem less_next {k : Nat} (h : k < l.length) (who : Int) : lessJ (l.take (k + 1)) who = if jA l k = who then lessJ (l.take k) who else lessJ (l.take k) who ++ [ith l k] := by
  unfold lessJ
  rw [take_ith h, List.filter_append]
  by_cases e : jA l k = who
  · rw [if_pos e]
    have : (ith l k).2 = who := e
    simp [this]
  · rw [if_neg e]
    have : ¬ (ith l k).2 = who := e
    simp [this]
theorem goes_few (on : Int) (k : Nat) : (goesL (l.take k) on).length ≤ k := by
  unfold goesL
  rw [List.length_map]
  exact Nat.le_trans (List.length_filter_le _ _) (by rw [List.length_take]; omega)
theorem left_few (on : Int) (k : Nat) : (leftL (l.take k) on).length ≤ k := Nat.le_trans (List.length_filter_le _ _) (by rw [List.length_take]; omega)
theorem less_few (on : Int) (k : Nat) : (lessJ (l.take k) on).length ≤ k := Nat.le_trans (List.length_filter_le _ _) (by rw [List.length_take]; omega)
theorem goes_left (on : Int) : (goesL l on).length + (leftL l on).length = l.length := by
  unfold goesL leftL
  rw [List.length_map]
  induction l with
  | nil => rfl
  | cons t l ih =>
    by_cases e : t.1 = on
    · simp [e] at ih ⊢; omega
    · simp [e] at ih ⊢; omega
theorem left_mem {on : Int} {t : Tm} : t ∈ leftL l on ↔ t ∈ l ∧ t.1 ≠ on := by simp [leftL]
theorem less_mem {who : Int} {t : Tm} : t ∈ lessJ l who ↔ t ∈ l ∧ t.2 ≠ who := by simp [lessJ]

/-- Fewer joins: whom one waits for is as before, or nobody. -/
theorem onL_sub {m : List Tm} (hs : m.Sublist l) (hn : (whos l).Nodup) (_h0 : nonneg l) (x : Int) : onL m x = onL l x ∨ onL m x = -1 := by
  by_cases hx : x ∈ whos m
  · left
    obtain ⟨t, ht, e⟩ := List.mem_map.1 hx
    have hm : (whos m).Nodup := (List.Sublist.map _ hs).nodup hn
    rw [← e, onL_who hm ht, onL_who hn (hs.subset ht)]
  · exact .inr (onL_not hx)
theorem Ends.sub {m : List Tm} (hs : m.Sublist l) (hn : (whos l).Nodup) (h0 : nonneg l) {x : Int} {ys : List Int} (p : Path l x ys) : Ends m x := by
  induction p with
  | @stop x h =>
    rcases onL_sub hs hn h0 x with e | e
    · exact ⟨[], .stop (by rw [e]; exact h)⟩
    · exact ⟨[], .stop (by rw [e]; omega)⟩
  | @step x ys h _ ih =>
    rcases onL_sub hs hn h0 x with e | e
    · refine Ends.back (by rw [e]; exact h) ?_
      rw [e]; exact ih
    · exact ⟨[], .stop (by rw [e]; omega)⟩
theorem okJ.sub {m : List Tm} (h : okJ l) (hs : m.Sublist l) : okJ m := by
  obtain ⟨h1, h2, h3, h4⟩ := okJ_ends.1 h
  refine okJ_ends.2 ⟨Nat.le_trans hs.length_le h1, fun t ht => h2 t (hs.subset ht), (List.Sublist.map _ hs).nodup h3, fun x => ?_⟩
  obtain ⟨ys, p⟩ := h4 x
  exact Ends.sub hs h3 h2 p
theorem okJ.left (h : okJ l) (on : Int) : okJ (leftL l on) := h.sub List.filter_sublist
theorem okJ.less (h : okJ l) (who : Int) : okJ (lessJ l who) := h.sub List.filter_sublist

theorem onL_app_ne : ∀ {l : List Tm} {on who x : Int}, x ≠ who → onL (l ++ [(on, who)]) x = onL l x
  | [], on, who, x, h => by
    show (if who = x then on else -1) = -1
    rw [if_neg (Ne.symm h)]
  | t :: l, on, who, x, h => by
    show (if t.2 = x then t.1 else onL (l ++ [(on, who)]) x) = (if t.2 = x then t.1 else onL l x)
    rw [onL_app_ne h]
theorem onL_app_who : ∀ {l : List Tm} {on who : Int}, who ∉ whos l → onL (l ++ [(on, who)]) who = on
  | [], on, who, _ => by
    show (if who = who then on else -1) = on
    rw [if_pos rfl]
  | t :: l, on, who, h => by
    have h1 : t.2 ≠ who := fun e => h (by rw [← e]; simp [whos])
    show (if t.2 = who then t.1 else onL (l ++ [(on, who)]) who) = on
    rw [if_neg h1]
    exact onL_app_who fun hm => h (List.mem_cons_of_mem _ hm)
/-- A way that doesn't come to who is the same with one more join of who. -/
theorem Path.app {on who x : Int} {ys : List Int} (p : Path l x ys) (hx : x ≠ who) (hy : who ∉ ys) : Path (l ++ [(on, who)]) x ys := by
  induction p with
  | stop h => exact .stop (by rw [onL_app_ne hx]; exact h)
  | @step x ys h q ih =>
    have h1 : onL l x ≠ who := fun e => hy (by rw [e]; simp)
    have := Path.step (l := l ++ [(on, who)]) (x := x) (ys := ys) (by rw [onL_app_ne hx]; exact h) (by rw [onL_app_ne hx]; exact ih h1 (fun hm => hy (List.mem_cons_of_mem _ hm)))
    rwa [onL_app_ne hx] at this
theorem okJ.wait (h : okJ l) {on who : Int} (h1 : 0 ≤ on) (h2 : 0 ≤ who) (hw : onL l who < 0) (hne : on ≠ who) (hway : who ∉ wayJ l on) (hl : l.length < 256) :
    okJ (l ++ [(on, who)]) ∧ wayJ (l ++ [(on, who)]) who = on :: wayJ l on := by
  have hnw : who ∉ whos l := fun hm => by have := onL_of_mem h.2.1 hm; omega
  have po : Path (l ++ [(on, who)]) on (wayJ l on) := (h.path on).app hne hway
  have pw : Path (l ++ [(on, who)]) who (on :: wayJ l on) := by
    have e := onL_app_who (on := on) hnw
    have := Path.step (l := l ++ [(on, who)]) (x := who) (by rw [e]; exact h1) (by rw [e]; exact po)
    rwa [e] at this
  have hall : ∀ {x : Int} {ys : List Int}, Path l x ys → Ends (l ++ [(on, who)]) x := by
    intro x ys p
    induction p with
    | @stop x hx =>
      by_cases e : x = who
      · subst e; exact ⟨_, pw⟩
      · exact ⟨[], .stop (by rw [onL_app_ne e]; exact hx)⟩
    | @step x ys hx _ ih =>
      by_cases e : x = who
      · subst e; exact ⟨_, pw⟩
      · refine Ends.back (by rw [onL_app_ne e]; exact hx) ?_
        rw [onL_app_ne e]; exact ih
  refine ⟨okJ_ends.2 ⟨by simp; omega, fun t ht => ?_, ?_, fun x => hall (h.path x)⟩, pw.wayJ_eq⟩
  · rcases List.mem_append.1 ht with ht | ht
    · exact h.2.1 t ht
    · rw [List.mem_singleton.1 ht]; exact ⟨h1, h2⟩
  · rw [whos_app, List.nodup_append]
    refine ⟨h.2.2.1, by simp [whos], fun x hx y hy => ?_⟩
    have e : y = who := by simpa [whos] using hy
    subst e
    rintro rfl
    exact hnw hx
theorem wayJ_head (h : okJ l) {t : Tm} (ht : t ∈ l) : ∃ ys, wayJ l t.2 = t.1 :: ys := by
  have e := onL_who h.2.2.1 ht
  have h0 := (h.2.1 t ht).1
  have p := h.path t.2
  generalize wayJ l t.2 = zs at p ⊢
  cases p with
  | stop h' => omega
  | step _ _ => exact ⟨_, by rw [e]⟩
/-- Behind the last one of a way there is nobody. -/
theorem Path.last {x : Int} {ys : List Int} (p : Path l x ys) (hn : 0 < ys.length) : onL l (ys.getD (ys.length - 1) 0) < 0 := by
  induction p with
  | stop _ => simp at hn
  | @step x ys h q ih =>
    cases q with
    | stop h' => exact h'
    | @step _ zs h' q' =>
      have := ih (by simp)
      simpa using this
end

end Go.Proofs.Ytkffmohgnbnhkaa
