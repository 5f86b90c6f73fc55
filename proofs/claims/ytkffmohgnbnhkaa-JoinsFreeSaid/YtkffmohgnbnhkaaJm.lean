/-
  Layer 11, plain mathematics: for whom somebody waits in a list of joins, its way on and on, whether ways end, what the answers of all calls are. Over no program.
-/
import Derived.Test.YtkffmohgnbnhkaaTim
namespace Go.Proofs.Ytkffmohgnbnhkaa
open Go.RowKit

/-- For whom somebody waits (-1: for none). -/
def onL : List Tm → Int → Int
  | [], _ => -1
  | t :: l, x => if t.2 = x then t.1 else onL l x
/-- Those for whom it waits, n at the most. -/
def wayN (l : List Tm) : Nat → Int → List Int
  | 0, _ => []
  | n + 1, x => if onL l x < 0 then [] else onL l x :: wayN l n (onL l x)
def wayJ (l : List Tm) (x : Int) : List Int := wayN l (l.length + 1) x
def whos (l : List Tm) : List Int := l.map (·.2)
def nonneg (l : List Tm) : Prop := ∀ t ∈ l, 0 ≤ t.1 ∧ 0 ≤ t.2
instance (l : List Tm) : Decidable (nonneg l) := by unfold nonneg; exact inferInstance
/-- Joins that may be. -/
def okJ (l : List Tm) : Prop := l.length ≤ 256 ∧ nonneg l ∧ (whos l).Nodup ∧ ∀ t ∈ l, t.2 ∉ wayJ l t.2
instance (l : List Tm) : Decidable (okJ l) := by unfold okJ; exact inferInstance

theorem onL_at : ∀ {l : List Tm} {x : Int} {k : Nat}, k < l.length → jA l k = x → (∀ j, j < k → jA l j ≠ x) → onL l x = jO l k
  | t :: l, x, 0, _, h, _ => by
    have : t.2 = x := h
    show (if t.2 = x then t.1 else onL l x) = t.1
    rw [if_pos this]
  | t :: l, x, k + 1, hk, h, hn => by
    have h0 : t.2 ≠ x := hn 0 (by omega)
    show (if t.2 = x then t.1 else onL l x) = jO l k
    rw [if_neg h0]
    exact onL_at (by simpa using hk) h (fun j hj => hn (j + 1) (by omega))
theorem onL_none : ∀ {l : List Tm} {x : Int}, (∀ j, j < l.length → jA l j ≠ x) → onL l x = -1
  | [], _, _ => rfl
  | t :: l, x, h => by
    have h0 : t.2 ≠ x := h 0 (by simp)
    show (if t.2 = x then t.1 else onL l x) = -1
    rw [if_neg h0]
    exact onL_none fun j hj => h (j + 1) (by simpa using hj)
theorem onL_not {l : List Tm} {x : Int} (h : x ∉ whos l) : onL l x = -1 := by
  refine onL_none fun j hj e => h ?_
  exact List.mem_map.2 ⟨ith l j, by rw [ith_get hj]; exact List.getElem_mem hj, e⟩
theorem onL_mem {l : List Tm} {x : Int} (h : 0 ≤ onL l x) : x ∈ whos l := by
  by_cases hm : x ∈ whos l
  · exact hm
  · rw [onL_not hm] at h
    omega
theorem onL_of_mem : ∀ {l : List Tm}, nonneg l → ∀ {x : Int}, x ∈ whos l → 0 ≤ onL l x
  | [], _, x, h => by cases h
  | t :: l, hn, x, h => by
    show 0 ≤ (if t.2 = x then t.1 else onL l x)
    by_cases e : t.2 = x
    · rw [if_pos e]; exact (hn t (by simp)).1
    · rw [if_neg e]
      refine onL_of_mem (fun u hu => hn u (by simp [hu])) ?_
      rcases List.mem_cons.1 h with h | h
      · exact absurd h.symm e
      · exact h
theorem onL_who : ∀ {l : List Tm}, (whos l).Nodup → ∀ {t : Tm}, t ∈ l → onL l t.2 = t.1
  | [], _, t, h => by cases h
  | u :: l, hn, t, h => by
    show (if u.2 = t.2 then u.1 else onL l t.2) = t.1
    have hn' : u.2 ∉ whos l ∧ (whos l).Nodup := List.nodup_cons.1 hn
    rcases List.mem_cons.1 h with rfl | h
    · rw [if_pos rfl]
    · have hne : u.2 ≠ t.2 := fun e => hn'.1 (by rw [e]; exact List.mem_map.2 ⟨t, h, rfl⟩)
      rw [if_neg hne]
      exact onL_who hn'.2 h
/-- Whoever is waited for is the On of a join. -/
theorem onL_pair : ∀ {l : List Tm} {x : Int}, 0 ≤ onL l x → (onL l x, x) ∈ l
  | [], x, h => by
    have h' : (0 : Int) ≤ -1 := h
    omega
  | t :: l, x, h => by
    by_cases e : t.2 = x
    · have e1 : onL (t :: l) x = t.1 := by
        show (if t.2 = x then t.1 else onL l x) = t.1
        rw [if_pos e]
      rw [e1, ← e]
      exact List.mem_cons_self ..
    · have e1 : onL (t :: l) x = onL l x := by
        show (if t.2 = x then t.1 else onL l x) = onL l x
        rw [if_neg e]
      rw [e1] at h ⊢
      exact List.mem_cons_of_mem _ (onL_pair h)

theorem pig : ∀ (ys xs : List Int), ys.Nodup → (∀ y ∈ ys, y ∈ xs) → ys.length ≤ xs.length
  | [], xs, _, _ => Nat.zero_le _
  | y :: ys, xs, hn, hm => by
    have h1 := List.nodup_cons.1 hn
    have h2 := hm y (by simp)
    have h3 := pig ys (xs.erase y) h1.2 fun z hz => by
      have hne : z ≠ y := fun e => h1.1 (e ▸ hz)
      exact (List.mem_erase_of_ne hne).2 (hm z (by simp [hz]))
    rw [List.length_erase_of_mem h2] at h3
    have := List.length_pos_of_mem h2
    simp only [List.length_cons]
    omega

/-- The whole way of somebody. -/
inductive Path (l : List Tm) : Int → List Int → Prop
  | stop {x : Int} : onL l x < 0 → Path l x []
  | step {x : Int} {ys : List Int} : 0 ≤ onL l x → Path l (onL l x) ys → Path l x (onL l x :: ys)
def Ends (l : List Tm) (x : Int) : Prop := ∃ ys, Path l x ys
section
variable {l : List Tm}
theorem Path.det {x : Int} {ys zs : List Int} (h : Path l x ys) (k : Path l x zs) : ys = zs := by
  induction h generalizing zs with
  | stop h =>
    cases k with
    | stop => rfl
    | step h' => omega
  | step h _ ih =>
    cases k with
    | stop h' => omega
    | step _ k' => rw [ih k']
theorem Path.way {x : Int} {ys : List Int} (h : Path l x ys) : ∀ {n : Nat}, ys.length ≤ n → wayN l n x = ys := by
  induction h with
  | stop h =>
    intro n _
    cases n with
    | zero => rfl
    | succ n => unfold wayN; rw [if_pos h]
  | step h _ ih =>
    intro n hn
    cases n with
    | zero => simp at hn
    | succ n =>
      unfold wayN
      rw [if_neg (by omega), ih (by simpa using hn)]
theorem wayN_path : ∀ {n : Nat} {x : Int}, (wayN l n x).length < n → Path l x (wayN l n x)
  | 0, x, h => by omega
  | n + 1, x, h => by
    unfold wayN at h ⊢
    by_cases e : onL l x < 0
    · rw [if_pos e]; exact .stop e
    · rw [if_neg e] at h ⊢
      exact .step (by omega) (wayN_path (by simpa using h))
theorem Path.mem {x : Int} {ys : List Int} (h : Path l x ys) : ∀ {y : Int}, y ∈ ys → ∃ zs, Path l y zs ∧ zs.length < ys.length := by
  induction h with
  | stop _ => intro y hy; cases hy
  | step h p ih =>
    intro y hy
    rcases List.mem_cons.1 hy with rfl | hy
    · exact ⟨_, p, by simp⟩
    · obtain ⟨zs, h1, h2⟩ := ih hy
      exact ⟨zs, h1, by simp only [List.length_cons]; omega⟩
theorem Path.not_self {x : Int} {ys : List Int} (h : Path l x ys) : x ∉ ys := fun hm => by
  obtain ⟨zs, h1, h2⟩ := h.mem hm
  rw [h.det h1] at h2
  omega
theorem Path.nodup {x : Int} {ys : List Int} (h : Path l x ys) : (x :: ys).Nodup := by
  induction h with
  | stop _ => simp
  | step h p ih => exact List.nodup_cons.2 ⟨(Path.step h p).not_self, ih⟩
theorem Path.nonneg {x : Int} {ys : List Int} (h : Path l x ys) : ∀ y ∈ ys, 0 ≤ y := by
  induction h with
  | stop _ => intro y hy; cases hy
  | step h p ih =>
    intro y hy
    rcases List.mem_cons.1 hy with rfl | hy
    · exact h
    · exact ih y hy
theorem wayN_init : ∀ (n : Nat) (x : Int), ∀ y ∈ (x :: wayN l n x).take (wayN l n x).length, 0 ≤ onL l y
  | 0, x, y, hy => by simp [wayN] at hy
  | n + 1, x, y, hy => by
    unfold wayN at hy
    by_cases e : onL l x < 0
    · rw [if_pos e] at hy; simp at hy
    · rw [if_neg e, List.length_cons, List.take_succ_cons] at hy
      rcases List.mem_cons.1 hy with rfl | hy
      · omega
      · exact wayN_init n _ y hy
theorem Path.len {x : Int} {ys : List Int} (h : Path l x ys) : ys.length ≤ l.length := by
  have e := h.way (Nat.le_refl _)
  have h1 := wayN_init (l := l) ys.length x
  rw [e] at h1
  have h2 : ((x :: ys).take ys.length).Nodup := (List.take_sublist _ _).nodup h.nodup
  have h3 := pig _ (whos l) h2 (fun y hy => onL_mem (h1 y hy))
  rw [List.length_take] at h3
  unfold whos at h3
  simp only [List.length_cons, List.length_map] at h3
  omega
theorem wayN_len : ∀ (n : Nat) (x : Int), (wayN l n x).length ≤ n
  | 0, _ => by simp [wayN]
  | n + 1, x => by
    unfold wayN
    split
    · simp
    · have := wayN_len n (onL l x)
      simp only [List.length_cons]
      omega
theorem wayN_mono : ∀ {n m : Nat} {x y : Int}, n ≤ m → y ∈ wayN l n x → y ∈ wayN l m x
  | 0, _, _, _, _, h => by simp [wayN] at h
  | n + 1, 0, _, _, h, _ => by omega
  | n + 1, m + 1, x, y, hnm, h => by
    unfold wayN at h ⊢
    by_cases e : onL l x < 0
    · rw [if_pos e] at h; cases h
    · rw [if_neg e] at h ⊢
      rcases List.mem_cons.1 h with h | h
      · exact List.mem_cons.2 (.inl h)
      · exact List.mem_cons.2 (.inr (wayN_mono (by omega) h))
theorem wayN_nodup (hc : ∀ t ∈ l, t.2 ∉ wayJ l t.2) : ∀ (n : Nat), n ≤ l.length + 1 → ∀ x, ((x :: wayN l n x).take (wayN l n x).length).Nodup
  | 0, _, x => by simp [wayN]
  | n + 1, hn, x => by
    by_cases e : onL l x < 0
    · have : wayN l (n + 1) x = [] := by unfold wayN; rw [if_pos e]
      rw [this]; simp
    · have hw : wayN l (n + 1) x = onL l x :: wayN l n (onL l x) := by
        conv => lhs; unfold wayN
        rw [if_neg e]
      rw [hw, List.length_cons, List.take_succ_cons]
      refine List.nodup_cons.2 ⟨fun hm => ?_, wayN_nodup hc n (by omega) _⟩
      have h1 : x ∈ wayN l (n + 1) x := by rw [hw]; exact List.mem_of_mem_take hm
      obtain ⟨t, ht, e2⟩ := List.mem_map.1 (onL_mem (l := l) (x := x) (by omega))
      exact hc t ht (by rw [e2]; exact wayN_mono hn h1)
theorem ends_of (hc : ∀ t ∈ l, t.2 ∉ wayJ l t.2) (x : Int) : Path l x (wayJ l x) := by
  refine wayN_path ?_
  have h1 := pig _ (whos l) (wayN_nodup hc (l.length + 1) (Nat.le_refl _) x) (fun y hy => onL_mem (wayN_init _ _ y hy))
  rw [List.length_take] at h1
  unfold whos at h1
  simp only [List.length_cons, List.length_map] at h1
  omega
theorem noSelf_iff : (∀ t ∈ l, t.2 ∉ wayJ l t.2) ↔ ∀ x, Ends l x := by
  constructor
  · intro h x
    exact ⟨_, ends_of h x⟩
  · intro h t _
    obtain ⟨ys, p⟩ := h t.2
    unfold wayJ
    rw [p.way (by have := p.len; omega)]
    exact p.not_self
theorem okJ.path (h : okJ l) (x : Int) : Path l x (wayJ l x) := ends_of h.2.2.2 x
theorem Path.wayJ_eq {x : Int} {ys : List Int} (h : Path l x ys) : wayJ l x = ys := h.way (by have := h.len; omega)
theorem okJ.short (h : okJ l) (x : Int) : (wayJ l x).length ≤ 256 := Nat.le_trans (h.path x).len h.1
theorem wayJ_nil {x : Int} : wayJ l x = [] ↔ onL l x < 0 := by
  unfold wayJ wayN
  by_cases e : onL l x < 0
  · simp [e]
  · simp [e]
theorem wayJ_fit (hf : ∀ t ∈ l, FitI t) (x : Int) : ∀ y ∈ wayJ l x, Fit y := by
  have h : ∀ (n : Nat) (x : Int), ∀ y ∈ wayN l n x, Fit y := by
    intro n
    induction n with
    | zero => intro x y hy; simp [wayN] at hy
    | succ n ih =>
      intro x y hy
      unfold wayN at hy
      by_cases e : onL l x < 0
      · rw [if_pos e] at hy; cases hy
      · rw [if_neg e] at hy
        rcases List.mem_cons.1 hy with rfl | hy
        · exact (hf _ (onL_pair (l := l) (x := x) (by omega))).1
        · exact ih _ _ hy
  exact h _ x

/-- One comes from another one, on and on. -/
inductive Reach (l : List Tm) (y : Int) : Int → Prop
  | refl : Reach l y y
  | tail {x : Int} : Reach l y x → 0 ≤ onL l x → Reach l y (onL l x)
theorem Reach.path {y x : Int} (h : Reach l y x) {ys : List Int} (p : Path l y ys) : ∃ zs, Path l x zs ∧ zs.length ≤ ys.length := by
  induction h with
  | refl => exact ⟨_, p, Nat.le_refl _⟩
  | tail _ h ih =>
    obtain ⟨zs, q, hz⟩ := ih
    cases q with
    | stop h' => omega
    | step _ q' => exact ⟨_, q', by simp only [List.length_cons] at hz; omega⟩
theorem Reach.round {y x : Int} (h : Reach l y x) (h0 : 0 ≤ onL l x) (e : onL l x = y) : ¬ Ends l y := by
  rintro ⟨ys, p⟩
  obtain ⟨zs, q, hz⟩ := h.path p
  cases q with
  | stop h' => omega
  | step _ q' =>
    rw [e] at q'
    rw [p.det q'] at hz
    simp only [List.length_cons] at hz
    omega
theorem Ends.back {x : Int} (h0 : 0 ≤ onL l x) (h : Ends l (onL l x)) : Ends l x := by
  obtain ⟨ys, p⟩ := h
  exact ⟨_, .step h0 p⟩

/-- A function, at one place another one. -/
def updZ (p : Int → Int) (x v y : Int) : Int := if y = x then v else p y
theorem updZ_same (p : Int → Int) (x v : Int) : updZ p x v x = v := if_pos rfl
theorem updZ_ne (p : Int → Int) {x y : Int} (v : Int) (h : y ≠ x) : updZ p x v y = p y := if_neg h
/-- How many Ons nobody passed. -/
def freshN (l : List Tm) (p : Int → Int) : Nat := l.countP fun t => decide (p t.1 < 0)
theorem countP_lt {α : Type} {f g : α → Bool} : ∀ {l : List α}, (∀ t ∈ l, f t = true → g t = true) → (∃ t ∈ l, f t = false ∧ g t = true) → l.countP f < l.countP g
  | [], _, h => by obtain ⟨t, ht, _⟩ := h; cases ht
  | a :: l, hi, h => by
    rw [List.countP_cons, List.countP_cons]
    have hle : l.countP f ≤ l.countP g := List.countP_mono_left fun t ht hf => hi t (by simp [ht]) hf
    have ha := hi a (by simp)
    obtain ⟨t, ht, h1, h2⟩ := h
    rcases List.mem_cons.1 ht with rfl | ht
    · rw [h1, h2]
      simp
      omega
    · have := countP_lt (l := l) (fun t ht hf => hi t (by simp [ht]) hf) ⟨t, ht, h1, h2⟩
      cases hfa : f a
      · cases g a <;> simp <;> omega
      · rw [ha hfa]; simp; omega
theorem freshN_upd {p : Int → Int} {x who : Int} (h0 : 0 ≤ onL l x) (hp : p (onL l x) < 0) (hw : 0 ≤ who) : freshN l (updZ p (onL l x) who) < freshN l p := by
  refine countP_lt (fun t _ ht => ?_) ⟨_, onL_pair h0, ?_, ?_⟩
  · have ht := of_decide_eq_true ht
    by_cases e : t.1 = onL l x
    · rw [e, updZ_same] at ht; omega
    · rw [updZ_ne _ _ e] at ht; exact decide_eq_true ht
  · refine decide_eq_false ?_
    rw [updZ_same]; omega
  · exact decide_eq_true hp

/-- Ahead of a walk from who: who was passed has a way that ends, and not by who. -/
structure Bef (l : List Tm) (p : Int → Int) (who : Int) : Prop where
  ends : ∀ y, 0 ≤ p y → Ends l y
  other : ∀ y, 0 ≤ p y → p y ≠ who
/-- On a walk from who, that has come to x: q is what is passed now. -/
structure Wlk (l : List Tm) (p q : Int → Int) (who x : Int) : Prop where
  old : ∀ y, 0 ≤ q y → q y ≠ who → Ends l y
  mine : ∀ y, q y = who → Reach l y x
  ends : ∀ y, q y = who → Ends l x → Ends l y
  from_ : Ends l x → Ends l who
  val : ∀ y, 0 ≤ q y → q y = who ∨ q y = p y
theorem Wlk.start {p : Int → Int} {who : Int} (h : Bef l p who) (hw : 0 ≤ who) : Wlk l p p who who :=
  ⟨fun y h0 _ => h.ends y h0, fun y e => absurd e (h.other y (by omega)), fun y e => absurd e (h.other y (by omega)), fun h => h, fun y _ => .inr rfl⟩
theorem Wlk.met {p q : Int → Int} {who x : Int} (h : Wlk l p q who x) (h0 : 0 ≤ onL l x) (e : q (onL l x) = who) : ¬ Ends l (onL l x) := (h.mine _ e).round h0 rfl
theorem Wlk.all {p q : Int → Int} {who x : Int} (h : Wlk l p q who x) (hx : Ends l x) : Ends l who ∧ ∀ y, 0 ≤ q y → Ends l y := by
  refine ⟨h.from_ hx, fun y h0 => ?_⟩
  by_cases e : q y = who
  · exact h.ends y e hx
  · exact h.old y h0 e
theorem Wlk.step {p q : Int → Int} {who x : Int} (h : Wlk l p q who x) (h0 : 0 ≤ onL l x) : Wlk l p (updZ q (onL l x) who) who (onL l x) := by
  refine ⟨fun y hy hne => ?_, fun y e => ?_, fun y e he => ?_, fun he => h.from_ (he.back h0), fun y hy => ?_⟩
  · by_cases e : y = onL l x
    · rw [e, updZ_same] at hne; exact absurd rfl hne
    · rw [updZ_ne _ _ e] at hy hne; exact h.old y hy hne
  · by_cases e2 : y = onL l x
    · rw [e2]; exact .refl
    · rw [updZ_ne _ _ e2] at e; exact (h.mine y e).tail h0
  · by_cases e2 : y = onL l x
    · rw [e2]; exact he
    · rw [updZ_ne _ _ e2] at e; exact h.ends y e (he.back h0)
  · by_cases e2 : y = onL l x
    · rw [e2, updZ_same]; exact .inl rfl
    · rw [updZ_ne _ _ e2] at hy ⊢; exact h.val y hy
end

end Go.Proofs.Ytkffmohgnbnhkaa
