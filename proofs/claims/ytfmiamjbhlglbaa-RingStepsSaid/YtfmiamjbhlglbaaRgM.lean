/-
  An access of a hand at a deque (the document's layer 7), as a function on lists, and what stays true of a deque's owner and others at whatever order of accesses: plain mathematics, over no program.
-/
import Derived.Test.YtfmiamjbhlglbaaBase
namespace Go.Proofs.Ytfmiamjbhlglbaa

/-- A hand: its kind, the access that comes next, its number, top and bottom, whether it has won, how far it is. -/
structure Hd where
  kind : Int
  pc : Int
  v : Int
  t : Int
  b : Int
  won : Bool
  state : Int

/-- Is a number from another one on to the greatest count? -/
def cntOk (n least : Int) : Prop := least ≤ n ∧ n ≤ 1099511627776
instance (n least : Int) : Decidable (cntOk n least) := by unfold cntOk; exact inferInstance
/-- A number's slot. -/
def slI (base cap : Nat) (n : Int) : Nat := base + 2 + (n.tmod (cap : Int)).toNat
/-- What is in the slot of number n. -/
def slV (ms : List Int) (base cap n : Nat) : Int := nth ms (base + 2 + n % cap)
theorem slI_nat (base cap n : Nat) : slI base cap (n : Int) = base + 2 + n % cap := by
  unfold slI
  rw [Int.tmod_eq_emod_of_nonneg (by omega)]
  congr 1

/-- An access of a hand that is going, by its kind and its place; none: it may not be. -/
def pushF (ms : List Int) (base cap : Nat) (h : Hd) : Option (List Int × Hd) :=
  if h.pc = 0 then (if cntOk (nth ms base) 0 then some (ms, { h with t := nth ms base, pc := 1 }) else none)
  else if h.pc = 1 then (if cntOk (nth ms (base + 1)) 0 then (if (cap : Int) ≤ nth ms (base + 1) - h.t then some (ms, { h with b := nth ms (base + 1), state := 3 }) else some (ms, { h with b := nth ms (base + 1), pc := 2 })) else none)
  else if h.b < 0 then none
  else if h.pc = 2 then some (ms.set (slI base cap h.b) h.v, { h with pc := 3 })
  else some (ms.set (base + 1) (h.b + 1), { h with state := 1 })
def popF (ms : List Int) (base cap : Nat) (h : Hd) : Option (List Int × Hd) :=
  if h.pc = 0 then (if cntOk (nth ms (base + 1)) 0 then some (ms, { h with b := nth ms (base + 1), pc := 1 }) else none)
  else if h.pc = 1 then (if -1 ≤ h.b - 1 then some (ms.set (base + 1) (h.b - 1), { h with b := h.b - 1, pc := 2 }) else none)
  else if h.pc = 2 then (if cntOk (nth ms base) 0 then (if h.b < nth ms base then some (ms, { h with t := nth ms base, pc := 3 }) else some (ms, { h with t := nth ms base, pc := 4 })) else none)
  else if h.pc = 4 then (if h.b < 0 then none else if h.t < h.b then some (ms, { h with v := nth ms (slI base cap h.b), state := 1 }) else some (ms, { h with v := nth ms (slI base cap h.b), pc := 5 }))
  else if h.t < 0 then none
  else if h.pc = 3 then some (ms.set (base + 1) h.t, { h with state := 2 })
  else if h.pc = 5 then (if nth ms base = h.t then some (ms.set base (h.t + 1), { h with won := true, pc := 6 }) else some (ms, { h with won := false, pc := 6 }))
  else some (ms.set (base + 1) (h.t + 1), { h with state := if h.won then 1 else 2 })
def stealF (ms : List Int) (base cap : Nat) (h : Hd) : Option (List Int × Hd) :=
  if h.pc = 0 then (if cntOk (nth ms base) 0 then some (ms, { h with t := nth ms base, pc := 1 }) else none)
  else if h.pc = 1 then (if cntOk (nth ms (base + 1)) (-1) then (if nth ms (base + 1) - h.t < 1 then some (ms, { h with b := nth ms (base + 1), state := 2 }) else some (ms, { h with b := nth ms (base + 1), pc := 2 })) else none)
  else if h.t < 0 then none
  else if h.pc = 2 then some (ms, { h with v := nth ms (slI base cap h.t), pc := 3 })
  else if nth ms base = h.t then some (ms.set base (h.t + 1), { h with state := 1 })
  else some (ms, { h with state := 4 })
def accF (ms : List Int) (base cap : Nat) (h : Hd) : Option (List Int × Hd) :=
  if h.kind = 1 then pushF ms base cap h else if h.kind = 2 then popF ms base cap h else stealF ms base cap h

/-! ### What stays true -/
/-- How the owner stands to the deque: top tp, bottom lb (what its pop has not given back yet counts). -/
inductive OwI (ms : List Int) (base cap tp lb : Nat) (o : Hd) : Prop
  | idle (h : o.kind = 0 ∨ o.state ≠ 0) (hb : nth ms (base + 1) = (lb : Int))
  | push0 (hk : o.kind = 1) (hs : o.state = 0) (hp : o.pc = 0) (hb : nth ms (base + 1) = (lb : Int))
  | push1 (hk : o.kind = 1) (hs : o.state = 0) (hp : o.pc = 1) (hb : nth ms (base + 1) = (lb : Int)) (h0 : 0 ≤ o.t) (ht : o.t ≤ tp)
  | push2 (hk : o.kind = 1) (hs : o.state = 0) (hp : o.pc = 2) (hb : nth ms (base + 1) = (lb : Int)) (h0 : 0 ≤ o.t) (ht : o.t ≤ tp) (hB : o.b = lb) (hc : (lb : Int) - o.t < cap)
  | push3 (hk : o.kind = 1) (hs : o.state = 0) (hp : o.pc = 3) (hb : nth ms (base + 1) = (lb : Int)) (h0 : 0 ≤ o.t) (ht : o.t ≤ tp) (hB : o.b = lb) (hc : (lb : Int) - o.t < cap) (hv : slV ms base cap lb = o.v)
  | pop0 (hk : o.kind = 2) (hs : o.state = 0) (hp : o.pc = 0) (hb : nth ms (base + 1) = (lb : Int))
  | pop1 (hk : o.kind = 2) (hs : o.state = 0) (hp : o.pc = 1) (hb : nth ms (base + 1) = (lb : Int)) (hB : o.b = lb)
  | pop2 (hk : o.kind = 2) (hs : o.state = 0) (hp : o.pc = 2) (hb : nth ms (base + 1) = (lb : Int) - 1) (hB : o.b = (lb : Int) - 1)
  | pop3 (hk : o.kind = 2) (hs : o.state = 0) (hp : o.pc = 3) (hb : nth ms (base + 1) = (lb : Int) - 1) (hB : o.b = (lb : Int) - 1) (hT : o.t = lb) (he : tp = lb)
  | pop4 (hk : o.kind = 2) (hs : o.state = 0) (hp : o.pc = 4) (hb : nth ms (base + 1) = (lb : Int) - 1) (hB : o.b = (lb : Int) - 1) (h0 : 0 ≤ o.t) (ht : o.t ≤ tp) (hl : o.t ≤ (lb : Int) - 1) (hsafe : o.t < (lb : Int) - 1 → tp + 1 ≤ lb)
  | pop5 (hk : o.kind = 2) (hs : o.state = 0) (hp : o.pc = 5) (hb : nth ms (base + 1) = (lb : Int) - 1) (hB : o.b = (lb : Int) - 1) (hT : o.t = (lb : Int) - 1) (ht : o.t ≤ tp) (h1 : 1 ≤ lb) (hv : o.v = slV ms base cap (lb - 1))
  | pop6 (hk : o.kind = 2) (hs : o.state = 0) (hp : o.pc = 6) (hb : nth ms (base + 1) = (lb : Int) - 1) (hT : o.t = (lb : Int) - 1) (h1 : 1 ≤ lb) (he : tp = lb)
/-- Does the owner take the last number without a fight? -/
def Takes (o : Hd) (lb : Nat) : Prop := o.kind = 2 ∧ o.state = 0 ∧ o.pc = 4 ∧ o.t < (lb : Int) - 1
/-- How another one stands to it. -/
inductive ThI (ms : List Int) (base cap tp lb : Nat) (o : Hd) (h : Hd) : Prop
  | idle (h0 : h.kind = 0 ∨ h.state ≠ 0)
  | steal0 (hk : h.kind = 3) (hs : h.state = 0) (hp : h.pc = 0)
  | steal1 (hk : h.kind = 3) (hs : h.state = 0) (hp : h.pc = 1) (h0 : 0 ≤ h.t) (ht : h.t ≤ tp)
  | steal2 (hk : h.kind = 3) (hs : h.state = 0) (hp : h.pc = 2) (h0 : 0 ≤ h.t) (ht : h.t ≤ tp) (hl : h.t = tp → tp < lb) (hl2 : h.t = tp → Takes o lb → tp + 1 < lb)
  | steal3 (hk : h.kind = 3) (hs : h.state = 0) (hp : h.pc = 3) (h0 : 0 ≤ h.t) (ht : h.t ≤ tp) (hl : h.t = tp → tp < lb) (hl2 : h.t = tp → Takes o lb → tp + 1 < lb) (hv : h.t = tp → h.v = slV ms base cap tp)

/-- The cells of a deque: its top, its slots. -/
structure RgI (ms : List Int) (base cap tp lb : Nat) : Prop where
  c1 : 1 ≤ cap
  len : base + 2 + cap ≤ ms.length
  top : nth ms base = (tp : Int)
  le : tp ≤ lb
  room : lb ≤ tp + cap

/-- Is the owner on its way to put a number behind? Has it won one, and not gone on yet? -/
def Puts (o : Hd) : Prop := o.kind = 1 ∧ o.state = 0
def Won (o : Hd) : Prop := o.kind = 2 ∧ o.state = 0 ∧ o.pc = 6 ∧ o.won = true
/-- What became of each number that was pushed: it was taken, is there, or is on its way. -/
structure VaI (ms : List Int) (base cap tp lb : Nat) (o : Hd) (G : Int → Nat) (nx : Nat) : Prop where
  inc : ∀ n m, tp ≤ n → n < m → m < lb → slV ms base cap n < slV ms base cap m
  rng : ∀ n, tp ≤ n → n < lb → 1 ≤ slV ms base cap n ∧ slV ms base cap n ≤ nx ∧ G (slV ms base cap n) = 0
  puts : Puts o → o.v = nx ∧ 1 ≤ nx ∧ G nx = 0 ∧ (∀ n, tp ≤ n → n < lb → slV ms base cap n < nx) ∧ lb + 1 ≤ nx
  wins : Won o → 1 ≤ o.v ∧ o.v ≤ nx ∧ G o.v = 0
  all : ∀ v : Int, 1 ≤ v → v ≤ nx → G v = 1 ∨ (∃ n, tp ≤ n ∧ n < lb ∧ slV ms base cap n = v) ∨ (Puts o ∧ v = nx) ∨ (Won o ∧ v = o.v)
  one : ∀ v, G v ≤ 1
  out : ∀ v, G v ≠ 0 → 1 ≤ v ∧ v ≤ nx
  lbn : lb ≤ nx

theorem nth_setR (zs : List Int) (k j : Nat) (x : Int) (h : j < zs.length) : nth (zs.set k x) j = if k = j then x else nth zs j := by
  simp only [nth, List.getD, List.getElem?_set]
  by_cases e : k = j
  · subst e; simp [h]
  · simp [e]

section
variable {ms : List Int} {base cap tp lb : Nat} {o h : Hd} {G : Int → Nat} {nx : Nat}
theorem RgI.slot_lt (r : RgI ms base cap tp lb) (n : Nat) : base + 2 + n % cap < ms.length := by
  have := Nat.mod_lt n r.c1
  have := r.len
  omega
/-- The top turns. -/
theorem slV_top (r : RgI ms base cap tp lb) (x : Int) (n : Nat) : slV (ms.set base x) base cap n = slV ms base cap n := by
  unfold slV
  rw [nth_setR _ _ _ _ (r.slot_lt n), if_neg (by omega)]
theorem slV_bot (r : RgI ms base cap tp lb) (x : Int) (n : Nat) : slV (ms.set (base + 1) x) base cap n = slV ms base cap n := by
  unfold slV
  rw [nth_setR _ _ _ _ (r.slot_lt n), if_neg (by omega)]
theorem bot_top (r : RgI ms base cap tp lb) (x : Int) : nth (ms.set base x) (base + 1) = nth ms (base + 1) := by
  rw [nth_setR _ _ _ _ (by have := r.len; omega), if_neg (by omega)]
theorem top_bot (r : RgI ms base cap tp lb) (x : Int) : nth (ms.set (base + 1) x) base = nth ms base := by
  rw [nth_setR _ _ _ _ (by have := r.len; omega), if_neg (by omega)]
theorem top_top (r : RgI ms base cap tp lb) (x : Int) : nth (ms.set base x) base = x := by
  rw [nth_setR _ _ _ _ (by have := r.len; omega), if_pos rfl]
theorem bot_bot (r : RgI ms base cap tp lb) (x : Int) : nth (ms.set (base + 1) x) (base + 1) = x := by
  rw [nth_setR _ _ _ _ (by have := r.len; have := r.c1; omega), if_pos rfl]
/-- Another slot. -/
theorem mod_ne {c n m : Nat} (h1 : n < m) (h2 : m < n + c) : n % c ≠ m % c := by
  intro e
  have hc : 0 < c := by omega
  have h3 : (m - n) % c = 0 := by
    have a := Nat.div_add_mod n c
    have b := Nat.div_add_mod m c
    have : m - n = c * (m / c) - c * (n / c) := by omega
    rw [this, ← Nat.mul_sub, Nat.mul_mod_right]
  rw [Nat.mod_eq_of_lt (by omega)] at h3
  omega
end

end Go.Proofs.Ytfmiamjbhlglbaa
