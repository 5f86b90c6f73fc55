/-
  What the document's Read has read so far, and rows of programs each of which lies in memory of the call's own: plain mathematics, and words over no program.
-/
import Derived.Test.YtcbgmhbmdklbfaaWMath
namespace Go.Proofs.Ytcbgmhbmdklbfaa
open Go.RowKit

/-- Behind i programs: where it stands, and what they were. -/
def RInv (bs : List Int) (i at_ : Nat) : Prop := at_ ≤ bs.length ∧ bs.drop at_ = restOf (bs.drop 1) i ∧ bs.take at_ = hdV bs :: (progsOf (bs.drop 1) i).flatMap txtP

theorem rinv_zero {bs : List Int} (h : 0 < bs.length) : RInv bs 0 1 := by
  refine ⟨h, rfl, ?_⟩
  match bs with
  | z :: bs => simp [hdV, progsOf, nth]

theorem rinv_step {bs : List Int} (ho : ∀ z ∈ bs, Oct z) {i a v : Nat} (h : RInv bs i a) (hv : nth bs a = (v : Int)) (ha : a < bs.length) (hl : a + 1 + 4 * v ≤ bs.length) :
    RInv bs (i + 1) (a + 1 + 4 * v) ∧ progsOf (bs.drop 1) (i + 1) = progsOf (bs.drop 1) i ++ [insAt bs (a + 1) v] := by
  obtain ⟨h1, h2, h3⟩ := h
  have hhd : hdV (bs.drop a) = (v : Int) := by unfold hdV; rw [nth_drop]; exact hv
  have hend : endOf (bs.drop a) = 4 * v := by unfold endOf; rw [hhd, List.length_drop]; omega
  have hfst : firstP (bs.drop a) = insAt bs (a + 1) v := by
    unfold firstP insOf
    rw [hend, List.drop_drop, List.length_take, List.length_drop, show min (4 * v) (bs.length - (a + 1)) / 4 = v by omega, insAt_take (by omega), insAt_shift]
  have hp : progsOf (bs.drop 1) (i + 1) = progsOf (bs.drop 1) i ++ [insAt bs (a + 1) v] := by rw [progsOf_succ, ← h2, hfst]
  refine ⟨⟨hl, ?_, ?_⟩, hp⟩
  · rw [restOf, ← h2]
    unfold stepR
    rw [hend, List.drop_drop, List.drop_drop, Nat.add_assoc]
  · rw [hp, List.flatMap_append, ← List.cons_append, ← h3]
    have e1 : bs.take (a + 1 + 4 * v) = bs.take a ++ (bs.drop a).take (1 + 4 * v) := by rw [← List.take_add, Nat.add_assoc]
    rw [e1]
    congr 1
    rw [List.drop_eq_getElem_cons ha, Nat.add_comm 1, List.take_succ_cons]
    simp only [List.flatMap_cons, List.flatMap_nil, List.append_nil, txtP, insAt_len]
    rw [insAt_txt ho (a + 1) (by omega), ← hv, nth_get ha]

theorem text_parts {bs : List Int} {l : List (List I3)} (e : txtL l = bs) : bs.drop 1 = l.flatMap txtP ∧ hdV bs = (l.length : Int) := by subst e; exact ⟨rfl, rfl⟩

theorem rinv_fail {bs : List Int} {i a : Nat} (h : RInv bs i a) (hi : i < (hdV bs).toNat) (hf : bs.length ≤ a ∨ bs.length < a + 1 + 4 * (nth bs a).toNat) : readA bs = none := by
  refine readA_no fun l hok e => ?_
  obtain ⟨e1, e2⟩ := text_parts e
  have hil : i < l.length := by rw [e2] at hi; simpa using hi
  have hr := h.2.1
  rw [e1, rest_txt (okL_mem hok) i (by omega), List.drop_eq_getElem_cons hil, List.flatMap_cons] at hr
  have hlen := congrArg List.length hr
  rw [List.length_drop, List.length_append, txtP_len] at hlen
  have hv : nth bs a = (l[i].length : Int) := by
    have := congrArg (fun x => nth x 0) hr
    simp only [nth_drop] at this
    exact this
  rw [hv] at hf
  have := h.1
  omega

theorem rinv_end {bs : List Int} {a : Nat} (h : RInv bs (hdV bs).toNat a) (ha : a ≠ bs.length) : readA bs = none := by
  refine readA_no fun l hok e => ?_
  obtain ⟨e1, e2⟩ := text_parts e
  have hr := h.2.1
  rw [e2, Int.toNat_natCast, e1, rest_txt (okL_mem hok) _ (Nat.le_refl _), List.drop_length] at hr
  have hlen := congrArg List.length hr
  rw [List.length_drop] at hlen
  have := h.1
  simp at hlen
  omega

theorem rinv_bad {bs : List Int} (h : ¬ okL (progsOf (bs.drop 1) (hdV bs).toNat)) : readA bs = none := by
  refine readA_no fun l hok e => h ?_
  have := parse_txt hok
  rw [e] at this
  unfold parse at this
  rw [this]
  exact hok

theorem rinv_good {bs : List Int} (ho : ∀ z ∈ bs, Oct z) (h : RInv bs (hdV bs).toNat bs.length) (hok : okL (progsOf (bs.drop 1) (hdV bs).toNat)) : readA bs = some (progsOf (bs.drop 1) (hdV bs).toNat) := by
  refine readA_yes hok ?_
  have h3 := h.2.2
  rw [List.take_length] at h3
  unfold txtL
  rw [progsOf_len]
  have := nth_oct ho 0
  unfold Oct at this
  have e : (((hdV bs).toNat : Nat) : Int) = hdV bs := by unfold hdV; omega
  rw [e]
  exact h3.symm

/-! ### Rows of programs, each in memory of the call's own -/

def OwnT (E F : TypeId) (w : World) (base : Nat) (A : Option Addr) (c : Nat) (hs : List Hd) (l : List (List I3)) : Prop :=
  hs.length = l.length ∧ (∀ j, j < l.length → (hth hs j).2.1 = (pth l j).length ∧ OwnP F w base (hth hs j).1 (hth hs j).2.2 (pth l j)) ∧ w.ownsRow base E 1 (.slice A l.length c) l.length (hs.map hv)

theorem OwnT.prgs {E F : TypeId} {w : World} {base : Nat} {A : Option Addr} {c : Nat} {hs : List Hd} {l : List (List I3)} (h : OwnT E F w base A c hs l) (hl : l.length * 24 ≤ 140737488351232) : Prgs w A l.length l :=
  OwnS.prgs (E := E) (base := base) (c := c) ⟨hl, hs, ⟨h.1, fun j hj => by
    obtain ⟨h1, h2⟩ := h.2.1 j hj
    rw [h1]
    exact h2.prog⟩, h.2.2⟩

theorem OwnT.nil_ (E F : TypeId) (w : World) (base : Nat) : OwnT E F w base none 0 [] [] := ⟨rfl, fun j hj => by simp at hj, World.ownsRow_nil w base E 1⟩

theorem OwnT.below {E F : TypeId} {w w' : World} {base : Nat} {A : Option Addr} {c : Nat} {hs : List Hd} {l : List (List I3)} (h : OwnT E F w base A c hs l) (hb : Below w.heap.size w w') : OwnT E F w' base A c hs l :=
  ⟨h.1, fun j hj => ⟨(h.2.1 j hj).1, (h.2.1 j hj).2.below hb⟩, h.2.2.kept (row := none) ⟨hb.os, hb.tape, hb.output, hb.size, fun k hk _ => hb.block k hk⟩ (by cases (Value.slice A l.length c).ownBlock <;> simp)⟩

theorem own_type {w : World} {base : Nat} {E : TypeId} {sz n : Nat} {v : Value} {xs : List Value} (h : w.ownsRow base E sz v n xs) {g : Nat} (hg : v.ownBlock = some g) : ∃ cur, w.heap[g]? = some (.cells cur E (0, 0)) := by
  rcases h.2 with ⟨rfl, _⟩ | ⟨g', cap, cur, rfl, _, hh, _⟩
  · simp [Value.ownBlock] at hg
  · have : g' = g := by simpa [Value.ownBlock] using hg
    subst this
    exact ⟨cur, hh⟩

/-- A program stays where a row of another type has grown. -/
theorem OwnP.other {E F : TypeId} (hne : E ≠ F) {w w' : World} {base base' : Nat} {A : Option Addr} {c : Nat} {p : List I3} (h : OwnP F w base A c p) {sz n : Nat} {v : Value} {xs : List Value} (hrow : w.ownsRow base' E sz v n xs) (hg : w.grownBy w' v.ownBlock) : OwnP F w' base A c p := by
  refine ⟨h.1, h.2.1, h.2.2.kept hg ?_⟩
  cases hv : (Value.slice A p.length c).ownBlock with
  | none => exact .inl rfl
  | some k =>
    refine .inr fun e => ?_
    obtain ⟨c1, h1⟩ := own_type h.2.2 hv
    obtain ⟨c2, h2⟩ := own_type hrow e.symm
    rw [h1] at h2
    simp at h2
    exact hne h2.2.symm

/-- One more is put behind. -/
theorem OwnT.push {E F : TypeId} (hne : E ≠ F) {w w1 w2 : World} {base : Nat} {A A' : Option Addr} {c c' : Nat} {hs : List Hd} {l : List (List I3)} (h : OwnT E F w base A c hs l) (hb : Below w.heap.size w w1) {x : Hd} {p : List I3} (hx : x.2.1 = p.length) (hp : OwnP F w1 base x.1 x.2.2 p)
    (hg : w1.grownBy w2 (Value.slice A l.length c).ownBlock) (hown : w2.ownsRow base E 1 (.slice A' (l.length + 1) c') (l.length + 1) (hs.map hv ++ [hv x])) : OwnT E F w2 base A' c' (hs ++ [x]) (l ++ [p]) := by
  have h1 := h.below hb
  refine ⟨by simp [h.1], fun j hj => ?_, by simpa using hown⟩
  have hj' : j < l.length + 1 := by simpa using hj
  rcases Nat.lt_or_ge j l.length with hlt | hge
  · have e1 : hth (hs ++ [x]) j = hth hs j := by rw [hth_get (by simp [h.1]; omega), hth_get (by rw [h.1]; exact hlt), List.getElem_append_left]
    have e2 : pth (l ++ [p]) j = pth l j := by rw [pth_get (by simp; omega), pth_get hlt, List.getElem_append_left]
    rw [e1, e2]
    exact ⟨(h1.2.1 j hlt).1, (h1.2.1 j hlt).2.other hne h1.2.2 hg⟩
  · obtain rfl : j = l.length := by omega
    have e1 : hth (hs ++ [x]) l.length = x := by rw [← h.1]; simp [hth, List.getD]
    have e2 : pth (l ++ [p]) l.length = p := by simp [pth, List.getD]
    rw [e1, e2]
    exact ⟨hx, hp.other hne h1.2.2 hg⟩

theorem OwnT.block {E F : TypeId} {w : World} {base : Nat} {A : Option Addr} {c : Nat} {hs : List Hd} {l : List (List I3)} (h : OwnT E F w base A c hs l) {n d : Nat} : ∀ k, (Value.slice A n d).ownBlock = some k → base ≤ k := by
  intro k hk
  refine (h.2.2.lt k ?_).1
  cases A with
  | none => simp [Value.ownBlock] at hk
  | some ad => simpa [Value.ownBlock] using hk

end Go.Proofs.Ytcbgmhbmdklbfaa
