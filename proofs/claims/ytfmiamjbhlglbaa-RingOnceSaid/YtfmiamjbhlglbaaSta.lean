/-
  What the law RingOnce of layer 7 lets somebody do (its step): the state of an owner and others at a deque, as it lies.
-/
import Derived.Test.YtfmiamjbhlglbaaHd
import Derived.Test.YtfmiamjbhlglbaaCm
import Derived.Test.YtfmiamjbhlglbaaSm
namespace Go.Proofs.Ytfmiamjbhlglbaa
open Go.RowKit Go.Maps

/-- append(nil, hands...), at the operation. -/
theorem wpList_copyH (w : World) {ops : Array Oper} {rest : List Oper} {o : Oper} {a : Act} {Q : Exit → Act → World → Prop} (hgd : o.guard = none) (s x : Operand)
    (ho : o.op = .call { callee := .builtin .append, args := #[s, x], argTypes := #[46, 46] }) (hty : o.type = 46) (base g c n : Nat) (hs : List Hd) (hn : n = hs.length)
    (hse : a.eval s = .slice none 0 0) (hx : a.eval x = .slice (some ⟨g, 0, none⟩) n c) (hown : OwnH w base (some ⟨g, 0, none⟩) hs) (h0 : 0 < hs.length) (hl : hs.length ≤ 1000)
    (h : ∀ A' c' w', OwnH w' w.heap.size A' hs → Below w.heap.size w w' → wpList Try.prog ops Q rest (a.put o.dst (.slice A' n c')) w') :
    wpList Try.prog ops Q (o :: rest) a w := by
  subst hn
  refine wpList_plain hgd fun K hK => ?_
  obtain ⟨A', c', w', hr, h2, h3⟩ := run_copyH w base g c hs hown h0 hl
  rw [← hty] at hr
  unfold Oper.wp execOp
  simp only [ho, resolve, invoke, builtin, Sem.run_bind, Sem.run_pure, Result.andThen_ok, List.map_toArray, List.map_cons, List.map_nil, hse, hx]
  rw [← hty, hr]
  exact hK _ _ (h A' c' w' h2 h3)

/-- The state of a race. -/
def raceC (M : Value) (cap : Nat) (H : Value) (b : Nat) (nx left : Nat) : Array Value := #[M, .int .i64 0, .int .i64 cap, H, .map (some b), .int .i64 nx, .int .i64 left, .bool false]
/-- .. as it lies. -/
structure RcI (w : World) (mA : Option Addr) (ms : List Int) (gh : Nat) (hs : List Hd) (b n : Nat) (G : Int → Nat) : Prop where
  m : Ints w mA ms.length ms
  h : OwnH w 0 (some ⟨gh, 0, none⟩) hs
  g : CMap w b n G
theorem RcI.below {w w' : World} {mA : Option Addr} {ms : List Int} {gh : Nat} {hs : List Hd} {b n : Nat} {G : Int → Nat} (r : RcI w mA ms gh hs b n G) (hb : Below w.heap.size w w') : RcI w' mA ms gh hs b n G := ⟨r.m.below hb, r.h.below hb, r.g.below hb⟩

/-- What a step leaves: a state, and the map turned in place. -/
def StpOf (cap b n : Nat) (w : World) (ms : List Int) (hs : List Hd) (G : Int → Nat) (nx left : Nat) (e : Ending) (w' : World) : Prop :=
  ∃ mA mc gh hcp, e = .returned (.agg (raceC (.slice mA ms.length mc) cap (.slice (some ⟨gh, 0, none⟩) hs.length hcp) b nx left)) ∧ RcI w' mA ms gh hs b n G ∧ w.grownBy w' (some b)

theorem CMap.ne_bk {w : World} {b n : Nat} {G : Int → Nat} (h : CMap w b n G) {g : Nat} {t : TypeId} {cs : Array Value} (hk : Bk w g t cs) : g ≠ b := by
  rintro rfl
  obtain ⟨D, ks, h⟩ := h
  obtain ⟨es, clock, hb, _⟩ := h.own
  have h2 : w.heap[g]? = _ := hk
  rw [hb] at h2
  cases h2

theorem OwnI.ne_map {E : TypeId} {w : World} {B : Nat} {A : Option Addr} {c : Nat} {zs : List Int} (h : OwnI E w B A c zs) {b n : Nat} {G : Int → Nat} (hg : CMap w b n G) : ∀ a, A = some a → a.block ≠ b := by
  rintro a rfl e
  obtain ⟨D, ks, hD⟩ := hg
  obtain ⟨es, clock, hb, _⟩ := hD.own
  rcases h.2.2.2 with ⟨e1, -⟩ | ⟨g, cap, cur, e1, -, hh, -⟩
  · cases e1
  · injection e1 with e1 _ _
    injection e1 with e1
    subst e1
    subst e
    simp only at hb
    rw [hb] at hh
    cases hh

def zrR : Array Value := #[.slice none 0 0, .int .i64 0, .int .i64 0, .slice none 0 0, .map none, .int .i64 0, .int .i64 0, .bool false]

end Go.Proofs.Ytfmiamjbhlglbaa
