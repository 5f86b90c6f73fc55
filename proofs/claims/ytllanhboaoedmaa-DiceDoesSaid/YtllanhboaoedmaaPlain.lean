/-
  dice's calls with what they answer written out, for the walks of layer 3's laws.
-/
import Derived.Test.YtllanhboaoedmaaLOrder
namespace Go.Proofs.Ytllanhboaoedmaa
open Go.RowKit

/-- A value, dice of N octets, an error are handed back. -/
def TripN (k : Value) (bs : List Int) (N q : Nat) (w : World) (e : Ending) (w' : World) : Prop :=
  ∃ A c, e = .returned (.tuple #[k, .agg #[.slice A N c, .int .i64 (q : Int)], .int .i64 0]) ∧ Octs w' A N bs ∧ Below w.heap.size w w'

theorem TripD.plain {k k' : Value} {bs : List Int} {N : Nat} {q : Nat} {q' : Nat} {w w' : World} {e : Ending} (h : TripD k bs (q : Nat) 0 w e w') (hl : bs.length = N) (hk : k = k') (hq : q = q') : TripN k' bs N q' w e w' := by
  subst hk hq hl
  obtain ⟨A, c, rfl, h1, h2⟩ := h
  exact ⟨A, c, rfl, h1.octs, h2⟩

theorem below_end (A : Option Addr) (N c : Nat) (bs : List Int) (m : Int) (w : World) (ho : Octs w A N bs) (hm : 1 ≤ m) (hM : m ≤ 65536) :
    Calls Try.prog 10 #[.agg #[.slice A N c, .int .i64 (N : Int)], .int .i64 m] w (TripN (.int .i64 0) bs N N w) :=
  (below_ok A N c N bs m w ho (Nat.le_refl _) hm hM).mono fun _ _ h => h.plain ho.1 (by rw [draw_end (by rw [ho.1]; exact Nat.le_refl _), Int.zero_emod]) (by omega)

/-- An order, whatever it is, dice of N octets, no error are handed back. -/
def OrdE (bs : List Int) (N q : Nat) (w : World) (e : Ending) (w' : World) : Prop :=
  ∃ l A c B d n, e = .returned (.tuple #[.slice B n d, .agg #[.slice A N c, .int .i64 (q : Int)], .int .i64 0]) ∧ Ints w' B n l ∧ Octs w' A N bs ∧ Below w.heap.size w w'

theorem order_end (A : Option Addr) (N c : Nat) (bs : List Int) (n : Int) (w : World) (ho : Octs w A N bs) (hn : 0 ≤ n) (hM : n ≤ 256) :
    Calls Try.prog 12 #[.agg #[.slice A N c, .int .i64 (N : Int)], .int .i64 n] w (OrdE bs N N w) := by
  obtain ⟨n, rfl⟩ := Int.eq_ofNat_of_zero_le hn
  refine (order_N A N c N n bs w ho (Nat.le_refl _) (by omega)).mono ?_
  rintro e w' ⟨A1, c1, B1, d1, rfl, h1, h2, h3⟩
  exact ⟨_, A1, c1, B1, d1, n, by rw [show min (N + 2 * (n - 1)) N = N by omega], h1, h2, h3⟩

theorem heavy_end (A B : Option Addr) (N c m d : Nat) (bs ws : List Int) (w : World) (ho : Octs w A N bs) (hw : Ints w B m ws) (hE : weightE ws = 0) :
    Calls Try.prog 14 #[.agg #[.slice A N c, .int .i64 (N : Int)], .slice B m d] w (TripN (.int .i64 (pick ws 0)) bs N N w) :=
  (heavy_ok A B N c N m d bs ws w ho (Nat.le_refl _) hw hE).mono fun _ _ h => h.plain ho.1 (by rw [draw_end (by rw [ho.1]; exact Nat.le_refl _), Int.zero_emod]) (by omega)

theorem same_yes (A B : Option Addr) (n c d : Nat) (p : Int) (bs : List Int) (w : World) (hx : Octs w A n bs) (hy : Octs w B n bs) :
    Calls Try.prog 20 #[.agg #[.slice A n c, .int .i64 p], .agg #[.slice B n d, .int .i64 p]] w (RetB (.bool true) w) := by
  have := same_any A B n n c d p p bs bs w hx hy
  rwa [dsame_refl] at this

theorem sameInts_yes (A B : Option Addr) (n c d : Nat) (xs : List Int) (w : World) (hx : Ints w A n xs) (hy : Ints w B n xs) :
    Calls Try.prog 17 #[.slice A n c, .slice B n d] w (RetB (.bool true) w) := by
  have := sameInts_any A B n c n d xs xs w hx hy
  rwa [sameB_refl] at this

end Go.Proofs.Ytllanhboaoedmaa
