/-
  dice's calls and the document's answer in one: at whatever arguments both answer the same.
-/
import Derived.Test.YtljfinfjchkphaaDcRefD
namespace Go.Proofs.Ytljfinfjchkphaa
open Go.RowKit

/-- A number, dice, an error are handed back, the dice's octets in memory of the call's own. -/
def TripX (k : Int) (rs : List Int) (N : Nat) (q err : Int) (w : World) (e : Ending) (w' : World) : Prop :=
  ∃ A c, e = .returned (.tuple #[.int .i64 k, .agg #[.slice A N c, .int .i64 q], .int .i64 err]) ∧ OwnO 5 w' w.heap.size A c rs ∧ Below w.heap.size w w'

theorem TripD.x {k : Int} {rs : List Int} {N : Nat} {q err : Int} {w w' : World} {e : Ending} (h : TripD (.int .i64 k) rs q err w e w') (hN : rs.length = N) : TripX k rs N q err w e w' := by
  subst hN
  exact h

/-- An order, dice, an error are handed back. -/
def OrdX (l : List Int) (n : Nat) (rs : List Int) (N : Nat) (q err : Int) (w : World) (e : Ending) (w' : World) : Prop :=
  ∃ A c B d, e = .returned (.tuple #[.slice B n d, .agg #[.slice A N c, .int .i64 q], .int .i64 err]) ∧ Ints w' B n l ∧ Octs w' A N rs ∧ Below w.heap.size w w'

theorem OrdD.x {l rs : List Int} {n N : Nat} {q err : Int} {w w' : World} {e : Ending} (h : OrdD l rs q err w e w') (hl : l.length = n) (hN : rs.length = N) : OrdX l n rs N q err w e w' := by
  subst hl hN
  obtain ⟨A, c, B, d, h1, h2, h3, h4⟩ := h
  exact ⟨A, c, B, d, h1, h2.ints, h3.octs, h4⟩

theorem order_both (A : Option Addr) (N c : Nat) (p m : Int) (bs : List Int) (hN : N ≤ 1000) : ∃ (l : List Int) (n : Nat) (rs : List Int) (N' : Nat) (q err : Int), ∀ w, Octs w A N bs →
    Calls Try.prog 21 #[.agg #[.slice A N c, .int .i64 p], .int .i64 m] w (OrdX l n rs N' q err w) ∧
    Calls Try.prog 25 #[.agg #[.slice A N c, .int .i64 p], .int .i64 m] w (OrdX l n rs N' q err w) := by
  by_cases h : 0 ≤ p ∧ p ≤ N ∧ 0 ≤ m ∧ m ≤ 256
  · obtain ⟨h0, h1, h2, h3⟩ := h
    obtain ⟨p, rfl⟩ := Int.eq_ofNat_of_zero_le h0
    obtain ⟨m, rfl⟩ := Int.eq_ofNat_of_zero_le h2
    exact ⟨_, _, bs, _, _, 0, fun w ho => ⟨(order_ok A N c p m bs w ho (by omega) (by omega)).mono fun _ _ h => h.x rfl rfl, (rorder_ok A N c p m bs w ho hN (by omega) (by omega)).mono fun _ _ h => h.x rfl rfl⟩⟩
  · exact ⟨[], 0, [], 0, 0, 1, fun w _ => ⟨(order_no A N c p m w (by omega) h).mono fun _ _ h => h.x rfl rfl, (rorder_no A N c p m w (by omega) h).mono fun _ _ h => h.x rfl rfl⟩⟩

theorem heavy_both (A B : Option Addr) (N c m d : Nat) (p : Int) (bs ws : List Int) (hN : N ≤ 1000) : ∃ (k : Int) (rs : List Int) (N' : Nat) (q err : Int), rs.length = N' ∧ ∀ w, Octs w A N bs → Ints w B m ws →
    Calls Try.prog 31 #[.agg #[.slice A N c, .int .i64 p], .slice B m d] w (TripX k rs N' q err w) ∧
    Calls Try.prog 34 #[.agg #[.slice A N c, .int .i64 p], .slice B m d] w (TripX k rs N' q err w) := by
  by_cases h : 0 ≤ p ∧ p ≤ N
  · obtain ⟨h0, h1⟩ := h
    obtain ⟨p, rfl⟩ := Int.eq_ofNat_of_zero_le h0
    by_cases hE : weightE ws = 0
    · exact ⟨_, bs, _, _, 0, rfl, fun w ho hw => ⟨(heavy_ok A B N c p m d bs ws w ho (by omega) hw hE).mono fun _ _ h => h.x rfl, (rheavy_any A B N c m d p bs ws w ho hN (by omega) hw).mono fun _ _ h => (h.1 hE).x rfl⟩⟩
    · exact ⟨0, [], 0, 0, weightE ws, rfl, fun w ho hw => ⟨(heavy_no A B N c m d p ws _ w h0 h1 hw rfl hE).mono fun _ _ h => h.x rfl, (rheavy_any A B N c m d p bs ws w ho hN (by omega) hw).mono fun _ _ h => (h.2 hE).x rfl⟩⟩
  · exact ⟨0, [], 0, 0, 1, rfl, fun w _ _ => ⟨(heavy_dice A N c p _ w (by omega) (by omega)).mono fun _ _ h => h.x rfl, (rheavy_dice A B N c m d p w (by omega) (by omega)).mono fun _ _ h => h.x rfl⟩⟩

theorem check_both (A : Option Addr) (N c : Nat) (p : Int) (hN : N ≤ 1000) : ∃ E : Int, ∀ w,
    Calls Try.prog 35 #[.agg #[.slice A N c, .int .i64 p]] w (RetB (.int .i64 E) w) ∧
    Calls Try.prog 24 #[.agg #[.slice A N c, .int .i64 p]] w (RetB (.int .i64 E) w) := by
  by_cases h : 0 ≤ p ∧ p ≤ N
  · exact ⟨0, fun w => ⟨check_ok A N c p w h.1 h.2, rcheck_ok A N c p w h.1 h.2⟩⟩
  · exact ⟨1, fun w => ⟨check_no A N c p w (by omega) (by omega), rcheck_no A N c p w (by omega) (by omega)⟩⟩

theorem rsame_yes (A B : Option Addr) (n c d : Nat) (p : Int) (bs : List Int) (w : World) (hx : Octs w A n bs) (hy : Octs w B n bs) :
    Calls Try.prog 20 #[.agg #[.slice A n c, .int .i64 p], .agg #[.slice B n d, .int .i64 p]] w (RetB (.bool true) w) := by
  have := rsame_any A B n n c d p p bs bs w hx hy
  rwa [dsame_refl] at this

end Go.Proofs.Ytljfinfjchkphaa
