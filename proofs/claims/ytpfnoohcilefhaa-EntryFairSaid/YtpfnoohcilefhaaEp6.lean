/-
  Layer 19: Read, of bytes of which nothing is known where they are too many.
-/
import Derived.Test.YtpfnoohcilefhaaEp3
namespace Go.Proofs.Ytpfnoohcilefhaa
open Go.RowKit

/-- Octets, or too many of whatever. -/
def OctW (w : World) (A : Option Addr) (n : Nat) (bs : List Int) : Prop := bs.length = n ∧ (n ≤ 196608 → Octs w A n bs)
theorem OctW.below {w w' : World} {A : Option Addr} {n : Nat} {bs : List Int} (h : OctW w A n bs) (hb : Below w.heap.size w w') : OctW w' A n bs := ⟨h.1, fun q => (h.2 q).below hb⟩
theorem octw_of {w : World} {A : Option Addr} {n : Nat} {zs : List Int} (h : n ≤ 140737488351232 → Octs w A n zs) : ∃ bs, OctW w A n bs := by
  by_cases hn : n ≤ 196608
  · exact ⟨zs, (h (by omega)).1, fun _ => h (by omega)⟩
  · exact ⟨List.replicate n 0, by simp, fun q => absurd q hn⟩
theorem readW_en (A : Option Addr) (n c : Nat) (bs : List Int) (w : World) (hx : OctW w A n bs) (hc : n ≤ c ∧ c ≤ 9223372036854775807) :
    Calls Try.prog 16 #[.slice A n c] w (ReadP (rdR bs) w) := by
  by_cases h : 196608 < n
  · rw [rdR_long (by rw [hx.1]; exact h)]
    exact read_long A n c w h
  · exact read_en A n c bs w (hx.2 (by omega)) hc

theorem rread_long (A : Option Addr) (n c : Nat) (w : World) (h : 196608 < n) (hnn : n ≤ 9223372036854775807) :
    Calls Try.prog 17 #[.slice A n c] w (ReadP ([], 3) w) := by
  have t0 : decide (196608 < (n : Int)) = true := decide_eq_true (by omega)
  have t0n : decide (196608 < n) = true := decide_eq_true (by omega)
  clear h
  go_enter Try.func17, Try.ntmps17
  go_wp2_with fail
  exact bodyPost_ret (results_tmp2 rfl _ _ _) rfl (by exact ⟨none, 0, rfl, OwnP.nil_ _ _ _, Below.refl _ _⟩)
theorem rreadW_any (A : Option Addr) (n c : Nat) (bs : List Int) (w : World) (hx : OctW w A n bs) (hc : n ≤ c ∧ c ≤ 9223372036854775807) :
    Calls Try.prog 17 #[.slice A n c] w (ReadP (rdR bs) w) := by
  by_cases h : 196608 < n
  · rw [rdR_long (by rw [hx.1]; exact h)]
    exact rread_long A n c w h (by omega)
  · exact rreadE_any A n c bs w (hx.2 (by omega))

end Go.Proofs.Ytpfnoohcilefhaa
