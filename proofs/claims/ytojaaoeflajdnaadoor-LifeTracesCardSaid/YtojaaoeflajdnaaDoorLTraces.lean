/-
  The walk of the law LifeTraces of layer 12.
-/
import Derived.Test.YtojaaoeflajdnaaDoorTkh
namespace Go.Proofs.YtojaaoeflajdnaaDoor
open Go.RowKit

theorem ltraces_any (A : Option Addr) (n c : Nat) (l : List Int) (w : World) (hx : Ints w A n l) (hc : n ≤ c) (hF : Fol w) : Calls Tryd.prog 5 #[.slice A n c] w (TrueAns w) := by
  have HX := Lib.hid hx
  have HC := Lib.hid hc
  have hnm := hx.2.1
  have HF := Lib.hid hF
  clear hF hx hc
  by_cases h3 : 300 < n
  · have d3 : decide ((300 : Int) < (n : Int)) = true := decide_eq_true (by omega)
    clear h3
    go_enter Tryd.func5, Tryd.ntmps5
    go_wp2_with fail
    refine (live_any _ HF.out).mono ?_
    rintro e w1 ⟨rfl, b1⟩
    have BB := Lib.hid b1
    clear b1
    go_wp2_with fail
    go_ret
    exact ⟨rfl, BB.out⟩
  · have d3 : decide ((300 : Int) < (n : Int)) = false := decide_eq_false (by omega)
    clear h3
    go_enter Tryd.func5, Tryd.ntmps5
    go_wp2_with fail
    refine (live_any _ HF.out).mono ?_
    rintro e w1 ⟨rfl, b1⟩
    replace HF := Lib.hid (HF.out.le b1)
    replace HX := Lib.hid (HX.out.below b1)
    have BB := Lib.hid b1
    clear b1
    go_wp2_with fail
    refine (trace_any A n c l _ HX.out HC.out HF.out).mono ?_
    rintro e w2 ⟨rfl, rfl⟩
    go_wp2_with fail
    refine (rtrace_any A n c l _ HX.out).mono ?_
    rintro e w2 ⟨rfl, b2⟩
    replace BB := Lib.hid (below3 BB.out b2)
    clear b2
    go_wp2_with fail
    go_ret
    exact ⟨by simp, BB.out⟩

end Go.Proofs.YtojaaoeflajdnaaDoor
