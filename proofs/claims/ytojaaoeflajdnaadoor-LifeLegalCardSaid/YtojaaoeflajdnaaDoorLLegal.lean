/-
  The walk of the law LifeLegal of layer 12.
-/
import Derived.Test.YtojaaoeflajdnaaDoorTkh
namespace Go.Proofs.YtojaaoeflajdnaaDoor
open Go.RowKit

theorem llegal_any (a b : Int) (w : World) (hF : Fol w) : Calls Tryd.prog 4 #[.int .i64 a, .int .i64 b] w (TrueAns w) := by
  have HF := Lib.hid hF
  clear hF
  go_enter Tryd.func4, Tryd.ntmps4
  go_wp2_with fail
  refine (live_any _ HF.out).mono ?_
  rintro e w1 ⟨rfl, b1⟩
  replace HF := Lib.hid (HF.out.le b1)
  have BB := Lib.hid b1
  clear b1
  go_wp2_with fail
  refine (leg_any a b _ HF.out).mono ?_
  rintro e w2 ⟨rfl, rfl⟩
  go_wp2_with fail
  refine (rleg_any a b _).mono ?_
  rintro e w2 ⟨rfl, rfl⟩
  go_wp2_with fail
  refine (wt_any a _).mono ?_
  rintro e w2 ⟨rfl, rfl⟩
  go_wp2_with fail
  refine (rwt_any a _).mono ?_
  rintro e w2 ⟨rfl, rfl⟩
  go_wp2_with fail
  go_ret
  exact ⟨by simp, BB.out⟩

end Go.Proofs.YtojaaoeflajdnaaDoor
