/-
  Layer 14: the document's Admit, Leave and Count.
-/
import Derived.Test.YtpfnoohcilefhaaTnb
namespace Go.Proofs.Ytpfnoohcilefhaa
open Go.RowKit

theorem okTn_fit {x : Tn} (h : okTn x) : FitTn x := by
  obtain ⟨h1, h2, h3, h4, h5⟩ := h
  unfold FitTn Fit
  omega

end Go.Proofs.Ytpfnoohcilefhaa
