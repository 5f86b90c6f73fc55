/-
  Layer 12: the document's New, Move and Keep.
-/
import Derived.Test.YtlbmlhcphoiaeaaDoorTke
namespace Go.Proofs.YtlbmlhcphoiaeaaDoor
open Go.RowKit

end Go.Proofs.YtlbmlhcphoiaeaaDoor
