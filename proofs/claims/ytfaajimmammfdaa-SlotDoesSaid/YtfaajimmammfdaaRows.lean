/-
  No cell of these rows narrows 'for every input' (looked for: loops, veiled, ifaces, maps, wideKeys, modest, calm, conditions, laid).
  DERIVED. THE GIVEN ROWS OF THIS SEAT. 5 by the template 'for every input the law returns true; each argument reads behind the call as it read before'; 0 by the template 'total and deterministic' (their statements: YtfaajimmammfdaaTotals.lean).
  GIVEN WITH THE SEED: the statements are not yours to turn. If you find one false, say at which input.
  Laid BY PROGRAM, IN A SANDBOX (cutbox-rows.mjs): the forced cells as the released guide's own fill.sh prints them over the translation 54dfbfa76dd96a29… (all of the seat's roots in one cut). By AI agents, Wed Nov 11 2026. No macro, syntax, notation, axiom, sorry.
-/
import Derived.Test.YtfaajimmammfdaaChecked
import GoSem.Claim
import GoSem.ClaimJoined
import GoSem.ClaimMapViews
import Derived.JoinedTies
import Derived.KernelRfl
namespace Go.Proofs.Ytfaajimmammfdaa
/- THE CELL 'sum', in the pinned program and in every row, IS THE sha256 OF THE DUMP (.gsa) THAT YtfaajimmammfdaaProg.lean LOADS. Nothing in Lean hashes anything: it is a label: what it is worth is what the hold of that sum in a sandbox is worth. -/
noncomputable def Try.pinned : Pinned := { name := "ytfaajimmammfdaa", sum := "54dfbfa76dd96a291fa4428ca347cd2ca9fb9595c5e2496eea68871bce553507", checked := Try.checked }
namespace Rows
def none {H : Type} : Left H := { results := [], args := [] }

/-- 'ravellaw05.SlotDoes': WHATEVER THE INPUT: true; the input reads as it did. -/
def slotDoesSpec : ChangeSpec := { name := "slotDoes", fn := fun _ => fun
  | [d1, d2, d3, d4] => { results := [.lit (.bool true)], args := [d1, d2, d3, d4] }
  | _ => none }
def slotDoesRow : OpenClaim := { program := "ytfaajimmammfdaa", sum := "54dfbfa76dd96a291fa4428ca347cd2ca9fb9595c5e2496eea68871bce553507", func := "ravel/ravellaw05.SlotDoes", spec := "slotDoes", unfollowed := true, recurses := true, apart := false }
def SlotDoesSaid : Prop := slotDoesRow.holds Try.pinned (OpenSpec.ofChange slotDoesSpec)

/-- ITS FALSE NEIGHBOUR: 'it returns false'. Refute it at one input. -/
def slotDoesWrong : ChangeSpec := { name := "slotDoes", fn := fun _ => fun
  | [d1, d2, d3, d4] => { results := [.lit (.bool false)], args := [d1, d2, d3, d4] }
  | _ => none }
def SlotDoesWrongFalsely : Prop := slotDoesRow.holds Try.pinned (OpenSpec.ofChange slotDoesWrong)

/-- 'ravellaw05.SlotOnce': WHATEVER THE INPUT: true; the input reads as it did. -/
def slotOnceSpec : ChangeSpec := { name := "slotOnce", fn := fun _ => fun
  | [d1, d2] => { results := [.lit (.bool true)], args := [d1, d2] }
  | _ => none }
def slotOnceRow : OpenClaim := { program := "ytfaajimmammfdaa", sum := "54dfbfa76dd96a291fa4428ca347cd2ca9fb9595c5e2496eea68871bce553507", func := "ravel/ravellaw05.SlotOnce", spec := "slotOnce", unfollowed := true, recurses := true, apart := false }
def SlotOnceSaid : Prop := slotOnceRow.holds Try.pinned (OpenSpec.ofChange slotOnceSpec)

/-- ITS FALSE NEIGHBOUR: 'it returns false'. Refute it at one input. -/
def slotOnceWrong : ChangeSpec := { name := "slotOnce", fn := fun _ => fun
  | [d1, d2] => { results := [.lit (.bool false)], args := [d1, d2] }
  | _ => none }
def SlotOnceWrongFalsely : Prop := slotOnceRow.holds Try.pinned (OpenSpec.ofChange slotOnceWrong)

/-- 'ravellaw05.SlotEnds': WHATEVER THE INPUT: true; the input reads as it did. -/
def slotEndsSpec : ChangeSpec := { name := "slotEnds", fn := fun _ => fun
  | [d1, d2] => { results := [.lit (.bool true)], args := [d1, d2] }
  | _ => none }
def slotEndsRow : OpenClaim := { program := "ytfaajimmammfdaa", sum := "54dfbfa76dd96a291fa4428ca347cd2ca9fb9595c5e2496eea68871bce553507", func := "ravel/ravellaw05.SlotEnds", spec := "slotEnds", unfollowed := true, recurses := true, apart := false }
def SlotEndsSaid : Prop := slotEndsRow.holds Try.pinned (OpenSpec.ofChange slotEndsSpec)

/-- ITS FALSE NEIGHBOUR: 'it returns false'. Refute it at one input. -/
def slotEndsWrong : ChangeSpec := { name := "slotEnds", fn := fun _ => fun
  | [d1, d2] => { results := [.lit (.bool false)], args := [d1, d2] }
  | _ => none }
def SlotEndsWrongFalsely : Prop := slotEndsRow.holds Try.pinned (OpenSpec.ofChange slotEndsWrong)

/-- 'ravellaw05.SlotIds': WHATEVER THE INPUT: true; the input reads as it did. -/
def slotIdsSpec : ChangeSpec := { name := "slotIds", fn := fun _ => fun
  | [d] => { results := [.lit (.bool true)], args := [d] }
  | _ => none }
def slotIdsRow : OpenClaim := { program := "ytfaajimmammfdaa", sum := "54dfbfa76dd96a291fa4428ca347cd2ca9fb9595c5e2496eea68871bce553507", func := "ravel/ravellaw05.SlotIds", spec := "slotIds", unfollowed := true, recurses := true, apart := false }
def SlotIdsSaid : Prop := slotIdsRow.holds Try.pinned (OpenSpec.ofChange slotIdsSpec)

/-- ITS FALSE NEIGHBOUR: 'it returns false'. Refute it at one input. -/
def slotIdsWrong : ChangeSpec := { name := "slotIds", fn := fun _ => fun
  | [d] => { results := [.lit (.bool false)], args := [d] }
  | _ => none }
def SlotIdsWrongFalsely : Prop := slotIdsRow.holds Try.pinned (OpenSpec.ofChange slotIdsWrong)

/-- 'ravellaw05.SlotAgain': WHATEVER THE INPUT: true; the input reads as it did. -/
def slotAgainSpec : ChangeSpec := { name := "slotAgain", fn := fun _ => fun
  | [d1, d2] => { results := [.lit (.bool true)], args := [d1, d2] }
  | _ => none }
def slotAgainRow : OpenClaim := { program := "ytfaajimmammfdaa", sum := "54dfbfa76dd96a291fa4428ca347cd2ca9fb9595c5e2496eea68871bce553507", func := "ravel/ravellaw05.SlotAgain", spec := "slotAgain", unfollowed := true, recurses := true, apart := false }
def SlotAgainSaid : Prop := slotAgainRow.holds Try.pinned (OpenSpec.ofChange slotAgainSpec)

/-- ITS FALSE NEIGHBOUR: 'it returns false'. Refute it at one input. -/
def slotAgainWrong : ChangeSpec := { name := "slotAgain", fn := fun _ => fun
  | [d1, d2] => { results := [.lit (.bool false)], args := [d1, d2] }
  | _ => none }
def SlotAgainWrongFalsely : Prop := slotAgainRow.holds Try.pinned (OpenSpec.ofChange slotAgainWrong)

/- THE SECOND FORM. 'bulk': how many values and letters a reading holds, each counted each time it is reached (what is shared counts as often as it is met; a slice's spare places count too). A statement '..UptoSaid' is the law's where the arguments, and the package variables that the reading takes, are together of bulk at most 1048576: NARROWER than '..Said'. Prove '..Said' where nothing that the law and all that it calls make is longer than what came in: it says more and counts as full. Else prove '..UptoSaid'. A law counts once. -/
mutual
def uptoBulk {H : Type} : DataW H → Nat
  | .lit (.string bytes) => bytes.length + 1
  | .lit _ => 1
  | .nil => 1
  | .ptr d => uptoBulk d + 1
  | .slice elems spare => uptoBulkAll elems + uptoBulkAll spare + 1
  | .agg parts => uptoBulkAll parts + 1
  | .iface _ d => uptoBulk d + 1
  | .map entries => uptoBulkEntries entries + 1
  | .held _ => 1
def uptoBulkAll {H : Type} : List (DataW H) → Nat
  | [] => 0
  | d :: r => uptoBulk d + uptoBulkAll r
def uptoBulkEntries {H : Type} : List (Lit × DataW H) → Nat
  | [] => 0
  | x :: r => uptoBulkEntry x + uptoBulkEntries r
def uptoBulkEntry {H : Type} : Lit × DataW H → Nat
  | (.string bytes, d) => bytes.length + uptoBulk d + 1
  | (_, d) => uptoBulk d + 1
 end
def uptoSmall : (H : Type) → List (DataW H) → Bool := fun _ ds => decide (uptoBulkAll ds ≤ 1048576)
def OpenSpec.upto (s : _root_.Go.ChangeSpec) : _root_.Go.OpenSpec := { _root_.Go.OpenSpec.ofChange s with cond := some uptoSmall }

/-- 'ravellaw05.SlotDoes', WHERE WHAT IT READS IS OF BULK AT MOST 1048576: true; the input reads as it did. -/
def slotDoesUptoRow : OpenClaim := { program := "ytfaajimmammfdaa", sum := "54dfbfa76dd96a291fa4428ca347cd2ca9fb9595c5e2496eea68871bce553507", func := "ravel/ravellaw05.SlotDoes", spec := "slotDoes", unfollowed := true, recurses := true, apart := false, narrowed := true }
def SlotDoesUptoSaid : Prop := slotDoesUptoRow.holds Try.pinned (OpenSpec.upto slotDoesSpec)

/-- 'ravellaw05.SlotOnce', WHERE WHAT IT READS IS OF BULK AT MOST 1048576: true; the input reads as it did. -/
def slotOnceUptoRow : OpenClaim := { program := "ytfaajimmammfdaa", sum := "54dfbfa76dd96a291fa4428ca347cd2ca9fb9595c5e2496eea68871bce553507", func := "ravel/ravellaw05.SlotOnce", spec := "slotOnce", unfollowed := true, recurses := true, apart := false, narrowed := true }
def SlotOnceUptoSaid : Prop := slotOnceUptoRow.holds Try.pinned (OpenSpec.upto slotOnceSpec)

/-- 'ravellaw05.SlotEnds', WHERE WHAT IT READS IS OF BULK AT MOST 1048576: true; the input reads as it did. -/
def slotEndsUptoRow : OpenClaim := { program := "ytfaajimmammfdaa", sum := "54dfbfa76dd96a291fa4428ca347cd2ca9fb9595c5e2496eea68871bce553507", func := "ravel/ravellaw05.SlotEnds", spec := "slotEnds", unfollowed := true, recurses := true, apart := false, narrowed := true }
def SlotEndsUptoSaid : Prop := slotEndsUptoRow.holds Try.pinned (OpenSpec.upto slotEndsSpec)

/-- 'ravellaw05.SlotIds', WHERE WHAT IT READS IS OF BULK AT MOST 1048576: true; the input reads as it did. -/
def slotIdsUptoRow : OpenClaim := { program := "ytfaajimmammfdaa", sum := "54dfbfa76dd96a291fa4428ca347cd2ca9fb9595c5e2496eea68871bce553507", func := "ravel/ravellaw05.SlotIds", spec := "slotIds", unfollowed := true, recurses := true, apart := false, narrowed := true }
def SlotIdsUptoSaid : Prop := slotIdsUptoRow.holds Try.pinned (OpenSpec.upto slotIdsSpec)

/-- 'ravellaw05.SlotAgain', WHERE WHAT IT READS IS OF BULK AT MOST 1048576: true; the input reads as it did. -/
def slotAgainUptoRow : OpenClaim := { program := "ytfaajimmammfdaa", sum := "54dfbfa76dd96a291fa4428ca347cd2ca9fb9595c5e2496eea68871bce553507", func := "ravel/ravellaw05.SlotAgain", spec := "slotAgain", unfollowed := true, recurses := true, apart := false, narrowed := true }
def SlotAgainUptoSaid : Prop := slotAgainUptoRow.holds Try.pinned (OpenSpec.upto slotAgainSpec)

end Rows
end Go.Proofs.Ytfaajimmammfdaa
