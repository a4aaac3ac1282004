/-
  No cell of these rows narrows 'for every input' (looked for: loops, veiled, ifaces, maps, wideKeys, modest, calm, conditions, laid).
  DERIVED. THE GIVEN ROWS OF THIS SEAT. 11 by the template 'for every input the law returns true; each argument reads behind the call as it read before'; 0 by the template 'total and deterministic' (their statements: YtdgleicpcjfnoaaTotals.lean).
  GIVEN WITH THE SEED: the statements are not yours to turn. If you find one false, say at which input.
  Laid BY PROGRAM, IN A SANDBOX (cutbox-rows.mjs): the forced cells as the released guide's own fill.sh prints them over the translation b2bcf6e4cc69d52e… (all of the seat's roots in one cut). By AI agents, Wed Nov 11 2026. No macro, syntax, notation, axiom, sorry.
-/
import Derived.Test.YtdgleicpcjfnoaaChecked
import GoSem.Claim
import GoSem.ClaimJoined
import GoSem.ClaimMapViews
import Derived.JoinedTies
import Derived.KernelRfl
namespace Go.Proofs.Ytdgleicpcjfnoaa
/- THE CELL 'sum', in the pinned program and in every row, IS THE sha256 OF THE DUMP (.gsa) THAT YtdgleicpcjfnoaaProg.lean LOADS. Nothing in Lean hashes anything: it is a label: what it is worth is what the hold of that sum in a sandbox is worth. -/
noncomputable def Try.pinned : Pinned := { name := "ytdgleicpcjfnoaa", sum := "b2bcf6e4cc69d52efadb57b88428a81485a421927c234a903ec77cd220c1e7b9", checked := Try.checked }
namespace Rows
def none {H : Type} : Left H := { results := [], args := [] }

/-- 'canteenlaw02.DishValidates': WHATEVER THE INPUT: true; the input reads as it did. -/
def dishValidatesSpec : ChangeSpec := { name := "dishValidates", fn := fun _ => fun
  | [d] => { results := [.lit (.bool true)], args := [d] }
  | _ => none }
def dishValidatesRow : OpenClaim := { program := "ytdgleicpcjfnoaa", sum := "b2bcf6e4cc69d52efadb57b88428a81485a421927c234a903ec77cd220c1e7b9", func := "canteen/canteenlaw02.DishValidates", spec := "dishValidates", apart := false }
def DishValidatesSaid : Prop := dishValidatesRow.holds Try.pinned (OpenSpec.ofChange dishValidatesSpec)

/-- ITS FALSE NEIGHBOUR: 'it returns false'. Refute it at one input. -/
def dishValidatesWrong : ChangeSpec := { name := "dishValidates", fn := fun _ => fun
  | [d] => { results := [.lit (.bool false)], args := [d] }
  | _ => none }
def DishValidatesWrongFalsely : Prop := dishValidatesRow.holds Try.pinned (OpenSpec.ofChange dishValidatesWrong)

/-- 'canteenlaw02.DishLabels': WHATEVER THE INPUT: true; the input reads as it did. -/
def dishLabelsSpec : ChangeSpec := { name := "dishLabels", fn := fun _ => fun
  | [d1, d2] => { results := [.lit (.bool true)], args := [d1, d2] }
  | _ => none }
def dishLabelsRow : OpenClaim := { program := "ytdgleicpcjfnoaa", sum := "b2bcf6e4cc69d52efadb57b88428a81485a421927c234a903ec77cd220c1e7b9", func := "canteen/canteenlaw02.DishLabels", spec := "dishLabels", apart := false }
def DishLabelsSaid : Prop := dishLabelsRow.holds Try.pinned (OpenSpec.ofChange dishLabelsSpec)

/-- ITS FALSE NEIGHBOUR: 'it returns false'. Refute it at one input. -/
def dishLabelsWrong : ChangeSpec := { name := "dishLabels", fn := fun _ => fun
  | [d1, d2] => { results := [.lit (.bool false)], args := [d1, d2] }
  | _ => none }
def DishLabelsWrongFalsely : Prop := dishLabelsRow.holds Try.pinned (OpenSpec.ofChange dishLabelsWrong)

/-- 'canteenlaw02.DishCloses': WHATEVER THE INPUT: true; the input reads as it did. -/
def dishClosesSpec : ChangeSpec := { name := "dishCloses", fn := fun _ => fun
  | [d1, d2] => { results := [.lit (.bool true)], args := [d1, d2] }
  | _ => none }
def dishClosesRow : OpenClaim := { program := "ytdgleicpcjfnoaa", sum := "b2bcf6e4cc69d52efadb57b88428a81485a421927c234a903ec77cd220c1e7b9", func := "canteen/canteenlaw02.DishCloses", spec := "dishCloses", apart := false }
def DishClosesSaid : Prop := dishClosesRow.holds Try.pinned (OpenSpec.ofChange dishClosesSpec)

/-- ITS FALSE NEIGHBOUR: 'it returns false'. Refute it at one input. -/
def dishClosesWrong : ChangeSpec := { name := "dishCloses", fn := fun _ => fun
  | [d1, d2] => { results := [.lit (.bool false)], args := [d1, d2] }
  | _ => none }
def DishClosesWrongFalsely : Prop := dishClosesRow.holds Try.pinned (OpenSpec.ofChange dishClosesWrong)

/-- 'canteenlaw02.DishProofs': WHATEVER THE INPUT: true; the input reads as it did. -/
def dishProofsSpec : ChangeSpec := { name := "dishProofs", fn := fun _ => fun
  | [d1, d2, d3] => { results := [.lit (.bool true)], args := [d1, d2, d3] }
  | _ => none }
def dishProofsRow : OpenClaim := { program := "ytdgleicpcjfnoaa", sum := "b2bcf6e4cc69d52efadb57b88428a81485a421927c234a903ec77cd220c1e7b9", func := "canteen/canteenlaw02.DishProofs", spec := "dishProofs", apart := false }
def DishProofsSaid : Prop := dishProofsRow.holds Try.pinned (OpenSpec.ofChange dishProofsSpec)

/-- ITS FALSE NEIGHBOUR: 'it returns false'. Refute it at one input. -/
def dishProofsWrong : ChangeSpec := { name := "dishProofs", fn := fun _ => fun
  | [d1, d2, d3] => { results := [.lit (.bool false)], args := [d1, d2, d3] }
  | _ => none }
def DishProofsWrongFalsely : Prop := dishProofsRow.holds Try.pinned (OpenSpec.ofChange dishProofsWrong)

/-- 'canteenlaw02.DishExplains': WHATEVER THE INPUT: true; the input reads as it did. -/
def dishExplainsSpec : ChangeSpec := { name := "dishExplains", fn := fun _ => fun
  | [d1, d2] => { results := [.lit (.bool true)], args := [d1, d2] }
  | _ => none }
def dishExplainsRow : OpenClaim := { program := "ytdgleicpcjfnoaa", sum := "b2bcf6e4cc69d52efadb57b88428a81485a421927c234a903ec77cd220c1e7b9", func := "canteen/canteenlaw02.DishExplains", spec := "dishExplains", unfollowed := true, recurses := true, apart := false }
def DishExplainsSaid : Prop := dishExplainsRow.holds Try.pinned (OpenSpec.ofChange dishExplainsSpec)

/-- ITS FALSE NEIGHBOUR: 'it returns false'. Refute it at one input. -/
def dishExplainsWrong : ChangeSpec := { name := "dishExplains", fn := fun _ => fun
  | [d1, d2] => { results := [.lit (.bool false)], args := [d1, d2] }
  | _ => none }
def DishExplainsWrongFalsely : Prop := dishExplainsRow.holds Try.pinned (OpenSpec.ofChange dishExplainsWrong)

/-- 'canteenlaw02.DishShortest': WHATEVER THE INPUT: true; the input reads as it did. -/
def dishShortestSpec : ChangeSpec := { name := "dishShortest", fn := fun _ => fun
  | [d1, d2] => { results := [.lit (.bool true)], args := [d1, d2] }
  | _ => none }
def dishShortestRow : OpenClaim := { program := "ytdgleicpcjfnoaa", sum := "b2bcf6e4cc69d52efadb57b88428a81485a421927c234a903ec77cd220c1e7b9", func := "canteen/canteenlaw02.DishShortest", spec := "dishShortest", unfollowed := true, recurses := true, apart := false }
def DishShortestSaid : Prop := dishShortestRow.holds Try.pinned (OpenSpec.ofChange dishShortestSpec)

/-- ITS FALSE NEIGHBOUR: 'it returns false'. Refute it at one input. -/
def dishShortestWrong : ChangeSpec := { name := "dishShortest", fn := fun _ => fun
  | [d1, d2] => { results := [.lit (.bool false)], args := [d1, d2] }
  | _ => none }
def DishShortestWrongFalsely : Prop := dishShortestRow.holds Try.pinned (OpenSpec.ofChange dishShortestWrong)

/-- 'canteenlaw02.DishFollows': WHATEVER THE INPUT: true; the input reads as it did. -/
def dishFollowsSpec : ChangeSpec := { name := "dishFollows", fn := fun _ => fun
  | [d1, d2, d3] => { results := [.lit (.bool true)], args := [d1, d2, d3] }
  | _ => none }
def dishFollowsRow : OpenClaim := { program := "ytdgleicpcjfnoaa", sum := "b2bcf6e4cc69d52efadb57b88428a81485a421927c234a903ec77cd220c1e7b9", func := "canteen/canteenlaw02.DishFollows", spec := "dishFollows", apart := false }
def DishFollowsSaid : Prop := dishFollowsRow.holds Try.pinned (OpenSpec.ofChange dishFollowsSpec)

/-- ITS FALSE NEIGHBOUR: 'it returns false'. Refute it at one input. -/
def dishFollowsWrong : ChangeSpec := { name := "dishFollows", fn := fun _ => fun
  | [d1, d2, d3] => { results := [.lit (.bool false)], args := [d1, d2, d3] }
  | _ => none }
def DishFollowsWrongFalsely : Prop := dishFollowsRow.holds Try.pinned (OpenSpec.ofChange dishFollowsWrong)

/-- 'canteenlaw02.DishReduces': WHATEVER THE INPUT: true; the input reads as it did. -/
def dishReducesSpec : ChangeSpec := { name := "dishReduces", fn := fun _ => fun
  | [d1, d2] => { results := [.lit (.bool true)], args := [d1, d2] }
  | _ => none }
def dishReducesRow : OpenClaim := { program := "ytdgleicpcjfnoaa", sum := "b2bcf6e4cc69d52efadb57b88428a81485a421927c234a903ec77cd220c1e7b9", func := "canteen/canteenlaw02.DishReduces", spec := "dishReduces", apart := false }
def DishReducesSaid : Prop := dishReducesRow.holds Try.pinned (OpenSpec.ofChange dishReducesSpec)

/-- ITS FALSE NEIGHBOUR: 'it returns false'. Refute it at one input. -/
def dishReducesWrong : ChangeSpec := { name := "dishReduces", fn := fun _ => fun
  | [d1, d2] => { results := [.lit (.bool false)], args := [d1, d2] }
  | _ => none }
def DishReducesWrongFalsely : Prop := dishReducesRow.holds Try.pinned (OpenSpec.ofChange dishReducesWrong)

/-- 'canteenlaw02.DishExchanges': WHATEVER THE INPUT: true; the input reads as it did. -/
def dishExchangesSpec : ChangeSpec := { name := "dishExchanges", fn := fun _ => fun
  | [d1, d2] => { results := [.lit (.bool true)], args := [d1, d2] }
  | _ => none }
def dishExchangesRow : OpenClaim := { program := "ytdgleicpcjfnoaa", sum := "b2bcf6e4cc69d52efadb57b88428a81485a421927c234a903ec77cd220c1e7b9", func := "canteen/canteenlaw02.DishExchanges", spec := "dishExchanges", recurses := true, apart := false }
def DishExchangesSaid : Prop := dishExchangesRow.holds Try.pinned (OpenSpec.ofChange dishExchangesSpec)

/-- ITS FALSE NEIGHBOUR: 'it returns false'. Refute it at one input. -/
def dishExchangesWrong : ChangeSpec := { name := "dishExchanges", fn := fun _ => fun
  | [d1, d2] => { results := [.lit (.bool false)], args := [d1, d2] }
  | _ => none }
def DishExchangesWrongFalsely : Prop := dishExchangesRow.holds Try.pinned (OpenSpec.ofChange dishExchangesWrong)

/-- 'canteenlaw02.DishFewest': WHATEVER THE INPUT: true; the input reads as it did. -/
def dishFewestSpec : ChangeSpec := { name := "dishFewest", fn := fun _ => fun
  | [d1, d2, d3] => { results := [.lit (.bool true)], args := [d1, d2, d3] }
  | _ => none }
def dishFewestRow : OpenClaim := { program := "ytdgleicpcjfnoaa", sum := "b2bcf6e4cc69d52efadb57b88428a81485a421927c234a903ec77cd220c1e7b9", func := "canteen/canteenlaw02.DishFewest", spec := "dishFewest", recurses := true, apart := false }
def DishFewestSaid : Prop := dishFewestRow.holds Try.pinned (OpenSpec.ofChange dishFewestSpec)

/-- ITS FALSE NEIGHBOUR: 'it returns false'. Refute it at one input. -/
def dishFewestWrong : ChangeSpec := { name := "dishFewest", fn := fun _ => fun
  | [d1, d2, d3] => { results := [.lit (.bool false)], args := [d1, d2, d3] }
  | _ => none }
def DishFewestWrongFalsely : Prop := dishFewestRow.holds Try.pinned (OpenSpec.ofChange dishFewestWrong)

/-- 'canteentop.TopLabels': WHATEVER THE INPUT: true; the input reads as it did. -/
def topLabelsSpec : ChangeSpec := { name := "topLabels", fn := fun _ => fun
  | [d1, d2, d3] => { results := [.lit (.bool true)], args := [d1, d2, d3] }
  | _ => none }
def topLabelsRow : OpenClaim := { program := "ytdgleicpcjfnoaa", sum := "b2bcf6e4cc69d52efadb57b88428a81485a421927c234a903ec77cd220c1e7b9", func := "canteen/canteentop.TopLabels", spec := "topLabels", unfollowed := true, recurses := true, apart := false }
def TopLabelsSaid : Prop := topLabelsRow.holds Try.pinned (OpenSpec.ofChange topLabelsSpec)

/-- ITS FALSE NEIGHBOUR: 'it returns false'. Refute it at one input. -/
def topLabelsWrong : ChangeSpec := { name := "topLabels", fn := fun _ => fun
  | [d1, d2, d3] => { results := [.lit (.bool false)], args := [d1, d2, d3] }
  | _ => none }
def TopLabelsWrongFalsely : Prop := topLabelsRow.holds Try.pinned (OpenSpec.ofChange topLabelsWrong)

/- THE SECOND FORM. 'bulk': how many values and letters a reading holds, each counted each time it is reached (what is shared counts as often as it is met; a slice's spare places count too). A statement '..UptoSaid' is the law's where the arguments, and the package variables that the reading takes, are together of bulk at most 1048576: NARROWER than '..Said'. Prove '..Said' where nothing that the law and all that it calls make is longer than what came in: it says more and counts as full. Else prove '..UptoSaid'. A law counts once. -/
mutual
def uptoBulk {H : Type} : DataW H → Nat
  | .lit (.string bytes) => bytes.length + 1
  | .lit _ => 1
  | .nil => 1
  | .ptr d => uptoBulk d + 1
  | .slice elems spare => uptoBulkAll elems + uptoBulkAll spare + 1
  | .agg parts => uptoBulkAll parts + 1
  | .iface _ d => uptoBulk d + 1
  | .map entries => uptoBulkEntries entries + 1
  | .held _ => 1
def uptoBulkAll {H : Type} : List (DataW H) → Nat
  | [] => 0
  | d :: r => uptoBulk d + uptoBulkAll r
def uptoBulkEntries {H : Type} : List (Lit × DataW H) → Nat
  | [] => 0
  | x :: r => uptoBulkEntry x + uptoBulkEntries r
def uptoBulkEntry {H : Type} : Lit × DataW H → Nat
  | (.string bytes, d) => bytes.length + uptoBulk d + 1
  | (_, d) => uptoBulk d + 1
 end
def uptoSmall : (H : Type) → List (DataW H) → Bool := fun _ ds => decide (uptoBulkAll ds ≤ 1048576)
def OpenSpec.upto (s : _root_.Go.ChangeSpec) : _root_.Go.OpenSpec := { _root_.Go.OpenSpec.ofChange s with cond := some uptoSmall }

/-- 'canteenlaw02.DishValidates', WHERE WHAT IT READS IS OF BULK AT MOST 1048576: true; the input reads as it did. -/
def dishValidatesUptoRow : OpenClaim := { program := "ytdgleicpcjfnoaa", sum := "b2bcf6e4cc69d52efadb57b88428a81485a421927c234a903ec77cd220c1e7b9", func := "canteen/canteenlaw02.DishValidates", spec := "dishValidates", apart := false, narrowed := true }
def DishValidatesUptoSaid : Prop := dishValidatesUptoRow.holds Try.pinned (OpenSpec.upto dishValidatesSpec)

/-- 'canteenlaw02.DishLabels', WHERE WHAT IT READS IS OF BULK AT MOST 1048576: true; the input reads as it did. -/
def dishLabelsUptoRow : OpenClaim := { program := "ytdgleicpcjfnoaa", sum := "b2bcf6e4cc69d52efadb57b88428a81485a421927c234a903ec77cd220c1e7b9", func := "canteen/canteenlaw02.DishLabels", spec := "dishLabels", apart := false, narrowed := true }
def DishLabelsUptoSaid : Prop := dishLabelsUptoRow.holds Try.pinned (OpenSpec.upto dishLabelsSpec)

/-- 'canteenlaw02.DishCloses', WHERE WHAT IT READS IS OF BULK AT MOST 1048576: true; the input reads as it did. -/
def dishClosesUptoRow : OpenClaim := { program := "ytdgleicpcjfnoaa", sum := "b2bcf6e4cc69d52efadb57b88428a81485a421927c234a903ec77cd220c1e7b9", func := "canteen/canteenlaw02.DishCloses", spec := "dishCloses", apart := false, narrowed := true }
def DishClosesUptoSaid : Prop := dishClosesUptoRow.holds Try.pinned (OpenSpec.upto dishClosesSpec)

/-- 'canteenlaw02.DishProofs', WHERE WHAT IT READS IS OF BULK AT MOST 1048576: true; the input reads as it did. -/
def dishProofsUptoRow : OpenClaim := { program := "ytdgleicpcjfnoaa", sum := "b2bcf6e4cc69d52efadb57b88428a81485a421927c234a903ec77cd220c1e7b9", func := "canteen/canteenlaw02.DishProofs", spec := "dishProofs", apart := false, narrowed := true }
def DishProofsUptoSaid : Prop := dishProofsUptoRow.holds Try.pinned (OpenSpec.upto dishProofsSpec)

/-- 'canteenlaw02.DishExplains', WHERE WHAT IT READS IS OF BULK AT MOST 1048576: true; the input reads as it did. -/
def dishExplainsUptoRow : OpenClaim := { program := "ytdgleicpcjfnoaa", sum := "b2bcf6e4cc69d52efadb57b88428a81485a421927c234a903ec77cd220c1e7b9", func := "canteen/canteenlaw02.DishExplains", spec := "dishExplains", unfollowed := true, recurses := true, apart := false, narrowed := true }
def DishExplainsUptoSaid : Prop := dishExplainsUptoRow.holds Try.pinned (OpenSpec.upto dishExplainsSpec)

/-- 'canteenlaw02.DishShortest', WHERE WHAT IT READS IS OF BULK AT MOST 1048576: true; the input reads as it did. -/
def dishShortestUptoRow : OpenClaim := { program := "ytdgleicpcjfnoaa", sum := "b2bcf6e4cc69d52efadb57b88428a81485a421927c234a903ec77cd220c1e7b9", func := "canteen/canteenlaw02.DishShortest", spec := "dishShortest", unfollowed := true, recurses := true, apart := false, narrowed := true }
def DishShortestUptoSaid : Prop := dishShortestUptoRow.holds Try.pinned (OpenSpec.upto dishShortestSpec)

/-- 'canteenlaw02.DishFollows', WHERE WHAT IT READS IS OF BULK AT MOST 1048576: true; the input reads as it did. -/
def dishFollowsUptoRow : OpenClaim := { program := "ytdgleicpcjfnoaa", sum := "b2bcf6e4cc69d52efadb57b88428a81485a421927c234a903ec77cd220c1e7b9", func := "canteen/canteenlaw02.DishFollows", spec := "dishFollows", apart := false, narrowed := true }
def DishFollowsUptoSaid : Prop := dishFollowsUptoRow.holds Try.pinned (OpenSpec.upto dishFollowsSpec)

/-- 'canteenlaw02.DishReduces', WHERE WHAT IT READS IS OF BULK AT MOST 1048576: true; the input reads as it did. -/
def dishReducesUptoRow : OpenClaim := { program := "ytdgleicpcjfnoaa", sum := "b2bcf6e4cc69d52efadb57b88428a81485a421927c234a903ec77cd220c1e7b9", func := "canteen/canteenlaw02.DishReduces", spec := "dishReduces", apart := false, narrowed := true }
def DishReducesUptoSaid : Prop := dishReducesUptoRow.holds Try.pinned (OpenSpec.upto dishReducesSpec)

/-- 'canteenlaw02.DishExchanges', WHERE WHAT IT READS IS OF BULK AT MOST 1048576: true; the input reads as it did. -/
def dishExchangesUptoRow : OpenClaim := { program := "ytdgleicpcjfnoaa", sum := "b2bcf6e4cc69d52efadb57b88428a81485a421927c234a903ec77cd220c1e7b9", func := "canteen/canteenlaw02.DishExchanges", spec := "dishExchanges", recurses := true, apart := false, narrowed := true }
def DishExchangesUptoSaid : Prop := dishExchangesUptoRow.holds Try.pinned (OpenSpec.upto dishExchangesSpec)

/-- 'canteenlaw02.DishFewest', WHERE WHAT IT READS IS OF BULK AT MOST 1048576: true; the input reads as it did. -/
def dishFewestUptoRow : OpenClaim := { program := "ytdgleicpcjfnoaa", sum := "b2bcf6e4cc69d52efadb57b88428a81485a421927c234a903ec77cd220c1e7b9", func := "canteen/canteenlaw02.DishFewest", spec := "dishFewest", recurses := true, apart := false, narrowed := true }
def DishFewestUptoSaid : Prop := dishFewestUptoRow.holds Try.pinned (OpenSpec.upto dishFewestSpec)

/-- 'canteentop.TopLabels', WHERE WHAT IT READS IS OF BULK AT MOST 1048576: true; the input reads as it did. -/
def topLabelsUptoRow : OpenClaim := { program := "ytdgleicpcjfnoaa", sum := "b2bcf6e4cc69d52efadb57b88428a81485a421927c234a903ec77cd220c1e7b9", func := "canteen/canteentop.TopLabels", spec := "topLabels", unfollowed := true, recurses := true, apart := false, narrowed := true }
def TopLabelsUptoSaid : Prop := topLabelsUptoRow.holds Try.pinned (OpenSpec.upto topLabelsSpec)

end Rows
end Go.Proofs.Ytdgleicpcjfnoaa
