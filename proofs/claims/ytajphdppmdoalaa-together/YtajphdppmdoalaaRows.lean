/-
  No cell of these rows narrows 'for every input' (looked for: loops, veiled, ifaces, maps, wideKeys, modest, calm, conditions, laid).
  DERIVED. THE GIVEN ROWS OF THIS SEAT. 6 by the template 'for every input the law returns true; each argument reads behind the call as it read before'; 0 by the template 'total and deterministic' (their statements: YtajphdppmdoalaaTotals.lean).
  GIVEN WITH THE SEED: the statements are not yours to turn. If you find one false, say at which input.
  Laid BY PROGRAM, IN A SANDBOX (cutbox-rows.mjs): the forced cells as the released guide's own fill.sh prints them over the translation e98e7256348eea22… (all of the seat's roots in one cut). By AI agents, Wed Nov 11 2026. No macro, syntax, notation, axiom, sorry.
-/
import Derived.Test.YtajphdppmdoalaaChecked
import GoSem.Claim
import GoSem.ClaimJoined
import GoSem.ClaimMapViews
import Derived.JoinedTies
import Derived.KernelRfl
namespace Go.Proofs.Ytajphdppmdoalaa
/- THE CELL 'sum', in the pinned program and in every row, IS THE sha256 OF THE DUMP (.gsa) THAT YtajphdppmdoalaaProg.lean LOADS. Nothing in Lean hashes anything: it is a label: what it is worth is what the hold of that sum in a sandbox is worth. -/
noncomputable def Try.pinned : Pinned := { name := "ytajphdppmdoalaa", sum := "e98e7256348eea22de91274b6946cce30ee515b53b71ea322dc0d4d62932f914", checked := Try.checked }
namespace Rows
def none {H : Type} : Left H := { results := [], args := [] }

/-- 'ferrykeep.Carried': WHATEVER THE INPUT: true; the input reads as it did. -/
def carriedSpec : ChangeSpec := { name := "carried", fn := fun _ => fun
  | [d1, d2, d3, d4, d5] => { results := [.lit (.bool true)], args := [d1, d2, d3, d4, d5] }
  | _ => none }
def carriedRow : OpenClaim := { program := "ytajphdppmdoalaa", sum := "e98e7256348eea22de91274b6946cce30ee515b53b71ea322dc0d4d62932f914", func := "ferry/ferrykeep.Carried", spec := "carried", apart := false }
def CarriedSaid : Prop := carriedRow.holds Try.pinned (OpenSpec.ofChange carriedSpec)

/-- ITS FALSE NEIGHBOUR: 'it returns false'. Refute it at one input. -/
def carriedWrong : ChangeSpec := { name := "carried", fn := fun _ => fun
  | [d1, d2, d3, d4, d5] => { results := [.lit (.bool false)], args := [d1, d2, d3, d4, d5] }
  | _ => none }
def CarriedWrongFalsely : Prop := carriedRow.holds Try.pinned (OpenSpec.ofChange carriedWrong)

/-- 'ferrykeep.Guarded': WHATEVER THE INPUT: true; the input reads as it did. -/
def guardedSpec : ChangeSpec := { name := "guarded", fn := fun _ => fun
  | [d1, d2, d3, d4, d5] => { results := [.lit (.bool true)], args := [d1, d2, d3, d4, d5] }
  | _ => none }
def guardedRow : OpenClaim := { program := "ytajphdppmdoalaa", sum := "e98e7256348eea22de91274b6946cce30ee515b53b71ea322dc0d4d62932f914", func := "ferry/ferrykeep.Guarded", spec := "guarded", apart := false }
def GuardedSaid : Prop := guardedRow.holds Try.pinned (OpenSpec.ofChange guardedSpec)

/-- ITS FALSE NEIGHBOUR: 'it returns false'. Refute it at one input. -/
def guardedWrong : ChangeSpec := { name := "guarded", fn := fun _ => fun
  | [d1, d2, d3, d4, d5] => { results := [.lit (.bool false)], args := [d1, d2, d3, d4, d5] }
  | _ => none }
def GuardedWrongFalsely : Prop := guardedRow.holds Try.pinned (OpenSpec.ofChange guardedWrong)

/-- 'ferrykeep.Spread': WHATEVER THE INPUT: true; the input reads as it did. -/
def spreadSpec : ChangeSpec := { name := "spread", fn := fun _ => fun
  | [d1, d2] => { results := [.lit (.bool true)], args := [d1, d2] }
  | _ => none }
def spreadRow : OpenClaim := { program := "ytajphdppmdoalaa", sum := "e98e7256348eea22de91274b6946cce30ee515b53b71ea322dc0d4d62932f914", func := "ferry/ferrykeep.Spread", spec := "spread", apart := false }
def SpreadSaid : Prop := spreadRow.holds Try.pinned (OpenSpec.ofChange spreadSpec)

/-- ITS FALSE NEIGHBOUR: 'it returns false'. Refute it at one input. -/
def spreadWrong : ChangeSpec := { name := "spread", fn := fun _ => fun
  | [d1, d2] => { results := [.lit (.bool false)], args := [d1, d2] }
  | _ => none }
def SpreadWrongFalsely : Prop := spreadRow.holds Try.pinned (OpenSpec.ofChange spreadWrong)

/-- 'ferrykeep.Together': WHATEVER THE INPUT: true; the input reads as it did. -/
def togetherSpec : ChangeSpec := { name := "together", fn := fun _ => fun
  | [d1, d2, d3, d4, d5, d6] => { results := [.lit (.bool true)], args := [d1, d2, d3, d4, d5, d6] }
  | _ => none }
def togetherRow : OpenClaim := { program := "ytajphdppmdoalaa", sum := "e98e7256348eea22de91274b6946cce30ee515b53b71ea322dc0d4d62932f914", func := "ferry/ferrykeep.Together", spec := "together", apart := false }
def TogetherSaid : Prop := togetherRow.holds Try.pinned (OpenSpec.ofChange togetherSpec)

/-- ITS FALSE NEIGHBOUR: 'it returns false'. Refute it at one input. -/
def togetherWrong : ChangeSpec := { name := "together", fn := fun _ => fun
  | [d1, d2, d3, d4, d5, d6] => { results := [.lit (.bool false)], args := [d1, d2, d3, d4, d5, d6] }
  | _ => none }
def TogetherWrongFalsely : Prop := togetherRow.holds Try.pinned (OpenSpec.ofChange togetherWrong)

/-- 'ferrykeep.Counted': WHATEVER THE INPUT: true; the input reads as it did. -/
def countedSpec : ChangeSpec := { name := "counted", fn := fun _ => fun
  | [d1, d2, d3] => { results := [.lit (.bool true)], args := [d1, d2, d3] }
  | _ => none }
def countedRow : OpenClaim := { program := "ytajphdppmdoalaa", sum := "e98e7256348eea22de91274b6946cce30ee515b53b71ea322dc0d4d62932f914", func := "ferry/ferrykeep.Counted", spec := "counted", apart := false }
def CountedSaid : Prop := countedRow.holds Try.pinned (OpenSpec.ofChange countedSpec)

/-- ITS FALSE NEIGHBOUR: 'it returns false'. Refute it at one input. -/
def countedWrong : ChangeSpec := { name := "counted", fn := fun _ => fun
  | [d1, d2, d3] => { results := [.lit (.bool false)], args := [d1, d2, d3] }
  | _ => none }
def CountedWrongFalsely : Prop := countedRow.holds Try.pinned (OpenSpec.ofChange countedWrong)

/-- 'ferrykeep.Ended': WHATEVER THE INPUT: true; the input reads as it did. -/
def endedSpec : ChangeSpec := { name := "ended", fn := fun _ => fun
  | [d1, d2, d3] => { results := [.lit (.bool true)], args := [d1, d2, d3] }
  | _ => none }
def endedRow : OpenClaim := { program := "ytajphdppmdoalaa", sum := "e98e7256348eea22de91274b6946cce30ee515b53b71ea322dc0d4d62932f914", func := "ferry/ferrykeep.Ended", spec := "ended", apart := false }
def EndedSaid : Prop := endedRow.holds Try.pinned (OpenSpec.ofChange endedSpec)

/-- ITS FALSE NEIGHBOUR: 'it returns false'. Refute it at one input. -/
def endedWrong : ChangeSpec := { name := "ended", fn := fun _ => fun
  | [d1, d2, d3] => { results := [.lit (.bool false)], args := [d1, d2, d3] }
  | _ => none }
def EndedWrongFalsely : Prop := endedRow.holds Try.pinned (OpenSpec.ofChange endedWrong)

/- THE SECOND FORM. 'bulk': how many values and letters a reading holds, each counted each time it is reached (what is shared counts as often as it is met; a slice's spare places count too). A statement '..UptoSaid' is the law's where the arguments, and the package variables that the reading takes, are together of bulk at most 1048576: NARROWER than '..Said'. Prove '..Said' where nothing that the law and all that it calls make is longer than what came in: it says more and counts as full. Else prove '..UptoSaid'. A law counts once. -/
mutual
def uptoBulk {H : Type} : DataW H → Nat
  | .lit (.string bytes) => bytes.length + 1
  | .lit _ => 1
  | .nil => 1
  | .ptr d => uptoBulk d + 1
  | .slice elems spare => uptoBulkAll elems + uptoBulkAll spare + 1
  | .agg parts => uptoBulkAll parts + 1
  | .iface _ d => uptoBulk d + 1
  | .map entries => uptoBulkEntries entries + 1
  | .held _ => 1
def uptoBulkAll {H : Type} : List (DataW H) → Nat
  | [] => 0
  | d :: r => uptoBulk d + uptoBulkAll r
def uptoBulkEntries {H : Type} : List (Lit × DataW H) → Nat
  | [] => 0
  | x :: r => uptoBulkEntry x + uptoBulkEntries r
def uptoBulkEntry {H : Type} : Lit × DataW H → Nat
  | (.string bytes, d) => bytes.length + uptoBulk d + 1
  | (_, d) => uptoBulk d + 1
 end
def uptoSmall : (H : Type) → List (DataW H) → Bool := fun _ ds => decide (uptoBulkAll ds ≤ 1048576)
def OpenSpec.upto (s : _root_.Go.ChangeSpec) : _root_.Go.OpenSpec := { _root_.Go.OpenSpec.ofChange s with cond := some uptoSmall }

/-- 'ferrykeep.Carried', WHERE WHAT IT READS IS OF BULK AT MOST 1048576: true; the input reads as it did. -/
def carriedUptoRow : OpenClaim := { program := "ytajphdppmdoalaa", sum := "e98e7256348eea22de91274b6946cce30ee515b53b71ea322dc0d4d62932f914", func := "ferry/ferrykeep.Carried", spec := "carried", apart := false, narrowed := true }
def CarriedUptoSaid : Prop := carriedUptoRow.holds Try.pinned (OpenSpec.upto carriedSpec)

/-- 'ferrykeep.Guarded', WHERE WHAT IT READS IS OF BULK AT MOST 1048576: true; the input reads as it did. -/
def guardedUptoRow : OpenClaim := { program := "ytajphdppmdoalaa", sum := "e98e7256348eea22de91274b6946cce30ee515b53b71ea322dc0d4d62932f914", func := "ferry/ferrykeep.Guarded", spec := "guarded", apart := false, narrowed := true }
def GuardedUptoSaid : Prop := guardedUptoRow.holds Try.pinned (OpenSpec.upto guardedSpec)

/-- 'ferrykeep.Spread', WHERE WHAT IT READS IS OF BULK AT MOST 1048576: true; the input reads as it did. -/
def spreadUptoRow : OpenClaim := { program := "ytajphdppmdoalaa", sum := "e98e7256348eea22de91274b6946cce30ee515b53b71ea322dc0d4d62932f914", func := "ferry/ferrykeep.Spread", spec := "spread", apart := false, narrowed := true }
def SpreadUptoSaid : Prop := spreadUptoRow.holds Try.pinned (OpenSpec.upto spreadSpec)

/-- 'ferrykeep.Together', WHERE WHAT IT READS IS OF BULK AT MOST 1048576: true; the input reads as it did. -/
def togetherUptoRow : OpenClaim := { program := "ytajphdppmdoalaa", sum := "e98e7256348eea22de91274b6946cce30ee515b53b71ea322dc0d4d62932f914", func := "ferry/ferrykeep.Together", spec := "together", apart := false, narrowed := true }
def TogetherUptoSaid : Prop := togetherUptoRow.holds Try.pinned (OpenSpec.upto togetherSpec)

/-- 'ferrykeep.Counted', WHERE WHAT IT READS IS OF BULK AT MOST 1048576: true; the input reads as it did. -/
def countedUptoRow : OpenClaim := { program := "ytajphdppmdoalaa", sum := "e98e7256348eea22de91274b6946cce30ee515b53b71ea322dc0d4d62932f914", func := "ferry/ferrykeep.Counted", spec := "counted", apart := false, narrowed := true }
def CountedUptoSaid : Prop := countedUptoRow.holds Try.pinned (OpenSpec.upto countedSpec)

/-- 'ferrykeep.Ended', WHERE WHAT IT READS IS OF BULK AT MOST 1048576: true; the input reads as it did. -/
def endedUptoRow : OpenClaim := { program := "ytajphdppmdoalaa", sum := "e98e7256348eea22de91274b6946cce30ee515b53b71ea322dc0d4d62932f914", func := "ferry/ferrykeep.Ended", spec := "ended", apart := false, narrowed := true }
def EndedUptoSaid : Prop := endedUptoRow.holds Try.pinned (OpenSpec.upto endedSpec)

end Rows
end Go.Proofs.Ytajphdppmdoalaa
