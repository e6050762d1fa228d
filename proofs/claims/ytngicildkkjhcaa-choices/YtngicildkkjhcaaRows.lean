/-
  No cell of these rows narrows 'for every input' (looked for: loops, veiled, ifaces, maps, wideKeys, modest, calm, conditions, laid).
  DERIVED. THE GIVEN ROWS OF THIS SEAT. 7 by the template 'for every input the law returns true; each argument reads behind the call as it read before'; 0 by the template 'total and deterministic' (their statements: YtngicildkkjhcaaTotals.lean).
  GIVEN WITH THE SEED: the statements are not yours to turn. If you find one false, say at which input.
  Laid BY PROGRAM, IN A SANDBOX (cutbox-rows.mjs): the forced cells as the released guide's own fill.sh prints them over the translation ba1b1cd55b24f132… (all of the seat's roots in one cut). By AI agents, Wed Nov 11 2026. No macro, syntax, notation, axiom, sorry.
-/
import Derived.Test.YtngicildkkjhcaaChecked
import GoSem.Claim
import GoSem.ClaimJoined
import GoSem.ClaimMapViews
import Derived.JoinedTies
import Derived.KernelRfl
namespace Go.Proofs.Ytngicildkkjhcaa
/- THE CELL 'sum', in the pinned program and in every row, IS THE sha256 OF THE DUMP (.gsa) THAT YtngicildkkjhcaaProg.lean LOADS. Nothing in Lean hashes anything: it is a label: what it is worth is what the hold of that sum in a sandbox is worth. -/
noncomputable def Try.pinned : Pinned := { name := "ytngicildkkjhcaa", sum := "ba1b1cd55b24f132f9fc7e290c64f003908f690f73e956a47e45f709ac449ec8", checked := Try.checked }
namespace Rows
def none {H : Type} : Left H := { results := [], args := [] }

/-- 'ferrylaw.Packs': WHATEVER THE INPUT: true; the input reads as it did. -/
def packsSpec : ChangeSpec := { name := "packs", fn := fun _ => fun
  | [d] => { results := [.lit (.bool true)], args := [d] }
  | _ => none }
def packsRow : OpenClaim := { program := "ytngicildkkjhcaa", sum := "ba1b1cd55b24f132f9fc7e290c64f003908f690f73e956a47e45f709ac449ec8", func := "ferry/ferrylaw.Packs", spec := "packs", apart := false }
def PacksSaid : Prop := packsRow.holds Try.pinned (OpenSpec.ofChange packsSpec)

/-- ITS FALSE NEIGHBOUR: 'it returns false'. Refute it at one input. -/
def packsWrong : ChangeSpec := { name := "packs", fn := fun _ => fun
  | [d] => { results := [.lit (.bool false)], args := [d] }
  | _ => none }
def PacksWrongFalsely : Prop := packsRow.holds Try.pinned (OpenSpec.ofChange packsWrong)

/-- 'ferrylaw.Unpacks': WHATEVER THE INPUT: true; the input reads as it did. -/
def unpacksSpec : ChangeSpec := { name := "unpacks", fn := fun _ => fun
  | [d] => { results := [.lit (.bool true)], args := [d] }
  | _ => none }
def unpacksRow : OpenClaim := { program := "ytngicildkkjhcaa", sum := "ba1b1cd55b24f132f9fc7e290c64f003908f690f73e956a47e45f709ac449ec8", func := "ferry/ferrylaw.Unpacks", spec := "unpacks", apart := false }
def UnpacksSaid : Prop := unpacksRow.holds Try.pinned (OpenSpec.ofChange unpacksSpec)

/-- ITS FALSE NEIGHBOUR: 'it returns false'. Refute it at one input. -/
def unpacksWrong : ChangeSpec := { name := "unpacks", fn := fun _ => fun
  | [d] => { results := [.lit (.bool false)], args := [d] }
  | _ => none }
def UnpacksWrongFalsely : Prop := unpacksRow.holds Try.pinned (OpenSpec.ofChange unpacksWrong)

/-- 'ferrylaw.Choices': WHATEVER THE INPUT: true; the input reads as it did. -/
def choicesSpec : ChangeSpec := { name := "choices", fn := fun _ => fun
  | [d] => { results := [.lit (.bool true)], args := [d] }
  | _ => none }
def choicesRow : OpenClaim := { program := "ytngicildkkjhcaa", sum := "ba1b1cd55b24f132f9fc7e290c64f003908f690f73e956a47e45f709ac449ec8", func := "ferry/ferrylaw.Choices", spec := "choices", apart := false }
def ChoicesSaid : Prop := choicesRow.holds Try.pinned (OpenSpec.ofChange choicesSpec)

/-- ITS FALSE NEIGHBOUR: 'it returns false'. Refute it at one input. -/
def choicesWrong : ChangeSpec := { name := "choices", fn := fun _ => fun
  | [d] => { results := [.lit (.bool false)], args := [d] }
  | _ => none }
def ChoicesWrongFalsely : Prop := choicesRow.holds Try.pinned (OpenSpec.ofChange choicesWrong)

/-- 'ferrylaw.Flows': WHATEVER THE INPUT: true; the input reads as it did. -/
def flowsSpec : ChangeSpec := { name := "flows", fn := fun _ => fun
  | [d] => { results := [.lit (.bool true)], args := [d] }
  | _ => none }
def flowsRow : OpenClaim := { program := "ytngicildkkjhcaa", sum := "ba1b1cd55b24f132f9fc7e290c64f003908f690f73e956a47e45f709ac449ec8", func := "ferry/ferrylaw.Flows", spec := "flows", apart := false }
def FlowsSaid : Prop := flowsRow.holds Try.pinned (OpenSpec.ofChange flowsSpec)

/-- ITS FALSE NEIGHBOUR: 'it returns false'. Refute it at one input. -/
def flowsWrong : ChangeSpec := { name := "flows", fn := fun _ => fun
  | [d] => { results := [.lit (.bool false)], args := [d] }
  | _ => none }
def FlowsWrongFalsely : Prop := flowsRow.holds Try.pinned (OpenSpec.ofChange flowsWrong)

/-- 'ferrykeep.Carried': WHATEVER THE INPUT: true; the input reads as it did. -/
def carriedSpec : ChangeSpec := { name := "carried", fn := fun _ => fun
  | [d1, d2, d3, d4, d5] => { results := [.lit (.bool true)], args := [d1, d2, d3, d4, d5] }
  | _ => none }
def carriedRow : OpenClaim := { program := "ytngicildkkjhcaa", sum := "ba1b1cd55b24f132f9fc7e290c64f003908f690f73e956a47e45f709ac449ec8", func := "ferry/ferrykeep.Carried", spec := "carried", apart := false }
def CarriedSaid : Prop := carriedRow.holds Try.pinned (OpenSpec.ofChange carriedSpec)

/-- ITS FALSE NEIGHBOUR: 'it returns false'. Refute it at one input. -/
def carriedWrong : ChangeSpec := { name := "carried", fn := fun _ => fun
  | [d1, d2, d3, d4, d5] => { results := [.lit (.bool false)], args := [d1, d2, d3, d4, d5] }
  | _ => none }
def CarriedWrongFalsely : Prop := carriedRow.holds Try.pinned (OpenSpec.ofChange carriedWrong)

/-- 'ferrykeep.Guarded': WHATEVER THE INPUT: true; the input reads as it did. -/
def guardedSpec : ChangeSpec := { name := "guarded", fn := fun _ => fun
  | [d1, d2, d3, d4, d5] => { results := [.lit (.bool true)], args := [d1, d2, d3, d4, d5] }
  | _ => none }
def guardedRow : OpenClaim := { program := "ytngicildkkjhcaa", sum := "ba1b1cd55b24f132f9fc7e290c64f003908f690f73e956a47e45f709ac449ec8", func := "ferry/ferrykeep.Guarded", spec := "guarded", apart := false }
def GuardedSaid : Prop := guardedRow.holds Try.pinned (OpenSpec.ofChange guardedSpec)

/-- ITS FALSE NEIGHBOUR: 'it returns false'. Refute it at one input. -/
def guardedWrong : ChangeSpec := { name := "guarded", fn := fun _ => fun
  | [d1, d2, d3, d4, d5] => { results := [.lit (.bool false)], args := [d1, d2, d3, d4, d5] }
  | _ => none }
def GuardedWrongFalsely : Prop := guardedRow.holds Try.pinned (OpenSpec.ofChange guardedWrong)

/-- 'ferrykeep.Spread': WHATEVER THE INPUT: true; the input reads as it did. -/
def spreadSpec : ChangeSpec := { name := "spread", fn := fun _ => fun
  | [d1, d2] => { results := [.lit (.bool true)], args := [d1, d2] }
  | _ => none }
def spreadRow : OpenClaim := { program := "ytngicildkkjhcaa", sum := "ba1b1cd55b24f132f9fc7e290c64f003908f690f73e956a47e45f709ac449ec8", func := "ferry/ferrykeep.Spread", spec := "spread", apart := false }
def SpreadSaid : Prop := spreadRow.holds Try.pinned (OpenSpec.ofChange spreadSpec)

/-- ITS FALSE NEIGHBOUR: 'it returns false'. Refute it at one input. -/
def spreadWrong : ChangeSpec := { name := "spread", fn := fun _ => fun
  | [d1, d2] => { results := [.lit (.bool false)], args := [d1, d2] }
  | _ => none }
def SpreadWrongFalsely : Prop := spreadRow.holds Try.pinned (OpenSpec.ofChange spreadWrong)

/- THE SECOND FORM. 'bulk': how many values and letters a reading holds, each counted each time it is reached (what is shared counts as often as it is met; a slice's spare places count too). A statement '..UptoSaid' is the law's where the arguments, and the package variables that the reading takes, are together of bulk at most 1048576: NARROWER than '..Said'. Prove '..Said' where nothing that the law and all that it calls make is longer than what came in: it says more and counts as full. Else prove '..UptoSaid'. A law counts once. -/
mutual
def uptoBulk {H : Type} : DataW H → Nat
  | .lit (.string bytes) => bytes.length + 1
  | .lit _ => 1
  | .nil => 1
  | .ptr d => uptoBulk d + 1
  | .slice elems spare => uptoBulkAll elems + uptoBulkAll spare + 1
  | .agg parts => uptoBulkAll parts + 1
  | .iface _ d => uptoBulk d + 1
  | .map entries => uptoBulkEntries entries + 1
  | .held _ => 1
def uptoBulkAll {H : Type} : List (DataW H) → Nat
  | [] => 0
  | d :: r => uptoBulk d + uptoBulkAll r
def uptoBulkEntries {H : Type} : List (Lit × DataW H) → Nat
  | [] => 0
  | x :: r => uptoBulkEntry x + uptoBulkEntries r
def uptoBulkEntry {H : Type} : Lit × DataW H → Nat
  | (.string bytes, d) => bytes.length + uptoBulk d + 1
  | (_, d) => uptoBulk d + 1
 end
def uptoSmall : (H : Type) → List (DataW H) → Bool := fun _ ds => decide (uptoBulkAll ds ≤ 1048576)
def OpenSpec.upto (s : _root_.Go.ChangeSpec) : _root_.Go.OpenSpec := { _root_.Go.OpenSpec.ofChange s with cond := some uptoSmall }

/-- 'ferrylaw.Packs', WHERE WHAT IT READS IS OF BULK AT MOST 1048576: true; the input reads as it did. -/
def packsUptoRow : OpenClaim := { program := "ytngicildkkjhcaa", sum := "ba1b1cd55b24f132f9fc7e290c64f003908f690f73e956a47e45f709ac449ec8", func := "ferry/ferrylaw.Packs", spec := "packs", apart := false, narrowed := true }
def PacksUptoSaid : Prop := packsUptoRow.holds Try.pinned (OpenSpec.upto packsSpec)

/-- 'ferrylaw.Unpacks', WHERE WHAT IT READS IS OF BULK AT MOST 1048576: true; the input reads as it did. -/
def unpacksUptoRow : OpenClaim := { program := "ytngicildkkjhcaa", sum := "ba1b1cd55b24f132f9fc7e290c64f003908f690f73e956a47e45f709ac449ec8", func := "ferry/ferrylaw.Unpacks", spec := "unpacks", apart := false, narrowed := true }
def UnpacksUptoSaid : Prop := unpacksUptoRow.holds Try.pinned (OpenSpec.upto unpacksSpec)

/-- 'ferrylaw.Choices', WHERE WHAT IT READS IS OF BULK AT MOST 1048576: true; the input reads as it did. -/
def choicesUptoRow : OpenClaim := { program := "ytngicildkkjhcaa", sum := "ba1b1cd55b24f132f9fc7e290c64f003908f690f73e956a47e45f709ac449ec8", func := "ferry/ferrylaw.Choices", spec := "choices", apart := false, narrowed := true }
def ChoicesUptoSaid : Prop := choicesUptoRow.holds Try.pinned (OpenSpec.upto choicesSpec)

/-- 'ferrylaw.Flows', WHERE WHAT IT READS IS OF BULK AT MOST 1048576: true; the input reads as it did. -/
def flowsUptoRow : OpenClaim := { program := "ytngicildkkjhcaa", sum := "ba1b1cd55b24f132f9fc7e290c64f003908f690f73e956a47e45f709ac449ec8", func := "ferry/ferrylaw.Flows", spec := "flows", apart := false, narrowed := true }
def FlowsUptoSaid : Prop := flowsUptoRow.holds Try.pinned (OpenSpec.upto flowsSpec)

/-- 'ferrykeep.Carried', WHERE WHAT IT READS IS OF BULK AT MOST 1048576: true; the input reads as it did. -/
def carriedUptoRow : OpenClaim := { program := "ytngicildkkjhcaa", sum := "ba1b1cd55b24f132f9fc7e290c64f003908f690f73e956a47e45f709ac449ec8", func := "ferry/ferrykeep.Carried", spec := "carried", apart := false, narrowed := true }
def CarriedUptoSaid : Prop := carriedUptoRow.holds Try.pinned (OpenSpec.upto carriedSpec)

/-- 'ferrykeep.Guarded', WHERE WHAT IT READS IS OF BULK AT MOST 1048576: true; the input reads as it did. -/
def guardedUptoRow : OpenClaim := { program := "ytngicildkkjhcaa", sum := "ba1b1cd55b24f132f9fc7e290c64f003908f690f73e956a47e45f709ac449ec8", func := "ferry/ferrykeep.Guarded", spec := "guarded", apart := false, narrowed := true }
def GuardedUptoSaid : Prop := guardedUptoRow.holds Try.pinned (OpenSpec.upto guardedSpec)

/-- 'ferrykeep.Spread', WHERE WHAT IT READS IS OF BULK AT MOST 1048576: true; the input reads as it did. -/
def spreadUptoRow : OpenClaim := { program := "ytngicildkkjhcaa", sum := "ba1b1cd55b24f132f9fc7e290c64f003908f690f73e956a47e45f709ac449ec8", func := "ferry/ferrykeep.Spread", spec := "spread", apart := false, narrowed := true }
def SpreadUptoSaid : Prop := spreadUptoRow.holds Try.pinned (OpenSpec.upto spreadSpec)

end Rows
end Go.Proofs.Ytngicildkkjhcaa
