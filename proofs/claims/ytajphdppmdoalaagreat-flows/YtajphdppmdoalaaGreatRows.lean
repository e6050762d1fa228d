/-
  No cell of these rows narrows 'for every input' (looked for: loops, veiled, ifaces, maps, wideKeys, modest, calm, conditions, laid).
  DERIVED. THE GIVEN ROWS OF THIS SEAT. 6 by the template 'for every input the law returns true; each argument reads behind the call as it read before'; 0 by the template 'total and deterministic' (their statements: YtajphdppmdoalaaGreatTotals.lean).
  GIVEN WITH THE SEED: the statements are not yours to turn. If you find one false, say at which input.
  Laid BY PROGRAM, IN A SANDBOX (cutbox-rows.mjs): the forced cells as the released guide's own fill.sh prints them over the translation ff8c9ac4952cca7d… (all of the seat's roots in one cut). By AI agents, Wed Nov 11 2026. No macro, syntax, notation, axiom, sorry.
-/
import Derived.Test.YtajphdppmdoalaaGreatChecked
import GoSem.Claim
import GoSem.ClaimJoined
import GoSem.ClaimMapViews
import Derived.JoinedTies
import Derived.KernelRfl
namespace Go.Proofs.YtajphdppmdoalaaGreat
/- THE CELL 'sum', in the pinned program and in every row, IS THE sha256 OF THE DUMP (.gsa) THAT YtajphdppmdoalaaGreatProg.lean LOADS. Nothing in Lean hashes anything: it is a label: what it is worth is what the hold of that sum in a sandbox is worth. -/
noncomputable def Tryz.pinned : Pinned := { name := "ytajphdppmdoalaagreat", sum := "ff8c9ac4952cca7d9f2173dbf9dc383b330d78075bbd4fa73cd05c336a1a5394", checked := Tryz.checked }
namespace Rows
def none {H : Type} : Left H := { results := [], args := [] }

/-- 'ferrylaw.Packs': WHATEVER THE INPUT: true; the input reads as it did. -/
def packsSpec : ChangeSpec := { name := "packs", fn := fun _ => fun
  | [d] => { results := [.lit (.bool true)], args := [d] }
  | _ => none }
def packsRow : OpenClaim := { program := "ytajphdppmdoalaagreat", sum := "ff8c9ac4952cca7d9f2173dbf9dc383b330d78075bbd4fa73cd05c336a1a5394", func := "ferry/ferrylaw.Packs", spec := "packs", apart := false }
def PacksSaid : Prop := packsRow.holds Tryz.pinned (OpenSpec.ofChange packsSpec)

/-- ITS FALSE NEIGHBOUR: 'it returns false'. Refute it at one input. -/
def packsWrong : ChangeSpec := { name := "packs", fn := fun _ => fun
  | [d] => { results := [.lit (.bool false)], args := [d] }
  | _ => none }
def PacksWrongFalsely : Prop := packsRow.holds Tryz.pinned (OpenSpec.ofChange packsWrong)

/-- 'ferrylaw.Unpacks': WHATEVER THE INPUT: true; the input reads as it did. -/
def unpacksSpec : ChangeSpec := { name := "unpacks", fn := fun _ => fun
  | [d] => { results := [.lit (.bool true)], args := [d] }
  | _ => none }
def unpacksRow : OpenClaim := { program := "ytajphdppmdoalaagreat", sum := "ff8c9ac4952cca7d9f2173dbf9dc383b330d78075bbd4fa73cd05c336a1a5394", func := "ferry/ferrylaw.Unpacks", spec := "unpacks", apart := false }
def UnpacksSaid : Prop := unpacksRow.holds Tryz.pinned (OpenSpec.ofChange unpacksSpec)

/-- ITS FALSE NEIGHBOUR: 'it returns false'. Refute it at one input. -/
def unpacksWrong : ChangeSpec := { name := "unpacks", fn := fun _ => fun
  | [d] => { results := [.lit (.bool false)], args := [d] }
  | _ => none }
def UnpacksWrongFalsely : Prop := unpacksRow.holds Tryz.pinned (OpenSpec.ofChange unpacksWrong)

/-- 'ferrylaw.Choices': WHATEVER THE INPUT: true; the input reads as it did. -/
def choicesSpec : ChangeSpec := { name := "choices", fn := fun _ => fun
  | [d] => { results := [.lit (.bool true)], args := [d] }
  | _ => none }
def choicesRow : OpenClaim := { program := "ytajphdppmdoalaagreat", sum := "ff8c9ac4952cca7d9f2173dbf9dc383b330d78075bbd4fa73cd05c336a1a5394", func := "ferry/ferrylaw.Choices", spec := "choices", apart := false }
def ChoicesSaid : Prop := choicesRow.holds Tryz.pinned (OpenSpec.ofChange choicesSpec)

/-- ITS FALSE NEIGHBOUR: 'it returns false'. Refute it at one input. -/
def choicesWrong : ChangeSpec := { name := "choices", fn := fun _ => fun
  | [d] => { results := [.lit (.bool false)], args := [d] }
  | _ => none }
def ChoicesWrongFalsely : Prop := choicesRow.holds Tryz.pinned (OpenSpec.ofChange choicesWrong)

/-- 'ferrylaw.Flows': WHATEVER THE INPUT: true; the input reads as it did. -/
def flowsSpec : ChangeSpec := { name := "flows", fn := fun _ => fun
  | [d] => { results := [.lit (.bool true)], args := [d] }
  | _ => none }
def flowsRow : OpenClaim := { program := "ytajphdppmdoalaagreat", sum := "ff8c9ac4952cca7d9f2173dbf9dc383b330d78075bbd4fa73cd05c336a1a5394", func := "ferry/ferrylaw.Flows", spec := "flows", apart := false }
def FlowsSaid : Prop := flowsRow.holds Tryz.pinned (OpenSpec.ofChange flowsSpec)

/-- ITS FALSE NEIGHBOUR: 'it returns false'. Refute it at one input. -/
def flowsWrong : ChangeSpec := { name := "flows", fn := fun _ => fun
  | [d] => { results := [.lit (.bool false)], args := [d] }
  | _ => none }
def FlowsWrongFalsely : Prop := flowsRow.holds Tryz.pinned (OpenSpec.ofChange flowsWrong)

/-- 'ferrylaw.Pieces': WHATEVER THE INPUT: true; the input reads as it did. -/
def piecesSpec : ChangeSpec := { name := "pieces", fn := fun _ => fun
  | [d] => { results := [.lit (.bool true)], args := [d] }
  | _ => none }
def piecesRow : OpenClaim := { program := "ytajphdppmdoalaagreat", sum := "ff8c9ac4952cca7d9f2173dbf9dc383b330d78075bbd4fa73cd05c336a1a5394", func := "ferry/ferrylaw.Pieces", spec := "pieces", apart := false }
def PiecesSaid : Prop := piecesRow.holds Tryz.pinned (OpenSpec.ofChange piecesSpec)

/-- ITS FALSE NEIGHBOUR: 'it returns false'. Refute it at one input. -/
def piecesWrong : ChangeSpec := { name := "pieces", fn := fun _ => fun
  | [d] => { results := [.lit (.bool false)], args := [d] }
  | _ => none }
def PiecesWrongFalsely : Prop := piecesRow.holds Tryz.pinned (OpenSpec.ofChange piecesWrong)

/-- 'ferrylaw.All': WHATEVER THE INPUT: true; the input reads as it did. -/
def allSpec : ChangeSpec := { name := "all", fn := fun _ => fun
  | [d] => { results := [.lit (.bool true)], args := [d] }
  | _ => none }
def allRow : OpenClaim := { program := "ytajphdppmdoalaagreat", sum := "ff8c9ac4952cca7d9f2173dbf9dc383b330d78075bbd4fa73cd05c336a1a5394", func := "ferry/ferrylaw.All", spec := "all", apart := false }
def AllSaid : Prop := allRow.holds Tryz.pinned (OpenSpec.ofChange allSpec)

/-- ITS FALSE NEIGHBOUR: 'it returns false'. Refute it at one input. -/
def allWrong : ChangeSpec := { name := "all", fn := fun _ => fun
  | [d] => { results := [.lit (.bool false)], args := [d] }
  | _ => none }
def AllWrongFalsely : Prop := allRow.holds Tryz.pinned (OpenSpec.ofChange allWrong)

/- THE SECOND FORM. 'bulk': how many values and letters a reading holds, each counted each time it is reached (what is shared counts as often as it is met; a slice's spare places count too). A statement '..UptoSaid' is the law's where the arguments, and the package variables that the reading takes, are together of bulk at most 1048576: NARROWER than '..Said'. Prove '..Said' where nothing that the law and all that it calls make is longer than what came in: it says more and counts as full. Else prove '..UptoSaid'. A law counts once. -/
mutual
def uptoBulk {H : Type} : DataW H → Nat
  | .lit (.string bytes) => bytes.length + 1
  | .lit _ => 1
  | .nil => 1
  | .ptr d => uptoBulk d + 1
  | .slice elems spare => uptoBulkAll elems + uptoBulkAll spare + 1
  | .agg parts => uptoBulkAll parts + 1
  | .iface _ d => uptoBulk d + 1
  | .map entries => uptoBulkEntries entries + 1
  | .held _ => 1
def uptoBulkAll {H : Type} : List (DataW H) → Nat
  | [] => 0
  | d :: r => uptoBulk d + uptoBulkAll r
def uptoBulkEntries {H : Type} : List (Lit × DataW H) → Nat
  | [] => 0
  | x :: r => uptoBulkEntry x + uptoBulkEntries r
def uptoBulkEntry {H : Type} : Lit × DataW H → Nat
  | (.string bytes, d) => bytes.length + uptoBulk d + 1
  | (_, d) => uptoBulk d + 1
 end
def uptoSmall : (H : Type) → List (DataW H) → Bool := fun _ ds => decide (uptoBulkAll ds ≤ 1048576)
def OpenSpec.upto (s : _root_.Go.ChangeSpec) : _root_.Go.OpenSpec := { _root_.Go.OpenSpec.ofChange s with cond := some uptoSmall }

/-- 'ferrylaw.Packs', WHERE WHAT IT READS IS OF BULK AT MOST 1048576: true; the input reads as it did. -/
def packsUptoRow : OpenClaim := { program := "ytajphdppmdoalaagreat", sum := "ff8c9ac4952cca7d9f2173dbf9dc383b330d78075bbd4fa73cd05c336a1a5394", func := "ferry/ferrylaw.Packs", spec := "packs", apart := false, narrowed := true }
def PacksUptoSaid : Prop := packsUptoRow.holds Tryz.pinned (OpenSpec.upto packsSpec)

/-- 'ferrylaw.Unpacks', WHERE WHAT IT READS IS OF BULK AT MOST 1048576: true; the input reads as it did. -/
def unpacksUptoRow : OpenClaim := { program := "ytajphdppmdoalaagreat", sum := "ff8c9ac4952cca7d9f2173dbf9dc383b330d78075bbd4fa73cd05c336a1a5394", func := "ferry/ferrylaw.Unpacks", spec := "unpacks", apart := false, narrowed := true }
def UnpacksUptoSaid : Prop := unpacksUptoRow.holds Tryz.pinned (OpenSpec.upto unpacksSpec)

/-- 'ferrylaw.Choices', WHERE WHAT IT READS IS OF BULK AT MOST 1048576: true; the input reads as it did. -/
def choicesUptoRow : OpenClaim := { program := "ytajphdppmdoalaagreat", sum := "ff8c9ac4952cca7d9f2173dbf9dc383b330d78075bbd4fa73cd05c336a1a5394", func := "ferry/ferrylaw.Choices", spec := "choices", apart := false, narrowed := true }
def ChoicesUptoSaid : Prop := choicesUptoRow.holds Tryz.pinned (OpenSpec.upto choicesSpec)

/-- 'ferrylaw.Flows', WHERE WHAT IT READS IS OF BULK AT MOST 1048576: true; the input reads as it did. -/
def flowsUptoRow : OpenClaim := { program := "ytajphdppmdoalaagreat", sum := "ff8c9ac4952cca7d9f2173dbf9dc383b330d78075bbd4fa73cd05c336a1a5394", func := "ferry/ferrylaw.Flows", spec := "flows", apart := false, narrowed := true }
def FlowsUptoSaid : Prop := flowsUptoRow.holds Tryz.pinned (OpenSpec.upto flowsSpec)

/-- 'ferrylaw.Pieces', WHERE WHAT IT READS IS OF BULK AT MOST 1048576: true; the input reads as it did. -/
def piecesUptoRow : OpenClaim := { program := "ytajphdppmdoalaagreat", sum := "ff8c9ac4952cca7d9f2173dbf9dc383b330d78075bbd4fa73cd05c336a1a5394", func := "ferry/ferrylaw.Pieces", spec := "pieces", apart := false, narrowed := true }
def PiecesUptoSaid : Prop := piecesUptoRow.holds Tryz.pinned (OpenSpec.upto piecesSpec)

/-- 'ferrylaw.All', WHERE WHAT IT READS IS OF BULK AT MOST 1048576: true; the input reads as it did. -/
def allUptoRow : OpenClaim := { program := "ytajphdppmdoalaagreat", sum := "ff8c9ac4952cca7d9f2173dbf9dc383b330d78075bbd4fa73cd05c336a1a5394", func := "ferry/ferrylaw.All", spec := "all", apart := false, narrowed := true }
def AllUptoSaid : Prop := allUptoRow.holds Tryz.pinned (OpenSpec.upto allSpec)

end Rows
end Go.Proofs.YtajphdppmdoalaaGreat
