import Derived.Test.YtajphdppmdoalaaGreatW2
import Derived.Test.YtajphdppmdoalaaGreatL
namespace Go.Proofs.YtajphdppmdoalaaGreat
open Go.RowKit
set_option linter.unusedVariables false

set_option maxRecDepth 100000 in
set_option maxHeartbeats 400000 in
theorem samePacket_true (src dst proto id off : Int) (more : Bool) (sport dport : Int) (zs : List Int) (ao ao' : Option Addr) (n cap cap' : Nat) (w : World) (hn : zs.length = n) (h1 : Has w ao zs) (h2 : Has w ao' zs) :
    Calls Tryz.prog 33 #[.agg #[.int .u16 src, .int .u16 dst, .int .u8 proto, .int .u16 id, .int .u8 off, .bool more, .int .u16 sport, .int .u16 dport, .slice ao n cap], .agg #[.int .u16 src, .int .u16 dst, .int .u8 proto, .int .u16 id, .int .u8 off, .bool more, .int .u16 sport, .int .u16 dport, .slice ao' n cap']] w fun e w' => e = .returned (.bool true) ∧ Below w.heap.size w w' := by
  subst hn
  have hc1 : ∀ o o', (convert 38 9 (.slice ao zs.length cap)).run Tryz.prog ((w.alloc o).alloc o') = .ok (.string (strOfNums zs)) ((w.alloc o).alloc o') := fun o o' => conv_has (h1.below (((Below.refl _ _).alloc (Nat.le_refl _) _).alloc (by simp) _)) cap
  have hc2 : ∀ o o', (convert 38 9 (.slice ao' zs.length cap')).run Tryz.prog ((w.alloc o).alloc o') = .ok (.string (strOfNums zs)) ((w.alloc o).alloc o') := fun o o' => conv_has (h2.below (((Below.refl _ _).alloc (Nat.le_refl _) _).alloc (by simp) _)) cap'
  clear h1 h2
  go_enter Tryz.func33, Tryz.ntmps33
  go_wp2
  go_ret
  exact ⟨by simp, (((Below.refl _ _).alloc (Nat.le_refl _) _).alloc (by simp) _)⟩

end Go.Proofs.YtajphdppmdoalaaGreat
