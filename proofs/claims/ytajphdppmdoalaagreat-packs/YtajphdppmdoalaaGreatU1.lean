import Derived.Test.YtajphdppmdoalaaGreatT6
namespace Go.Proofs.YtajphdppmdoalaaGreat
open Go.RowKit
set_option linter.unusedVariables false

set_option maxHeartbeats 800000 in
theorem formed_any (src dst proto id off : Int) (more : Bool) (sport dport : Int) (ao : Option Addr) (n cap : Nat) (w : World) (hoff0 : 0 ≤ off) (hn : n ≤ maxLen) :
    Calls Tryz.prog 61 #[.agg #[.int .u16 src, .int .u16 dst, .int .u8 proto, .int .u16 id, .int .u8 off, .bool more, .int .u16 sport, .int .u16 dport, .slice ao n cap]] w fun e w' => e = .returned (.bool (wfB off more sport dport n)) ∧ ∃ o, w' = w.alloc o := by
  unfold maxLen at hn
  go_enter Tryz.func61, Tryz.ntmps61
  go_wp2
  all_goals
    go_ret
    refine ⟨ret_bool ?_, _, rfl⟩
    go_light
    simp_all [wfB]
    try first | omega | (rw [Bool.eq_iff_iff]; simp; omega) | (intros; omega)

theorem two_any (n : Int) (w : World) (h0 : 0 ≤ n) (h : n ≤ 65535) :
    Calls Tryz.prog 62 #[.int .i64 n] w fun e w' => e = .returned (.slice (some ⟨w.heap.size, 0, none⟩) 2 2) ∧ w' = w.alloc (.cells #[.int .u8 (n / 256), .int .u8 (n % 256)] 5) := by
  go_enter Tryz.func62, Tryz.ntmps62
  go_wp2
  go_ret
  exact ⟨rfl, rfl⟩

set_option maxHeartbeats 800000 in
theorem number_any (g o n cap at' : Nat) (x y : Int) (w : World) (hx : 0 ≤ x ∧ x ≤ 255) (hy : 0 ≤ y ∧ y ≤ 255) (hat : at' + 1 < n) (hn : n ≤ 9223372036854775807)
    (c0 : w.cell? ⟨g, o + at', none⟩ = some (.int .u8 x)) (c1 : w.cell? ⟨g, o + (at' + 1), none⟩ = some (.int .u8 y)) :
    Calls Tryz.prog 65 #[.slice (some ⟨g, o, none⟩) n cap, .int .i64 at'] w fun e w' => e = .returned (.int .i64 (x * 256 + y)) ∧ ∃ m, w' = w.drewN m := by
  have i1 : (at' : Int) < (n : Int) := by omega
  have i2 : (at' : Int) + 1 < (n : Int) := by omega
  go_enter Tryz.func65, Tryz.ntmps65
  go_wp2_with fail
  go_quiet (fail)
  go_wp2
  go_ret
  exact ⟨ret_int (by omega), _, rfl⟩

end Go.Proofs.YtajphdppmdoalaaGreat
