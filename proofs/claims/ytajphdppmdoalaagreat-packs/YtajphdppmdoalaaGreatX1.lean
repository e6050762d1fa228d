import Derived.Test.YtajphdppmdoalaaGreatW2
namespace Go.Proofs.YtajphdppmdoalaaGreat
open Go.RowKit
set_option linter.unusedVariables false

set_option maxRecDepth 100000 in
set_option maxHeartbeats 800000 in
theorem plays_empty (K : Int) (hK5 : (K == 5) = false) (ao : Option Addr) (cap gk : Nat) (w : World) (hk : w.cell? ⟨gk, 0, none⟩ = some (.int .i64 K)) (hgk : gk < w.heap.size) :
    Calls Tryz.prog 9 #[.slice ao 0 cap, .slice (some ⟨gk, 0, none⟩) 1 1] w fun e w' => e = .returned (.bool true) ∧ Below w.heap.size w w' := by
  have hk1 : ∀ O, (w.alloc O).cell? ⟨gk, 0, none⟩ = some (.int .i64 K) := fun O => (World.cell?_alloc_past O _ _ hgk).trans hk
  go_enter Tryz.func9, Tryz.ntmps9
  go_wp2_with fail
  refine (needs_one gk K _ hK5 (hk1 _)).mono ?_
  rintro e w1 ⟨rfl, rfl⟩
  go_wp2_with fail
  refine wp_loop_rounds 1 ?_
  rw [rounds_succ]
  go_wp2
  go_ret
  exact ⟨rfl, (Below.refl _ _).alloc (Nat.le_refl _) _⟩

/-- A script that came in: nothing in it, or its steps lie in memory. -/
def ScriptIn (w : World) (ao : Option Addr) (N : Nat) : Prop := N = 0 ∨ ∃ b o, ao = some ⟨b, o, none⟩ ∧ Script w b o N
theorem Script.below {w w' : World} {b o N : Nat} (h : Script w b o N) (hb : Below w.heap.size w w') : Script w' b o N := by
  intro i hi
  obtain ⟨k, a1, a2, a3, a4, a5, a6, a7, a8, a9, a10, a11, a12, a13, a14, a15, a16, a17, a18, a19, hs⟩ := h i hi
  exact ⟨k, a1, a2, a3, a4, a5, a6, a7, a8, a9, a10, a11, a12, a13, a14, a15, a16, a17, a18, a19, hs.below hb⟩

set_option maxRecDepth 100000 in
set_option maxHeartbeats 400000 in
theorem packs_any (ao : Option Addr) (N cap : Nat) (w : World) (hS : ScriptIn w ao N) (hN : N * 96 ≤ 140737488351232) :
    Calls Tryz.prog 3 #[.slice ao N cap] w fun e w' => e = .returned (.bool true) ∧ Below w.heap.size w w' := by
  have H : Hid (Calls Tryz.prog 9 #[.slice ao N cap, .slice (some ⟨w.heap.size, 0, none⟩) 1 1] (w.alloc (.cells #[.int .i64 1] 3)) fun e w' => e = .returned (.bool true) ∧ Below (w.alloc (.cells #[.int .i64 1] 3)).heap.size (w.alloc (.cells #[.int .i64 1] 3)) w') := by
    rcases hS with rfl | ⟨b, o, rfl, hS⟩
    · exact plays_empty 1 (by decide) ao cap w.heap.size _ (by simp) (by simp)
    · exact plays_one 1 (by decide) step_pack_does b o N cap w.heap.size _ (hS.below ((Below.refl _ _).alloc (Nat.le_refl _) _)) hN (by simp) (by simp)
  clear hS
  go_enter Tryz.func3, Tryz.ntmps3
  go_wp2_with fail
  refine H.out.mono ?_
  rintro e w1 ⟨rfl, hb⟩
  have HBe : Hid (Below w.heap.size w w1) := ((Below.refl _ _).alloc (Nat.le_refl _) _).trans (hb.mono (by simp))
  clear hb H
  go_wp2
  go_ret
  exact ⟨rfl, HBe.out⟩

end Go.Proofs.YtajphdppmdoalaaGreat
