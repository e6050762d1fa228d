import Derived.Test.YtajphdppmdoalaaGreatI
namespace Go.Proofs.YtajphdppmdoalaaGreat
open Go.RowKit

/-- The bytes that a packet is filled with. -/
def fl (fill : Int) : Nat → List Int
  | 0 => []
  | k + 1 => fl fill k ++ [(fill + k) % 256]
theorem fl_length (fill : Int) (k : Nat) : (fl fill k).length = k := by
  induction k with
  | zero => rfl
  | succ k ih => simp [fl, ih]
theorem fl_bd (fill : Int) (k : Nat) : ∀ z ∈ fl fill k, 0 ≤ z ∧ z ≤ 255 := by
  induction k with
  | zero => simp [fl]
  | succ k ih =>
    intro z hz
    simp only [fl, List.mem_append, List.mem_singleton] at hz
    rcases hz with hz | rfl
    · exact ih z hz
    · omega
theorem wrap_byte (x : Int) : wrap64 x % 256 = x % 256 := by unfold wrap64; omega
end Go.Proofs.YtajphdppmdoalaaGreat
