import Derived.Test.YtajphdppmdoalaaGreatA
namespace Go.Proofs.YtajphdppmdoalaaGreat
open Go.RowKit

set_option maxHeartbeats 400000 in
theorem ofHead_any (h0 h1 h2 h3 h4 h5 h6 h7 h8 h9 h10 h11 : Int) (w : World) (b2 : 0 ≤ h2 ∧ h2 ≤ 255) (b3 : 0 ≤ h3 ∧ h3 ≤ 255) (b4 : 0 ≤ h4 ∧ h4 ≤ 255) (b5 : 0 ≤ h5 ∧ h5 ≤ 255) (b6 : 0 ≤ h6 ∧ h6 ≤ 255) (b7 : 0 ≤ h7 ∧ h7 ≤ 255) :
    Calls Tryz.prog 90 #[.agg #[.int .u8 h0, .int .u8 h1, .int .u8 h2, .int .u8 h3, .int .u8 h4, .int .u8 h5, .int .u8 h6, .int .u8 h7, .int .u8 h8, .int .u8 h9, .int .u8 h10, .int .u8 h11]] w fun e w' => e = .returned (.agg #[.int .u16 (h2 * 256 + h3), .int .u16 (h4 * 256 + h5), .int .u8 h1, .int .u16 (h6 * 256 + h7), .int .u8 h8, .bool (h0 == 17), .int .u16 0, .int .u16 0, .slice none 0 0]) ∧ Below w.heap.size w w' := by
  go_enter Tryz.func90, Tryz.ntmps90
  go_wp2_with (go_at_call 89; refine (word_any _ _ _ (by omega) (by omega) (by omega) (by omega)).mono ?_; rintro e w' ⟨rfl, rfl⟩)
  refine bodyPost_ret (v := .agg #[.int .u16 (h2 * 256 + h3), .int .u16 (h4 * 256 + h5), .int .u8 h1, .int .u16 (h6 * 256 + h7), .int .u8 h8, .bool (h0 == 17), .int .u16 0, .int .u16 0, .slice none 0 0]) ?_ rfl ⟨rfl, ?_⟩
  all_goals go_light
  · simp [results, Tryz.results90, go_sem]
  · repeat (first | exact Below.refl _ _ | refine Below.setCell ?_ (by simp; try omega) _ | refine below_drewN ?_ _ | refine Below.alloc ?_ (by simp; try omega) _)

end Go.Proofs.YtajphdppmdoalaaGreat
