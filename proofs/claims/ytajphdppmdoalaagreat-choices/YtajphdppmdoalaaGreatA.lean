import Derived.Test.YtajphdppmdoalaaGreatProg
import Derived.Test.YtajphdppmdoalaaGreatP
import Derived.WalkKit
import Derived.WalkSpells
import Derived.WalkLawsBesides
import Derived.Deep.QuietTactic
import Derived.BigQuiet
import Derived.Deep.Light
namespace Go.Proofs.YtajphdppmdoalaaGreat
open Go.RowKit

set_option maxHeartbeats 400000 in
theorem word_any (a b : Int) (w : World) (ha0 : 0 ≤ a) (ha : a ≤ 255) (hb0 : 0 ≤ b) (hb : b ≤ 255) :
    Calls Tryz.prog 89 #[.int .u8 a, .int .u8 b] w fun e w' => e = .returned (.int .u16 (a * 256 + b)) ∧ w' = w := by
  go_enter Tryz.func89, Tryz.ntmps89
  go_wp2
  go_ret
  exact ⟨ret_int (or_word a b ha0 ha hb0 hb), rfl⟩

set_option maxHeartbeats 400000 in
theorem wf_any (src dst proto id off : Int) (more : Bool) (sport dport : Int) (ao : Option Addr) (n cap : Nat) (w : World) (hoff0 : 0 ≤ off) (hn : n ≤ maxLen) :
    Calls Tryz.prog 86 #[.agg #[.int .u16 src, .int .u16 dst, .int .u8 proto, .int .u16 id, .int .u8 off, .bool more, .int .u16 sport, .int .u16 dport, .slice ao n cap]] w fun e w' => e = .returned (.bool (wfB off more sport dport n)) ∧ ∃ o, w' = w.alloc o := by
  unfold maxLen at hn
  go_enter Tryz.func86, Tryz.ntmps86
  go_wp2
  all_goals
    go_ret
    refine ⟨ret_bool ?_, _, rfl⟩
    go_light
    simp_all [wfB]
    try first | omega | (rw [Bool.eq_iff_iff]; simp; omega) | (intros; omega)

set_option maxHeartbeats 400000 in
theorem checksum_any (h0 h1 h2 h3 h4 h5 h6 h7 h8 h9 h10 h11 : Int) (w : World) (b0 : 0 ≤ h0 ∧ h0 ≤ 255) (b1 : 0 ≤ h1 ∧ h1 ≤ 255) (b2 : 0 ≤ h2 ∧ h2 ≤ 255) (b3 : 0 ≤ h3 ∧ h3 ≤ 255) (b4 : 0 ≤ h4 ∧ h4 ≤ 255) (b5 : 0 ≤ h5 ∧ h5 ≤ 255) (b6 : 0 ≤ h6 ∧ h6 ≤ 255) (b7 : 0 ≤ h7 ∧ h7 ≤ 255) (b8 : 0 ≤ h8 ∧ h8 ≤ 255) (b9 : 0 ≤ h9 ∧ h9 ≤ 255) :
    Calls Tryz.prog 88 #[.agg #[.int .u8 h0, .int .u8 h1, .int .u8 h2, .int .u8 h3, .int .u8 h4, .int .u8 h5, .int .u8 h6, .int .u8 h7, .int .u8 h8, .int .u8 h9, .int .u8 h10, .int .u8 h11]] w fun e w' => e = .returned (.int .u16 (csum h0 h1 h2 h3 h4 h5 h6 h7 h8 h9)) ∧ ∃ m, w' = (w.alloc (.cells #[.int .u8 h0, .int .u8 h1, .int .u8 h2, .int .u8 h3, .int .u8 h4, .int .u8 h5, .int .u8 h6, .int .u8 h7, .int .u8 h8, .int .u8 h9, .int .u8 h10, .int .u8 h11] 131)).drewN m := by
  go_enter Tryz.func88, Tryz.ntmps88
  go_wp2
  go_loopw [3, 4] (fun s i wr => ∃ k : Nat, k ≤ 5 ∧ i = .int .i64 (2 * (k : Int)) ∧ s = .int .i64 (norm (tk h0 h1 h2 h3 h4 h5 h6 h7 h8 h9 k)) ∧ ∃ n, wr = (w.alloc (.cells #[.int .u8 h0, .int .u8 h1, .int .u8 h2, .int .u8 h3, .int .u8 h4, .int .u8 h5, .int .u8 h6, .int .u8 h7, .int .u8 h8, .int .u8 h9, .int .u8 h10, .int .u8 h11] 131)).drewN n)
    (fun _ i _ => 10 - (intOf i).toNat)
  case atStart => exact ⟨0, by omega, rfl, rfl, 0, rfl⟩
  case round =>
    obtain ⟨k, hk, rfl, rfl, n, rfl⟩ := hrel
    by_cases hk5 : k = 5
    · subst hk5
      have hb := norm_bd (tk h0 h1 h2 h3 h4 h5 h6 h7 h8 h9 5) (by simp [tk]; omega)
      generalize hs : norm (tk h0 h1 h2 h3 h4 h5 h6 h7 h8 h9 5) = s at *
      have HS := hide hs
      clear hs
      go_wp2
      go_ret
      exact ⟨ret_int (by rw [csum, unhide HS]), _, rfl⟩
    · rcases (show k = 0 ∨ k = 1 ∨ k = 2 ∨ k = 3 ∨ k = 4 by omega) with rfl | rfl | rfl | rfl | rfl
      · have hb := norm_bd (tk h0 h1 h2 h3 h4 h5 h6 h7 h8 h9 0) (by simp [tk]; try omega)
        have hlo := norm_lo (tk h0 h1 h2 h3 h4 h5 h6 h7 h8 h9 0) (h0 * 256 + h1) (by simp [tk]; try omega) (by omega) (by omega)
        have hhi := norm_hi (tk h0 h1 h2 h3 h4 h5 h6 h7 h8 h9 0) (h0 * 256 + h1) (by simp [tk]; try omega) (by omega) (by omega)
        rw [show tk h0 h1 h2 h3 h4 h5 h6 h7 h8 h9 0 + (h0 * 256 + h1) = tk h0 h1 h2 h3 h4 h5 h6 h7 h8 h9 1 by simp [tk]] at hlo hhi
        generalize norm (tk h0 h1 h2 h3 h4 h5 h6 h7 h8 h9 0) = s at *
        have HL := hide hlo
        have HH := hide hhi
        clear hlo hhi hk5
        go_wp2
        go_quiet (fail)
        go_wp2
        · go_roundw
          case rel =>
            have hg : 65535 < s + (h0 * 256 + h1) := by assumption
            exact ⟨1, by omega, by go_num, by rw [← unhide HH hg], _, rfl⟩
          case measure => simp [intOf]
        · go_roundw
          case rel =>
            have hg : s + (h0 * 256 + h1) ≤ 65535 := by assumption
            exact ⟨1, by omega, by go_num, by rw [← unhide HL hg], _, rfl⟩
          case measure => simp [intOf]
      · have hb := norm_bd (tk h0 h1 h2 h3 h4 h5 h6 h7 h8 h9 1) (by simp [tk]; try omega)
        have hlo := norm_lo (tk h0 h1 h2 h3 h4 h5 h6 h7 h8 h9 1) (h2 * 256 + h3) (by simp [tk]; try omega) (by omega) (by omega)
        have hhi := norm_hi (tk h0 h1 h2 h3 h4 h5 h6 h7 h8 h9 1) (h2 * 256 + h3) (by simp [tk]; try omega) (by omega) (by omega)
        rw [show tk h0 h1 h2 h3 h4 h5 h6 h7 h8 h9 1 + (h2 * 256 + h3) = tk h0 h1 h2 h3 h4 h5 h6 h7 h8 h9 2 by simp [tk]] at hlo hhi
        generalize norm (tk h0 h1 h2 h3 h4 h5 h6 h7 h8 h9 1) = s at *
        have HL := hide hlo
        have HH := hide hhi
        clear hlo hhi hk5
        go_wp2
        go_quiet (fail)
        go_wp2
        · go_roundw
          case rel =>
            have hg : 65535 < s + (h2 * 256 + h3) := by assumption
            exact ⟨2, by omega, by go_num, by rw [← unhide HH hg], _, rfl⟩
          case measure => simp [intOf]
        · go_roundw
          case rel =>
            have hg : s + (h2 * 256 + h3) ≤ 65535 := by assumption
            exact ⟨2, by omega, by go_num, by rw [← unhide HL hg], _, rfl⟩
          case measure => simp [intOf]
      · have hb := norm_bd (tk h0 h1 h2 h3 h4 h5 h6 h7 h8 h9 2) (by simp [tk]; try omega)
        have hlo := norm_lo (tk h0 h1 h2 h3 h4 h5 h6 h7 h8 h9 2) (h4 * 256 + h5) (by simp [tk]; try omega) (by omega) (by omega)
        have hhi := norm_hi (tk h0 h1 h2 h3 h4 h5 h6 h7 h8 h9 2) (h4 * 256 + h5) (by simp [tk]; try omega) (by omega) (by omega)
        rw [show tk h0 h1 h2 h3 h4 h5 h6 h7 h8 h9 2 + (h4 * 256 + h5) = tk h0 h1 h2 h3 h4 h5 h6 h7 h8 h9 3 by simp [tk]] at hlo hhi
        generalize norm (tk h0 h1 h2 h3 h4 h5 h6 h7 h8 h9 2) = s at *
        have HL := hide hlo
        have HH := hide hhi
        clear hlo hhi hk5
        go_wp2
        go_quiet (fail)
        go_wp2
        · go_roundw
          case rel =>
            have hg : 65535 < s + (h4 * 256 + h5) := by assumption
            exact ⟨3, by omega, by go_num, by rw [← unhide HH hg], _, rfl⟩
          case measure => simp [intOf]
        · go_roundw
          case rel =>
            have hg : s + (h4 * 256 + h5) ≤ 65535 := by assumption
            exact ⟨3, by omega, by go_num, by rw [← unhide HL hg], _, rfl⟩
          case measure => simp [intOf]
      · have hb := norm_bd (tk h0 h1 h2 h3 h4 h5 h6 h7 h8 h9 3) (by simp [tk]; try omega)
        have hlo := norm_lo (tk h0 h1 h2 h3 h4 h5 h6 h7 h8 h9 3) (h6 * 256 + h7) (by simp [tk]; try omega) (by omega) (by omega)
        have hhi := norm_hi (tk h0 h1 h2 h3 h4 h5 h6 h7 h8 h9 3) (h6 * 256 + h7) (by simp [tk]; try omega) (by omega) (by omega)
        rw [show tk h0 h1 h2 h3 h4 h5 h6 h7 h8 h9 3 + (h6 * 256 + h7) = tk h0 h1 h2 h3 h4 h5 h6 h7 h8 h9 4 by simp [tk]] at hlo hhi
        generalize norm (tk h0 h1 h2 h3 h4 h5 h6 h7 h8 h9 3) = s at *
        have HL := hide hlo
        have HH := hide hhi
        clear hlo hhi hk5
        go_wp2
        go_quiet (fail)
        go_wp2
        · go_roundw
          case rel =>
            have hg : 65535 < s + (h6 * 256 + h7) := by assumption
            exact ⟨4, by omega, by go_num, by rw [← unhide HH hg], _, rfl⟩
          case measure => simp [intOf]
        · go_roundw
          case rel =>
            have hg : s + (h6 * 256 + h7) ≤ 65535 := by assumption
            exact ⟨4, by omega, by go_num, by rw [← unhide HL hg], _, rfl⟩
          case measure => simp [intOf]
      · have hb := norm_bd (tk h0 h1 h2 h3 h4 h5 h6 h7 h8 h9 4) (by simp [tk]; try omega)
        have hlo := norm_lo (tk h0 h1 h2 h3 h4 h5 h6 h7 h8 h9 4) (h8 * 256 + h9) (by simp [tk]; try omega) (by omega) (by omega)
        have hhi := norm_hi (tk h0 h1 h2 h3 h4 h5 h6 h7 h8 h9 4) (h8 * 256 + h9) (by simp [tk]; try omega) (by omega) (by omega)
        rw [show tk h0 h1 h2 h3 h4 h5 h6 h7 h8 h9 4 + (h8 * 256 + h9) = tk h0 h1 h2 h3 h4 h5 h6 h7 h8 h9 5 by simp [tk]] at hlo hhi
        generalize norm (tk h0 h1 h2 h3 h4 h5 h6 h7 h8 h9 4) = s at *
        have HL := hide hlo
        have HH := hide hhi
        clear hlo hhi hk5
        go_wp2
        go_quiet (fail)
        go_wp2
        · go_roundw
          case rel =>
            have hg : 65535 < s + (h8 * 256 + h9) := by assumption
            exact ⟨5, by omega, by go_num, by rw [← unhide HH hg], _, rfl⟩
          case measure => simp [intOf]
        · go_roundw
          case rel =>
            have hg : s + (h8 * 256 + h9) ≤ 65535 := by assumption
            exact ⟨5, by omega, by go_num, by rw [← unhide HL hg], _, rfl⟩
          case measure => simp [intOf]

end Go.Proofs.YtajphdppmdoalaaGreat
