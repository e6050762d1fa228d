import Derived.Test.YtajphdppmdoalaaJ4
import Derived.Test.YtajphdppmdoalaaJ8
namespace Go.Proofs.Ytajphdppmdoalaa
open Go.RowKit
set_option linter.unusedVariables false

theorem tdiv_bd (a n : Int) (hn : 1 ≤ n) (hc : -9223372036854775808 ≤ a) (hc2 : a ≤ 9223372036854775807) : -9223372036854775808 ≤ a.tdiv n ∧ a.tdiv n ≤ 9223372036854775807 := by
  by_cases h : 0 ≤ a
  · rw [Int.tdiv_eq_ediv_of_nonneg h]
    have h1 := Int.ediv_nonneg h (show 0 ≤ n by omega)
    have h2 := Int.ediv_le_self n h
    omega
  · obtain ⟨b, rfl⟩ : ∃ b, a = -b := ⟨-a, by omega⟩
    rw [Int.neg_tdiv, Int.tdiv_eq_ediv_of_nonneg (by omega)]
    have h1 := Int.ediv_nonneg (show 0 ≤ b by omega) (show 0 ≤ n by omega)
    have h2 := Int.ediv_le_self n (show 0 ≤ b by omega)
    omega

set_option maxRecDepth 100000 in
set_option maxHeartbeats 800000 in
theorem some_any (raw : Int) (w : World) (hc : -9223372036854775808 ≤ raw) (hc2 : raw ≤ 9223372036854775807) :
    Calls Try.prog 14 #[.int .i64 raw] w fun e w' => ∃ (l : List Int) (v : Value), e = .returned v ∧ w'.ownsRow w.heap.size 5 1 v l.length (l.map (Value.int .u8)) ∧ nd l = true ∧ 1 ≤ l.length ∧ l.length ≤ 6 ∧ (∀ z ∈ l, 0 ≤ z ∧ z ≤ 255) ∧ Below w.heap.size w w' := by
  obtain ⟨i5, hi, hz5, hz6, hz7⟩ := info_parts info_u8
  go_enter Try.func14, Try.ntmps14
  go_wp2_with fail
  refine (pick_any raw 6 w hc hc2 (by decide) (by decide)).mono ?_
  rintro e w1 ⟨rfl, rfl⟩
  have hp1 := pk_bd raw 6 (by decide)
  generalize pk raw 6 = p1 at *
  have hq1 := tdiv_bd raw 7 (by decide) hc hc2
  have hq2 := tdiv_bd raw 1800 (by decide) hc hc2
  go_wp2_with fail
  refine (pick_any _ 256 w1 hq1.1 hq1.2 (by decide) (by decide)).mono ?_
  rintro e w2 ⟨rfl, rfl⟩
  have hp2 := pk_bd (raw.tdiv 7) 256 (by decide)
  generalize pk (raw.tdiv 7) 256 = p2 at *
  go_wp2_with fail
  refine (pick_any _ 20 w2 hq2.1 hq2.2 (by decide) (by decide)).mono ?_
  rintro e w3 ⟨rfl, rfl⟩
  have hp3 := pk_bd (raw.tdiv 1800) 20 (by decide)
  generalize pk (raw.tdiv 1800) 20 = p3 at *
  obtain ⟨n, hn⟩ : ∃ n : Nat, (n : Int) = 1 + p1 := ⟨(1 + p1).toNat, by omega⟩
  obtain ⟨s, hs⟩ : ∃ s : Int, s = 1 + 2 * p3 := ⟨_, rfl⟩
  have hn6 : n ≤ 6 := by omega
  have hs39 : 1 ≤ s ∧ s ≤ 39 := by omega
  have hnd := hide (smL_nd p2 s n hs39.1 hs39.2 hn6)
  go_wp2_with fail
  rw [← hn, ← hs]
  have hn1 : 1 ≤ n := by omega
  clear hn hs
  go_loopw [6, 7] (fun v i wr => ∃ k : Nat, k ≤ n ∧ i = .int .i64 k ∧ Hid (wr.ownsRow w3.heap.size 5 1 v k ((smL p2 s k).map (Value.int .u8))) ∧ Hid (Below w3.heap.size w3 wr))
    (fun _ i _ => n - (intOf i).toNat)
  case atStart => exact ⟨0, Nat.zero_le _, rfl, World.ownsRow_nil _ _ _ _, Below.refl _ _⟩
  case round =>
    obtain ⟨k, hk, rfl, HO, HB⟩ := hrel
    have hsz : w3.heap.size ≤ wr.heap.size := HB.out.size
    by_cases hlt : k < n
    · have HA := hide (show smL p2 s (k + 1) = smL p2 s k ++ [(p2 + k * s) % 256] from rfl)
      have hks : 0 ≤ (k : Int) * s ∧ (k : Int) * s ≤ 234 := by
        constructor
        · exact Int.mul_nonneg (by omega) (by omega)
        · have h6 := Int.mul_le_mul_of_nonneg_right (show (k : Int) ≤ 6 by omega) (show 0 ≤ s by omega)
          omega
      go_wp2_with (at_builtin; refine wpList_append_own _ rfl (.tmp 24) (.tmp 31) 26 rfl w3.heap.size 5 i5 (.int .u8 0) 1 1 Try.underlying26 hi hz5 hz6 hz7 rfl (by decide) _ _ _ rfl (HO.out.alloc _) ⟨wr.heap.size, 0, none⟩ 1 1 [_] rfl rfl (cell_one_new _ _ _) (by simp [Value.oneCell']) (by unfold maxLen; omega) (by omega) (by simp; omega) ?_)
      intro v5 w5 hown hgrow hiff
      have HO5 := hide hown
      have HB5 : Hid (Below w3.heap.size w3 w5) := (HB.out.alloc hsz _).grown hgrow (by simp; omega) (fun q hq => by have := (HO.out.lt q hq).1; omega)
      clear hown hiff hgrow
      go_wp2
      go_roundw
      case rel => exact ⟨k + 1, by omega, by go_num, by rw [HA.out]; simpa [Hid] using HO5, HB5⟩
      case measure => simp [intOf]; omega
    · obtain rfl : k = n := by omega
      go_wp2
      go_ret
      refine ⟨smL p2 s k, _, rfl, ?_, hnd.out, ?_, ?_, smL_bd _ _ _, HB.out⟩
      · rw [smL_len]; exact HO.out
      · rw [smL_len]; omega
      · rw [smL_len]; omega
end Go.Proofs.Ytajphdppmdoalaa
