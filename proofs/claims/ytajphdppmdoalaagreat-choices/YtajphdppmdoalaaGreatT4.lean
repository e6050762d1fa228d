import Derived.Test.YtajphdppmdoalaaGreatT3n
namespace Go.Proofs.YtajphdppmdoalaaGreat
open Go.RowKit
set_option linter.unusedVariables false

set_option maxRecDepth 100000 in
set_option maxHeartbeats 1600000 in
theorem kept_nil (lo hi wb c : Nat) (vl vkb : Value) (w : World)
    (hw : w.heap[wb]? = some (.cells #[vl, .slice none 0 0, .slice none 0 0, .slice none 0 0, vkb, .slice none 0 0, .slice none 0 0, .int .i64 c] 34 (0, 0))) :
    Calls Tryz.prog 13 #[.pointer (some ⟨wb, 1, none⟩)] w fun e w' => e = .returned (.bool true) ∧ ∃ m, w' = w.drewN m := by
  have cw := arr_cell hw
  clear hw
  go_enter Tryz.func13, Tryz.ntmps13
  go_wp2_with fail
  refine wp_loop_rounds 1 ?_
  rw [rounds_succ]
  go_wp2_with fail
  refine wp_loop_rounds 1 ?_
  rw [rounds_succ]
  go_wp2_with fail
  refine wp_loop_rounds 1 ?_
  rw [rounds_succ]
  go_wp2
  go_ret
  exact ⟨rfl, 0, rfl⟩

set_option maxRecDepth 100000 in
set_option maxHeartbeats 1600000 in
theorem kept_some (lo hi wb c gb cbb : Nat) (vl vkb : Value) (BS : List Value) (KS : List Int) (w : World)
    (hw : w.heap[wb]? = some (.cells #[vl, .slice (some ⟨gb, 0, none⟩) (4 * c) cbb, .slice none 0 0, .slice none 0 0, vkb, .slice none 0 0, .slice none 0 0, .int .i64 c] 34 (0, 0)))
    (hBS : BS.length = 4 * c) (hKS : KS.length = 4 * c) (hob : w.ownsRow lo 38 1 (.slice (some ⟨gb, 0, none⟩) (4 * c) cbb) (4 * c) BS) (hok : w.ownsRow lo 3 1 vkb (4 * c) (KS.map (Value.int .i64)))
    (hold : ∀ (i : Nat) (u : Value) (k : Int), BS[i]? = some u → KS[i]? = some k → 0 ≤ k ∧ k ≤ c ∧ Page w lo hi u k) (hc : (4 * c + 4) * 24 ≤ 140737488355328) :
    Calls Tryz.prog 13 #[.pointer (some ⟨wb, 1, none⟩)] w fun e w' => e = .returned (.bool true) ∧ ∃ m, w' = w.drewN m := by
  have cw := arr_cell hw
  have HOB := hide hob
  have HOK := hide hok
  have HOLD := hide hold
  have HBS := hide hBS
  have HKS := hide hKS
  clear hw hob hok hold hBS hKS
  go_enter Tryz.func13, Tryz.ntmps13
  go_wp2_with fail
  go_loopw [3, 4, 5] (fun s k5 s5 wr => ∃ k : Nat, k ≤ 4 * c ∧ k5 = .int .i64 k ∧ s = .bool true ∧ ∃ m, wr = w.drewN m) (fun _ k5 _ _ => 4 * c - (intOf k5).toNat)
  case atStart => exact ⟨0, Nat.zero_le _, rfl, rfl, 0, rfl⟩
  case round =>
    obtain ⟨k, hk, rfl, rfl, m, rfl⟩ := hrel
    by_cases hlt : k < 4 * c
    · obtain ⟨gk, ck, rfl⟩ := (own_shape HOK.out).resolve_left (by rintro rfl; have := HOK.out.2; rcases this with ⟨_, h⟩ | ⟨_, _, _, h, _⟩; omega; simp at h)
      obtain ⟨u, hu⟩ : ∃ u, BS[k]? = some u := ⟨_, List.getElem?_eq_getElem (by rw [HBS.out]; exact hlt)⟩
      obtain ⟨kk, hkk⟩ : ∃ u, KS[k]? = some u := ⟨_, List.getElem?_eq_getElem (by rw [HKS.out]; exact hlt)⟩
      obtain ⟨hk0, hkc, n, hpg, _⟩ := HOLD.out k u kk hu hkk
      have cb : w.cell? ⟨gb, k, none⟩ = some u := (HOB.out.cellAt k (by omega)).trans hu
      have ck' : w.cell? ⟨gk, k, none⟩ = some (.int .i64 kk) := (HOK.out.cellAt k (by omega)).trans (by rw [List.getElem?_map, hkk]; rfl)
      clear hu hkk
      rcases own_shape hpg with rfl | ⟨gu, cu, rfl⟩
      · go_wp2_with fail
        refine wp_loop_rounds 1 ?_
        rw [rounds_succ]
        go_wp2
        go_roundw
        case rel => exact ⟨k + 1, by omega, by go_num, rfl, _, rfl⟩
        case measure => simp [intOf]; omega
      · obtain ⟨_, _, _, hnm⟩ := owns_has hpg
        have HPG := hide hpg
        clear hpg
        have hnn : n ≤ 9223372036854775807 := by have := owns_has HPG.out; unfold maxLen at this; omega
        have i1 : (0 : Int) ≤ (k : Int) := by omega
        have i2 : (k : Int) < 4 * (c : Int) := by omega
        go_wp2_with fail
        go_loopw [3, 5] (fun s5 i5 wi => ∃ i : Nat, i ≤ n ∧ i5 = .int .i64 i ∧ s5 = .bool true ∧ ∃ m, wi = w.drewN m) (fun _ i5 _ => n - (intOf i5).toNat)
        case atStart => exact ⟨0, Nat.zero_le _, rfl, rfl, _, rfl⟩
        case round =>
          obtain ⟨i, hi', rfl, rfl, m', rfl⟩ := hrel
          by_cases hil : i < n
          · have cui : w.cell? ⟨gu, i, none⟩ = some (.int .u8 (sgn kk i)) := (HPG.out.cellAt i (by omega)).trans (by rw [List.getElem?_map, sg_get kk n i hil]; rfl)
            have i3 : (i : Int) < (n : Int) := by omega
            go_wp2_with fail
            go_quiet ((go_at_call 23; exact (sign_any kk i _ (by omega) (by omega) (by omega)).mono (fun e w2 h => ⟨h.1, _, h.2⟩)))
            go_wp2
            go_roundw
            case rel => exact ⟨i + 1, by omega, by go_num, by simp, _, rfl⟩
            case measure => simp [intOf]; omega
          · go_wp2
            go_roundw
            case rel => exact ⟨k + 1, by omega, by go_num, rfl, _, rfl⟩
            case measure => simp [intOf]; omega
    · go_wp2_with fail
      refine wp_loop_rounds 1 ?_
      rw [rounds_succ]
      go_wp2_with fail
      refine wp_loop_rounds 1 ?_
      rw [rounds_succ]
      go_wp2
      go_ret
      exact ⟨rfl, _, rfl⟩

theorem kept_any (lo hi wb c : Nat) (vl : Value) (w : World) (h : Bk w lo hi wb vl c) (hc : (4 * c + 4) * 24 ≤ 140737488355328) :
    Calls Tryz.prog 13 #[.pointer (some ⟨wb, 1, none⟩)] w fun e w' => e = .returned (.bool true) ∧ ∃ m, w' = w.drewN m := by
  obtain ⟨vbs, vkb, BS, KS, _, _, _, hw, hBS, hKS, hob, hok, _, _, hold⟩ := h
  rcases own_shape hob with rfl | ⟨gb, cbb, rfl⟩
  · exact kept_nil lo hi wb c vl vkb w hw
  · exact kept_some lo hi wb c gb cbb vl vkb BS KS w hw hBS hKS hob hok hold hc

end Go.Proofs.YtajphdppmdoalaaGreat
