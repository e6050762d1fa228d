import Derived.Test.YtajphdppmdoalaaGreatJ2
namespace Go.Proofs.YtajphdppmdoalaaGreat
open Go.RowKit
set_option linter.unusedVariables false

set_option maxRecDepth 100000 in
set_option maxHeartbeats 800000 in
theorem either_any (low c : Int) (w : World) (hl0 : 0 ≤ low) (hl : low ≤ 255) (hc0 : 0 ≤ c) (hc : c ≤ 255) :
    Calls Tryz.prog 67 #[.int .i64 low, .int .i64 c] w fun e w' => e = .returned (.int .i64 (eiK low c 8)) ∧ ∃ m, w' = w.drewN m := by
  go_enter Tryz.func67, Tryz.ntmps67
  go_wp2_with fail
  go_loopw [5, 6, 7] (fun o p i wr => ∃ k : Nat, k ≤ 8 ∧ i = .int .i64 (k : Int) ∧ p = .int .i64 ((2 ^ k : Nat) : Int) ∧ o = .int .i64 (eiK low c k) ∧ ∃ m, wr = w.drewN m)
    (fun _ _ i _ => 8 - (intOf i).toNat)
  case atStart => exact ⟨0, by omega, rfl, rfl, by rw [eiK, Nat.pow_zero, Nat.mod_one]; rfl, 0, rfl⟩
  case round =>
    obtain ⟨k, hk, rfl, rfl, rfl, m, rfl⟩ := hrel
    by_cases hk8 : k = 8
    · subst hk8
      generalize hr : eiK low c 8 = r
      have HR := hide hr
      clear hr
      go_wp2
      go_ret
      exact ⟨ret_int HR.out.symm, _, rfl⟩
    · have HS := hide (eiK_succ low c k hl0 hc0)
      have hb := eiK_bd low c k
      generalize eiK low c k = r at *
      rcases (show k = 0 ∨ k = 1 ∨ k = 2 ∨ k = 3 ∨ k = 4 ∨ k = 5 ∨ k = 6 ∨ k = 7 by omega) with rfl | rfl | rfl | rfl | rfl | rfl | rfl | rfl
      · simp only [Nat.reducePow] at HS hb ⊢
        by_cases hbit : low % 2 = c % 2
        · have hne : (low % 2 != c % 2) = false := by rw [hbit]; exact bne_self_eq_false _
          have HV : Hid (eiK low c 1 = r) := by show _ = _; exact HS.out.trans (if_pos (by omega))
          clear HS hbit
          go_wp2_with fail
          go_quiet (fail)
          go_wp2
          go_roundw
          case rel => exact ⟨1, by omega, by go_num, by go_num, by rw [HV.out], _, rfl⟩
          case measure => simp [intOf]
        · have hne : (low % 2 != c % 2) = true := bne_iff_ne.2 hbit
          have HV : Hid (eiK low c 1 = r + 1) := by show _ = _; exact HS.out.trans (if_neg (by omega))
          clear HS hbit
          go_wp2_with fail
          go_quiet (fail)
          go_wp2
          go_roundw
          case rel => exact ⟨1, by omega, by go_num, by go_num, by rw [HV.out], _, rfl⟩
          case measure => simp [intOf]
      · simp only [Nat.reducePow] at HS hb ⊢
        by_cases hbit : low / 2 % 2 = c / 2 % 2
        · have hne : (low / 2 % 2 != c / 2 % 2) = false := by rw [hbit]; exact bne_self_eq_false _
          have HV : Hid (eiK low c 2 = r) := by show _ = _; exact HS.out.trans (if_pos (by omega))
          clear HS hbit
          go_wp2_with fail
          go_quiet (fail)
          go_wp2
          go_roundw
          case rel => exact ⟨2, by omega, by go_num, by go_num, by rw [HV.out], _, rfl⟩
          case measure => simp [intOf]
        · have hne : (low / 2 % 2 != c / 2 % 2) = true := bne_iff_ne.2 hbit
          have HV : Hid (eiK low c 2 = r + 2) := by show _ = _; exact HS.out.trans (if_neg (by omega))
          clear HS hbit
          go_wp2_with fail
          go_quiet (fail)
          go_wp2
          go_roundw
          case rel => exact ⟨2, by omega, by go_num, by go_num, by rw [HV.out], _, rfl⟩
          case measure => simp [intOf]
      · simp only [Nat.reducePow] at HS hb ⊢
        by_cases hbit : low / 4 % 2 = c / 4 % 2
        · have hne : (low / 4 % 2 != c / 4 % 2) = false := by rw [hbit]; exact bne_self_eq_false _
          have HV : Hid (eiK low c 3 = r) := by show _ = _; exact HS.out.trans (if_pos (by omega))
          clear HS hbit
          go_wp2_with fail
          go_quiet (fail)
          go_wp2
          go_roundw
          case rel => exact ⟨3, by omega, by go_num, by go_num, by rw [HV.out], _, rfl⟩
          case measure => simp [intOf]
        · have hne : (low / 4 % 2 != c / 4 % 2) = true := bne_iff_ne.2 hbit
          have HV : Hid (eiK low c 3 = r + 4) := by show _ = _; exact HS.out.trans (if_neg (by omega))
          clear HS hbit
          go_wp2_with fail
          go_quiet (fail)
          go_wp2
          go_roundw
          case rel => exact ⟨3, by omega, by go_num, by go_num, by rw [HV.out], _, rfl⟩
          case measure => simp [intOf]
      · simp only [Nat.reducePow] at HS hb ⊢
        by_cases hbit : low / 8 % 2 = c / 8 % 2
        · have hne : (low / 8 % 2 != c / 8 % 2) = false := by rw [hbit]; exact bne_self_eq_false _
          have HV : Hid (eiK low c 4 = r) := by show _ = _; exact HS.out.trans (if_pos (by omega))
          clear HS hbit
          go_wp2_with fail
          go_quiet (fail)
          go_wp2
          go_roundw
          case rel => exact ⟨4, by omega, by go_num, by go_num, by rw [HV.out], _, rfl⟩
          case measure => simp [intOf]
        · have hne : (low / 8 % 2 != c / 8 % 2) = true := bne_iff_ne.2 hbit
          have HV : Hid (eiK low c 4 = r + 8) := by show _ = _; exact HS.out.trans (if_neg (by omega))
          clear HS hbit
          go_wp2_with fail
          go_quiet (fail)
          go_wp2
          go_roundw
          case rel => exact ⟨4, by omega, by go_num, by go_num, by rw [HV.out], _, rfl⟩
          case measure => simp [intOf]
      · simp only [Nat.reducePow] at HS hb ⊢
        by_cases hbit : low / 16 % 2 = c / 16 % 2
        · have hne : (low / 16 % 2 != c / 16 % 2) = false := by rw [hbit]; exact bne_self_eq_false _
          have HV : Hid (eiK low c 5 = r) := by show _ = _; exact HS.out.trans (if_pos (by omega))
          clear HS hbit
          go_wp2_with fail
          go_quiet (fail)
          go_wp2
          go_roundw
          case rel => exact ⟨5, by omega, by go_num, by go_num, by rw [HV.out], _, rfl⟩
          case measure => simp [intOf]
        · have hne : (low / 16 % 2 != c / 16 % 2) = true := bne_iff_ne.2 hbit
          have HV : Hid (eiK low c 5 = r + 16) := by show _ = _; exact HS.out.trans (if_neg (by omega))
          clear HS hbit
          go_wp2_with fail
          go_quiet (fail)
          go_wp2
          go_roundw
          case rel => exact ⟨5, by omega, by go_num, by go_num, by rw [HV.out], _, rfl⟩
          case measure => simp [intOf]
      · simp only [Nat.reducePow] at HS hb ⊢
        by_cases hbit : low / 32 % 2 = c / 32 % 2
        · have hne : (low / 32 % 2 != c / 32 % 2) = false := by rw [hbit]; exact bne_self_eq_false _
          have HV : Hid (eiK low c 6 = r) := by show _ = _; exact HS.out.trans (if_pos (by omega))
          clear HS hbit
          go_wp2_with fail
          go_quiet (fail)
          go_wp2
          go_roundw
          case rel => exact ⟨6, by omega, by go_num, by go_num, by rw [HV.out], _, rfl⟩
          case measure => simp [intOf]
        · have hne : (low / 32 % 2 != c / 32 % 2) = true := bne_iff_ne.2 hbit
          have HV : Hid (eiK low c 6 = r + 32) := by show _ = _; exact HS.out.trans (if_neg (by omega))
          clear HS hbit
          go_wp2_with fail
          go_quiet (fail)
          go_wp2
          go_roundw
          case rel => exact ⟨6, by omega, by go_num, by go_num, by rw [HV.out], _, rfl⟩
          case measure => simp [intOf]
      · simp only [Nat.reducePow] at HS hb ⊢
        by_cases hbit : low / 64 % 2 = c / 64 % 2
        · have hne : (low / 64 % 2 != c / 64 % 2) = false := by rw [hbit]; exact bne_self_eq_false _
          have HV : Hid (eiK low c 7 = r) := by show _ = _; exact HS.out.trans (if_pos (by omega))
          clear HS hbit
          go_wp2_with fail
          go_quiet (fail)
          go_wp2
          go_roundw
          case rel => exact ⟨7, by omega, by go_num, by go_num, by rw [HV.out], _, rfl⟩
          case measure => simp [intOf]
        · have hne : (low / 64 % 2 != c / 64 % 2) = true := bne_iff_ne.2 hbit
          have HV : Hid (eiK low c 7 = r + 64) := by show _ = _; exact HS.out.trans (if_neg (by omega))
          clear HS hbit
          go_wp2_with fail
          go_quiet (fail)
          go_wp2
          go_roundw
          case rel => exact ⟨7, by omega, by go_num, by go_num, by rw [HV.out], _, rfl⟩
          case measure => simp [intOf]
      · simp only [Nat.reducePow] at HS hb ⊢
        by_cases hbit : low / 128 % 2 = c / 128 % 2
        · have hne : (low / 128 % 2 != c / 128 % 2) = false := by rw [hbit]; exact bne_self_eq_false _
          have HV : Hid (eiK low c 8 = r) := by show _ = _; exact HS.out.trans (if_pos (by omega))
          clear HS hbit
          go_wp2_with fail
          go_quiet (fail)
          go_wp2
          go_roundw
          case rel => exact ⟨8, by omega, by go_num, by go_num, by rw [HV.out], _, rfl⟩
          case measure => simp [intOf]
        · have hne : (low / 128 % 2 != c / 128 % 2) = true := bne_iff_ne.2 hbit
          have HV : Hid (eiK low c 8 = r + 128) := by show _ = _; exact HS.out.trans (if_neg (by omega))
          clear HS hbit
          go_wp2_with fail
          go_quiet (fail)
          go_wp2
          go_roundw
          case rel => exact ⟨8, by omega, by go_num, by go_num, by rw [HV.out], _, rfl⟩
          case measure => simp [intOf]

set_option maxRecDepth 100000 in
set_option maxHeartbeats 800000 in
theorem rhash_any (ao : Option Addr) (n cap : Nat) (zs : List Int) (w : World) (hl : zs.length = n) (hd : Has w ao zs) (hn : n ≤ 9223372036854775807) (hz : ∀ z ∈ zs, 0 ≤ z ∧ z ≤ 255) :
    Calls Tryz.prog 35 #[.slice ao n cap] w fun e w' => e = .returned (.int .i64 (hsh zs)) ∧ ∃ m, w' = w.drewN m := by
  have HD := hide hd
  have HZ := hide hz
  clear hd hz
  go_enter Tryz.func35, Tryz.ntmps35
  go_wp2_with fail
  go_loopw [3, 4] (fun h i wr => ∃ k : Nat, k ≤ n ∧ i = .int .i64 (k : Int) ∧ h = .int .i64 (hshK zs k) ∧ ∃ m, wr = w.drewN m)
    (fun _ i _ => n - (intOf i).toNat)
  case atStart => exact ⟨0, by omega, rfl, rfl, 0, rfl⟩
  case round =>
    obtain ⟨k, hk, rfl, rfl, m, rfl⟩ := hrel
    by_cases hkn : k < n
    · obtain ⟨b, o, rfl, _, hc⟩ := HD.out.2 (by intro h; subst h; simp at hl; omega)
      have c0 : w.cell? ⟨b, o + k, none⟩ = some (.int .u8 (zs.getD k 0)) := hc k (by omega)
      have hb := HZ.out (zs.getD k 0) (by rw [List.getD_eq_getElem?_getD, List.getElem?_eq_getElem (by omega)]; exact List.getElem_mem _)
      have HS := hide (hshK_succ zs k (by omega))
      have hhb := hshK_bd zs k
      generalize zs.getD k 0 = z at *
      generalize hshK zs k = h at *
      clear hc
      have HE := hide (either_any (h % 256) z)
      have HA := hide (ei_all h z hhb.1 hb.1 hb.2)
      have heb := eiK_bd (h % 256) z 8
      go_wp2_with fail
      refine (HE.out _ (by omega) (by omega) hb.1 hb.2).mono ?_
      rintro e w1 ⟨rfl, m1, rfl⟩
      clear HE
      generalize eiK (h % 256) z 8 = x at *
      have hx : x < 256 := heb.2
      have hx0 : 0 ≤ x := heb.1
      clear heb
      have hmul : 0 ≤ (h / 256 * 256 + x) * 16777619 ∧ (h / 256 * 256 + x) * 16777619 ≤ 9223372036854775807 := by omega
      go_wp2
      go_roundw
      case rel =>
        refine ⟨k + 1, by omega, by go_num, ?_, _, rfl⟩
        rw [HS.out, hshx, ← HA.out]
      case measure => simp [intOf]; omega
    · obtain rfl : k = n := by omega
      go_wp2
      go_ret
      exact ⟨ret_int (by rw [← hl, hshK_all]), _, rfl⟩

end Go.Proofs.YtajphdppmdoalaaGreat
