import Derived.Test.YtajphdppmdoalaaGreatZPAtoJ3
namespace Go.Proofs.YtajphdppmdoalaaGreat
open Go.RowKit
set_option linter.unusedVariables false

set_option maxRecDepth 100000 in
set_option maxHeartbeats 800000 in
theorem either_any (low c : Int) (w : World) (hl0 : 0 ≤ low) (hl : low ≤ 255) (hc0 : 0 ≤ c) (hc : c ≤ 255) :
    Calls Tryz.prog 67 #[.int .i64 low, .int .i64 c] w fun e w' => e = .returned (.int .i64 (eiK low c 8)) ∧ ∃ m, w' = w.drewN m := by
  go_enter Tryz.func67, Tryz.ntmps67
  go_wp2_with fail
  go_loopw [5, 6, 7] (fun o p i wr => ∃ k : Nat, k ≤ 8 ∧ i = .int .i64 (k : Int) ∧ p = .int .i64 ((2 ^ k : Nat) : Int) ∧ o = .int .i64 (eiK low c k) ∧ ∃ m, wr = w.drewN m)
    (fun _ _ i _ => 8 - (intOf i).toNat)
  case atStart => exact ⟨0, by omega, rfl, rfl, by rw [eiK, Nat.pow_zero, Nat.mod_one]; rfl, 0, rfl⟩
  case round =>
    obtain ⟨k, hk, rfl, rfl, rfl, m, rfl⟩ := hrel
    by_cases hk8 : k = 8
    · subst hk8
      generalize hr : eiK low c 8 = r
      have HR := hide hr
      clear hr
      go_wp2
      go_ret
      exact ⟨ret_int HR.out.symm, _, rfl⟩
    · have HS := hide (eiK_succ low c k hl0 hc0)
      have hb := eiK_bd low c k
      generalize eiK low c k = r at *
      rcases (show k = 0 ∨ k = 1 ∨ k = 2 ∨ k = 3 ∨ k = 4 ∨ k = 5 ∨ k = 6 ∨ k = 7 by omega) with rfl | rfl | rfl | rfl | rfl | rfl | rfl | rfl
      · simp only [Nat.reducePow] at HS hb ⊢
        by_cases hbit : low % 2 = c % 2
        · have hne : (low % 2 != c % 2) = false := by rw [hbit]; exact bne_self_eq_false _
          have HV : Hid (eiK low c 1 = r) := by show _ = _; exact HS.out.trans (if_pos (by omega))
          clear HS hbit
          go_wp2_with fail
          go_quiet (fail)
          go_wp2
          go_roundw
          case rel => exact ⟨1, by omega, by go_num, by go_num, by rw [HV.out], _, rfl⟩
          case measure => simp [intOf]
        · have hne : (low % 2 != c % 2) = true := bne_iff_ne.2 hbit
          have HV : Hid (eiK low c 1 = r + 1) := by show _ = _; exact HS.out.trans (if_neg (by omega))
          clear HS hbit
          go_wp2_with fail
          go_quiet (fail)
          go_wp2
          go_roundw
          case rel => exact ⟨1, by omega, by go_num, by go_num, by rw [HV.out], _, rfl⟩
          case measure => simp [intOf]
      · simp only [Nat.reducePow] at HS hb ⊢
        by_cases hbit : low / 2 % 2 = c / 2 % 2
        · have hne : (low / 2 % 2 != c / 2 % 2) = false := by rw [hbit]; exact bne_self_eq_false _
          have HV : Hid (eiK low c 2 = r) := by show _ = _; exact HS.out.trans (if_pos (by omega))
          clear HS hbit
          go_wp2_with fail
          go_quiet (fail)
          go_wp2
          go_roundw
          case rel => exact ⟨2, by omega, by go_num, by go_num, by rw [HV.out], _, rfl⟩
          case measure => simp [intOf]
        · have hne : (low / 2 % 2 != c / 2 % 2) = true := bne_iff_ne.2 hbit
          have HV : Hid (eiK low c 2 = r + 2) := by show _ = _; exact HS.out.trans (if_neg (by omega))
          clear HS hbit
          go_wp2_with fail
          go_quiet (fail)
          go_wp2
          go_roundw
          case rel => exact ⟨2, by omega, by go_num, by go_num, by rw [HV.out], _, rfl⟩
          case measure => simp [intOf]
      · simp only [Nat.reducePow] at HS hb ⊢
        by_cases hbit : low / 4 % 2 = c / 4 % 2
        · have hne : (low / 4 % 2 != c / 4 % 2) = false := by rw [hbit]; exact bne_self_eq_false _
          have HV : Hid (eiK low c 3 = r) := by show _ = _; exact HS.out.trans (if_pos (by omega))
          clear HS hbit
          go_wp2_with fail
          go_quiet (fail)
          go_wp2
          go_roundw
          case rel => exact ⟨3, by omega, by go_num, by go_num, by rw [HV.out], _, rfl⟩
          case measure => simp [intOf]
        · have hne : (low / 4 % 2 != c / 4 % 2) = true := bne_iff_ne.2 hbit
          have HV : Hid (eiK low c 3 = r + 4) := by show _ = _; exact HS.out.trans (if_neg (by omega))
          clear HS hbit
          go_wp2_with fail
          go_quiet (fail)
          go_wp2
          go_roundw
          case rel => exact ⟨3, by omega, by go_num, by go_num, by rw [HV.out], _, rfl⟩
          case measure => simp [intOf]
      · simp only [Nat.reducePow] at HS hb ⊢
        by_cases hbit : low / 8 % 2 = c / 8 % 2
        · have hne : (low / 8 % 2 != c / 8 % 2) = false := by rw [hbit]; exact bne_self_eq_false _
          have HV : Hid (eiK low c 4 = r) := by show _ = _; exact HS.out.trans (if_pos (by omega))
          clear HS hbit
          go_wp2_with fail
          go_quiet (fail)
          go_wp2
          go_roundw
          case rel => exact ⟨4, by omega, by go_num, by go_num, by rw [HV.out], _, rfl⟩
          case measure => simp [intOf]
        · have hne : (low / 8 % 2 != c / 8 % 2) = true := bne_iff_ne.2 hbit
          have HV : Hid (eiK low c 4 = r + 8) := by show _ = _; exact HS.out.trans (if_neg (by omega))
          clear HS hbit
          go_wp2_with fail
          go_quiet (fail)
          go_wp2
          go_roundw
          case rel => exact ⟨4, by omega, by go_num, by go_num, by rw [HV.out], _, rfl⟩
          case measure => simp [intOf]
      · simp only [Nat.reducePow] at HS hb ⊢
        by_cases hbit : low / 16 % 2 = c / 16 % 2
        · have hne : (low / 16 % 2 != c / 16 % 2) = false := by rw [hbit]; exact bne_self_eq_false _
          have HV : Hid (eiK low c 5 = r) := by show _ = _; exact HS.out.trans (if_pos (by omega))
          clear HS hbit
          go_wp2_with fail
          go_quiet (fail)
          go_wp2
          go_roundw
          case rel => exact ⟨5, by omega, by go_num, by go_num, by rw [HV.out], _, rfl⟩
          case measure => simp [intOf]
        · have hne : (low / 16 % 2 != c / 16 % 2) = true := bne_iff_ne.2 hbit
          have HV : Hid (eiK low c 5 = r + 16) := by show _ = _; exact HS.out.trans (if_neg (by omega))
          clear HS hbit
          go_wp2_with fail
          go_quiet (fail)
          go_wp2
          go_roundw
          case rel => exact ⟨5, by omega, by go_num, by go_num, by rw [HV.out], _, rfl⟩
          case measure => simp [intOf]
      · simp only [Nat.reducePow] at HS hb ⊢
        by_cases hbit : low / 32 % 2 = c / 32 % 2
        · have hne : (low / 32 % 2 != c / 32 % 2) = false := by rw [hbit]; exact bne_self_eq_false _
          have HV : Hid (eiK low c 6 = r) := by show _ = _; exact HS.out.trans (if_pos (by omega))
          clear HS hbit
          go_wp2_with fail
          go_quiet (fail)
          go_wp2
          go_roundw
          case rel => exact ⟨6, by omega, by go_num, by go_num, by rw [HV.out], _, rfl⟩
          case measure => simp [intOf]
        · have hne : (low / 32 % 2 != c / 32 % 2) = true := bne_iff_ne.2 hbit
          have HV : Hid (eiK low c 6 = r + 32) := by show _ = _; exact HS.out.trans (if_neg (by omega))
          clear HS hbit
          go_wp2_with fail
          go_quiet (fail)
          go_wp2
          go_roundw
          case rel => exact ⟨6, by omega, by go_num, by go_num, by rw [HV.out], _, rfl⟩
          case measure => simp [intOf]
      · simp only [Nat.reducePow] at HS hb ⊢
        by_cases hbit : low / 64 % 2 = c / 64 % 2
        · have hne : (low / 64 % 2 != c / 64 % 2) = false := by rw [hbit]; exact bne_self_eq_false _
          have HV : Hid (eiK low c 7 = r) := by show _ = _; exact HS.out.trans (if_pos (by omega))
          clear HS hbit
          go_wp2_with fail
          go_quiet (fail)
          go_wp2
          go_roundw
          case rel => exact ⟨7, by omega, by go_num, by go_num, by rw [HV.out], _, rfl⟩
          case measure => simp [intOf]
        · have hne : (low / 64 % 2 != c / 64 % 2) = true := bne_iff_ne.2 hbit
          have HV : Hid (eiK low c 7 = r + 64) := by show _ = _; exact HS.out.trans (if_neg (by omega))
          clear HS hbit
          go_wp2_with fail
          go_quiet (fail)
          go_wp2
          go_roundw
          case rel => exact ⟨7, by omega, by go_num, by go_num, by rw [HV.out], _, rfl⟩
          case measure => simp [intOf]
      · simp only [Nat.reducePow] at HS hb ⊢
        by_cases hbit : low / 128 % 2 = c / 128 % 2
        · have hne : (low / 128 % 2 != c / 128 % 2) = false := by rw [hbit]; exact bne_self_eq_false _
          have HV : Hid (eiK low c 8 = r) := by show _ = _; exact HS.out.trans (if_pos (by omega))
          clear HS hbit
          go_wp2_with fail
          go_quiet (fail)
          go_wp2
          go_roundw
          case rel => exact ⟨8, by omega, by go_num, by go_num, by rw [HV.out], _, rfl⟩
          case measure => simp [intOf]
        · have hne : (low / 128 % 2 != c / 128 % 2) = true := bne_iff_ne.2 hbit
          have HV : Hid (eiK low c 8 = r + 128) := by show _ = _; exact HS.out.trans (if_neg (by omega))
          clear HS hbit
          go_wp2_with fail
          go_quiet (fail)
          go_wp2
          go_roundw
          case rel => exact ⟨8, by omega, by go_num, by go_num, by rw [HV.out], _, rfl⟩
          case measure => simp [intOf]

set_option maxRecDepth 100000 in
set_option maxHeartbeats 800000 in
theorem rhash_any (ao : Option Addr) (n cap : Nat) (zs : List Int) (w : World) (hl : zs.length = n) (hd : Has w ao zs) (hn : n ≤ 9223372036854775807) (hz : ∀ z ∈ zs, 0 ≤ z ∧ z ≤ 255) :
    Calls Tryz.prog 35 #[.slice ao n cap] w fun e w' => e = .returned (.int .i64 (hsh zs)) ∧ ∃ m, w' = w.drewN m := by
  have HD := hide hd
  have HZ := hide hz
  clear hd hz
  go_enter Tryz.func35, Tryz.ntmps35
  go_wp2_with fail
  go_loopw [3, 4] (fun h i wr => ∃ k : Nat, k ≤ n ∧ i = .int .i64 (k : Int) ∧ h = .int .i64 (hshK zs k) ∧ ∃ m, wr = w.drewN m)
    (fun _ i _ => n - (intOf i).toNat)
  case atStart => exact ⟨0, by omega, rfl, rfl, 0, rfl⟩
  case round =>
    obtain ⟨k, hk, rfl, rfl, m, rfl⟩ := hrel
    by_cases hkn : k < n
    · obtain ⟨b, o, rfl, _, hc⟩ := HD.out.2 (by intro h; subst h; simp at hl; omega)
      have c0 : w.cell? ⟨b, o + k, none⟩ = some (.int .u8 (zs.getD k 0)) := hc k (by omega)
      have hb := HZ.out (zs.getD k 0) (by rw [List.getD_eq_getElem?_getD, List.getElem?_eq_getElem (by omega)]; exact List.getElem_mem _)
      have HS := hide (hshK_succ zs k (by omega))
      have hhb := hshK_bd zs k
      generalize zs.getD k 0 = z at *
      generalize hshK zs k = h at *
      clear hc
      have HE := hide (either_any (h % 256) z)
      have HA := hide (ei_all h z hhb.1 hb.1 hb.2)
      have heb := eiK_bd (h % 256) z 8
      go_wp2_with fail
      refine (HE.out _ (by omega) (by omega) hb.1 hb.2).mono ?_
      rintro e w1 ⟨rfl, m1, rfl⟩
      clear HE
      generalize eiK (h % 256) z 8 = x at *
      have hx : x < 256 := heb.2
      have hx0 : 0 ≤ x := heb.1
      clear heb
      have hmul : 0 ≤ (h / 256 * 256 + x) * 16777619 ∧ (h / 256 * 256 + x) * 16777619 ≤ 9223372036854775807 := by omega
      go_wp2
      go_roundw
      case rel =>
        refine ⟨k + 1, by omega, by go_num, ?_, _, rfl⟩
        rw [HS.out, hshx, ← HA.out]
      case measure => simp [intOf]; omega
    · obtain rfl : k = n := by omega
      go_wp2
      go_ret
      exact ⟨ret_int (by rw [← hl, hshK_all]), _, rfl⟩

end Go.Proofs.YtajphdppmdoalaaGreat

namespace Go.Proofs.YtajphdppmdoalaaGreat
open Go.RowKit
set_option linter.unusedVariables false

theorem drew_two (w : World) (m n : Nat) : (w.drewN m).drewN n = w.drewN (m + n) := by simp
/-- May these be the backends? -/
def alB (zs : List Int) : Bool := nd zs && decide (zs.length ≤ 6)

set_option maxRecDepth 100000 in
set_option maxHeartbeats 800000 in
theorem allowed_any (ao : Option Addr) (n cap : Nat) (zs : List Int) (w : World) (hl : zs.length = n) (hd : Has w ao zs) (hn : n ≤ 9223372036854775807) :
    Calls Tryz.prog 69 #[.slice ao n cap] w fun e w' => e = .returned (.bool (alB zs)) ∧ ∃ m, w' = w.drewN m := by
  have HD := hide hd
  have HL := hide hl
  clear hd hl
  go_enter Tryz.func69, Tryz.ntmps69
  go_wp2_with fail
  go_loopw [3] (fun i wr => ∃ k : Nat, k ≤ n ∧ i = .int .i64 (k : Int) ∧ Hid (∀ a b, b < a → a < k → zs.getD a 0 ≠ zs.getD b 0) ∧ ∃ m, wr = w.drewN m)
    (fun i _ => n - (intOf i).toNat)
  case atStart => exact ⟨0, by omega, rfl, fun a b _ h => by omega, 0, rfl⟩
  case round =>
    obtain ⟨k, hk, rfl, HP, m, rfl⟩ := hrel
    by_cases hkn : k < n
    · obtain ⟨g, o, rfl, _, hc⟩ := HD.out.2 (by intro h; have := HL.out; subst h; simp at this; omega)
      have HC : Hid (∀ j, j < n → w.cell? ⟨g, o + j, none⟩ = some (.int .u8 (zs.getD j 0))) := fun j hj => hc j (by rw [HL.out]; exact hj)
      clear hc
      go_wp2_with fail
      go_loopw [4] (fun i wi => ∃ j : Nat, j ≤ k ∧ i = .int .i64 (j : Int) ∧ Hid (∀ b, b < j → zs.getD k 0 ≠ zs.getD b 0) ∧ ∃ m, wi = w.drewN m)
        (fun i _ => k - (intOf i).toNat)
      case atStart => exact ⟨0, by omega, rfl, fun b h => by omega, _, rfl⟩
      case round =>
        obtain ⟨j, hj, rfl, HQ, m', rfl⟩ := hrel
        by_cases hjk : j < k
        · have c0 := HC.out k hkn
          have c1 := HC.out j (by omega)
          have i1 : (k : Int) < (n : Int) := by omega
          have i2 : (j : Int) < (n : Int) := by omega
          by_cases he : zs.getD k 0 = zs.getD j 0
          · have HF : Hid (alB zs = false) := by
              show _ = _
              rw [alB, Bool.and_eq_false_iff]
              left
              rw [Bool.eq_false_iff]
              intro h
              exact (nd_get zs).1 h k j hjk (by rw [HL.out]; exact hkn) he
            rw [← he] at c1
            clear he
            generalize zs.getD k 0 = z at *
            go_wp2_with fail
            go_quiet (fail)
            go_wp2
            go_ret
            exact ⟨ret_bool HF.out.symm, _, drew_two _ _ _⟩
          · have HN : Hid (∀ b, b < j + 1 → zs.getD k 0 ≠ zs.getD b 0) := fun b hb => by
              by_cases hb' : b < j
              · exact HQ.out b hb'
              · obtain rfl : b = j := by omega
                exact he
            have he' : (zs.getD k 0 == zs.getD j 0) = false := by rw [beq_eq_false_iff_ne]; exact he
            clear he
            generalize zs.getD k 0 = z at *
            generalize zs.getD j 0 = y at *
            go_wp2_with fail
            go_quiet (fail)
            go_wp2
            go_roundw
            case rel => exact ⟨j + 1, by omega, by go_num, HN.out, _, rfl⟩
            case measure => simp [intOf]; omega
        · obtain rfl : j = k := by omega
          have HN : Hid (∀ a b, b < a → a < j + 1 → zs.getD a 0 ≠ zs.getD b 0) := fun a b hb ha => by
            by_cases ha' : a < j
            · exact HP.out a b hb ha'
            · obtain rfl : a = j := by omega
              exact HQ.out b hb
          go_wp2
          go_roundw
          case rel => exact ⟨j + 1, by omega, by go_num, HN.out, _, rfl⟩
          case measure => simp [intOf]; omega
    · obtain rfl : k = n := by omega
      have HF : Hid (alB zs = decide ((k : Int) ≤ 6)) := by
        show _ = _
        rw [alB, (nd_get zs).2 (fun i j hj hi => HP.out i j hj (by rw [← HL.out]; exact hi)), HL.out, Bool.true_and]
        exact decide_eq_decide.2 (by omega)
      go_wp2
      go_ret
      exact ⟨ret_bool HF.out.symm, _, rfl⟩

set_option maxRecDepth 100000 in
set_option maxHeartbeats 800000 in
theorem rising_any (ao : Option Addr) (n cap : Nat) (zs : List Int) (w : World) (hl : zs.length = n) (hd : Has w ao zs) (h6 : n ≤ 6) (hnd : nd zs = true) (hz : ∀ z ∈ zs, 0 ≤ z ∧ z ≤ 255) :
    Calls Tryz.prog 93 #[.slice ao n cap] w fun e w' => ∃ v, e = .returned v ∧ w'.ownsRow w.heap.size 5 1 v (asc zs).length ((asc zs).map (Value.int .u8)) ∧ Below w.heap.size w w' := by
  obtain ⟨i5, hi, hz5, hz6, hz7⟩ := info_parts info_u8
  have HD := hide hd
  have HL := hide hl
  have HZ := hide hz
  have HND := hide hnd
  clear hd hl hz hnd
  go_enter Tryz.func93, Tryz.ntmps93
  go_wp2_with fail
  go_loopw [3, 4] (fun v i wr => ∃ k : Nat, k ≤ 256 ∧ i = .int .i64 k ∧ Hid (wr.ownsRow w.heap.size 5 1 v (ascK zs k).length ((ascK zs k).map (Value.int .u8))) ∧ Hid (Below w.heap.size w wr))
    (fun _ i _ => 256 - (intOf i).toNat)
  case atStart => exact ⟨0, Nat.zero_le _, rfl, World.ownsRow_nil _ _ _ _, Below.refl _ _⟩
  case round =>
    obtain ⟨k, hk, rfl, HO, HB⟩ := hrel
    by_cases hlt : k < 256
    · have hal := ascK_len zs k
      have HA := hide (ascK_nd zs HND.out k)
      obtain ⟨L, hL⟩ : ∃ L : Nat → List Int, L = fun j => ascK zs k ++ List.replicate ((zs.take j).count (k : Int)) (k : Int) := ⟨_, rfl⟩
      have HL0 : Hid (L 0 = ascK zs k) := by show _ = _; rw [hL]; simp
      have HLS : Hid (∀ j, j < n → L (j + 1) = if zs.getD j 0 = (k : Int) then L j ++ [(k : Int)] else L j) := fun j hj => by
        rw [hL]
        show ascK zs k ++ List.replicate ((zs.take (j + 1)).count (k : Int)) (k : Int) = _
        rw [count_take_succ zs j k (by rw [HL.out]; exact hj)]
        split
        · rw [List.replicate_succ', List.append_assoc]
        · rfl
      have HLN : Hid (L n = ascK zs (k + 1)) := by rw [hL, HA.out, ← HL.out]; show ascK zs k ++ List.replicate ((zs.take zs.length).count (k : Int)) (k : Int) = _; rw [List.take_length]
      have HLL : Hid (∀ j, (L j).length ≤ 256 + j) := fun j => by
        rw [hL]
        show (ascK zs k ++ List.replicate ((zs.take j).count (k : Int)) (k : Int)).length ≤ _
        rw [List.length_append, List.length_replicate]
        have := List.count_le_length (a := (k : Int)) (l := zs.take j)
        rw [List.length_take] at this
        omega
      clear hL HA hal
      rw [← HL0.out] at HO
      go_wp2_with fail
      try generalize Value.bool (decide ((k : Int) < 256)) = xb
      go_loopw [3, 5] (fun v i wi => ∃ j : Nat, j ≤ n ∧ i = .int .i64 j ∧ Hid (wi.ownsRow w.heap.size 5 1 v (L j).length ((L j).map (Value.int .u8))) ∧ Hid (Below w.heap.size w wi))
        (fun _ i _ => n - (intOf i).toNat)
      case atStart => exact ⟨0, Nat.zero_le _, rfl, HO.out, HB.out⟩
      case round =>
        obtain ⟨j, hj, rfl, HO2, HB2⟩ := hrel
        have hsz : w.heap.size ≤ wr.heap.size := HB2.out.size
        by_cases hjn : j < n
        · obtain ⟨g, o, rfl, hgb, hc⟩ := HD.out.2 (by intro h; have := HL.out; subst h; simp at this; omega)
          have c0 : wr.cell? ⟨g, o + j, none⟩ = some (.int .u8 (zs.getD j 0)) := (HB2.out.cell (p := ⟨g, o + j, none⟩) hgb).trans (hc j (by rw [HL.out]; exact hjn))
          have hb := HZ.out (zs.getD j 0) (by rw [List.getD_eq_getElem?_getD, List.getElem?_eq_getElem (by rw [HL.out]; exact hjn)]; exact List.getElem_mem _)
          have HST := hide (HLS.out j hjn)
          have hll := HLL.out j
          clear hc
          generalize zs.getD j 0 = z at *
          by_cases he : z = (k : Int)
          · subst he
            rw [if_pos rfl] at HST
            go_wp2_with (at_builtin; refine wpList_append_own _ rfl (.tmp 23) (.tmp 28) 38 rfl w.heap.size 5 i5 (.int .u8 0) 1 1 Tryz.underlying38 hi hz5 hz6 hz7 rfl (by decide) _ _ _ rfl (HO2.out.alloc _) ⟨wr.heap.size, 0, none⟩ 1 1 [_] rfl rfl (cell_one_new _ _ _) (by simp [Value.oneCell']) (by unfold maxLen; omega) (by omega) (by simp; omega) ?_)
            intro v5 w5 hown hgrow hiff
            have HO5 := hide hown
            have HB5 : Hid (Below w.heap.size w w5) := (HB2.out.alloc hsz _).grown hgrow (by simp; omega) (fun q hq => by have := (HO2.out.lt q hq).1; omega)
            clear hown hiff hgrow
            go_wp2
            go_roundw
            case rel => exact ⟨j + 1, by omega, by go_num, by rw [HST.out]; simpa [Hid] using HO5, HB5⟩
            case measure => simp [intOf]; omega
          · rw [if_neg he] at HST
            have he' : (z == (k : Int)) = false := by rw [beq_eq_false_iff_ne]; exact he
            clear he
            go_wp2
            go_roundw
            case rel => exact ⟨j + 1, by omega, by go_num, by rw [HST.out]; exact HO2, HB2⟩
            case measure => simp [intOf]; omega
        · obtain rfl : j = n := by omega
          rw [HLN.out] at HO2
          go_wp2
          go_roundw
          case rel => exact ⟨k + 1, by omega, by go_num, HO2, HB2⟩
          case measure => simp [intOf]; omega
    · obtain rfl : k = 256 := by omega
      go_wp2
      go_ret
      exact ⟨_, rfl, HO.out, HB.out⟩
end Go.Proofs.YtajphdppmdoalaaGreat
