import Derived.Test.YtajphdppmdoalaaGreatA
import Derived.Test.YtajphdppmdoalaaGreatJ1
import Derived.Deep.OwnRows
import Derived.Laws.AppendOwnNone
namespace Go.Proofs.YtajphdppmdoalaaGreat
open Go.RowKit
set_option linter.unusedVariables false

def inB (zs : List Int) (b : Int) : Bool := zs.contains b
theorem info_u8 : (Tryz.prog.info? 5).map (fun i => (i.zero, i.size, i.bytes)) = some (some (.int .u8 0), 1, 1) := by kernel_rfl

set_option maxRecDepth 100000 in
set_option maxHeartbeats 800000 in
theorem hash_any (ao : Option Addr) (n cap : Nat) (zs : List Int) (w : World) (hl : zs.length = n) (hd : Has w ao zs) (hn : n ≤ 9223372036854775807) (hz : ∀ z ∈ zs, 0 ≤ z ∧ z ≤ 255) :
    Calls Tryz.prog 66 #[.slice ao n cap] w fun e w' => e = .returned (.int .u32 (hsh zs)) ∧ ∃ m, w' = w.drewN m := by
  have HD := hide hd
  have HZ := hide hz
  clear hd hz
  go_enter Tryz.func66, Tryz.ntmps66
  go_wp2_with fail
  go_loopw [3, 4] (fun h i wr => ∃ k : Nat, k ≤ n ∧ i = .int .i64 (k : Int) ∧ h = .int .u32 (hshK zs k) ∧ ∃ m, wr = w.drewN m)
    (fun _ i _ => n - (intOf i).toNat)
  case atStart => exact ⟨0, by omega, rfl, rfl, 0, rfl⟩
  case round =>
    obtain ⟨k, hk, rfl, rfl, m, rfl⟩ := hrel
    by_cases hkn : k < n
    · obtain ⟨b, o, rfl, _, hc⟩ := HD.out.2 (by intro h; subst h; simp at hl; omega)
      have c0 : w.cell? ⟨b, o + k, none⟩ = some (.int .u8 (zs.getD k 0)) := hc k (by omega)
      have hb := HZ.out (zs.getD k 0) (by rw [List.getD_eq_getElem?_getD, List.getElem?_eq_getElem (by omega)]; exact List.getElem_mem _)
      have HS := hide (hshK_succ zs k (by omega))
      have hhb := hshK_bd zs k
      generalize zs.getD k 0 = z at *
      generalize hshK zs k = h at *
      clear hc
      go_wp2
      go_roundw
      case rel =>
        refine ⟨k + 1, by omega, by go_num, ?_, _, rfl⟩
        rw [HS.out, hshx, u32_xor h z (by omega) (by omega) (by omega) (by omega)]
      case measure => simp [intOf]; omega
    · obtain rfl : k = n := by omega
      go_wp2
      go_ret
      exact ⟨ret_int (by rw [← hl, hshK_all]), _, rfl⟩

set_option maxRecDepth 100000 in
set_option maxHeartbeats 800000 in
theorem hasb_any (ao : Option Addr) (n cap : Nat) (zs : List Int) (b : Int) (w : World) (hl : zs.length = n) (hd : Has w ao zs) (hn : n ≤ 9223372036854775807) :
    Calls Tryz.prog 102 #[.slice ao n cap, .int .u8 b] w fun e w' => e = .returned (.bool (inB zs b)) ∧ ∃ m, w' = w.drewN m := by
  have HD := hide hd
  clear hd
  go_enter Tryz.func102, Tryz.ntmps102
  go_wp2_with fail
  go_loopw [5] (fun i wr => ∃ k : Nat, k ≤ n ∧ i = .int .i64 (k : Int) ∧ Hid (∀ j, j < k → zs.getD j 0 ≠ b) ∧ ∃ m, wr = w.drewN m)
    (fun i _ => n - (intOf i).toNat)
  case atStart => exact ⟨0, by omega, rfl, fun j hj => by omega, 0, rfl⟩
  case round =>
    obtain ⟨k, hk, rfl, HP, m, rfl⟩ := hrel
    by_cases hkn : k < n
    · obtain ⟨g, o, rfl, _, hc⟩ := HD.out.2 (by intro h; subst h; simp at hl; omega)
      have c0 : w.cell? ⟨g, o + k, none⟩ = some (.int .u8 (zs.getD k 0)) := hc k (by omega)
      have HM : Hid (zs.getD k 0 = b → inB zs b = true) := fun h => by
        rw [inB, List.contains_iff_mem, ← h, List.getD_eq_getElem?_getD, List.getElem?_eq_getElem (by omega)]
        exact List.getElem_mem _
      have HN : Hid (zs.getD k 0 ≠ b → ∀ j, j < k + 1 → zs.getD j 0 ≠ b) := fun h j hj => by
        by_cases hj' : j < k
        · exact HP.out j hj'
        · obtain rfl : j = k := by omega
          exact h
      generalize zs.getD k 0 = z at *
      clear hc
      by_cases hzb : z = b
      · subst hzb
        go_wp2
        go_ret
        exact ⟨ret_bool (HM.out (by trivial)).symm, _, rfl⟩
      · have hzb' : (z == b) = false := by simpa using hzb
        go_wp2
        go_roundw
        case rel => exact ⟨k + 1, by omega, by go_num, HN.out hzb, _, rfl⟩
        case measure => simp [intOf]; omega
    · obtain rfl : k = n := by omega
      go_wp2
      go_ret
      refine ⟨ret_bool ?_, _, rfl⟩
      symm
      rw [Bool.eq_false_iff]
      intro h
      rw [inB, List.contains_iff_mem] at h
      obtain ⟨i, hi, he⟩ := List.getElem_of_mem h
      refine HP.out i (by omega) ?_
      rw [List.getD_eq_getElem?_getD, List.getElem?_eq_getElem hi, he]
      rfl

set_option maxRecDepth 100000 in
set_option maxHeartbeats 800000 in
theorem ascending_any (ao : Option Addr) (n cap : Nat) (zs : List Int) (w : World) (hl : zs.length = n) (hd : Has w ao zs) (hn : n ≤ 9223372036854775807) :
    Calls Tryz.prog 91 #[.slice ao n cap] w fun e w' => ∃ v, e = .returned v ∧ w'.ownsRow w.heap.size 5 1 v (asc zs).length ((asc zs).map (Value.int .u8)) ∧ Below w.heap.size w w' := by
  obtain ⟨i5, hi, hz5, hz6, hz7⟩ := info_parts info_u8
  have HD := hide hd
  clear hd
  go_enter Tryz.func91, Tryz.ntmps91
  go_wp2_with fail
  go_loopw [3, 4] (fun v i wr => ∃ k : Nat, k ≤ 256 ∧ i = .int .i64 k ∧ Hid (wr.ownsRow w.heap.size 5 1 v (ascK zs k).length ((ascK zs k).map (Value.int .u8))) ∧ Hid (Below w.heap.size w wr))
    (fun _ i _ => 256 - (intOf i).toNat)
  case atStart => exact ⟨0, Nat.zero_le _, rfl, World.ownsRow_nil _ _ _ _, Below.refl _ _⟩
  case round =>
    obtain ⟨k, hk, rfl, HO, HB⟩ := hrel
    have hsz : w.heap.size ≤ wr.heap.size := HB.out.size
    by_cases hlt : k < 256
    · have e1 : (k : Int) % 256 = k := by omega
      have HA := hide (show ascK zs (k + 1) = if inB zs (k : Int) then ascK zs k ++ [(k : Int)] else ascK zs k from rfl)
      have hal := ascK_len zs k
      go_wp2_with fail
      refine (hasb_any ao n cap zs _ _ hl (HD.out.below HB.out) hn).mono ?_
      rintro e w1 ⟨rfl, m, rfl⟩
      have HO1 : Hid ((wr.drewN m).ownsRow w.heap.size 5 1 u3 (ascK zs k).length ((ascK zs k).map (Value.int .u8))) := HO.out
      have HB1 : Hid (Below w.heap.size w (wr.drewN m)) := HB.out.trans ⟨rfl, rfl, rfl, Nat.le_refl _, fun _ _ => rfl⟩
      clear HO HB
      have hsz1 : w.heap.size ≤ (wr.drewN m).heap.size := HB1.out.size
      generalize wr.drewN m = w2 at *
      cases hcon : inB zs (k : Int) with
      | false =>
        rw [hcon] at HA
        go_wp2
        go_roundw
        case rel => exact ⟨k + 1, by omega, by go_num, by rw [HA.out]; exact HO1, HB1⟩
        case measure => simp [intOf]; omega
      | true =>
        rw [hcon] at HA
        go_wp2_with (at_builtin; refine wpList_append_own _ rfl (.tmp 15) (.tmp 17) 38 rfl w.heap.size 5 i5 (.int .u8 0) 1 1 Tryz.underlying38 hi hz5 hz6 hz7 rfl (by decide) _ _ _ rfl (HO1.out.alloc _) ⟨w2.heap.size, 0, none⟩ 1 1 [_] rfl rfl (cell_one_new _ _ _) (by simp [Value.oneCell']) (by unfold maxLen; omega) (by omega) (by simp; omega) ?_)
        intro v5 w5 hown hgrow hiff
        have HO5 := hide hown
        have HB5 : Hid (Below w.heap.size w w5) := (HB1.out.alloc hsz1 _).grown hgrow (by simp; omega) (fun q hq => by have := (HO1.out.lt q hq).1; omega)
        clear hown hiff hgrow
        go_wp2
        go_roundw
        case rel => exact ⟨k + 1, by omega, by go_num, by rw [HA.out]; simpa [Hid] using HO5, HB5⟩
        case measure => simp [intOf]; omega
    · obtain rfl : k = 256 := by omega
      go_wp2
      go_ret
      exact ⟨_, rfl, HO.out, HB.out⟩
end Go.Proofs.YtajphdppmdoalaaGreat
