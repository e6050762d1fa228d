import Derived.Test.YtajphdppmdoalaaGreatJ2
namespace Go.Proofs.YtajphdppmdoalaaGreat
open Go.RowKit
set_option linter.unusedVariables false

theorem below_drew {n : Nat} {w w' : World} (h : Below n w w') (m : Nat) : Below n w (w'.drewN m) := h.trans ⟨rfl, rfl, rfl, Nat.le_refl _, fun _ _ => rfl⟩
theorem has_two (w : World) (x y : Int) (t : TypeId) : Has (w.alloc (.cells #[.int .u8 x, .int .u8 y] t)) (some ⟨w.heap.size, 0, none⟩) [x, y] := by
  refine ⟨by simp, fun _ => ⟨w.heap.size, 0, rfl, by simp, ?_⟩⟩
  intro j hj
  rw [World.cell?_alloc_at _ _ _ _ rfl]
  simp only [List.length_cons, List.length_nil] at hj
  rcases (show j = 0 ∨ j = 1 by omega) with rfl | rfl <;> rfl

/-- The taken slots, as the array. -/
def tkA (Z : List (Option Int)) : Array Value := (Z.map (fun o => Value.bool o.isSome)).toArray
theorem tkA_get (Z : List (Option Int)) (i : Nat) (hi : i < Z.length) : (tkA Z)[i]? = some (.bool (tkd Z i)) := by
  rw [tkA, List.getElem?_toArray, List.getElem?_map, List.getElem?_eq_getElem hi, tkd, List.getD_eq_getElem?_getD, List.getElem?_eq_getElem hi]
  rfl
theorem tkA_size (Z : List (Option Int)) : (tkA Z).size = Z.length := by simp [tkA]
theorem tkA_set (Z : List (Option Int)) (i : Nat) (b : Int) : (tkA Z).setIfInBounds i (.bool true) = tkA (Z.set i (some b)) := by
  rw [tkA, tkA, List.setIfInBounds_toArray, List.map_set]
  rfl

set_option maxRecDepth 100000 in
set_option maxHeartbeats 800000 in
theorem wanted_any (b : Int) (Z : List (Option Int)) (w : World) (hb0 : 0 ≤ b) (hb : b ≤ 255) (hZ : Z.length = 31) :
    Calls Tryz.prog 92 #[.int .u8 b, .agg (tkA Z)] w fun e w' => e = .returned (.int .i64 (slotOf b Z : Nat)) ∧ Below w.heap.size w w' := by
  have HT : Hid (∀ i, i < 31 → (tkA Z)[i]? = some (.bool (tkd Z i))) := fun i hi => tkA_get Z i (by omega)
  have hs := tkA_size Z
  have HSL := hide (show slotOf b Z = wanF (tkd Z) (sB b) 30 (fB b) from rfl)
  have HF := hide (show fB b = (hsh [b, 0]).toNat % 31 from rfl)
  have HS := hide (show sB b = (hsh [b, 1]).toNat % 30 + 1 from rfl)
  have b1 := hsh_bd [b, 0]
  have b2 := hsh_bd [b, 1]
  have H1 := hide (fun (w : World) => hash_any (some ⟨w.heap.size, 0, none⟩) 2 2 [b, 0] (w.alloc (.cells #[.int .u8 b, .int .u8 0] 5)) rfl (has_two w b 0 _) (by decide) (by intro z hz; simp at hz; omega))
  have H2 := hide (fun (w : World) => hash_any (some ⟨w.heap.size, 0, none⟩) 2 2 [b, 1] (w.alloc (.cells #[.int .u8 b, .int .u8 1] 5)) rfl (has_two w b 1 _) (by decide) (by intro z hz; simp at hz; omega))
  generalize hsh [b, 0] = f at *
  generalize hsh [b, 1] = s at *
  generalize tkA Z = T at *
  generalize slotOf b Z = so at *
  generalize fB b = ff at *
  generalize sB b = ss at *
  go_enter Tryz.func92, Tryz.ntmps92
  go_wp2_with fail
  have h1 := H1.out (w.alloc (.cells T 137))
  rw [World.size_alloc] at h1
  refine h1.mono ?_
  rintro e w1 ⟨rfl, m1, rfl⟩
  clear h1 H1
  have HB1 : Hid (Below (w.heap.size + 1) (w.alloc (.cells T 137)) (((w.alloc (.cells T 137)).alloc (.cells #[.int .u8 b, .int .u8 0] 5)).drewN m1)) := below_drew ((Below.refl _ _).alloc (by simp) _) m1
  have hz1 : (((w.alloc (.cells T 137)).alloc (.cells #[.int .u8 b, .int .u8 0] 5)).drewN m1).heap.size = w.heap.size + 2 := by simp
  generalize hW1 : (((w.alloc (.cells T 137)).alloc (.cells #[.int .u8 b, .int .u8 0] 5)).drewN m1) = w1
  rw [hW1] at HB1 hz1
  clear hW1
  go_wp2_with fail
  have h2 := H2.out w1
  rw [hz1] at h2
  refine h2.mono ?_
  rintro e w2 ⟨rfl, m2, rfl⟩
  clear h2 H2
  have HB : Hid (Below (w.heap.size + 1) (w.alloc (.cells T 137)) ((w1.alloc (.cells #[.int .u8 b, .int .u8 1] 5)).drewN m2)) := below_drew (HB1.out.alloc (by omega) _) m2
  have hz2 : w.heap.size < ((w1.alloc (.cells #[.int .u8 b, .int .u8 1] 5)).drewN m2).heap.size := by simp; omega
  generalize hW3 : ((w1.alloc (.cells #[.int .u8 b, .int .u8 1] 5)).drewN m2) = w3
  rw [hW3] at HB hz2
  clear HB1 hz1 hW3
  have CT := hide (box_cell HB.out)
  clear hs
  go_wp2_with fail
  go_loopw [7, 9] (fun sl tr wr => ∃ (k : Nat) (at' : Nat), k ≤ 30 ∧ tr = .int .i64 ((k : Int) + 1) ∧ sl = .int .i64 (at' : Int) ∧ at' < 31 ∧ Hid (so = wanF (tkd Z) ss (30 - k) at') ∧ ∃ m, wr = w3.drewN m)
    (fun _ tr _ => 31 - (intOf tr).toNat)
  case atStart =>
    refine ⟨0, ff, by omega, rfl, ?_, ?_, HSL.out, 0, rfl⟩
    · rw [HF.out]; congr 1; omega
    · rw [HF.out]; omega
  case round =>
    obtain ⟨k, at', hk, rfl, rfl, hat, HW, m, rfl⟩ := hrel
    have c0 : w3.cell? ⟨w.heap.size, at', none⟩ = some (.bool (tkd Z at')) := (CT.out at').trans (HT.out at' hat)
    have hs2 : (at' : Int) < 31 := by omega
    have HW0 : Hid (k = 30 → so = at') := fun h => by rw [HW.out, h]; rfl
    have HW1 : Hid (tkd Z at' = false → so = at') := fun h => by rw [HW.out]; cases 30 - k with | zero => rfl | succ n => rw [wanF, h]; rfl
    have HW2 : Hid (k < 30 → tkd Z at' = true → so = wanF (tkd Z) ss (30 - (k + 1)) ((at' + ss) % 31)) := fun h ht => by
      rw [HW.out, show 30 - k = 30 - (k + 1) + 1 from by omega, wanF, if_pos ht]
    have hss : 1 ≤ ss ∧ ss ≤ 30 := by have := HS.out; omega
    have HSI : Hid (s % 30 + 1 = (ss : Int)) := by show _ = _; have := HS.out; omega
    generalize tkd Z at' = q at *
    by_cases hk30 : k = 30
    · subst hk30
      go_wp2
      go_ret
      exact ⟨ret_int (by rw [HW0.out (by trivial)]), below_drew (below_old HB.out) _⟩
    · have hk1 : (k : Int) + 1 < 31 := by omega
      cases q with
      | false =>
        go_wp2
        go_ret
        exact ⟨ret_int (by rw [HW1.out (by trivial)]), below_drew (below_old HB.out) _⟩
      | true =>
        go_wp2_with fail
        go_roundw
        case rel =>
          refine ⟨k + 1, (at' + ss) % 31, by omega, by go_num, ?_, Nat.mod_lt _ (by omega), HW2.out (by omega) (by trivial), _, rfl⟩
          have := HSI.out
          congr 1
          omega
        case measure => simp [intOf]; omega
end Go.Proofs.YtajphdppmdoalaaGreat
