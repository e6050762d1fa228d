import Derived.Test.YtajphdppmdoalaaGreatT4
import Derived.Deep.OwnRows
namespace Go.Proofs.YtajphdppmdoalaaGreat
open Go.RowKit
set_option linter.unusedVariables false

theorem made_size (z : Value) (n : Nat) : (madeCells #[z] n).size = n := by simp [madeCells]
/-- 'copy(all, b)' where all is new and longer than b. -/
theorem given_copy (ao : Option Addr) (n cap : Nat) (zs : List Int) (Z : Array Value) (w : World) (hl : zs.length = n) (hd : Has w ao zs) (hZ : Z.size = n + 8) :
    ∃ C : Array Value, Sem.run Tryz.prog (Builtin.copy_ #[38, 38] 3 #[.slice (some ⟨w.heap.size, 0, none⟩) (n + 8) (n + 8), .slice ao n cap]) (w.alloc (.cells Z 5)) = .ok (goInt n) (w.alloc (.cells C 5)) ∧ C.size = n + 8 ∧ ∀ j, j < n → C[j]? = some (.int .u8 (zs.getD j 0)) := by
  by_cases hn : n = 0
  · subst hn
    refine ⟨Z, ?_, hZ, by intro j hj; omega⟩
    exact run_copy_none (P := Tryz.prog) _ 38 38 3 5 _ _ _ _ _ _ Tryz.underlying38 (by kernel_rfl) (by simp)
  · obtain ⟨b, o, rfl, hlt, hc⟩ := hd.2 (by intro h; subst h; simp at hl; omega)
    refine ⟨((zs.map (Value.int .u8)) ++ Z.toList.drop n).toArray, ?_, by simp [hl, hZ], ?_⟩
    · have h := run_copy_row (P := Tryz.prog) (w.alloc (.cells Z 5)) 38 38 3 5 w.heap.size 0 (n + 8) (n + 8) ⟨b, o, none⟩ n cap Z 5 (zs.map (Value.int .u8)) Tryz.underlying38 (by kernel_rfl) (heap_alloc_new _ _) (by simp [hl]) ?_ (by simp [hl, hZ]) (ints_oneCell _ _)
      · rw [h, alloc_setRow]
        simp [hl]
      · exact Has.cells (hd.below ((Below.refl _ _).alloc (Nat.le_refl _) _))
    · intro j hj
      rw [List.getElem?_toArray, List.getElem?_append_left (by simp [hl]; exact hj), List.getElem?_map, List.getElem?_eq_getElem (by omega), List.getD_eq_getElem?_getD, List.getElem?_eq_getElem (by omega)]
      rfl

set_option maxRecDepth 100000 in
set_option maxHeartbeats 800000 in
theorem given_any (ao : Option Addr) (n cap : Nat) (zs : List Int) (w : World) (hl : zs.length = n) (hd : Has w ao zs) (hn : n ≤ 140737488351232) :
    Calls Tryz.prog 26 #[.slice ao n cap] w fun e w' => e = .returned (.slice (some ⟨w.heap.size, 0, none⟩) (n + 8) (n + 8)) ∧ ∃ C : Array Value, w' = w.alloc (.cells C 5) ∧ C.size = n + 8 ∧ (∀ j, j < n → C[j]? = some (.int .u8 (zs.getD j 0))) ∧ ∀ j, n ≤ j → j < n + 8 → C[j]? = some (.int .u8 77) := by
  obtain ⟨C0, hcp, hs0, hp0⟩ := given_copy ao n cap zs (madeCells #[.int .u8 0] (n + 8)) w hl hd (made_size _ _)
  have hmk := run_make_row' (P := Tryz.prog) 38 5 (.int .u8 0) 1 Tryz.underlying38 Tryz.info5 rfl .i64 .i64 (n + 8) (by omega) (by omega)
  rw [show ((n + 8 : Nat) : Int) = (n : Int) + 8 from by omega] at hmk
  generalize madeCells #[.int .u8 0] (n + 8) = Z at *
  have HS0 := hide hs0
  have HP0 := hide hp0
  clear hs0 hp0 hd hl
  go_enter Tryz.func26, Tryz.ntmps26
  go_wp2_with fail
  go_loopw [4] (fun i wr => ∃ (q : Nat) (C : Array Value), q ≤ 8 ∧ i = .int .i64 ((n : Int) + q) ∧ wr = w.alloc (.cells C 5) ∧ Hid (C.size = n + 8 ∧ (∀ j, j < n → C[j]? = some (.int .u8 (zs.getD j 0))) ∧ ∀ j, n ≤ j → j < n + q → C[j]? = some (.int .u8 77)))
    (fun i _ => n + 8 - (intOf i).toNat)
  case atStart => exact ⟨0, C0, by omega, by simp, rfl, HS0.out, HP0.out, fun j h1 h2 => by omega⟩
  case round =>
    obtain ⟨q, C, hq, rfl, rfl, HC⟩ := hrel
    clear hcp hmk
    by_cases hlt : q < 8
    · have hcell : C[n + q]? = some (C[n + q]'(by have := HC.out.1; omega)) := Array.getElem?_eq_getElem (by have := HC.out.1; omega)
      generalize C[n + q]'(by have := HC.out.1; omega) = old at hcell
      go_wp2
      go_roundw
      case rel =>
        refine ⟨q + 1, C.setIfInBounds (n + q) (.int .u8 77), by omega, by go_num, rfl, ?_, ?_, ?_⟩
        · rw [Array.size_setIfInBounds]; exact HC.out.1
        · intro j hj
          rw [Array.getElem?_setIfInBounds, if_neg (by omega)]
          exact HC.out.2.1 j hj
        · intro j h1 h2
          rw [Array.getElem?_setIfInBounds]
          by_cases he : n + q = j
          · rw [if_pos he, if_pos (by have := HC.out.1; omega)]
          · rw [if_neg he]; exact HC.out.2.2 j h1 (by omega)
      case measure => simp [intOf]; omega
    · obtain rfl : q = 8 := by omega
      go_wp2
      go_ret
      exact ⟨rfl, C, rfl, HC.out⟩

end Go.Proofs.YtajphdppmdoalaaGreat
