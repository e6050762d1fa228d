import Derived.Test.YtajphdppmdoalaaGreatZPDItoY2
namespace Go.Proofs.YtajphdppmdoalaaGreat
open Go.ChangeShapes Go.WideShapes Go.ChangeAt Go.RowKit Go.Deep
set_option linter.unusedVariables false

theorem piecesL_kinds (w : World) : ∀ (j : Nat) (K : Int), ([5, 6, 8, 9, 10, 11, 12, 13] : List Int)[j]? = some K → (w.alloc (.cells #[.int .i64 5, .int .i64 6, .int .i64 8, .int .i64 9, .int .i64 10, .int .i64 11, .int .i64 12, .int .i64 13] 3)).cell? ⟨w.heap.size, j, none⟩ = some (.int .i64 K) := by
  intro j K hj
  have h := box_cell (w := w) (cs := #[.int .i64 5, .int .i64 6, .int .i64 8, .int .i64 9, .int .i64 10, .int .i64 11, .int .i64 12, .int .i64 13]) (t := 3) (Below.refl _ _) j
  rw [h]
  have hm : (#[.int .i64 5, .int .i64 6, .int .i64 8, .int .i64 9, .int .i64 10, .int .i64 11, .int .i64 12, .int .i64 13] : Array Value)[j]? = (([5, 6, 8, 9, 10, 11, 12, 13] : List Int)[j]?).map (Value.int .i64) := by
    rw [← List.getElem?_map, List.getElem?_toArray]
    rfl
  rw [hm, hj]
  rfl
theorem piecesL_do : ∀ K ∈ ([5, 6, 8, 9, 10, 11, 12, 13] : List Int), StepW K := by
  intro K hK
  simp only [List.mem_cons, List.not_mem_nil, or_false] at hK
  rcases hK with rfl | rfl | rfl | rfl | rfl | rfl | rfl | rfl
  · exact stepw_5
  · exact stepw_6
  · exact stepw_8
  · exact stepw_9
  · exact stepw_10
  · exact stepw_11
  · exact stepw_12
  · exact stepw_13

set_option maxRecDepth 100000 in
set_option maxHeartbeats 400000 in
theorem piecesL_any (ao : Option Addr) (N cap : Nat) (w : World) (hS : ScriptIn w ao N) (hN : N * 96 ≤ 140737488351232) :
    Calls Tryz.prog 7 #[.slice ao N cap] w fun e w' => e = .returned (.bool true) ∧ Below w.heap.size w w' := by
  have H : Hid (Calls Tryz.prog 9 #[.slice ao N cap, .slice (some ⟨w.heap.size, 0, none⟩) 8 8] (w.alloc (.cells #[.int .i64 5, .int .i64 6, .int .i64 8, .int .i64 9, .int .i64 10, .int .i64 11, .int .i64 12, .int .i64 13] 3)) fun e w' => e = .returned (.bool true) ∧ Below (w.alloc (.cells #[.int .i64 5, .int .i64 6, .int .i64 8, .int .i64 9, .int .i64 10, .int .i64 11, .int .i64 12, .int .i64 13] 3)).heap.size (w.alloc (.cells #[.int .i64 5, .int .i64 6, .int .i64 8, .int .i64 9, .int .i64 10, .int .i64 11, .int .i64 12, .int .i64 13] 3)) w') := by
    rcases hS with rfl | ⟨b, o, rfl, hS⟩
    · exact plays_void [5, 6, 8, 9, 10, 11, 12, 13] 0 rfl (by decide) ao cap w.heap.size _ (piecesL_kinds w) (by simp)
    · exact plays_many [5, 6, 8, 9, 10, 11, 12, 13] 0 rfl (by decide) piecesL_do b o N cap w.heap.size _ (hS.below ((Below.refl _ _).alloc (Nat.le_refl _) _)) hN (piecesL_kinds w) (by simp)
  clear hS
  go_enter Tryz.func7, Tryz.ntmps7
  go_wp2_with fail
  refine H.out.mono ?_
  rintro e w1 ⟨rfl, hb⟩
  have HBe : Hid (Below w.heap.size w w1) := ((Below.refl _ _).alloc (Nat.le_refl _) _).trans (hb.mono (by simp))
  clear hb H
  go_wp2
  go_ret
  exact ⟨rfl, HBe.out⟩

set_option maxRecDepth 100000 in
theorem piecesL_lifted (os : Os) (started : os.Started) (H : Type) (enc : TypeId × Value → H) :
    ReturnsInHanded {} Tryz.checked os 7 .any (Rows.piecesSpec.pre6 enc Tryz.prog Tryz.f7 Rows.piecesRow.domain false) (Rows.piecesSpec.post enc Tryz.prog Tryz.f7 false true false false) := by
  refine returnsInHanded_of_change_sized (C := Tryz.checked) own started (by kernel_rfl) Tryz.func7
    (ChangeSpec.witness6 (enc := enc) (C := Tryz.checked) false ⟨#[], #[.slice none 0 0], []⟩ 8 (by kernel_rfl) (by kernel_rfl) (by kernel_rfl) (by kernel_rfl)) ?_
  intro W base args ds gs before hval0 hW hcnd hsz0 _
  have hval : ∀ (j : Nat) t v, Tryz.f7.params[j]? = some t → args[j]? = some v → Value.okWide Tryz.prog W .any base t v := hval0
  have hsz : (DataW.weightsEach Tryz.prog (Tryz.f7.params.toList ++ Rows.piecesSpec.plain.varTypes Tryz.prog) (ds ++ gs)).all (· ≤ reachBytes) = true := hsz0
  have hW' := hW
  obtain ⟨p, q, hA0, hV, rfl, hfz, hnd⟩ := hW
  have hA : DataW.TrodAll enc Tryz.prog W 0 (fun _ => true) true Tryz.f7.params.toList args.toList ds p := hA0
  rw [Tryz.params7] at hA hval hsz
  obtain ⟨v0, vs0, d0, ds0, p0, q0, hargs, rfl, rfl, h0, r0⟩ := trodAll_cons hA
  obtain ⟨rfl, rfl, rfl⟩ := trodAll_nil r0
  obtain rfl : args = #[v0] := by cases args; simp_all
  obtain ⟨rfl, rfl⟩ := trodVars_none hV
  obtain ⟨a0, len0, cap0, rfl⟩ := okWide_slice Tryz.underlying22 (hval 0 22 v0 rfl rfl)
  have k0 := h0
  have lt0 : ∀ x ∈ p0, x.block < W.heap.size := by obtain ⟨m, hm⟩ := k0; exact DataW.trod_lt m _ _ _ hm
  have hws : ∀ x ∈ d0.weights Tryz.prog 22, x ≤ reachBytes := by
    intro x hx
    have := List.all_eq_true.1 hsz x (DataW.weights_mem_each (j := 0) (t := 22) rfl rfl x hx)
    simpa using this
  obtain ⟨hS, hN⟩ := open_script h0 hws
  clear hA0 hval0
  refine (piecesL_any a0 len0 cap0 W hS hN).mono fun e W' ⟨he, bel⟩ => ?_
  subst he
  exact ⟨_, rfl, _, _, _, [], _, [], hW', trodAll_mk1 (shut_bool Tryz.underlying4 _), (trodAll_cons_mk (Below.trod laidOut (by kernel_rfl) (of_decide_eq_true (by kernel_rfl)) k0 bel lt0) trodAll_mk0), rfl, bel.frame _, fun h => by cases h⟩

theorem piecesL_holds : Rows.PiecesSaid :=
  OpenClaim.holds_of_wide 7 Tryz.f7 rfl rfl rfl rfl rfl rfl rfl ⟨rfl, rfl, rfl, rfl, rfl⟩ rfl rfl rfl rfl rfl (by kernel_rfl) Tryz.func7 (by kernel_rfl)
    (of_decide_eq_true (by kernel_rfl)) (by unfold Func.isWrapper; first | (rw [if_pos (by decide +kernel)]; kernel_rfl) | (rw [if_neg (by decide +kernel)]; exact ⟨rfl, rfl⟩))
    (fun os started H enc _ => piecesL_lifted os started H enc)

end Go.Proofs.YtajphdppmdoalaaGreat
