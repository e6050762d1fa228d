import Derived.Test.YtajphdppmdoalaaGreatRows
import Derived.Test.YtajphdppmdoalaaGreatZMLtoZ1
import Derived.WalkKit
import Derived.ProofKit
import Derived.OpenShut
import Derived.ShutString
import Derived.ChangeOld
import Derived.Below
import Derived.Lib.SmallJoins
import Derived.Test.YtajphdppmdoalaaGreatZDHtoY1
namespace Go.Proofs.YtajphdppmdoalaaGreat
open Go.ChangeShapes Go.WideShapes Go.ChangeAt Go.RowKit Go.Joins Go.Deep
set_option linter.unusedVariables false

theorem own : ownKnob Tryz.prog.godebug = none := by kernel_rfl
theorem laidOut : laidOutB Tryz.prog = true := by kernel_rfl

end Go.Proofs.YtajphdppmdoalaaGreat

namespace Go.Proofs.YtajphdppmdoalaaGreat
open Go.ChangeShapes Go.WideShapes Go.ChangeAt Go.RowKit Go.Deep
set_option linter.unusedVariables false

theorem addr_add (b o j : Nat) : (⟨b, o, none⟩ : Addr).add j = ⟨b, o + j, none⟩ := by cases j <;> simp [Addr.add]
theorem addr_plain {w : World} {a : Addr} {v : Value} (h : w.cell? a = some v) : ∃ b o, a = ⟨b, o, none⟩ := by
  obtain ⟨b, o, spot⟩ := a
  have hspot : spot = none := by simpa using World.cell?_spot h
  subst hspot
  exact ⟨b, o, rfl⟩

set_option maxRecDepth 100000 in
set_option maxHeartbeats 400000 in
/-- A script that came in. -/
theorem open_script {H : Type} {enc : TypeId × Value → H} {w : World} {ao : Option Addr} {N cap : Nat} {d : DataW H} {ps : List MemPlace}
    (h : DataW.Trod enc Tryz.prog w 0 (fun _ => true) true 22 (.slice ao N cap) d ps) (hsz : ∀ x ∈ d.weights Tryz.prog 22, x ≤ reachBytes) :
    ScriptIn w ao N ∧ N * 96 ≤ 140737488351232 := by
  obtain ⟨fuel, hf⟩ := h
  have hf' : DataW.trod enc Tryz.prog w 0 (fun _ => true) true fuel 22 [.slice ao N cap] = some (d, ps) := by simpa [Value.cells] using hf
  rcases open_slice Tryz.underlying22 hf' with ⟨hcs, _⟩ | ⟨a, len, cap', m, n, D, Pl, hcs, _, hl, hm, hmm, hx, hel⟩
  · simp at hcs
    obtain ⟨rfl, rfl, rfl⟩ := hcs
    exact ⟨.inl rfl, by decide⟩
  · simp at hcs
    obtain ⟨rfl, rfl, rfl⟩ := hcs
    have hmc : m = cap := by simpa using hmm
    subst hmc
    have hd : d = .slice ((List.range N).map D) ((List.range (m - N)).map fun j => D (N + j)) := by
      have := congrArg Prod.fst hx; simpa using this
    have hw : ∀ x ∈ (((List.range N).map D).length + ((List.range (m - N)).map fun j => D (N + j)).length) * Tryz.prog.bytesOf 42 :: (DataW.weightsAll Tryz.prog 42 ((List.range N).map D) ++ DataW.weightsAll Tryz.prog 42 ((List.range (m - N)).map fun j => D (N + j))), x ≤ reachBytes := by
      intro x hx'
      refine hsz x ?_
      rw [hd]
      simpa [DataW.weights, Tryz.underlying22] using hx'
    have hN : N * 96 ≤ 140737488351232 := by
      have h1 := hw _ (List.mem_cons_self ..)
      rw [bytesStep] at h1
      simp only [List.length_map, List.length_range, reachBytes] at h1
      omega
    refine ⟨?_, hN⟩
    by_cases h0 : N = 0
    · exact .inl h0
    right
    have hwe : ∀ {j : Nat} {dd : DataW H}, ((List.range N).map D)[j]? = some dd → ∀ x ∈ dd.weights Tryz.prog 42, x ≤ reachBytes := fun hj => weights_all (fun x hx' => hw x (by simp [hx'])) hj
    obtain ⟨cs0, hc0, _⟩ := hel 0 (by omega)
    rw [cellsStep] at hc0
    obtain ⟨_, hl0, hcell0⟩ := World.cells?_some hc0
    have h00 := hcell0 0 (by omega)
    rw [List.getElem?_eq_getElem (by omega)] at h00
    obtain ⟨b, o, rfl⟩ : ∃ b o, a = ⟨b, o, none⟩ := by
      obtain ⟨b, o, ha⟩ := addr_plain h00
      obtain ⟨b', o', sp⟩ := a
      simp [Addr.add] at ha
      obtain ⟨_, _, rfl⟩ := ha
      exact ⟨b', o', rfl⟩
    refine ⟨b, o, rfl, fun i hi => ?_⟩
    obtain ⟨cs, hc, htr⟩ := hel i (by omega)
    rw [cellsStep] at hc
    have hadd : (⟨b, o, none⟩ : Addr).add (i * 14) = ⟨b, o + i * 14, none⟩ := addr_add b o (i * 14)
    rw [hadd] at hc
    have hblk := World.cells?_block hc (by decide)
    obtain ⟨_, hl', hcell⟩ := World.cells?_some hc
    refine open_step (y := (D i, Pl i)) hblk ?_ htr (hwe (j := i) (by rw [List.getElem?_map, List.getElem?_range hi]; rfl))
    intro j v hv
    have hj : j < 14 := by
      by_cases hj : j < 14
      · exact hj
      · rw [List.getElem?_eq_none (by omega)] at hv; simp at hv
    have h1 := hcell j hj
    rw [hv] at h1
    have hadd2 : (⟨b, o + i * 14, none⟩ : Addr).add j = ⟨b, o + i * 14 + j, none⟩ := addr_add b _ j
    rw [hadd2] at h1
    exact h1

end Go.Proofs.YtajphdppmdoalaaGreat

namespace Go.Proofs.YtajphdppmdoalaaGreat
open Go.ChangeShapes Go.WideShapes Go.ChangeAt Go.RowKit Go.Deep
set_option linter.unusedVariables false

theorem flowsL_kinds (w : World) : ∀ (j : Nat) (K : Int), ([5, 6, 7, 8, 9] : List Int)[j]? = some K → (w.alloc (.cells #[.int .i64 5, .int .i64 6, .int .i64 7, .int .i64 8, .int .i64 9] 3)).cell? ⟨w.heap.size, j, none⟩ = some (.int .i64 K) := by
  intro j K hj
  have h := box_cell (w := w) (cs := #[.int .i64 5, .int .i64 6, .int .i64 7, .int .i64 8, .int .i64 9]) (t := 3) (Below.refl _ _) j
  rw [h]
  have hm : (#[.int .i64 5, .int .i64 6, .int .i64 7, .int .i64 8, .int .i64 9] : Array Value)[j]? = (([5, 6, 7, 8, 9] : List Int)[j]?).map (Value.int .i64) := by
    rw [← List.getElem?_map, List.getElem?_toArray]
    rfl
  rw [hm, hj]
  rfl
theorem flowsL_do : ∀ K ∈ ([5, 6, 7, 8, 9] : List Int), StepW K := by
  intro K hK
  simp only [List.mem_cons, List.not_mem_nil, or_false] at hK
  rcases hK with rfl | rfl | rfl | rfl | rfl
  · exact stepw_5
  · exact stepw_6
  · exact stepw_7
  · exact stepw_8
  · exact stepw_9

set_option maxRecDepth 100000 in
set_option maxHeartbeats 400000 in
theorem flowsL_any (ao : Option Addr) (N cap : Nat) (w : World) (hS : ScriptIn w ao N) (hN : N * 96 ≤ 140737488351232) :
    Calls Tryz.prog 6 #[.slice ao N cap] w fun e w' => e = .returned (.bool true) ∧ Below w.heap.size w w' := by
  have H : Hid (Calls Tryz.prog 9 #[.slice ao N cap, .slice (some ⟨w.heap.size, 0, none⟩) 5 5] (w.alloc (.cells #[.int .i64 5, .int .i64 6, .int .i64 7, .int .i64 8, .int .i64 9] 3)) fun e w' => e = .returned (.bool true) ∧ Below (w.alloc (.cells #[.int .i64 5, .int .i64 6, .int .i64 7, .int .i64 8, .int .i64 9] 3)).heap.size (w.alloc (.cells #[.int .i64 5, .int .i64 6, .int .i64 7, .int .i64 8, .int .i64 9] 3)) w') := by
    rcases hS with rfl | ⟨b, o, rfl, hS⟩
    · exact plays_void [5, 6, 7, 8, 9] 0 rfl (by decide) ao cap w.heap.size _ (flowsL_kinds w) (by simp)
    · exact plays_many [5, 6, 7, 8, 9] 0 rfl (by decide) flowsL_do b o N cap w.heap.size _ (hS.below ((Below.refl _ _).alloc (Nat.le_refl _) _)) hN (flowsL_kinds w) (by simp)
  clear hS
  go_enter Tryz.func6, Tryz.ntmps6
  go_wp2_with fail
  refine H.out.mono ?_
  rintro e w1 ⟨rfl, hb⟩
  have HBe : Hid (Below w.heap.size w w1) := ((Below.refl _ _).alloc (Nat.le_refl _) _).trans (hb.mono (by simp))
  clear hb H
  go_wp2
  go_ret
  exact ⟨rfl, HBe.out⟩

set_option maxRecDepth 100000 in
theorem flowsL_lifted (os : Os) (started : os.Started) (H : Type) (enc : TypeId × Value → H) :
    ReturnsInHanded {} Tryz.checked os 6 .any (Rows.flowsSpec.pre6 enc Tryz.prog Tryz.f6 Rows.flowsRow.domain false) (Rows.flowsSpec.post enc Tryz.prog Tryz.f6 false true false false) := by
  refine returnsInHanded_of_change_sized (C := Tryz.checked) own started (by kernel_rfl) Tryz.func6
    (ChangeSpec.witness6 (enc := enc) (C := Tryz.checked) false ⟨#[], #[.slice none 0 0], []⟩ 8 (by kernel_rfl) (by kernel_rfl) (by kernel_rfl) (by kernel_rfl)) ?_
  intro W base args ds gs before hval0 hW hcnd hsz0 _
  have hval : ∀ (j : Nat) t v, Tryz.f6.params[j]? = some t → args[j]? = some v → Value.okWide Tryz.prog W .any base t v := hval0
  have hsz : (DataW.weightsEach Tryz.prog (Tryz.f6.params.toList ++ Rows.flowsSpec.plain.varTypes Tryz.prog) (ds ++ gs)).all (· ≤ reachBytes) = true := hsz0
  have hW' := hW
  obtain ⟨p, q, hA0, hV, rfl, hfz, hnd⟩ := hW
  have hA : DataW.TrodAll enc Tryz.prog W 0 (fun _ => true) true Tryz.f6.params.toList args.toList ds p := hA0
  rw [Tryz.params6] at hA hval hsz
  obtain ⟨v0, vs0, d0, ds0, p0, q0, hargs, rfl, rfl, h0, r0⟩ := trodAll_cons hA
  obtain ⟨rfl, rfl, rfl⟩ := trodAll_nil r0
  obtain rfl : args = #[v0] := by cases args; simp_all
  obtain ⟨rfl, rfl⟩ := trodVars_none hV
  obtain ⟨a0, len0, cap0, rfl⟩ := okWide_slice Tryz.underlying22 (hval 0 22 v0 rfl rfl)
  have k0 := h0
  have lt0 : ∀ x ∈ p0, x.block < W.heap.size := by obtain ⟨m, hm⟩ := k0; exact DataW.trod_lt m _ _ _ hm
  have hws : ∀ x ∈ d0.weights Tryz.prog 22, x ≤ reachBytes := by
    intro x hx
    have := List.all_eq_true.1 hsz x (DataW.weights_mem_each (j := 0) (t := 22) rfl rfl x hx)
    simpa using this
  obtain ⟨hS, hN⟩ := open_script h0 hws
  clear hA0 hval0
  refine (flowsL_any a0 len0 cap0 W hS hN).mono fun e W' ⟨he, bel⟩ => ?_
  subst he
  exact ⟨_, rfl, _, _, _, [], _, [], hW', trodAll_mk1 (shut_bool Tryz.underlying4 _), (trodAll_cons_mk (Below.trod laidOut (by kernel_rfl) (of_decide_eq_true (by kernel_rfl)) k0 bel lt0) trodAll_mk0), rfl, bel.frame _, fun h => by cases h⟩

theorem flowsL_holds : Rows.FlowsSaid :=
  OpenClaim.holds_of_wide 6 Tryz.f6 rfl rfl rfl rfl rfl rfl rfl ⟨rfl, rfl, rfl, rfl, rfl⟩ rfl rfl rfl rfl rfl (by kernel_rfl) Tryz.func6 (by kernel_rfl)
    (of_decide_eq_true (by kernel_rfl)) (by unfold Func.isWrapper; first | (rw [if_pos (by decide +kernel)]; kernel_rfl) | (rw [if_neg (by decide +kernel)]; exact ⟨rfl, rfl⟩))
    (fun os started H enc _ => flowsL_lifted os started H enc)

end Go.Proofs.YtajphdppmdoalaaGreat
