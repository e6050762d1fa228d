import Derived.Test.YtajphdppmdoalaaGreatY1
import Derived.Test.YtajphdppmdoalaaGreatO
namespace Go.Proofs.YtajphdppmdoalaaGreat
open Go.ChangeShapes Go.WideShapes Go.ChangeAt Go.RowKit Go.Deep
set_option linter.unusedVariables false

theorem addr_add (b o j : Nat) : (⟨b, o, none⟩ : Addr).add j = ⟨b, o + j, none⟩ := by cases j <;> simp [Addr.add]
theorem addr_plain {w : World} {a : Addr} {v : Value} (h : w.cell? a = some v) : ∃ b o, a = ⟨b, o, none⟩ := by
  obtain ⟨b, o, spot⟩ := a
  have hspot : spot = none := by simpa using World.cell?_spot h
  subst hspot
  exact ⟨b, o, rfl⟩

set_option maxRecDepth 100000 in
set_option maxHeartbeats 400000 in
/-- A script that came in. -/
theorem open_script {H : Type} {enc : TypeId × Value → H} {w : World} {ao : Option Addr} {N cap : Nat} {d : DataW H} {ps : List MemPlace}
    (h : DataW.Trod enc Tryz.prog w 0 (fun _ => true) true 22 (.slice ao N cap) d ps) (hsz : ∀ x ∈ d.weights Tryz.prog 22, x ≤ reachBytes) :
    ScriptIn w ao N ∧ N * 96 ≤ 140737488351232 := by
  obtain ⟨fuel, hf⟩ := h
  have hf' : DataW.trod enc Tryz.prog w 0 (fun _ => true) true fuel 22 [.slice ao N cap] = some (d, ps) := by simpa [Value.cells] using hf
  rcases open_slice Tryz.underlying22 hf' with ⟨hcs, _⟩ | ⟨a, len, cap', m, n, D, Pl, hcs, _, hl, hm, hmm, hx, hel⟩
  · simp at hcs
    obtain ⟨rfl, rfl, rfl⟩ := hcs
    exact ⟨.inl rfl, by decide⟩
  · simp at hcs
    obtain ⟨rfl, rfl, rfl⟩ := hcs
    have hmc : m = cap := by simpa using hmm
    subst hmc
    have hd : d = .slice ((List.range N).map D) ((List.range (m - N)).map fun j => D (N + j)) := by
      have := congrArg Prod.fst hx; simpa using this
    have hw : ∀ x ∈ (((List.range N).map D).length + ((List.range (m - N)).map fun j => D (N + j)).length) * Tryz.prog.bytesOf 42 :: (DataW.weightsAll Tryz.prog 42 ((List.range N).map D) ++ DataW.weightsAll Tryz.prog 42 ((List.range (m - N)).map fun j => D (N + j))), x ≤ reachBytes := by
      intro x hx'
      refine hsz x ?_
      rw [hd]
      simpa [DataW.weights, Tryz.underlying22] using hx'
    have hN : N * 96 ≤ 140737488351232 := by
      have h1 := hw _ (List.mem_cons_self ..)
      rw [bytesStep] at h1
      simp only [List.length_map, List.length_range, reachBytes] at h1
      omega
    refine ⟨?_, hN⟩
    by_cases h0 : N = 0
    · exact .inl h0
    right
    have hwe : ∀ {j : Nat} {dd : DataW H}, ((List.range N).map D)[j]? = some dd → ∀ x ∈ dd.weights Tryz.prog 42, x ≤ reachBytes := fun hj => weights_all (fun x hx' => hw x (by simp [hx'])) hj
    obtain ⟨cs0, hc0, _⟩ := hel 0 (by omega)
    rw [cellsStep] at hc0
    obtain ⟨_, hl0, hcell0⟩ := World.cells?_some hc0
    have h00 := hcell0 0 (by omega)
    rw [List.getElem?_eq_getElem (by omega)] at h00
    obtain ⟨b, o, rfl⟩ : ∃ b o, a = ⟨b, o, none⟩ := by
      obtain ⟨b, o, ha⟩ := addr_plain h00
      obtain ⟨b', o', sp⟩ := a
      simp [Addr.add] at ha
      obtain ⟨_, _, rfl⟩ := ha
      exact ⟨b', o', rfl⟩
    refine ⟨b, o, rfl, fun i hi => ?_⟩
    obtain ⟨cs, hc, htr⟩ := hel i (by omega)
    rw [cellsStep] at hc
    have hadd : (⟨b, o, none⟩ : Addr).add (i * 14) = ⟨b, o + i * 14, none⟩ := addr_add b o (i * 14)
    rw [hadd] at hc
    have hblk := World.cells?_block hc (by decide)
    obtain ⟨_, hl', hcell⟩ := World.cells?_some hc
    refine open_step (y := (D i, Pl i)) hblk ?_ htr (hwe (j := i) (by rw [List.getElem?_map, List.getElem?_range hi]; rfl))
    intro j v hv
    have hj : j < 14 := by
      by_cases hj : j < 14
      · exact hj
      · rw [List.getElem?_eq_none (by omega)] at hv; simp at hv
    have h1 := hcell j hj
    rw [hv] at h1
    have hadd2 : (⟨b, o + i * 14, none⟩ : Addr).add j = ⟨b, o + i * 14 + j, none⟩ := addr_add b _ j
    rw [hadd2] at h1
    exact h1

set_option maxRecDepth 100000 in
theorem packs_lifted (os : Os) (started : os.Started) (H : Type) (enc : TypeId × Value → H) :
    ReturnsInHanded {} Tryz.checked os 3 .any (Rows.packsSpec.pre6 enc Tryz.prog Tryz.f3 Rows.packsRow.domain false) (Rows.packsSpec.post enc Tryz.prog Tryz.f3 false true false false) := by
  refine returnsInHanded_of_change_sized (C := Tryz.checked) own started (by kernel_rfl) Tryz.func3
    (ChangeSpec.witness6 (enc := enc) (C := Tryz.checked) false ⟨#[], #[.slice none 0 0], []⟩ 8 (by kernel_rfl) (by kernel_rfl) (by kernel_rfl) (by kernel_rfl)) ?_
  intro W base args ds gs before hval0 hW hcnd hsz0 _
  have hval : ∀ (j : Nat) t v, Tryz.f3.params[j]? = some t → args[j]? = some v → Value.okWide Tryz.prog W .any base t v := hval0
  have hsz : (DataW.weightsEach Tryz.prog (Tryz.f3.params.toList ++ Rows.packsSpec.plain.varTypes Tryz.prog) (ds ++ gs)).all (· ≤ reachBytes) = true := hsz0
  have hW' := hW
  obtain ⟨p, q, hA0, hV, rfl, hfz, hnd⟩ := hW
  have hA : DataW.TrodAll enc Tryz.prog W 0 (fun _ => true) true Tryz.f3.params.toList args.toList ds p := hA0
  rw [Tryz.params3] at hA hval hsz
  obtain ⟨v0, vs0, d0, ds0, p0, q0, hargs, rfl, rfl, h0, r0⟩ := trodAll_cons hA
  obtain ⟨rfl, rfl, rfl⟩ := trodAll_nil r0
  obtain rfl : args = #[v0] := by cases args; simp_all
  obtain ⟨rfl, rfl⟩ := trodVars_none hV
  obtain ⟨a0, len0, cap0, rfl⟩ := okWide_slice Tryz.underlying22 (hval 0 22 v0 rfl rfl)
  have k0 := h0
  have lt0 : ∀ x ∈ p0, x.block < W.heap.size := by obtain ⟨m, hm⟩ := k0; exact DataW.trod_lt m _ _ _ hm
  have hws : ∀ x ∈ d0.weights Tryz.prog 22, x ≤ reachBytes := by
    intro x hx
    have := List.all_eq_true.1 hsz x (DataW.weights_mem_each (j := 0) (t := 22) rfl rfl x hx)
    simpa using this
  obtain ⟨hS, hN⟩ := open_script h0 hws
  clear hA0 hval0
  refine (packs_any a0 len0 cap0 W hS hN).mono fun e W' ⟨he, bel⟩ => ?_
  subst he
  exact ⟨_, rfl, _, _, _, [], _, [], hW', trodAll_mk1 (shut_bool Tryz.underlying4 _), (trodAll_cons_mk (Below.trod laidOut (by kernel_rfl) (of_decide_eq_true (by kernel_rfl)) k0 bel lt0) trodAll_mk0), rfl, bel.frame _, fun h => by cases h⟩

theorem packs_holds : Rows.PacksSaid :=
  OpenClaim.holds_of_wide 3 Tryz.f3 rfl rfl rfl rfl rfl rfl rfl ⟨rfl, rfl, rfl, rfl, rfl⟩ rfl rfl rfl rfl rfl (by kernel_rfl) Tryz.func3 (by kernel_rfl)
    (of_decide_eq_true (by kernel_rfl)) (by unfold Func.isWrapper; first | (rw [if_pos (by decide +kernel)]; kernel_rfl) | (rw [if_neg (by decide +kernel)]; exact ⟨rfl, rfl⟩))
    (fun os started H enc _ => packs_lifted os started H enc)

end Go.Proofs.YtajphdppmdoalaaGreat
