import Derived.Test.YtajphdppmdoalaaRows
import Derived.Test.YtajphdppmdoalaaZPCtoQA
import Derived.WalkKit
import Derived.ProofKit
import Derived.OpenShut
import Derived.ShutString
import Derived.ChangeOld
import Derived.Below
import Derived.SizedLaws
import Derived.Deep.Slices
import Derived.JoinedCond
import Derived.Test.YtajphdppmdoalaaZQBtoQC

namespace Go.Proofs.Ytajphdppmdoalaa
open Go.ChangeShapes Go.WideShapes Go.ChangeAt Go.RowKit Go.Deep
set_option linter.unusedVariables false

theorem own2 : ownKnob Try.prog.godebug = none := by kernel_rfl
theorem laidOut2 : laidOutB Try.prog = true := by kernel_rfl
theorem cellsOp : Try.prog.cellsOf 65 = 4 := by kernel_rfl
theorem bulk_one {H : Type} (d : DataW H) : 1 ≤ Rows.uptoBulk d := by
  cases d with
  | lit l => cases l <;> simp [Rows.uptoBulk]
  | nil => simp [Rows.uptoBulk]
  | ptr d => simp [Rows.uptoBulk]
  | slice elems spare => simp [Rows.uptoBulk]
  | agg parts => simp [Rows.uptoBulk]
  | iface t d => simp [Rows.uptoBulk]
  | map entries => simp [Rows.uptoBulk]
  | held h => simp [Rows.uptoBulk]
theorem bulk_length {H : Type} (l : List (DataW H)) : l.length ≤ Rows.uptoBulkAll l := by
  induction l with
  | nil => simp [Rows.uptoBulkAll]
  | cons x r ih => have := bulk_one x; simp only [Rows.uptoBulkAll, List.length_cons]; omega
theorem bulk_slice {H : Type} (elems spare : List (DataW H)) : elems.length ≤ Rows.uptoBulk (.slice elems spare) := by
  have h1 := bulk_length elems
  simp only [Rows.uptoBulk]
  omega
theorem bulk_three {H : Type} {d0 d1 d2 : DataW H} {gs : List (DataW H)} (hk : Rows.uptoSmall H ([d0, d1, d2] ++ gs) = true) : Rows.uptoBulk d0 ≤ 1048576 := by
  have h : Rows.uptoBulkAll ([d0, d1, d2] ++ gs) ≤ 1048576 := of_decide_eq_true hk
  simp only [List.cons_append, Rows.uptoBulkAll] at h
  omega
theorem oaddr_add (b o j : Nat) : (⟨b, o, none⟩ : Addr).add j = ⟨b, o + j, none⟩ := by cases j <;> simp [Addr.add]
theorem oaddr_plain {w : World} {a : Addr} {v : Value} (h : w.cell? a = some v) : ∃ b o, a = ⟨b, o, none⟩ := by
  obtain ⟨b, o, spot⟩ := a
  have hspot : spot = none := by simpa using World.cell?_spot h
  subst hspot
  exact ⟨b, o, rfl⟩
theorem list4 {α : Type} {l : List α} (h : l.length = 4) : ∃ c0 c1 c2 c3, l = [c0, c1, c2, c3] := by
  match l, h with
  | [c0, c1, c2, c3], _ => exact ⟨c0, c1, c2, c3, rfl⟩

set_option maxRecDepth 100000 in
/-- A step that came in. -/
theorem open_op {H : Type} {enc : TypeId × Value → H} {w : World} {fuel : Nat} {cs : List Value} {y : DataW H × List MemPlace}
    (h : DataW.trod enc Try.prog w 0 (fun _ => true) true fuel 65 cs = some y) :
    ∃ p : Opp, p.ok ∧ cs = [.int .i64 p.kind, .int .i64 p.a, .int .i64 p.b, .int .i64 p.c] := by
  obtain ⟨xs, n, _, hx, hl, hlen, hg⟩ := DataW.trod_struct Try.underlying65 h
  rw [cellsOp] at hl
  obtain ⟨c0, c1, c2, c3, rfl⟩ := list4 hl
  match xs, hlen with
  | [y0, y1, y2, y3], _ =>
    have g0 : DataW.trod enc Try.prog w 0 (fun _ => true) true n 3 [c0] = some y0 := hg 0 _ rfl
    have g1 : DataW.trod enc Try.prog w 0 (fun _ => true) true n 3 [c1] = some y1 := hg 1 _ rfl
    have g2 : DataW.trod enc Try.prog w 0 (fun _ => true) true n 3 [c2] = some y2 := hg 2 _ rfl
    have g3 : DataW.trod enc Try.prog w 0 (fun _ => true) true n 3 [c3] = some y3 := hg 3 _ rfl
    obtain ⟨k0, e0, _, w0⟩ := DataW.trod_int Try.underlying3 g0
    obtain ⟨k1, e1, _, w1⟩ := DataW.trod_int Try.underlying3 g1
    obtain ⟨k2, e2, _, w2⟩ := DataW.trod_int Try.underlying3 g2
    obtain ⟨k3, e3, _, w3⟩ := DataW.trod_int Try.underlying3 g3
    simp at e0 e1 e2 e3
    subst e0 e1 e2 e3
    exact ⟨⟨k0, k1, k2, k3⟩, ⟨bounds_i64 w0, bounds_i64 w1, bounds_i64 w2, bounds_i64 w3⟩, rfl⟩

set_option maxRecDepth 100000 in
set_option maxHeartbeats 400000 in
/-- A script that came in. -/
theorem open_ops {H : Type} {enc : TypeId × Value → H} {w : World} {ao : Option Addr} {N cap : Nat} {d : DataW H} {ps : List MemPlace}
    (h : DataW.Trod enc Try.prog w 0 (fun _ => true) true 62 (.slice ao N cap) d ps) :
    ∃ os : List Opp, os.length = N ∧ HasO w ao os ∧ (∀ o ∈ os, o.ok) ∧ N ≤ Rows.uptoBulk d := by
  obtain ⟨fuel, hf⟩ := h
  have hf' : DataW.trod enc Try.prog w 0 (fun _ => true) true fuel 62 [.slice ao N cap] = some (d, ps) := by simpa [Value.cells] using hf
  rcases open_slice Try.underlying62 hf' with ⟨hcs, _⟩ | ⟨a, len, cap', m, n, D, Pl, hcs, _, hl, hm, hmm, hx, hel⟩
  · simp at hcs
    obtain ⟨rfl, rfl, rfl⟩ := hcs
    exact ⟨[], rfl, ⟨fun _ => rfl, fun h => absurd rfl h⟩, by simp, Nat.zero_le _⟩
  · simp at hcs
    obtain ⟨rfl, rfl, rfl⟩ := hcs
    have hmc : m = cap := by simpa using hmm
    subst hmc
    have hd : d = .slice ((List.range N).map D) ((List.range (m - N)).map fun j => D (N + j)) := by
      have := congrArg Prod.fst hx; simpa using this
    have hN : N ≤ Rows.uptoBulk d := by
      have := bulk_slice ((List.range N).map D) ((List.range (m - N)).map fun j => D (N + j))
      rw [← hd] at this
      simpa using this
    by_cases h0 : N = 0
    · subst h0
      exact ⟨[], rfl, ⟨fun _ => rfl, fun h => absurd rfl h⟩, by simp, Nat.zero_le _⟩
    obtain ⟨b, o, rfl⟩ : ∃ b o, a = ⟨b, o, none⟩ := by
      obtain ⟨cs0, hc0, _⟩ := hel 0 (by omega)
      rw [cellsOp] at hc0
      obtain ⟨_, hl0, hcell0⟩ := World.cells?_some hc0
      have h00 := hcell0 0 (by omega)
      rw [List.getElem?_eq_getElem (by omega)] at h00
      obtain ⟨b, o, ha⟩ := oaddr_plain h00
      obtain ⟨b', o', sp⟩ := a
      simp [Addr.add] at ha
      obtain ⟨_, _, rfl⟩ := ha
      exact ⟨b', o', rfl⟩
    have hall : ∀ i, i < N → ∃ p : Opp, p.ok ∧ w.cell? ⟨b, o + i * 4, none⟩ = some (.int .i64 p.kind) ∧ w.cell? ⟨b, o + i * 4 + 1, none⟩ = some (.int .i64 p.a) ∧ w.cell? ⟨b, o + i * 4 + 2, none⟩ = some (.int .i64 p.b) ∧ w.cell? ⟨b, o + i * 4 + 3, none⟩ = some (.int .i64 p.c) := by
      intro i hi
      obtain ⟨cs, hc, htr⟩ := hel i (by omega)
      rw [cellsOp] at hc
      obtain ⟨p, hp, rfl⟩ := open_op htr
      obtain ⟨_, hl', hcell⟩ := World.cells?_some hc
      have q0 := hcell 0 (by omega)
      have q1 := hcell 1 (by omega)
      have q2 := hcell 2 (by omega)
      have q3 := hcell 3 (by omega)
      rw [oaddr_add, oaddr_add] at q0 q1 q2 q3
      exact ⟨p, hp, q0, q1, q2, q3⟩
    have hex : ∃ os : List Opp, os.length = N ∧ ∀ i p, os[i]? = some p → p.ok ∧ w.cell? ⟨b, o + i * 4, none⟩ = some (.int .i64 p.kind) ∧ w.cell? ⟨b, o + i * 4 + 1, none⟩ = some (.int .i64 p.a) ∧ w.cell? ⟨b, o + i * 4 + 2, none⟩ = some (.int .i64 p.b) ∧ w.cell? ⟨b, o + i * 4 + 3, none⟩ = some (.int .i64 p.c) := by
      have key : ∀ k, k ≤ N → ∃ os : List Opp, os.length = k ∧ ∀ i p, os[i]? = some p → p.ok ∧ w.cell? ⟨b, o + i * 4, none⟩ = some (.int .i64 p.kind) ∧ w.cell? ⟨b, o + i * 4 + 1, none⟩ = some (.int .i64 p.a) ∧ w.cell? ⟨b, o + i * 4 + 2, none⟩ = some (.int .i64 p.b) ∧ w.cell? ⟨b, o + i * 4 + 3, none⟩ = some (.int .i64 p.c) := by
        intro k
        induction k with
        | zero => intro _; exact ⟨[], rfl, by simp⟩
        | succ k ih =>
          intro hk
          obtain ⟨os, hl, hos⟩ := ih (by omega)
          obtain ⟨p, hp, q0, q1, q2, q3⟩ := hall k (by omega)
          refine ⟨os ++ [p], by simp [hl], fun i p' hi => ?_⟩
          by_cases hik : i < k
          · rw [List.getElem?_append_left (by omega)] at hi
            exact hos i p' hi
          · have hik' : i = k := by
              have := (List.getElem?_eq_some_iff.1 hi).1
              simp at this
              omega
            subst hik'
            rw [List.getElem?_append_right (by omega)] at hi
            simp [hl] at hi
            subst hi
            exact ⟨hp, q0, q1, q2, q3⟩
      exact key N (Nat.le_refl _)
    obtain ⟨os, hlen, hos⟩ := hex
    refine ⟨os, hlen, ⟨fun h => (by cases h), fun _ => ⟨b, o, rfl, ?_, fun i p hi => (hos i p hi).2⟩⟩, fun p hp => ?_, hN⟩
    · obtain ⟨p, _, q0, _⟩ := hall 0 (by omega)
      exact World.block_lt_of_cell? w _ q0
    · obtain ⟨i, hi⟩ := List.getElem?_of_mem hp
      exact (hos i p hi).1

end Go.Proofs.Ytajphdppmdoalaa

namespace Go.Proofs.Ytajphdppmdoalaa
open Go.ChangeShapes Go.WideShapes Go.ChangeAt Go.RowKit Go.Deep
set_option linter.unusedVariables false

set_option maxRecDepth 100000 in
theorem ended_lifted (os : Os) (started : os.Started) (H : Type) (enc : TypeId × Value → H) (F : Stop.Interp) :
    ReturnsInHanded {} Try.checked os 8 .any ((Rows.OpenSpec.upto Rows.endedSpec).pre6 enc Try.prog Try.f8 Rows.endedUptoRow.domain false) (((Rows.OpenSpec.upto Rows.endedSpec).at F).post enc Try.prog Try.f8 false true false false) := by
  refine returnsInHanded_of_cond (C := Try.checked) (s := Rows.OpenSpec.upto Rows.endedSpec) (k := Rows.uptoSmall) rfl own2 started (by kernel_rfl) Try.func8
    (OpenSpec.witness (enc := enc) (C := Try.checked) (s := Rows.OpenSpec.upto Rows.endedSpec) (k := Rows.uptoSmall) rfl false ⟨#[], #[.slice none 0 0, .int .i64 0, .int .i64 0], []⟩ 8 (by kernel_rfl) (by kernel_rfl) (by kernel_rfl)
      (x := ([.nil, .lit (.int .i64 0), .lit (.int .i64 0)], [], [])) (by kernel_rfl) rfl (by kernel_rfl)) ?_
  intro W base args ds gs before hval0 hW _ hk _
  have hval : ∀ (j : Nat) t v, Try.f8.params[j]? = some t → args[j]? = some v → Value.okWide Try.prog W .any base t v := hval0
  have hW' := hW
  obtain ⟨p, q, hA0, hV, rfl, hfz, hnd⟩ := hW
  have hA : DataW.TrodAll enc Try.prog W 0 (fun _ => true) true Try.f8.params.toList args.toList ds p := hA0
  rw [Try.params8] at hA hval
  obtain ⟨v0, vs0, d0, ds0, p0, q0, hargs, rfl, rfl, h0, r0⟩ := trodAll_cons hA
  obtain ⟨v1, vs1, d1, ds1, p1, q1, rfl, rfl, rfl, h1, r1⟩ := trodAll_cons r0
  obtain ⟨v2, vs2, d2, ds2, p2, q2, rfl, rfl, rfl, h2, r2⟩ := trodAll_cons r1
  obtain ⟨rfl, rfl, rfl⟩ := trodAll_nil r2
  obtain rfl : args = #[v0, v1, v2] := by cases args; simp_all
  obtain ⟨rfl, rfl⟩ := trodVars_none hV
  obtain ⟨a0, len0, cap0, rfl⟩ := okWide_slice Try.underlying62 (hval 0 62 v0 rfl rfl)
  obtain ⟨a1, rfl, rfl, rfl, w1⟩ := open_int Try.underlying3 (hval 1 3 v1 rfl rfl) h1
  obtain ⟨a2, rfl, rfl, rfl, w2⟩ := open_int Try.underlying3 (hval 2 3 v2 rfl rfl) h2
  have k0 := h0
  have lt0 : ∀ x ∈ p0, x.block < W.heap.size := by obtain ⟨m, hm⟩ := k0; exact DataW.trod_lt m _ _ _ hm
  obtain ⟨ps, hpl, hps, hpo, hbk⟩ := open_ops h0
  have hN : len0 ≤ 1048576 := Nat.le_trans hbk (bulk_three hk)
  clear hA0 hval0
  have b1 := bounds_i64 w1
  have b2 := bounds_i64 w2
  refine (ended_any len0 cap0 a1 a2 a0 ps W b1 b2 hpl hN hps hpo).mono fun e W' ⟨he, bel⟩ => ?_
  subst he
  exact ⟨_, rfl, _, _, _, [], _, [], hW', trodAll_mk1 (shut_bool Try.underlying4 _), (trodAll_cons_mk (Below.trod laidOut2 (by kernel_rfl) (of_decide_eq_true (by kernel_rfl)) k0 bel lt0) (trodAll_cons_mk (shut_int Try.underlying3 w1) (trodAll_cons_mk (shut_int Try.underlying3 w2) trodAll_mk0))), rfl, bel.frame _, fun h => by cases h⟩

theorem ended_holds : Rows.EndedUptoSaid :=
  OpenClaim.holds_of_cond 8 Try.f8 rfl rfl rfl rfl rfl rfl rfl ⟨rfl, rfl, rfl, rfl, rfl⟩ rfl rfl rfl rfl rfl (by kernel_rfl) Try.func8 (by kernel_rfl)
    (of_decide_eq_true (by kernel_rfl)) (by unfold Func.isWrapper; first | (rw [if_pos (by decide +kernel)]; kernel_rfl) | (rw [if_neg (by decide +kernel)]; exact ⟨rfl, rfl⟩))
    (fun os started H enc _ F => ended_lifted os started H enc F)

end Go.Proofs.Ytajphdppmdoalaa
