import Derived.Test.YtajphdppmdoalaaRows
import Derived.Test.YtajphdppmdoalaaN
import Derived.WalkKit
import Derived.ProofKit
import Derived.OpenShut
import Derived.ShutString
import Derived.ChangeOld
import Derived.Below
import Derived.Lib.SmallJoins
namespace Go.Proofs.Ytajphdppmdoalaa
open Go.ChangeShapes Go.WideShapes Go.ChangeAt Go.RowKit Go.Joins Go.Deep
set_option linter.unusedVariables false

theorem own : ownKnob Try.prog.godebug = none := by kernel_rfl
theorem laidOut : laidOutB Try.prog = true := by kernel_rfl

theorem cellsFlow : Try.prog.cellsOf 24 = 6 := by kernel_rfl

theorem array6 {α : Type} {cs : Array α} (h : cs.size = 6) : ∃ c0 c1 c2 c3 c4 c5, cs = #[c0, c1, c2, c3, c4, c5] := by
  obtain ⟨l⟩ := cs
  match l, h with
  | [c0, c1, c2, c3, c4, c5], _ => exact ⟨c0, c1, c2, c3, c4, c5, rfl⟩

set_option maxRecDepth 100000 in
/-- A flow that came in. -/
theorem open_flow {H : Type} {enc : TypeId × Value → H} {w : World} {base b0 : Nat} {spare : Nat → Bool} {held : Bool} {r : Reach} {v : Value} {d : DataW H} {p : List MemPlace}
    (hv : Value.okWide Try.prog w r b0 24 v) (h : DataW.Trod enc Try.prog w base spare held 24 v d p) :
    ∃ src dst id proto sport dport : Int, v = .agg #[.int .u16 src, .int .u16 dst, .int .u16 id, .int .u8 proto, .int .u16 sport, .int .u16 dport] ∧ (Lit.int .u16 src).wf = true ∧ (Lit.int .u16 dst).wf = true ∧ (Lit.int .u16 id).wf = true ∧ (Lit.int .u8 proto).wf = true ∧ (Lit.int .u16 sport).wf = true ∧ (Lit.int .u16 dport).wf = true := by
  obtain ⟨cs, rfl, hsz⟩ := okWide_struct Try.underlying24 hv
  obtain ⟨c0, c1, c2, c3, c4, c5, rfl⟩ := array6 (hsz.trans cellsFlow)
  obtain ⟨fuel, hf⟩ := h
  obtain ⟨xs, n, _, hx, hl, hlen, hg⟩ := DataW.trod_struct Try.underlying24 hf
  match xs, hlen with
  | [y0, y1, y2, y3, y4, y5], _ =>
    have g0 : DataW.trod enc Try.prog w base spare held n 22 [c0] = some y0 := hg 0 _ rfl
    have g1 : DataW.trod enc Try.prog w base spare held n 22 [c1] = some y1 := hg 1 _ rfl
    have g2 : DataW.trod enc Try.prog w base spare held n 22 [c2] = some y2 := hg 2 _ rfl
    have g3 : DataW.trod enc Try.prog w base spare held n 5 [c3] = some y3 := hg 3 _ rfl
    have g4 : DataW.trod enc Try.prog w base spare held n 22 [c4] = some y4 := hg 4 _ rfl
    have g5 : DataW.trod enc Try.prog w base spare held n 22 [c5] = some y5 := hg 5 _ rfl
    obtain ⟨a0, e0, _, w0⟩ := DataW.trod_int Try.underlying22 g0
    obtain ⟨a1, e1, _, w1⟩ := DataW.trod_int Try.underlying22 g1
    obtain ⟨a2, e2, _, w2⟩ := DataW.trod_int Try.underlying22 g2
    obtain ⟨a3, e3, _, w3⟩ := DataW.trod_int Try.underlying5 g3
    obtain ⟨a4, e4, _, w4⟩ := DataW.trod_int Try.underlying22 g4
    obtain ⟨a5, e5, _, w5⟩ := DataW.trod_int Try.underlying22 g5
    simp at e0 e1 e2 e3 e4 e5
    subst e0 e1 e2 e3 e4 e5
    exact ⟨a0, a1, a2, a3, a4, a5, rfl, w0, w1, w2, w3, w4, w5⟩

theorem nat_of (x : Int) (n : Int) (h : 0 ≤ x) (hn : x < n) : ∃ k : Nat, x = k ∧ (k : Int) < n := ⟨x.toNat, by omega, by omega⟩

theorem carried_any (src dst id proto sport dport off units rest : Int) (more : Bool) (w : World) (k0 : (Lit.int .u16 src).wf = true) (k1 : (Lit.int .u16 dst).wf = true) (k2 : (Lit.int .u16 id).wf = true) (k3 : (Lit.int .u8 proto).wf = true) (k4 : (Lit.int .u16 sport).wf = true) (k5 : (Lit.int .u16 dport).wf = true)
    (k6 : (Lit.int .i64 off).wf = true) (k7 : (Lit.int .i64 units).wf = true) (k8 : (Lit.int .i64 rest).wf = true) :
    Calls Try.prog 3 #[.agg #[.int .u16 src, .int .u16 dst, .int .u16 id, .int .u8 proto, .int .u16 sport, .int .u16 dport], .int .i64 off, .int .i64 units, .int .i64 rest, .bool more] w fun e w' => e = .returned (.bool true) ∧ Below w.heap.size w w' := by
  have a0 := bounds_u16 k0
  have a1 := bounds_u16 k1
  have a2 := bounds_u16 k2
  have a3 := bounds_u8 k3
  have a4 := bounds_u16 k4
  have a5 := bounds_u16 k5
  have a6 := bounds_i64 k6
  have a7 := bounds_i64 k7
  have a8 := bounds_i64 k8
  obtain ⟨o, ho, hol⟩ := nat_of (pk off 16) 16 (pk_bd off 16 (by decide)).1 (pk_bd off 16 (by decide)).2
  obtain ⟨u, hu, hul⟩ := nat_of (pk units 8) 8 (pk_bd units 8 (by decide)).1 (pk_bd units 8 (by decide)).2
  obtain ⟨r, hr, hrl⟩ := nat_of (pk rest 4) 4 (pk_bd rest 4 (by decide)).1 (pk_bd rest 4 (by decide)).2
  by_cases h0 : o = 0
  · subst h0
    cases more
    · exact carried_0f src dst id proto sport dport off units rest u r w a0.1 a0.2 a1.1 a1.2 a3.1 a3.2 a2.1 a2.2 a4.1 a4.2 a5.1 a5.2 a6 a7 a8 ho hu hr (by omega) (by omega)
    · exact carried_0t src dst id proto sport dport off units rest u r w a0.1 a0.2 a1.1 a1.2 a3.1 a3.2 a2.1 a2.2 a4.1 a4.2 a5.1 a5.2 a6 a7 a8 ho hu hr (by omega) (by omega)
  · cases more
    · exact carried_1f src dst id proto sport dport off units rest u r o w a0.1 a0.2 a1.1 a1.2 a3.1 a3.2 a2.1 a2.2 a4.1 a4.2 a5.1 a5.2 a6 a7 a8 ho hu hr (by omega) (by omega) (by omega) (by omega)
    · exact carried_1t src dst id proto sport dport off units rest u r o w a0.1 a0.2 a1.1 a1.2 a3.1 a3.2 a2.1 a2.2 a4.1 a4.2 a5.1 a5.2 a6 a7 a8 ho hu hr (by omega) (by omega) (by omega) (by omega)

set_option maxRecDepth 100000 in
theorem carried_lifted (os : Os) (started : os.Started) (H : Type) (enc : TypeId × Value → H) :
    ReturnsInHanded {} Try.checked os 3 .any (Rows.carriedSpec.pre6 enc Try.prog Try.f3 Rows.carriedRow.domain false) (Rows.carriedSpec.post enc Try.prog Try.f3 false true false false) := by
  refine returnsInHanded_of_change (C := Try.checked) own started (by kernel_rfl) Try.func3
    (ChangeSpec.witness6 (enc := enc) (C := Try.checked) false ⟨#[], #[.agg #[.int .u16 0, .int .u16 0, .int .u16 0, .int .u8 0, .int .u16 0, .int .u16 0], .int .i64 0, .int .i64 0, .int .i64 0, .bool false], []⟩ 8 (by kernel_rfl) (by kernel_rfl) (by kernel_rfl) (by kernel_rfl)) ?_
  intro W base args ds gs before hval0 hW hcnd _
  have hval : ∀ (j : Nat) t v, Try.f3.params[j]? = some t → args[j]? = some v → Value.okWide Try.prog W .any base t v := hval0
  have hW' := hW
  obtain ⟨p, q, hA0, hV, rfl, hfz, hnd⟩ := hW
  have hA : DataW.TrodAll enc Try.prog W 0 (fun _ => true) true Try.f3.params.toList args.toList ds p := hA0
  rw [Try.params3] at hA hval
  obtain ⟨v0, vs0, d0, ds0, p0, q0, hargs, rfl, rfl, h0, r0⟩ := trodAll_cons hA
  obtain ⟨v1, vs1, d1, ds1, p1, q1, rfl, rfl, rfl, h1, r1⟩ := trodAll_cons r0
  obtain ⟨v2, vs2, d2, ds2, p2, q2, rfl, rfl, rfl, h2, r2⟩ := trodAll_cons r1
  obtain ⟨v3, vs3, d3, ds3, p3, q3, rfl, rfl, rfl, h3, r3⟩ := trodAll_cons r2
  obtain ⟨v4, vs4, d4, ds4, p4, q4, rfl, rfl, rfl, h4, r4⟩ := trodAll_cons r3
  obtain ⟨rfl, rfl, rfl⟩ := trodAll_nil r4
  obtain rfl : args = #[v0, v1, v2, v3, v4] := by cases args; simp_all
  obtain ⟨rfl, rfl⟩ := trodVars_none hV
  have k0 := h0
  have lt0 : ∀ x ∈ p0, x.block < W.heap.size := by obtain ⟨m, hm⟩ := k0; exact DataW.trod_lt m _ _ _ hm
  obtain ⟨src, dst, id, proto, sport, dport, rfl, z0, z1, z2, z3, z4, z5⟩ := open_flow (hval 0 24 v0 rfl rfl) h0
  obtain ⟨a1, rfl, rfl, rfl, w1⟩ := open_int Try.underlying3 (hval 1 3 v1 rfl rfl) h1
  obtain ⟨a2, rfl, rfl, rfl, w2⟩ := open_int Try.underlying3 (hval 2 3 v2 rfl rfl) h2
  obtain ⟨a3, rfl, rfl, rfl, w3⟩ := open_int Try.underlying3 (hval 3 3 v3 rfl rfl) h3
  obtain ⟨a4, rfl, rfl, rfl⟩ := open_bool Try.underlying4 (hval 4 4 v4 rfl rfl) h4
  clear hA0 hval0
  refine (carried_any src dst id proto sport dport a1 a2 a3 a4 W z0 z1 z2 z3 z4 z5 w1 w2 w3).mono fun e W' ⟨he, bel⟩ => ?_
  subst he
  exact ⟨_, rfl, _, _, _, [], _, [], hW', trodAll_mk1 (shut_bool Try.underlying4 _), (trodAll_cons_mk (Below.trod laidOut (by kernel_rfl) (of_decide_eq_true (by kernel_rfl)) k0 bel lt0) (trodAll_cons_mk (shut_int Try.underlying3 w1) (trodAll_cons_mk (shut_int Try.underlying3 w2) (trodAll_cons_mk (shut_int Try.underlying3 w3) (trodAll_cons_mk (shut_bool Try.underlying4 _) trodAll_mk0))))), rfl, bel.frame _, fun h => by cases h⟩

theorem carried_holds : Rows.CarriedSaid :=
  OpenClaim.holds_of_wide 3 Try.f3 rfl rfl rfl rfl rfl rfl rfl ⟨rfl, rfl, rfl, rfl, rfl⟩ rfl rfl rfl rfl rfl (by kernel_rfl) Try.func3 (by kernel_rfl)
    (of_decide_eq_true (by kernel_rfl)) (by unfold Func.isWrapper; first | (rw [if_pos (by decide +kernel)]; kernel_rfl) | (rw [if_neg (by decide +kernel)]; exact ⟨rfl, rfl⟩))
    (fun os started H enc _ => carried_lifted os started H enc)

end Go.Proofs.Ytajphdppmdoalaa
