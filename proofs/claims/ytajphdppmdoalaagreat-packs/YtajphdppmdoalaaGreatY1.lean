import Derived.Test.YtajphdppmdoalaaGreatRows
import Derived.Test.YtajphdppmdoalaaGreatX1
import Derived.WalkKit
import Derived.ProofKit
import Derived.OpenShut
import Derived.ShutString
import Derived.ChangeOld
import Derived.Below
import Derived.SizedLaws
import Derived.Deep.Slices
namespace Go.Proofs.YtajphdppmdoalaaGreat
open Go.ChangeShapes Go.WideShapes Go.ChangeAt Go.RowKit Go.Deep
set_option linter.unusedVariables false

theorem bytes5 : Tryz.prog.bytesOf 5 = 1 := by kernel_rfl
theorem bytesStep : Tryz.prog.bytesOf 42 = 96 := by kernel_rfl
theorem cells5 : Tryz.prog.cellsOf 5 = 1 := by kernel_rfl
theorem cellsStep : Tryz.prog.cellsOf 42 = 14 := by kernel_rfl
theorem cellsPacket : Tryz.prog.cellsOf 40 = 9 := by kernel_rfl

/-- A list of bytes that came in. -/
theorem open_lst {H : Type} {enc : TypeId × Value → H} {w : World} {fuel : Nat} {v : Value} {y : DataW H × List MemPlace}
    (h : DataW.trod enc Tryz.prog w 0 (fun _ => true) true fuel 38 [v] = some y) (hsz : ∀ x ∈ y.1.weights Tryz.prog 38, x ≤ reachBytes) :
    ∃ ao n cap zs, v = .slice ao n cap ∧ Lst w ao n cap zs := by
  rcases open_ints Tryz.underlying38 Tryz.underlying5 cells5 h with ⟨hcs, _⟩ | ⟨a, len, cap, zs, hcs, _, hl, hm, hz, hx, hcell, hwz⟩
  · simp at hcs
    exact ⟨none, 0, 0, [], hcs, rfl, ⟨fun _ => rfl, fun h => absurd rfl h⟩, by simp, by decide, fun _ => rfl, Nat.le_refl _, by decide⟩
  · simp at hcs
    have hz' : zs.length = cap := by simpa using hz
    refine ⟨some a, len, cap, zs.take len, hcs, by simp; omega, ⟨by simp, ?_⟩, ?_, ?_, by simp, hl, hm⟩
    · intro hne
      have hp : 0 < zs.length := by cases zs with | nil => simp at hne | cons _ _ => simp
      obtain ⟨b, o, rfl, hc⟩ := ints_at hcell hp
      refine ⟨b, o, rfl, World.block_lt_of_cell? w _ (by simpa using hc 0 hp), fun j hj => ?_⟩
      rw [List.length_take] at hj
      rw [hc j (by omega), List.getD_eq_getElem?_getD, List.getD_eq_getElem?_getD, List.getElem?_take_of_lt (by omega)]
    · intro z hzz
      exact bounds_u8 (hwz z (List.mem_of_mem_take hzz))
    · have h1 := hsz ((zs.length) * 1) (by rw [hx]; simp [DataW.weights, Tryz.underlying38, bytes5, lits]; left; omega)
      simp only [reachBytes] at h1
      omega

theorem list14 {α : Type} {l : List α} (h : l.length = 14) : ∃ c0 c1 c2 c3 c4 c5 c6 c7 c8 c9 c10 c11 c12 c13, l = [c0, c1, c2, c3, c4, c5, c6, c7, c8, c9, c10, c11, c12, c13] := by
  match l, h with
  | [c0, c1, c2, c3, c4, c5, c6, c7, c8, c9, c10, c11, c12, c13], _ => exact ⟨c0, c1, c2, c3, c4, c5, c6, c7, c8, c9, c10, c11, c12, c13, rfl⟩

theorem weights_each {H : Type} {ts : List TypeId} {ds : List (DataW H)} {B : Nat} (h : ∀ x ∈ DataW.weightsEach Tryz.prog ts ds, x ≤ B) {j : Nat} {t : TypeId} {d : DataW H} (ht : ts[j]? = some t) (hd : ds[j]? = some d) : ∀ x ∈ d.weights Tryz.prog t, x ≤ B :=
  fun x hx => h x (DataW.weights_mem_each ht hd x hx)
theorem weights_all {H : Type} {e : TypeId} : ∀ {ds : List (DataW H)} {B : Nat}, (∀ x ∈ DataW.weightsAll Tryz.prog e ds, x ≤ B) → ∀ {j : Nat} {d : DataW H}, ds[j]? = some d → ∀ x ∈ d.weights Tryz.prog e, x ≤ B
  | d0 :: ds, B, h, 0, d, hd, x, hx => by
    simp at hd; subst hd
    exact h x (by simp [DataW.weightsAll, hx])
  | d0 :: ds, B, h, j + 1, d, hd, x, hx => weights_all (ds := ds) (fun y hy => h y (by simp [DataW.weightsAll, hy])) (by simpa using hd) x hx

set_option maxRecDepth 100000 in
set_option maxHeartbeats 800000 in
/-- A step that came in. -/
theorem open_step {H : Type} {enc : TypeId × Value → H} {w : World} {fuel b o : Nat} {cs : List Value} {y : DataW H × List MemPlace} (hlt : b < w.heap.size)
    (hcell : ∀ j v, cs[j]? = some v → w.cell? ⟨b, o + j, none⟩ = some v)
    (h : DataW.trod enc Tryz.prog w 0 (fun _ => true) true fuel 42 cs = some y) (hsz : ∀ x ∈ y.1.weights Tryz.prog 42, x ≤ reachBytes) :
    ∃ kind ee aa bb src dst proto id off more sport dport ao n cap zs so sn sc ys, StepIs w b o kind ee aa bb src dst proto id off more sport dport ao n cap zs so sn sc ys := by
  obtain ⟨xs, n, _, hx, hl, hlen, hg⟩ := DataW.trod_struct Tryz.underlying42 h
  rw [cellsStep] at hl
  obtain ⟨c0, c1, c2, c3, c4, c5, c6, c7, c8, c9, c10, c11, c12, c13, rfl⟩ := list14 hl
  match xs, hlen with
  | [y0, y1, y2, y3, y4, y5], _ =>
    have g0 : DataW.trod enc Tryz.prog w 0 (fun _ => true) true n 3 [c0] = some y0 := hg 0 _ rfl
    have g1 : DataW.trod enc Tryz.prog w 0 (fun _ => true) true n 3 [c1] = some y1 := hg 1 _ rfl
    have g2 : DataW.trod enc Tryz.prog w 0 (fun _ => true) true n 3 [c2] = some y2 := hg 2 _ rfl
    have g3 : DataW.trod enc Tryz.prog w 0 (fun _ => true) true n 3 [c3] = some y3 := hg 3 _ rfl
    have g4 : DataW.trod enc Tryz.prog w 0 (fun _ => true) true n 40 [c4, c5, c6, c7, c8, c9, c10, c11, c12] = some y4 := hg 4 _ rfl
    have g5 : DataW.trod enc Tryz.prog w 0 (fun _ => true) true n 38 [c13] = some y5 := hg 5 _ rfl
    have hws : ∀ x ∈ DataW.weightsEach Tryz.prog [3, 3, 3, 3, 40, 38] [y0.1, y1.1, y2.1, y3.1, y4.1, y5.1], x ≤ reachBytes := by
      intro x hx'
      refine hsz x ?_
      rw [hx]
      simpa [DataW.weights, Tryz.underlying42] using hx'
    have hs4 := weights_each hws (j := 4) rfl rfl
    have hs5 := weights_each hws (j := 5) rfl rfl
    obtain ⟨k0, e0, _, w0⟩ := DataW.trod_int Tryz.underlying3 g0
    obtain ⟨k1, e1, _, w1⟩ := DataW.trod_int Tryz.underlying3 g1
    obtain ⟨k2, e2, _, w2⟩ := DataW.trod_int Tryz.underlying3 g2
    obtain ⟨k3, e3, _, w3⟩ := DataW.trod_int Tryz.underlying3 g3
    obtain ⟨so, sn, sc, ys, e13, hys⟩ := open_lst g5 hs5
    obtain ⟨zs4, n4, _, hx4, _, hlen4, hg4⟩ := DataW.trod_struct Tryz.underlying40 g4
    match zs4, hlen4 with
    | [z0, z1, z2, z3, z4, z5, z6, z7, z8], _ =>
      have p0 : DataW.trod enc Tryz.prog w 0 (fun _ => true) true n4 37 [c4] = some z0 := hg4 0 _ rfl
      have p1 : DataW.trod enc Tryz.prog w 0 (fun _ => true) true n4 37 [c5] = some z1 := hg4 1 _ rfl
      have p2 : DataW.trod enc Tryz.prog w 0 (fun _ => true) true n4 5 [c6] = some z2 := hg4 2 _ rfl
      have p3 : DataW.trod enc Tryz.prog w 0 (fun _ => true) true n4 37 [c7] = some z3 := hg4 3 _ rfl
      have p4 : DataW.trod enc Tryz.prog w 0 (fun _ => true) true n4 5 [c8] = some z4 := hg4 4 _ rfl
      have p5 : DataW.trod enc Tryz.prog w 0 (fun _ => true) true n4 4 [c9] = some z5 := hg4 5 _ rfl
      have p6 : DataW.trod enc Tryz.prog w 0 (fun _ => true) true n4 37 [c10] = some z6 := hg4 6 _ rfl
      have p7 : DataW.trod enc Tryz.prog w 0 (fun _ => true) true n4 37 [c11] = some z7 := hg4 7 _ rfl
      have p8 : DataW.trod enc Tryz.prog w 0 (fun _ => true) true n4 38 [c12] = some z8 := hg4 8 _ rfl
      have hws4 : ∀ x ∈ DataW.weightsEach Tryz.prog [37, 37, 5, 37, 5, 4, 37, 37, 38] [z0.1, z1.1, z2.1, z3.1, z4.1, z5.1, z6.1, z7.1, z8.1], x ≤ reachBytes := by
        intro x hx'
        refine hs4 x ?_
        rw [hx4]
        simpa [DataW.weights, Tryz.underlying40] using hx'
      have hs8 := weights_each hws4 (j := 8) rfl rfl
      obtain ⟨q0, f0, _, v0⟩ := DataW.trod_int Tryz.underlying37 p0
      obtain ⟨q1, f1, _, v1⟩ := DataW.trod_int Tryz.underlying37 p1
      obtain ⟨q2, f2, _, v2⟩ := DataW.trod_int Tryz.underlying5 p2
      obtain ⟨q3, f3, _, v3⟩ := DataW.trod_int Tryz.underlying37 p3
      obtain ⟨q4, f4, _, v4⟩ := DataW.trod_int Tryz.underlying5 p4
      obtain ⟨q5, f5, _⟩ := DataW.trod_bool Tryz.underlying4 p5
      obtain ⟨q6, f6, _, v6⟩ := DataW.trod_int Tryz.underlying37 p6
      obtain ⟨q7, f7, _, v7⟩ := DataW.trod_int Tryz.underlying37 p7
      obtain ⟨ao, dn, dc, ds, e12, hds⟩ := open_lst p8 hs8
      simp at e0 e1 e2 e3 f0 f1 f2 f3 f4 f5 f6 f7
      subst e0 e1 e2 e3 e12 e13 f0 f1 f2 f3 f4 f5 f6 f7
      exact ⟨k0, k1, k2, k3, q0, q1, q2, q3, q4, q5, q6, q7, ao, dn, dc, ds, so, sn, sc, ys, hcell, hlt, bounds_u16 v0, bounds_u16 v1, bounds_u8 v2, bounds_u16 v3, bounds_u8 v4, bounds_u16 v6, bounds_u16 v7, bounds_i64 w0, hds, hys⟩

end Go.Proofs.YtajphdppmdoalaaGreat
