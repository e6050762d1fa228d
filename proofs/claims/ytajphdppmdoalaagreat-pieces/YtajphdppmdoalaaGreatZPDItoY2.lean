import Derived.Test.YtajphdppmdoalaaGreatZPDPtoDH
import Derived.Test.YtajphdppmdoalaaGreatZPZ4toCA
import Derived.Test.YtajphdppmdoalaaGreatRows
import Derived.WalkKit
import Derived.ProofKit
import Derived.OpenShut
import Derived.ShutString
import Derived.ChangeOld
import Derived.Below
import Derived.SizedLaws
import Derived.Deep.Slices
import Derived.Test.YtajphdppmdoalaaGreatZPMLtoR0
import Derived.Lib.SmallJoins
namespace Go.Proofs.YtajphdppmdoalaaGreat
open Go.RowKit
set_option linter.unusedVariables false

set_option maxHeartbeats 800000 in
/-- There is a New among the kinds. -/
theorem needs_any (KS : List Int) (gk q0 : Nat) (w : World) (h5 : KS[q0]? = some 5) (hl : KS.length ≤ 1000) (hk : ∀ (j : Nat) K, KS[j]? = some K → w.cell? ⟨gk, j, none⟩ = some (.int .i64 K)) :
    Calls Tryz.prog 10 #[.slice (some ⟨gk, 0, none⟩) KS.length KS.length] w fun e w' => e = .returned (.bool true) ∧ w' = w := by
  have HK := hide hk
  have hq0 : q0 < KS.length := by
    by_cases hlt : q0 < KS.length
    · exact hlt
    · rw [List.getElem?_eq_none (by omega)] at h5
      simp at h5
  have H5 := hide h5
  clear hk h5
  generalize hNK : KS.length = NK at *
  go_enter Tryz.func10, Tryz.ntmps10
  go_wp2_with fail
  go_loop [3] (fun i => ∃ q : Nat, q ≤ q0 ∧ i = .int .i64 q) (fun i => NK - (intOf i).toNat)
  case atStart => exact ⟨0, by omega, rfl⟩
  case round =>
    obtain ⟨q, hq, rfl⟩ := hrel
    obtain ⟨K, hK⟩ : ∃ K, KS[q]? = some K := ⟨_, List.getElem?_eq_getElem (by omega)⟩
    have ck := HK.out q K hK
    have i1 : (q : Int) < (NK : Int) := by omega
    by_cases h5 : K = 5
    · subst h5
      go_wp2
      go_ret
      exact ⟨rfl, rfl⟩
    · have hne : (K == 5) = false := by simp [h5]
      have hq1 : q < q0 := by
        rcases Nat.lt_or_ge q q0 with h | h
        · exact h
        · obtain rfl : q = q0 := by omega
          rw [H5.out] at hK
          simp only [Option.some.injEq] at hK
          exact absurd hK.symm h5
      clear hK
      go_wp2
      go_round
      case rel => exact ⟨q + 1, by omega, by go_num⟩
      case measure => simp [intOf]; omega

theorem wd_start (w : World) : Wd w (w.alloc (.cells #[.slice none 0 0, .slice none 0 0, .slice none 0 0, .slice none 0 0, .slice none 0 0, .slice none 0 0, .slice none 0 0, .int .i64 0] 34)) w.heap.size 0 0 (.slice none 0 0) (fun k => k = w.heap.size) [] := by
  have hcol : ∀ (e se : TypeId) (s : Nat) (f : Int → Nat → List Value), Col (w.alloc (.cells #[.slice none 0 0, .slice none 0 0, .slice none 0 0, .slice none 0 0, .slice none 0 0, .slice none 0 0, .slice none 0 0, .int .i64 0] 34)) (fun k => k = w.heap.size) e se s f (.slice none 0 0) (.slice none 0 0) [] [] 0 := fun e se s f =>
    ⟨World.ownsRow_nil _ _ _ _, World.ownsRow_nil _ _ _ _, fun i u k hu => by simp at hu, by simp [Value.ownBlock], by simp [Value.ownBlock]⟩
  refine ⟨⟨.slice none 0 0, .slice none 0 0, .slice none 0 0, .slice none 0 0, .slice none 0 0, .slice none 0 0, [], [], [], [], [], [], heap_alloc_new _ _, hcol _ _ _ _, hcol _ _ _ _, hcol _ _ _ _, by simp [Value.ownBlock], by simp [Value.ownBlock], by simp [Value.ownBlock], rfl, fun k hk => by rw [hk]; simp, ⟨rfl, rfl, rfl⟩, by simp⟩, World.ownsRow_nil _ _ _ _, by simp [Value.ownBlock], fun k hk => by rw [hk]; exact Nat.le_refl _, fun i p hp => by simp at hp, fun i p hp => by simp at hp, fun i j p q _ hp => by simp at hp, by simp, (Below.refl _ _).alloc (Nat.le_refl _) _⟩

theorem any_take (KS : List Int) (kind : Int) (k : Nat) (K : Int) (h : KS[k]? = some K) : (KS.take (k + 1)).any (fun z => kind == z) = ((KS.take k).any (fun z => kind == z) || (kind == K)) := by
  rw [List.take_add_one, h, List.any_append]
  simp

set_option maxRecDepth 100000 in
set_option maxHeartbeats 3200000 in
theorem plays_many (KS : List Int) (q0 : Nat) (h5 : KS[q0]? = some 5) (hl : KS.length ≤ 1000) (hdo : ∀ K ∈ KS, StepW K) (b o N cap gk : Nat) (w : World) (hS : Script w b o N) (hN : N * 96 ≤ 140737488351232) (hk : ∀ (j : Nat) K, KS[j]? = some K → w.cell? ⟨gk, j, none⟩ = some (.int .i64 K)) (hgk : gk < w.heap.size) :
    Calls Tryz.prog 9 #[.slice (some ⟨b, o, none⟩) N cap, .slice (some ⟨gk, 0, none⟩) KS.length KS.length] w fun e w' => e = .returned (.bool true) ∧ Below w.heap.size w w' := by
  have HS := hide hS
  have HD := hide hdo
  have HK := hide hk
  have HN : Hid (∀ O, Calls Tryz.prog 10 #[.slice (some ⟨gk, 0, none⟩) KS.length KS.length] (w.alloc O) fun e w' => e = .returned (.bool true) ∧ w' = (w.alloc O)) := fun O => needs_any KS gk q0 _ h5 hl (fun j K hj => (World.cell?_alloc_past O _ _ hgk).trans (hk j K hj))
  have HBG := hide (world_begins 0 2 3 0 0 0 0 0 false 0 0 none 0 0 none 0 0 w _ w.heap.size 0 0 _ _ [] (wd_start w) (by decide))
  clear hS hdo hk h5
  go_enter Tryz.func9, Tryz.ntmps9
  go_wp2_with fail
  refine (HN.out _).mono ?_
  rintro e w1 ⟨rfl, rfl⟩
  go_wp2_with fail
  refine HBG.out.mono ?_
  rintro e w2 ⟨rfl, vl, L, hW, hL⟩
  have hL1 : L.length = 1 := by
    rcases hL with ⟨_, h⟩ | ⟨h, _⟩
    · simpa using h
    · exact absurd (by decide) h
  obtain ⟨gl, cl, hvl⟩ := own_some hW.row (by omega)
  rw [hL1] at hvl
  have cV : w2.cell? ⟨w.heap.size, 0, none⟩ = some (.slice (some ⟨gl, 0, none⟩) 1 cl) := by rw [← hvl]; exact hW.book.cell
  have hwb : w.heap.size < w2.heap.size := hW.book.flt.2 _ hW.book.flt.1
  have HW := hide hW
  clear hW hL hvl HN HBG
  go_wp2_with fail
  clear cV
  go_loopw [8] (fun i8 wr => ∃ i : Nat, i ≤ N ∧ i8 = .int .i64 i ∧ Hid (∃ c vl G L, c ≤ i ∧ 0 < L.length ∧ Wd w wr w.heap.size c (i + 1) vl G L)) (fun i8 _ => N - (intOf i8).toNat)
  case atStart => exact ⟨0, by omega, rfl, ⟨0, vl, _, L, by omega, by omega, HW.out⟩⟩
  case round =>
    obtain ⟨i, hi, rfl, HI⟩ := hrel
    by_cases hlt : i < N
    · obtain ⟨kind, ee, aa, bb, src, dst, proto, id, off, more, sport, dport, ao, n, dcap, zs, so, sn, sc, ys, hst⟩ := HS.out i hlt
      have HB : Hid (Below w.heap.size w wr) := by obtain ⟨_, _, _, _, _, _, h⟩ := HI.out; exact h.bel
      have hst' := hst.below HB.out
      have HST := hide hst
      have ck : ∀ (j : Nat) K, KS[j]? = some K → wr.cell? ⟨gk, j, none⟩ = some (.int .i64 K) := fun j K hj => (HB.out.cell (p := ⟨gk, j, none⟩) hgk).trans (HK.out j K hj)
      have HCK := hide ck
      have s0 : wr.cell? ⟨b, o + i * 14, none⟩ = some (.int .i64 kind) := hst'.cell 0 _ rfl
      have s1 := hst'.cell 1 _ rfl
      have s2 := hst'.cell 2 _ rfl
      have s3 := hst'.cell 3 _ rfl
      have s4 := hst'.cell 4 _ rfl
      have s5 := hst'.cell 5 _ rfl
      have s6 := hst'.cell 6 _ rfl
      have s7 := hst'.cell 7 _ rfl
      have s8 := hst'.cell 8 _ rfl
      have s9 := hst'.cell 9 _ rfl
      have s10 := hst'.cell 10 _ rfl
      have s11 := hst'.cell 11 _ rfl
      have s12 := hst'.cell 12 _ rfl
      have s13 := hst'.cell 13 _ rfl
      clear hst hst' ck
      go_wp2_with fail
      go_loopw [9, 10] (fun in9 k10 wi => ∃ k : Nat, k ≤ KS.length ∧ k10 = .int .i64 k ∧ in9 = .bool ((KS.take k).any (fun z => kind == z)) ∧ ∃ m, wi = wr.drewN m) (fun _ k10 _ => KS.length - (intOf k10).toNat)
      case atStart => exact ⟨0, by omega, rfl, by simp, 0, rfl⟩
      case round =>
        obtain ⟨k, hk, rfl, hin, m, rfl⟩ := hrel
        by_cases hkl : k < KS.length
        · obtain ⟨K, hK⟩ : ∃ K, KS[k]? = some K := ⟨_, List.getElem?_eq_getElem hkl⟩
          have ck := HCK.out k K hK
          have hstep := any_take KS kind k K hK
          have i1 : (i : Int) < (N : Int) := by omega
          have k1 : (k : Int) < (KS.length : Int) := by omega
          clear hK
          generalize (KS.take k).any (fun z => kind == z) = bk at *
          subst hin
          cases bk
          · go_wp2_with fail
            go_quiet (fail)
            go_wp2
            go_roundw
            case rel => exact ⟨k + 1, by omega, by go_num, by rw [hstep]; simp, _, rfl⟩
            case measure => simp [intOf]; omega
          · go_wp2_with fail
            go_quiet (fail)
            go_wp2
            go_roundw
            case rel => exact ⟨k + 1, by omega, by go_num, by rw [hstep]; simp, _, rfl⟩
            case measure => simp [intOf]; omega
        · obtain rfl : k = KS.length := by omega
          rw [List.take_length] at hin
          cases hany : KS.any (fun z => kind == z)
          · rw [hany] at hin
            subst hin
            go_wp2
            go_roundw
            case rel =>
              obtain ⟨c, vl', G', L', h1, h2, h3⟩ := HI.out
              exact ⟨i + 1, by omega, by go_num, ⟨c, vl', G', L', by omega, h2, (h3.mono (Nat.le_succ _)).below (below_drewN (Below.refl _ _) m)⟩⟩
            case measure => simp [intOf]; omega
          · rw [hany] at hin
            subst hin
            have hmem : kind ∈ KS := by
              obtain ⟨z, hz, hzk⟩ := List.any_eq_true.1 hany
              have : kind = z := by simpa using hzk
              rw [this]
              exact hz
            clear hany
            have i1 : (i : Int) < (N : Int) := by omega
            obtain ⟨c, vl', G', L', hc1, hL1', hW1⟩ := HI.out
            have HC := hide (HD.out kind hmem w (wr.drewN m) w.heap.size c (i + 1) vl' G' L' b (o + i * 14) ee aa bb src dst proto id off more sport dport ao n dcap zs so sn sc ys HST.out (hW1.below (below_drewN (Below.refl _ _) m)) hL1' (by omega) (by omega))
            clear hW1
            go_wp2_with fail
            refine HC.out.mono ?_
            rintro e w3 ⟨rfl, c', vl2, G2, L2, hc2, hl2, hW2⟩
            have HW2 := hide hW2
            obtain ⟨vbs, ves, vfs, vkb, vke, vkf, BS, ES, FS, KB, KE, KF, hB⟩ := hW2.book
            have HKP := hide (kept_all w.heap.size c' vl2 vbs ves vfs vkb vke vkf G2 BS ES FS KB KE KF w3 hB (by omega))
            clear hB hW2 HC s0 s1 s2 s3 s4 s5 s6 s7 s8 s9 s10 s11 s12 s13 HST HCK HB
            go_wp2_with fail
            refine HKP.out.mono ?_
            rintro e w4 ⟨rfl, hb4⟩
            go_wp2
            go_roundw
            case rel => exact ⟨i + 1, by omega, by go_num, ⟨c', vl2, G2, L2, by omega, by omega, HW2.out.below hb4⟩⟩
            case measure => simp [intOf]; omega
    · go_wp2
      go_ret
      obtain ⟨_, _, _, _, _, _, h⟩ := HI.out
      exact ⟨rfl, h.bel⟩

set_option maxRecDepth 100000 in
set_option maxHeartbeats 800000 in
theorem plays_void (KS : List Int) (q0 : Nat) (h5 : KS[q0]? = some 5) (hl : KS.length ≤ 1000) (ao : Option Addr) (cap gk : Nat) (w : World) (hk : ∀ (j : Nat) K, KS[j]? = some K → w.cell? ⟨gk, j, none⟩ = some (.int .i64 K)) (hgk : gk < w.heap.size) :
    Calls Tryz.prog 9 #[.slice ao 0 cap, .slice (some ⟨gk, 0, none⟩) KS.length KS.length] w fun e w' => e = .returned (.bool true) ∧ Below w.heap.size w w' := by
  have HN : Hid (∀ O, Calls Tryz.prog 10 #[.slice (some ⟨gk, 0, none⟩) KS.length KS.length] (w.alloc O) fun e w' => e = .returned (.bool true) ∧ w' = (w.alloc O)) := fun O => needs_any KS gk q0 _ h5 hl (fun j K hj => (World.cell?_alloc_past O _ _ hgk).trans (hk j K hj))
  have HBG := hide (world_begins 0 2 3 0 0 0 0 0 false 0 0 none 0 0 none 0 0 w _ w.heap.size 0 0 _ _ [] (wd_start w) (by decide))
  clear hk h5
  go_enter Tryz.func9, Tryz.ntmps9
  go_wp2_with fail
  refine (HN.out _).mono ?_
  rintro e w1 ⟨rfl, rfl⟩
  go_wp2_with fail
  refine HBG.out.mono ?_
  rintro e w2 ⟨rfl, vl, L, hW, hL⟩
  have hL1 : L.length = 1 := by
    rcases hL with ⟨_, h⟩ | ⟨h, _⟩
    · simpa using h
    · exact absurd (by decide) h
  obtain ⟨gl, cl, hvl⟩ := own_some hW.row (by omega)
  rw [hL1] at hvl
  have cV : w2.cell? ⟨w.heap.size, 0, none⟩ = some (.slice (some ⟨gl, 0, none⟩) 1 cl) := by rw [← hvl]; exact hW.book.cell
  have hwb : w.heap.size < w2.heap.size := hW.book.flt.2 _ hW.book.flt.1
  have HW : Hid (Below w.heap.size w w2) := hW.bel
  clear hW hL hvl HN HBG
  go_wp2_with fail
  refine wp_loop_rounds 1 ?_
  rw [rounds_succ]
  go_wp2
  go_ret
  exact ⟨rfl, HW.out⟩

end Go.Proofs.YtajphdppmdoalaaGreat

namespace Go.Proofs.YtajphdppmdoalaaGreat
open Go.RowKit
set_option linter.unusedVariables false

/-- A script that came in: nothing in it, or its steps lie in memory. -/
def ScriptIn (w : World) (ao : Option Addr) (N : Nat) : Prop := N = 0 ∨ ∃ b o, ao = some ⟨b, o, none⟩ ∧ Script w b o N
theorem Script.below {w w' : World} {b o N : Nat} (h : Script w b o N) (hb : Below w.heap.size w w') : Script w' b o N := by
  intro i hi
  obtain ⟨k, a1, a2, a3, a4, a5, a6, a7, a8, a9, a10, a11, a12, a13, a14, a15, a16, a17, a18, a19, hs⟩ := h i hi
  exact ⟨k, a1, a2, a3, a4, a5, a6, a7, a8, a9, a10, a11, a12, a13, a14, a15, a16, a17, a18, a19, hs.below hb⟩

end Go.Proofs.YtajphdppmdoalaaGreat

namespace Go.Proofs.YtajphdppmdoalaaGreat
open Go.ChangeShapes Go.WideShapes Go.ChangeAt Go.RowKit Go.Deep
set_option linter.unusedVariables false

theorem bytes5 : Tryz.prog.bytesOf 5 = 1 := by kernel_rfl
theorem bytesStep : Tryz.prog.bytesOf 42 = 96 := by kernel_rfl
theorem cells5 : Tryz.prog.cellsOf 5 = 1 := by kernel_rfl
theorem cellsStep : Tryz.prog.cellsOf 42 = 14 := by kernel_rfl
/-- A list of bytes that came in. -/
theorem open_lst {H : Type} {enc : TypeId × Value → H} {w : World} {fuel : Nat} {v : Value} {y : DataW H × List MemPlace}
    (h : DataW.trod enc Tryz.prog w 0 (fun _ => true) true fuel 38 [v] = some y) (hsz : ∀ x ∈ y.1.weights Tryz.prog 38, x ≤ reachBytes) :
    ∃ ao n cap zs, v = .slice ao n cap ∧ Lst w ao n cap zs := by
  rcases open_ints Tryz.underlying38 Tryz.underlying5 cells5 h with ⟨hcs, _⟩ | ⟨a, len, cap, zs, hcs, _, hl, hm, hz, hx, hcell, hwz⟩
  · simp at hcs
    exact ⟨none, 0, 0, [], hcs, rfl, ⟨fun _ => rfl, fun h => absurd rfl h⟩, by simp, by decide, fun _ => rfl, Nat.le_refl _, by decide⟩
  · simp at hcs
    have hz' : zs.length = cap := by simpa using hz
    refine ⟨some a, len, cap, zs.take len, hcs, by simp; omega, ⟨by simp, ?_⟩, ?_, ?_, by simp, hl, hm⟩
    · intro hne
      have hp : 0 < zs.length := by cases zs with | nil => simp at hne | cons _ _ => simp
      obtain ⟨b, o, rfl, hc⟩ := ints_at hcell hp
      refine ⟨b, o, rfl, World.block_lt_of_cell? w _ (by simpa using hc 0 hp), fun j hj => ?_⟩
      rw [List.length_take] at hj
      rw [hc j (by omega), List.getD_eq_getElem?_getD, List.getD_eq_getElem?_getD, List.getElem?_take_of_lt (by omega)]
    · intro z hzz
      exact bounds_u8 (hwz z (List.mem_of_mem_take hzz))
    · have h1 := hsz ((zs.length) * 1) (by rw [hx]; simp [DataW.weights, Tryz.underlying38, bytes5, lits]; left; omega)
      simp only [reachBytes] at h1
      omega

theorem list14 {α : Type} {l : List α} (h : l.length = 14) : ∃ c0 c1 c2 c3 c4 c5 c6 c7 c8 c9 c10 c11 c12 c13, l = [c0, c1, c2, c3, c4, c5, c6, c7, c8, c9, c10, c11, c12, c13] := by
  match l, h with
  | [c0, c1, c2, c3, c4, c5, c6, c7, c8, c9, c10, c11, c12, c13], _ => exact ⟨c0, c1, c2, c3, c4, c5, c6, c7, c8, c9, c10, c11, c12, c13, rfl⟩

theorem weights_each {H : Type} {ts : List TypeId} {ds : List (DataW H)} {B : Nat} (h : ∀ x ∈ DataW.weightsEach Tryz.prog ts ds, x ≤ B) {j : Nat} {t : TypeId} {d : DataW H} (ht : ts[j]? = some t) (hd : ds[j]? = some d) : ∀ x ∈ d.weights Tryz.prog t, x ≤ B :=
  fun x hx => h x (DataW.weights_mem_each ht hd x hx)
theorem weights_all {H : Type} {e : TypeId} : ∀ {ds : List (DataW H)} {B : Nat}, (∀ x ∈ DataW.weightsAll Tryz.prog e ds, x ≤ B) → ∀ {j : Nat} {d : DataW H}, ds[j]? = some d → ∀ x ∈ d.weights Tryz.prog e, x ≤ B
  | d0 :: ds, B, h, 0, d, hd, x, hx => by
    simp at hd; subst hd
    exact h x (by simp [DataW.weightsAll, hx])
  | d0 :: ds, B, h, j + 1, d, hd, x, hx => weights_all (ds := ds) (fun y hy => h y (by simp [DataW.weightsAll, hy])) (by simpa using hd) x hx

set_option maxRecDepth 100000 in
set_option maxHeartbeats 800000 in
/-- A step that came in. -/
theorem open_step {H : Type} {enc : TypeId × Value → H} {w : World} {fuel b o : Nat} {cs : List Value} {y : DataW H × List MemPlace} (hlt : b < w.heap.size)
    (hcell : ∀ j v, cs[j]? = some v → w.cell? ⟨b, o + j, none⟩ = some v)
    (h : DataW.trod enc Tryz.prog w 0 (fun _ => true) true fuel 42 cs = some y) (hsz : ∀ x ∈ y.1.weights Tryz.prog 42, x ≤ reachBytes) :
    ∃ kind ee aa bb src dst proto id off more sport dport ao n cap zs so sn sc ys, StepIs w b o kind ee aa bb src dst proto id off more sport dport ao n cap zs so sn sc ys := by
  obtain ⟨xs, n, _, hx, hl, hlen, hg⟩ := DataW.trod_struct Tryz.underlying42 h
  rw [cellsStep] at hl
  obtain ⟨c0, c1, c2, c3, c4, c5, c6, c7, c8, c9, c10, c11, c12, c13, rfl⟩ := list14 hl
  match xs, hlen with
  | [y0, y1, y2, y3, y4, y5], _ =>
    have g0 : DataW.trod enc Tryz.prog w 0 (fun _ => true) true n 3 [c0] = some y0 := hg 0 _ rfl
    have g1 : DataW.trod enc Tryz.prog w 0 (fun _ => true) true n 3 [c1] = some y1 := hg 1 _ rfl
    have g2 : DataW.trod enc Tryz.prog w 0 (fun _ => true) true n 3 [c2] = some y2 := hg 2 _ rfl
    have g3 : DataW.trod enc Tryz.prog w 0 (fun _ => true) true n 3 [c3] = some y3 := hg 3 _ rfl
    have g4 : DataW.trod enc Tryz.prog w 0 (fun _ => true) true n 40 [c4, c5, c6, c7, c8, c9, c10, c11, c12] = some y4 := hg 4 _ rfl
    have g5 : DataW.trod enc Tryz.prog w 0 (fun _ => true) true n 38 [c13] = some y5 := hg 5 _ rfl
    have hws : ∀ x ∈ DataW.weightsEach Tryz.prog [3, 3, 3, 3, 40, 38] [y0.1, y1.1, y2.1, y3.1, y4.1, y5.1], x ≤ reachBytes := by
      intro x hx'
      refine hsz x ?_
      rw [hx]
      simpa [DataW.weights, Tryz.underlying42] using hx'
    have hs4 := weights_each hws (j := 4) rfl rfl
    have hs5 := weights_each hws (j := 5) rfl rfl
    obtain ⟨k0, e0, _, w0⟩ := DataW.trod_int Tryz.underlying3 g0
    obtain ⟨k1, e1, _, w1⟩ := DataW.trod_int Tryz.underlying3 g1
    obtain ⟨k2, e2, _, w2⟩ := DataW.trod_int Tryz.underlying3 g2
    obtain ⟨k3, e3, _, w3⟩ := DataW.trod_int Tryz.underlying3 g3
    obtain ⟨so, sn, sc, ys, e13, hys⟩ := open_lst g5 hs5
    obtain ⟨zs4, n4, _, hx4, _, hlen4, hg4⟩ := DataW.trod_struct Tryz.underlying40 g4
    match zs4, hlen4 with
    | [z0, z1, z2, z3, z4, z5, z6, z7, z8], _ =>
      have p0 : DataW.trod enc Tryz.prog w 0 (fun _ => true) true n4 37 [c4] = some z0 := hg4 0 _ rfl
      have p1 : DataW.trod enc Tryz.prog w 0 (fun _ => true) true n4 37 [c5] = some z1 := hg4 1 _ rfl
      have p2 : DataW.trod enc Tryz.prog w 0 (fun _ => true) true n4 5 [c6] = some z2 := hg4 2 _ rfl
      have p3 : DataW.trod enc Tryz.prog w 0 (fun _ => true) true n4 37 [c7] = some z3 := hg4 3 _ rfl
      have p4 : DataW.trod enc Tryz.prog w 0 (fun _ => true) true n4 5 [c8] = some z4 := hg4 4 _ rfl
      have p5 : DataW.trod enc Tryz.prog w 0 (fun _ => true) true n4 4 [c9] = some z5 := hg4 5 _ rfl
      have p6 : DataW.trod enc Tryz.prog w 0 (fun _ => true) true n4 37 [c10] = some z6 := hg4 6 _ rfl
      have p7 : DataW.trod enc Tryz.prog w 0 (fun _ => true) true n4 37 [c11] = some z7 := hg4 7 _ rfl
      have p8 : DataW.trod enc Tryz.prog w 0 (fun _ => true) true n4 38 [c12] = some z8 := hg4 8 _ rfl
      have hws4 : ∀ x ∈ DataW.weightsEach Tryz.prog [37, 37, 5, 37, 5, 4, 37, 37, 38] [z0.1, z1.1, z2.1, z3.1, z4.1, z5.1, z6.1, z7.1, z8.1], x ≤ reachBytes := by
        intro x hx'
        refine hs4 x ?_
        rw [hx4]
        simpa [DataW.weights, Tryz.underlying40] using hx'
      have hs8 := weights_each hws4 (j := 8) rfl rfl
      obtain ⟨q0, f0, _, v0⟩ := DataW.trod_int Tryz.underlying37 p0
      obtain ⟨q1, f1, _, v1⟩ := DataW.trod_int Tryz.underlying37 p1
      obtain ⟨q2, f2, _, v2⟩ := DataW.trod_int Tryz.underlying5 p2
      obtain ⟨q3, f3, _, v3⟩ := DataW.trod_int Tryz.underlying37 p3
      obtain ⟨q4, f4, _, v4⟩ := DataW.trod_int Tryz.underlying5 p4
      obtain ⟨q5, f5, _⟩ := DataW.trod_bool Tryz.underlying4 p5
      obtain ⟨q6, f6, _, v6⟩ := DataW.trod_int Tryz.underlying37 p6
      obtain ⟨q7, f7, _, v7⟩ := DataW.trod_int Tryz.underlying37 p7
      obtain ⟨ao, dn, dc, ds, e12, hds⟩ := open_lst p8 hs8
      simp at e0 e1 e2 e3 f0 f1 f2 f3 f4 f5 f6 f7
      subst e0 e1 e2 e3 e12 e13 f0 f1 f2 f3 f4 f5 f6 f7
      exact ⟨k0, k1, k2, k3, q0, q1, q2, q3, q4, q5, q6, q7, ao, dn, dc, ds, so, sn, sc, ys, hcell, hlt, bounds_u16 v0, bounds_u16 v1, bounds_u8 v2, bounds_u16 v3, bounds_u8 v4, bounds_u16 v6, bounds_u16 v7, bounds_i64 w0, bounds_i64 w1, hds, hys⟩

end Go.Proofs.YtajphdppmdoalaaGreat

namespace Go.Proofs.YtajphdppmdoalaaGreat
open Go.ChangeShapes Go.WideShapes Go.ChangeAt Go.RowKit Go.Joins Go.Deep
set_option linter.unusedVariables false

theorem own : ownKnob Tryz.prog.godebug = none := by kernel_rfl
theorem laidOut : laidOutB Tryz.prog = true := by kernel_rfl

end Go.Proofs.YtajphdppmdoalaaGreat

namespace Go.Proofs.YtajphdppmdoalaaGreat
open Go.ChangeShapes Go.WideShapes Go.ChangeAt Go.RowKit Go.Deep
set_option linter.unusedVariables false

theorem addr_add (b o j : Nat) : (⟨b, o, none⟩ : Addr).add j = ⟨b, o + j, none⟩ := by cases j <;> simp [Addr.add]
theorem addr_plain {w : World} {a : Addr} {v : Value} (h : w.cell? a = some v) : ∃ b o, a = ⟨b, o, none⟩ := by
  obtain ⟨b, o, spot⟩ := a
  have hspot : spot = none := by simpa using World.cell?_spot h
  subst hspot
  exact ⟨b, o, rfl⟩

set_option maxRecDepth 100000 in
set_option maxHeartbeats 400000 in
/-- A script that came in. -/
theorem open_script {H : Type} {enc : TypeId × Value → H} {w : World} {ao : Option Addr} {N cap : Nat} {d : DataW H} {ps : List MemPlace}
    (h : DataW.Trod enc Tryz.prog w 0 (fun _ => true) true 22 (.slice ao N cap) d ps) (hsz : ∀ x ∈ d.weights Tryz.prog 22, x ≤ reachBytes) :
    ScriptIn w ao N ∧ N * 96 ≤ 140737488351232 := by
  obtain ⟨fuel, hf⟩ := h
  have hf' : DataW.trod enc Tryz.prog w 0 (fun _ => true) true fuel 22 [.slice ao N cap] = some (d, ps) := by simpa [Value.cells] using hf
  rcases open_slice Tryz.underlying22 hf' with ⟨hcs, _⟩ | ⟨a, len, cap', m, n, D, Pl, hcs, _, hl, hm, hmm, hx, hel⟩
  · simp at hcs
    obtain ⟨rfl, rfl, rfl⟩ := hcs
    exact ⟨.inl rfl, by decide⟩
  · simp at hcs
    obtain ⟨rfl, rfl, rfl⟩ := hcs
    have hmc : m = cap := by simpa using hmm
    subst hmc
    have hd : d = .slice ((List.range N).map D) ((List.range (m - N)).map fun j => D (N + j)) := by
      have := congrArg Prod.fst hx; simpa using this
    have hw : ∀ x ∈ (((List.range N).map D).length + ((List.range (m - N)).map fun j => D (N + j)).length) * Tryz.prog.bytesOf 42 :: (DataW.weightsAll Tryz.prog 42 ((List.range N).map D) ++ DataW.weightsAll Tryz.prog 42 ((List.range (m - N)).map fun j => D (N + j))), x ≤ reachBytes := by
      intro x hx'
      refine hsz x ?_
      rw [hd]
      simpa [DataW.weights, Tryz.underlying22] using hx'
    have hN : N * 96 ≤ 140737488351232 := by
      have h1 := hw _ (List.mem_cons_self ..)
      rw [bytesStep] at h1
      simp only [List.length_map, List.length_range, reachBytes] at h1
      omega
    refine ⟨?_, hN⟩
    by_cases h0 : N = 0
    · exact .inl h0
    right
    have hwe : ∀ {j : Nat} {dd : DataW H}, ((List.range N).map D)[j]? = some dd → ∀ x ∈ dd.weights Tryz.prog 42, x ≤ reachBytes := fun hj => weights_all (fun x hx' => hw x (by simp [hx'])) hj
    obtain ⟨cs0, hc0, _⟩ := hel 0 (by omega)
    rw [cellsStep] at hc0
    obtain ⟨_, hl0, hcell0⟩ := World.cells?_some hc0
    have h00 := hcell0 0 (by omega)
    rw [List.getElem?_eq_getElem (by omega)] at h00
    obtain ⟨b, o, rfl⟩ : ∃ b o, a = ⟨b, o, none⟩ := by
      obtain ⟨b, o, ha⟩ := addr_plain h00
      obtain ⟨b', o', sp⟩ := a
      simp [Addr.add] at ha
      obtain ⟨_, _, rfl⟩ := ha
      exact ⟨b', o', rfl⟩
    refine ⟨b, o, rfl, fun i hi => ?_⟩
    obtain ⟨cs, hc, htr⟩ := hel i (by omega)
    rw [cellsStep] at hc
    have hadd : (⟨b, o, none⟩ : Addr).add (i * 14) = ⟨b, o + i * 14, none⟩ := addr_add b o (i * 14)
    rw [hadd] at hc
    have hblk := World.cells?_block hc (by decide)
    obtain ⟨_, hl', hcell⟩ := World.cells?_some hc
    refine open_step (y := (D i, Pl i)) hblk ?_ htr (hwe (j := i) (by rw [List.getElem?_map, List.getElem?_range hi]; rfl))
    intro j v hv
    have hj : j < 14 := by
      by_cases hj : j < 14
      · exact hj
      · rw [List.getElem?_eq_none (by omega)] at hv; simp at hv
    have h1 := hcell j hj
    rw [hv] at h1
    have hadd2 : (⟨b, o + i * 14, none⟩ : Addr).add j = ⟨b, o + i * 14 + j, none⟩ := addr_add b _ j
    rw [hadd2] at h1
    exact h1

end Go.Proofs.YtajphdppmdoalaaGreat
