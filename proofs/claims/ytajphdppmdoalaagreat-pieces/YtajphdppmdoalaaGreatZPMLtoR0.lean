import Derived.Test.YtajphdppmdoalaaGreatZPMItoMI
import Derived.Test.YtajphdppmdoalaaGreatZPU2toLA
import Derived.Test.YtajphdppmdoalaaGreatZPHtoLB
import Derived.Deep.RegionHeld3
import Derived.Deep.DeepCutAuto
namespace Go.Proofs.YtajphdppmdoalaaGreat
open Go.RowKit
set_option linter.unusedVariables false

/-- Values laid one behind the other. -/
def setL (xs : List Value) : Nat → List Value → List Value
  | _, [] => xs
  | a, v :: vs => setL (xs.set a v) (a + 1) vs
def stL (w : World) (g : Nat) : Nat → List Value → World
  | _, [] => w
  | a, v :: vs => stL (w.setCell ⟨g, a, none⟩ v) g (a + 1) vs
theorem setL_eq (xs : List Value) (a : Nat) (vs : List Value) (h : a + vs.length ≤ xs.length) : setL xs a vs = xs.take a ++ vs ++ xs.drop (a + vs.length) := by
  induction vs generalizing xs a with
  | nil => simp [setL]
  | cons v vs ih =>
    rw [List.length_cons] at h
    rw [setL, ih (xs.set a v) (a + 1) (by rw [List.length_set]; omega)]
    have h1 : (xs.set a v).take (a + 1) = xs.take a ++ [v] := by
      rw [List.take_add_one, List.take_set_of_le (Nat.le_refl _), List.getElem?_set_self (by omega)]
      rfl
    have h2 : (xs.set a v).drop (a + 1 + vs.length) = xs.drop (a + (v :: vs).length) := by
      rw [List.drop_set_of_lt (by omega), List.length_cons, show a + 1 + vs.length = a + (vs.length + 1) from by omega]
    rw [h1, h2]
    simp
theorem stL_own {w : World} {base g n cap s : Nat} {e : TypeId} {xs : List Value} (h : w.ownsRow base e s (.slice (some ⟨g, 0, none⟩) n cap) n xs) (a : Nat) (vs : List Value) : (stL w g a vs).ownsRow base e s (.slice (some ⟨g, 0, none⟩) n cap) n (setL xs a vs) := by
  induction vs generalizing w a xs with
  | nil => exact h
  | cons v vs ih => exact ih (h.stored a v).1 (a + 1)
theorem stL_only (w : World) (g a : Nat) (vs : List Value) : Only (fun q => q = g) w (stL w g a vs) := by
  induction vs generalizing w a with
  | nil => exact Only.refl _ _
  | cons v vs ih => exact ((Only.refl _ _).setB v).trans (ih (w.setCell ⟨g, a, none⟩ v) (a + 1)) (fun _ _ h => h)
theorem gone_set (l : List Ent) (k : Nat) (e : Ent) : goneM (l.set k e) k = goneM l k := by
  unfold goneM
  rw [List.take_set_of_le (Nat.le_refl _), List.drop_set_of_lt (by omega)]

/-- An entry is put in its place. -/
theorem ref_put {w : World} {yb : Nat} {S : Cl} {F : Nat → Prop} {vS vN vV : Value} {g c : Nat} {ES : List RE} {NS : List RN} (h : RefIs w yb S F vS (.slice (some ⟨g, 0, none⟩) ES.length c) vN vV ES NS) (K : Nat) (r r2 : RE) (hK : ES[K]? = some r) (hrow : w.ownsRow 0 130 5 r2.pv r2.e.pcs.length (r2.e.pcs.flatMap Pc.cells)) (hdv : ∃ ao n cap, r2.dv = .slice ao n cap) :
    RefIs (stL w g (K * 14) r2.cells) yb { S with ents := S.ents.set K r2.e } (fun k => F k ∨ r2.pv.ownBlock = some k) vS (.slice (some ⟨g, 0, none⟩) (ES.set K r2).length c) vN vV (ES.set K r2) NS ∧ Only (fun q => q = g) w (stL w g (K * 14) r2.cells) := by
  have hl : K < ES.length := (List.getElem?_eq_some_iff.1 hK).1
  have ho := stL_only w g (K * 14) r2.cells
  have hE := stL_own h.rE (K * 14) r2.cells
  have hcells : setL (ES.flatMap RE.cells) (K * 14) r2.cells = (ES.set K r2).flatMap RE.cells := by
    rw [setL_eq _ _ _ (by rw [flat_length RE.cells 14 RE.len, RE.len]; omega), flat_set_cells RE.cells 14 RE.len ES K r r2 hK, RE.len]
  rw [hcells] at hE
  have hn : ∀ {u : Value} {e : TypeId} {s k : Nat} {ys : List Value}, w.ownsRow 0 e s u k ys → e ≠ 128 → ∀ q, u.ownBlock = some q → ¬ q = g := by
    intro u e s k ys hu hne q hq hqg
    subst hqg
    exact own_apart' hu h.rE hne hq rfl
  have hyg : ¬ yb = g := fun hh => own_apart_blk h.rE h.blk (by decide) (by rw [hh]; rfl)
  have mem : ∀ r' ∈ ES.set K r2, r' ∈ ES ∨ r' = r2 := fun r' hr => List.mem_or_eq_of_mem_set hr
  refine ⟨⟨by rw [List.length_set]; exact (ho.block yb h.lt hyg).trans h.blk, ?_, h.hns, own_only h.rS ho (hn h.rS (by decide)), ?_, own_only h.rN ho (hn h.rN (by decide)), own_only h.rV ho (hn h.rV (by decide)), ?_, .inl h.fy, fun q hq => .inl (h.fS q hq), fun q hq => .inl (h.fE q (by simpa [Value.ownBlock] using hq)), fun q hq => .inl (h.fN q hq), fun q hq => .inl (h.fV q hq), ?_, ?_, ?_, h.rawN⟩, ho⟩
  · rw [List.map_set, h.hes]
  · rw [List.length_set]; exact hE
  · intro r' hr
    rcases mem r' hr with h1 | rfl
    · exact own_only (h.rP r' h1) ho (hn (h.rP r' h1) (by decide))
    · exact own_only hrow ho (hn hrow (by decide))
  · intro r' hr q hq
    rcases mem r' hr with h1 | rfl
    · exact .inl (h.fP r' h1 q hq)
    · exact .inr hq
  · intro k hk
    rcases hk with hk | hk
    · exact Nat.lt_of_lt_of_le (h.flt k hk) ho.size
    · exact Nat.lt_of_lt_of_le (hrow.lt k hk).2 ho.size
  · intro r' hr
    rcases mem r' hr with h1 | rfl
    · exact h.raw r' h1
    · exact hdv

theorem cells_at {w : World} {b : Nat} {xs : List Value} {t : TypeId} (h : w.heap[b]? = some (.cells xs.toArray t (0, 0))) : ∀ j u, xs[j]? = some u → w.cell? ((⟨b, 0, none⟩ : Addr).add j) = some u := by
  intro j u hu
  rw [show (⟨b, 0, none⟩ : Addr).add j = ⟨b, j, none⟩ from by cases j <;> simp [Addr.add]]
  rw [arr_cell h]
  simpa using hu
theorem cells_new2 (w : World) (a : Obj) (xs : List Value) (t : TypeId) : ∀ j u, xs[j]? = some u → ((w.alloc a).alloc (.cells xs.toArray t)).cell? ((⟨w.heap.size + 1, 0, none⟩ : Addr).add j) = some u := cells_at (heap_new2 _ _ _)
theorem cells_newS (w : World) (a : Addr) (v : Value) (xs : List Value) (t : TypeId) : ∀ j u, xs[j]? = some u → ((w.setCell a v).alloc (.cells xs.toArray t)).cell? ((⟨w.heap.size, 0, none⟩ : Addr).add j) = some u := by
  refine cells_at (t := t) ?_
  have := heap_alloc_new (w.setCell a v) (.cells xs.toArray t)
  rwa [show (w.setCell a v).heap.size = w.heap.size from by simp] at this
theorem own_cells31 {w : World} {v : Value} {T : List Int} (h : w.ownsRow 0 5 1 v T.length (T.map (Value.int .u8))) (hT : T.length = 31) : ∃ gs cs, v = .slice (some ⟨gs, 0, none⟩) 31 cs ∧ gs < w.heap.size ∧ ∀ j, j < 31 → w.cell? ⟨gs, j, none⟩ = some (.int .u8 (T.getD j 0)) := by
  obtain ⟨gs, cs, hv⟩ := own_some h (by omega)
  rw [hT] at hv
  subst hv
  refine ⟨gs, cs, rfl, (h.lt gs rfl).2, fun j hj => ?_⟩
  rw [hT] at h
  rw [h.cellAt j (by omega), List.getElem?_map, List.getElem?_eq_getElem (by omega), List.getD_eq_getElem?_getD, List.getElem?_eq_getElem (by omega)]
  rfl
theorem pcs_map (l : List Pc) (f : Pc → Pc) (hf : ∀ q, (f q).a = q.a ∧ (f q).b = q.b) (h : ∀ q ∈ l, 0 ≤ q.a ∧ q.a ≤ q.b ∧ q.b ≤ 92) : ∀ q ∈ l.map f, 0 ≤ q.a ∧ q.a ≤ q.b ∧ q.b ≤ 92 := by
  intro q hq
  obtain ⟨x, hx, rfl⟩ := List.mem_map.1 hq
  rw [(hf x).1, (hf x).2]
  exact h x hx

end Go.Proofs.YtajphdppmdoalaaGreat

namespace Go.Proofs.YtajphdppmdoalaaGreat
open Go.RowKit
set_option linter.unusedVariables false

set_option maxRecDepth 100000 in
set_option maxHeartbeats 1600000 in
theorem rheld_no (yb : Nat) (k : Int) (S : Cl) (F : Nat → Prop) (vS vE vN vV : Value) (ES : List RE) (NS : List RN) (w : World) (h : RefIs w yb S F vS vE vN vV ES NS) (hk : k < 0 ∨ S.reps ≤ k) :
    Calls Tryz.prog 57 #[.pointer (some ⟨yb, 0, none⟩), .int .i64 k] w fun e w' => e = .returned (.tuple #[.agg #[.int .i64 0, .int .i64 0, .int .i64 0], .int .i64 1]) ∧ Below w.heap.size w w' := by
  have HH := hide h
  have hyb := h.lt
  have dY := arr_cell h.blk
  clear h
  by_cases h0 : k < 0
  · clear hk
    go_enter Tryz.func57, Tryz.ntmps57
    go_wp2
    refine bodyPost_ret (v := .tuple #[.agg #[.int .i64 0, .int .i64 0, .int .i64 0], .int .i64 1]) ?_ rfl ⟨rfl, ?_⟩
    all_goals go_light
    · simp [results, Tryz.results57, go_sem]
    · repeat' first | with_reducible exact Below.refl _ _ | with_reducible refine Below.setCell ?_ ?_ _ | with_reducible refine Below.alloc ?_ ?_ _
      all_goals (simp; try omega)
  · have h1 : k ≥ S.reps := by omega
    clear hk
    go_enter Tryz.func57, Tryz.ntmps57
    go_wp2
    refine bodyPost_ret (v := .tuple #[.agg #[.int .i64 0, .int .i64 0, .int .i64 0], .int .i64 1]) ?_ rfl ⟨rfl, ?_⟩
    all_goals go_light
    · simp [results, Tryz.results57, go_sem]
    · repeat' first | with_reducible exact Below.refl _ _ | with_reducible refine Below.setCell ?_ ?_ _ | with_reducible refine Below.alloc ?_ ?_ _
      all_goals (simp; try omega)

set_option maxRecDepth 100000 in
set_option maxHeartbeats 1600000 in
theorem rheld_yes (yb : Nat) (k : Int) (S : Cl) (F : Nat → Prop) (vS vE vN vV : Value) (ES : List RE) (NS : List RN) (w : World) (h : RefIs w yb S F vS vE vN vV ES NS) (hf : FewP S.ents) (hk : 0 ≤ k ∧ k < S.reps) :
    Calls Tryz.prog 57 #[.pointer (some ⟨yb, 0, none⟩), .int .i64 k] w fun e w' => e = .returned (.tuple #[.agg #[.int .i64 (nE S.ents k), .int .i64 (nP S.ents k), .int .i64 (nB S.ents k)], .int .i64 0]) ∧ Below w.heap.size w w' := by
  have HH := hide h
  have hyb := h.lt
  have dY := arr_cell h.blk
  have h0 : ¬ k < 0 := by omega
  have h1 : ¬ k ≥ S.reps := by omega
  have HB0 : Hid (Below w.heap.size w (w.alloc (.cells #[.int .i64 0, .int .i64 0, .int .i64 0] 98))) := (Below.refl _ _).alloc (Nat.le_refl _) _
  have HL := hide (rload_any yb k S F vS vE vN vV ES NS _ (h.below HB0.out) hf)
  generalize nE S.ents k = E at *
  generalize nP S.ents k = P0 at *
  generalize nB S.ents k = B at *
  clear h
  go_enter Tryz.func57, Tryz.ntmps57
  go_wp2_with fail
  refine HL.out.mono ?_
  rintro e w2 ⟨rfl, hb2⟩
  have HX : Hid (w2.heap[w.heap.size]? = some (.cells #[.int .i64 0, .int .i64 0, .int .i64 0] 98 (0, 0))) := (hb2.block _ (by simp)).trans (heap_alloc_new _ _)
  have HB2 : Hid (Below w.heap.size w w2) := HB0.out.trans (hb2.mono (by simp))
  have dX := arr_cell HX.out
  have fX := arr_frozen HX.out
  have hz2 : w.heap.size < w2.heap.size := lt_of_block HX.out
  clear hb2 HL dY
  go_wp2
  have h3 := store3 (t := 98) HX.out (.int .i64 E) (.int .i64 P0) (.int .i64 B)
  generalize ((w2.setCell ⟨w.heap.size, 0, none⟩ _).setCell ⟨w.heap.size, 1, none⟩ _).setCell ⟨w.heap.size, 2, none⟩ _ = wF at h3 ⊢
  have dF := arr_cell h3.1
  have hzF : w.heap.size < wF.heap.size := lt_of_block h3.1
  have HBF : Hid (Below w.heap.size w wF) := HB2.out.trans (h3.2.to_below (by omega) (fun k hk => by omega))
  clear dX fX
  refine bodyPost_ret (v := .tuple #[.agg #[.int .i64 E, .int .i64 P0, .int .i64 B], .int .i64 0]) ?_ rfl ⟨rfl, HBF.out.alloc (by omega) _⟩
  go_light
  simp [results, Tryz.results57, go_sem, dF, hzF]

set_option maxRecDepth 100000 in
set_option maxHeartbeats 1600000 in
theorem rnew_no (a b : Int) (w : World) (h : ¬ ((1 ≤ a ∧ a ≤ 5) ∧ (1 ≤ b ∧ b ≤ 20))) :
    Calls Tryz.prog 15 #[.int .i64 a, .int .i64 b] w fun e w' => e = .returned (.tuple #[.pointer none, .int .i64 1]) ∧ w' = w := by
  by_cases h1 : a ≥ 1
  · by_cases h2 : a ≤ 5
    · by_cases h3 : b ≥ 1
      · have h4 : ¬ b ≤ 20 := fun h4 => h ⟨⟨h1, h2⟩, h3, h4⟩
        clear h
        go_enter Tryz.func15, Tryz.ntmps15
        go_wp2
        all_goals (go_ret2; exact ⟨rfl, rfl⟩)
      · clear h
        go_enter Tryz.func15, Tryz.ntmps15
        go_wp2
        all_goals (go_ret2; exact ⟨rfl, rfl⟩)
    · clear h
      go_enter Tryz.func15, Tryz.ntmps15
      go_wp2
      all_goals (go_ret2; exact ⟨rfl, rfl⟩)
  · clear h
    go_enter Tryz.func15, Tryz.ntmps15
    go_wp2
    all_goals (go_ret2; exact ⟨rfl, rfl⟩)
theorem ref_new (w : World) (a b : Int) : RefIs (w.alloc (.cells #[.int .i64 a, .int .i64 b, .int .i64 0, .int .i64 0, .slice none 0 0, .slice none 0 0, .slice none 0 0, .slice none 0 0] 73)) w.heap.size (Cl.new a b) (fun k => k = w.heap.size) (.slice none 0 0) (.slice none 0 0) (.slice none 0 0) (.slice none 0 0) [] [] :=
  ⟨heap_alloc_new _ _, rfl, rfl, World.ownsRow_nil _ _ _ _, World.ownsRow_nil _ _ _ _, World.ownsRow_nil _ _ _ _, World.ownsRow_nil _ _ _ _, by simp, rfl, by simp [Value.ownBlock], by simp [Value.ownBlock], by simp [Value.ownBlock], by simp [Value.ownBlock], by simp, fun k hk => by rw [hk]; simp, by simp, by simp⟩
set_option maxRecDepth 100000 in
set_option maxHeartbeats 1600000 in
theorem rnew_yes (a b : Int) (w : World) (ha : 1 ≤ a ∧ a ≤ 5) (hb : 1 ≤ b ∧ b ≤ 20) :
    Calls Tryz.prog 15 #[.int .i64 a, .int .i64 b] w fun e w' => e = .returned (.tuple #[.pointer (some ⟨w.heap.size, 0, none⟩), .int .i64 0]) ∧ RefIs w' w.heap.size (Cl.new a b) (fun k => k = w.heap.size) (.slice none 0 0) (.slice none 0 0) (.slice none 0 0) (.slice none 0 0) [] [] ∧ Below w.heap.size w w' := by
  have h1 : a ≥ 1 := ha.1
  have h2 : a ≤ 5 := ha.2
  have h3 : b ≥ 1 := hb.1
  have h4 : b ≤ 20 := hb.2
  have HR := hide (ref_new w a b)
  clear ha hb
  go_enter Tryz.func15, Tryz.ntmps15
  go_wp2
  go_ret2
  exact ⟨rfl, HR.out, (Below.refl _ _).alloc (Nat.le_refl _) _⟩

set_option maxRecDepth 100000 in
set_option maxHeartbeats 1600000 in
theorem rlose_no (yb : Nat) (k : Int) (S : Cl) (F : Nat → Prop) (vS vE vN vV : Value) (ES : List RE) (NS : List RN) (w : World) (h : RefIs w yb S F vS vE vN vV ES NS) (hk : k < 0 ∨ (NS.length : Int) ≤ k) :
    Calls Tryz.prog 55 #[.pointer (some ⟨yb, 0, none⟩), .int .i64 k] w fun e w' => e = .returned (.int .i64 1) ∧ w' = w := by
  have hyb := h.lt
  obtain ⟨na, nc, hvN⟩ := own_slice h.rN
  subst hvN
  have dY := arr_cell h.blk
  clear h
  by_cases h0 : k < 0
  · clear hk
    go_enter Tryz.func55, Tryz.ntmps55
    go_wp2
    go_ret
    exact ⟨rfl, rfl⟩
  · have h1 : k ≥ (NS.length : Int) := by omega
    clear hk
    go_enter Tryz.func55, Tryz.ntmps55
    go_wp2
    go_ret
    exact ⟨rfl, rfl⟩
set_option maxRecDepth 100000 in
set_option maxHeartbeats 1600000 in
theorem rlose_yes (yb k : Nat) (S : Cl) (F : Nat → Prop) (vS vE vN vV : Value) (ES : List RE) (NS : List RN) (w : World) (h : RefIs w yb S F vS vE vN vV ES NS) (hs : Sml S) (hk : k < NS.length) :
    Calls Tryz.prog 55 #[.pointer (some ⟨yb, 0, none⟩), .int .i64 k] w fun e w' => e = .returned (.int .i64 0) ∧ ∃ F' vN' vV', RefIs w' yb (loseM S k) F' vS vE vN' vV' ES (goneL NS k) ∧ Stp w w' F F' := by
  obtain ⟨r, hr⟩ : ∃ r, NS[k]? = some r := ⟨_, List.getElem?_eq_getElem hk⟩
  have hsk : S.sent[k]? = some r.s := by rw [← h.hns, List.getElem?_map, hr]; rfl
  have hlm : loseM S k = toldM (landM S k) r.s.seq 5 0 := by unfold loseM; rw [hsk]
  rw [hlm]
  have hnl : NS.length ≤ 2000000000000 := by
    have h1 := congrArg List.length h.hns
    rw [List.length_map] at h1
    have h2 := hs.cnt
    have h3 := hs.next
    unfold seqsM at h2
    simp only [List.length_append, List.length_map] at h2
    omega
  have hev : (landM S k).evs.length ≤ 2000000000000 := by
    have h2 := hs.cnt
    have h3 := hs.next
    unfold seqsM at h2
    simp only [List.length_append, List.length_map] at h2
    simp only [landM]
    omega
  have hyb := h.lt
  obtain ⟨na, nc, hvN⟩ := own_slice h.rN
  subst hvN
  have dY := arr_cell h.blk
  have HL := hide (rlanded_any yb k S F vS vE _ vV ES NS r w h hnl hr)
  have HEV := hide hev
  obtain ⟨ra, rc, hdv⟩ := h.rawN r (List.mem_of_getElem? hr)
  have HFL := hide h.flt
  obtain ⟨rs, rdv⟩ := r
  simp only at hdv
  subst hdv
  have h0 : ¬ (k : Int) < 0 := by omega
  have h1 : ¬ (k : Int) ≥ (NS.length : Int) := by omega
  clear h hr hsk hlm hev
  go_enter Tryz.func55, Tryz.ntmps55
  go_wp2_with fail
  refine HL.out.mono ?_
  rintro e w2 ⟨rfl, F2, vN2, hR2, hS2⟩
  have HR2 := hide hR2
  have HS2 := hide hS2
  clear hR2 hS2 HL dY
  go_wp2_with fail
  refine (rtold_any yb (landM S k) F2 vS vE vN2 vV ES (goneL NS k) rs.seq 5 0 _ (HR2.out.below ((Below.refl _ _).alloc (Nat.le_refl _) _)) HEV.out).mono ?_
  rintro e w3 ⟨rfl, F3, vV3, hR3, hS3⟩
  have HR3 := hide hR3
  have HS3 : Hid (Stp w w3 F F3) := (HS2.out.trans (Stp.below ((Below.refl _ _).alloc (Nat.le_refl _) _))).trans hS3
  clear hR3 hS3
  go_wp2
  go_ret
  exact ⟨rfl, F3, vN2, vV3, HR3.out, HS3.out⟩

end Go.Proofs.YtajphdppmdoalaaGreat

namespace Go.Proofs.YtajphdppmdoalaaGreat
open Go.RowKit
set_option linter.unusedVariables false

end Go.Proofs.YtajphdppmdoalaaGreat

namespace Go.Proofs.YtajphdppmdoalaaGreat
open Go.RowKit
set_option linter.unusedVariables false

end Go.Proofs.YtajphdppmdoalaaGreat

namespace Go.Proofs.YtajphdppmdoalaaGreat
open Go.RowKit
set_option linter.unusedVariables false

end Go.Proofs.YtajphdppmdoalaaGreat

namespace Go.Proofs.YtajphdppmdoalaaGreat
open Go.RowKit

end Go.Proofs.YtajphdppmdoalaaGreat

namespace Go.Proofs.YtajphdppmdoalaaGreat
open Go.RowKit
set_option linter.unusedVariables false

theorem has_of_row {w : World} {g : Nat} {cur : Array Value} {t : TypeId} {zs : List Int} (h : w.heap[g]? = some (.cells cur t (0, 0))) (hc : ∀ j, j < zs.length → cur[j]? = some (.int .u8 (zs.getD j 0))) : Has w (some ⟨g, 0, none⟩) zs :=
  ⟨by simp, fun _ => ⟨g, 0, rfl, lt_of_block h, fun j hj => by rw [arr_cell h, Nat.zero_add]; exact hc j hj⟩⟩
end Go.Proofs.YtajphdppmdoalaaGreat
