import Derived.Test.YtajphdppmdoalaaGreatZPMHtoME
import Derived.Test.YtajphdppmdoalaaGreatZPU2toLA
import Derived.Deep.RegionHeld3
namespace Go.Proofs.YtajphdppmdoalaaGreat
open Go.RowKit
set_option linter.unusedVariables false

theorem few_of_sml (S : Cl) (h : Sml S) : FewP S.ents :=
  ⟨Nat.le_trans (ents_few S h) (by decide), fun e he => ⟨Nat.le_trans (pcs_few e (h.cok.ents e he).1 (h.ents e he).pcs) (by decide), fun q hq => by have h1 := (h.cok.ents e he).1.pos q hq; have h2 := (h.ents e he).pcs q hq; omega⟩⟩

set_option maxRecDepth 100000 in
set_option maxHeartbeats 3200000 in
theorem rrefused_none (yb : Nat) (S : Cl) (F : Nat → Prop) (vS vE vN vV : Value) (ES : List RE) (NS : List RN) (p : Pk) (ao : Option Addr) (cap : Nat) (n : Pc) (w : World) (h : RefIs w yb S F vS vE vN vV ES NS) (hs : Sml S) (hp : PkB p) (hn : 0 ≤ n.a ∧ n.a ≤ 60 ∧ n.a ≤ n.b ∧ n.b ≤ 92) :
    Calls Tryz.prog 96 #[.pointer (some ⟨yb, 0, none⟩), .int .i64 (-1), .agg #[.int .u16 p.src, .int .u16 p.dst, .int .u8 p.proto, .int .u16 p.id, .int .u8 p.off, .bool p.more, .int .u16 p.sport, .int .u16 p.dport, .slice ao p.dlen cap], .agg #[.int .i64 n.seq, .int .i64 n.a, .int .i64 n.b, .bool n.ends, .bool n.waits]] w fun e w' => e = .returned (.int .u8 (refusedM S none p n)) ∧ Below w.heap.size w w' := by
  obtain ⟨r, hr⟩ : ∃ r, r = refusedM S none p n := ⟨_, rfl⟩
  rw [← hr]
  have hEq : (entsM S (ownerM S p)).length = nE S.ents (ownerM S p) := rfl
  have hBq : heldB S (ownerM S p) = nB S.ents (ownerM S p) := rfl
  unfold refusedM at hr
  rw [hEq, hBq] at hr
  have HRr := hide hr
  clear hEq hBq hr
  have HH := hide h
  have HS := hide hs
  have hyb := h.lt
  have hR := And.intro hs.cok.reps hs.reps
  have hE := h.rE
  clear h
  go_enter Tryz.func96, Tryz.ntmps96
  go_wp2_with fail
  generalize hWW : ((w.alloc _).alloc _) = w1
  have hz1 : w1.heap.size = w.heap.size + 2 := by rw [← hWW]; simp
  have HB1 : Hid (Below w.heap.size w w1) := by rw [← hWW]; exact ((Below.refl _ _).alloc (Nat.le_refl _) _).alloc (by simp) _
  have HN1 : Hid (w1.heap[w.heap.size + 1]? = some (.cells #[.int .i64 n.seq, .int .i64 n.a, .int .i64 n.b, .bool n.ends, .bool n.waits] 130 (0, 0))) := by rw [← hWW]; exact heap_new2 _ _ _
  have HP1 : Hid (w1.heap[w.heap.size]? = some (.cells #[.int .u16 p.src, .int .u16 p.dst, .int .u8 p.proto, .int .u16 p.id, .int .u8 p.off, .bool p.more, .int .u16 p.sport, .int .u16 p.dport, .slice ao p.dlen cap] 40 (0, 0))) := by rw [← hWW]; exact heap_new1 _ _ _
  clear hWW
  have dP := arr_cell HP1.out
  have cR : w1.cell? ⟨yb, 0, none⟩ = some (.int .i64 S.reps) := arr_cell (HH.out.below HB1.out).blk 0
  go_wp2_with fail
  refine (rowner_any yb p.src p.dst p.proto p.id p.off p.more p.sport p.dport ao p.dlen cap S.reps w1 hp.src hp.dst hp.proto hp.id hp.sport hp.dport hR cR (by omega)).mono ?_
  rintro e w2 ⟨rfl, hb2⟩
  have ho : dgH p.src p.dst p.proto p.id % S.reps = ownerM S p := rfl
  rw [ho]
  have HB2 : Hid (Below w.heap.size w w2) := HB1.out.trans (hb2.mono (by omega))
  have hz2 : w.heap.size + 2 ≤ w2.heap.size := by have := hb2.size; omega
  have HN2 : Hid (w2.heap[w.heap.size + 1]? = some (.cells #[.int .i64 n.seq, .int .i64 n.a, .int .i64 n.b, .bool n.ends, .bool n.waits] 130 (0, 0))) := (hb2.block _ (by omega)).trans HN1.out
  clear ho hb2 cR dP HN1 HP1 HB1
  go_wp2_with fail
  refine (rload_any yb (ownerM S p) S F vS vE vN vV ES NS w2 (HH.out.below HB2.out) (few_of_sml S HS.out)).mono ?_
  rintro e w3 ⟨rfl, hb3⟩
  have HB3 : Hid (Below w.heap.size w w3) := HB2.out.trans (hb3.mono (by omega))
  have hz3 : w.heap.size + 2 ≤ w3.heap.size := by have := hb3.size; omega
  have HN3 : Hid (w3.heap[w.heap.size + 1]? = some (.cells #[.int .i64 n.seq, .int .i64 n.a, .int .i64 n.b, .bool n.ends, .bool n.waits] 130 (0, 0))) := (hb3.block _ (by omega)).trans HN2.out
  have dN := arr_cell HN3.out
  have hz3' : w.heap.size + 1 < w3.heap.size := by omega
  have hy3 : yb < w3.heap.size := by omega
  have HR3 := hide (HH.out.below HB3.out)
  have dY := arr_cell HR3.out.blk
  obtain ⟨sa, sc, hvS⟩ := own_slice HH.out.rS
  subst hvS
  have hlb := ld_take S.ents (ownerM S p) S.ents.length (few_of_sml S HS.out)
  rw [List.take_length] at hlb
  generalize nE S.ents (ownerM S p) = E at *
  generalize nB S.ents (ownerM S p) = B at *
  generalize nP S.ents (ownerM S p) = P0 at *
  clear hb3 HB2 HN2
  have HBA : Hid (∀ O, Below w.heap.size w (w3.alloc O)) := fun O => HB3.out.alloc (by omega) _
  by_cases hA : n.a = 0
  · have hA1 : (n.a == 0) = true := by simp [hA]
    have hA2 : ¬ 0 < n.a := by omega
    have hA3 : ¬ n.a > 0 := by omega
    cases hSl : S.slots with
    | nil =>
      have hL : (((S.slots.length : Nat) : Int) == 0) = true := by simp [hSl]
      have HA := hide (And.intro hA hSl)
      clear hA hSl
      go_wp2
      go_ret
      exact ⟨ret_int (by rw [HRr.out, if_pos HA.out]), HBA.out _⟩
    | cons z zs =>
      have hL : (((S.slots.length : Nat) : Int) == 0) = false := by simp [hSl]; omega
      have HA : Hid (¬ (n.a = 0 ∧ S.slots = [])) := fun h => by rw [hSl] at h; simp at h
      clear hA hSl
      by_cases hE3 : 3 ≤ E
      · have hE4 : (E : Int) ≥ 3 := by omega
        go_wp2
        go_ret
        exact ⟨ret_int (by rw [HRr.out, if_neg HA.out, if_pos ⟨rfl, hE3⟩]), HBA.out _⟩
      · have hE4 : ¬ (E : Int) ≥ 3 := by omega
        go_wp2
        go_ret
        exact ⟨ret_int (by rw [HRr.out, if_neg HA.out, if_neg (by simp; omega)]; simp; omega), HBA.out _⟩
  · have hA1 : (n.a == 0) = false := by simp [hA]
    have hA2 : n.a > 0 := by omega
    have HA := hide hA
    clear hA
    by_cases hE3 : 3 ≤ E
    · have hE4 : (E : Int) ≥ 3 := by omega
      go_wp2
      go_ret
      exact ⟨ret_int (by rw [HRr.out, if_neg (fun h => HA.out h.1), if_pos ⟨rfl, hE3⟩]), HBA.out _⟩
    · have hE4 : ¬ (E : Int) ≥ 3 := by omega
      by_cases hB : 48 < B + n.b - n.a
      · have hB4 : B + n.b - n.a > 48 := hB
        go_wp2
        go_ret
        exact ⟨ret_int (by rw [HRr.out, if_neg (fun h => HA.out h.1), if_neg (by simp; omega)]; simp; omega), HBA.out _⟩
      · have hB4 : ¬ B + n.b - n.a > 48 := hB
        go_wp2
        go_ret
        exact ⟨ret_int (by rw [HRr.out, if_neg (fun h => HA.out h.1), if_neg (by simp; omega)]; simp; omega), HBA.out _⟩

set_option maxRecDepth 100000 in
set_option maxHeartbeats 3200000 in
theorem rrefused_some (yb : Nat) (S : Cl) (F : Nat → Prop) (vS vE vN vV : Value) (ES : List RE) (NS : List RN) (p : Pk) (ao : Option Addr) (cap : Nat) (n : Pc) (w : World) (h : RefIs w yb S F vS vE vN vV ES NS) (hs : Sml S) (hp : PkB p) (hn : 0 ≤ n.a ∧ n.a ≤ 60 ∧ n.a ≤ n.b ∧ n.b ≤ 92) (k : Nat) (r0 : RE) (hk : ES[k]? = some r0) :
    Calls Tryz.prog 96 #[.pointer (some ⟨yb, 0, none⟩), .int .i64 k, .agg #[.int .u16 p.src, .int .u16 p.dst, .int .u8 p.proto, .int .u16 p.id, .int .u8 p.off, .bool p.more, .int .u16 p.sport, .int .u16 p.dport, .slice ao p.dlen cap], .agg #[.int .i64 n.seq, .int .i64 n.a, .int .i64 n.b, .bool n.ends, .bool n.waits]] w fun e w' => e = .returned (.int .u8 (refusedM S (some r0.e) p n)) ∧ Below w.heap.size w w' := by
  obtain ⟨r, hr⟩ : ∃ r, r = refusedM S (some r0.e) p n := ⟨_, rfl⟩
  rw [← hr]
  have hEq : (entsM S (ownerM S p)).length = nE S.ents (ownerM S p) := rfl
  have hBq : heldB S (ownerM S p) = nB S.ents (ownerM S p) := rfl
  unfold refusedM at hr
  rw [hEq, hBq] at hr
  have HRr := hide hr
  clear hEq hBq hr
  have HH := hide h
  have HS := hide hs
  have hyb := h.lt
  have hR := And.intro hs.cok.reps hs.reps
  have hE := h.rE
  clear h
  go_enter Tryz.func96, Tryz.ntmps96
  go_wp2_with fail
  generalize hWW : ((w.alloc _).alloc _) = w1
  have hz1 : w1.heap.size = w.heap.size + 2 := by rw [← hWW]; simp
  have HB1 : Hid (Below w.heap.size w w1) := by rw [← hWW]; exact ((Below.refl _ _).alloc (Nat.le_refl _) _).alloc (by simp) _
  have HN1 : Hid (w1.heap[w.heap.size + 1]? = some (.cells #[.int .i64 n.seq, .int .i64 n.a, .int .i64 n.b, .bool n.ends, .bool n.waits] 130 (0, 0))) := by rw [← hWW]; exact heap_new2 _ _ _
  have HP1 : Hid (w1.heap[w.heap.size]? = some (.cells #[.int .u16 p.src, .int .u16 p.dst, .int .u8 p.proto, .int .u16 p.id, .int .u8 p.off, .bool p.more, .int .u16 p.sport, .int .u16 p.dport, .slice ao p.dlen cap] 40 (0, 0))) := by rw [← hWW]; exact heap_new1 _ _ _
  clear hWW
  have dP := arr_cell HP1.out
  have cR : w1.cell? ⟨yb, 0, none⟩ = some (.int .i64 S.reps) := arr_cell (HH.out.below HB1.out).blk 0
  go_wp2_with fail
  refine (rowner_any yb p.src p.dst p.proto p.id p.off p.more p.sport p.dport ao p.dlen cap S.reps w1 hp.src hp.dst hp.proto hp.id hp.sport hp.dport hR cR (by omega)).mono ?_
  rintro e w2 ⟨rfl, hb2⟩
  have ho : dgH p.src p.dst p.proto p.id % S.reps = ownerM S p := rfl
  rw [ho]
  have HB2 : Hid (Below w.heap.size w w2) := HB1.out.trans (hb2.mono (by omega))
  have hz2 : w.heap.size + 2 ≤ w2.heap.size := by have := hb2.size; omega
  have HN2 : Hid (w2.heap[w.heap.size + 1]? = some (.cells #[.int .i64 n.seq, .int .i64 n.a, .int .i64 n.b, .bool n.ends, .bool n.waits] 130 (0, 0))) := (hb2.block _ (by omega)).trans HN1.out
  clear ho hb2 cR dP HN1 HP1 HB1
  go_wp2_with fail
  refine (rload_any yb (ownerM S p) S F vS vE vN vV ES NS w2 (HH.out.below HB2.out) (few_of_sml S HS.out)).mono ?_
  rintro e w3 ⟨rfl, hb3⟩
  have HB3 : Hid (Below w.heap.size w w3) := HB2.out.trans (hb3.mono (by omega))
  have hz3 : w.heap.size + 2 ≤ w3.heap.size := by have := hb3.size; omega
  have HN3 : Hid (w3.heap[w.heap.size + 1]? = some (.cells #[.int .i64 n.seq, .int .i64 n.a, .int .i64 n.b, .bool n.ends, .bool n.waits] 130 (0, 0))) := (hb3.block _ (by omega)).trans HN2.out
  have dN := arr_cell HN3.out
  have hz3' : w.heap.size + 1 < w3.heap.size := by omega
  have hy3 : yb < w3.heap.size := by omega
  have HR3 := hide (HH.out.below HB3.out)
  have dY := arr_cell HR3.out.blk
  obtain ⟨sa, sc, hvS⟩ := own_slice HH.out.rS
  subst hvS
  have hlb := ld_take S.ents (ownerM S p) S.ents.length (few_of_sml S HS.out)
  rw [List.take_length] at hlb
  generalize nE S.ents (ownerM S p) = E at *
  generalize nB S.ents (ownerM S p) = B at *
  generalize nP S.ents (ownerM S p) = P0 at *
  clear hb3 HB2 HN2
  have HBA : Hid (∀ O, Below w.heap.size w (w3.alloc O)) := fun O => HB3.out.alloc (by omega) _
  have hkl : k < ES.length := (List.getElem?_eq_some_iff.1 hk).1
  obtain ⟨g, ec, hvE⟩ := own_some HH.out.rE (by omega)
  subst hvE
  have hg : g < w.heap.size := (HH.out.rE.lt g rfl).2
  have hg3 : g < w3.heap.size := by omega
  have hkm := List.mem_of_getElem? hk
  have HRP := hide (HH.out.rP r0 hkm)
  have hre : r0.e ∈ S.ents := by rw [← HH.out.hes]; exact List.mem_map_of_mem hkm
  have hfr := (few_of_sml S HS.out).2 r0.e hre
  have e11 := row_get RE.cells RE.len HR3.out.rE k r0 hk 11 _ rfl
  have e12 := row_get RE.cells RE.len HR3.out.rE k r0 hk 12 _ rfl
  obtain ⟨pa, pc, hpv⟩ := own_slice HRP.out
  obtain ⟨re, roff, rmore, rsport, rdport, rdv, rpv⟩ := r0
  simp only at HRP hfr e11 e12 hpv HRr
  subst hpv
  obtain ⟨eo, es, ed, ep, ei, eb, pcs, ek, et⟩ := re
  simp only at HRP hfr e11 e12 HRr
  have HE := hide (And.intro e11 e12)
  have HFR := hide hfr
  have hk0 : ¬ (k : Int) < 0 := by omega
  have hk1 : (k : Int) ≥ 0 := by omega
  clear hk hkm hre hE
  have main : Hid (¬ (n.a = 0 ∧ S.slots = [])) → ((n.a == 0) = false ∨ (n.a == 0) = true ∧ (((S.slots.length : Nat) : Int) == 0) = false) → True := fun _ _ => trivial
  by_cases hA : n.a = 0 ∧ S.slots = []
  · have hA1 : (n.a == 0) = true := by simp [hA.1]
    have hL : (((S.slots.length : Nat) : Int) == 0) = true := by simp [hA.2]
    have HA := hide hA
    clear hA
    go_wp2
    go_ret
    exact ⟨ret_int (by rw [HRr.out, if_pos HA.out]), HBA.out _⟩
  · have hAL : (n.a == 0) = false ∨ (n.a == 0) = true ∧ (((S.slots.length : Nat) : Int) == 0) = false := by
      by_cases h0 : n.a = 0
      · refine .inr ⟨by simp [h0], ?_⟩
        cases hSl : S.slots with
        | nil => exact absurd ⟨h0, hSl⟩ hA
        | cons z zs => simp; omega
      · exact .inl (by simp [h0])
    have HA := hide hA
    clear hA
    rcases hAL with hA1 | ⟨hA1, hL⟩
    · go_wp2_with fail
      generalize hW4 : w3.alloc _ = w4
      have HX4 : Hid (w4.heap[w3.heap.size]? = some (.cells #[.int .i64 E, .int .i64 P0, .int .i64 B] 98 (0, 0))) := by rw [← hW4]; exact heap_alloc_new _ _
      have HB4 : Hid (Below w3.heap.size w3 w4) := by rw [← hW4]; exact (Below.refl _ _).alloc (Nat.le_refl _) _
      have hz4 : w4.heap.size = w3.heap.size + 1 := by rw [← hW4]; simp
      have HD := hide (And.intro dY dN)
      clear hW4 dN dY
      go_loopw [12] (fun i wr => ∃ j : Nat, j ≤ pcs.length ∧ i = .int .i64 j ∧ Hid (∀ q ∈ pcs.take j, clashM q n = false) ∧ Hid (Below w4.heap.size w4 wr)) (fun i _ => pcs.length - (intOf i).toNat)
      case atStart => exact ⟨0, Nat.zero_le _, rfl, by intro q hq; simp at hq, Below.refl _ _⟩
      case round =>
        obtain ⟨j, hj, rfl, HCl, HBr⟩ := hrel
        have HB5 : Hid (Below w3.heap.size w3 wr) := HB4.out.trans (HBr.out.mono (by omega))
        have HBW : Hid (Below w.heap.size w wr) := HB3.out.trans (HB5.out.mono (by omega))
        have HXr : Hid (wr.heap[w3.heap.size]? = some (.cells #[.int .i64 E, .int .i64 P0, .int .i64 B] 98 (0, 0))) := (HBr.out.block _ (by omega)).trans HX4.out
        have hzr : w3.heap.size < wr.heap.size := lt_of_block HXr.out
        have cN : ∀ i, wr.cell? ⟨w.heap.size + 1, i, none⟩ = #[.int .i64 n.seq, .int .i64 n.a, .int .i64 n.b, .bool n.ends, .bool n.waits][i]? := fun i => (HB5.out.cell (p := ⟨w.heap.size + 1, i, none⟩) (by simp; omega)).trans (HD.out.2 i)
        have cE : wr.cell? ⟨yb, 5, none⟩ = some (.slice (some ⟨g, 0, none⟩) ES.length ec) := (HB5.out.cell (p := ⟨yb, 5, none⟩) hy3).trans (HD.out.1 5)
        have f11 := (HB5.out.cell (p := ⟨g, k * 14 + 11, none⟩) hg3).trans HE.out.1
        have hn1 : w.heap.size + 1 < wr.heap.size := by omega
        have hyr : yb < wr.heap.size := by omega
        have hgr : g < wr.heap.size := by omega
        by_cases hlt : j < pcs.length
        · obtain ⟨gp, q, hgq⟩ := own_some HRP.out (by omega)
          rw [Value.slice.injEq] at hgq
          obtain ⟨rfl, _, rfl⟩ := hgq
          have hN := own_below' HRP.out (fun k hk => (HRP.out.lt k hk).2) HBW.out
          have hgz : gp < wr.heap.size := (hN.lt gp rfl).2
          obtain ⟨x, hr⟩ : ∃ x, pcs[j]? = some x := ⟨_, List.getElem?_eq_getElem hlt⟩
          have c0 : wr.cell? ⟨gp, j * 5, none⟩ = some (.int .i64 x.seq) := row_get Pc.cells Pc.len hN j x hr 0 _ rfl
          have c1 : wr.cell? ⟨gp, j * 5 + 1, none⟩ = some (.int .i64 x.a) := row_get Pc.cells Pc.len hN j x hr 1 _ rfl
          have c2 : wr.cell? ⟨gp, j * 5 + 2, none⟩ = some (.int .i64 x.b) := row_get Pc.cells Pc.len hN j x hr 2 _ rfl
          have c3 : wr.cell? ⟨gp, j * 5 + 3, none⟩ = some (.bool x.ends) := row_get Pc.cells Pc.len hN j x hr 3 _ rfl
          have c4 : wr.cell? ⟨gp, j * 5 + 4, none⟩ = some (.bool x.waits) := row_get Pc.cells Pc.len hN j x hr 4 _ rfl
          have HT := hide (take_snoc pcs j x hr)
          have HM := hide (List.mem_of_getElem? hr)
          have HCX := hide (rclash_any x n)
          generalize hcx : clashM x n = cx at HCX
          have HC := hide hcx
          clear hN hr hcx
          go_wp2_with fail
          go_region_held3 (fun w' => w'.cell? ⟨yb, 5, none⟩ = some (.slice (some ⟨g, 0, none⟩) ES.length ec) ∧ w'.cell? ⟨g, k * 14 + 11, none⟩ = some (.slice (some ⟨gp, 0, none⟩) pcs.length pc) ∧ w'.cell? ⟨gp, j * 5, none⟩ = some (.int .i64 x.seq) ∧ w'.cell? ⟨gp, j * 5 + 1, none⟩ = some (.int .i64 x.a) ∧ w'.cell? ⟨gp, j * 5 + 2, none⟩ = some (.int .i64 x.b) ∧ w'.cell? ⟨gp, j * 5 + 3, none⟩ = some (.bool x.ends) ∧ w'.cell? ⟨gp, j * 5 + 4, none⟩ = some (.bool x.waits) ∧ w'.cell? ⟨w.heap.size + 1, 0, none⟩ = some (.int .i64 n.seq) ∧ w'.cell? ⟨w.heap.size + 1, 1, none⟩ = some (.int .i64 n.a) ∧ w'.cell? ⟨w.heap.size + 1, 2, none⟩ = some (.int .i64 n.b) ∧ w'.cell? ⟨w.heap.size + 1, 3, none⟩ = some (.bool n.ends) ∧ w'.cell? ⟨w.heap.size + 1, 4, none⟩ = some (.bool n.waits)) (go_keep) (first | (go_at_call 103; refine (HCX.out _).mono ?_; rintro e w' ⟨rfl, hb⟩; have k1 := fun i => hb.cell (p := ⟨yb, i, none⟩) (by simp <;> omega); have k2 := fun i => hb.cell (p := ⟨g, i, none⟩) (by simp <;> omega); have k3 := fun i => hb.cell (p := ⟨gp, i, none⟩) (by simp <;> omega); have k4 := fun i => hb.cell (p := ⟨w.heap.size + 1, i, none⟩) (by simp <;> omega); have HK := hide hb; clear hb))
          have HBn : Hid (Below w4.heap.size w4 w') := (HBr.out.drew).trans (HK.out.mono (by have := HBr.out.size; simpa using this))
          have HBv : Hid (Below w.heap.size w w') := HBW.out.trans ((((Below.refl _ _).drew).trans (HK.out.mono (by simp; omega))))
          rename_i hHeld
          clear k1 k2 k3 k4 HK hHeld c0 c1 c2 c3 c4 f11 cE cN
          cases cx with
          | true =>
            have hany : Hid (pcs.any (fun q => clashM q n) = true) := List.any_eq_true.2 ⟨x, HM.out, HC.out⟩
            go_wp2
            go_ret
            exact ⟨ret_int (by rw [HRr.out, if_neg HA.out, if_neg (by simp)]; simp [hany.out]), HBv.out⟩
          | false =>
            go_wp2
            go_roundw
            case rel =>
              refine ⟨j + 1, by omega, by go_num, ?_, HBn.out⟩
              intro q hq
              rw [HT.out, List.mem_append, List.mem_singleton] at hq
              rcases hq with hq | rfl
              · exact HCl.out q hq
              · exact HC.out
            case measure => simp [intOf]; omega
        · obtain rfl : j = pcs.length := by omega
          rw [List.take_length] at HCl
          have dX := arr_cell HXr.out
          have hany : Hid (pcs.any (fun q => clashM q n) = false) := List.any_eq_false.2 (fun q hq => by simp [HCl.out q hq])
          by_cases h0 : n.a > 0
          · have h0' : 0 < n.a := h0
            cases ek with
            | true =>
              go_wp2
              go_ret
              exact ⟨ret_int (by rw [HRr.out, if_neg HA.out, if_neg (by simp)]; simp [hany.out]), HBW.out⟩
            | false =>
              by_cases hB : B + n.b - n.a > 48
              · have hB' : 48 < B + n.b - n.a := hB
                go_wp2
                go_ret
                exact ⟨ret_int (by rw [HRr.out, if_neg HA.out, if_neg (by simp)]; simp [hany.out, h0', hB']), HBW.out⟩
              · have hB' : ¬ 48 < B + n.b - n.a := hB
                go_wp2
                go_ret
                exact ⟨ret_int (by rw [HRr.out, if_neg HA.out, if_neg (by simp)]; simp [hany.out]; omega), HBW.out⟩
          · have h0' : ¬ 0 < n.a := h0
            go_wp2
            go_ret
            exact ⟨ret_int (by rw [HRr.out, if_neg HA.out, if_neg (by simp)]; simp [hany.out]; omega), HBW.out⟩
    · go_wp2_with fail
      generalize hW4 : w3.alloc _ = w4
      have HX4 : Hid (w4.heap[w3.heap.size]? = some (.cells #[.int .i64 E, .int .i64 P0, .int .i64 B] 98 (0, 0))) := by rw [← hW4]; exact heap_alloc_new _ _
      have HB4 : Hid (Below w3.heap.size w3 w4) := by rw [← hW4]; exact (Below.refl _ _).alloc (Nat.le_refl _) _
      have hz4 : w4.heap.size = w3.heap.size + 1 := by rw [← hW4]; simp
      have HD := hide (And.intro dY dN)
      clear hW4 dN dY
      go_loopw [12] (fun i wr => ∃ j : Nat, j ≤ pcs.length ∧ i = .int .i64 j ∧ Hid (∀ q ∈ pcs.take j, clashM q n = false) ∧ Hid (Below w4.heap.size w4 wr)) (fun i _ => pcs.length - (intOf i).toNat)
      case atStart => exact ⟨0, Nat.zero_le _, rfl, by intro q hq; simp at hq, Below.refl _ _⟩
      case round =>
        obtain ⟨j, hj, rfl, HCl, HBr⟩ := hrel
        have HB5 : Hid (Below w3.heap.size w3 wr) := HB4.out.trans (HBr.out.mono (by omega))
        have HBW : Hid (Below w.heap.size w wr) := HB3.out.trans (HB5.out.mono (by omega))
        have HXr : Hid (wr.heap[w3.heap.size]? = some (.cells #[.int .i64 E, .int .i64 P0, .int .i64 B] 98 (0, 0))) := (HBr.out.block _ (by omega)).trans HX4.out
        have hzr : w3.heap.size < wr.heap.size := lt_of_block HXr.out
        have cN : ∀ i, wr.cell? ⟨w.heap.size + 1, i, none⟩ = #[.int .i64 n.seq, .int .i64 n.a, .int .i64 n.b, .bool n.ends, .bool n.waits][i]? := fun i => (HB5.out.cell (p := ⟨w.heap.size + 1, i, none⟩) (by simp; omega)).trans (HD.out.2 i)
        have cE : wr.cell? ⟨yb, 5, none⟩ = some (.slice (some ⟨g, 0, none⟩) ES.length ec) := (HB5.out.cell (p := ⟨yb, 5, none⟩) hy3).trans (HD.out.1 5)
        have f11 := (HB5.out.cell (p := ⟨g, k * 14 + 11, none⟩) hg3).trans HE.out.1
        have hn1 : w.heap.size + 1 < wr.heap.size := by omega
        have hyr : yb < wr.heap.size := by omega
        have hgr : g < wr.heap.size := by omega
        by_cases hlt : j < pcs.length
        · obtain ⟨gp, q, hgq⟩ := own_some HRP.out (by omega)
          rw [Value.slice.injEq] at hgq
          obtain ⟨rfl, _, rfl⟩ := hgq
          have hN := own_below' HRP.out (fun k hk => (HRP.out.lt k hk).2) HBW.out
          have hgz : gp < wr.heap.size := (hN.lt gp rfl).2
          obtain ⟨x, hr⟩ : ∃ x, pcs[j]? = some x := ⟨_, List.getElem?_eq_getElem hlt⟩
          have c0 : wr.cell? ⟨gp, j * 5, none⟩ = some (.int .i64 x.seq) := row_get Pc.cells Pc.len hN j x hr 0 _ rfl
          have c1 : wr.cell? ⟨gp, j * 5 + 1, none⟩ = some (.int .i64 x.a) := row_get Pc.cells Pc.len hN j x hr 1 _ rfl
          have c2 : wr.cell? ⟨gp, j * 5 + 2, none⟩ = some (.int .i64 x.b) := row_get Pc.cells Pc.len hN j x hr 2 _ rfl
          have c3 : wr.cell? ⟨gp, j * 5 + 3, none⟩ = some (.bool x.ends) := row_get Pc.cells Pc.len hN j x hr 3 _ rfl
          have c4 : wr.cell? ⟨gp, j * 5 + 4, none⟩ = some (.bool x.waits) := row_get Pc.cells Pc.len hN j x hr 4 _ rfl
          have HT := hide (take_snoc pcs j x hr)
          have HM := hide (List.mem_of_getElem? hr)
          have HCX := hide (rclash_any x n)
          generalize hcx : clashM x n = cx at HCX
          have HC := hide hcx
          clear hN hr hcx
          go_wp2_with fail
          go_region_held3 (fun w' => w'.cell? ⟨yb, 5, none⟩ = some (.slice (some ⟨g, 0, none⟩) ES.length ec) ∧ w'.cell? ⟨g, k * 14 + 11, none⟩ = some (.slice (some ⟨gp, 0, none⟩) pcs.length pc) ∧ w'.cell? ⟨gp, j * 5, none⟩ = some (.int .i64 x.seq) ∧ w'.cell? ⟨gp, j * 5 + 1, none⟩ = some (.int .i64 x.a) ∧ w'.cell? ⟨gp, j * 5 + 2, none⟩ = some (.int .i64 x.b) ∧ w'.cell? ⟨gp, j * 5 + 3, none⟩ = some (.bool x.ends) ∧ w'.cell? ⟨gp, j * 5 + 4, none⟩ = some (.bool x.waits) ∧ w'.cell? ⟨w.heap.size + 1, 0, none⟩ = some (.int .i64 n.seq) ∧ w'.cell? ⟨w.heap.size + 1, 1, none⟩ = some (.int .i64 n.a) ∧ w'.cell? ⟨w.heap.size + 1, 2, none⟩ = some (.int .i64 n.b) ∧ w'.cell? ⟨w.heap.size + 1, 3, none⟩ = some (.bool n.ends) ∧ w'.cell? ⟨w.heap.size + 1, 4, none⟩ = some (.bool n.waits)) (go_keep) (first | (go_at_call 103; refine (HCX.out _).mono ?_; rintro e w' ⟨rfl, hb⟩; have k1 := fun i => hb.cell (p := ⟨yb, i, none⟩) (by simp <;> omega); have k2 := fun i => hb.cell (p := ⟨g, i, none⟩) (by simp <;> omega); have k3 := fun i => hb.cell (p := ⟨gp, i, none⟩) (by simp <;> omega); have k4 := fun i => hb.cell (p := ⟨w.heap.size + 1, i, none⟩) (by simp <;> omega); have HK := hide hb; clear hb))
          have HBn : Hid (Below w4.heap.size w4 w') := (HBr.out.drew).trans (HK.out.mono (by have := HBr.out.size; simpa using this))
          have HBv : Hid (Below w.heap.size w w') := HBW.out.trans ((((Below.refl _ _).drew).trans (HK.out.mono (by simp; omega))))
          rename_i hHeld
          clear k1 k2 k3 k4 HK hHeld c0 c1 c2 c3 c4 f11 cE cN
          cases cx with
          | true =>
            have hany : Hid (pcs.any (fun q => clashM q n) = true) := List.any_eq_true.2 ⟨x, HM.out, HC.out⟩
            go_wp2
            go_ret
            exact ⟨ret_int (by rw [HRr.out, if_neg HA.out, if_neg (by simp)]; simp [hany.out]), HBv.out⟩
          | false =>
            go_wp2
            go_roundw
            case rel =>
              refine ⟨j + 1, by omega, by go_num, ?_, HBn.out⟩
              intro q hq
              rw [HT.out, List.mem_append, List.mem_singleton] at hq
              rcases hq with hq | rfl
              · exact HCl.out q hq
              · exact HC.out
            case measure => simp [intOf]; omega
        · obtain rfl : j = pcs.length := by omega
          rw [List.take_length] at HCl
          have dX := arr_cell HXr.out
          have hany : Hid (pcs.any (fun q => clashM q n) = false) := List.any_eq_false.2 (fun q hq => by simp [HCl.out q hq])
          by_cases h0 : n.a > 0
          · have h0' : 0 < n.a := h0
            cases ek with
            | true =>
              go_wp2
              go_ret
              exact ⟨ret_int (by rw [HRr.out, if_neg HA.out, if_neg (by simp)]; simp [hany.out]), HBW.out⟩
            | false =>
              by_cases hB : B + n.b - n.a > 48
              · have hB' : 48 < B + n.b - n.a := hB
                go_wp2
                go_ret
                exact ⟨ret_int (by rw [HRr.out, if_neg HA.out, if_neg (by simp)]; simp [hany.out, h0', hB']), HBW.out⟩
              · have hB' : ¬ 48 < B + n.b - n.a := hB
                go_wp2
                go_ret
                exact ⟨ret_int (by rw [HRr.out, if_neg HA.out, if_neg (by simp)]; simp [hany.out]; omega), HBW.out⟩
          · have h0' : ¬ 0 < n.a := h0
            go_wp2
            go_ret
            exact ⟨ret_int (by rw [HRr.out, if_neg HA.out, if_neg (by simp)]; simp [hany.out]; omega), HBW.out⟩

end Go.Proofs.YtajphdppmdoalaaGreat
