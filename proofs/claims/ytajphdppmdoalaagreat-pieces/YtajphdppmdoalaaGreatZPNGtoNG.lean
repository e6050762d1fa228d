import Derived.Test.YtajphdppmdoalaaGreatZPNFtoNM
namespace Go.Proofs.YtajphdppmdoalaaGreat
open Go.RowKit
set_option linter.unusedVariables false

theorem put3 {w : World} {g : Nat} {t : TypeId} {a b c : Value} (h : w.heap[g]? = some (.cells #[a, b, c] t (0, 0))) (x y z : Value) : (((w.setCell ⟨g, 0, none⟩ x).setCell ⟨g, 1, none⟩ y).setCell ⟨g, 2, none⟩ z).heap[g]? = some (.cells #[x, y, z] t (0, 0)) ∧ Only (fun k => k = g) w (((w.setCell ⟨g, 0, none⟩ x).setCell ⟨g, 1, none⟩ y).setCell ⟨g, 2, none⟩ z) := by
  refine ⟨?_, (Only.refl (fun k => k = g) w).setG.setG.setG⟩
  have h1 := row_setCell (j := 0) h x
  have h2 := row_setCell (j := 1) h1 y
  have h3 := row_setCell (j := 2) h2 z
  simpa using h3

/-- The pieces that a replica holds back. -/
def heldL (R : List PE) : List Pc := (R.map PE.e).flatMap waitL
theorem held_snoc (R : List PE) (j : Nat) (r : PE) (h : R[j]? = some r) : heldL (R.take (j + 1)) = heldL (R.take j) ++ waitL r.e := by
  rw [heldL, take_snoc R j r h, List.map_append, List.flatMap_append]
  simp [heldL]
theorem bytesL_app (l m : List Pc) : bytesL (l ++ m) = bytesL l + bytesL m := by simp [bytesL]
theorem held_bd (R : List PE) (h : PFew R) (j : Nat) : (heldL (R.take j)).length ≤ 1000000 ∧ 0 ≤ bytesL (heldL (R.take j)) ∧ bytesL (heldL (R.take j)) ≤ 92000000 := by
  have h1 : ∀ R : List PE, (∀ r ∈ R, PcB r.e.pcs) → (heldL R).length ≤ 1000 * R.length := by
    intro R
    induction R with
    | nil => intro _; simp [heldL]
    | cons r R ih =>
      intro hr
      have h2 := ih (fun x hx => hr x (List.mem_cons_of_mem _ hx))
      have h3 := (wait_few r.e (hr r List.mem_cons_self)).1
      simp only [heldL, List.map_cons, List.flatMap_cons, List.length_append, List.length_cons] at *
      omega
  have h2 := h1 (R.take j) (fun r hr => h.2 r (List.mem_of_mem_take hr))
  have h3 : (R.take j).length ≤ 1000 := by rw [List.length_take]; have := h.1; omega
  have h4 := bytesL_bd (heldL (R.take j)) (by
    intro q hq
    simp only [heldL, List.mem_flatMap, List.mem_map] at hq
    obtain ⟨e, ⟨r, hr, rfl⟩, hq⟩ := hq
    exact (wait_few r.e (h.2 r (List.mem_of_mem_take hr))).2 q hq)
  omega

set_option maxRecDepth 100000 in
set_option maxHeartbeats 3200000 in
theorem load_any (gS i : Nat) (vE : Value) (R : List PE) (now : Int) (F : Nat → Prop) (w : World) (hg : gS < w.heap.size) (c0 : w.cell? ⟨gS, i, none⟩ = some vE) (h : StIs w vE R now F) (hf : PFew R) :
    Calls Tryz.prog 83 #[.pointer (some ⟨gS, i, none⟩)] w fun e w' => e = .returned (.agg #[.int .i64 R.length, .int .i64 (heldL R).length, .int .i64 (bytesL (heldL R))]) ∧ Below w.heap.size w w' := by
  have HH := hide h
  have HF := hide hf
  have hn : R.length ≤ 1000 := hf.1
  obtain ⟨ao, cap, rfl⟩ := own_slice h.rE
  clear h hf
  go_enter Tryz.func83, Tryz.ntmps83
  go_wp2_with fail
  generalize hWW : ((w.alloc _).alloc _) = w1
  have hz1 : w1.heap.size = w.heap.size + 2 := by rw [← hWW]; simp
  have HB0 : Hid (Below w.heap.size w w1) := by rw [← hWW]; exact ((Below.refl _ _).alloc (Nat.le_refl _) _).alloc (by simp) _
  have HX0 : Hid (w1.heap[w.heap.size]? = some (.cells #[.int .i64 0, .int .i64 0, .int .i64 0] 98 (0, 0))) := by rw [← hWW]; exact (Below.heap_alloc _ _ _ (by simp)).trans (heap_alloc_new _ _)
  have HX1 : Hid (w1.heap[w.heap.size + 1]? = some (.cells #[.int .i64 R.length, .int .i64 0, .int .i64 0] 98 (0, 0))) := by rw [← hWW]; have := heap_alloc_new (w.alloc (.cells #[.int .i64 0, .int .i64 0, .int .i64 0] 98)) (.cells #[.int .i64 R.length, .int .i64 0, .int .i64 0] 98); rwa [World.size_alloc] at this
  clear hWW
  go_loopw [19] (fun k wr => ∃ j : Nat, j ≤ R.length ∧ k = .int .i64 j ∧ Hid (wr.heap[w.heap.size + 1]? = some (.cells #[.int .i64 R.length, .int .i64 (heldL (R.take j)).length, .int .i64 (bytesL (heldL (R.take j)))] 98 (0, 0))) ∧ Hid (Below (w.heap.size + 1) w1 wr)) (fun k _ => R.length - (intOf k).toNat)
  case atStart => exact ⟨0, Nat.zero_le _, rfl, HX1.out, Below.refl _ _⟩
  case round =>
    obtain ⟨j, hj, rfl, HO, HB⟩ := hrel
    have HBW : Hid (Below w.heap.size w wr) := HB0.out.trans (HB.out.mono (by omega))
    have hsz : w.heap.size + 2 ≤ wr.heap.size := by have := HB.out.size; omega
    by_cases hlt : j < R.length
    · obtain ⟨g, q, hgq⟩ := own_some HH.out.rE (by omega)
      rw [Value.slice.injEq] at hgq
      obtain ⟨rfl, _, rfl⟩ := hgq
      have hN := (HH.out.below HBW.out).rE
      have hgz : g < wr.heap.size := (hN.lt g rfl).2
      obtain ⟨r, hr⟩ : ∃ r, R[j]? = some r := ⟨_, List.getElem?_eq_getElem hlt⟩
      have HT := hide (held_snoc R j r hr)
      have hbd := held_bd R HF.out j
      have hwf := wait_few r.e (HF.out.2 r (List.mem_of_getElem? hr))
      have r0 : wr.cell? ⟨g, j * 11, none⟩ = _ := row_get (PE.cells now) (PE.len now) hN j r hr 0 _ rfl
      have r1 := row_get (PE.cells now) (PE.len now) hN j r hr 1 _ rfl
      have r2 := row_get (PE.cells now) (PE.len now) hN j r hr 2 _ rfl
      have r3 := row_get (PE.cells now) (PE.len now) hN j r hr 3 _ rfl
      have r4 := row_get (PE.cells now) (PE.len now) hN j r hr 4 _ rfl
      have r5 := row_get (PE.cells now) (PE.len now) hN j r hr 5 _ rfl
      have r6 := row_get (PE.cells now) (PE.len now) hN j r hr 6 _ rfl
      have r7 := row_get (PE.cells now) (PE.len now) hN j r hr 7 _ rfl
      have r8 := row_get (PE.cells now) (PE.len now) hN j r hr 8 _ rfl
      have r9 := row_get (PE.cells now) (PE.len now) hN j r hr 9 _ rfl
      have r10 := row_get (PE.cells now) (PE.len now) hN j r hr 10 _ rfl
      obtain ⟨sa, sc, hsv⟩ := own_slice (HH.out.rs r (List.mem_of_getElem? hr))
      obtain ⟨ha, hc, hhv⟩ := own_slice (HH.out.rh r (List.mem_of_getElem? hr))
      have HRH0 := hide (HH.out.rh r (List.mem_of_getElem? hr))
      rw [hsv] at r5
      rw [hhv] at r10 HRH0
      generalize hWL : waitL r.e = WL at *
      have HWF := hide hwf
      have hwl : WL.length ≤ 1000 := hwf.1
      obtain ⟨re, rsv, rhv⟩ := r
      obtain ⟨eo, es, ed, ep, ei, eb, pcs, ek, et⟩ := re
      simp only at HT r0 r1 r2 r3 r4 r5 r6 r7 r8 r9 r10
      generalize (endO pcs).isSome = E1 at *
      generalize (endO pcs).getD 0 = E2 at *
      generalize now - eb = AG at *
      generalize hP0 : (heldL (R.take j)).length = P0 at *
      generalize hB0 : bytesL (heldL (R.take j)) = B0 at *
      have HP0 := hide (And.intro hP0 hB0)
      clear hN hr hsv hhv hWL hP0 hB0 hwf
      have dB := arr_cell HO.out
      have fB := arr_frozen HO.out
      have hsz' : w.heap.size + 1 < wr.heap.size := by omega
      go_wp2_with fail
      clear r0 r1 r2 r3 r4 r5 r6 r7 r8 r9 r10
      generalize hbx : wr.heap.size = bx at *
      generalize hWi : ((wr.setCell ⟨w.heap.size + 1, 1, none⟩ (.int .i64 ((P0 : Int) + (WL.length : Int)))).alloc (.cells #[.int .u16 es, .int .u16 ed, .int .u8 ep, .int .u16 ei, .int .i64 AG, .slice sa pcs.length sc, .bool E1, .int .i64 E2, .bool ek, .int .u8 et, .slice ha WL.length hc] 152)) = wi
      have HY1 : Hid (wi.heap[w.heap.size + 1]? = some (.cells #[.int .i64 R.length, .int .i64 ((P0 : Int) + (WL.length : Int)), .int .i64 B0] 98 (0, 0))) := by
        rw [← hWi]
        refine (Below.heap_alloc _ _ _ (by simp; omega)).trans ?_
        simpa using row_setCell (j := 1) HO.out (.int .i64 ((P0 : Int) + (WL.length : Int)))
      have HBi : Hid (Below (w.heap.size + 1) w1 wi) := by rw [← hWi]; exact (HB.out.setCell (by simp) _).alloc (by simp; omega) _
      have hzi : bx + 1 ≤ wi.heap.size := by rw [← hWi]; simp; omega
      clear hWi dB fB
      go_loopw [33] (fun k wq => ∃ m : Nat, m ≤ WL.length ∧ k = .int .i64 m ∧ Hid (wq.heap[w.heap.size + 1]? = some (.cells #[.int .i64 R.length, .int .i64 ((P0 : Int) + (WL.length : Int)), .int .i64 (B0 + bytesL (WL.take m))] 98 (0, 0))) ∧ Hid (Below (w.heap.size + 1) w1 wq)) (fun k _ => WL.length - (intOf k).toNat)
      case atStart => exact ⟨0, Nat.zero_le _, rfl, by simpa [bytesL] using HY1, HBi.out⟩
      case round =>
        obtain ⟨m, hm, rfl, HQ1, HQB⟩ := hrel
        have dB := arr_cell HQ1.out
        have fB := arr_frozen HQ1.out
        have hq1 : w.heap.size + 1 < wr.heap.size := lt_of_block HQ1.out
        have hbt := bytesL_take WL m HWF.out.2 hwl
        by_cases hlm : m < WL.length
        · obtain ⟨gh, q, hgq⟩ := own_some HRH0.out (by omega)
          rw [Value.slice.injEq] at hgq
          obtain ⟨rfl, _, rfl⟩ := hgq
          have hHB : Below w.heap.size w wr := HB0.out.trans (HQB.out.mono (by omega))
          have hRH := own_below' HRH0.out (fun k hk => (HRH0.out.lt k hk).2) hHB
          have hgh : gh < wr.heap.size := (hRH.lt gh rfl).2
          obtain ⟨q, hq⟩ : ∃ q, WL[m]? = some q := ⟨_, List.getElem?_eq_getElem hlm⟩
          have q0 : wr.cell? ⟨gh, m * 2, none⟩ = _ := row_get Pc.wtg Pc.wtg_len hRH m q hq 0 _ rfl
          have q1 := row_get Pc.wtg Pc.wtg_len hRH m q hq 1 _ rfl
          have HT2 := hide (take_snoc WL m q hq)
          have hqb := HWF.out.2 q (List.mem_of_getElem? hq)
          obtain ⟨qs, qa, qb, qe, qw⟩ := q
          simp only at q0 q1 hqb
          generalize hB2 : bytesL (WL.take m) = B2 at *
          have HB2 := hide hB2
          clear hRH hq hB2 hHB
          go_wp2
          go_roundw
          case rel =>
            go_light
            refine ⟨m + 1, by omega, by go_num, ?_, (HQB.out.setCell (by simp) _).alloc (by simp; omega) _⟩
            show _ = _
            refine (Below.heap_alloc _ _ _ (by simp; omega)).trans ?_
            rw [HT2.out, bytesL_snoc, HB2.out]
            have := row_setCell (j := 2) HQ1.out (.int .i64 (B0 + B2 + (qb - qa)))
            simp only [show B0 + (B2 + qb - qa) = B0 + B2 + (qb - qa) from by omega]
            simpa using this
          case measure => simp [intOf]; omega
        · obtain rfl : m = WL.length := by omega
          rw [List.take_length] at HQ1
          go_wp2
          go_roundw
          case rel =>
            go_light
            refine ⟨j + 1, by omega, by go_num, ?_, HQB.out⟩
            show _ = _
            rw [HT.out, List.length_append, bytesL_app, HP0.out.1, HP0.out.2]
            exact HQ1.out
          case measure => simp [intOf]; omega
    · obtain rfl : j = R.length := by omega
      rw [List.take_length] at HO
      have dB := arr_cell HO.out
      have dA := arr_cell ((HB.out.block _ (by omega)).trans HX0.out)
      have fA := arr_frozen ((HB.out.block _ (by omega)).trans HX0.out)
      have hsA : w.heap.size < wr.heap.size := by omega
      have hsB : w.heap.size + 1 < wr.heap.size := by omega
      go_wp2
      have h3 := put3 (t := 98) ((HB.out.block _ (by omega)).trans HX0.out) (.int .i64 R.length) (.int .i64 (heldL R).length) (.int .i64 (bytesL (heldL R)))
      generalize ((wr.setCell ⟨w.heap.size, 0, none⟩ _).setCell ⟨w.heap.size, 1, none⟩ _).setCell ⟨w.heap.size, 2, none⟩ _ = wF at h3 ⊢
      have dF := arr_cell h3.1
      have hzF : w.heap.size < wF.heap.size := lt_of_block h3.1
      clear dA dB fA
      refine bodyPost_ret (v := .agg #[.int .i64 R.length, .int .i64 (heldL R).length, .int .i64 (bytesL (heldL R))]) ?_ rfl ⟨rfl, HBW.out.trans (h3.2.to_below (by omega) (fun k hk => by omega))⟩
      go_light
      simp [results, Tryz.results83, go_sem, dF]

end Go.Proofs.YtajphdppmdoalaaGreat
