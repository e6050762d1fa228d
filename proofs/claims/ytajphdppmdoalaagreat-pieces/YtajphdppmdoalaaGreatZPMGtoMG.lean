import Derived.Test.YtajphdppmdoalaaGreatZPMDtoND
namespace Go.Proofs.YtajphdppmdoalaaGreat
open Go.RowKit
set_option linter.unusedVariables false

theorem Tryz.infoEn : (Tryz.prog.info? 128).map (fun i => (i.zero, i.size, i.bytes)) = some (some (.agg #[.int .i64 0, .int .u16 0, .int .u16 0, .int .u8 0, .int .u16 0, .int .u8 0, .bool false, .int .u16 0, .int .u16 0, .slice none 0 0, .int .i64 0, .slice none 0 0, .bool false, .int .u8 0]), 14, 88) := by kernel_rfl
theorem Tryz.infoSn : (Tryz.prog.info? 110).map (fun i => (i.zero, i.size, i.bytes)) = some (some (.agg #[.int .i64 0, .int .i64 0, .int .i64 0, .int .u16 0, .int .u16 0, .int .u8 0, .int .u16 0, .int .u8 0, .bool false, .int .u16 0, .int .u16 0, .slice none 0 0]), 12, 64) := by kernel_rfl

theorem heap_new1 (w : World) (a b : Obj) : ((w.alloc a).alloc b).heap[w.heap.size]? = some a := (Below.heap_alloc _ _ _ (by simp)).trans (heap_alloc_new _ _)
theorem heap_new2 (w : World) (a b : Obj) : ((w.alloc a).alloc b).heap[w.heap.size + 1]? = some b := by
  have := heap_alloc_new (w.alloc a) b
  rwa [World.size_alloc] at this

theorem Only.setB {w a : World} {b j : Nat} (h : Only (fun q => q = b) a w) (u : Value) : Only (fun q => q = b) a (w.setCell ⟨b, j, none⟩ u) := h.setCell (fun _ => rfl) u
theorem store3 {w : World} {b : Nat} {t : TypeId} {z0 z1 z2 : Value} (h : w.heap[b]? = some (.cells #[z0, z1, z2] t (0, 0))) (v0 v1 v2 : Value) : (((w.setCell ⟨b, 0, none⟩ (v0)).setCell ⟨b, 1, none⟩ (v1)).setCell ⟨b, 2, none⟩ (v2)).heap[b]? = some (.cells #[v0, v1, v2] t (0, 0)) ∧ Only (fun q => q = b) w (((w.setCell ⟨b, 0, none⟩ (v0)).setCell ⟨b, 1, none⟩ (v1)).setCell ⟨b, 2, none⟩ (v2)) := by
  refine ⟨?_, ((((Only.refl _ _).setB _).setB _).setB _)⟩
  have := (row_setCell (j := 2) (row_setCell (j := 1) (row_setCell (j := 0) h v0) v1) v2)
  simpa using this
theorem store12 {w : World} {b : Nat} {t : TypeId} {z0 z1 z2 z3 z4 z5 z6 z7 z8 z9 z10 z11 : Value} (h : w.heap[b]? = some (.cells #[z0, z1, z2, z3, z4, z5, z6, z7, z8, z9, z10, z11] t (0, 0))) (v0 v1 v2 v3 v4 v5 v6 v7 v8 v9 v10 v11 : Value) : ((((((((((((w.setCell ⟨b, 0, none⟩ (v0)).setCell ⟨b, 1, none⟩ (v1)).setCell ⟨b, 2, none⟩ (v2)).setCell ⟨b, 3, none⟩ (v3)).setCell ⟨b, 4, none⟩ (v4)).setCell ⟨b, 5, none⟩ (v5)).setCell ⟨b, 6, none⟩ (v6)).setCell ⟨b, 7, none⟩ (v7)).setCell ⟨b, 8, none⟩ (v8)).setCell ⟨b, 9, none⟩ (v9)).setCell ⟨b, 10, none⟩ (v10)).setCell ⟨b, 11, none⟩ (v11)).heap[b]? = some (.cells #[v0, v1, v2, v3, v4, v5, v6, v7, v8, v9, v10, v11] t (0, 0)) ∧ Only (fun q => q = b) w ((((((((((((w.setCell ⟨b, 0, none⟩ (v0)).setCell ⟨b, 1, none⟩ (v1)).setCell ⟨b, 2, none⟩ (v2)).setCell ⟨b, 3, none⟩ (v3)).setCell ⟨b, 4, none⟩ (v4)).setCell ⟨b, 5, none⟩ (v5)).setCell ⟨b, 6, none⟩ (v6)).setCell ⟨b, 7, none⟩ (v7)).setCell ⟨b, 8, none⟩ (v8)).setCell ⟨b, 9, none⟩ (v9)).setCell ⟨b, 10, none⟩ (v10)).setCell ⟨b, 11, none⟩ (v11)) := by
  refine ⟨?_, (((((((((((((Only.refl _ _).setB _).setB _).setB _).setB _).setB _).setB _).setB _).setB _).setB _).setB _).setB _).setB _)⟩
  have := (row_setCell (j := 11) (row_setCell (j := 10) (row_setCell (j := 9) (row_setCell (j := 8) (row_setCell (j := 7) (row_setCell (j := 6) (row_setCell (j := 5) (row_setCell (j := 4) (row_setCell (j := 3) (row_setCell (j := 2) (row_setCell (j := 1) (row_setCell (j := 0) h v0) v1) v2) v3) v4) v5) v6) v7) v8) v9) v10) v11)
  simpa using this

/-- A list without its i-th. -/
def goneL {α : Type} (l : List α) (i : Nat) : List α := l.take i ++ l.drop (i + 1)
theorem goneL_step {α : Type} (l : List α) (i j : Nat) (q : α) (h : l[j]? = some q) : goneL (l.take (j + 1)) i = if j = i then goneL (l.take j) i else goneL (l.take j) i ++ [q] := by
  have hj : j < l.length := (List.getElem?_eq_some_iff.1 h).1
  have hl : (l.take j).length = j := by rw [List.length_take]; omega
  rw [take_snoc l j q h]
  unfold goneL
  by_cases h1 : j < i
  · have e1 : (l.take j ++ [q]).take i = l.take j ++ [q] := List.take_of_length_le (by rw [List.length_append, hl, List.length_singleton]; omega)
    have e2 : (l.take j ++ [q]).drop (i + 1) = [] := List.drop_eq_nil_of_le (by rw [List.length_append, hl, List.length_singleton]; omega)
    have e3 : (l.take j).take i = l.take j := List.take_of_length_le (by omega)
    have e4 : (l.take j).drop (i + 1) = [] := List.drop_eq_nil_of_le (by omega)
    rw [if_neg (by omega), e1, e2, e3, e4, List.append_nil, List.append_nil]
  · by_cases h2 : j = i
    · subst h2
      rw [if_pos rfl, List.take_append_of_le_length (by omega), List.drop_eq_nil_of_le (by rw [List.length_append, hl, List.length_singleton]; omega), List.drop_eq_nil_of_le (by omega)]
    · rw [if_neg h2, List.take_append_of_le_length (by omega), List.drop_append_of_le_length (by omega), List.append_assoc]
theorem goneL_map {α β : Type} (f : α → β) (l : List α) (i : Nat) : (goneL l i).map f = goneL (l.map f) i := by
  unfold goneL
  rw [List.map_append, List.map_take, List.map_drop]
theorem goneL_mem {α : Type} (l : List α) (i : Nat) (x : α) (h : x ∈ goneL l i) : x ∈ l := mem_gone l i x h
theorem goneL_len {α : Type} (l : List α) (i j : Nat) : (goneL (l.take j) i).length ≤ j := by
  unfold goneL
  rw [List.length_append, List.length_take, List.length_drop, List.length_take]
  omega

theorem RE.one (r : RE) (h1 : r.dv.oneCell' = true) (h2 : r.pv.oneCell' = true) : ∀ u ∈ r.cells, u.oneCell' = true := by
  intro u hu
  simp only [RE.cells, List.mem_cons, List.not_mem_nil, or_false] at hu
  rcases hu with rfl | rfl | rfl | rfl | rfl | rfl | rfl | rfl | rfl | rfl | rfl | rfl | rfl | rfl
  all_goals first | exact h1 | exact h2 | rfl
theorem RN.one (r : RN) (h1 : r.dv.oneCell' = true) : ∀ u ∈ r.cells, u.oneCell' = true := by
  intro u hu
  simp only [RN.cells, List.mem_cons, List.not_mem_nil, or_false] at hu
  rcases hu with rfl | rfl | rfl | rfl | rfl | rfl | rfl | rfl | rfl | rfl | rfl | rfl
  all_goals first | exact h1 | rfl

set_option maxRecDepth 100000 in
set_option maxHeartbeats 1600000 in
theorem rgone_any (yb at' : Nat) (S : Cl) (F : Nat → Prop) (vS vE vN vV : Value) (ES : List RE) (NS : List RN) (w : World) (h : RefIs w yb S F vS vE vN vV ES NS) (hn : ES.length ≤ 1000) (hat : at' < ES.length) :
    Calls Tryz.prog 98 #[.pointer (some ⟨yb, 0, none⟩), .int .i64 at'] w fun e w' => e = .returned (.tuple #[]) ∧ ∃ F' vE', RefIs w' yb { S with ents := goneM S.ents at' } F' vS vE' vN vV (goneL ES at') NS ∧ Stp w w' F F' := by
  obtain ⟨i0, hi, hz0, hz1, hz2⟩ := info_parts Tryz.infoEn
  have HI := hide (And.intro hi (And.intro hz0 (And.intro hz1 hz2)))
  clear hi hz0 hz1 hz2
  have HH := hide h
  have hyb := h.lt
  obtain ⟨g, cap, hvE⟩ := own_some h.rE (by omega)
  have hg := (h.rE.lt g (by rw [hvE]; rfl)).2
  clear h
  go_enter Tryz.func98, Tryz.ntmps98
  go_wp2_with fail
  go_loopw [5, 4] (fun i l wr => ∃ j : Nat, j ≤ ES.length ∧ i = .int .i64 j ∧ Hid (wr.ownsRow w.heap.size 128 14 l (goneL (ES.take j) at').length ((goneL (ES.take j) at').flatMap RE.cells)) ∧ Hid (Below w.heap.size w wr)) (fun i _ _ => ES.length - (intOf i).toNat)
  case atStart => exact ⟨0, Nat.zero_le _, rfl, by simp [goneL]; exact World.ownsRow_nil _ _ _ _, Below.refl _ _⟩
  case round =>
    obtain ⟨j, hj, rfl, HO, HB⟩ := hrel
    have HR := hide (HH.out.below HB.out)
    have cN : wr.cell? ⟨yb, 5, none⟩ = some (.slice (some ⟨g, 0, none⟩) ES.length cap) := by rw [← hvE]; exact arr_cell HR.out.blk 5
    have cF : ∀ j, wr.frozen? ⟨yb, j, none⟩ = false := fun j => arr_frozen HR.out.blk j
    have hyr : yb < wr.heap.size := Nat.lt_of_lt_of_le hyb HB.out.size
    have hgr : g < wr.heap.size := Nat.lt_of_lt_of_le hg HB.out.size
    have hsz : w.heap.size ≤ wr.heap.size := HB.out.size
    by_cases hlt : j < ES.length
    · obtain ⟨r, hr⟩ : ∃ r, ES[j]? = some r := ⟨_, List.getElem?_eq_getElem hlt⟩
      have HT := hide (goneL_step ES at' j r hr)
      by_cases hja : j = at'
      · have hne : (((j : Int)) != ((at' : Int))) = false := by simp [hja]
        rw [if_pos hja] at HT
        have hja' := hide hja
        clear hja hr
        go_wp2
        go_roundw
        case rel => exact ⟨j + 1, by omega, by go_num, by rw [HT.out]; exact HO.out, HB.out⟩
        case measure => simp [intOf]; omega
      · have hne : (((j : Int)) != ((at' : Int))) = true := by simp; omega
        rw [if_neg hja] at HT
        have hN := HR.out.rE
        rw [hvE] at hN
        have c0 : wr.cell? ⟨g, j * 14, none⟩ = _ := row_get RE.cells RE.len hN j r hr 0 _ rfl
        have c1 := row_get RE.cells RE.len hN j r hr 1 _ rfl
        have c2 := row_get RE.cells RE.len hN j r hr 2 _ rfl
        have c3 := row_get RE.cells RE.len hN j r hr 3 _ rfl
        have c4 := row_get RE.cells RE.len hN j r hr 4 _ rfl
        have c5 := row_get RE.cells RE.len hN j r hr 5 _ rfl
        have c6 := row_get RE.cells RE.len hN j r hr 6 _ rfl
        have c7 := row_get RE.cells RE.len hN j r hr 7 _ rfl
        have c8 := row_get RE.cells RE.len hN j r hr 8 _ rfl
        have c9 := row_get RE.cells RE.len hN j r hr 9 _ rfl
        have c10 := row_get RE.cells RE.len hN j r hr 10 _ rfl
        have c11 := row_get RE.cells RE.len hN j r hr 11 _ rfl
        have c12 := row_get RE.cells RE.len hN j r hr 12 _ rfl
        have c13 := row_get RE.cells RE.len hN j r hr 13 _ rfl
        have hraw : r.dv.oneCell' = true := by
          obtain ⟨ao, n, c, hv⟩ := HH.out.raw r (List.mem_of_getElem? hr)
          rw [hv]; rfl
        have hpv : r.pv.oneCell' = true := by
          obtain ⟨ao, c, hv⟩ := own_slice (HH.out.rP r (List.mem_of_getElem? hr))
          rw [hv]; rfl
        have hlen := goneL_len ES at' j
        obtain ⟨hi, hz0, hz1, hz2⟩ := HI.out
        clear hN hr
        go_wp2_with (at_builtin; refine wpList_append_own _ rfl (.tmp 18) (.tmp 26) 70 rfl w.heap.size 128 i0 _ 14 88 Tryz.underlying70 hi hz0 hz1 hz2 rfl (by decide) _ _ _ rfl (HO.out.alloc _) ⟨wr.heap.size, 0, none⟩ 1 1 r.cells rfl rfl (cells_new _ _ _) (RE.one r hraw hpv) (by unfold maxLen; omega) (by omega) (by simp; omega) ?_)
        intro v2 w2 hown hgrow hiff
        have HO2 : Hid (w2.ownsRow w.heap.size 128 14 v2 (goneL (ES.take (j + 1)) at').length ((goneL (ES.take (j + 1)) at').flatMap RE.cells)) := by
          show World.ownsRow _ _ _ _ _ _ _
          rw [HT.out, List.flatMap_append, List.length_append]
          simpa using hown
        have HB2 : Hid (Below w.heap.size w w2) := (HB.out.alloc hsz _).grown hgrow (by simp; omega) (fun k hk => (HO.out.lt k hk).1)
        clear hown hgrow hiff c0 c1 c2 c3 c4 c5 c6 c7 c8 c9 c10 c11 c12 c13
        go_wp2
        go_roundw
        case rel => exact ⟨j + 1, by omega, by go_num, HO2.out, HB2.out⟩
        case measure => simp [intOf]; omega
    · obtain rfl : j = ES.length := by omega
      rw [List.take_length] at HO
      have hE := HH.out.setE (Only.of_below HB.out) (goneL ES at') _ (own_zero HO.out) (fun r hr => HH.out.raw r (goneL_mem _ _ _ hr)) (fun r hr => .inl (goneL_mem _ _ _ hr)) (fun r hr q hq => .inl (HH.out.fP r (goneL_mem _ _ _ hr) q hq)) (fun q hq => .inr (HO.out.lt q hq).1)
      rw [goneL_map, HH.out.hes] at hE
      obtain ⟨ao, c, rfl⟩ := own_slice HO.out
      have HE := hide hE
      clear hE
      go_wp2
      go_end0
      exact ⟨rfl, _, _, HE.out⟩

set_option maxRecDepth 100000 in
set_option maxHeartbeats 1600000 in
theorem rlanded_any (yb k : Nat) (S : Cl) (F : Nat → Prop) (vS vE vN vV : Value) (ES : List RE) (NS : List RN) (r : RN) (w : World) (h : RefIs w yb S F vS vE vN vV ES NS) (hn : NS.length ≤ 2000000000000) (hk : NS[k]? = some r) :
    Calls Tryz.prog 82 #[.pointer (some ⟨yb, 0, none⟩), .int .i64 k] w fun e w' => e = .returned (.agg #[.int .i64 r.s.seq, .int .i64 r.s.frm, .int .i64 r.s.to, .int .u16 r.s.p.src, .int .u16 r.s.p.dst, .int .u8 r.s.p.proto, .int .u16 r.s.p.id, .int .u8 r.s.p.off, .bool r.s.p.more, .int .u16 r.s.p.sport, .int .u16 r.s.p.dport, r.dv]) ∧ ∃ F' vN', RefIs w' yb (landM S k) F' vS vE vN' vV ES (goneL NS k) ∧ Stp w w' F F' := by
  have hkl : k < NS.length := (List.getElem?_eq_some_iff.1 hk).1
  obtain ⟨i0, hi, hz0, hz1, hz2⟩ := info_parts Tryz.infoSn
  have HI := hide (And.intro hi (And.intro hz0 (And.intro hz1 hz2)))
  clear hi hz0 hz1 hz2
  have HH := hide h
  have hyb := h.lt
  obtain ⟨g, cap, hvN⟩ := own_some h.rN (by omega)
  have hg := (h.rN.lt g (by rw [hvN]; rfl)).2
  have cN : w.cell? ⟨yb, 6, none⟩ = some (.slice (some ⟨g, 0, none⟩) NS.length cap) := by rw [← hvN]; exact arr_cell h.blk 6
  have hN := h.rN
  rw [hvN] at hN
  have c0 : w.cell? ⟨g, k * 12, none⟩ = _ := row_get RN.cells RN.len hN k r hk 0 _ rfl
  have c1 := row_get RN.cells RN.len hN k r hk 1 _ rfl
  have c2 := row_get RN.cells RN.len hN k r hk 2 _ rfl
  have c3 := row_get RN.cells RN.len hN k r hk 3 _ rfl
  have c4 := row_get RN.cells RN.len hN k r hk 4 _ rfl
  have c5 := row_get RN.cells RN.len hN k r hk 5 _ rfl
  have c6 := row_get RN.cells RN.len hN k r hk 6 _ rfl
  have c7 := row_get RN.cells RN.len hN k r hk 7 _ rfl
  have c8 := row_get RN.cells RN.len hN k r hk 8 _ rfl
  have c9 := row_get RN.cells RN.len hN k r hk 9 _ rfl
  have c10 := row_get RN.cells RN.len hN k r hk 10 _ rfl
  have c11 := row_get RN.cells RN.len hN k r hk 11 _ rfl
  obtain ⟨rs, rdv⟩ := r
  obtain ⟨ra, rc, hdv⟩ := h.rawN _ (List.mem_of_getElem? hk)
  simp only at hdv
  subst hdv
  clear h hN hk
  go_enter Tryz.func82, Tryz.ntmps82
  go_wp2_with fail
  clear c0 c1 c2 c3 c4 c5 c6 c7 c8 c9 c10 c11 cN
  generalize hWW : ((w.alloc _).alloc _) = w1
  have hz1 : w1.heap.size = w.heap.size + 2 := by rw [← hWW]; simp
  have HB0 : Hid (Below w.heap.size w w1) := by rw [← hWW]; exact ((Below.refl _ _).alloc (Nat.le_refl _) _).alloc (by simp) _
  have HX0 : Hid (w1.heap[w.heap.size]? = some (.cells #[.int .i64 0, .int .i64 0, .int .i64 0, .int .u16 0, .int .u16 0, .int .u8 0, .int .u16 0, .int .u8 0, .bool false, .int .u16 0, .int .u16 0, .slice none 0 0] 110 (0, 0))) := by rw [← hWW]; exact heap_new1 _ _ _
  have HX1 : Hid (w1.heap[w.heap.size + 1]? = some (.cells #[.int .i64 rs.seq, .int .i64 rs.frm, .int .i64 rs.to, .int .u16 rs.p.src, .int .u16 rs.p.dst, .int .u8 rs.p.proto, .int .u16 rs.p.id, .int .u8 rs.p.off, .bool rs.p.more, .int .u16 rs.p.sport, .int .u16 rs.p.dport, .slice ra rs.p.dlen rc] 110 (0, 0))) := by rw [← hWW]; exact heap_new2 _ _ _
  clear hWW
  go_loopw [7, 6] (fun i l wr => ∃ j : Nat, j ≤ NS.length ∧ i = .int .i64 j ∧ Hid (wr.ownsRow (w.heap.size + 2) 110 12 l (goneL (NS.take j) k).length ((goneL (NS.take j) k).flatMap RN.cells)) ∧ Hid (Below (w.heap.size + 2) w1 wr)) (fun i _ _ => NS.length - (intOf i).toNat)
  case atStart => exact ⟨0, Nat.zero_le _, rfl, by simp [goneL]; exact World.ownsRow_nil _ _ _ _, Below.refl _ _⟩
  case round =>
    obtain ⟨j, hj, rfl, HO, HB⟩ := hrel
    have HBW : Hid (Below w.heap.size w wr) := HB0.out.trans (HB.out.mono (by omega))
    have HR := hide (HH.out.below HBW.out)
    have cN : wr.cell? ⟨yb, 6, none⟩ = some (.slice (some ⟨g, 0, none⟩) NS.length cap) := by rw [← hvN]; exact arr_cell HR.out.blk 6
    have cF : ∀ j, wr.frozen? ⟨yb, j, none⟩ = false := fun j => arr_frozen HR.out.blk j
    have hsz : w.heap.size + 2 ≤ wr.heap.size := by have := HB.out.size; omega
    have hyr : yb < wr.heap.size := by omega
    have hgr : g < wr.heap.size := by omega
    by_cases hlt : j < NS.length
    · obtain ⟨r, hr⟩ : ∃ r, NS[j]? = some r := ⟨_, List.getElem?_eq_getElem hlt⟩
      have HT := hide (goneL_step NS k j r hr)
      by_cases hja : j = k
      · have hne : (((j : Int)) != ((k : Int))) = false := by simp [hja]
        rw [if_pos hja] at HT
        have hja' := hide hja
        clear hja hr
        go_wp2
        go_roundw
        case rel => exact ⟨j + 1, by omega, by go_num, by rw [HT.out]; exact HO.out, HB.out⟩
        case measure => simp [intOf]; omega
      · have hne : (((j : Int)) != ((k : Int))) = true := by simp; omega
        rw [if_neg hja] at HT
        have hN := HR.out.rN
        rw [hvN] at hN
        have c0 : wr.cell? ⟨g, j * 12, none⟩ = _ := row_get RN.cells RN.len hN j r hr 0 _ rfl
        have c1 := row_get RN.cells RN.len hN j r hr 1 _ rfl
        have c2 := row_get RN.cells RN.len hN j r hr 2 _ rfl
        have c3 := row_get RN.cells RN.len hN j r hr 3 _ rfl
        have c4 := row_get RN.cells RN.len hN j r hr 4 _ rfl
        have c5 := row_get RN.cells RN.len hN j r hr 5 _ rfl
        have c6 := row_get RN.cells RN.len hN j r hr 6 _ rfl
        have c7 := row_get RN.cells RN.len hN j r hr 7 _ rfl
        have c8 := row_get RN.cells RN.len hN j r hr 8 _ rfl
        have c9 := row_get RN.cells RN.len hN j r hr 9 _ rfl
        have c10 := row_get RN.cells RN.len hN j r hr 10 _ rfl
        have c11 := row_get RN.cells RN.len hN j r hr 11 _ rfl
        have hraw : r.dv.oneCell' = true := by
          obtain ⟨ao, c, hv⟩ := HH.out.rawN r (List.mem_of_getElem? hr)
          rw [hv]; rfl
        have hlen := goneL_len NS k j
        obtain ⟨hi, hz0, hz1, hz2⟩ := HI.out
        clear hN hr
        go_wp2_with (at_builtin; refine wpList_append_own _ rfl (.tmp 27) (.tmp 35) 71 rfl (w.heap.size + 2) 110 i0 _ 12 64 Tryz.underlying71 hi hz0 hz1 hz2 rfl (by decide) _ _ _ rfl (HO.out.alloc _) ⟨wr.heap.size, 0, none⟩ 1 1 r.cells rfl rfl (cells_new _ _ _) (RN.one r hraw) (by unfold maxLen; omega) (by omega) (by simp; omega) ?_)
        intro v2 w2 hown hgrow hiff
        have HO2 : Hid (w2.ownsRow (w.heap.size + 2) 110 12 v2 (goneL (NS.take (j + 1)) k).length ((goneL (NS.take (j + 1)) k).flatMap RN.cells)) := by
          show World.ownsRow _ _ _ _ _ _ _
          rw [HT.out, List.flatMap_append, List.length_append]
          simpa using hown
        have HB2 : Hid (Below (w.heap.size + 2) w1 w2) := (HB.out.alloc hsz _).grown hgrow (by simp; omega) (fun k hk => (HO.out.lt k hk).1)
        clear hown hgrow hiff c0 c1 c2 c3 c4 c5 c6 c7 c8 c9 c10 c11
        go_wp2
        go_roundw
        case rel => exact ⟨j + 1, by omega, by go_num, HO2.out, HB2.out⟩
        case measure => simp [intOf]; omega
    · obtain rfl : j = NS.length := by omega
      rw [List.take_length] at HO
      have hE := HH.out.setN (Only.of_below HBW.out) (goneL NS k) _ (own_zero HO.out) (fun r hr => HH.out.rawN r (goneL_mem _ _ _ hr)) (fun q hq => .inr (by have := (HO.out.lt q hq).1; omega))
      rw [goneL_map, HH.out.hns] at hE
      have hFn : ∀ q, (F q ∨ Value.ownBlock u6 = some q) → q < w.heap.size ∨ w.heap.size + 2 ≤ q := by
        intro q hq
        rcases hq with hq | hq
        · exact .inl (HH.out.flt q hq)
        · exact .inr (HO.out.lt q hq).1
      have HFN := hide hFn
      obtain ⟨ao, c, rfl⟩ := own_slice HO.out
      have HE := hide hE
      have dB := arr_cell ((HB.out.block _ (by omega)).trans HX1.out)
      have dA := arr_cell ((HB.out.block _ (by omega)).trans HX0.out)
      have fA := arr_frozen ((HB.out.block _ (by omega)).trans HX0.out)
      clear hE hFn
      go_wp2
      have h12 := store12 (t := 110) ((Below.heap_setCell _ ⟨yb, 6, none⟩ (.slice ao (goneL NS k).length c) _ (by simp; omega)).trans ((HB.out.block _ (by omega)).trans HX0.out)) (.int .i64 rs.seq) (.int .i64 rs.frm) (.int .i64 rs.to) (.int .u16 rs.p.src) (.int .u16 rs.p.dst) (.int .u8 rs.p.proto) (.int .u16 rs.p.id) (.int .u8 rs.p.off) (.bool rs.p.more) (.int .u16 rs.p.sport) (.int .u16 rs.p.dport) (.slice ra rs.p.dlen rc)
      generalize (((((((((((((wr.setCell ⟨yb, 6, none⟩ (.slice ao (goneL NS k).length c)).setCell ⟨w.heap.size, 0, none⟩ (.int .i64 rs.seq)).setCell ⟨w.heap.size, 1, none⟩ (.int .i64 rs.frm)).setCell ⟨w.heap.size, 2, none⟩ (.int .i64 rs.to)).setCell ⟨w.heap.size, 3, none⟩ (.int .u16 rs.p.src)).setCell ⟨w.heap.size, 4, none⟩ (.int .u16 rs.p.dst)).setCell ⟨w.heap.size, 5, none⟩ (.int .u8 rs.p.proto)).setCell ⟨w.heap.size, 6, none⟩ (.int .u16 rs.p.id)).setCell ⟨w.heap.size, 7, none⟩ (.int .u8 rs.p.off)).setCell ⟨w.heap.size, 8, none⟩ (.bool rs.p.more)).setCell ⟨w.heap.size, 9, none⟩ (.int .u16 rs.p.sport)).setCell ⟨w.heap.size, 10, none⟩ (.int .u16 rs.p.dport)).setCell ⟨w.heap.size, 11, none⟩ (.slice ra rs.p.dlen rc)) = wF at h12 ⊢
      have dF := arr_cell h12.1
      have hzF : w.heap.size < wF.heap.size := lt_of_block h12.1
      clear dA dB fA
      refine bodyPost_ret (v := .agg #[.int .i64 rs.seq, .int .i64 rs.frm, .int .i64 rs.to, .int .u16 rs.p.src, .int .u16 rs.p.dst, .int .u8 rs.p.proto, .int .u16 rs.p.id, .int .u8 rs.p.off, .bool rs.p.more, .int .u16 rs.p.sport, .int .u16 rs.p.dport, .slice ra rs.p.dlen rc]) ?_ rfl ⟨rfl, _, _, HE.out.1.only h12.2 ?_, ⟨HE.out.2.only.trans h12.2 ?_, HE.out.2.own⟩⟩
      · go_light
        simp [results, Tryz.results82, go_sem, dF]
      · intro q hq hq'
        have := HFN.out q hq
        omega
      · intro q hq hq'
        omega

end Go.Proofs.YtajphdppmdoalaaGreat
