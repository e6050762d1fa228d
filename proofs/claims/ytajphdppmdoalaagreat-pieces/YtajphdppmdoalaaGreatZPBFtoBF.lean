import Derived.Test.YtajphdppmdoalaaGreatZPBBtoBB
import Derived.Test.YtajphdppmdoalaaGreatZPBGtoBE
import Derived.Deep.RegionHeldLaw
namespace Go.Proofs.YtajphdppmdoalaaGreat
open Go.RowKit
set_option linter.unusedVariables false

theorem Tryz.infoSF : (Tryz.prog.info? 62).map (fun i => (i.zero, i.size, i.bytes)) = some (some (.slice none 0 0), 1, 24) := by kernel_rfl
set_option maxRecDepth 100000 in
set_option maxHeartbeats 3200000 in
theorem flights_any (wb : Nat) (vl : Value) (c : Nat) (G : Nat → Prop) (vbs ves vfs vkb vke vkf : Value) (BS ES FS : List Value) (KB KE KF : List Int) (lv : Value) (n : Nat) (xs : List Value) (w : World) (h : Book w wb vl c G vbs ves vfs vkb vke vkf BS ES FS KB KE KF) (hl : w.ownsRow 0 64 3 lv n xs) (hG : ∀ g, lv.ownBlock = some g → ¬ G g) (hn : n ≤ 2000000000000) (hc : c ≤ 1466015503700) :
    Calls Tryz.prog 47 #[.pointer (some ⟨wb, 1, none⟩), lv] w fun e w' => e = .returned (.tuple #[]) ∧ ∃ G' vfs' vkf' FS' KF', Book w' wb vl (c + 1) G' vbs ves vfs' vkb vke vkf' BS ES FS' KB KE KF' ∧ (∀ k, G' k → G k ∨ lv.ownBlock = some k ∨ w.heap.size ≤ k) ∧ Only (fun k => G k ∨ lv.ownBlock = some k) w w' := by
  obtain ⟨i5, hi5, hz5, hz6, hz7⟩ := info_parts Tryz.infoFl
  obtain ⟨i3, hi3, hx5, hx6, hx7⟩ := info_parts Tryz.infoSl
  obtain ⟨i2, hi2, hy5, hy6, hy7⟩ := info_parts Tryz.infoSF
  have HI5 := hide (And.intro hi5 (And.intro hz5 (And.intro hz6 hz7)))
  have HI3 := hide (And.intro hi3 (And.intro hx5 (And.intro hx6 hx7)))
  have HI2 := hide (And.intro hi2 (And.intro hy5 (And.intro hy6 hy7)))
  clear hi5 hz5 hz6 hz7 hi3 hx5 hx6 hx7 hi2 hy5 hy6 hy7
  have HH := hide h
  have HL := hide hl
  have hwb : wb < w.heap.size := lt_of_block h.blk
  have dW := arr_cell h.blk
  have fW := arr_frozen h.blk
  have hw1 := row_setCell (j := 7) h.blk (.int .i64 ((c : Int) + 1))
  have HW1 : Hid ((w.setCell ⟨wb, 7, none⟩ (.int .i64 ((c : Int) + 1))).heap[wb]? = some (.cells #[vl, vbs, ves, vfs, vkb, vke, vkf, .int .i64 ((c : Int) + 1)] 34 (0, 0))) := by show _ = _; simpa using hw1
  have HL1 := hide (own_set' (j := 7) hl h.blk (by decide) (.int .i64 ((c : Int) + 1)))
  have HW1x : Hid (∀ k, k ≠ wb → (w.setCell ⟨wb, 7, none⟩ (.int .i64 ((c : Int) + 1))).heap[k]? = w.heap[k]?) := fun k hk => Below.heap_setCell _ _ _ _ hk
  have HOS : Hid ((w.setCell ⟨wb, 7, none⟩ (.int .i64 ((c : Int) + 1))).os = w.os ∧ (w.setCell ⟨wb, 7, none⟩ (.int .i64 ((c : Int) + 1))).tape = w.tape ∧ (w.setCell ⟨wb, 7, none⟩ (.int .i64 ((c : Int) + 1))).output = w.output) := ⟨rfl, rfl, rfl⟩
  have hsz1 : w.heap.size ≤ (w.setCell ⟨wb, 7, none⟩ (.int .i64 ((c : Int) + 1))).heap.size := by simp
  obtain ⟨la, lc, hlv⟩ := own_slice hl
  subst hlv
  clear h hl hw1
  go_enter Tryz.func47, Tryz.ntmps47
  go_wp2_with fail
  generalize hWW : w.setCell ⟨wb, 7, none⟩ _ = w1 at *
  clear hWW dW fW
  have dW := arr_cell HW1.out
  have hwb1 : wb < w1.heap.size := lt_of_block HW1.out
  go_wp2_with fail
  refine (flight_any ((c : Int) + 1) w1 (by omega) (by omega)).mono ?_
  rintro e w2 ⟨rfl, hb2⟩
  have HB2 := hide hb2
  have hz12 := hb2.size
  clear hb2 dW
  go_wp2_with fail
  generalize hW3 : w2.alloc _ = w3
  have HX3 : Hid (w3.heap[w2.heap.size]? = some (.cells #[.int .i64 (-((c : Int) + 1)), .int .i64 ((c : Int) + 1), .int .i64 ((c : Int) + 1)] 64 (0, 0))) := by rw [← hW3]; exact heap_alloc_new _ _
  have HB3 : Hid (Below w1.heap.size w1 w3) := by rw [← hW3]; exact HB2.out.alloc (by omega) _
  clear hW3 HB2
  generalize hbm : w2.heap.size = bm at *
  have hbm1 : w1.heap.size ≤ bm := by omega
  clear hbm
  have HL3 := hide (own_below' HL1.out (fun g hg => (HL1.out.lt g hg).2) HB3.out)
  go_loopw [5] (fun i wr => ∃ j : Nat, j ≤ n ∧ i = .int .i64 j ∧ Hid (wr.ownsRow 0 64 3 (.slice la n lc) n ((List.replicate j ((c : Int) + 1)).flatMap flP ++ xs.drop (j * 3))) ∧ Hid (Only (fun k => Value.ownBlock (.slice la n lc) = some k) w3 wr)) (fun i _ => n - (intOf i).toNat)
  case atStart => exact ⟨0, Nat.zero_le _, rfl, by simpa using HL3, Only.refl _ _⟩
  case round =>
    obtain ⟨j, hj, rfl, HO, HN⟩ := hrel
    have hbl : Value.ownBlock (.slice la n lc) ≠ some bm := fun hh => by have := (HL1.out.lt bm hh).2; omega
    have HXr : Hid (wr.heap[bm]? = some (.cells #[.int .i64 (-((c : Int) + 1)), .int .i64 ((c : Int) + 1), .int .i64 ((c : Int) + 1)] 64 (0, 0))) := (HN.out.block bm (lt_of_block HX3.out) hbl).trans HX3.out
    have dX := arr_cell HXr.out
    have hzr : bm < wr.heap.size := lt_of_block HXr.out
    by_cases hlt : j < n
    · obtain ⟨g, q0, hgq⟩ := own_some HO.out (by omega)
      rw [Value.slice.injEq] at hgq
      obtain ⟨rfl, _, rfl⟩ := hgq
      have hxl := HO.out.1
      have hxn := HL.out.1
      have hgz : g < wr.heap.size := (HO.out.lt g rfl).2
      have cc : ∀ d, d < 3 → ∃ v, wr.cell? ⟨g, j * 3 + d, none⟩ = some v := fun d hd => by
        have h1 := HO.out.cellAt (j * 3 + d) (by omega)
        rw [List.getElem?_eq_getElem (by omega)] at h1
        exact ⟨_, h1⟩
      obtain ⟨v0, c0⟩ := cc 0 (by omega)
      obtain ⟨v1, c1⟩ := cc 1 (by omega)
      obtain ⟨v2, c2⟩ := cc 2 (by omega)
      have c0' : wr.cell? ⟨g, j * 3, none⟩ = some v0 := c0
      have fG : ∀ i, wr.frozen? ⟨g, i, none⟩ = false := fun i => HO.out.frozenAt i
      have hgb : g ≠ bm := fun hh => hbl (by rw [← hh]; rfl)
      have HS : Hid ((stL wr g (j * 3) (flP ((c : Int) + 1))).ownsRow 0 64 3 (.slice (some ⟨g, 0, none⟩) n lc) n ((List.replicate (j + 1) ((c : Int) + 1)).flatMap flP ++ xs.drop ((j + 1) * 3))) := by
        have h1 := stL_own HO.out (j * 3) (flP ((c : Int) + 1))
        rw [rep_step flP flP_len j _ xs (by omega)] at h1
        exact h1
      have HSo := hide (stL_only wr g (j * 3) (flP ((c : Int) + 1)))
      clear cc c0 hxl
      go_wp2
      go_roundw
      case rel => exact ⟨j + 1, by omega, by go_num, HS.out, HN.out.trans HSo.out (fun i _ hi => by rw [hi]; rfl)⟩
      case measure => simp [intOf]; omega
    · obtain rfl : j = n := by omega
      have hdr : xs.drop (j * 3) = [] := List.drop_eq_nil_of_le (by rw [HL.out.1]; exact Nat.le_refl _)
      rw [hdr, List.append_nil] at HO
      obtain ⟨hi5, hz5, hz6, hz7⟩ := HI5.out
      clear hdr
      go_wp2_with (at_builtin; refine wpList_append_at _ rfl (.tmp 31) (.tmp 33) 62 rfl 64 i5 _ 3 24 Tryz.underlying62 hi5 hz5 hz6 hz7 rfl (by decide) _ _ _ rfl (HO.out.alloc _) _ 1 1 (by decide) (flP ((c : Int) + 1)) rfl rfl (cells_new _ _ _) (by simp [flP, Value.oneCell']) (by unfold maxLen; omega) (by omega) ?_)
      intro g1 c1 w5 hown hgrow hwh hkeep
      have LS : Hid (Only (fun k => Value.ownBlock (.slice la j lc) = some k ∨ w3.heap.size ≤ k) w3 w5) := ((HN.out.mono (fun k _ hk => .inl hk)).alloc _).grown hgrow (fun k _ hk => .inl hk)
      have HP0 := hide (hkeep _ _ _ _ _ (HO.out.alloc _) (fun _ => ⟨Nat.le_refl _, rfl, rfl⟩))
      have HP1 : Hid (w5.ownsRow 0 64 3 (.slice (some ⟨g1, 0, none⟩) (j + 1) c1) (j + 1) ((List.replicate (j + 1) ((c : Int) + 1)).flatMap flP)) := by show World.ownsRow _ _ _ _ _ _ _; rw [rep_snoc]; exact hown
      have HG1 : Hid (Value.ownBlock (.slice la j lc) = some g1 ∨ w3.heap.size ≤ g1) := hwh.imp id (fun h1 => by have := HN.out.size; first | omega | (simp at h1; omega))
      have HX5 : Hid (w5.heap[bm]? = some (.cells #[.int .i64 (-((c : Int) + 1)), .int .i64 ((c : Int) + 1), .int .i64 ((c : Int) + 1)] 64 (0, 0))) := (LS.out.block bm (lt_of_block HX3.out) (fun hh => hh.elim hbl (fun h1 => by have := lt_of_block HX3.out; omega))).trans HX3.out
      clear hown hgrow hwh hkeep dX HXr HO HN hzr
      have dX := arr_cell HX5.out
      have hzr : bm < w5.heap.size := lt_of_block HX5.out
      go_wp2_with (at_builtin; refine wpList_append_at _ rfl (.tmp 35) (.tmp 37) 62 rfl 64 i5 _ 3 24 Tryz.underlying62 hi5 hz5 hz6 hz7 rfl (by decide) _ _ _ rfl (HP1.out.alloc _) _ 1 1 (by decide) (flP ((c : Int) + 1)) rfl rfl (cells_new _ _ _) (by simp [flP, Value.oneCell']) (by unfold maxLen; omega) (by omega) ?_)
      intro g2 c2 w6 hown hgrow hwh hkeep
      have LS6 : Hid (Only (fun k => Value.ownBlock (.slice la j lc) = some k ∨ w3.heap.size ≤ k) w3 w6) := (LS.out.alloc _).grown hgrow (fun k _ hk => by simp only [Value.ownBlock, Option.some.injEq] at hk; rw [← hk]; exact HG1.out)
      have HQ0 := hide (hkeep _ _ _ _ _ (HP0.out.alloc _) (fun _ => ⟨by omega, rfl, rfl⟩))
      have HQ1 := hide (hkeep _ _ _ _ _ (HP1.out.alloc _) (fun _ => ⟨by omega, rfl, rfl⟩))
      have HQ2 : Hid (w6.ownsRow 0 64 3 (.slice (some ⟨g2, 0, none⟩) (j + 2) c2) (j + 2) ((List.replicate (j + 2) ((c : Int) + 1)).flatMap flP)) := by show World.ownsRow _ _ _ _ _ _ _; rw [rep_snoc]; exact hown
      have HG2 : Hid (Value.ownBlock (.slice la j lc) = some g2 ∨ w3.heap.size ≤ g2) := by
        rcases hwh with h1 | h1
        · simp only [Value.ownBlock, Option.some.injEq] at h1
          rw [← h1]; exact HG1.out
        · exact .inr (by have := LS.out.size; first | omega | (simp at h1; omega))
      have HX6 : Hid (w6.heap[bm]? = some (.cells #[.int .i64 (-((c : Int) + 1)), .int .i64 ((c : Int) + 1), .int .i64 ((c : Int) + 1)] 64 (0, 0))) := (LS6.out.block bm (lt_of_block HX3.out) (fun hh => hh.elim hbl (fun h1 => by have := lt_of_block HX3.out; omega))).trans HX3.out
      clear hown hgrow hwh hkeep dX HX5 HP0 HP1 hzr LS
      have dX := arr_cell HX6.out
      have hzr : bm < w6.heap.size := lt_of_block HX6.out
      go_wp2_with (at_builtin; refine wpList_append_at _ rfl (.tmp 39) (.tmp 41) 62 rfl 64 i5 _ 3 24 Tryz.underlying62 hi5 hz5 hz6 hz7 rfl (by decide) _ _ _ rfl (HQ2.out.alloc _) _ 1 1 (by decide) (flP ((c : Int) + 1)) rfl rfl (cells_new _ _ _) (by simp [flP, Value.oneCell']) (by unfold maxLen; omega) (by omega) ?_)
      intro g3 c3 w7 hown hgrow hwh hkeep
      have LS7 : Hid (Only (fun k => Value.ownBlock (.slice la j lc) = some k ∨ w3.heap.size ≤ k) w3 w7) := (LS6.out.alloc _).grown hgrow (fun k _ hk => by simp only [Value.ownBlock, Option.some.injEq] at hk; rw [← hk]; exact HG2.out)
      have HR0 := hide (hkeep _ _ _ _ _ (HQ0.out.alloc _) (fun _ => ⟨by omega, rfl, rfl⟩))
      have HR1 := hide (hkeep _ _ _ _ _ (HQ1.out.alloc _) (fun _ => ⟨by omega, rfl, rfl⟩))
      have HR2 := hide (hkeep _ _ _ _ _ (HQ2.out.alloc _) (fun _ => ⟨by omega, rfl, rfl⟩))
      have HR3 : Hid (w7.ownsRow 0 64 3 (.slice (some ⟨g3, 0, none⟩) (j + 3) c3) (j + 3) ((List.replicate (j + 3) ((c : Int) + 1)).flatMap flP)) := by show World.ownsRow _ _ _ _ _ _ _; rw [rep_snoc]; exact hown
      have HG3 : Hid (Value.ownBlock (.slice la j lc) = some g3 ∨ w3.heap.size ≤ g3) := by
        rcases hwh with h1 | h1
        · simp only [Value.ownBlock, Option.some.injEq] at h1
          rw [← h1]; exact HG2.out
        · exact .inr (by have := LS6.out.size; first | omega | (simp at h1; omega))
      have hw3 : w.heap.size ≤ w3.heap.size := by have h1 := HB3.out.size; omega
      have hwl : ¬ (Value.ownBlock (.slice la j lc) = some wb ∨ w3.heap.size ≤ wb) := fun hh => hh.elim (fun h1 => hG wb h1 HH.out.gw) (fun h1 => by omega)
      have HW7 : Hid (w7.heap[wb]? = some (.cells #[vl, vbs, ves, vfs, vkb, vke, vkf, .int .i64 ((c + 1 : Nat) : Int)] 34 (0, 0))) := (LS7.out.block wb (by omega) hwl).trans ((HB3.out.block wb (by omega)).trans HW1.out)
      have HK7 : Hid (Book w7 wb vl (c + 1) G vbs ves vfs vkb vke vkf BS ES FS KB KE KF) := HH.out.move (Nat.le_trans hw3 LS7.out.size) (fun k hk hne => by
        have h1 := HH.out.flt k hk
        exact (LS7.out.block k (by omega) (fun hh => hh.elim (fun h2 => hG k h2 hk) (fun h2 => by omega))).trans ((HB3.out.block k (by omega)).trans (HW1x.out k hne))) vl (c + 1) (by omega) HW7.out
      have HW70 : Hid (Only (fun k => G k ∨ Value.ownBlock (.slice la j lc) = some k) w w7) := by
        refine ⟨(LS7.out.os.trans HB3.out.os).trans HOS.out.1, (LS7.out.tape.trans HB3.out.tape).trans HOS.out.2.1, (LS7.out.output.trans HB3.out.output).trans HOS.out.2.2, by have := LS7.out.size; omega, fun k hk hn => ?_⟩
        exact (LS7.out.block k (by omega) (fun hh => hh.elim (fun h2 => hn (.inr h2)) (fun h2 => by omega))).trans ((HB3.out.block k (by omega)).trans (HW1x.out k (fun e => hn (.inl (by rw [e]; exact HH.out.gw)))))
      clear hown hgrow hwh hkeep dX HX6 HQ0 HQ1 HQ2 hzr LS6
      have dW := arr_cell HW7.out
      have fW := arr_frozen HW7.out
      have hwb7 : wb < w7.heap.size := lt_of_block HW7.out
      obtain ⟨hi2, hy5, hy6, hy7⟩ := HI2.out
      have hcn := HH.out.cnt
      obtain ⟨xa, xc, hvx⟩ := own_slice HK7.out.cf.row
      subst hvx
      go_wp2_with (at_builtin; refine wpList_append_at _ rfl (.tmp 47) (.tmp 52) 30 rfl 62 i2 _ 1 24 Tryz.underlying30 hi2 hy5 hy6 hy7 rfl (by decide) _ _ _ rfl (HK7.out.cf.row.alloc _) _ 4 4 (by decide) [.slice la j lc, .slice (some ⟨g1, 0, none⟩) (j + 1) c1, .slice (some ⟨g2, 0, none⟩) (j + 2) c2, .slice (some ⟨g3, 0, none⟩) (j + 3) c3] rfl rfl (cells_new _ _ _) (by simp [Value.oneCell']) (by unfold maxLen; omega) (by omega) ?_)
      intro g8 c8 w8 hown8 hgrow8 hwh8 hkeep8
      have hne8 : some wb ≠ Value.ownBlock (.slice xa FS.length xc) := fun hh => own_apart_blk HK7.out.cf.row HW7.out (by decide) hh.symm
      have HW8 : Hid (w8.heap[wb]? = some (.cells #[vl, vbs, ves, .slice xa FS.length xc, vkb, vke, vkf, .int .i64 ((c + 1 : Nat) : Int)] 34 (0, 0))) := (hgrow8.block wb (by simp; omega) hne8).trans ((Below.heap_alloc _ _ _ hwb7).trans HW7.out)
      have HKE8 : Hid (w8.ownsRow 0 3 1 vkf FS.length (KF.map (Value.int .i64))) := own_only (HK7.out.cf.ks.alloc _) (Only.of_grown hgrow8) (fun g hg hv => own_apart' HK7.out.cf.ks HK7.out.cf.row (by decide) hg hv)
      clear dW fW
      have dW := arr_cell HW8.out
      have fW := arr_frozen HW8.out
      have hwb8 : wb < w8.heap.size := lt_of_block HW8.out
      have HW9 : Hid ((w8.setCell ⟨wb, 3, none⟩ (.slice (some ⟨g8, 0, none⟩) (FS.length + 4) c8)).heap[wb]? = some (.cells #[vl, vbs, ves, .slice (some ⟨g8, 0, none⟩) (FS.length + 4) c8, vkb, vke, vkf, .int .i64 ((c + 1 : Nat) : Int)] 34 (0, 0))) := by
        show _ = _
        simpa using row_setCell (j := 3) HW8.out (.slice (some ⟨g8, 0, none⟩) (FS.length + 4) c8)
      have HKE9 := hide (own_set' (j := 3) HKE8.out HW8.out (by decide) (.slice (some ⟨g8, 0, none⟩) (FS.length + 4) c8))
      have H8 := hide (And.intro hown8 (And.intro hgrow8 (And.intro hwh8 hkeep8)))
      clear hown8 hgrow8 hwh8 hkeep8
      go_upto_region 10 with (fail)
      generalize hW9 : w8.setCell ⟨wb, 3, none⟩ _ = w9 at *
      have HW9e := hide hW9
      have hsz89 : w8.heap.size ≤ w9.heap.size := by rw [← hW9]; simp
      clear dW fW hW9
      have dW := arr_cell HW9.out
      have d5 : w9.cell? ⟨wb, 6, none⟩ = some vkf := dW 6
      have d7 : w9.cell? ⟨wb, 7, none⟩ = some (.int .i64 ((c + 1 : Nat) : Int)) := dW 7
      have f5 : w9.frozen? ⟨wb, 6, none⟩ = false := arr_frozen HW9.out 6
      have hwb9 : wb < w9.heap.size := lt_of_block HW9.out
      have HYE : Hid (vkf.ownBlock ≠ some wb) := own_apart_blk HKE9.out HW9.out (by decide)
      obtain ⟨hi3, hx5, hx6, hx7⟩ := HI3.out
      obtain ⟨ka, kc, hvk⟩ := own_slice HKE9.out
      subst hvk
      clear dW
      have HFIN : Hid (∀ (g10 c10 : Nat) (wy : World) (o2 : Obj), wy.ownsRow 0 3 1 (.slice (some ⟨g10, 0, none⟩) (FS.length + 4) c10) (FS.length + 4) (KF.map (Value.int .i64) ++ [.int .i64 ((c + 1 : Nat) : Int), .int .i64 ((c + 1 : Nat) : Int), .int .i64 ((c + 1 : Nat) : Int), .int .i64 ((c + 1 : Nat) : Int)]) → (w9.drew.alloc o2).grownBy wy (Value.slice ka FS.length kc).ownBlock → ((Value.slice ka FS.length kc).ownBlock = some g10 ∨ w8.heap.size ≤ g10) → ∃ G' vfs' vkf' FS' KF', Book (wy.setCell ⟨wb, 6, none⟩ (.slice (some ⟨g10, 0, none⟩) (FS.length + 4) c10)) wb vl (c + 1) G' vbs ves vfs' vkb vke vkf' BS ES FS' KB KE KF' ∧ (∀ k, G' k → G k ∨ Value.ownBlock (.slice la j lc) = some k ∨ w.heap.size ≤ k) ∧ Only (fun k => G k ∨ Value.ownBlock (.slice la j lc) = some k) w (wy.setCell ⟨wb, 6, none⟩ (.slice (some ⟨g10, 0, none⟩) (FS.length + 4) c10))) := by
        intro g10 c10 wy o2 b1 b2 b3
        obtain ⟨x1, x2, x3, x4⟩ := H8.out
        have hd := fl_done (o2 := o2) HK7.out (by omega) HR0.out HR1.out HR2.out HR3.out x1 x2 (x3.imp id (fun h => by first | omega | (simp at h; omega))) b1 (by rw [HW9e.out]; exact b2) b3
        obtain ⟨G', d1, d2, d3⟩ := hd
        refine ⟨G', _, _, _, _, d1, fun k hk => ?_, ?_⟩
        · rcases d2 k hk with d2 | ⟨u, hu, hk'⟩ | d2
          · exact .inl d2
          · rcases hu with rfl | rfl | rfl | rfl
            · exact .inr (.inl hk')
            · simp only [Value.ownBlock, Option.some.injEq] at hk'
              subst hk'
              exact .inr (HG1.out.imp id (fun h => by omega))
            · simp only [Value.ownBlock, Option.some.injEq] at hk'
              subst hk'
              exact .inr (HG2.out.imp id (fun h => by omega))
            · simp only [Value.ownBlock, Option.some.injEq] at hk'
              subst hk'
              exact .inr (HG3.out.imp id (fun h => by omega))
          · exact .inr (.inr (by have := LS7.out.size; omega))
        · exact HW70.out.trans d3 (fun k _ hk => .inl hk)
      refine wp_region_held_drew (S := fun w' => w'.cell? ⟨wb, 7, none⟩ = some (.int .i64 ((c + 1 : Nat) : Int))) (by kernel_rfl) d7 (fun hHeld => ?_)
      refine wpAnyH_take (i := 0) (oi := _) (v := ?v0) rfl (by kernel_rfl) (by kernel_rfl) (by kernel_rfl) (fun _ _ _ h => h) (Or.inl ⟨by rfl, ?hy0⟩) (by assumption) ?r0
      case hy0 =>
        intro wq hSw
        try dsimp only at hSw
        go_simp
        try with_reducible rfl
      try simp only [Act.put]
      refine wpAnyH_take (i := 1) (oi := _) (v := ?v1) rfl (by kernel_rfl) (by kernel_rfl) (by kernel_rfl) (fun _ _ _ h => h) (Or.inl ⟨by rfl, ?hy1⟩) (by assumption) ?r1
      case hy1 =>
        intro wq hSw
        try dsimp only at hSw
        go_simp
        try with_reducible rfl
      try simp only [Act.put]
      refine wpAnyH_take (i := 2) (oi := _) (v := ?v2) rfl (by kernel_rfl) (by kernel_rfl) (by kernel_rfl) (fun _ _ _ h => h) (Or.inl ⟨by rfl, ?hy2⟩) (by assumption) ?r2
      case hy2 =>
        intro wq hSw
        try dsimp only at hSw
        go_simp
        try with_reducible rfl
      try simp only [Act.put]
      refine wpAnyH_take (i := 3) (oi := _) (v := ?v3) rfl (by kernel_rfl) (by kernel_rfl) (by kernel_rfl) (fun _ _ _ h => h) (Or.inl ⟨by rfl, ?hy3⟩) (by assumption) ?r3
      case hy3 =>
        intro wq hSw
        try dsimp only at hSw
        go_simp
        try with_reducible rfl
      try simp only [Act.put]
      refine wpAnyH_take (i := 5) (oi := _) (v := ?v5) rfl (by kernel_rfl) (by kernel_rfl) (by kernel_rfl) (fun _ _ _ h => h) (Or.inl ⟨by rfl, ?hy5⟩) (by assumption) ?r5
      case hy5 =>
        intro wq hSw
        try dsimp only at hSw
        go_simp
        try with_reducible rfl
      try simp only [Act.put]
      refine wpAnyH_take (i := 6) (oi := _) (v := ?v6) rfl (by kernel_rfl) (by kernel_rfl) (by kernel_rfl) (fun _ _ _ h => h) (Or.inl ⟨by rfl, ?hy6⟩) (by assumption) ?r6
      case hy6 =>
        intro wq hSw
        try dsimp only at hSw
        go_simp
        try with_reducible rfl
      try simp only [Act.put]
      refine wpAnyH_take (i := 7) (oi := _) (v := ?v7) rfl (by kernel_rfl) (by kernel_rfl) (by kernel_rfl) (fun _ _ _ h => h) (Or.inl ⟨by rfl, ?hy7⟩) (by assumption) ?r7
      case hy7 =>
        intro wq hSw
        try dsimp only at hSw
        go_simp
        try with_reducible rfl
      try simp only [Act.put]
      refine wpAnyH_take (i := 8) (oi := _) (v := ?v8) rfl (by kernel_rfl) (by kernel_rfl) (by kernel_rfl) (fun _ _ _ h => h) (Or.inl ⟨by rfl, ?hy8⟩) (by assumption) ?r8
      case hy8 =>
        intro wq hSw
        try dsimp only at hSw
        go_simp
        try with_reducible rfl
      try simp only [Act.put]
      refine wpAnyH_take (i := 9) (oi := _) (v := ?v9) rfl (by kernel_rfl) (by kernel_rfl) (by kernel_rfl) (fun _ _ _ h => h) (Or.inl ⟨by rfl, ?hy9⟩) (by assumption) ?r9
      case hy9 =>
        intro wq hSw
        try dsimp only at hSw
        go_simp
        try with_reducible rfl
      try simp only [Act.put]
      refine wpAnyH_take (i := 10) (oi := _) (v := ?v10) rfl (by kernel_rfl) (by kernel_rfl) (by kernel_rfl) (fun _ _ _ h => h) (Or.inl ⟨by rfl, ?hy10⟩) (by assumption) ?r10
      case hy10 =>
        intro wq hSw
        try dsimp only at hSw
        go_simp
        try with_reducible rfl
      try simp only [Act.put]
      refine wpAnyH_take (i := 11) (oi := _) (v := ?v11) rfl (by kernel_rfl) (by kernel_rfl) (by kernel_rfl) (fun _ _ _ h => h) (Or.inl ⟨by rfl, ?hy11⟩) (by assumption) ?r11
      case hy11 =>
        intro wq hSw
        try dsimp only at hSw
        go_simp
        try with_reducible rfl
      try simp only [Act.put]
      refine wpAnyH_take (i := 12) (oi := _) (v := ?v12) rfl (by kernel_rfl) (by kernel_rfl) (by kernel_rfl) (fun _ _ _ h => h) (Or.inl ⟨by rfl, ?hy12⟩) (by assumption) ?r12
      case hy12 =>
        intro wq hSw
        try dsimp only at hSw
        go_simp
        try with_reducible rfl
      try simp only [Act.put]
      refine wpAnyH_take (i := 13) (oi := _) (v := ?v13) rfl (by kernel_rfl) (by kernel_rfl) (by kernel_rfl) (fun _ _ _ h => h) (Or.inl ⟨by rfl, ?hy13⟩) (by assumption) ?r13
      case hy13 =>
        intro wq hSw
        try dsimp only at hSw
        go_simp
        try with_reducible rfl
      try simp only [Act.put]
      refine wpAnyH_take (i := 14) (oi := _) (v := ?v14) rfl (by kernel_rfl) (by kernel_rfl) (by kernel_rfl) (fun _ _ _ h => h) (Or.inl ⟨by rfl, ?hy14⟩) (by assumption) ?r14
      case hy14 =>
        intro wq hSw
        try dsimp only at hSw
        go_simp
        try with_reducible rfl
      try simp only [Act.put]
      refine wpAnyH_take (i := 15) (oi := _) (v := ?v15) rfl (by kernel_rfl) (by kernel_rfl) (by kernel_rfl) (fun _ _ _ h => h) (Or.inl ⟨by rfl, ?hy15⟩) (by assumption) ?r15
      case hy15 =>
        intro wq hSw
        try dsimp only at hSw
        go_simp
        try with_reducible rfl
      try simp only [Act.put]
      refine wpAnyH_take (i := 16) (oi := _) (v := ?v16) rfl (by kernel_rfl) (by kernel_rfl) (by kernel_rfl) (fun _ _ _ h => h) (Or.inl ⟨by rfl, ?hy16⟩) (by assumption) ?r16
      case hy16 =>
        intro wq hSw
        try dsimp only at hSw
        go_simp
        try with_reducible rfl
      try simp only [Act.put]
      refine wpAnyH_take (i := 17) (oi := _) (v := ?v17) rfl (by kernel_rfl) (by kernel_rfl) (by kernel_rfl) (fun _ _ _ h => h) (Or.inl ⟨by rfl, ?hy17⟩) (by assumption) ?r17
      case hy17 =>
        intro wq hSw
        try dsimp only at hSw
        go_simp
        try with_reducible rfl
      try simp only [Act.put]
      refine wpAnyH_take (i := 18) (oi := _) (v := ?v18) rfl (by kernel_rfl) (by kernel_rfl) (by kernel_rfl) (fun _ _ _ h => h) (Or.inl ⟨by rfl, ?hy18⟩) (by assumption) ?r18
      case hy18 =>
        intro wq hSw
        try dsimp only at hSw
        go_simp
        try with_reducible rfl
      try simp only [Act.put]
      refine wpAnyH_take (i := 19) (oi := _) (v := ?v19) rfl (by kernel_rfl) (by kernel_rfl) (by kernel_rfl) (fun _ _ _ h => h) (Or.inl ⟨by rfl, ?hy19⟩) (by assumption) ?r19
      case hy19 =>
        intro wq hSw
        try dsimp only at hSw
        go_simp
        try with_reducible rfl
      try simp only [Act.put]
      refine wpAnyH_take (i := 20) (oi := _) (v := ?v20) rfl (by kernel_rfl) (by kernel_rfl) (by kernel_rfl) (fun _ _ _ h => h) (Or.inl ⟨by rfl, ?hy20⟩) (by assumption) ?r20
      case hy20 =>
        intro wq hSw
        try dsimp only at hSw
        go_simp
        try with_reducible rfl
      try simp only [Act.put]
      have d5a : ∀ O, (w9.drew.alloc O).cell? ⟨wb, 6, none⟩ = _ := fun O => (World.cell?_alloc_past O _ _ hwb9).trans d5
      have d7a : ∀ O, (w9.drew.alloc O).cell? ⟨wb, 7, none⟩ = _ := fun O => (World.cell?_alloc_past O _ _ hwb9).trans d7
      have f5a : ∀ O, (w9.drew.alloc O).frozen? ⟨wb, 6, none⟩ = false := fun O => (World.frozen?_alloc_past O _ _ hwb9).trans f5
      have hmx : FS.length + 4 ≤ maxLen := by unfold maxLen; omega
      have hby : (FS.length + 4) * 8 ≤ 140737488355328 := by omega
      refine wpAnyH_ready (rs := [4, 21]) (by kernel_rfl) (by simp) ?_
      refine AllReadyH.cons (o := _) rfl (fun K hK => ?s4) (AllReadyH.cons (o := _) rfl (fun K hK => ?s21) AllReadyH.nil)
      case s4 =>
        go_simp
        refine hK.out _ _ d7 (fun hHeld4 => ?_)
        clear hK K
        try simp only [Act.put]
        refine wpAnyH_ready (rs := [21]) (by kernel_rfl) (by simp) ?_
        refine AllReadyH.cons (o := _) rfl (fun K hK => ?_) AllReadyH.nil
        go_simp
        refine hK.out _ _ (d7a _) (fun hHeld21 => ?_)
        clear hK K
        try simp only [Act.put]
        refine wpAnyH_ready (rs := [22]) (by kernel_rfl) (by simp) ?_
        refine AllReadyH.cons (o := _) rfl (fun K hK => ?_) AllReadyH.nil
        refine step_append_lies _ (by rfl) (.tmp 60) (.tmp 77) 24 (by rfl) 0 3 i3 _ 1 8 Tryz.underlying24 hi3 hx5 hx6 hx7 rfl (by decide) _ FS.length _ (by rfl) (World.ownsRow.alloc HKE9.out _) _ 4 4 [.int .i64 ((c + 1 : Nat) : Int), .int .i64 ((c + 1 : Nat) : Int), .int .i64 ((c + 1 : Nat) : Int), .int .i64 ((c + 1 : Nat) : Int)] (by rfl) (by rfl) (cells_new _ _ _) (by simp [Value.oneCell']) (by decide) hmx hby (Nat.zero_le _) _ rfl ?_
        intro g10 c10 wy hown10 hgrow10 hwh10 hlt10
        have y5 := (hgrow10.cell_far ⟨wb, 6, none⟩ (by simp; omega) (fun hh => HYE.out hh.symm)).trans (d5a _)
        have y7 := (hgrow10.cell_far ⟨wb, 7, none⟩ (by simp; omega) (fun hh => HYE.out hh.symm)).trans (d7a _)
        have yf := (hgrow10.frozen_far ⟨wb, 6, none⟩ (by simp; omega) (fun hh => HYE.out hh.symm)).trans (f5a _)
        refine hK.out _ _ (y7) (fun hHeld22 => ?_)
        clear hK K
        try simp only [Act.put]
        refine wpAnyH_take (i := 23) (oi := _) (v := ?v23a) rfl (by kernel_rfl) (by kernel_rfl) (by kernel_rfl) (fun _ _ _ h => h) (Or.inl ⟨by rfl, ?hy23a⟩) (by assumption) ?r23a
        case hy23a =>
          intro wq hSw
          try dsimp only at hSw
          go_simp
          try with_reducible rfl
        try simp only [Act.put]
        refine wpAnyH_take (i := 24) (oi := _) (v := ?v24a) rfl (by kernel_rfl) (by kernel_rfl) (by kernel_rfl) (fun _ _ _ h => h) (Or.inl ⟨by rfl, ?hy24a⟩) (by assumption) ?r24a
        case hy24a =>
          intro wq hSw
          try dsimp only at hSw
          go_simp
          try with_reducible rfl
        try simp only [Act.put]
        refine wpAnyH_ready (rs := [25]) (by kernel_rfl) (by simp) ?_
        refine AllReadyH.cons (o := _) rfl (fun K hK => ?_) AllReadyH.nil
        go_simp
        have y7s : (wy.setCell ⟨wb, 6, none⟩ (.slice (some ⟨g10, 0, none⟩) (FS.length + 4) c10)).cell? ⟨wb, 7, none⟩ = some (.int .i64 ((c + 1 : Nat) : Int)) := by rw [World.cell?_setCell_other _ _ _ _ (by simp)]; exact y7
        refine hK.out _ _ y7s (fun hHeld25 => ?_)
        clear hK K
        refine wpAnyH_done (by kernel_rfl) ?_ _
        have HF := HFIN.out g10 c10 wy _ hown10 hgrow10 (hwh10.imp id (fun h => by first | omega | (simp at h; omega)))
        have HFF := hide HF
        clear HF hown10 hgrow10 hwh10 y5 y7 yf y7s hHeld hHeld25
        go_wp2
        go_end0
        exact ⟨rfl, HFF.out⟩
      case s21 =>
        go_simp
        refine hK.out _ _ (d7a _) (fun hHeld21 => ?_)
        clear hK K
        try simp only [Act.put]
        refine wpAnyH_ready (rs := [4]) (by kernel_rfl) (by simp) ?_
        refine AllReadyH.cons (o := _) rfl (fun K hK => ?_) AllReadyH.nil
        go_simp
        refine hK.out _ _ (d7a _) (fun hHeld4 => ?_)
        clear hK K
        try simp only [Act.put]
        refine wpAnyH_ready (rs := [22]) (by kernel_rfl) (by simp) ?_
        refine AllReadyH.cons (o := _) rfl (fun K hK => ?_) AllReadyH.nil
        refine step_append_lies _ (by rfl) (.tmp 60) (.tmp 77) 24 (by rfl) 0 3 i3 _ 1 8 Tryz.underlying24 hi3 hx5 hx6 hx7 rfl (by decide) _ FS.length _ (by rfl) (World.ownsRow.alloc HKE9.out _) _ 4 4 [.int .i64 ((c + 1 : Nat) : Int), .int .i64 ((c + 1 : Nat) : Int), .int .i64 ((c + 1 : Nat) : Int), .int .i64 ((c + 1 : Nat) : Int)] (by rfl) (by rfl) (cells_new _ _ _) (by simp [Value.oneCell']) (by decide) hmx hby (Nat.zero_le _) _ rfl ?_
        intro g10 c10 wy hown10 hgrow10 hwh10 hlt10
        have y5 := (hgrow10.cell_far ⟨wb, 6, none⟩ (by simp; omega) (fun hh => HYE.out hh.symm)).trans (d5a _)
        have y7 := (hgrow10.cell_far ⟨wb, 7, none⟩ (by simp; omega) (fun hh => HYE.out hh.symm)).trans (d7a _)
        have yf := (hgrow10.frozen_far ⟨wb, 6, none⟩ (by simp; omega) (fun hh => HYE.out hh.symm)).trans (f5a _)
        refine hK.out _ _ (y7) (fun hHeld22 => ?_)
        clear hK K
        try simp only [Act.put]
        refine wpAnyH_take (i := 23) (oi := _) (v := ?v23b) rfl (by kernel_rfl) (by kernel_rfl) (by kernel_rfl) (fun _ _ _ h => h) (Or.inl ⟨by rfl, ?hy23b⟩) (by assumption) ?r23b
        case hy23b =>
          intro wq hSw
          try dsimp only at hSw
          go_simp
          try with_reducible rfl
        try simp only [Act.put]
        refine wpAnyH_take (i := 24) (oi := _) (v := ?v24b) rfl (by kernel_rfl) (by kernel_rfl) (by kernel_rfl) (fun _ _ _ h => h) (Or.inl ⟨by rfl, ?hy24b⟩) (by assumption) ?r24b
        case hy24b =>
          intro wq hSw
          try dsimp only at hSw
          go_simp
          try with_reducible rfl
        try simp only [Act.put]
        refine wpAnyH_ready (rs := [25]) (by kernel_rfl) (by simp) ?_
        refine AllReadyH.cons (o := _) rfl (fun K hK => ?_) AllReadyH.nil
        go_simp
        have y7s : (wy.setCell ⟨wb, 6, none⟩ (.slice (some ⟨g10, 0, none⟩) (FS.length + 4) c10)).cell? ⟨wb, 7, none⟩ = some (.int .i64 ((c + 1 : Nat) : Int)) := by rw [World.cell?_setCell_other _ _ _ _ (by simp)]; exact y7
        refine hK.out _ _ y7s (fun hHeld25 => ?_)
        clear hK K
        refine wpAnyH_done (by kernel_rfl) ?_ _
        have HF := HFIN.out g10 c10 wy _ hown10 hgrow10 (hwh10.imp id (fun h => by first | omega | (simp at h; omega)))
        have HFF := hide HF
        clear HF hown10 hgrow10 hwh10 y5 y7 yf y7s hHeld hHeld25
        go_wp2
        go_end0
        exact ⟨rfl, HFF.out⟩

end Go.Proofs.YtajphdppmdoalaaGreat
