import Derived.Test.YtajphdppmdoalaaGreatT2
namespace Go.Proofs.YtajphdppmdoalaaGreat
open Go.RowKit
set_option linter.unusedVariables false

theorem Tryz.info30 : (Tryz.prog.info? 38).map (fun i => (i.zero, i.size, i.bytes)) = some (some (.slice none 0 0), 1, 24) := by kernel_rfl
theorem Tryz.info3 : (Tryz.prog.info? 3).map (fun i => (i.zero, i.size, i.bytes)) = some (some (.int .i64 0), 1, 8) := by kernel_rfl

theorem grown_trans {a b c : World} {r : Option Nat} (h : a.grownBy b r) (k : b.grownBy c r) : a.grownBy c r :=
  ⟨k.os.trans h.os, k.tape.trans h.tape, k.output.trans h.output, Nat.le_trans h.size k.size, fun i hi hne => (k.block i (Nat.lt_of_lt_of_le hi h.size) hne).trans (h.block i hi hne)⟩
theorem sg_step (k : Int) (zs : List Int) (j : Nat) (h : j < zs.length) : ((sg k j ++ zs.drop j).map (Value.int .u8)).set j (.int .u8 (sgn k j)) = (sg k (j + 1) ++ zs.drop (j + 1)).map (Value.int .u8) := by
  rw [List.drop_eq_getElem_cons h, List.map_append, List.map_cons, List.set_append_right _ _ (by simp [sg_length]), List.length_map, sg_length, Nat.sub_self, List.set_cons_zero, sg]
  simp
theorem sign_int (k i : Int) (w : World) (hk0 : 0 ≤ k) (hk : k ≤ 9223372036854775807) (hi0 : 0 ≤ i) (hi : i ≤ 9223372036854775807) :
    Calls Tryz.prog 23 #[.int .i64 k, .int .i64 i] w fun e w' => e = .returned (.int .u8 (sgn k i.toNat)) ∧ w' = w := by
  obtain ⟨n, rfl⟩ := Int.eq_ofNat_of_zero_le hi0
  exact sign_any k n w hk0 hk (by omega)

set_option maxRecDepth 100000 in
set_option maxHeartbeats 1600000 in
theorem bytes_some (lo hi wb c g n cb : Nat) (vl : Value) (zs : List Int) (w : World) (hB : Bk w lo hi wb vl c) (hlh : lo ≤ hi) (hb : w.ownsRow hi 5 1 (.slice (some ⟨g, 0, none⟩) n cb) n (zs.map (Value.int .u8))) (hn : n ≤ 1048576) (hc : (4 * c + 4) * 24 ≤ 140737488355328) :
    Calls Tryz.prog 30 #[.pointer (some ⟨wb, 1, none⟩), (.slice (some ⟨g, 0, none⟩) n cb)] w fun e w' => e = .returned (.tuple #[]) ∧ Bk w' lo w'.heap.size wb vl (c + 1) ∧ Below lo w w' := by
  obtain ⟨vbs, vkb, BS, KS, hlo, hwh, hhz, hw, hBS, hKS, hob, hok, hub, huk, hold⟩ := hB
  obtain ⟨i5, hi5, hz5, hz6, hz7⟩ := info_parts Tryz.info5
  obtain ⟨i30, hi30, hy5, hy6, hy7⟩ := info_parts Tryz.info30
  obtain ⟨i3, hi3, hx5, hx6, hx7⟩ := info_parts Tryz.info3
  have HI := hide (And.intro hi5 (And.intro hz5 (And.intro hz6 hz7)))
  have HI30 := hide (And.intro hi30 (And.intro hy5 (And.intro hy6 hy7)))
  have HI3 := hide (And.intro hi3 (And.intro hx5 (And.intro hx6 hx7)))
  clear hi5 hz5 hz6 hz7 hi30 hy5 hy6 hy7 hi3 hx5 hx6 hx7
  have HS : Hid ((sg ((c : Int) + 1) 0 ++ zs.drop 0).map (Value.int .u8) = zs.map (Value.int .u8)) := by show _ = _; simp [sg]
  have hzl : zs.length = n := by simpa using hb.1
  have HZL := hide hzl
  -- the world behind 'o.n++'
  have hw1 := row_setCell (j := 7) hw (.int .i64 ((c : Int) + 1))
  have HW1 : Hid ((w.setCell ⟨wb, 7, none⟩ (.int .i64 ((c : Int) + 1))).heap[wb]? = some (.cells #[vl, vbs, .slice none 0 0, .slice none 0 0, vkb, .slice none 0 0, .slice none 0 0, .int .i64 ((c : Int) + 1)] 34 (0, 0))) := by show _ = _; simpa using hw1
  have HB1 : Hid ((w.setCell ⟨wb, 7, none⟩ (.int .i64 ((c : Int) + 1))).ownsRow hi 5 1 (.slice (some ⟨g, 0, none⟩) n cb) n ((sg ((c : Int) + 1) 0 ++ zs.drop 0).map (Value.int .u8))) := by rw [HS.out]; exact own_set hb hw (by decide) _
  have HOB : Hid ((w.setCell ⟨wb, 7, none⟩ (.int .i64 ((c : Int) + 1))).ownsRow lo 38 1 vbs (4 * c) BS) := own_set hob hw (by decide) _
  have HOK : Hid ((w.setCell ⟨wb, 7, none⟩ (.int .i64 ((c : Int) + 1))).ownsRow lo 3 1 vkb (4 * c) (KS.map (Value.int .i64))) := own_set hok hw (by decide) _
  have HOLD : Hid (∀ (i : Nat) (u : Value) (k : Int), BS[i]? = some u → KS[i]? = some k → 0 ≤ k ∧ k ≤ c ∧ Page (w.setCell ⟨wb, 7, none⟩ (.int .i64 ((c : Int) + 1))) lo hi u k) := by
    intro i u k hu hk
    obtain ⟨h1, h2, m, h3, h4⟩ := hold i u k hu hk
    exact ⟨h1, h2, m, own_set h3 hw (by decide) _, h4⟩
  have HBW : Hid (Below lo w (w.setCell ⟨wb, 7, none⟩ (.int .i64 ((c : Int) + 1)))) := (Below.refl _ _).setCell hlo _
  have cw := arr_cell hw
  have fw := arr_frozen hw
  have cw1 := arr_cell HW1.out
  have HHH := hide (And.intro hlo (And.intro hwh (And.intro hBS (And.intro hKS (And.intro hub huk)))))
  have hsz1 : (w.setCell ⟨wb, 7, none⟩ (.int .i64 ((c : Int) + 1))).heap.size = w.heap.size := by simp
  have HSZ : Hid (hi ≤ (w.setCell ⟨wb, 7, none⟩ (.int .i64 ((c : Int) + 1))).heap.size) := by rw [hsz1]; exact hhz
  have hwz : wb < w.heap.size := lt_of_block hw
  clear hob hok hold hb hw1 hlo hBS hKS hub huk hw hsz1 hhz hzl HS
  go_enter Tryz.func30, Tryz.ntmps30
  go_wp2_with fail
  generalize w.setCell ⟨wb, 7, none⟩ (.int .i64 ((c : Int) + 1)) = w1 at *
  clear cw fw
  go_loopw [6] (fun i wr => ∃ j : Nat, j ≤ n ∧ i = .int .i64 j ∧ Hid (wr.ownsRow hi 5 1 (.slice (some ⟨g, 0, none⟩) n cb) n ((sg ((c : Int) + 1) j ++ zs.drop j).map (Value.int .u8))) ∧ Hid (w1.grownBy wr (Value.ownBlock (.slice (some ⟨g, 0, none⟩) n cb))))
    (fun i _ => n - (intOf i).toNat)
  case atStart => exact ⟨0, Nat.zero_le _, rfl, HB1.out, World.grownBy.refl _ _⟩
  case round =>
    obtain ⟨j, hj, rfl, HO, HG⟩ := hrel
    by_cases hlt : j < n
    · have hcell := HO.out.cellAt j (by omega)
      have hfro := HO.out.frozenAt j
      rw [List.getElem?_eq_getElem (by have := HO.out.1; omega)] at hcell
      go_wp2_with (first | (go_at_call 23; refine (sign_any ((c : Int) + 1) j _ (by omega) (by omega) (by omega)).mono ?_; rintro e w' ⟨rfl, rfl⟩))
      go_roundw
      case rel =>
        have h := HO.out.stored j (.int .u8 (sgn ((c : Int) + 1) j))
        rw [sg_step _ _ _ (by have := HZL.out; omega)] at h
        exact ⟨j + 1, by omega, by go_num, h.1, grown_trans HG.out h.2⟩
      case measure => simp [intOf]; omega
    · obtain rfl : j = n := by omega
      have hdr : zs.drop j = [] := List.drop_eq_nil_of_le (by have := HZL.out; omega)
      rw [hdr, List.append_nil] at HO
      have hvb : ∀ k, Value.ownBlock (.slice (some ⟨g, 0, none⟩) j cb) = some k → hi ≤ k := fun k hk => (HO.out.lt k hk).1
      have HB2 : Hid (Below hi w1 wr) := (Below.refl _ _).grown HG.out HSZ.out hvb
      have hz2 : hi ≤ wr.heap.size := Nat.le_trans HSZ.out HB2.out.size
      obtain ⟨hi5, hz5, hz6, hz7⟩ := HI.out
      clear HG HB1 hdr cw1
      go_wp2_with fail
      refine (sign_int ((c : Int) + 1) j _ (by omega) (by omega) (by omega) (by omega)).mono ?_
      rintro e w' ⟨rfl, rfl⟩
      rw [show ((j : Int)).toNat = j from by omega]
      go_wp2_with (at_builtin; refine wpList_append_keep _ rfl (.tmp 34) (.tmp 38) 38 rfl hi 5 i5 (.int .u8 0) 1 Tryz.underlying38 hi5 hz5 hz6 hz7 rfl _ _ _ rfl (HO.out.alloc _) ⟨w'.heap.size, 0, none⟩ 1 1 (by decide) [.int .u8 (sgn ((c : Int) + 1) j)] rfl rfl (cell_one_new _ _ _) (by simp [Value.oneCell']) (by unfold maxLen; omega) (by omega) (by simp; omega) ?_)
      intro g1 c1 w2 hown hgrow hkeep
      have HP0 : Hid (w2.ownsRow hi 5 1 (.slice (some ⟨g, 0, none⟩) j cb) j ((sg ((c : Int) + 1) j).map (Value.int .u8))) := hkeep _ _ _ _ (HO.out.alloc _) (fun _ => Nat.le_refl _)
      have HP1 : Hid (w2.ownsRow hi 5 1 (.slice (some ⟨g1, 0, none⟩) (j + 1) c1) (j + 1) ((sg ((c : Int) + 1) (j + 1)).map (Value.int .u8))) := by show World.ownsRow _ _ _ _ _ _ _; simpa [sg] using hown
      have HB3 : Hid (Below hi w1 w2) := (HB2.out.alloc hz2 _).grown hgrow (by simp; omega) hvb
      have hz3 : hi ≤ w2.heap.size := Nat.le_trans HSZ.out HB3.out.size
      clear hown hgrow hkeep HO HB2 hz2
      go_wp2_with fail
      refine (sign_int ((c : Int) + 1) ((j : Int) + 1) _ (by omega) (by omega) (by omega) (by omega)).mono ?_
      rintro e w' ⟨rfl, rfl⟩
      rw [show ((j : Int) + 1).toNat = j + 1 from by omega]
      go_wp2_with (at_builtin; refine wpList_append_keep _ rfl (.tmp 40) (.tmp 45) 38 rfl hi 5 i5 (.int .u8 0) 1 Tryz.underlying38 hi5 hz5 hz6 hz7 rfl _ _ _ rfl (HP1.out.alloc _) ⟨w'.heap.size, 0, none⟩ 1 1 (by decide) [.int .u8 (sgn ((c : Int) + 1) (j + 1))] rfl rfl (cell_one_new _ _ _) (by simp [Value.oneCell']) (by unfold maxLen; omega) (by omega) (by simp; omega) ?_)
      intro g2 c2 w3 hown hgrow hkeep
      have HQ0 := hide (hkeep _ _ _ _ (HP0.out.alloc _) (fun _ => by omega))
      have HQ1 := hide (hkeep _ _ _ _ (HP1.out.alloc _) (fun _ => by omega))
      have HQ2 : Hid (w3.ownsRow hi 5 1 (.slice (some ⟨g2, 0, none⟩) (j + 2) c2) (j + 2) ((sg ((c : Int) + 1) (j + 2)).map (Value.int .u8))) := by show World.ownsRow _ _ _ _ _ _ _; simpa [sg] using hown
      have HBn : Hid (Below hi w1 w3) := (HB3.out.alloc hz3 _).grown hgrow (by simp; omega) (fun k hk => (HP1.out.lt k hk).1)
      have hzn : hi ≤ w3.heap.size := Nat.le_trans HSZ.out HBn.out.size
      clear hown hgrow hkeep HP0 HP1 HB3 hz3
      have HP0 := HQ0
      have HP1 := HQ1
      have HP2 := HQ2
      have HB3 := HBn
      have hz3 := hzn
      clear HQ0 HQ1 HQ2 HBn hzn
      go_wp2_with fail
      refine (sign_int ((c : Int) + 1) ((j : Int) + 2) _ (by omega) (by omega) (by omega) (by omega)).mono ?_
      rintro e w' ⟨rfl, rfl⟩
      rw [show ((j : Int) + 2).toNat = j + 2 from by omega]
      go_wp2_with (at_builtin; refine wpList_append_keep _ rfl (.tmp 47) (.tmp 52) 38 rfl hi 5 i5 (.int .u8 0) 1 Tryz.underlying38 hi5 hz5 hz6 hz7 rfl _ _ _ rfl (HP2.out.alloc _) ⟨w'.heap.size, 0, none⟩ 1 1 (by decide) [.int .u8 (sgn ((c : Int) + 1) (j + 2))] rfl rfl (cell_one_new _ _ _) (by simp [Value.oneCell']) (by unfold maxLen; omega) (by omega) (by simp; omega) ?_)
      intro g3 c3 w4 hown hgrow hkeep
      have HQ0 := hide (hkeep _ _ _ _ (HP0.out.alloc _) (fun _ => by omega))
      have HQ1 := hide (hkeep _ _ _ _ (HP1.out.alloc _) (fun _ => by omega))
      have HQ2 := hide (hkeep _ _ _ _ (HP2.out.alloc _) (fun _ => by omega))
      have HQ3 : Hid (w4.ownsRow hi 5 1 (.slice (some ⟨g3, 0, none⟩) (j + 3) c3) (j + 3) ((sg ((c : Int) + 1) (j + 3)).map (Value.int .u8))) := by show World.ownsRow _ _ _ _ _ _ _; simpa [sg] using hown
      have HBn : Hid (Below hi w1 w4) := (HB3.out.alloc hz3 _).grown hgrow (by simp; omega) (fun k hk => (HP2.out.lt k hk).1)
      have hzn : hi ≤ w4.heap.size := Nat.le_trans HSZ.out HBn.out.size
      clear hown hgrow hkeep HP0 HP1 HP2 HB3 hz3
      have HP0 := HQ0
      have HP1 := HQ1
      have HP2 := HQ2
      have HP3 := HQ3
      have HB3 := HBn
      have hz3 := hzn
      clear HQ0 HQ1 HQ2 HQ3 HBn hzn
      -- the four lists go into the book
      clear hi5 hz5 hz6 hz7 HI
      have hwb4 : w4.heap[wb]? = _ := (HB3.out.block wb hwh).trans HW1.out
      have HW4 := hide hwb4
      have HOB4 : Hid (w4.ownsRow lo 38 1 vbs (4 * c) BS) := own_below HOB.out HHH.out.2.2.2.2.1 HB3.out
      have HOK4 : Hid (w4.ownsRow lo 3 1 vkb (4 * c) (KS.map (Value.int .i64))) := own_below HOK.out HHH.out.2.2.2.2.2 HB3.out
      have HOLD4 : Hid (∀ (i : Nat) (u : Value) (k : Int), BS[i]? = some u → KS[i]? = some k → 0 ≤ k ∧ k ≤ c ∧ ∃ m, w4.ownsRow lo 5 1 u m ((sg k m).map (Value.int .u8))) := by
        intro i u k hu hk
        obtain ⟨h1, h2, h3⟩ := HOLD.out i u k hu hk
        obtain ⟨m, h4, _⟩ := h3.below HB3.out
        exact ⟨h1, h2, m, h4⟩
      have HBW4 : Hid (Below lo w w4) := HBW.out.trans (HB3.out.mono hlh)
      have cw := arr_cell HW4.out
      have hwz4 : wb < w4.heap.size := lt_of_block HW4.out
      have hlz : lo ≤ w4.heap.size := by omega
      clear hwb4 HOB HOK HOLD HW1 HBW HB3 HSZ hwz
      obtain ⟨hi30, hy5, hy6, hy7⟩ := HI30.out
      go_wp2_with (at_builtin; refine wpList_append_own _ rfl (.tmp 58) (.tmp 63) 28 rfl lo 38 i30 (.slice none 0 0) 1 24 Tryz.underlying28 hi30 hy5 hy6 hy7 rfl (by decide) _ _ _ rfl (HOB4.out.alloc _) ⟨w4.heap.size, 0, none⟩ 4 4 [(.slice (some ⟨g, 0, none⟩) j cb), .slice (some ⟨g1, 0, none⟩) (j + 1) c1, .slice (some ⟨g2, 0, none⟩) (j + 2) c2, .slice (some ⟨g3, 0, none⟩) (j + 3) c3] rfl rfl (cells_new _ _ _) (by simp [Value.oneCell']) (by unfold maxLen; omega) (by omega) (by simp; omega) ?_)
      intro v5 w5 hown5 hgrow5 hiff5
      obtain ⟨gb, cbb, rfl⟩ := (own_shape hown5).resolve_left (by intro h; first | exact hiff5 h | exact absurd (hiff5.1 h).2 (by decide))
      have HW5 := hide (blk_stay ((Below.heap_alloc _ _ _ hwz4).trans HW4.out) (HOB4.out.alloc _) (by decide) hgrow5)
      have HA1 := hide hown5
      have HE1 := hide hgrow5
      have HOK5 := hide (own_stay (HOK4.out.alloc _) (HOB4.out.alloc _) (by decide) hgrow5)
      have HBW5 : Hid (Below lo w w5) := (HBW4.out.alloc hlz _).grown hgrow5 (by simp; omega) (fun k hk => (HOB4.out.lt k hk).1)
      clear cw hown5 hgrow5 hiff5 hi30 hy5 hy6 hy7 HI30
      have cw := arr_cell HW5.out
      have fw := arr_frozen HW5.out
      have hwz5 : wb < w5.heap.size := lt_of_block HW5.out
      obtain ⟨hi3, hx5, hx6, hx7⟩ := HI3.out
      have HOK6 := hide (own_set (j := 1) HOK5.out HW5.out (by decide) (.slice (some ⟨gb, 0, none⟩) (4 * c + 4) cbb))
      have hlz5 : lo ≤ w5.heap.size := Nat.le_of_lt (Nat.lt_of_le_of_lt HHH.out.1 hwz5)
      have HCN : Hid (∀ (q : Nat) (u : Value), [Value.int .i64 ((c : Int) + 1), .int .i64 ((c : Int) + 1), .int .i64 ((c : Int) + 1), .int .i64 ((c : Int) + 1)][q]? = some u → ((w5.setCell ⟨wb, 1, none⟩ (.slice (some ⟨gb, 0, none⟩) (4 * c + 4) cbb)).alloc (.cells #[.int .i64 ((c : Int) + 1), .int .i64 ((c : Int) + 1), .int .i64 ((c : Int) + 1), .int .i64 ((c : Int) + 1)] 3)).cell? ((⟨w5.heap.size, 0, none⟩ : Addr).add q) = some u) := by
        have h := cells_new (w5.setCell ⟨wb, 1, none⟩ (.slice (some ⟨gb, 0, none⟩) (4 * c + 4) cbb)) [Value.int .i64 ((c : Int) + 1), .int .i64 ((c : Int) + 1), .int .i64 ((c : Int) + 1), .int .i64 ((c : Int) + 1)] 3
        rw [World.size_setCell] at h
        exact h
      go_wp2_with (at_builtin; refine wpList_append_own _ rfl (.tmp 71) (.tmp 76) 24 rfl lo 3 i3 (.int .i64 0) 1 8 Tryz.underlying24 hi3 hx5 hx6 hx7 rfl (by decide) _ _ _ rfl (HOK6.out.alloc _) ⟨w5.heap.size, 0, none⟩ 4 4 [.int .i64 ((c : Int) + 1), .int .i64 ((c : Int) + 1), .int .i64 ((c : Int) + 1), .int .i64 ((c : Int) + 1)] rfl rfl HCN.out (by simp [Value.oneCell']) (by unfold maxLen; omega) (by omega) (by simp; omega) ?_)
      intro v7 w7 hown7 hgrow7 hiff7
      obtain ⟨gk, ck, rfl⟩ := (own_shape hown7).resolve_left (by intro h; first | exact hiff7 h | exact absurd (hiff7.1 h).2 (by decide))
      have HW6 := hide (row_setCell (j := 1) HW5.out (.slice (some ⟨gb, 0, none⟩) (4 * c + 4) cbb))
      have HW7 := hide (blk_stay ((Below.heap_alloc _ _ _ (lt_of_block HW6.out)).trans HW6.out) (HOK6.out.alloc _) (by decide) hgrow7)
      have HBW7 : Hid (Below lo w w7) := (((HBW5.out.setCell HHH.out.1 _).alloc (by simp; omega) _).grown hgrow7 (by simp; omega) (fun k hk => (HOK6.out.lt k hk).1))
      have HA2 := hide hown7
      have HE2 := hide hgrow7
      clear cw fw hown7 hgrow7 hiff7 hi3 hx5 hx6 hx7 HI3 HCN
      have cw := arr_cell HW7.out
      have fw := arr_frozen HW7.out
      have hwz7 : wb < w7.heap.size := lt_of_block HW7.out
      go_wp2
      go_end0
      exact ⟨rfl, bk_done HHH.out.1 HW4.out HHH.out.2.2.1 HHH.out.2.2.2.1 HOB4.out HOK4.out HOLD4.out (ownsRow_base HP0.out hlh) (ownsRow_base HP1.out hlh) (ownsRow_base HP2.out hlh) (ownsRow_base HP3.out hlh) HA1.out HE1.out HA2.out HE2.out, HBW7.out.setCell HHH.out.1 _⟩

end Go.Proofs.YtajphdppmdoalaaGreat
