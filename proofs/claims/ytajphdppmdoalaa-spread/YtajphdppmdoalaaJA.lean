import Derived.Test.YtajphdppmdoalaaJ9
import Derived.Test.YtajphdppmdoalaaT2
namespace Go.Proofs.Ytajphdppmdoalaa
open Go.RowKit
set_option linter.unusedVariables false

theorem some_ok (l : List Int) (hnd : nd l = true) (h1 : 1 ≤ l.length) (h6 : l.length ≤ 6) (hb : ∀ z ∈ l, 0 ≤ z ∧ z ≤ 255) : tE l = 0 ∧ (asc l).length = l.length := by
  have h := (asc_len l hb).2.2 hnd
  refine ⟨?_, h⟩
  rw [tE, if_neg (by omega), if_neg (by omega)]

theorem bk_ok (l : List Int) (t : Nat) (hnd : nd l = true) (h1 : 1 ≤ l.length) (h6 : l.length ≤ 6) (ht : t < l.length) (hb : ∀ z ∈ l, 0 ≤ z ∧ z ≤ 255) : tE (bkL l t l.length) = 0 ∧ tbl (bkL l t l.length) = tbl l ∧ ∀ z ∈ bkL l t l.length, 0 ≤ z ∧ z ≤ 255 := by
  have h := (asc_len l hb).2.2 hnd
  have ha := bkL_asc l t h6 ht
  refine ⟨?_, tbl_cong _ _ ha, bkL_bd l t h6 ht hb⟩
  rw [tE, ha, bkL_len, if_neg (by omega), if_neg (by omega)]
theorem tbl_facts (l : List Int) (hnd : nd l = true) (h1 : 1 ≤ l.length) (h6 : l.length ≤ 6) (hb : ∀ z ∈ l, 0 ≤ z ∧ z ≤ 255) :
    (tbl l).length = 31 ∧ (∀ z ∈ tbl l, 0 ≤ z ∧ z ≤ 255) ∧ ∀ b : Nat, b < 256 → (tbl l).count (b : Int) = if (b : Int) ∈ l then shr l.length (ascK l b).length else 0 := by
  have h := (asc_len l hb).2.2 hnd
  refine ⟨tbl_len l, ?_, ?_⟩
  · intro z hz
    have hc : 0 < (tbl l).count z := List.count_pos_iff.2 hz
    rw [tbl_count] at hc
    by_cases hm : z ∈ asc l
    · have := ascK_bd l 256 z hm
      omega
    · rw [turns_none _ _ (by omega) hm] at hc
      omega
  · intro b hb'
    rw [share l b hb' (by omega) (by omega), h]

set_option maxRecDepth 100000 in
theorem zero256 : Try.zeroCells39 = (List.replicate 256 (Value.int .i64 0)).toArray := by kernel_rfl
/-- The counts, as the array's cells. -/
def Cnt (C : Array Value) (T : List Int) (i : Nat) : Prop := C.size = 256 ∧ ∀ b : Nat, b < 256 → C[b]? = some (.int .i64 (((T.take i).count (b : Int) : Nat) : Int))
theorem cnt_zero (T : List Int) : Cnt Try.zeroCells39 T 0 := by
  rw [zero256]
  refine ⟨by rw [List.size_toArray, List.length_replicate], ?_⟩
  intro b hb
  rw [List.getElem?_toArray, List.getElem?_replicate, if_pos hb]
  simp
theorem cnt_step (C : Array Value) (T : List Int) (i z : Nat) (h : Cnt C T i) (hi : i < T.length) (hz : T.getD i 0 = z) (hz2 : z < 256) : Cnt (C.setIfInBounds z (.int .i64 ((((T.take i).count (z : Int) : Nat) : Int) + 1))) T (i + 1) := by
  refine ⟨by rw [Array.size_setIfInBounds]; exact h.1, ?_⟩
  intro b hb
  rw [Array.getElem?_setIfInBounds, count_take_succ T i b hi, hz]
  by_cases hzb : z = b
  · subst hzb
    rw [if_pos rfl, if_pos (by rw [h.1]; exact hz2), if_pos rfl]
    simp
  · rw [if_neg hzb, if_neg (by omega)]
    exact h.2 b hb
theorem cnt_le (T : List Int) (i : Nat) (b : Int) (h : T.length = 31) : (T.take i).count b ≤ 31 := by
  have h1 := List.count_le_length (a := b) (l := T.take i)
  rw [List.length_take] at h1
  omega

theorem inB_take (l : List Int) (j : Nat) (b : Int) (hj : j < l.length) : inB (l.take (j + 1)) b = (inB (l.take j) b || (l.getD j 0 == b)) := by
  have e : l.take (j + 1) = l.take j ++ [l.getD j 0] := by
    rw [List.take_add_one, List.getElem?_eq_getElem hj, List.getD_eq_getElem?_getD, List.getElem?_eq_getElem hj]; rfl
  rw [e]
  generalize l.getD j 0 = z
  generalize l.take j = m
  rw [inB, inB, Bool.eq_iff_iff, Bool.or_eq_true, List.contains_iff_mem, List.contains_iff_mem, List.mem_append, List.mem_singleton, beq_iff_eq]
  exact ⟨fun h => h.imp id Eq.symm, fun h => h.imp id Eq.symm⟩
theorem inB_all (l : List Int) (b : Int) : inB (l.take l.length) b = inB l b := by rw [List.take_length]
theorem inB_mem (l : List Int) (b : Int) : inB l b = true ↔ b ∈ l := by rw [inB, List.contains_iff_mem]
theorem asc_in (l : List Int) (b : Nat) (h : inB l b = true) : (ascK l (b + 1)).length = (ascK l b).length + 1 := by
  rw [ascK, if_pos (show l.contains (b : Int) = true from h), List.length_append]; rfl
theorem asc_out (l : List Int) (b : Nat) (h : inB l b = false) : (ascK l (b + 1)).length = (ascK l b).length := by
  rw [ascK, if_neg (by rw [show l.contains (b : Int) = inB l b from rfl, h]; decide)]
theorem last_succ (k p : Nat) : lastK k (p + 1) = shr k p := by rw [lastK, if_neg (by omega)]; rfl
theorem all_31 (k : Nat) (h1 : 1 ≤ k) (h6 : k ≤ 6) : allK k k = 31 := allK_all ⟨k, by omega⟩ h1
theorem last_bd (k p : Nat) (h1 : 1 ≤ k) (h6 : k ≤ 6) : lastK k p ≤ 32 := by
  unfold lastK
  split
  · omega
  · exact (shr_bd k (p - 1) h1 h6).2.2.2
theorem quo31 (k : Nat) : Int.tdiv 31 (k : Int) = ((31 / k : Nat) : Int) := by
  rw [Int.tdiv_eq_ediv_of_nonneg (by decide)]; rfl
theorem get_small (T : List Int) (h : ∀ z ∈ T, 0 ≤ z ∧ z ≤ 255) (q : Nat) (hq : q < T.length) : ∃ z : Nat, T.getD q 0 = z ∧ z < 256 := by
  have := h (T.getD q 0) (by rw [List.getD_eq_getElem?_getD, List.getElem?_eq_getElem hq]; exact List.getElem_mem _)
  exact ⟨(T.getD q 0).toNat, by omega, by omega⟩
theorem own_cell {w : World} {base g n cv : Nat} {zs : List Int} (h : w.ownsRow base 5 1 (.slice (some ⟨g, 0, none⟩) n cv) n (zs.map (Value.int .u8))) (j : Nat) (hj : j < n) : w.cell? ⟨g, j, none⟩ = some (.int .u8 (zs.getD j 0)) := by
  obtain ⟨hh, hl, _⟩ := owns_has h
  obtain ⟨b, o, he, _, hc⟩ := hh.2 (by intro h0; subst h0; simp at hl; omega)
  simp only [Option.some.injEq, Addr.mk.injEq] at he
  obtain ⟨rfl, rfl, _⟩ := he
  have := hc j (by omega)
  rwa [Nat.zero_add] at this

set_option maxRecDepth 100000 in
set_option maxHeartbeats 3200000 in
theorem spread_any (raw turn : Int) (w : World) (hc : -9223372036854775808 ≤ raw) (hc2 : raw ≤ 9223372036854775807) (ht : -9223372036854775808 ≤ turn) (ht2 : turn ≤ 9223372036854775807) :
    Calls Try.prog 5 #[.int .i64 raw, .int .i64 turn] w fun e w' => e = .returned (.bool true) ∧ Below w.heap.size w w' := by
  obtain ⟨i5, hi, hz5, hz6, hz7⟩ := info_parts info_u8
  go_enter Try.func5, Try.ntmps5
  go_wp2_with fail
  refine (some_any raw w hc hc2).mono ?_
  rintro e w1 ⟨l, v1, rfl, ho1, hnd, h1, h6, hlb, hb1⟩
  obtain ⟨htE, hal⟩ := some_ok l hnd h1 h6 hlb
  have HLB := hide hlb
  have HB1 := hide hb1
  have HAL := hide hal
  obtain ⟨g1, c1, rfl⟩ := (own_shape ho1).resolve_left (by rintro rfl; rcases ho1.2 with ⟨_, h⟩ | ⟨_, _, _, h, _⟩; omega; simp at h)
  have HO1 := hide ho1
  have HT1 := hide (ftable_any (some ⟨g1, 0, none⟩) l.length c1 l w1 rfl (owns_has ho1).1 (by omega) hlb)
  have HTE := hide htE
  have HTF := hide (tbl_facts l hnd h1 h6 hlb)
  have HBK := hide (fun t (ht : t < l.length) => bk_ok l t hnd h1 h6 ht hlb)
  have hz1 : w.heap.size ≤ w1.heap.size := hb1.size
  clear ho1 hnd hlb hb1 hal htE
  obtain ⟨n, hn⟩ : ∃ n, n = l.length := ⟨_, rfl⟩
  have HN := hide hn
  rw [← hn] at h1 h6 HO1 HT1 HAL HTF HBK
  rw [← hn]
  clear hn
  go_wp2_with fail
  refine HT1.out.mono ?_
  rintro e w2 ⟨hb2, h⟩
  obtain ⟨v2, rfl, ho2, hnn2⟩ : ∃ v, e = .returned (.tuple #[v, .int .i64 0]) ∧ w2.ownsRow w1.heap.size 5 1 v 31 ((tbl l).map (Value.int .u8)) ∧ v ≠ .slice none 0 0 := by
    rcases h with ⟨_, h⟩ | ⟨h, _⟩
    · exact h
    · exact absurd HTE.out h
  obtain ⟨g2, c2, rfl⟩ := (own_shape ho2).resolve_left hnn2
  have HO2 := hide ho2
  have HB2 := hide hb2
  have hz2 : w1.heap.size ≤ w2.heap.size := hb2.size
  clear h ho2 hnn2 hb2 HT1
  generalize hT : tbl l = T
  rw [hT] at HO2 HTF HBK
  clear hT
  obtain ⟨t, hpt⟩ : ∃ t : Nat, pk turn n = t := ⟨(pk turn n).toNat, by have := pk_bd turn n (by omega); omega⟩
  have htn : t < n := by have := pk_bd turn n (by omega); omega
  have HPT := hide hpt
  clear hpt
  go_wp2_with fail
  go_loopw [8, 9] (fun v i wr => ∃ k : Nat, k ≤ n ∧ i = .int .i64 k ∧ Hid (wr.ownsRow w2.heap.size 5 1 v k ((bkL l t k).map (Value.int .u8))) ∧ Hid (Below w2.heap.size w2 wr))
    (fun _ i _ => n - (intOf i).toNat)
  case atStart => exact ⟨0, Nat.zero_le _, rfl, World.ownsRow_nil _ _ _ _, Below.refl _ _⟩
  case round =>
    obtain ⟨k, hk, rfl, HO, HB⟩ := hrel
    have hsz : w2.heap.size ≤ wr.heap.size := HB.out.size
    by_cases hlt : k < n
    · have HA := hide (show bkL l t (k + 1) = bkL l t k ++ [l.getD ((l.length - 1 - k + t) % l.length) 0] from rfl)
      rw [← HN.out] at HA
      have hr : ((n : Int) - 1 - (k : Int) + (t : Int)) % (n : Int) = (((n - 1 - k + t) % n : Nat) : Int) := by
        rw [Int.natCast_emod]; congr 1; omega
      have hrn : (n - 1 - k + t) % n < n := Nat.mod_lt _ (by omega)
      have hg1 : g1 < w1.heap.size := (HO1.out.lt g1 rfl).2
      have c0 : wr.cell? ⟨g1, (n - 1 - k + t) % n, none⟩ = some (.int .u8 (l.getD ((n - 1 - k + t) % n) 0)) := by
        rw [HB.out.cell (p := ⟨g1, (n - 1 - k + t) % n, none⟩) (by show g1 < _; omega), HB2.out.cell (p := ⟨g1, (n - 1 - k + t) % n, none⟩) hg1, HO1.out.cellAt _ (by omega), List.getElem?_map, List.getElem?_eq_getElem (by rw [← HN.out]; exact hrn), List.getD_eq_getElem?_getD, List.getElem?_eq_getElem (by rw [← HN.out]; exact hrn)]
        rfl
      generalize l.getD ((n - 1 - k + t) % n) 0 = b at *
      generalize (n - 1 - k + t) % n = r at *
      go_wp2_with fail
      refine (pick_any turn n _ ht ht2 (by omega) (by omega)).mono ?_
      rintro e w3 ⟨rfl, rfl⟩
      rw [HPT.out]
      go_wp2_with (at_builtin; refine wpList_append_own _ rfl (.tmp 32) (.tmp 49) 26 rfl w2.heap.size 5 i5 (.int .u8 0) 1 1 Try.underlying26 hi hz5 hz6 hz7 rfl (by decide) _ _ _ rfl (HO.out.alloc _) ⟨w3.heap.size, 0, none⟩ 1 1 [_] rfl rfl (cell_one_new _ _ _) (by simp [Value.oneCell']) (by unfold maxLen; omega) (by omega) (by simp; omega) ?_)
      intro v5 w5 hown hgrow hiff
      have HO5 := hide hown
      have HB5 : Hid (Below w2.heap.size w2 w5) := (HB.out.alloc hsz _).grown hgrow (by simp; omega) (fun q hq => by have := (HO.out.lt q hq).1; omega)
      clear hown hiff hgrow
      go_wp2
      go_roundw
      case rel => exact ⟨k + 1, by omega, by go_num, by rw [HA.out]; simpa [Hid] using HO5, HB5⟩
      case measure => simp [intOf]; omega
    · obtain rfl : k = n := by omega
      clear hi hz5 hz6 hz7 hlt hk
      obtain ⟨g8, c8, rfl⟩ := (own_shape HO.out).resolve_left (by rintro rfl; rcases HO.out.2 with ⟨_, h⟩ | ⟨_, _, _, h, _⟩; omega; simp at h)
      obtain ⟨htE, htt, hbb⟩ := HBK.out t htn
      have HT8 := hide (ftable_any (some ⟨g8, 0, none⟩) k c8 (bkL l t k) wr (bkL_len _ _ _) (owns_has HO.out).1 (by omega) hbb)
      have HTE8 := hide htE
      have HTT := hide htt
      clear htE htt hbb HBK
      go_wp2_with fail
      refine HT8.out.mono ?_
      rintro e w4 ⟨hb4, h⟩
      obtain ⟨v4, rfl, ho4, hnn4⟩ : ∃ v, e = .returned (.tuple #[v, .int .i64 0]) ∧ w4.ownsRow wr.heap.size 5 1 v 31 (T.map (Value.int .u8)) ∧ v ≠ .slice none 0 0 := by
        rw [HTT.out] at h
        rcases h with ⟨_, h⟩ | ⟨h, _⟩
        · exact h
        · exact absurd HTE8.out h
      obtain ⟨g4, c4, rfl⟩ := (own_shape ho4).resolve_left hnn4
      have HB4 := hide hb4
      have hz4 : wr.heap.size ≤ w4.heap.size := hb4.size
      have HO24 : Hid (w4.ownsRow w1.heap.size 5 1 (.slice (some ⟨g2, 0, none⟩) 31 c2) 31 (T.map (Value.int .u8))) := by
        have hl2 := own_lt HO2.out
        exact own_below HO2.out hl2 (HB.out.trans (HB4.out.mono hsz))
      have hT31 := HTF.out.1
      have hcA := conv_has (w := w4) (owns_has HO24.out).1 c2
      have hcB := conv_has (w := w4) (owns_has ho4).1 c4
      rw [hT31] at hcA hcB
      have HT31 := hide hT31
      clear h ho4 hnn4 hb4 HT8 HTE8 HTT hT31
      generalize strOfNums T = ss at *
      have HG1 : Hid (∀ j, j < k → w4.cell? ⟨g1, j, none⟩ = some (.int .u8 (l.getD j 0))) := fun j hj => by
        have hg1 : g1 < w1.heap.size := (HO1.out.lt g1 rfl).2
        rw [HB4.out.cell (p := ⟨g1, j, none⟩) (by show g1 < _; omega), HB.out.cell (p := ⟨g1, j, none⟩) (by show g1 < _; omega), HB2.out.cell (p := ⟨g1, j, none⟩) hg1]
        exact own_cell HO1.out j hj
      have HG2 : Hid (∀ j, j < 31 → w4.cell? ⟨g2, j, none⟩ = some (.int .u8 (T.getD j 0))) := own_cell HO24.out
      have hg1 : g1 < w4.heap.size := by have := (HO1.out.lt g1 rfl).2; omega
      have hg2 : g2 < w4.heap.size := (HO24.out.lt g2 rfl).2
      have HW4 : Hid (Below w.heap.size w w4) := HB1.out.trans ((HB2.out.mono hz1).trans ((HB.out.mono (by omega)).trans (HB4.out.mono (by omega))))
      have hzw : w.heap.size ≤ w4.heap.size := by omega
      go_wp2_with fail
      clear hcA hcB HO24 HB4 HB HO HO2 HB2 HB1 HPT HO1 hc hc2 ht ht2
      have HCZ := hide (cnt_zero T)
      generalize Try.zeroCells39 = Z0 at HCZ ⊢
      go_loopw [13] (fun i wr => ∃ (q : Nat) (C : Array Value), q ≤ 31 ∧ i = .int .i64 q ∧ Hid (wr.heap[w4.heap.size]? = some (.cells C 39 (0, 0))) ∧ Hid (Cnt C T q) ∧ Hid (Below w4.heap.size w4 wr))
        (fun i _ => 31 - (intOf i).toNat)
      case atStart => exact ⟨0, Z0, by omega, rfl, heap_alloc_new _ _, HCZ.out, (Below.refl _ _).alloc (Nat.le_refl _) _⟩
      case round =>
        obtain ⟨q, C, hq, rfl, HC, HCN, HBR⟩ := hrel
        by_cases hlt : q < 31
        · have hql : q < T.length := by rw [HT31.out]; exact hlt
          obtain ⟨z, hz⟩ := get_small T HTF.out.2.1 q hql
          have hz256 : (z : Int) < 256 := by omega
          have c0 := (HBR.out.cell (p := ⟨g2, q, none⟩) hg2).trans (HG2.out q hlt)
          rw [hz.1] at c0
          have c1 := (arr_cell HC.out z).trans (HCN.out.2 z hz.2)
          have f1 := arr_frozen HC.out z
          have hcl := cnt_le T q z HT31.out
          have HST := hide (cnt_step C T q z HCN.out hql hz.1 hz.2)
          clear hz hql
          generalize (T.take q).count (z : Int) = cn at *
          go_wp2
          go_roundw
          case rel => exact ⟨q + 1, _, by omega, by go_num, row_setCell HC.out _, HST.out, HBR.out.setCell (Nat.le_refl _) _⟩
          case measure => simp [intOf]; omega
        · obtain rfl : q = 31 := by omega
          have HSH : Hid (∀ b : Nat, b < 256 → wr.cell? ⟨w4.heap.size, b, none⟩ = some (.int .i64 (((if (b : Int) ∈ l then shr k (ascK l b).length else 0 : Nat)) : Int))) := fun b hb => by
            rw [arr_cell HC.out b, HCN.out.2 b hb, List.take_of_length_le (by rw [HT31.out]; omega), HTF.out.2.2 b hb]
          have HL1 : Hid (∀ j, j < k → wr.cell? ⟨g1, j, none⟩ = some (.int .u8 (l.getD j 0))) := fun j hj => (HBR.out.cell (p := ⟨g1, j, none⟩) hg1).trans (HG1.out j hj)
          have HWR : Hid (Below w.heap.size w wr) := HW4.out.trans (HBR.out.mono hzw)
          clear HC HCN HBR HW4 HG1 HG2
          have hkl : k = l.length := HN.out
          go_wp2_with fail
          rw [show ((31 : Nat) : Int) = 31 from rfl]
          go_loopw [14, 15, 16] (fun al la bb wq => ∃ (b : Nat), b ≤ 256 ∧ bb = .int .i64 b ∧ al = .int .i64 ((allK k (ascK l b).length : Nat) : Int) ∧ la = .int .i64 ((lastK k (ascK l b).length : Nat) : Int) ∧ ∃ m, wq = wr.drewN m)
            (fun _ _ bb _ => 256 - (intOf bb).toNat)
          case atStart => exact ⟨0, by omega, rfl, rfl, rfl, 0, rfl⟩
          case round =>
            obtain ⟨b, hb, rfl, rfl, rfl, m, rfl⟩ := hrel
            by_cases hlt : b < 256
            · go_wp2_with fail
              go_loopw [17, 18] (fun inn ii wi => ∃ (j : Nat), j ≤ k ∧ ii = .int .i64 j ∧ inn = .bool (inB (l.take j) b) ∧ ∃ m, wi = wr.drewN m)
                (fun _ ii _ => k - (intOf ii).toNat)
              case atStart => exact ⟨0, by omega, rfl, rfl, _, rfl⟩
              case round =>
                obtain ⟨j, hj, rfl, rfl, m', rfl⟩ := hrel
                by_cases hjk : j < k
                · have c0 := HL1.out j hjk
                  have HI := hide (inB_take l j b (by omega))
                  have hzb := HLB.out (l.getD j 0) ((mem_getD l _).2 ⟨j, by omega, rfl⟩)
                  generalize l.getD j 0 = z at *
                  generalize inB (l.take j) b = q at *
                  cases q with
                  | true =>
                    go_wp2
                    go_roundw
                    case rel => exact ⟨j + 1, by omega, by go_num, by rw [HI.out]; rfl, _, rfl⟩
                    case measure => simp [intOf]; omega
                  | false =>
                    go_wp2
                    go_roundw
                    case rel => exact ⟨j + 1, by omega, by go_num, by rw [HI.out]; rfl, _, rfl⟩
                    case measure => simp [intOf]; omega
                · obtain rfl : j = k := by omega
                  have HIA : Hid (inB (l.take j) b = inB l b) := by show _ = _; rw [hkl]; exact inB_all l b
                  rw [HIA.out]
                  have ce := HSH.out b hlt
                  have hb256 : (b : Int) < 256 := by omega
                  cases hin : inB l b with
                  | false =>
                    have hm : ¬ (b : Int) ∈ l := fun h => by rw [(inB_mem l b).2 h] at hin; cases hin
                    have HP1 : Hid (allK j (ascK l (b + 1)).length = allK j (ascK l b).length) := by show _ = _; rw [asc_out l b hin]
                    have HP2 : Hid (lastK j (ascK l (b + 1)).length = lastK j (ascK l b).length) := by show _ = _; rw [asc_out l b hin]
                    rw [if_neg hm] at ce
                    clear hm hin
                    generalize allK j (ascK l b).length = al at *
                    generalize lastK j (ascK l b).length = la at *
                    go_wp2
                    go_roundw
                    case rel => exact ⟨b + 1, by omega, by go_num, by rw [HP1.out], by rw [HP2.out], _, rfl⟩
                    case measure => simp [intOf]; omega
                  | true =>
                    have hm : (b : Int) ∈ l := (inB_mem l b).1 hin
                    rw [if_pos hm] at ce
                    have hs1 := shr_last j (ascK l b).length (by omega)
                    have hs2 := shr_bd j (ascK l b).length (by omega) (by omega)
                    have hs3 := last_bd j (ascK l b).length (by omega) (by omega)
                    have hs4 := quo31 j
                    have hs5 := allK_le j (ascK l b).length (by have := (asc_at l b hlt hm).1; have := HAL.out; omega) (by omega)
                    have hs6 : (ascK l b).length ≤ 6 := by have := (asc_at l b hlt hm).1; have := HAL.out; omega
                    have HP1 : Hid (allK j (ascK l (b + 1)).length = allK j (ascK l b).length + shr j (ascK l b).length) := by show _ = _; rw [asc_in l b hin]; rfl
                    have HP2 : Hid (lastK j (ascK l (b + 1)).length = shr j (ascK l b).length) := by show _ = _; rw [asc_in l b hin]; exact last_succ _ _
                    clear hm hin
                    generalize allK j (ascK l b).length = al at *
                    generalize lastK j (ascK l b).length = la at *
                    generalize shr j (ascK l b).length = sh at *
                    have e5 : 0 < sh := by omega
                    have e4 : (0 : Int) < (sh : Int) := by omega
                    have e6 : decide ((0 : Int) < (sh : Int)) = true := by simp; omega
                    have e1 : ((la : Int) < (sh : Int)) = False := by simp; omega
                    have ea : al ≤ 192 := by omega
                    have eb : sh ≤ 32 := by omega
                    clear HSH HL1 HTF HT31 HAL HN hkl
                    rcases (show j = 1 ∨ j = 2 ∨ j = 3 ∨ j = 4 ∨ j = 5 ∨ j = 6 by omega) with rfl | rfl | rfl | rfl | rfl | rfl
                    · have e2 : ((sh : Int) < 31) = False := by simp; omega
                      have e3 : (32 < (sh : Int)) = False := by simp; omega
                      clear hs1 hs2 hs3 hs4 hs5 hs6
                      go_wp2_with fail
                      go_quiet (fail)
                      go_wp2
                      go_roundw
                      case rel => exact ⟨b + 1, by omega, by go_num, by rw [HP1.out]; simp, by rw [HP2.out], _, rfl⟩
                      case measure => simp [intOf]; omega
                    · have e2 : ((sh : Int) < 15) = False := by simp; omega
                      have e3 : (16 < (sh : Int)) = False := by simp; omega
                      clear hs1 hs2 hs3 hs4 hs5 hs6
                      go_wp2_with fail
                      go_quiet (fail)
                      go_wp2
                      go_roundw
                      case rel => exact ⟨b + 1, by omega, by go_num, by rw [HP1.out]; simp, by rw [HP2.out], _, rfl⟩
                      case measure => simp [intOf]; omega
                    · have e2 : ((sh : Int) < 10) = False := by simp; omega
                      have e3 : (11 < (sh : Int)) = False := by simp; omega
                      clear hs1 hs2 hs3 hs4 hs5 hs6
                      go_wp2_with fail
                      go_quiet (fail)
                      go_wp2
                      go_roundw
                      case rel => exact ⟨b + 1, by omega, by go_num, by rw [HP1.out]; simp, by rw [HP2.out], _, rfl⟩
                      case measure => simp [intOf]; omega
                    · have e2 : ((sh : Int) < 7) = False := by simp; omega
                      have e3 : (8 < (sh : Int)) = False := by simp; omega
                      clear hs1 hs2 hs3 hs4 hs5 hs6
                      go_wp2_with fail
                      go_quiet (fail)
                      go_wp2
                      go_roundw
                      case rel => exact ⟨b + 1, by omega, by go_num, by rw [HP1.out]; simp, by rw [HP2.out], _, rfl⟩
                      case measure => simp [intOf]; omega
                    · have e2 : ((sh : Int) < 6) = False := by simp; omega
                      have e3 : (7 < (sh : Int)) = False := by simp; omega
                      clear hs1 hs2 hs3 hs4 hs5 hs6
                      go_wp2_with fail
                      go_quiet (fail)
                      go_wp2
                      go_roundw
                      case rel => exact ⟨b + 1, by omega, by go_num, by rw [HP1.out]; simp, by rw [HP2.out], _, rfl⟩
                      case measure => simp [intOf]; omega
                    · have e2 : ((sh : Int) < 5) = False := by simp; omega
                      have e3 : (6 < (sh : Int)) = False := by simp; omega
                      clear hs1 hs2 hs3 hs4 hs5 hs6
                      go_wp2_with fail
                      go_quiet (fail)
                      go_wp2
                      go_roundw
                      case rel => exact ⟨b + 1, by omega, by go_num, by rw [HP1.out]; simp, by rw [HP2.out], _, rfl⟩
                      case measure => simp [intOf]; omega
            · obtain rfl : b = 256 := by omega
              have HE : Hid (allK k (ascK l 256).length = 31) := by show _ = _; rw [show (ascK l 256).length = k from HAL.out]; exact all_31 k h1 h6
              rw [HE.out]
              go_wp2
              go_ret
              exact ⟨by simp, below_drew HWR.out _⟩
end Go.Proofs.Ytajphdppmdoalaa
