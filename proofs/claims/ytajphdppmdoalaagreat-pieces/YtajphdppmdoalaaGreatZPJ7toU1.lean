import Derived.Test.YtajphdppmdoalaaGreatZPJ4toE
import Derived.Test.YtajphdppmdoalaaGreatZPJ5toJ6
import Derived.Test.YtajphdppmdoalaaGreatZPHtoLB
import Derived.Deep.OwnRows
namespace Go.Proofs.YtajphdppmdoalaaGreat
open Go.RowKit
set_option linter.unusedVariables false

theorem byte_cell {w : World} {base g n cv : Nat} {zs : List Int} (h : w.ownsRow base 5 1 (.slice (some ⟨g, 0, none⟩) n cv) n (zs.map (Value.int .u8))) (j : Nat) (hj : j < n) : w.cell? ⟨g, j, none⟩ = some (.int .u8 (zs.getD j 0)) := by
  obtain ⟨hh, hl, _⟩ := owns_has h
  obtain ⟨b, o, he, _, hc⟩ := hh.2 (by intro h0; subst h0; simp at hl; omega)
  simp only [Option.some.injEq, Addr.mk.injEq] at he
  obtain ⟨rfl, rfl, _⟩ := he
  have := hc j (by omega)
  rwa [Nat.zero_add] at this
/-- The free slots, as the row. -/
def frA (Z : List (Option Int)) : Array Value := (Z.map (fun o => Value.bool (!o.isSome))).toArray
theorem frA_get (Z : List (Option Int)) (i : Nat) (hi : i < Z.length) : (frA Z)[i]? = some (.bool (!tkd Z i)) := by
  rw [frA, List.getElem?_toArray, List.getElem?_map, List.getElem?_eq_getElem hi, tkd, List.getD_eq_getElem?_getD, List.getElem?_eq_getElem hi]
  rfl
theorem frA_set (Z : List (Option Int)) (i : Nat) (b : Int) : (frA Z).setIfInBounds i (.bool false) = frA (Z.set i (some b)) := by
  rw [frA, frA, List.setIfInBounds_toArray, List.map_set]
  rfl
theorem fr_zero : frA (List.replicate 31 none) = (List.replicate 31 (Value.bool true)).toArray := by rw [frA, List.map_replicate]; rfl
theorem tb_more (zs : List Int) : ∃ TB : Nat → List (Option Int), Hid (tbl zs = (TB 31).map (·.getD 0)) ∧ Hid (TB 0 = List.replicate 31 none) ∧ Hid (∀ k, TB (k + 1) = (TB k).set (slotOf ((asc zs).getD (k % (asc zs).length) 0) (TB k)) (some ((asc zs).getD (k % (asc zs).length) 0))) ∧ Hid (∀ k, (TB k).length = 31) ∧ Hid (∀ k, k < 31 → tkd (TB k) (slotOf ((asc zs).getD (k % (asc zs).length) 0) (TB k)) = false) := by
  refine ⟨tbK (asc zs), hide ?_, hide ?_, hide ?_, hide ?_, hide ?_⟩
  · rw [tbl]
  · rw [tbK]
  · intro k; rw [tbK]
  · exact tbK_len _
  · exact tbK_free _
theorem info_bool : (Tryz.prog.info? 4).map (fun i => (i.zero, i.size, i.bytes)) = some (some (.bool false), 1, 1) := by kernel_rfl
theorem at_eq (ff j ss : Nat) (hff : ff < 31) (hj : j ≤ 30) (hss : ss ≤ 30) : (wrap64 ((ff : Int) + wrap64 ((j : Int) * (ss : Int)))).tmod 31 = (((ff + j * ss) % 31 : Nat) : Int) := by
  have hp : j * ss ≤ 900 := Nat.mul_le_mul hj hss
  obtain ⟨p, hpe⟩ : ∃ p, p = j * ss := ⟨_, rfl⟩
  rw [← Int.natCast_mul, ← hpe]
  rw [← hpe] at hp
  clear hpe
  have e1 : wrap64 (p : Int) = p := by unfold wrap64; omega
  rw [e1]
  have e2 : wrap64 ((ff : Int) + (p : Int)) = ff + p := by unfold wrap64; omega
  rw [e2, Int.tmod_eq_emod_of_nonneg (by omega)]
  omega
theorem wan_here (tk : Nat → Bool) (s n at' : Nat) (h : tk at' = false) : wanF tk s n at' = at' := by
  cases n with
  | zero => rfl
  | succ n => rw [wanF, h]; rfl
theorem at_facts (tk : Nat → Bool) (ff ss j so : Nat) (hff : ff < 31) (hss : ss ≤ 30) (hj : j ≤ 30) (hW : so = wanF tk ss (30 - j) ((ff + j * ss) % 31)) :
    ∃ at' : Nat, at' < 31 ∧ Value.int .i64 ((wrap64 ((ff : Int) + wrap64 ((j : Int) * (ss : Int)))).tmod 31) = Value.int .i64 (at' : Int) ∧ (at' : Int) < 31 ∧ (tk at' = false → so = at') ∧ (tk at' = true → j < 30 → so = wanF tk ss (30 - (j + 1)) ((ff + (j + 1) * ss) % 31)) ∧ (j = 30 → so = at') := by
  have hat : (ff + j * ss) % 31 < 31 := Nat.mod_lt _ (by decide)
  refine ⟨(ff + j * ss) % 31, hat, by rw [at_eq ff j ss hff hj hss], Int.ofNat_lt.2 hat, ?_, ?_, ?_⟩
  · intro h; exact hW.trans (wan_here _ _ _ _ h)
  · intro h1 h2; exact hW.trans (wanF_step _ ff ss j h2 h1)
  · intro h; subst h; exact hW
theorem row_set_true (q : Nat) (C : Array Value) (hs : C.size = 31) (hC : ∀ i, i < q → C[i]? = some (.bool true)) (hq : q < 31) : (C.setIfInBounds q (.bool true)).size = 31 ∧ ∀ i, i < q + 1 → (C.setIfInBounds q (.bool true))[i]? = some (.bool true) := by
  refine ⟨by rw [Array.size_setIfInBounds]; exact hs, ?_⟩
  intro i hi
  rw [Array.getElem?_setIfInBounds]
  by_cases h : q = i
  · rw [if_pos h, if_pos (by omega)]
  · rw [if_neg h]; exact hC i (by omega)
theorem all_true (C : Array Value) (hs : C.size = 31) (hC : ∀ i, i < 31 → C[i]? = some (.bool true)) : C = (List.replicate 31 (Value.bool true)).toArray := by
  apply Array.ext
  · rw [hs, List.size_toArray, List.length_replicate]
  · intro i h1 h2
    have := hC i (by omega)
    rw [Array.getElem?_eq_getElem h1, Option.some.injEq] at this
    rw [this, List.getElem_toArray, List.getElem_replicate]

set_option maxRecDepth 100000 in
set_option maxHeartbeats 800000 in
theorem slots_none (ao : Option Addr) (cap : Nat) (w : World) (hd : Has w ao []) :
    Calls Tryz.prog 70 #[.slice ao 0 cap] w fun e w' => e = .returned (.slice none 0 0) ∧ Below w.heap.size w w' := by
  have H := hide (rising_any ao 0 cap [] w rfl hd (by omega) rfl (by simp))
  rw [(asc_nil [] (by simp)).2 rfl] at H
  go_enter Tryz.func70, Tryz.ntmps70
  go_wp2_with fail
  refine H.out.mono ?_
  rintro e w1 ⟨v, rfl, ho, hb⟩
  have HB := hide hb
  rcases own_shape ho with rfl | ⟨g, cv, rfl⟩
  · clear ho hb H
    go_wp2
    go_ret
    exact ⟨rfl, HB.out⟩
  · clear ho hb H
    go_wp2
    go_ret
    exact ⟨rfl, HB.out⟩

set_option maxRecDepth 100000 in
set_option maxHeartbeats 1600000 in
theorem slots_ok (ao : Option Addr) (n cap : Nat) (zs : List Int) (w : World) (hl : zs.length = n) (hd : Has w ao zs) (h1 : 1 ≤ n) (h6 : n ≤ 6) (hz : ∀ z ∈ zs, 0 ≤ z ∧ z ≤ 255) (hnd : nd zs = true) :
    Calls Tryz.prog 70 #[.slice ao n cap] w fun e w' => ∃ v, e = .returned v ∧ w'.ownsRow w.heap.size 5 1 v 31 ((tbl zs).map (Value.int .u8)) ∧ v ≠ .slice none 0 0 ∧ Below w.heap.size w w' := by
  have H := hide (rising_any ao n cap zs w hl hd h6 hnd hz)
  have hal : (asc zs).length = n := by rw [← hl]; exact (asc_len zs hz).2.2 hnd
  rw [hal] at H
  obtain ⟨TB, HT, H0, HS, HLN, HFR⟩ := tb_more zs
  have HOB : Hid (∀ b ∈ asc zs, 0 ≤ b ∧ b < 256) := ascK_bd zs 256
  have HL := hide hal
  generalize hord : asc zs = ord
  rw [hord] at H HS HOB HL HFR
  rw [HL.out] at HS HFR
  generalize hTT : tbl zs = TT
  rw [hTT] at HT
  clear hTT hd hl hz hord hnd hal
  go_enter Tryz.func70, Tryz.ntmps70
  go_wp2_with fail
  refine H.out.mono ?_
  rintro e w1 ⟨v, rfl, ho, hb⟩
  obtain ⟨g, cv, rfl⟩ := (own_shape ho).resolve_left (by rintro rfl; rcases ho.2 with ⟨_, h⟩ | ⟨_, _, _, h, _⟩; omega; simp at h)
  have HO := hide ho
  have HB := hide hb
  have hz1 : w.heap.size ≤ w1.heap.size := hb.size
  clear ho hb H
  have hmk : ∀ w1, (Instr.makeSlice 38 (.int .i64 31) (.int .i64 31)).run Tryz.prog w1 = .ok (.slice (some ⟨w1.heap.size, 0, none⟩) 31 31) (w1.alloc (.cells (tbA (TB 0)) 5)) := by
    intro w1
    have h := run_make_row' (P := Tryz.prog) 38 5 (.int .u8 0) 1 Tryz.underlying38 info_u8 rfl .i64 .i64 31 (by omega) (by omega) w1
    rw [made_tb, ← H0.out] at h
    exact h
  obtain ⟨Z0, hZ0⟩ : ∃ Z0, Z0 = madeCells #[.bool false] 31 := ⟨_, rfl⟩
  have HZ0 : Hid (Z0.size = 31) := by show _ = _; rw [hZ0, size_madeCells]
  have hmb : ∀ w1, (Instr.makeSlice 139 (.int .i64 31) (.int .i64 31)).run Tryz.prog w1 = .ok (.slice (some ⟨w1.heap.size, 0, none⟩) 31 31) (w1.alloc (.cells Z0 4)) := by
    intro w1
    have h := run_make_row' (P := Tryz.prog) 139 4 (.bool false) 1 Tryz.underlying139 info_bool rfl .i64 .i64 31 (by omega) (by omega) w1
    rw [← hZ0] at h
    exact h
  clear hZ0
  go_wp2_with fail
  generalize Value.bool ((n : Int) == 0) = x18
  have HST : Hid ((w1.alloc (.cells (tbA (TB 0)) 5)).heap[w1.heap.size]? = some (.cells (tbA (TB 0)) 5 (0, 0))) := heap_alloc_new _ _
  go_loopw [6] (fun i wr => ∃ (q : Nat) (C : Array Value), q ≤ 31 ∧ i = .int .i64 q ∧ Hid (wr.heap[w1.heap.size + 1]? = some (.cells C 4 (0, 0))) ∧ Hid (C.size = 31 ∧ ∀ i, i < q → C[i]? = some (.bool true)) ∧ Hid (Below (w1.heap.size + 1) (w1.alloc (.cells (tbA (TB 0)) 5)) wr))
    (fun i _ => 31 - (intOf i).toNat)
  case atStart =>
    refine ⟨0, Z0, by omega, rfl, hide ?_, ⟨HZ0.out, fun i hi => by omega⟩, (Below.refl _ _).alloc (by simp) _⟩
    have h := heap_alloc_new (w1.alloc (.cells (tbA (TB 0)) 5)) (.cells Z0 4)
    rw [World.size_alloc] at h
    exact h
  case round =>
    obtain ⟨q, C, hq, rfl, HC, HCT, HBR⟩ := hrel
    clear hmk hmb
    by_cases hlt : q < 31
    · obtain ⟨o1, co1⟩ := arr_some HC.out (j := q) (by rw [HCT.out.1]; exact hlt)
      have f1 := arr_frozen HC.out q
      have HN := hide (row_set_true q C HCT.out.1 HCT.out.2 hlt)
      go_wp2
      go_roundw
      case rel => exact ⟨q + 1, _, by omega, by go_num, row_setCell HC.out _, HN.out, HBR.out.setCell (by simp) _⟩
      case measure => simp [intOf]; omega
    · obtain rfl : q = 31 := by omega
      have HCE : Hid (C = frA (TB 0)) := by show _ = _; rw [H0.out, fr_zero]; exact all_true C HCT.out.1 HCT.out.2
      rw [HCE.out] at HC
      have HA : Hid (wr.heap[w1.heap.size]? = some (.cells (tbA (TB 0)) 5 (0, 0))) := (HBR.out.block _ (by omega)).trans HST.out
      have HR : Hid (Below w1.heap.size w1 wr) := below_old HBR.out
      clear HCT HBR HCE HST
      go_wp2_with fail
      rw [show ((31 : Nat) : Int) = 31 from rfl]
      go_loopw [7] (fun i wq => ∃ k : Nat, k ≤ 31 ∧ i = .int .i64 k ∧ Hid (wq.heap[w1.heap.size]? = some (.cells (tbA (TB k)) 5 (0, 0))) ∧ Hid (wq.heap[w1.heap.size + 1]? = some (.cells (frA (TB k)) 4 (0, 0))) ∧ Hid (Below w1.heap.size w1 wq))
        (fun i _ => 31 - (intOf i).toNat)
      case atStart => exact ⟨0, by omega, rfl, HA.out, HC.out, HR.out⟩
      case round =>
        clear HA HC HR
        obtain ⟨k, hk, rfl, HA, HC, HR⟩ := hrel
        have hza : w1.heap.size < wr.heap.size := lt_of_block HA.out
        have hzc : w1.heap.size + 1 < wr.heap.size := lt_of_block HC.out
        by_cases hlt : k < 31
        · have hr : (k : Int) % (n : Int) = ((k % n : Nat) : Int) := by omega
          have hrn : k % n < n := Nat.mod_lt _ (by omega)
          have hgl : g < w1.heap.size := (HO.out.lt g rfl).2
          have c0 : wr.cell? ⟨g, k % n, none⟩ = some (.int .u8 (ord.getD (k % n) 0)) := (HR.out.cell (p := ⟨g, k % n, none⟩) hgl).trans (byte_cell HO.out _ hrn)
          have hbb : 0 ≤ ord.getD (k % n) 0 ∧ ord.getD (k % n) 0 < 256 := HOB.out _ (by rw [List.getD_eq_getElem?_getD, List.getElem?_eq_getElem (by rw [HL.out]; exact hrn)]; exact List.getElem_mem _)
          have HS1 := hide (HS.out k)
          have HF1 := hide (HFR.out k hlt)
          generalize ord.getD (k % n) 0 = b at *
          generalize k % n = r at *
          have hb0 := hbb.1
          have hb1 : b ≤ 255 := by omega
          have HSL := hide (show slotOf b (TB k) = wanF (tkd (TB k)) (sB b) 30 (fB b) from rfl)
          have HF := hide (show fB b = (hsh [b, 0]).toNat % 31 from rfl)
          have HSS := hide (show sB b = (hsh [b, 1]).toNat % 30 + 1 from rfl)
          have b1 := hsh_bd [b, 0]
          have b2 := hsh_bd [b, 1]
          have H1 := hide (fun (w : World) => rhash_any (some ⟨w.heap.size, 0, none⟩) 2 2 [b, 0] (w.alloc (.cells #[.int .u8 b, .int .u8 0] 5)) rfl (has_two w b 0 _) (by decide) (by intro z hz; simp at hz; omega))
          have H2 := hide (fun (w : World) => rhash_any (some ⟨w.heap.size, 0, none⟩) 2 2 [b, 1] (w.alloc (.cells #[.int .u8 b, .int .u8 1] 5)) rfl (has_two w b 1 _) (by decide) (by intro z hz; simp at hz; omega))
          generalize hsh [b, 0] = f at *
          generalize hsh [b, 1] = s at *
          generalize slotOf b (TB k) = so at *
          generalize fB b = ff at *
          generalize sB b = ss at *
          have hff : ff < 31 := by have := HF.out; omega
          have hss : 1 ≤ ss ∧ ss ≤ 30 := by have := HSS.out; omega
          have e9 : f % 31 = (ff : Int) := by have := HF.out; omega
          have e11 : s % 30 + 1 = (ss : Int) := by have := HSS.out; omega
          go_wp2_with fail
          refine (H1.out wr).mono ?_
          rintro e w3 ⟨rfl, m1, rfl⟩
          clear H1
          have HB3 : Hid (Below wr.heap.size wr ((wr.alloc (.cells #[.int .u8 b, .int .u8 0] 5)).drewN m1)) := below_drew ((Below.refl _ _).alloc (Nat.le_refl _) _) m1
          have hz3 : wr.heap.size ≤ ((wr.alloc (.cells #[.int .u8 b, .int .u8 0] 5)).drewN m1).heap.size := by simp
          generalize hW3 : ((wr.alloc (.cells #[.int .u8 b, .int .u8 0] 5)).drewN m1) = w3
          rw [hW3] at HB3 hz3
          clear hW3
          go_wp2_with fail
          refine (H2.out w3).mono ?_
          rintro e w4 ⟨rfl, m2, rfl⟩
          clear H2
          have HB4 : Hid (Below wr.heap.size wr ((w3.alloc (.cells #[.int .u8 b, .int .u8 1] 5)).drewN m2)) := below_drew (HB3.out.alloc hz3 _) m2
          have hz4 : wr.heap.size ≤ ((w3.alloc (.cells #[.int .u8 b, .int .u8 1] 5)).drewN m2).heap.size := by simp; omega
          generalize hW4 : ((w3.alloc (.cells #[.int .u8 b, .int .u8 1] 5)).drewN m2) = w4
          rw [hW4] at HB4 hz4
          clear hW4 HB3 hz3
          have hA4 : w4.heap[w1.heap.size]? = some (.cells (tbA (TB k)) 5 (0, 0)) := (HB4.out.block _ hza).trans HA.out
          have hC4 : w4.heap[w1.heap.size + 1]? = some (.cells (frA (TB k)) 4 (0, 0)) := (HB4.out.block _ hzc).trans HC.out
          have HA4 := hide hA4
          have HC4 := hide hC4
          have fa := arr_frozen hA4
          have fc := arr_frozen hC4
          have HCO : Hid (∀ i, i < 31 → ∃ o, w4.cell? ⟨w1.heap.size, i, none⟩ = some o) := fun i hi => arr_some hA4 (by rw [tbA_size, HLN.out]; exact hi)
          have HCF : Hid (∀ i, i < 31 → w4.cell? ⟨w1.heap.size + 1, i, none⟩ = some (.bool (!tkd (TB k) i))) := fun i hi => (arr_cell hC4 i).trans (frA_get _ i (by rw [HLN.out]; exact hi))
          have HR4 : Hid (Below w1.heap.size w1 w4) := HR.out.trans (HB4.out.mono (by omega))
          clear hA4 hC4 c0 HA HC HR HB4 hza hzc hz4
          go_wp2_with fail
          clear b1 b2 e9 e11 HF HSS hbb hb0 hb1 hr hrn hgl
          have HFF := hide hff
          have HS30 := hide hss
          clear hff hss
          go_loopw [12] (fun i wi => ∃ j : Nat, j ≤ 30 ∧ i = .int .i64 j ∧ Hid (so = wanF (tkd (TB k)) ss (30 - j) ((ff + j * ss) % 31)) ∧ wi = w4)
            (fun i _ => 31 - (intOf i).toNat)
          case atStart => exact ⟨0, by omega, rfl, by rw [Nat.zero_mul, Nat.add_zero, Nat.mod_eq_of_lt HFF.out]; exact HSL, rfl⟩
          case round =>
            obtain ⟨j, hj, rfl, HW, rfl⟩ := hrel
            obtain ⟨at', hat, ev, hat2, hw0, hws, hwe⟩ := at_facts (tkd (TB k)) ff ss j so HFF.out HS30.out.2 hj HW.out
            have HW0 := hide hw0
            have HWS := hide hws
            have HWE := hide hwe
            clear hw0 hws hwe HW
            have cf := HCF.out at' hat
            obtain ⟨o1, co⟩ := HCO.out at' hat
            cases htk : tkd (TB k) at' with
            | false =>
              rw [htk] at cf
              have HE := hide (HW0.out htk)
              clear htk HWS HW0 HWE
              go_wp2
              go_roundw
              case rel =>
                refine ⟨k + 1, by omega, by go_num, hide ?_, hide ?_, hide ?_⟩
                · rw [HS1.out, HE.out, ← tbA_set]
                  exact row_setCell ((Below.heap_setCell _ _ _ _ (by simp)).trans HA4.out) _
                · rw [HS1.out, HE.out, ← frA_set]
                  exact (Below.heap_setCell _ _ _ _ (by simp)).trans (row_setCell HC4.out _)
                · exact (HR4.out.setCell (by simp) _).setCell (Nat.le_refl _) _
              case measure => simp [intOf]; omega
            | true =>
              rw [htk] at cf
              have hj30 : j < 30 := by
                by_cases h : j = 30
                · exfalso
                  have h2 := HF1.out
                  rw [HWE.out h, htk] at h2
                  exact absurd h2 (by decide)
                · omega
              have HE := hide (HWS.out htk hj30)
              clear htk HWS HW0 HWE
              go_wp2
              go_roundw
              case rel => exact ⟨j + 1, by omega, by go_num, HE, by trivial⟩
              case measure => simp [intOf]; omega
        · obtain rfl : k = 31 := by omega
          have HW : Hid (Below w.heap.size w wr) := HB.out.trans (HR.out.mono hz1)
          have HLN31 := hide (HLN.out 31)
          go_wp2
          go_ret
          refine ⟨_, rfl, ?_, by simp, HW.out⟩
          refine ⟨by simp [HT.out, HLN31.out], .inr ⟨w1.heap.size, 31, tbA (TB 31), rfl, hz1, HA.out, by omega, by decide, by rw [tbA_size, HLN31.out], ?_⟩⟩
          rw [HT.out, tbA]
          rw [List.toList_toArray, List.map_map, List.take_of_length_le (by rw [List.length_map, HLN31.out]; omega)]
          rfl

end Go.Proofs.YtajphdppmdoalaaGreat

namespace Go.Proofs.YtajphdppmdoalaaGreat
open Go.RowKit
set_option linter.unusedVariables false

theorem alB_tE (zs : List Int) (hz : ∀ z ∈ zs, 0 ≤ z ∧ z ≤ 255) : (alB zs = false → tE zs = 1) ∧ (alB zs = true → nd zs = true ∧ zs.length ≤ 6 ∧ tE zs = if zs.length = 0 then 7 else 0) := by
  have h := asc_len zs hz
  constructor
  · intro ha
    rw [tE, if_pos]
    by_cases h6 : 6 < zs.length
    · exact .inl h6
    · right
      rw [alB, Bool.and_eq_false_iff] at ha
      rcases ha with ha | ha
      · have hne : ¬ (asc zs).length = zs.length := fun he => by rw [h.2.1 he] at ha; cases ha
        omega
      · exfalso
        have := of_decide_eq_false ha
        omega
  · intro ha
    rw [alB, Bool.and_eq_true] at ha
    have h6 := of_decide_eq_true ha.2
    have he := h.2.2 ha.1
    exact ⟨ha.1, h6, by rw [tE, if_neg (by omega)]⟩

end Go.Proofs.YtajphdppmdoalaaGreat

namespace Go.Proofs.YtajphdppmdoalaaGreat
open Go.RowKit

end Go.Proofs.YtajphdppmdoalaaGreat

namespace Go.Proofs.YtajphdppmdoalaaGreat
open Go.RowKit
set_option linter.unusedVariables false

theorem grown_trans {a b c : World} {r : Option Nat} (h : a.grownBy b r) (k : b.grownBy c r) : a.grownBy c r :=
  ⟨k.os.trans h.os, k.tape.trans h.tape, k.output.trans h.output, Nat.le_trans h.size k.size, fun i hi hne => (k.block i (Nat.lt_of_lt_of_le hi h.size) hne).trans (h.block i hi hne)⟩
end Go.Proofs.YtajphdppmdoalaaGreat

namespace Go.Proofs.YtajphdppmdoalaaGreat
open Go.RowKit
set_option linter.unusedVariables false

end Go.Proofs.YtajphdppmdoalaaGreat

namespace Go.Proofs.YtajphdppmdoalaaGreat
open Go.RowKit
set_option linter.unusedVariables false

end Go.Proofs.YtajphdppmdoalaaGreat

namespace Go.Proofs.YtajphdppmdoalaaGreat
open Go.RowKit
set_option linter.unusedVariables false

theorem made_size (z : Value) (n : Nat) : (madeCells #[z] n).size = n := by simp [madeCells]
/-- 'copy(all, b)' where all is new and longer than b. -/
theorem given_copy (ao : Option Addr) (n cap : Nat) (zs : List Int) (Z : Array Value) (w : World) (hl : zs.length = n) (hd : Has w ao zs) (hZ : Z.size = n + 8) :
    ∃ C : Array Value, Sem.run Tryz.prog (Builtin.copy_ #[38, 38] 3 #[.slice (some ⟨w.heap.size, 0, none⟩) (n + 8) (n + 8), .slice ao n cap]) (w.alloc (.cells Z 5)) = .ok (goInt n) (w.alloc (.cells C 5)) ∧ C.size = n + 8 ∧ ∀ j, j < n → C[j]? = some (.int .u8 (zs.getD j 0)) := by
  by_cases hn : n = 0
  · subst hn
    refine ⟨Z, ?_, hZ, by intro j hj; omega⟩
    exact run_copy_none (P := Tryz.prog) _ 38 38 3 5 _ _ _ _ _ _ Tryz.underlying38 (by kernel_rfl) (by simp)
  · obtain ⟨b, o, rfl, hlt, hc⟩ := hd.2 (by intro h; subst h; simp at hl; omega)
    refine ⟨((zs.map (Value.int .u8)) ++ Z.toList.drop n).toArray, ?_, by simp [hl, hZ], ?_⟩
    · have h := run_copy_row (P := Tryz.prog) (w.alloc (.cells Z 5)) 38 38 3 5 w.heap.size 0 (n + 8) (n + 8) ⟨b, o, none⟩ n cap Z 5 (zs.map (Value.int .u8)) Tryz.underlying38 (by kernel_rfl) (heap_alloc_new _ _) (by simp [hl]) ?_ (by simp [hl, hZ]) (ints_oneCell _ _)
      · rw [h, alloc_setRow]
        simp [hl]
      · exact Has.cells (hd.below ((Below.refl _ _).alloc (Nat.le_refl _) _))
    · intro j hj
      rw [List.getElem?_toArray, List.getElem?_append_left (by simp [hl]; exact hj), List.getElem?_map, List.getElem?_eq_getElem (by omega), List.getD_eq_getElem?_getD, List.getElem?_eq_getElem (by omega)]
      rfl

set_option maxRecDepth 100000 in
set_option maxHeartbeats 800000 in
theorem given_any (ao : Option Addr) (n cap : Nat) (zs : List Int) (w : World) (hl : zs.length = n) (hd : Has w ao zs) (hn : n ≤ 140737488351232) :
    Calls Tryz.prog 26 #[.slice ao n cap] w fun e w' => e = .returned (.slice (some ⟨w.heap.size, 0, none⟩) (n + 8) (n + 8)) ∧ ∃ C : Array Value, w' = w.alloc (.cells C 5) ∧ C.size = n + 8 ∧ (∀ j, j < n → C[j]? = some (.int .u8 (zs.getD j 0))) ∧ ∀ j, n ≤ j → j < n + 8 → C[j]? = some (.int .u8 77) := by
  obtain ⟨C0, hcp, hs0, hp0⟩ := given_copy ao n cap zs (madeCells #[.int .u8 0] (n + 8)) w hl hd (made_size _ _)
  have hmk := run_make_row' (P := Tryz.prog) 38 5 (.int .u8 0) 1 Tryz.underlying38 Tryz.info5 rfl .i64 .i64 (n + 8) (by omega) (by omega)
  rw [show ((n + 8 : Nat) : Int) = (n : Int) + 8 from by omega] at hmk
  generalize madeCells #[.int .u8 0] (n + 8) = Z at *
  have HS0 := hide hs0
  have HP0 := hide hp0
  clear hs0 hp0 hd hl
  go_enter Tryz.func26, Tryz.ntmps26
  go_wp2_with fail
  go_loopw [4] (fun i wr => ∃ (q : Nat) (C : Array Value), q ≤ 8 ∧ i = .int .i64 ((n : Int) + q) ∧ wr = w.alloc (.cells C 5) ∧ Hid (C.size = n + 8 ∧ (∀ j, j < n → C[j]? = some (.int .u8 (zs.getD j 0))) ∧ ∀ j, n ≤ j → j < n + q → C[j]? = some (.int .u8 77)))
    (fun i _ => n + 8 - (intOf i).toNat)
  case atStart => exact ⟨0, C0, by omega, by simp, rfl, HS0.out, HP0.out, fun j h1 h2 => by omega⟩
  case round =>
    obtain ⟨q, C, hq, rfl, rfl, HC⟩ := hrel
    clear hcp hmk
    by_cases hlt : q < 8
    · have hcell : C[n + q]? = some (C[n + q]'(by have := HC.out.1; omega)) := Array.getElem?_eq_getElem (by have := HC.out.1; omega)
      generalize C[n + q]'(by have := HC.out.1; omega) = old at hcell
      go_wp2
      go_roundw
      case rel =>
        refine ⟨q + 1, C.setIfInBounds (n + q) (.int .u8 77), by omega, by go_num, rfl, ?_, ?_, ?_⟩
        · rw [Array.size_setIfInBounds]; exact HC.out.1
        · intro j hj
          rw [Array.getElem?_setIfInBounds, if_neg (by omega)]
          exact HC.out.2.1 j hj
        · intro j h1 h2
          rw [Array.getElem?_setIfInBounds]
          by_cases he : n + q = j
          · rw [if_pos he, if_pos (by have := HC.out.1; omega)]
          · rw [if_neg he]; exact HC.out.2.2 j h1 (by omega)
      case measure => simp [intOf]; omega
    · obtain rfl : q = 8 := by omega
      go_wp2
      go_ret
      exact ⟨rfl, C, rfl, HC.out⟩

end Go.Proofs.YtajphdppmdoalaaGreat

namespace Go.Proofs.YtajphdppmdoalaaGreat
open Go.RowKit
set_option linter.unusedVariables false

theorem grown_drewN {a b : World} {r : Option Nat} (h : a.grownBy b r) (m : Nat) : a.grownBy (b.drewN m) r := grown_trans h ⟨rfl, rfl, rfl, Nat.le_refl _, fun _ _ _ => rfl⟩
theorem grown_set {w : World} {g j : Nat} {x : Value} : w.grownBy (w.setCell ⟨g, j, none⟩ x) (some g) :=
  ⟨rfl, rfl, rfl, by simp, fun k hk hne => Below.heap_setCell _ _ _ _ (by intro h; exact hne (by simp [h]))⟩

set_option maxRecDepth 100000 in
set_option maxHeartbeats 1600000 in
theorem clean_any (ga : Nat) (ao : Option Addr) (n cap : Nat) (zs : List Int) (C : Array Value) (w : World) (hl : zs.length = n) (hd : Has w ao zs) (hn : n ≤ 140737488351232) (hlt0 : ∀ b, ao = some b → zs ≠ [] → b.block < ga)
    (hga : w.heap[ga]? = some (.cells C 5 (0, 0))) (hs : C.size = n + 8) (hp : ∀ j, j < n → C[j]? = some (.int .u8 (zs.getD j 0))) (hq : ∀ j, n ≤ j → j < n + 8 → C[j]? = some (.int .u8 77)) :
    Calls Tryz.prog 29 #[.slice (some ⟨ga, 0, none⟩) (n + 8) (n + 8), .slice ao n cap] w fun e w' => e = .returned (.bool true) ∧ w.grownBy w' (some ga) := by
  have HF := hide (And.intro hl (And.intro hd (And.intro hlt0 (And.intro hs (And.intro hp hq)))))
  have HGA := hide hga
  clear hl hd hlt0 hga hs hp hq
  go_enter Tryz.func29, Tryz.ntmps29
  go_wp2_with fail
  go_loopw [5, 6] (fun s i wr => ∃ (q : Nat) (C' : Array Value), q ≤ n + 8 ∧ i = .int .i64 q ∧ s = .bool true ∧ Hid (wr.heap[ga]? = some (.cells C' 5 (0, 0))) ∧ Hid (C'.size = n + 8 ∧ ∀ j, q ≤ j → C'[j]? = C[j]?) ∧ Hid (w.grownBy wr (some ga)))
    (fun _ i _ => n + 8 - (intOf i).toNat)
  case atStart => exact ⟨0, C, by omega, rfl, rfl, HGA.out, ⟨HF.out.2.2.2.1, fun _ _ => rfl⟩, World.grownBy.refl _ _⟩
  case round =>
    obtain ⟨q, C', hq, rfl, rfl, HG, HC, HW⟩ := hrel
    by_cases hlt : q < n + 8
    · have rel : ∀ (x : Value) (m : Nat), ∃ (q' : Nat) (C'' : Array Value), q' ≤ n + 8 ∧ Value.int .i64 ((q : Int) + 1) = .int .i64 q' ∧ Value.bool true = .bool true ∧ Hid (((wr.setCell ⟨ga, q, none⟩ (.int .u8 99)).drewN m).heap[ga]? = some (.cells C'' 5 (0, 0))) ∧ Hid (C''.size = n + 8 ∧ ∀ j, q' ≤ j → C''[j]? = C[j]?) ∧ Hid (w.grownBy ((wr.setCell ⟨ga, q, none⟩ (.int .u8 99)).drewN m) (some ga)) := by
        intro x m
        refine ⟨q + 1, C'.setIfInBounds q (.int .u8 99), by omega, by go_num, rfl, row_setCell HG.out _, ⟨?_, ?_⟩, grown_drewN (grown_trans HW.out grown_set) m⟩
        · rw [Array.size_setIfInBounds]; exact HC.out.1
        · intro j hj
          rw [Array.getElem?_setIfInBounds, if_neg (by omega)]
          exact HC.out.2 j (by omega)
      have REL := hide rel
      clear rel
      have f0 := arr_frozen HG.out q
      by_cases hqn : q < n
      · have c0 : wr.cell? ⟨ga, q, none⟩ = some (.int .u8 (zs.getD q 0)) := by rw [arr_cell HG.out, HC.out.2 q (Nat.le_refl _)]; exact HF.out.2.2.2.2.1 q hqn
        obtain ⟨hl, hd, hlt0, _⟩ := HF.out
        obtain ⟨b, o, rfl, hbz, hbc⟩ := hd.2 (by intro h; subst h; simp at hl; omega)
        have hbg : b < ga := hlt0 _ rfl (by intro h; subst h; simp at hl; omega)
        have c1 : wr.cell? ⟨b, o + q, none⟩ = some (.int .u8 (zs.getD q 0)) := HW.out.cell (hbc q (by omega)) (by simp; omega)
        generalize zs.getD q 0 = z at c0 c1
        have i1 : (q : Int) < (n : Int) := by omega
        have i2 : (q : Int) < (n : Int) + 8 := by omega
        clear hd hlt0 hbc hl
        go_wp2_with fail
        go_quiet (fail)
        go_wp2
        go_roundw
        case rel =>
          obtain ⟨q', C'', h1, h2, _, h3, h4, h5⟩ := REL.out (.int .u8 0) nq
          exact ⟨q', C'', h1, h2, rfl, h3, h4, h5⟩
        case measure => simp [intOf]; omega
      · have c0 : wr.cell? ⟨ga, q, none⟩ = some (.int .u8 77) := by rw [arr_cell HG.out, HC.out.2 q (Nat.le_refl _)]; exact HF.out.2.2.2.2.2 q (by omega) hlt
        go_wp2
        go_roundw
        case rel =>
          obtain ⟨q', C'', h1, h2, _, h3, h4, h5⟩ := REL.out (.int .u8 0) 0
          exact ⟨q', C'', h1, h2, rfl, h3, h4, h5⟩
        case measure => simp [intOf]; omega
    · go_wp2
      go_ret
      exact ⟨rfl, HW.out⟩

end Go.Proofs.YtajphdppmdoalaaGreat

namespace Go.Proofs.YtajphdppmdoalaaGreat
open Go.RowKit
set_option linter.unusedVariables false

set_option maxHeartbeats 800000 in
theorem formed_any (src dst proto id off : Int) (more : Bool) (sport dport : Int) (ao : Option Addr) (n cap : Nat) (w : World) (hoff0 : 0 ≤ off) (hn : n ≤ maxLen) :
    Calls Tryz.prog 61 #[.agg #[.int .u16 src, .int .u16 dst, .int .u8 proto, .int .u16 id, .int .u8 off, .bool more, .int .u16 sport, .int .u16 dport, .slice ao n cap]] w fun e w' => e = .returned (.bool (wfB off more sport dport n)) ∧ ∃ o, w' = w.alloc o := by
  unfold maxLen at hn
  go_enter Tryz.func61, Tryz.ntmps61
  go_wp2
  all_goals
    go_ret
    refine ⟨ret_bool ?_, _, rfl⟩
    go_light
    simp_all [wfB]
    try first | omega | (rw [Bool.eq_iff_iff]; simp; omega) | (intros; omega)

theorem two_any (n : Int) (w : World) (h0 : 0 ≤ n) (h : n ≤ 65535) :
    Calls Tryz.prog 62 #[.int .i64 n] w fun e w' => e = .returned (.slice (some ⟨w.heap.size, 0, none⟩) 2 2) ∧ w' = w.alloc (.cells #[.int .u8 (n / 256), .int .u8 (n % 256)] 5) := by
  go_enter Tryz.func62, Tryz.ntmps62
  go_wp2
  go_ret
  exact ⟨rfl, rfl⟩

set_option maxHeartbeats 800000 in
theorem number_any (g o n cap at' : Nat) (x y : Int) (w : World) (hx : 0 ≤ x ∧ x ≤ 255) (hy : 0 ≤ y ∧ y ≤ 255) (hat : at' + 1 < n) (hn : n ≤ 9223372036854775807)
    (c0 : w.cell? ⟨g, o + at', none⟩ = some (.int .u8 x)) (c1 : w.cell? ⟨g, o + (at' + 1), none⟩ = some (.int .u8 y)) :
    Calls Tryz.prog 65 #[.slice (some ⟨g, o, none⟩) n cap, .int .i64 at'] w fun e w' => e = .returned (.int .i64 (x * 256 + y)) ∧ ∃ m, w' = w.drewN m := by
  have i1 : (at' : Int) < (n : Int) := by omega
  have i2 : (at' : Int) + 1 < (n : Int) := by omega
  go_enter Tryz.func65, Tryz.ntmps65
  go_wp2_with fail
  go_quiet (fail)
  go_wp2
  go_ret
  exact ⟨ret_int (by omega), _, rfl⟩

end Go.Proofs.YtajphdppmdoalaaGreat
