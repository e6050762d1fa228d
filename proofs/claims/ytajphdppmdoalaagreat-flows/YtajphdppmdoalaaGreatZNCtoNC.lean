import Derived.Test.YtajphdppmdoalaaGreatZMDtoND
import Derived.BigQuiet
import Derived.Deep.RegionHeld3
namespace Go.Proofs.YtajphdppmdoalaaGreat
open Go.RowKit
set_option linter.unusedVariables false

set_option maxRecDepth 100000 in
set_option maxHeartbeats 3200000 in
theorem clashes_any (g o : Nat) (l : List Pc) (sv : Value) (p : Pk) (w : World) (hg : g < w.heap.size) (c5 : w.cell? ⟨g, o + 5, none⟩ = some sv) (c6 : w.cell? ⟨g, o + 6, none⟩ = some (.bool (endO l).isSome)) (c7 : w.cell? ⟨g, o + 7, none⟩ = some (.int .i64 ((endO l).getD 0)))
    (hS : w.ownsRow 0 165 2 sv l.length (l.flatMap Pc.span)) (hb : PcB l) (ho0 : 0 ≤ p.off) (ho1 : p.off ≤ 255) (hd : p.dlen ≤ 1000) :
    Calls Tryz.prog 111 #[.pointer (some ⟨g, o, none⟩), p.pc] w fun e w' => e = .returned (.bool ((endO l).isSome && (!p.more || decide ((endO l).getD 0 < p.off * 4 + p.dlen)) || l.any (barS (p.off * 4) (p.off * 4 + p.dlen) (!p.more)))) ∧ Below w.heap.size w w' := by
  obtain ⟨ao, cap, rfl⟩ := own_slice hS
  have HP := hide hS
  have HQ := hide hb
  have hl : l.length ≤ 1000 := hb.1
  have HBY := hide (fun w => pbytes_any p w ho0 ho1 hd)
  have HLA := hide (fun w => plast_eq p w)
  have HME := hide (fun a b c d w => pmeets_any a b c d w)
  clear hS hb
  obtain ⟨src, dst, proto, id, off, more, sport, dport, n⟩ := p
  unfold Pk.pc at *
  unfold Pk.box at HLA
  simp only at *
  have hbA : 0 ≤ off * 4 ∧ off * 4 ≤ 1020 ∧ 0 ≤ off * 4 + (n : Int) ∧ off * 4 + (n : Int) ≤ 2020 := by omega
  generalize off * 4 + (n : Int) = B at *
  generalize off * 4 = A at *
  clear ho0 ho1 hd
  generalize hX : w.heap.size = X at *
  go_enter Tryz.func111, Tryz.ntmps111
  go_wp2_with fail
  refine (HBY.out _).mono ?_
  rintro e w1 ⟨rfl, hb1⟩
  have HB1 : Hid (Below (w.heap.size + 1) (w.alloc (.cells #[.int .u16 src, .int .u16 dst, .int .u8 proto, .int .u16 id, .int .u8 off, .bool more, .int .u16 sport, .int .u16 dport, .slice none 0 0, .int .i64 n] 112)) w1) := hb1.mono (by simp)
  have hz1 : w.heap.size + 1 ≤ w1.heap.size := by have := hb1.size; simpa using this
  clear hb1 HBY
  have HB2 : Hid (Below (w.heap.size + 1) (w.alloc (.cells #[.int .u16 src, .int .u16 dst, .int .u8 proto, .int .u16 id, .int .u8 off, .bool more, .int .u16 sport, .int .u16 dport, .slice none 0 0, .int .i64 n] 112)) (w1.alloc (.cells #[.int .i64 A, .int .i64 B] 165))) := HB1.out.alloc (by omega) _
  have cY := box_cell (Below.refl (w1.heap.size + 1) (w1.alloc (.cells #[.int .i64 A, .int .i64 B] 165)))
  have cc := box_cell HB1.out
  rw [hX] at hz1 cc
  have hXz : X < w1.heap.size := by omega
  go_wp2_with fail
  have HBo : Hid (Below w.heap.size w (w1.alloc (.cells #[.int .i64 A, .int .i64 B] 165))) := below_old HB2.out
  have cX := box_cell HB2.out
  have hz2 : (w1.alloc (.cells #[.int .i64 A, .int .i64 B] 165)).heap.size = w1.heap.size + 1 := by simp
  generalize w1.alloc (.cells #[.int .i64 A, .int .i64 B] 165) = w2 at *
  generalize w1.heap.size = Y at *
  rw [hX] at cX
  have c5' := (HBo.out.cell (p := ⟨g, o + 5, none⟩) (by simp; omega)).trans c5
  have c6' := (HBo.out.cell (p := ⟨g, o + 6, none⟩) (by simp; omega)).trans c6
  have c7' := (HBo.out.cell (p := ⟨g, o + 7, none⟩) (by simp; omega)).trans c7
  have hgs : g < w2.heap.size := by omega
  rw [hX] at HBo
  clear c5 c6 c7 HB1 HB2 cc hXz
  have hXz : X < w2.heap.size := by omega
  have hYz : Y < w2.heap.size := by omega
  have HcX := hide cX
  have HcY := hide cY
  cases hE : endO l with
  | none =>
    rw [hE] at c6' c7'
    cases more with
    | false =>
      simp only [Bool.not_false] at HLA
      go_region
      go_wp2_with fail
      go_loopw [32] (fun i wr => ∃ j : Nat, j ≤ l.length ∧ i = .int .i64 j ∧ Hid (Below X w wr) ∧ Hid (∀ j, wr.cell? ⟨X, j, none⟩ = #[.int .u16 src, .int .u16 dst, .int .u8 proto, .int .u16 id, .int .u8 off, .bool false, .int .u16 sport, .int .u16 dport, .slice none 0 0, .int .i64 n][j]?) ∧ Hid (∀ j, wr.cell? ⟨Y, j, none⟩ = #[.int .i64 A, .int .i64 B][j]?) ∧ Y < wr.heap.size ∧ Hid ((l.take j).any (barS A B (!false)) = false)) (fun i _ => l.length - (intOf i).toNat)
      case atStart => exact ⟨0, Nat.zero_le _, rfl, (by repeat (first | exact HBo.out | refine Below.drew ?_ | refine Below.alloc ?_ (by omega) _)), (fun k => by simpa using HcX.out k), (fun k => by simpa using HcY.out k), by simp; try omega, rfl⟩
      case round =>
        obtain ⟨j, hj, rfl, HB, HX, HY, hYr, HNo⟩ := hrel
        by_cases hlt : j < l.length
        · obtain ⟨gs, q, hgq⟩ := own_some HP.out (by omega)
          rw [Value.slice.injEq] at hgq
          obtain ⟨rfl, _, rfl⟩ := hgq
          have hN := own_below' HP.out (fun k hk => by have := (HP.out.lt k hk).2; omega) HB.out
          have hgz : gs < wr.heap.size := (hN.lt gs rfl).2
          obtain ⟨q, hr⟩ : ∃ q, l[j]? = some q := ⟨_, List.getElem?_eq_getElem hlt⟩
          have r0 : wr.cell? ⟨gs, j * 2, none⟩ = _ := row_get Pc.span Pc.span_len hN j q hr 0 _ rfl
          have r1 := row_get Pc.span Pc.span_len hN j q hr 1 _ rfl
          have HT := hide (take_snoc l j q hr)
          have hqb := HQ.out.2 q (List.mem_of_getElem? hr)
          obtain ⟨qs, qa, qb, qe, qw⟩ := q
          simp only at hqb
          have HAny : Hid ((l.take (j + 1)).any (barS A B (!false)) = barS A B (!false) ⟨qs, qa, qb, qe, qw⟩) := by
            show _ = _
            rw [HT.out, List.any_append, HNo.out]
            simp
          have HAll : Hid (barS A B (!false) ⟨qs, qa, qb, qe, qw⟩ = true → l.any (barS A B (!false)) = true) := fun h => List.any_eq_true.2 ⟨_, List.mem_of_getElem? hr, h⟩
          clear hN hr
          have hXr : X < wr.heap.size := by omega
          have eX := HX.out
          have eY := HY.out
          by_cases hm : A < qb ∧ qa < B
          · have hd1 : decide (A < qb) = true := decide_eq_true hm.1
            have hd2 : decide (qa < B) = true := decide_eq_true hm.2
            have HMM := hide (HME.out A B qa qb)
            rw [hd1, hd2] at HMM
            go_wp2_with fail
            refine (HMM.out _).mono ?_
            rintro e w7 ⟨rfl, hb7⟩
            go_wp2
            go_ret
            exact ⟨by rw [HAll.out (by simp [barS, hd1, hd2])]; simp, (HB.out.alloc (by omega) _).trans (hb7.mono (by simp; omega))⟩
          · have HMM := hide (HME.out A B qa qb)
            have hdd : (decide (A < qb) && decide (qa < B)) = false := by simpa using hm
            rw [hdd] at HMM
            go_wp2_with fail
            refine (HMM.out _).mono ?_
            rintro e w7 ⟨rfl, hb7⟩
            have HB7 : Hid (Below (wr.heap.size + 1) (wr.alloc (.cells #[.int .i64 qa, .int .i64 qb] 165)) w7) := hb7.mono (by simp)
            have hz7 : wr.heap.size + 1 ≤ w7.heap.size := by have := hb7.size; simpa using this
            have c7s := box_cell HB7.out
            have HB7o := hide (below_old HB7.out)
            have fX := fun j => (HB7o.out.cell (p := ⟨X, j, none⟩) (by simp; omega)).trans (eX j)
            have fY := fun j => (HB7o.out.cell (p := ⟨Y, j, none⟩) (by simp; omega)).trans (eY j)
            have HW7 : Hid (Below X w w7) := HB.out.trans (HB7o.out.mono (by omega))
            have HFX := hide fX
            have HFY := hide fY
            have hX7 : X < w7.heap.size := by omega
            have hY7 : Y < w7.heap.size := by omega
            clear eX eY r0 r1 hb7 HB7 HB7o
            have hZ7 : wr.heap.size < w7.heap.size := by omega
            by_cases hq2 : B < qb
            · have hd3 : decide (B < qb) = true := decide_eq_true hq2
              go_wp2_with (go_at_call 113; refine (HLA.out _).mono ?_; rintro e w' ⟨rfl, rfl⟩)
              go_ret
              exact ⟨by rw [HAll.out (by simp [barS, hd3])]; simp, HW7.out.alloc (by omega) _⟩
            · have hd3 : decide (B < qb) = false := decide_eq_false hq2
              go_wp2_with (go_at_call 113; refine (HLA.out _).mono ?_; rintro e w' ⟨rfl, rfl⟩)
              go_roundw
              case rel => exact ⟨j + 1, by omega, by go_num, HW7.out.alloc (by omega) _, fun k => (World.cell?_alloc_past _ _ _ (by first | omega | (simp; omega))).trans (HFX.out k), fun k => (World.cell?_alloc_past _ _ _ (by first | omega | (simp; omega))).trans (HFY.out k), by simp; omega, by show _ = _; rw [HAny.out]; simp only [barS, hdd, hd3]; rfl⟩
              case measure => simp [intOf]; omega
        · obtain rfl : j = l.length := by omega
          rw [List.take_length] at HNo
          go_wp2
          go_ret
          exact ⟨by rw [HNo.out, hE]; simp, HB.out⟩
    | true =>
      simp only [Bool.not_true] at HLA
      go_region
      go_wp2_with fail
      go_loopw [32] (fun i wr => ∃ j : Nat, j ≤ l.length ∧ i = .int .i64 j ∧ Hid (Below X w wr) ∧ Hid (∀ j, wr.cell? ⟨X, j, none⟩ = #[.int .u16 src, .int .u16 dst, .int .u8 proto, .int .u16 id, .int .u8 off, .bool true, .int .u16 sport, .int .u16 dport, .slice none 0 0, .int .i64 n][j]?) ∧ Hid (∀ j, wr.cell? ⟨Y, j, none⟩ = #[.int .i64 A, .int .i64 B][j]?) ∧ Y < wr.heap.size ∧ Hid ((l.take j).any (barS A B (!true)) = false)) (fun i _ => l.length - (intOf i).toNat)
      case atStart => exact ⟨0, Nat.zero_le _, rfl, (by repeat (first | exact HBo.out | refine Below.drew ?_ | refine Below.alloc ?_ (by omega) _)), (fun k => by simpa using HcX.out k), (fun k => by simpa using HcY.out k), by simp; try omega, rfl⟩
      case round =>
        obtain ⟨j, hj, rfl, HB, HX, HY, hYr, HNo⟩ := hrel
        by_cases hlt : j < l.length
        · obtain ⟨gs, q, hgq⟩ := own_some HP.out (by omega)
          rw [Value.slice.injEq] at hgq
          obtain ⟨rfl, _, rfl⟩ := hgq
          have hN := own_below' HP.out (fun k hk => by have := (HP.out.lt k hk).2; omega) HB.out
          have hgz : gs < wr.heap.size := (hN.lt gs rfl).2
          obtain ⟨q, hr⟩ : ∃ q, l[j]? = some q := ⟨_, List.getElem?_eq_getElem hlt⟩
          have r0 : wr.cell? ⟨gs, j * 2, none⟩ = _ := row_get Pc.span Pc.span_len hN j q hr 0 _ rfl
          have r1 := row_get Pc.span Pc.span_len hN j q hr 1 _ rfl
          have HT := hide (take_snoc l j q hr)
          have hqb := HQ.out.2 q (List.mem_of_getElem? hr)
          obtain ⟨qs, qa, qb, qe, qw⟩ := q
          simp only at hqb
          have HAny : Hid ((l.take (j + 1)).any (barS A B (!true)) = barS A B (!true) ⟨qs, qa, qb, qe, qw⟩) := by
            show _ = _
            rw [HT.out, List.any_append, HNo.out]
            simp
          have HAll : Hid (barS A B (!true) ⟨qs, qa, qb, qe, qw⟩ = true → l.any (barS A B (!true)) = true) := fun h => List.any_eq_true.2 ⟨_, List.mem_of_getElem? hr, h⟩
          clear hN hr
          have hXr : X < wr.heap.size := by omega
          have eX := HX.out
          have eY := HY.out
          by_cases hm : A < qb ∧ qa < B
          · have hd1 : decide (A < qb) = true := decide_eq_true hm.1
            have hd2 : decide (qa < B) = true := decide_eq_true hm.2
            have HMM := hide (HME.out A B qa qb)
            rw [hd1, hd2] at HMM
            go_wp2_with fail
            refine (HMM.out _).mono ?_
            rintro e w7 ⟨rfl, hb7⟩
            go_wp2
            go_ret
            exact ⟨by rw [HAll.out (by simp [barS, hd1, hd2])]; simp, (HB.out.alloc (by omega) _).trans (hb7.mono (by simp; omega))⟩
          · have HMM := hide (HME.out A B qa qb)
            have hdd : (decide (A < qb) && decide (qa < B)) = false := by simpa using hm
            rw [hdd] at HMM
            go_wp2_with fail
            refine (HMM.out _).mono ?_
            rintro e w7 ⟨rfl, hb7⟩
            have HB7 : Hid (Below (wr.heap.size + 1) (wr.alloc (.cells #[.int .i64 qa, .int .i64 qb] 165)) w7) := hb7.mono (by simp)
            have hz7 : wr.heap.size + 1 ≤ w7.heap.size := by have := hb7.size; simpa using this
            have c7s := box_cell HB7.out
            have HB7o := hide (below_old HB7.out)
            have fX := fun j => (HB7o.out.cell (p := ⟨X, j, none⟩) (by simp; omega)).trans (eX j)
            have fY := fun j => (HB7o.out.cell (p := ⟨Y, j, none⟩) (by simp; omega)).trans (eY j)
            have HW7 : Hid (Below X w w7) := HB.out.trans (HB7o.out.mono (by omega))
            have HFX := hide fX
            have HFY := hide fY
            have hX7 : X < w7.heap.size := by omega
            have hY7 : Y < w7.heap.size := by omega
            clear eX eY r0 r1 hb7 HB7 HB7o
            have hZ7 : wr.heap.size < w7.heap.size := by omega
            go_wp2_with (go_at_call 113; refine (HLA.out _).mono ?_; rintro e w' ⟨rfl, rfl⟩)
            go_roundw
            case rel => exact ⟨j + 1, by omega, by go_num, HW7.out.alloc (by omega) _, fun k => (World.cell?_alloc_past _ _ _ (by first | omega | (simp; omega))).trans (HFX.out k), fun k => (World.cell?_alloc_past _ _ _ (by first | omega | (simp; omega))).trans (HFY.out k), by simp; omega, by show _ = _; rw [HAny.out]; simp only [barS, hdd]; rfl⟩
            case measure => simp [intOf]; omega
        · obtain rfl : j = l.length := by omega
          rw [List.take_length] at HNo
          go_wp2
          go_ret
          exact ⟨by rw [HNo.out, hE]; simp, HB.out⟩
  | some b =>
    rw [hE] at c6' c7'
    cases more with
    | false =>
      simp only [Bool.not_false] at HLA
      first | (go_region_with (go_at_call 113; refine (HLA.out _).mono ?_; rintro e w' ⟨rfl, rfl⟩)) | fail
      all_goals go_wp2
      all_goals go_ret
      all_goals exact ⟨by simp [hE], (by repeat (first | exact HBo.out | refine Below.drew ?_ | refine Below.alloc ?_ (by omega) _))⟩
    | true =>
      simp only [Bool.not_true] at HLA
      by_cases hlt : b < B
      · have hdt : decide (b < B) = true := decide_eq_true hlt
        go_region_held3 (fun w' => w'.cell? ⟨X, 0, none⟩ = some (.int .u16 src) ∧ w'.cell? ⟨X, 1, none⟩ = some (.int .u16 dst) ∧ w'.cell? ⟨X, 2, none⟩ = some (.int .u8 proto) ∧ w'.cell? ⟨X, 3, none⟩ = some (.int .u16 id) ∧ w'.cell? ⟨X, 4, none⟩ = some (.int .u8 off) ∧ w'.cell? ⟨X, 5, none⟩ = some (.bool true) ∧ w'.cell? ⟨X, 6, none⟩ = some (.int .u16 sport) ∧ w'.cell? ⟨X, 7, none⟩ = some (.int .u16 dport) ∧ w'.cell? ⟨X, 8, none⟩ = some (.slice none 0 0) ∧ w'.cell? ⟨X, 9, none⟩ = some (.int .i64 n) ∧ w'.cell? ⟨g, o + 6, none⟩ = some (.bool true) ∧ w'.cell? ⟨g, o + 7, none⟩ = some (.int .i64 b) ∧ w'.cell? ⟨Y, 1, none⟩ = some (.int .i64 B) ∧ w'.cell? ⟨g, o + 5, none⟩ = some (.slice ao l.length cap)) (go_keep) (first | (go_at_call 113; refine (HLA.out _).mono ?_; rintro e w' ⟨rfl, rfl⟩))
        go_wp2
        go_ret
        exact ⟨by simp [hE, hlt], (by repeat (first | exact HBo.out | refine Below.drew ?_ | refine Below.alloc ?_ (by omega) _))⟩
      · have hdt : decide (b < B) = false := decide_eq_false hlt
        go_region_held3 (fun w' => w'.cell? ⟨X, 0, none⟩ = some (.int .u16 src) ∧ w'.cell? ⟨X, 1, none⟩ = some (.int .u16 dst) ∧ w'.cell? ⟨X, 2, none⟩ = some (.int .u8 proto) ∧ w'.cell? ⟨X, 3, none⟩ = some (.int .u16 id) ∧ w'.cell? ⟨X, 4, none⟩ = some (.int .u8 off) ∧ w'.cell? ⟨X, 5, none⟩ = some (.bool true) ∧ w'.cell? ⟨X, 6, none⟩ = some (.int .u16 sport) ∧ w'.cell? ⟨X, 7, none⟩ = some (.int .u16 dport) ∧ w'.cell? ⟨X, 8, none⟩ = some (.slice none 0 0) ∧ w'.cell? ⟨X, 9, none⟩ = some (.int .i64 n) ∧ w'.cell? ⟨g, o + 6, none⟩ = some (.bool true) ∧ w'.cell? ⟨g, o + 7, none⟩ = some (.int .i64 b) ∧ w'.cell? ⟨Y, 1, none⟩ = some (.int .i64 B) ∧ w'.cell? ⟨g, o + 5, none⟩ = some (.slice ao l.length cap)) (go_keep) (first | (go_at_call 113; refine (HLA.out _).mono ?_; rintro e w' ⟨rfl, rfl⟩))
        go_wp2_with fail
        go_loopw [32] (fun i wr => ∃ j : Nat, j ≤ l.length ∧ i = .int .i64 j ∧ Hid (Below X w wr) ∧ Hid (∀ j, wr.cell? ⟨X, j, none⟩ = #[.int .u16 src, .int .u16 dst, .int .u8 proto, .int .u16 id, .int .u8 off, .bool true, .int .u16 sport, .int .u16 dport, .slice none 0 0, .int .i64 n][j]?) ∧ Hid (∀ j, wr.cell? ⟨Y, j, none⟩ = #[.int .i64 A, .int .i64 B][j]?) ∧ Y < wr.heap.size ∧ Hid ((l.take j).any (barS A B (!true)) = false)) (fun i _ => l.length - (intOf i).toNat)
        case atStart => exact ⟨0, Nat.zero_le _, rfl, (by repeat (first | exact HBo.out | refine Below.drew ?_ | refine Below.alloc ?_ (by omega) _)), (fun k => by simpa using (World.cell?_alloc_past _ _ _ (by first | omega | (simp; omega))).trans (HcX.out k)), (fun k => by simpa using (World.cell?_alloc_past _ _ _ (by first | omega | (simp; omega))).trans (HcY.out k)), by simp; try omega, rfl⟩
        case round =>
          obtain ⟨j, hj, rfl, HB, HX, HY, hYr, HNo⟩ := hrel
          by_cases hlt : j < l.length
          · obtain ⟨gs, q, hgq⟩ := own_some HP.out (by omega)
            rw [Value.slice.injEq] at hgq
            obtain ⟨rfl, _, rfl⟩ := hgq
            have hN := own_below' HP.out (fun k hk => by have := (HP.out.lt k hk).2; omega) HB.out
            have hgz : gs < wr.heap.size := (hN.lt gs rfl).2
            obtain ⟨q, hr⟩ : ∃ q, l[j]? = some q := ⟨_, List.getElem?_eq_getElem hlt⟩
            have r0 : wr.cell? ⟨gs, j * 2, none⟩ = _ := row_get Pc.span Pc.span_len hN j q hr 0 _ rfl
            have r1 := row_get Pc.span Pc.span_len hN j q hr 1 _ rfl
            have HT := hide (take_snoc l j q hr)
            have hqb := HQ.out.2 q (List.mem_of_getElem? hr)
            obtain ⟨qs, qa, qb, qe, qw⟩ := q
            simp only at hqb
            have HAny : Hid ((l.take (j + 1)).any (barS A B (!true)) = barS A B (!true) ⟨qs, qa, qb, qe, qw⟩) := by
              show _ = _
              rw [HT.out, List.any_append, HNo.out]
              simp
            have HAll : Hid (barS A B (!true) ⟨qs, qa, qb, qe, qw⟩ = true → l.any (barS A B (!true)) = true) := fun h => List.any_eq_true.2 ⟨_, List.mem_of_getElem? hr, h⟩
            clear hN hr
            have hXr : X < wr.heap.size := by omega
            have eX := HX.out
            have eY := HY.out
            by_cases hm : A < qb ∧ qa < B
            · have hd1 : decide (A < qb) = true := decide_eq_true hm.1
              have hd2 : decide (qa < B) = true := decide_eq_true hm.2
              have HMM := hide (HME.out A B qa qb)
              rw [hd1, hd2] at HMM
              go_wp2_with fail
              refine (HMM.out _).mono ?_
              rintro e w7 ⟨rfl, hb7⟩
              go_wp2
              go_ret
              exact ⟨by rw [HAll.out (by simp [barS, hd1, hd2])]; simp, (HB.out.alloc (by omega) _).trans (hb7.mono (by simp; omega))⟩
            · have HMM := hide (HME.out A B qa qb)
              have hdd : (decide (A < qb) && decide (qa < B)) = false := by simpa using hm
              rw [hdd] at HMM
              go_wp2_with fail
              refine (HMM.out _).mono ?_
              rintro e w7 ⟨rfl, hb7⟩
              have HB7 : Hid (Below (wr.heap.size + 1) (wr.alloc (.cells #[.int .i64 qa, .int .i64 qb] 165)) w7) := hb7.mono (by simp)
              have hz7 : wr.heap.size + 1 ≤ w7.heap.size := by have := hb7.size; simpa using this
              have c7s := box_cell HB7.out
              have HB7o := hide (below_old HB7.out)
              have fX := fun j => (HB7o.out.cell (p := ⟨X, j, none⟩) (by simp; omega)).trans (eX j)
              have fY := fun j => (HB7o.out.cell (p := ⟨Y, j, none⟩) (by simp; omega)).trans (eY j)
              have HW7 : Hid (Below X w w7) := HB.out.trans (HB7o.out.mono (by omega))
              have HFX := hide fX
              have HFY := hide fY
              have hX7 : X < w7.heap.size := by omega
              have hY7 : Y < w7.heap.size := by omega
              clear eX eY r0 r1 hb7 HB7 HB7o
              have hZ7 : wr.heap.size < w7.heap.size := by omega
              go_wp2_with (go_at_call 113; refine (HLA.out _).mono ?_; rintro e w' ⟨rfl, rfl⟩)
              go_roundw
              case rel => exact ⟨j + 1, by omega, by go_num, HW7.out.alloc (by omega) _, fun k => (World.cell?_alloc_past _ _ _ (by first | omega | (simp; omega))).trans (HFX.out k), fun k => (World.cell?_alloc_past _ _ _ (by first | omega | (simp; omega))).trans (HFY.out k), by simp; omega, by show _ = _; rw [HAny.out]; simp only [barS, hdd]; rfl⟩
              case measure => simp [intOf]; omega
          · obtain rfl : j = l.length := by omega
            rw [List.take_length] at HNo
            go_wp2
            go_ret
            exact ⟨by rw [HNo.out, hE]; simp; omega, HB.out⟩

end Go.Proofs.YtajphdppmdoalaaGreat
