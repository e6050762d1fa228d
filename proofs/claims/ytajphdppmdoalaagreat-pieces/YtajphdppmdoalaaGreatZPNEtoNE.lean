import Derived.Test.YtajphdppmdoalaaGreatZPMDtoND
import Derived.Deep.DeepCutAuto
namespace Go.Proofs.YtajphdppmdoalaaGreat
open Go.RowKit
set_option linter.unusedVariables false

theorem Tryz.infoSp : (Tryz.prog.info? 165).map (fun i => (i.zero, i.size, i.bytes)) = some (some (.agg #[.int .i64 0, .int .i64 0]), 2, 16) := by kernel_rfl
theorem Tryz.infoWt : (Tryz.prog.info? 154).map (fun i => (i.zero, i.size, i.bytes)) = some (some (.agg #[.int .i64 0, .int .i64 0]), 2, 16) := by kernel_rfl
/-- Behind accept. -/
structure AccPost (w : World) (g N cap o : Nat) (xs : List Value) (l wl : List Pc) (sv hv : Value) (known : Bool) (tb b : Int) (seq : Nat) (p : Pk) (v sv' hv' : Value) (w' : World) : Prop where
  ev : w'.ownsRow w.heap.size 60 3 v (accEv seq wl (known || p.off == 0) (if p.off = 0 then b else tb)).length ((accEv seq wl (known || p.off == 0) (if p.off = 0 then b else tb)).flatMap Ev.cells)
  row : w'.ownsRow 0 152 11 (.slice (some ⟨g, 0, none⟩) N cap) N (entSet xs o sv' (.bool (!p.more || (endO l).isSome)) (.int .i64 (if p.more then (endO l).getD 0 else p.off * 4 + p.dlen)) (.bool (known || p.off == 0)) (.int .u8 (if p.off = 0 then b else tb)) hv')
  rs : w'.ownsRow 0 165 2 sv' (l.length + 1) (l.flatMap Pc.span ++ [.int .i64 (p.off * 4), .int .i64 (p.off * 4 + p.dlen)])
  rh : if (known || p.off == 0) = true then hv' = .slice none 0 0 else w'.ownsRow 0 154 2 hv' (wl.length + 1) (wl.flatMap Pc.wtg ++ [.int .i64 seq, .int .i64 p.dlen])
  only : Only (fun k => k = g ∨ sv.ownBlock = some k ∨ hv.ownBlock = some k) w w'
  fs : ∀ k, sv'.ownBlock = some k → sv.ownBlock = some k ∨ w.heap.size ≤ k
  fh : ∀ k, hv'.ownBlock = some k → hv.ownBlock = some k ∨ w.heap.size ≤ k
  nil : (known || p.off == 0) = false → v = .slice none 0 0

set_option maxRecDepth 100000 in
set_option maxHeartbeats 3200000 in
theorem accept_any (g N cap o : Nat) (xs : List Value) (l : List Pc) (wl : List Pc) (sv hv : Value) (known : Bool) (tb b : Int) (seq : Nat) (p : Pk) (w : World)
    (hE : w.ownsRow 0 152 11 (.slice (some ⟨g, 0, none⟩) N cap) N xs)
    (c5 : xs[o + 5]? = some sv) (c6 : xs[o + 6]? = some (.bool (endO l).isSome)) (c7 : xs[o + 7]? = some (.int .i64 ((endO l).getD 0))) (c8 : xs[o + 8]? = some (.bool known)) (c9 : xs[o + 9]? = some (.int .u8 tb)) (c10 : xs[o + 10]? = some hv)
    (hS : w.ownsRow 0 165 2 sv l.length (l.flatMap Pc.span)) (hH : w.ownsRow 0 154 2 hv wl.length (wl.flatMap Pc.wtg))
    (hl : l.length ≤ 1000) (hwl : wl.length ≤ 1000) (ho0 : 0 ≤ p.off) (ho1 : p.off ≤ 255) (hd : p.dlen ≤ 1000) :
    Calls Tryz.prog 107 #[.pointer (some ⟨g, o, none⟩), .int .i64 seq, p.pc, .int .u8 b] w fun e w' => ∃ v sv' hv', e = .returned v ∧ AccPost w g N cap o xs l wl sv hv known tb b seq p v sv' hv' w' := by
  obtain ⟨i0, hi, hq0, hq1, hq2⟩ := info_parts Tryz.infoSp
  have HE := hide hE
  have HS := hide hS
  have HH := hide hH
  have hg : g < w.heap.size := (hE.lt g rfl).2
  obtain ⟨sa, sc, hsv⟩ := own_slice hS
  obtain ⟨ha, hc, hhv⟩ := own_slice hH
  subst hsv hhv
  have hxs : xs.length = N * 11 := hE.1
  have HBY := hide (fun w => pbytes_any p w ho0 ho1 hd)
  have HLA := hide (fun w => plast_eq p w)
  have HFI := hide (fun w => pfirst_eq p w)
  clear hS hH hE
  obtain ⟨src, dst, proto, id, off, more, sport, dport, n⟩ := p
  unfold Pk.pc at *
  unfold Pk.box at HLA HFI
  simp only at *
  have hbA : 0 ≤ off * 4 ∧ off * 4 ≤ 1020 ∧ 0 ≤ off * 4 + (n : Int) ∧ off * 4 + (n : Int) ≤ 2020 := by omega
  generalize hB : off * 4 + (n : Int) = B at *
  generalize hA : off * 4 = A at *
  have HAB := hide (And.intro hA hB)
  clear hA hB
  clear ho0 ho1 hd
  generalize hX : w.heap.size = X at *
  go_enter Tryz.func107, Tryz.ntmps107
  go_wp2_with fail
  refine (HBY.out _).mono ?_
  rintro e w1 ⟨rfl, hb1⟩
  have HB1 : Hid (Below (w.heap.size + 1) (w.alloc (.cells #[.int .u16 src, .int .u16 dst, .int .u8 proto, .int .u16 id, .int .u8 off, .bool more, .int .u16 sport, .int .u16 dport, .slice none 0 0, .int .i64 n] 112)) w1) := hb1.mono (by simp)
  have hz1 : w.heap.size + 1 ≤ w1.heap.size := by have := hb1.size; simpa using this
  clear hb1 HBY
  have HB2 : Hid (Below (w.heap.size + 1) (w.alloc (.cells #[.int .u16 src, .int .u16 dst, .int .u8 proto, .int .u16 id, .int .u8 off, .bool more, .int .u16 sport, .int .u16 dport, .slice none 0 0, .int .i64 n] 112)) (w1.alloc (.cells #[.int .i64 A, .int .i64 B] 165))) := HB1.out.alloc (by omega) _
  have cc := box_cell HB1.out
  rw [hX] at hz1 cc
  have hXz : X < w1.heap.size := by omega
  go_upto_region 2 with (fail)
  have cY := box_cell (Below.refl (w1.heap.size + 1) (w1.alloc (.cells #[.int .i64 A, .int .i64 B] 165)))
  have HBo : Hid (Below w.heap.size w (w1.alloc (.cells #[.int .i64 A, .int .i64 B] 165))) := below_old HB2.out
  have cX := box_cell HB2.out
  have hz2' : (w1.alloc (.cells #[.int .i64 A, .int .i64 B] 165)).heap.size = w1.heap.size + 1 := by simp
  generalize w1.alloc (.cells #[.int .i64 A, .int .i64 B] 165) = w2 at *
  generalize w1.heap.size = Y at *
  rw [hX] at cX
  have HE2 := hide (own_below' HE.out (fun k hk => (HE.out.lt k hk).2) HBo.out)
  have HS2 := hide (own_below' HS.out (fun k hk => (HS.out.lt k hk).2) HBo.out)
  have d5 := (HE2.out.cellAt (o + 5) (by have := (List.getElem?_eq_some_iff.1 c5).1; omega)).trans c5
  have hgs : g < w2.heap.size := by omega
  rw [hX] at HBo
  clear HB1 HB2 cc hXz
  have hXz : X < w2.heap.size := by omega
  have hYz : Y < w2.heap.size := by omega
  have HcX := hide cX
  have HcY := hide cY
  clear hz2'
  obtain ⟨cur, hcur⟩ := own_tag' HE2.out rfl
  have HBK := hide hcur
  clear hcur
  go_cut [] (fun wc => ∃ (gn cn : Nat), Hid (wc.ownsRow 0 152 11 (.slice (some ⟨g, 0, none⟩) N cap) N (xs.set (o + 5) (.slice (some ⟨gn, 0, none⟩) (l.length + 1) cn))) ∧ Hid (wc.ownsRow 0 165 2 (.slice (some ⟨gn, 0, none⟩) (l.length + 1) cn) (l.length + 1) (l.flatMap Pc.span ++ [.int .i64 A, .int .i64 B])) ∧ Hid (Only (fun k => k = g ∨ (Value.slice sa l.length sc).ownBlock = some k) w2 wc) ∧ Hid ((Value.slice sa l.length sc).ownBlock = some gn ∨ X ≤ gn))
  case first =>
    go_region_law (refine step_append_lies _ rfl (.tmp 19) (.tmp 21) 149 rfl 0 165 i0 _ 2 16 Tryz.underlying149 hi hq0 hq1 hq2 rfl (by decide) _ l.length _ rfl (World.ownsRow.alloc HS2.out _) ⟨w2.heap.size, 0, none⟩ 1 1 [.int .i64 A, .int .i64 B] rfl rfl (cells_new _ _ _) (by simp [Value.oneCell']) (by decide) (by unfold maxLen; omega) (by omega) (Nat.zero_le _) _ rfl ?_; intro g10 cp10 wy hown10 hgrow10 hwh10 hlt10; have yb : wy.heap[g]? = some (.cells cur 152 (0, 0)) := (hgrow10.block g (by simp; omega) (fun hh => own_apart' HS2.out HE2.out (by decide) (show (Value.slice sa l.length sc).ownBlock = some g from hh.symm) rfl)).trans ((Below.heap_alloc _ _ _ hgs).trans HBK.out); have y5 : wy.cell? ⟨g, o + 5, none⟩ = some (.slice sa l.length sc) := (arr_cell yb _).trans ((arr_cell HBK.out _).symm.trans d5); have yf := arr_frozen yb (o + 5); have yz : g < wy.heap.size := lt_of_block yb)
    all_goals (go_wp2_with fail; go_meet)
    all_goals (case rel =>
      go_light
      have ho : Only (fun k => k = g ∨ (Value.slice sa l.length sc).ownBlock = some k) w2 wy := (((Only.refl _ w2).alloc (.cells #[.int .i64 A, .int .i64 B] 165)).drewN 1).grown hgrow10 (fun k _ hk => .inr hk)
      have ho2 : Only (fun k => (Value.slice sa l.length sc).ownBlock = some k) w2 wy := (((Only.refl _ w2).alloc (.cells #[.int .i64 A, .int .i64 B] 165)).drewN 1).grown hgrow10 (fun k _ hk => hk)
      have hEy := own_only HE2.out ho2 (fun q hq hh => own_apart' HS2.out HE2.out (by decide) hh hq)
      refine ⟨g10, cp10, (hEy.stored (o + 5) _).1, own_set' hown10 yb (by decide) _, ho.setCell (fun _ => .inl rfl) _, ?_⟩
      rcases hwh10 with h | h
      · exact .inl h
      · right
        have : g10 = w2.heap.size + 1 := by rw [h]; simp
        omega)
  case rest =>
    obtain ⟨gn, cn, HE3, HS3, HON, HGN⟩ := hcut
    have hsb : ∀ k, (Value.slice sa l.length sc).ownBlock = some k → k < X := fun k hk => by have := (HS.out.lt k hk).2; omega
    have eX := fun j => (HON.out.cell (p := ⟨X, j, none⟩) (by simp; omega) (fun hh => hh.elim (fun hh => by simp only at hh; omega) (fun hh => by have := hsb _ hh; simp only at this; omega))).trans (HcX.out j)
    have eY := fun j => (HON.out.cell (p := ⟨Y, j, none⟩) (by simp; omega) (fun hh => hh.elim (fun hh => by simp only at hh; omega) (fun hh => by have := hsb _ hh; simp only at this; omega))).trans (HcY.out j)
    have HH2 := hide (own_below' HH.out (fun k hk => (HH.out.lt k hk).2) (hX ▸ HBo.out))
    have HH3 := hide (own_only HH2.out HON.out (fun k hk hh => hh.elim (fun hh => own_apart' HH2.out HE2.out (by decide) hk (by rw [hh]; rfl)) (fun hh => own_apart' HS2.out HH2.out (by decide) hh hk)))
    have hz3 : w2.heap.size ≤ wc.heap.size := HON.out.size
    have HONw : Hid (Only (fun k => k = g ∨ (Value.slice sa l.length sc).ownBlock = some k ∨ (Value.slice ha wl.length hc).ownBlock = some k) w wc) := ((Only.of_below (hX ▸ HBo.out)).trans HON.out (fun k _ hh => hh.elim .inl (fun hh => .inr (.inl hh))))
    have f6 := (HE3.out.cellAt (o + 6) (by have := (List.getElem?_eq_some_iff.1 c6).1; omega)).trans ((List.getElem?_set_ne (by omega)).trans c6)
    have f7 := (HE3.out.cellAt (o + 7) (by have := (List.getElem?_eq_some_iff.1 c7).1; omega)).trans ((List.getElem?_set_ne (by omega)).trans c7)
    have fz : ∀ j, wc.frozen? ⟨g, j, none⟩ = false := by obtain ⟨cu, hcu⟩ := own_tag' HE3.out rfl; exact fun j => arr_frozen hcu j
    have hg3 : g < wc.heap.size := by omega
    have hX3 : X < wc.heap.size := by omega
    have hY3 : Y < wc.heap.size := by omega
    have HeX := hide eX
    have HeY := hide eY
    clear cX cY HcX HcY d5 hgs hXz hYz HBK
    go_upto_if 26 with (go_at_call 113; refine (HLA.out _).mono ?_; rintro e w' ⟨rfl, rfl⟩)
    go_cut [] (fun wc2 => Hid (wc2.ownsRow 0 152 11 (.slice (some ⟨g, 0, none⟩) N cap) N (((xs.set (o + 5) (.slice (some ⟨gn, 0, none⟩) (l.length + 1) cn)).set (o + 6) (.bool (!more || (endO l).isSome))).set (o + 7) (.int .i64 (if more then (endO l).getD 0 else B)))) ∧ Hid (Only (fun k => k = g) wc wc2))
    case first =>
      have dX : ∀ j, (wc.alloc (.cells #[.int .u16 src, .int .u16 dst, .int .u8 proto, .int .u16 id, .int .u8 off, .bool more, .int .u16 sport, .int .u16 dport, .slice none 0 0, .int .i64 n] 112)).cell? ⟨X, j, none⟩ = _ := fun j => (World.cell?_alloc_past _ _ _ (by first | omega | (simp; omega))).trans (HeX.out j)
      have dY : ∀ j, (wc.alloc (.cells #[.int .u16 src, .int .u16 dst, .int .u8 proto, .int .u16 id, .int .u8 off, .bool more, .int .u16 sport, .int .u16 dport, .slice none 0 0, .int .i64 n] 112)).cell? ⟨Y, j, none⟩ = _ := fun j => (World.cell?_alloc_past _ _ _ (by first | omega | (simp; omega))).trans (HeY.out j)
      cases more with
      | true =>
        go_wp2_with fail
        go_meet
        case rel =>
          go_light
          refine ⟨?_, (Only.refl _ _).alloc _⟩
          have hx : ((xs.set (o + 5) (.slice (some ⟨gn, 0, none⟩) (l.length + 1) cn)).set (o + 6) (.bool (endO l).isSome)).set (o + 7) (.int .i64 ((endO l).getD 0)) = xs.set (o + 5) (.slice (some ⟨gn, 0, none⟩) (l.length + 1) cn) := by
            rw [set_same _ (o + 6) _ ((List.getElem?_set_ne (by omega)).trans c6), set_same _ (o + 7) _ ((List.getElem?_set_ne (by omega)).trans c7)]
          have h := HE3.out
          rw [← hx] at h
          exact h.alloc _
      | false =>
        go_wp2_with fail
        go_meet
        case rel =>
          go_light
          exact ⟨((HE3.out.stored (o + 6) _).1.stored (o + 7) _).1.alloc _, ((Only.refl _ _).setG.setG).alloc _⟩
    case rest =>
      obtain ⟨HE4, HO4⟩ := hcut
      obtain ⟨w5, hw5⟩ : ∃ w5, w5 = wc := ⟨_, rfl⟩
      subst hw5
      have hz5 := HO4.out.size
      have hgn : gn ≠ g := fun hh => own_apart' HS3.out HE3.out (by decide) rfl (by rw [hh]; rfl)
      have HS5 := hide (own_only HS3.out HO4.out (fun k hk hh => hgn (by simpa [Value.ownBlock, hh] using hk)))
      have HH5 := hide (own_only HH3.out HO4.out (fun k hk hh => own_apart' HH3.out HE3.out (by decide) hk (by rw [hh]; rfl)))
      have HX5 := hide (fun j => (HO4.out.cell (p := ⟨X, j, none⟩) (by simp; omega) (fun hh => by simp only at hh; omega)).trans (HeX.out j))
      have HOw5 : Hid (Only (fun k => k = g ∨ (Value.slice sa l.length sc).ownBlock = some k ∨ (Value.slice ha wl.length hc).ownBlock = some k) w w5) := HONw.out.trans HO4.out (fun k _ hh => .inl hh)
      clear HeX HeY eX eY f6 f7 HONw HO4 HH3 HE3 HH2 HS2 HE2 HON HS HE fz HS3
      have hg5 : g < w5.heap.size := by omega
      have hX5 : X < w5.heap.size := by omega
      have hlen : N * 11 = xs.length := hxs.symm
      have g8 := (HE4.out.cellAt (o + 8) (by have := (List.getElem?_eq_some_iff.1 c8).1; omega)).trans (((List.getElem?_set_ne (by omega)).trans ((List.getElem?_set_ne (by omega)).trans (List.getElem?_set_ne (by omega)))).trans c8)
      have g9 := (HE4.out.cellAt (o + 9) (by have := (List.getElem?_eq_some_iff.1 c9).1; omega)).trans (((List.getElem?_set_ne (by omega)).trans ((List.getElem?_set_ne (by omega)).trans (List.getElem?_set_ne (by omega)))).trans c9)
      have fz : ∀ j, w5.frozen? ⟨g, j, none⟩ = false := by obtain ⟨cu, hcu⟩ := own_tag' HE4.out rfl; exact fun j => arr_frozen hcu j
      have hX5c := HX5.out
      go_upto_if 36 with (go_at_call 110; refine (HFI.out _).mono ?_; rintro e w' ⟨rfl, rfl⟩)
      go_cut [] (fun wc3 => Hid (wc3.ownsRow 0 152 11 (.slice (some ⟨g, 0, none⟩) N cap) N (((((xs.set (o + 5) (.slice (some ⟨gn, 0, none⟩) (l.length + 1) cn)).set (o + 6) (.bool (!more || (endO l).isSome))).set (o + 7) (.int .i64 (if more then (endO l).getD 0 else B))).set (o + 8) (.bool (known || off == 0))).set (o + 9) (.int .u8 (if off = 0 then b else tb)))) ∧ Hid (Only (fun k => k = g) w5 wc3))
      case first =>
        by_cases h0 : off = 0
        · have hb0 : (off == 0) = true := by simp [h0]
          have hk0 : (known || off == 0) = true := by simp [h0]
          have HK0 := hide hk0
          clear hk0
          have HT0 : Hid ((if off = 0 then b else tb) = b) := if_pos h0
          go_wp2_with fail
          go_meet
          case rel =>
            go_light
            rw [HK0.out, HT0.out]
            exact ⟨((HE4.out.stored (o + 8) _).1.stored (o + 9) _).1.alloc _, ((Only.refl _ _).setG.setG).alloc _⟩
        · have hb0 : (off == 0) = false := by simp [h0]
          have hk0 : (known || off == 0) = known := by simp [h0]
          have HK0 := hide hk0
          clear hk0
          have HT0 : Hid ((if off = 0 then b else tb) = tb) := if_neg h0
          go_wp2_with fail
          go_meet
          case rel =>
            go_light
            rw [HK0.out, HT0.out]
            refine ⟨?_, (Only.refl _ _).alloc _⟩
            have hx := set_same (((xs.set (o + 5) (.slice (some ⟨gn, 0, none⟩) (l.length + 1) cn)).set (o + 6) (.bool (!more || (endO l).isSome))).set (o + 7) (.int .i64 (if more then (endO l).getD 0 else B))) (o + 8) (.bool known) (((List.getElem?_set_ne (by omega)).trans ((List.getElem?_set_ne (by omega)).trans (List.getElem?_set_ne (by omega)))).trans c8)
            have hy := set_same (((xs.set (o + 5) (.slice (some ⟨gn, 0, none⟩) (l.length + 1) cn)).set (o + 6) (.bool (!more || (endO l).isSome))).set (o + 7) (.int .i64 (if more then (endO l).getD 0 else B))) (o + 9) (.int .u8 tb) (((List.getElem?_set_ne (by omega)).trans ((List.getElem?_set_ne (by omega)).trans (List.getElem?_set_ne (by omega)))).trans c9)
            show World.ownsRow _ _ _ _ _ _ _
            rw [hx, hy]
            exact HE4.out.alloc _
      case rest =>
        obtain ⟨HE6, HO6⟩ := hcut
        obtain ⟨w6, hw6⟩ : ∃ w6, w6 = wc := ⟨_, rfl⟩
        subst hw6
        have hz6 := HO6.out.size
        have HS6 := hide (own_only HS5.out HO6.out (fun k hk hh => hgn (by simpa [Value.ownBlock, hh] using hk)))
        have HH6 := hide (own_only HH5.out HO6.out (fun k hk hh => own_apart' HH5.out HE4.out (by decide) hk (by rw [hh]; rfl)))
        have HX6 := hide (fun j => (HO6.out.cell (p := ⟨X, j, none⟩) (by simp; omega) (fun hh => by simp only at hh; omega)).trans (HX5.out j))
        have HOw6 : Hid (Only (fun k => k = g ∨ (Value.slice sa l.length sc).ownBlock = some k ∨ (Value.slice ha wl.length hc).ownBlock = some k) w w6) := HOw5.out.trans HO6.out (fun k _ hh => .inl hh)
        clear HX5 HOw5 HO6 HH5 HE4 fz HS5 g8 g9 hX5c
        have hg6 : g < w6.heap.size := by omega
        have hX6 : X < w6.heap.size := by omega
        generalize hKK : (known || off == 0) = κ at *
        generalize hTT : (if off = 0 then b else tb) = τ at *
        have HKT := hide (And.intro hKK hTT)
        clear hKK hTT
        have hb8 : o + 8 < xs.length := (List.getElem?_eq_some_iff.1 c8).1
        have hb9 : o + 9 < xs.length := (List.getElem?_eq_some_iff.1 c9).1
        have g8 : w6.cell? ⟨g, o + 8, none⟩ = some (.bool κ) := (HE6.out.cellAt (o + 8) (by omega)).trans ((List.getElem?_set_ne (by omega)).trans (List.getElem?_set_self (by simp; omega)))
        have g9 : w6.cell? ⟨g, o + 9, none⟩ = some (.int .u8 τ) := (HE6.out.cellAt (o + 9) (by omega)).trans (List.getElem?_set_self (by simp; omega))
        have g10' : w6.cell? ⟨g, o + 10, none⟩ = some (.slice ha wl.length hc) := (HE6.out.cellAt (o + 10) (by have := (List.getElem?_eq_some_iff.1 c10).1; omega)).trans (((List.getElem?_set_ne (by omega)).trans ((List.getElem?_set_ne (by omega)).trans ((List.getElem?_set_ne (by omega)).trans ((List.getElem?_set_ne (by omega)).trans (List.getElem?_set_ne (by omega)))))).trans c10)
        have fz : ∀ j, w6.frozen? ⟨g, j, none⟩ = false := by obtain ⟨cu, hcu⟩ := own_tag' HE6.out rfl; exact fun j => arr_frozen hcu j
        have hX6c := HX6.out
        have hX69 := hX6c 9
        have HSB : Hid (∀ k, (Value.slice (some ⟨gn, 0, none⟩) (l.length + 1) cn).ownBlock = some k → (Value.slice sa l.length sc).ownBlock = some k ∨ w.heap.size ≤ k) := by
          intro k hk
          simp only [Value.ownBlock, Option.some.injEq] at hk
          subst hk
          rcases HGN.out with h | h
          · exact .inl h
          · exact .inr (by omega)
        cases κ with
        | false =>
          obtain ⟨i1, hi1, hr0, hr1, hr2⟩ := info_parts Tryz.infoWt
          have hgh : (Value.slice ha wl.length hc).ownBlock ≠ some g := fun hh => own_apart' HH6.out HE6.out (by decide) hh rfl
          have HGH := hide hgh
          clear hgh
          obtain ⟨cur, hcur⟩ := own_tag' HE6.out rfl
          have HBK := hide hcur
          clear hcur
          go_wp2_with fail
          go_region_law (refine step_append_lies _ rfl (.tmp 53) (.tmp 58) 150 rfl 0 154 i1 _ 2 16 Tryz.underlying150 hi1 hr0 hr1 hr2 rfl (by decide) _ wl.length _ rfl (World.ownsRow.alloc HH6.out _) ⟨w6.heap.size, 0, none⟩ 1 1 [.int .i64 seq, .int .i64 n] rfl rfl (cells_new _ _ _) (by simp [Value.oneCell']) (by decide) (by unfold maxLen; omega) (by omega) (Nat.zero_le _) _ rfl ?_; intro gh ch wy hown10 hgrow10 hwh10 hlt10; have yb : wy.heap[g]? = some (.cells cur 152 (0, 0)) := (hgrow10.block g (by simp; omega) (fun hh => HGH.out hh.symm)).trans ((Below.heap_alloc _ _ _ hg6).trans HBK.out); have y5 : wy.cell? ⟨g, o + 10, none⟩ = some (.slice ha wl.length hc) := (arr_cell yb _).trans ((arr_cell HBK.out _).symm.trans g10'); have yf := arr_frozen yb (o + 10); have yz : g < wy.heap.size := lt_of_block yb)
          all_goals (go_wp2)
          all_goals go_ret
          all_goals
            have ho : Only (fun k => (Value.slice ha wl.length hc).ownBlock = some k) w6 wy := (((Only.refl _ w6).alloc (.cells #[.int .i64 seq, .int .i64 n] 154)).drewN 1).grown hgrow10 (fun k _ hk => hk)
            have hEy := own_only HE6.out ho (fun q hq hh => own_apart' HH6.out HE6.out (by decide) hh hq)
            have hSy := own_only HS6.out ho (fun q hq hh => own_apart' HH6.out HS6.out (by decide) hh hq)
            have hgng : ∀ x, (wy.setCell ⟨g, o + 10, none⟩ x).ownsRow 0 165 2 (.slice (some ⟨gn, 0, none⟩) (l.length + 1) cn) (l.length + 1) (l.flatMap Pc.span ++ [.int .i64 A, .int .i64 B]) := fun x => own_set' hSy yb (by decide) x
            refine ⟨_, .slice (some ⟨gn, 0, none⟩) (l.length + 1) cn, .slice (some ⟨gh, 0, none⟩) (wl.length + 1) ch, rfl, ?_⟩
            constructor
            · simp only [HKT.out.1]
              exact World.ownsRow_nil _ _ _ _
            · simp only [HKT.out.1, HKT.out.2, HAB.out.1, HAB.out.2]
              exact (hEy.stored (o + 10) _).1
            · simp only [HAB.out.1, HAB.out.2]
              exact hgng _
            · simp only [HKT.out.1]
              exact own_set' hown10 yb (by decide) _
            · exact (HOw6.out.trans ho (fun k _ hh => .inr (.inr hh))).setCell (fun _ => .inl rfl) _
            · exact HSB.out
            · intro k hk
              simp only [Value.ownBlock, Option.some.injEq] at hk
              subst hk
              rcases hwh10 with h | h
              · exact .inl h
              · right
                have : gh = w6.heap.size + 1 := by rw [h]; simp
                omega
            · intro _
              rfl
        | true =>
          obtain ⟨i1, hi1, hr0, hr1, hr2⟩ := info_parts Tryz.infoEv
          have HI1 := hide (And.intro hi1 (And.intro hr0 (And.intro hr1 hr2)))
          clear hi1 hr0 hr1 hr2
          go_wp2_with fail
          have HV7 : Hid ((w6.alloc (.cells #[.int .i64 seq, .int .u8 0, .int .u8 τ] 60)).ownsRow w6.heap.size 60 3 (.slice (some ⟨w6.heap.size, 0, none⟩) 1 1) 1 [.int .i64 seq, .int .u8 0, .int .u8 τ]) := ⟨rfl, .inr ⟨w6.heap.size, 1, #[.int .i64 seq, .int .u8 0, .int .u8 τ], rfl, Nat.le_refl _, heap_alloc_new _ _, Nat.le_refl _, by decide, rfl, rfl⟩⟩
          have HB7 : Hid (Below w6.heap.size w6 (w6.alloc (.cells #[.int .i64 seq, .int .u8 0, .int .u8 τ] 60))) := (Below.refl _ _).alloc (Nat.le_refl _) _
          generalize w6.alloc (.cells #[.int .i64 seq, .int .u8 0, .int .u8 τ] 60) = w7 at *
          go_loopw [74, 10] (fun i v wr => ∃ j : Nat, j ≤ wl.length ∧ i = .int .i64 j ∧ Hid (wr.ownsRow w6.heap.size 60 3 v (j + 1) ((accEv seq (wl.take j) true τ).flatMap Ev.cells)) ∧ Hid (Below w6.heap.size w6 wr)) (fun i _ _ => wl.length - (intOf i).toNat)
          case atStart => exact ⟨0, Nat.zero_le _, rfl, HV7.out, HB7.out⟩
          case round =>
            obtain ⟨j, hj, rfl, HO, HB⟩ := hrel
            have h9 := (HB.out.cell (p := ⟨g, o + 9, none⟩) hg6).trans g9
            have h10 := (HB.out.cell (p := ⟨g, o + 10, none⟩) hg6).trans g10'
            have hgr : g < wr.heap.size := Nat.lt_of_lt_of_le hg6 HB.out.size
            by_cases hlt : j < wl.length
            · obtain ⟨gs, q, hgq⟩ := own_some HH6.out (by omega)
              rw [Value.slice.injEq] at hgq
              obtain ⟨rfl, _, rfl⟩ := hgq
              have hN := own_below' HH6.out (fun k hk => (HH6.out.lt k hk).2) HB.out
              have hgz : gs < wr.heap.size := (hN.lt gs rfl).2
              obtain ⟨q, hr⟩ : ∃ q, wl[j]? = some q := ⟨_, List.getElem?_eq_getElem hlt⟩
              have c0 : wr.cell? ⟨gs, j * 2, none⟩ = _ := row_get Pc.wtg Pc.wtg_len hN j q hr 0 _ rfl
              have c1 := row_get Pc.wtg Pc.wtg_len hN j q hr 1 _ rfl
              have HT : Hid ((accEv seq (wl.take (j + 1)) true τ).flatMap Ev.cells = (accEv seq (wl.take j) true τ).flatMap Ev.cells ++ [.int .i64 q.seq, .int .u8 0, .int .u8 τ]) := by
                show _ = _
                rw [take_snoc wl j q hr]
                simp [accEv, Ev.cells]
              obtain ⟨qs, qa, qb, qe, qw⟩ := q
              simp only at c0 c1 HT
              have hsz : w6.heap.size ≤ wr.heap.size := HB.out.size
              obtain ⟨hi1, hr0, hr1, hr2⟩ := HI1.out
              clear hN hr
              go_wp2_with fail
              go_region_law (refine step_append_lies _ rfl (.tmp 78) (.tmp 86) 57 rfl w6.heap.size 60 i1 _ 3 16 Tryz.underlying57 hi1 hr0 hr1 hr2 rfl (by decide) _ (j + 1) _ rfl ((HO.out.alloc _).alloc _) ⟨wr.heap.size + 1, 0, none⟩ 1 1 [.int .i64 qs, .int .u8 0, .int .u8 τ] rfl rfl (news2 _ _ _ _) (by simp [Value.oneCell']) (by decide) (by unfold maxLen; omega) (by omega) (by simp; omega) _ rfl ?_; intro gv cv w2' hown hgrow hwh hltv)
              all_goals
                rw [← HT.out] at hown
                have HO2 := hide hown
                have HB2 : Hid (Below w6.heap.size w6 w2') := (((HB.out.alloc hsz _).alloc (by simp; omega) _).drew).grown hgrow (by simp; omega) (fun k hk => (HO.out.lt k hk).1)
                clear hown hgrow hwh
              all_goals (go_wp2; go_roundw; (case rel => exact ⟨j + 1, by omega, by go_num, HO2.out, HB2.out⟩); (case measure => simp [intOf]; omega))
            · obtain rfl : j = wl.length := by omega
              rw [List.take_length] at HO
              have fr : ∀ j, wr.frozen? ⟨g, j, none⟩ = false := by obtain ⟨cu, hcu⟩ := own_tag' (own_below' HE6.out (fun k hk => (HE6.out.lt k hk).2) HB.out) rfl; exact fun j => arr_frozen hcu j
              go_wp2
              go_ret
              have ho := Only.of_below (F := fun k => False) HB.out
              have hEy := own_below' HE6.out (fun k hk => (HE6.out.lt k hk).2) HB.out
              have hSy := own_below' HS6.out (fun k hk => (HS6.out.lt k hk).2) HB.out
              obtain ⟨cur, yb⟩ := own_tag' hEy rfl
              refine ⟨_, .slice (some ⟨gn, 0, none⟩) (l.length + 1) cn, .slice none 0 0, rfl, ?_⟩
              constructor
              · simp only [HKT.out.1, HKT.out.2]
                refine ownsRow_base (base := w6.heap.size) ?_ (by omega)
                have hlen2 : (accEv seq wl true τ).length = wl.length + 1 := by simp [accEv]
                rw [hlen2]
                exact own_set' HO.out yb (by decide) _
              · simp only [HKT.out.1, HKT.out.2, HAB.out.1, HAB.out.2]
                exact (hEy.stored (o + 10) _).1
              · simp only [HAB.out.1, HAB.out.2]
                exact own_set' hSy yb (by decide) _
              · simp only [HKT.out.1]
                trivial
              · exact (HOw6.out.trans ho (fun k _ hh => hh.elim)).setCell (fun _ => .inl rfl) _
              · exact HSB.out
              · intro k hk
                simp [Value.ownBlock] at hk
              · intro hh
                simp [HKT.out.1] at hh

end Go.Proofs.YtajphdppmdoalaaGreat
