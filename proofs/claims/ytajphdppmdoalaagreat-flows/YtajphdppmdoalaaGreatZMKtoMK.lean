import Derived.Test.YtajphdppmdoalaaGreatZMJtoMJ
import Derived.Test.YtajphdppmdoalaaGreatZZ4toCA
namespace Go.Proofs.YtajphdppmdoalaaGreat
open Go.RowKit
set_option linter.unusedVariables false

theorem Has.only {w w' : World} {G : Nat → Prop} {ao : Option Addr} {zs : List Int} (h : Has w ao zs) (ho : Only G w w') (hG : zs ≠ [] → ∀ a, ao = some a → ¬ G a.block) : Has w' ao zs := by
  refine ⟨h.1, fun hz => ?_⟩
  obtain ⟨b, o, rfl, hlt, hc⟩ := h.2 hz
  exact ⟨b, o, rfl, Nat.lt_of_lt_of_le hlt ho.size, fun j hj => (ho.cell (p := ⟨b, o + j, none⟩) hlt (hG hz ⟨b, o, none⟩ rfl)).trans (hc j hj)⟩
theorem ref_growN {wx wb wy : World} {yb : Nat} {S : Cl} {F : Nat → Prop} {vS vE vN vV : Value} {ES : List RE} {NS : List RN} (h : RefIs wx yb S F vS vE vN vV ES NS) (hb : Below wx.heap.size wx wb) (r : RN) (hr : ∃ ao cap, r.dv = .slice ao r.s.p.dlen cap) {g2 c2 : Nat}
    (hown : wy.ownsRow 0 110 12 (.slice (some ⟨g2, 0, none⟩) (NS.length + 1) c2) (NS.length + 1) (NS.flatMap RN.cells ++ RN.cells r)) (hgrow : wb.grownBy wy vN.ownBlock) (hwh : vN.ownBlock = some g2 ∨ g2 = wb.heap.size) :
    ∃ F1, RefIs (wy.setCell ⟨yb, 6, none⟩ (.slice (some ⟨g2, 0, none⟩) (NS.length + 1) c2)) yb { S with sent := S.sent ++ [r.s] } F1 vS vE (.slice (some ⟨g2, 0, none⟩) (NS.length + 1) c2) vV ES (NS ++ [r]) ∧ Stp wx (wy.setCell ⟨yb, 6, none⟩ (.slice (some ⟨g2, 0, none⟩) (NS.length + 1) c2)) F F1 := by
  have hv' : NS.flatMap RN.cells ++ RN.cells r = (NS ++ [r]).flatMap RN.cells := by simp
  rw [hv'] at hown
  have ho : Only (fun k => vN.ownBlock = some k) wx wy := ((Only.refl _ _).below hb).grown hgrow (fun k _ hk => hk)
  have hE := h.setN ho (NS ++ [r]) _ (by rw [List.length_append]; exact hown)
    (fun x hx => by rw [List.mem_append, List.mem_singleton] at hx; rcases hx with hx | rfl; exact h.rawN x hx; exact hr)
    (fun q hq => by
      simp only [Value.ownBlock, Option.some.injEq] at hq
      subst hq
      rcases hwh with h1 | h1
      · exact .inl h1
      · exact .inr (by have := hb.size; omega))
  rw [List.map_append, h.hns] at hE
  exact ⟨_, hE.1, hE.2⟩
theorem sent_le (S : Cl) : S.sent.length ≤ (seqsM S).length := by unfold seqsM; simp only [List.length_append, List.length_map]; omega

set_option maxRecDepth 100000 in
set_option maxHeartbeats 1600000 in
theorem rarrive_no (rep : Int) (yb : Nat) (S : Cl) (F : Nat → Prop) (vS vE vN vV : Value) (ES : List RE) (NS : List RN) (ao : Option Addr) (n cap : Nat) (w : World) (h : RefIs w yb S F vS vE vN vV ES NS) (hk : rep < 0 ∨ S.reps ≤ rep) :
    Calls Tryz.prog 41 #[.pointer (some ⟨yb, 0, none⟩), .int .i64 rep, .slice ao n cap] w fun e w' => e = .returned (.tuple #[.int .i64 0, .int .i64 1]) ∧ w' = w := by
  have hyb := h.lt
  have dY := arr_cell h.blk
  clear h
  by_cases h0 : rep < 0
  · clear hk
    go_enter Tryz.func41, Tryz.ntmps41
    go_wp2
    go_ret2
    exact ⟨rfl, rfl⟩
  · have h1 : rep ≥ S.reps := by omega
    clear hk
    go_enter Tryz.func41, Tryz.ntmps41
    go_wp2
    go_ret2
    exact ⟨rfl, rfl⟩

set_option maxRecDepth 100000 in
set_option maxHeartbeats 6400000 in
theorem rarrive_yes (rep : Int) (yb : Nat) (S : Cl) (F : Nat → Prop) (vS vE vN vV : Value) (ES : List RE) (NS : List RN) (ao : Option Addr) (n cap : Nat) (zs : List Int) (w : World) (h : RefIs w yb S F vS vE vN vV ES NS) (hs : Sml S) (hnx : S.next + 1 ≤ 1900000000000) (hk : 0 ≤ rep ∧ rep < S.reps) (hl : zs.length = n) (hcap : n ≤ cap) (hm : cap ≤ maxLen) (hd : Has w ao zs) (hdF : zs ≠ [] → ∀ a, ao = some a → ¬ F a.block) (hz : ∀ z ∈ zs, 0 ≤ z ∧ z ≤ 255) :
    Calls Tryz.prog 41 #[.pointer (some ⟨yb, 0, none⟩), .int .i64 rep, .slice ao n cap] w fun e w' => e = .returned (.tuple #[.int .i64 S.next, .int .i64 0]) ∧ ∃ F' vE' vN' vV' ES' NS', RefIs w' yb (arriveM S rep (upK zs)) F' vS vE' vN' vV' ES' NS' ∧ Stp w w' F F' := by
  obtain ⟨S', hS'⟩ : ∃ S', S' = arriveM S rep (upK zs) := ⟨_, rfl⟩
  rw [← hS']
  have HS' := hide hS'
  have hyb := h.lt
  have dY := arr_cell h.blk
  have fY := arr_frozen h.blk
  have h0 : ¬ rep < 0 := by omega
  have h1 : ¬ rep ≥ S.reps := by omega
  have hR := And.intro hs.cok.reps hs.reps
  obtain ⟨hs1, hc1⟩ := sml_next S hs (by omega)
  have HS1 := hide hs1
  have hcnt := hs.cnt
  obtain ⟨hR1, hSt1⟩ := h.set_next (S.next + 1)
  have HD1 : Hid (Has (w.setCell ⟨yb, 3, none⟩ (.int .i64 ((S.next + 1 : Nat) : Int))) ao zs) := hd.only hSt1.only (fun hz a ha => hdF hz a ha)
  have HR1 := hide hR1
  have HSt1 := hide hSt1
  have HU := hide (runpack_any ao n cap zs _ hl hcap hm HD1.out hz)
  have HKK := hide (upK_ok zs hz)
  have HSS := hide hs
  obtain ⟨sa, sc, hvS⟩ := own_slice h.rS
  subst hvS
  clear h hd hR1 hSt1 hS' hs1 hs
  go_enter Tryz.func41, Tryz.ntmps41
  go_wp2_with fail
  have hcast : ((S.next : Int) + 1) = ((S.next + 1 : Nat) : Int) := by omega
  try rw [hcast]
  generalize hW1 : w.setCell ⟨yb, 3, none⟩ _ = w1 at *
  clear dY fY hW1 hcast
  refine HU.out.mono ?_
  rintro e w2 hU2
  have hb2 := hU2.1
  have HB2 := hide hb2
  have HR2 := hide (HR1.out.below hb2)
  have hy2 : yb < w2.heap.size := HR2.out.lt
  rcases hU2.2 with ⟨hc, v, rfl, hv⟩ | ⟨hc, rfl⟩
  · have hup : upK zs = some ⟨(upP zs).src, (upP zs).dst, (upP zs).proto, (upP zs).id, (upP zs).off, (upP zs).more, (upP zs).sport, (upP zs).dport, (upP zs).data.length⟩ := by unfold upK; rw [if_pos hc]
    rw [hup] at HS' HKK
    obtain ⟨va, vc, hvv⟩ := own_slice hv
    subst hvv
    obtain ⟨p, hp⟩ : ∃ p : Pk, p = ⟨(upP zs).src, (upP zs).dst, (upP zs).proto, (upP zs).id, (upP zs).off, (upP zs).more, (upP zs).sport, (upP zs).dport, (upP zs).data.length⟩ := ⟨_, rfl⟩
    rw [← hp] at HS' HKK
    obtain ⟨hpb, hpo⟩ := HKK.out p rfl
    have HPO := hide hpo
    rw [show (upP zs).src = p.src from by rw [hp], show (upP zs).dst = p.dst from by rw [hp], show (upP zs).proto = p.proto from by rw [hp], show (upP zs).id = p.id from by rw [hp], show (upP zs).off = p.off from by rw [hp], show (upP zs).more = p.more from by rw [hp], show (upP zs).sport = p.sport from by rw [hp], show (upP zs).dport = p.dport from by rw [hp], show (upP zs).data.length = p.dlen from by rw [hp]]
    clear hup hv hp hU2 hb2 HU HKK hpo
    go_wp2_with fail
    generalize hW3 : w2.alloc _ = w3
    have hz3 : w3.heap.size = w2.heap.size + 1 := by rw [← hW3]; simp
    have HP3 : Hid (w3.heap[w2.heap.size]? = some (.cells #[.int .u16 p.src, .int .u16 p.dst, .int .u8 p.proto, .int .u16 p.id, .int .u8 p.off, .bool p.more, .int .u16 p.sport, .int .u16 p.dport, .slice va p.dlen vc] 40 (0, 0))) := by rw [← hW3]; exact heap_alloc_new _ _
    have HB3 : Hid (Below w2.heap.size w2 w3) := by rw [← hW3]; exact (Below.refl _ _).alloc (Nat.le_refl _) _
    clear hW3
    have dP := arr_cell HP3.out
    have cR : w3.cell? ⟨yb, 0, none⟩ = some (.int .i64 S.reps) := arr_cell (HR2.out.below HB3.out).blk 0
    go_wp2_with fail
    refine (rowner_any yb p.src p.dst p.proto p.id p.off p.more p.sport p.dport va p.dlen vc S.reps w3 hpb.src hpb.dst hpb.proto hpb.id hpb.sport hpb.dport hR cR (by omega)).mono ?_
    rintro e w4 ⟨rfl, hb4⟩
    have ho : dgH p.src p.dst p.proto p.id % S.reps = ownerM S p := rfl
    rw [ho]
    have HB4 : Hid (Below w2.heap.size w2 w4) := HB3.out.trans (hb4.mono (by omega))
    have HP4 : Hid (w4.heap[w2.heap.size]? = some (.cells #[.int .u16 p.src, .int .u16 p.dst, .int .u8 p.proto, .int .u16 p.id, .int .u8 p.off, .bool p.more, .int .u16 p.sport, .int .u16 p.dport, .slice va p.dlen vc] 40 (0, 0))) := (hb4.block _ (by omega)).trans HP3.out
    have HR4 := hide (HR2.out.below HB4.out)
    have HSt4 : Hid (Stp w w4 F F) := (HSt1.out.trans (Stp.below HB2.out)).trans (Stp.below HB4.out)
    have hz4 : w2.heap.size < w4.heap.size := lt_of_block HP4.out
    have hy4 : yb < w4.heap.size := HR4.out.lt
    clear ho hb4 cR dP HP3 HB3
    have dP := arr_cell HP4.out
    have dY := arr_cell HR4.out.blk
    have hev : S.evs.length ≤ 2000000000000 := by have := evs_le S; omega
    have HEV := hide hev
    by_cases hof : p.off = 0
    · have hof1 : (p.off == 0) = true := by simp [hof]
      by_cases hmo : p.more = true
      · have HW : Hid (wholePk p = false) := by show _ = _; simp [wholePk, hmo]
        have hmo1 : (!p.more) = false := by simp [hmo]
        have HOF := hide hof
        clear hmo hof
        have HSW : Hid (S' = if ownerM S p = rep then pieceM { S with next := S.next + 1 } S.next p else { S with next := S.next + 1, sent := S.sent ++ [⟨S.next, rep, ownerM S p, p⟩] }) := by
          show _ = _
          rw [HS'.out]
          unfold arriveM
          simp only [HW.out, Bool.false_eq_true, if_false]
        by_cases how : ownerM S p = rep
        · rw [if_pos how] at HSW
          have how1 : (ownerM S p == rep) = true := by simp [how]
          have HPC := hide (rpiece_any yb _ F _ vE vN vV ES NS S.next p va vc w4 HR4.out HS1.out (by have : (seqsM { S with next := S.next + 1 }).length = (seqsM S).length := rfl; omega) hpb (HPO.out HW.out) (by omega))
          have HOW := hide how
          clear how
          go_wp2_with fail
          refine HPC.out.mono ?_
          rintro e w5 ⟨rfl, F5, vE5, vV5, ES5, hR5, hS5⟩
          have HR5 := hide hR5
          have HS5 := hide hS5
          clear hR5 hS5 HPC
          go_wp2
          go_ret2
          exact ⟨rfl, F5, vE5, vN, vV5, ES5, NS, by rw [HSW.out]; exact HR5.out, HSt4.out.trans HS5.out⟩
        · rw [if_neg how] at HSW
          have how1 : (ownerM S p == rep) = false := by simp [how]
          obtain ⟨i0, hi, hz0, hz1', hz2'⟩ := info_parts Tryz.infoSn
          obtain ⟨na, nc, hvN⟩ := own_slice HR4.out.rN
          have HRN := hide HR4.out.rN
          rw [hvN] at HRN
          have cN : w4.cell? ⟨yb, 6, none⟩ = some (.slice na NS.length nc) := by rw [← hvN]; exact dY 6
          have fY := arr_frozen HR4.out.blk
          have HYN : Hid (Value.ownBlock (.slice na NS.length nc) ≠ some yb) := by rw [← hvN]; exact own_apart_blk HR4.out.rN HR4.out.blk (by decide)
          have hnl : NS.length ≤ 1900000000000 := by
            have h8 := congrArg List.length HR4.out.hns
            rw [List.length_map] at h8
            have h9 := sent_le S
            simp only at h8
            omega
          have HOW := hide how
          clear how
          go_wp2_with fail
          go_region_law (refine step_append_lies _ rfl (.tmp 46) (.tmp 53) 71 rfl 0 110 i0 _ 12 64 Tryz.underlying71 hi hz0 hz1' hz2' rfl (by decide) _ NS.length _ rfl (World.ownsRow.alloc HRN.out _) _ 1 1 (RN.cells ⟨⟨S.next, rep, ownerM S p, p⟩, .slice va p.dlen vc⟩) rfl rfl (cells_new _ _ _) (RN.one _ rfl) (by decide) (by unfold maxLen; omega) (by omega) (Nat.zero_le _) _ rfl ?_; intro g2 c2 wy hown hgrow hwh hlt2; have y5 : wy.cell? ⟨yb, 6, none⟩ = _ := hgrow.cell_far ⟨yb, 6, none⟩ (by simp; omega) (fun hh => HYN.out hh.symm); have yf : wy.frozen? ⟨yb, 6, none⟩ = _ := hgrow.frozen_far ⟨yb, 6, none⟩ (by simp; omega) (fun hh => HYN.out hh.symm))
          all_goals
            obtain ⟨F1, hR1', hS1'⟩ := ref_growN HR4.out (((Below.refl w4.heap.size w4).drew).alloc (Nat.le_refl _) _) ⟨⟨S.next, rep, ownerM S p, p⟩, .slice va p.dlen vc⟩ ⟨_, _, rfl⟩ hown (by rw [hvN]; exact hgrow) (by rw [hvN]; exact hwh)
            have HR5 := hide hR1'
            have HS5 := hide hS1'
            clear hR1' hS1' hown hgrow hwh hlt2 y5 yf
            go_wp2
            go_ret2
            first | exact ⟨rfl, F1, vE, _, vV, ES, _, by rw [HSW.out]; exact HR5.out, HSt4.out.trans HS5.out⟩ | exact ⟨rfl, F1, ⟨vE, _, vV, ES, _, by rw [HSW.out]; exact HR5.out⟩, HSt4.out.trans HS5.out⟩
      · have hmo' : p.more = false := by simpa using hmo
        have HW : Hid (wholePk p = true) := by show _ = _; simp [wholePk, hmo', hof]
        have HSW : Hid (S' = if S.slots = [] then toldM { S with next := S.next + 1 } S.next 2 0 else toldM { S with next := S.next + 1 } S.next 0 (chosenM S p)) := by
          show _ = _
          rw [HS'.out]
          unfold arriveM
          simp only [HW.out, if_true]
        have hmo1 : (!p.more) = true := by simp [hmo']
        have HOF := hide hof
        clear hof hmo hmo'
        cases hsl : S.slots with
        | nil =>
          have hL : (((S.slots.length : Nat) : Int) == 0) = true := by simp [hsl]
          rw [if_pos hsl] at HSW
          have HTD := hide (rtold_any yb _ F _ vE vN vV ES NS S.next 2 0 w4 HR4.out HEV.out)
          clear hsl
          go_wp2_with fail
          refine HTD.out.mono ?_
          rintro e w5 ⟨rfl, F5, vV5, hR5, hS5⟩
          have HR5 := hide hR5
          have HS5 := hide hS5
          clear hR5 hS5 HTD
          go_wp2
          go_ret2
          exact ⟨rfl, F5, vE, vN, vV5, ES, NS, by rw [HSW.out]; exact HR5.out, HSt4.out.trans HS5.out⟩
        | cons z zz =>
          have hL : (((S.slots.length : Nat) : Int) == 0) = false := by simp [hsl]; omega
          have hne : S.slots ≠ [] := by rw [hsl]; simp
          rw [if_neg hne] at HSW
          have hs31 : S.slots.length = 31 := HSS.out.slots.resolve_left hne
          obtain ⟨gs, cs, hvS2, hgs, hT⟩ := own_cells31 HR4.out.rS hs31
          have HCH : Hid (Calls Tryz.prog 76 #[.pointer (some ⟨yb, 0, none⟩), .agg #[.int .u16 p.src, .int .u16 p.dst, .int .u8 p.proto, .int .u16 p.id, .int .u8 p.off, .bool p.more, .int .u16 p.sport, .int .u16 p.dport, .slice va p.dlen vc]] w4 fun e w' => e = .returned (.int .u8 (chosenM S p)) ∧ Below w4.heap.size w4 w') := rchosen_any yb gs cs S.slots p.src p.dst p.proto p.id p.off p.more p.sport p.dport va p.dlen vc w4 hpb.src hpb.dst hpb.proto hpb.id hpb.sport hpb.dport (by rw [← hvS2]; exact dY 4) hy4 hT hgs
          have hT' := hide hT
          clear hsl hT hvS2
          go_wp2_with fail
          refine HCH.out.mono ?_
          rintro e w5 ⟨rfl, hb5⟩
          have HB5 := hide hb5
          clear hb5 dP dY
          go_wp2_with fail
          refine (rtold_any yb _ F _ vE vN vV ES NS S.next 0 (chosenM S p) w5 (HR4.out.below HB5.out) HEV.out).mono ?_
          rintro e w6 ⟨rfl, F6, vV6, hR6, hS6⟩
          have HR6 := hide hR6
          have HS6 := hide hS6
          clear hR6 hS6
          go_wp2
          go_ret2
          exact ⟨rfl, F6, vE, vN, vV6, ES, NS, by rw [HSW.out]; exact HR6.out, (HSt4.out.trans (Stp.below HB5.out)).trans HS6.out⟩
    · have hof1 : (p.off == 0) = false := by simp [hof]
      have HW : Hid (wholePk p = false) := by show _ = _; simp [wholePk, hof]
      have HOF := hide hof
      clear hof
      have HSW : Hid (S' = if ownerM S p = rep then pieceM { S with next := S.next + 1 } S.next p else { S with next := S.next + 1, sent := S.sent ++ [⟨S.next, rep, ownerM S p, p⟩] }) := by
        show _ = _
        rw [HS'.out]
        unfold arriveM
        simp only [HW.out, Bool.false_eq_true, if_false]
      by_cases how : ownerM S p = rep
      · rw [if_pos how] at HSW
        have how1 : (ownerM S p == rep) = true := by simp [how]
        have HPC := hide (rpiece_any yb _ F _ vE vN vV ES NS S.next p va vc w4 HR4.out HS1.out (by have : (seqsM { S with next := S.next + 1 }).length = (seqsM S).length := rfl; omega) hpb (HPO.out HW.out) (by omega))
        have HOW := hide how
        clear how
        go_wp2_with fail
        refine HPC.out.mono ?_
        rintro e w5 ⟨rfl, F5, vE5, vV5, ES5, hR5, hS5⟩
        have HR5 := hide hR5
        have HS5 := hide hS5
        clear hR5 hS5 HPC
        go_wp2
        go_ret2
        exact ⟨rfl, F5, vE5, vN, vV5, ES5, NS, by rw [HSW.out]; exact HR5.out, HSt4.out.trans HS5.out⟩
      · rw [if_neg how] at HSW
        have how1 : (ownerM S p == rep) = false := by simp [how]
        obtain ⟨i0, hi, hz0, hz1', hz2'⟩ := info_parts Tryz.infoSn
        obtain ⟨na, nc, hvN⟩ := own_slice HR4.out.rN
        have HRN := hide HR4.out.rN
        rw [hvN] at HRN
        have cN : w4.cell? ⟨yb, 6, none⟩ = some (.slice na NS.length nc) := by rw [← hvN]; exact dY 6
        have fY := arr_frozen HR4.out.blk
        have HYN : Hid (Value.ownBlock (.slice na NS.length nc) ≠ some yb) := by rw [← hvN]; exact own_apart_blk HR4.out.rN HR4.out.blk (by decide)
        have hnl : NS.length ≤ 1900000000000 := by
          have h8 := congrArg List.length HR4.out.hns
          rw [List.length_map] at h8
          have h9 := sent_le S
          simp only at h8
          omega
        have HOW := hide how
        clear how
        go_wp2_with fail
        go_region_law (refine step_append_lies _ rfl (.tmp 46) (.tmp 53) 71 rfl 0 110 i0 _ 12 64 Tryz.underlying71 hi hz0 hz1' hz2' rfl (by decide) _ NS.length _ rfl (World.ownsRow.alloc HRN.out _) _ 1 1 (RN.cells ⟨⟨S.next, rep, ownerM S p, p⟩, .slice va p.dlen vc⟩) rfl rfl (cells_new _ _ _) (RN.one _ rfl) (by decide) (by unfold maxLen; omega) (by omega) (Nat.zero_le _) _ rfl ?_; intro g2 c2 wy hown hgrow hwh hlt2; have y5 : wy.cell? ⟨yb, 6, none⟩ = _ := hgrow.cell_far ⟨yb, 6, none⟩ (by simp; omega) (fun hh => HYN.out hh.symm); have yf : wy.frozen? ⟨yb, 6, none⟩ = _ := hgrow.frozen_far ⟨yb, 6, none⟩ (by simp; omega) (fun hh => HYN.out hh.symm))
        all_goals
          obtain ⟨F1, hR1', hS1'⟩ := ref_growN HR4.out (((Below.refl w4.heap.size w4).drew).alloc (Nat.le_refl _) _) ⟨⟨S.next, rep, ownerM S p, p⟩, .slice va p.dlen vc⟩ ⟨_, _, rfl⟩ hown (by rw [hvN]; exact hgrow) (by rw [hvN]; exact hwh)
          have HR5 := hide hR1'
          have HS5 := hide hS1'
          clear hR1' hS1' hown hgrow hwh hlt2 y5 yf
          go_wp2
          go_ret2
          first | exact ⟨rfl, F1, vE, _, vV, ES, _, by rw [HSW.out]; exact HR5.out, HSt4.out.trans HS5.out⟩ | exact ⟨rfl, F1, ⟨vE, _, vV, ES, _, by rw [HSW.out]; exact HR5.out⟩, HSt4.out.trans HS5.out⟩
  · have hup : upK zs = none := by unfold upK; rw [if_neg hc]
    rw [hup] at HS'
    have hc0 : (upC zs != 0) = true := by simp [hc]
    have HC := hide hc
    generalize upC zs = u at *
    clear hup hU2 hb2 HU hc
    go_wp2_with fail
    generalize hW3 : w2.alloc _ = w3
    have hz3 : w3.heap.size = w2.heap.size + 1 := by rw [← hW3]; simp
    have HP3 : Hid (w3.heap[w2.heap.size]? = some (.cells #[.int .u16 0, .int .u16 0, .int .u8 0, .int .u16 0, .int .u8 0, .bool false, .int .u16 0, .int .u16 0, .slice none 0 0] 40 (0, 0))) := by rw [← hW3]; exact heap_alloc_new _ _
    have HB3 : Hid (Below w2.heap.size w2 w3) := by rw [← hW3]; exact (Below.refl _ _).alloc (Nat.le_refl _) _
    clear hW3
    have dP := arr_cell HP3.out
    have cR : w3.cell? ⟨yb, 0, none⟩ = some (.int .i64 S.reps) := arr_cell (HR2.out.below HB3.out).blk 0
    go_wp2_with fail
    refine (rowner_any yb 0 0 0 0 0 false 0 0 none 0 0 S.reps w3 (by omega) (by omega) (by omega) (by omega) (by omega) (by omega) hR cR (by omega)).mono ?_
    rintro e w4 ⟨rfl, hb4⟩
    have HB4 : Hid (Below w2.heap.size w2 w4) := HB3.out.trans (hb4.mono (by omega))
    have HR4 := hide (HR2.out.below HB4.out)
    have HSt4 : Hid (Stp w w4 F F) := (HSt1.out.trans (Stp.below HB2.out)).trans (Stp.below HB4.out)
    clear hb4 cR dP HP3 HB3
    generalize dgH 0 0 0 0 % S.reps = oo
    go_wp2_with fail
    refine (rtold_any yb _ F _ vE vN vV ES NS S.next 1 0 w4 HR4.out (by have := evs_le S; simp only; omega)).mono ?_
    rintro e w5 ⟨rfl, F5, vV5, hR5, hS5⟩
    have HR5 := hide hR5
    have HS5 := hide hS5
    clear hR5 hS5
    go_wp2
    go_ret2
    exact ⟨rfl, F5, vE, vN, vV5, ES, NS, by rw [HS'.out]; exact HR5.out, HSt4.out.trans HS5.out⟩

end Go.Proofs.YtajphdppmdoalaaGreat
