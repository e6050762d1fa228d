import Derived.Test.YtajphdppmdoalaaGreatZOAtoOC
import Derived.Deep.DeepCutAuto
import Derived.BigRegion
import Derived.Test.YtajphdppmdoalaaGreatZHtoLB
import Derived.Test.YtajphdppmdoalaaGreatZJ4toE
import Derived.Test.YtajphdppmdoalaaGreatZJ1toLM
namespace Go.Proofs.YtajphdppmdoalaaGreat
open Go.RowKit
set_option linter.unusedVariables false

theorem PrC.cong {w : World} {xb : Nat} {S S' : Cl} {F : Nat → Prop} {gS : Nat} {cs : Array Value} {vT vV vN : Value} {RR : Nat → List PE} {Fs : Nat → Nat → Prop} {T : Nat → Int} (h : PrC w xb S F gS cs vT vV vN RR Fs T) (h1 : S'.life = S.life) (h2 : S'.next = S.next) (h3 : S'.slots = S.slots) (h4 : S'.evs = S.evs) (h5 : S'.sent = S.sent) : PrC w xb S' F gS cs vT vV vN RR Fs T :=
  ⟨by rw [h1, h2]; exact h.blk, h.stB, h.st, by rw [h3]; exact h.rT, by rw [h4]; exact h.rV, by rw [h5]; exact h.rN, h.dis, h.sub, h.fx, h.fg, h.fT, h.fV, h.fN, h.flt⟩
theorem PrC.tcong {w : World} {xb : Nat} {S : Cl} {F : Nat → Prop} {gS : Nat} {cs : Array Value} {vT vV vN : Value} {RR : Nat → List PE} {Fs : Nat → Nat → Prop} {T T' : Nat → Int} (h : PrC w xb S F gS cs vT vV vN RR Fs T) (hT : ∀ o, o < cs.size → T' o = T o) : PrC w xb S F gS cs vT vV vN RR Fs T' :=
  ⟨h.blk, h.stB, fun o ho => by rw [hT o ho]; exact h.st o ho, h.rT, h.rV, h.rN, h.dis, h.sub, h.fx, h.fg, h.fT, h.fV, h.fN, h.flt⟩
theorem come_len (L : List Ent) (own now : Int) (seq : Nat) (p : Pk) (b : Int) (ok : Bool) (h : ∀ e ∈ L, e.pcs.length ≤ 1000) : (comeS L own now seq p b ok).2.length ≤ 1001 := by
  unfold comeS
  simp only
  split
  · simp
  · split
    · simp
    · rename_i e he
      have hmem : e.pcs.length ≤ 1000 := by
        have := List.mem_of_getElem? he
        unfold begS at this
        split at this
        · exact h e this
        · rcases List.mem_append.1 this with h1 | h1
          · exact h e h1
          · rw [List.mem_singleton.1 h1]; simp [newS]
      unfold takenB
      simp only
      split
      · simp only [List.length_cons, List.length_map]
        have : (waitL e).length ≤ e.pcs.length := List.length_filter_le _ _
        omega
      · simp

set_option maxRecDepth 100000 in
set_option maxHeartbeats 3200000 in
theorem ccome_core (xb : Nat) (S : Cl) (F : Nat → Prop) (gS : Nat) (cs : Array Value) (vT vV vN : Value) (RR : Nat → List PE) (Fs : Nat → Nat → Prop) (T : Nat → Int) (t : Int) (o seq : Nat) (frm : Int) (p : Pk) (bk ec : Int) (L : List Ent) (E : List Ev) (w : World) (h : PrC w xb S F gS cs vT vV vN RR Fs T) (hoc : o < cs.size) (hn5 : cs.size ≤ 5) (hevl : S.evs.length ≤ 2000000000000) (hcl : E.length ≤ 1001)
    (HCH : Hid (∀ wz, Below w.heap.size w wz → Calls Tryz.prog 48 #[.pointer (some ⟨xb, 0, none⟩), .agg #[.int .u16 p.src, .int .u16 p.dst, .int .u8 p.proto, .int .u16 p.id, .int .u8 p.off, .bool p.more, .int .u16 p.sport, .int .u16 p.dport, .slice none 0 0]] wz fun e w' => e = .returned (.tuple #[.int .u8 bk, .int .i64 ec]) ∧ Below wz.heap.size wz w'))
    (HCO : Hid (∀ wz, Below w.heap.size w wz → Calls Tryz.prog 100 #[.pointer (some ⟨gS, o, none⟩), .int .i64 seq, .agg #[.int .u16 p.src, .int .u16 p.dst, .int .u8 p.proto, .int .u16 p.id, .int .u8 p.off, .bool p.more, .int .u16 p.sport, .int .u16 p.dport, .slice none 0 0, .int .i64 p.dlen], .int .u8 bk, .int .i64 ec] wz fun e w' => ∃ v v2 R', e = .returned v ∧ StPost wz w' gS o cs t (Fs o) L E v v2 R')) :
    Calls Tryz.prog 81 #[.pointer (some ⟨xb, 0, none⟩), .agg #[.int .i64 seq, .int .i64 frm, .int .i64 o, .int .u16 p.src, .int .u16 p.dst, .int .u8 p.proto, .int .u16 p.id, .int .u8 p.off, .bool p.more, .int .u16 p.sport, .int .u16 p.dport, .slice none 0 0, .int .i64 p.dlen]] w fun e w' => e = .returned (.tuple #[]) ∧ ∃ F' Fs' vV' v2 R2, PrC w' xb { S with evs := S.evs ++ E } F' gS (cs.setIfInBounds o v2) vT vV' vN (fun j => if j = o then R2 else RR j) Fs' (fun j => if j = o then t else T j) ∧ R2.map PE.e = L ∧ Stp w w' F F' := by
  have HH := hide h
  have hyb := h.lt
  have dS : w.cell? ⟨xb, 0, none⟩ = some (.slice (some ⟨gS, 0, none⟩) cs.size cs.size) := arr_cell h.blk 0
  have HW0 : Hid (FxW w.heap.size w #[.int .i64 seq, .int .i64 frm, .int .i64 o, .int .u16 p.src, .int .u16 p.dst, .int .u8 p.proto, .int .u16 p.id, .int .u8 p.off, .bool p.more, .int .u16 p.sport, .int .u16 p.dport, .slice none 0 0, .int .i64 p.dlen] (w.alloc (.cells #[.int .i64 seq, .int .i64 frm, .int .i64 o, .int .u16 p.src, .int .u16 p.dst, .int .u8 p.proto, .int .u16 p.id, .int .u8 p.off, .bool p.more, .int .u16 p.sport, .int .u16 p.dport, .slice none 0 0, .int .i64 p.dlen] 114))) := ⟨(Below.refl _ _).alloc (Nat.le_refl _) _, by simp, box_cell (Below.refl _ _)⟩
  obtain ⟨va, vc, hvV⟩ := own_slice h.rV
  clear h
  go_enter Tryz.func81, Tryz.ntmps81
  go_wp2_with fail
  refine (HCH.out _ HW0.out.1).mono ?_
  rintro e w1 ⟨rfl, hb1⟩
  have HW1 := hide (HW0.out.below hb1)
  have cX := HW1.out.2.2
  have hX1 := HW1.out.2.1
  have d1 := (HW1.out.1.cell (p := ⟨xb, 0, none⟩) hyb).trans dS
  have hx1 : xb < w1.heap.size := by omega
  have HW1d := hide HW1.out.drew
  clear hb1 HW0 HCH
  go_upto_region 4 with (fail)
  go_cut [7] (fun a7 wc => ∃ (v v2 : Value) (R2 : List PE), v = a7 ∧ Hid (StPost w1 wc gS o cs t (Fs o) L E v v2 R2))
  case first =>
    go_region_with (go_at_call 100; refine (HCO.out _ HW1d.out.1).mono ?_; rintro e w6 ⟨v, v2, R2, rfl, hpo⟩)
    all_goals (go_wp2_with fail; go_meet)
    all_goals (case rel =>
      go_light
      exact ⟨_, v2, R2, rfl, ⟨hpo.cell, hpo.is, hpo.ents, hpo.ev, hpo.nil, ((Only.refl _ w1).drewN 1).trans hpo.only (fun _ _ hh => hh)⟩⟩)
  case rest =>
    obtain ⟨a7, v2, R2, h7, HPO⟩ := hcut
    subst h7
    obtain ⟨w2, hw2⟩ : ∃ w2, w2 = wc := ⟨_, rfl⟩
    subst hw2
    have h1 := HH.out.below HW1.out.1
    obtain ⟨hP2, hS2⟩ := h1.store o v2 R2 t HPO.out.only HPO.out.cell HPO.out.is
    have HP2 := hide hP2
    have HS2 := hide hS2
    obtain ⟨i1, hi1, hp0, hp1, hp2⟩ := info_parts Tryz.infoEv
    have hyb2 := hP2.lt
    have c4 : w2.cell? ⟨xb, 4, none⟩ = some vV := arr_cell hP2.blk 4
    have cF : ∀ j, w2.frozen? ⟨xb, j, none⟩ = false := fun j => arr_frozen hP2.blk j
    rw [hvV] at c4
    have HX2 := hide (own_zero HPO.out.ev)
    have HN2 := hide HPO.out.nil
    have HRV := hide hP2.rV
    rw [hvV] at HRV
    obtain ⟨xa, xc, hx7⟩ := own_slice HX2.out
    subst hx7
    clear h1 hP2 hS2 cX d1 HW1d HCO dS
    go_wp2_with (at_builtin; refine wpList_append_row _ rfl (.tmp 48) (.tmp 49) 57 rfl 60 i1 _ 3 16 Tryz.underlying57 hi1 hp0 hp1 hp2 rfl (by decide) _ _ _ rfl HRV.out _ _ _ rfl HX2.out HN2.out (ev_one _) (by unfold maxLen; omega) (by omega) ?_)
    intro v8 w8 hown8 hgrow8 hwh8 hsame8
    have ho8 : Only (fun k => vV.ownBlock = some k) w2 w8 := by rw [hvV]; exact Only.of_grown hgrow8
    have hR := HP2.out.addV ho8 E (vV' := v8) (by rw [List.length_append, List.flatMap_append]; exact hown8) (fun q hq => by rw [hvV]; exact hwh8 q hq)
    have HR := hide hR
    have hb8 := (ho8.block xb hyb2 (own_apart_blk HP2.out.rV HP2.out.blk (by decide))).trans HP2.out.blk
    have c8 : w8.cell? ⟨xb, 4, none⟩ = some vV := arr_cell hb8 4
    have cF8 : ∀ j, w8.frozen? ⟨xb, j, none⟩ = false := fun j => arr_frozen hb8 j
    have hyb8 : xb < w8.heap.size := lt_of_block hb8
    rw [hvV] at c8
    obtain ⟨ya, yc, hy8⟩ := own_slice hown8
    subst hy8
    clear hown8 hgrow8 hwh8 hsame8 hR hb8 ho8
    go_wp2
    go_end0
    obtain ⟨F8, hP8, hS8⟩ := HR.out
    exact ⟨rfl, F8, _, _, v2, R2, hP8, HPO.out.ents, ((Stp.below HW1.out.1).trans HS2.out).trans hS8⟩

end Go.Proofs.YtajphdppmdoalaaGreat

namespace Go.Proofs.YtajphdppmdoalaaGreat
open Go.RowKit
set_option linter.unusedVariables false

set_option maxRecDepth 100000 in
set_option maxHeartbeats 800000 in
theorem ccome_any (xb : Nat) (S : Cl) (F : Nat → Prop) (seq : Nat) (frm : Int) (p : Pk) (w : World) (h : PrIs w xb S F) (hs : Sml S) (hu : Uq S.ents) (hp : PkB p) :
    Calls Tryz.prog 81 #[.pointer (some ⟨xb, 0, none⟩), .agg #[.int .i64 seq, .int .i64 frm, .int .i64 (ownerM S p), .int .u16 p.src, .int .u16 p.dst, .int .u8 p.proto, .int .u16 p.id, .int .u8 p.off, .bool p.more, .int .u16 p.sport, .int .u16 p.dport, .slice none 0 0, .int .i64 p.dlen]] w fun e w' => e = .returned (.tuple #[]) ∧ ∃ F', PrIs w' xb (pieceM S seq p) F' ∧ Stp w w' F F' := by
  obtain ⟨gS, cs, vT, vV, vN, RR, Fs, h, hr, he⟩ := h
  have hps := piece_store S seq p hs.cok hu
  have hsm := piece_same S seq p
  have hown : 0 ≤ ownerM S p ∧ ownerM S p < (cs.size : Int) := by
    have := hs.cok.reps
    rw [hr] at this
    unfold ownerM
    rw [hr]
    exact ⟨Int.emod_nonneg _ (by omega), Int.emod_lt_of_pos _ (by omega)⟩
  have HPS := hide (And.intro hps hsm)
  obtain ⟨o, ho⟩ : ∃ o : Nat, ownerM S p = (o : Int) := Int.eq_ofNat_of_zero_le hown.1
  rw [ho] at hown HPS
  rw [ho]
  have hoc : o < cs.size := by omega
  obtain ⟨vE, hcE, hst⟩ := h.st o hoc
  obtain ⟨f1, f2, f3, f4, f5⟩ := few_of S hs o (RR o) (he o hoc)
  have hel : ∀ e ∈ entsM S o, e.pcs.length ≤ 1000 := by
    intro e hem
    rw [← he o hoc] at hem
    obtain ⟨r, hr', rfl⟩ := List.mem_map.1 hem
    exact (f1.2 r hr').1
  have hcl := come_len (entsM S o) o S.now seq p (chosenM S p) (!S.slots.isEmpty) hel
  have hevl : S.evs.length ≤ 2000000000000 := by
    have h1 := hs.cnt
    have h2 := hs.next
    simp only [seqsM, List.length_append, List.length_map] at h1
    omega
  have HCH := hide (fun wz (hb : Below w.heap.size w wz) => choose_any xb S F gS cs vT vV vN RR Fs _ p.src p.dst p.proto p.id p.off p.more p.sport p.dport none 0 0 wz (h.below hb) hs.slots hp.src.1 hp.src.2 hp.dst.1 hp.dst.2 hp.proto.1 hp.proto.2 hp.id.1 hp.id.2 hp.off.1 (by have := hp.off.2; omega) hp.sport.1 hp.sport.2 hp.dport.1 hp.dport.2)
  have hbe : S.slots.getD ((flH p.src p.dst p.proto p.sport p.dport).toNat % 31) 0 = chosenM S p := rfl
  rw [hbe] at HCH
  have hgF : ¬ Fs o gS := fun hh => (h.sub o gS hh).2.1 rfl
  have HCO := hide (fun wz (hb : Below w.heap.size w wz) => come_any gS o cs vE (RR o) S.now (Fs o) (o : Int) seq p (chosenM S p) (!S.slots.isEmpty) wz ((hb.block gS (h.flt gS h.fg)).trans h.stB) hcE (hst.below hb) hgF f1 f2 f3 hp.off.1 (by have := hp.off.2; omega) (by have := hp.dlen; omega) (by have := hp.off.2; have := hp.dlen; omega) f4)
  rw [he o hoc] at HCO
  unfold Pk.pc at HCO
  refine (ccome_core xb S F gS cs vT vV vN RR Fs (fun _ => S.now) S.now o seq frm p _ _ _ _ w h hoc (by have := hs.reps; omega) hevl hcl HCH HCO).mono ?_
  rintro e w' ⟨rfl, F8, Fs', vV', v2, R2, hP8, hL, hS8⟩
  obtain ⟨⟨q1, q2, q3, q4⟩, s1, s2, s3, s4, s5, s6⟩ := HPS.out
  refine ⟨rfl, F8, ⟨gS, _, vT, _, vN, _, _, (hP8.cong s2 s4 s5 q1 s6).tcong (fun j _ => ?_), ?_, ?_⟩, hS8⟩
  · rw [s3]
    split <;> rfl
  · rw [s1, hr, Array.size_setIfInBounds]
  · intro j hj
    rw [Array.size_setIfInBounds] at hj
    by_cases hjo : j = o
    · subst hjo
      simp only [if_true]
      rw [hL, q2]
    · simp only [if_neg hjo]
      rw [he j hj, q3 j (by omega)]

end Go.Proofs.YtajphdppmdoalaaGreat

namespace Go.Proofs.YtajphdppmdoalaaGreat
open Go.RowKit
set_option linter.unusedVariables false

end Go.Proofs.YtajphdppmdoalaaGreat

namespace Go.Proofs.YtajphdppmdoalaaGreat
set_option linter.unusedVariables false

/-- The table of some backends; of none: nothing. -/
def tblOf (zs : List Int) : List Int := if zs.length = 0 then [] else tbl zs
theorem tblOf_len (zs : List Int) : tblOf zs = [] ∨ (tblOf zs).length = 31 := by
  unfold tblOf
  split
  · exact .inl rfl
  · exact .inr (tbl_len zs)

/-- The packet that bytes are, if they are one. -/
def upK (zs : List Int) : Option Pk := if upC zs = 0 then some ⟨(upP zs).src, (upP zs).dst, (upP zs).proto, (upP zs).id, (upP zs).off, (upP zs).more, (upP zs).sport, (upP zs).dport, (upP zs).data.length⟩ else none

theorem spOf_bd (h8 : Int) : ∀ r : List Int, (∀ z ∈ r, 0 ≤ z ∧ z ≤ 255) → 0 ≤ spOf h8 r ∧ spOf h8 r ≤ 65535
  | [], _ => by simp [spOf]
  | [_], _ => by simp [spOf]
  | p0 :: p1 :: t, hb => by
    have := hb p0 (by simp)
    have := hb p1 (by simp)
    simp only [spOf]
    split <;> omega
theorem dpOf_bd (h8 : Int) : ∀ r : List Int, (∀ z ∈ r, 0 ≤ z ∧ z ≤ 255) → 0 ≤ dpOf h8 r ∧ dpOf h8 r ≤ 65535
  | [], _ => by simp [dpOf]
  | [_], _ => by simp [dpOf]
  | [_, _], _ => by simp [dpOf]
  | [_, _, _], _ => by simp [dpOf]
  | p0 :: p1 :: p2 :: p3 :: t, hb => by
    have := hb p2 (by simp)
    have := hb p3 (by simp)
    simp only [dpOf]
    split <;> omega
theorem upK_ok (zs : List Int) (hz : ∀ z ∈ zs, 0 ≤ z ∧ z ≤ 255) (p : Pk) (h : upK zs = some p) : PkB p ∧ (wholePk p = false → PkOK p) := by
  unfold upK at h
  split at h
  · rename_i h0
    simp only [Option.some.injEq] at h
    subst h
    match zs, hz, h0 with
    | h0 :: h1 :: h2 :: h3 :: h4 :: h5 :: h6 :: h7 :: h8 :: h9 :: h10 :: h11 :: r, hz, hc =>
      have hb : ∀ z ∈ r, 0 ≤ z ∧ z ≤ 255 := fun z hz' => hz z (by simp [hz'])
      have b1 := hz h1 (by simp)
      have b2 := hz h2 (by simp)
      have b3 := hz h3 (by simp)
      have b4 := hz h4 (by simp)
      have b5 := hz h5 (by simp)
      have b6 := hz h6 (by simp)
      have b7 := hz h7 (by simp)
      have b8 := hz h8 (by simp)
      simp only [upC] at hc
      split at hc
      · omega
      split at hc
      · omega
      split at hc
      · omega
      split at hc
      · omega
      rename_i hw
      simp only [Bool.not_eq_false] at hw
      have hsp := spOf_bd h8 r hb
      have hdp := dpOf_bd h8 r hb
      simp only [upP]
      generalize (dtOf h8 r).length = n at *
      generalize spOf h8 r = sp at *
      generalize dpOf h8 r = dp at *
      unfold wfB at hw
      simp only [Bool.and_eq_true, decide_eq_true_eq, Bool.or_eq_true, Bool.not_eq_true'] at hw
      obtain ⟨⟨⟨w1, w2⟩, w3⟩, w4⟩ := hw
      refine ⟨⟨by simp only; omega, by simp only; omega, by simp only; omega, by simp only; omega, by simp only; omega, by simp only; omega, by simp only; omega, by simp only; omega⟩, fun hp => ⟨by simp only; omega, ?_⟩⟩
      unfold wholePk at hp
      simp only [Bool.and_eq_false_iff, decide_eq_false_iff_not, Bool.not_eq_false'] at hp
      simp only
      rcases hp with hp | hp
      · rcases w4 with w4 | w4
        · exact absurd w4 hp
        · omega
      · rcases w3 with w3 | w3
        · rw [hp] at w3; cases w3
        · omega
  · cases h

end Go.Proofs.YtajphdppmdoalaaGreat

namespace Go.Proofs.YtajphdppmdoalaaGreat
open Go.RowKit
set_option linter.unusedVariables false

set_option maxRecDepth 100000 in
set_option maxHeartbeats 800000 in
theorem whole_any (src dst proto id off : Int) (more : Bool) (sport dport : Int) (ao : Option Addr) (n cap : Nat) (w : World) :
    Calls Tryz.prog 72 #[.agg #[.int .u16 src, .int .u16 dst, .int .u8 proto, .int .u16 id, .int .u8 off, .bool more, .int .u16 sport, .int .u16 dport, .slice ao n cap]] w fun e w' => e = .returned (.bool (decide (off = 0) && !more)) ∧ Below w.heap.size w w' := by
  by_cases h : off = 0
  · subst h
    go_enter Tryz.func72, Tryz.ntmps72
    go_wp2
    go_ret
    exact ⟨by simp, (Below.refl _ _).alloc (Nat.le_refl _) _⟩
  · have hb : (off == 0) = false := by simp [h]
    go_enter Tryz.func72, Tryz.ntmps72
    go_wp2
    go_ret
    exact ⟨by simp [h], (Below.refl _ _).alloc (Nat.le_refl _) _⟩

set_option maxRecDepth 100000 in
set_option maxHeartbeats 1600000 in
theorem pass_core (xb : Nat) (S : Cl) (F : Nat → Prop) (gS : Nat) (cs : Array Value) (vT vV vN : Value) (RR : Nat → List PE) (Fs : Nat → Nat → Prop) (T : Nat → Int) (seq : Nat) (src dst proto id off : Int) (more : Bool) (sport dport : Int) (ao : Option Addr) (n cap : Nat) (bk ec : Int) (w : World) (h : PrC w xb S F gS cs vT vV vN RR Fs T) (hevl : S.evs.length ≤ 2000000000000)
    (HCH : Hid (∀ wz, Below w.heap.size w wz → Calls Tryz.prog 48 #[.pointer (some ⟨xb, 0, none⟩), .agg #[.int .u16 src, .int .u16 dst, .int .u8 proto, .int .u16 id, .int .u8 off, .bool more, .int .u16 sport, .int .u16 dport, .slice ao n cap]] wz fun e w' => e = .returned (.tuple #[.int .u8 bk, .int .i64 ec]) ∧ Below wz.heap.size wz w')) :
    Calls Tryz.prog 73 #[.pointer (some ⟨xb, 0, none⟩), .int .i64 seq, .agg #[.int .u16 src, .int .u16 dst, .int .u8 proto, .int .u16 id, .int .u8 off, .bool more, .int .u16 sport, .int .u16 dport, .slice ao n cap]] w fun e w' => e = .returned (.tuple #[]) ∧ ∃ F' vV', PrC w' xb (if ec = 0 then toldM S seq 0 bk else toldM S seq 2 0) F' gS cs vT vV' vN RR Fs T ∧ Stp w w' F F' := by
  have HB0 : Hid (Below w.heap.size w (w.alloc (.cells #[.int .u16 src, .int .u16 dst, .int .u8 proto, .int .u16 id, .int .u8 off, .bool more, .int .u16 sport, .int .u16 dport, .slice ao n cap] 40))) := (Below.refl _ _).alloc (Nat.le_refl _) _
  have HTE := hide (fun (f whr : Int) wz (hb : Below w.heap.size w wz) => tell_any xb S F gS cs vT vV vN RR Fs T seq f whr wz (h.below hb) hevl)
  clear h
  by_cases hec : ec = 0
  · subst hec
    rw [if_pos rfl]
    go_enter Tryz.func73, Tryz.ntmps73
    go_wp2_with fail
    refine (HCH.out _ HB0.out).mono ?_
    rintro e w1 ⟨rfl, hb1⟩
    have HB1 : Hid (Below w.heap.size w w1) := HB0.out.trans (hb1.mono (by simp))
    clear hb1
    go_wp2_with fail
    refine (HTE.out 0 bk _ HB1.out).mono ?_
    rintro e w2 ⟨rfl, F', vV', h1, h2⟩
    have HR := hide (And.intro h1 h2)
    clear h1 h2
    go_wp2
    go_end0
    exact ⟨rfl, F', vV', HR.out.1, (Stp.below HB1.out).trans HR.out.2⟩
  · have hb0 : (ec != 0) = true := by simpa using hec
    rw [if_neg hec]
    go_enter Tryz.func73, Tryz.ntmps73
    go_wp2_with fail
    refine (HCH.out _ HB0.out).mono ?_
    rintro e w1 ⟨rfl, hb1⟩
    have HB1 : Hid (Below w.heap.size w w1) := HB0.out.trans (hb1.mono (by simp))
    clear hb1
    go_wp2_with fail
    refine (HTE.out 2 0 _ HB1.out).mono ?_
    rintro e w2 ⟨rfl, F', vV', h1, h2⟩
    have HR := hide (And.intro h1 h2)
    clear h1 h2
    go_wp2
    refine bodyPost_ret (v := .tuple #[]) ?_ rfl ⟨rfl, F', vV', HR.out.1, (Stp.below HB1.out).trans HR.out.2⟩
    go_light
    simp [results, Tryz.results73, go_sem]

theorem Tryz.infoFt : (Tryz.prog.info? 114).map (fun i => (i.zero, i.size, i.bytes)) = some (some (.agg #[.int .i64 0, .int .i64 0, .int .i64 0, .int .u16 0, .int .u16 0, .int .u8 0, .int .u16 0, .int .u8 0, .bool false, .int .u16 0, .int .u16 0, .slice none 0 0, .int .i64 0]), 13, 72) := by kernel_rfl
/-- One more is on its way. -/
theorem PrC.addN {w w2 : World} {xb : Nat} {S : Cl} {F : Nat → Prop} {gS : Nat} {cs : Array Value} {vT vV vN vN' : Value} {RR : Nat → List PE} {Fs : Nat → Nat → Prop} {T : Nat → Int} (h : PrC w xb S F gS cs vT vV vN RR Fs T) (ho : Only (fun k => vN.ownBlock = some k) w w2) (s : Snt)
    (hrow : w2.ownsRow 0 114 13 vN' (S.sent ++ [s]).length ((S.sent ++ [s]).flatMap Snt.pcells)) (lN : ∀ g, vN'.ownBlock = some g → vN.ownBlock = some g ∨ w.heap.size ≤ g) :
    ∃ F', PrC (w2.setCell ⟨xb, 5, none⟩ vN') xb { S with sent := S.sent ++ [s] } F' gS cs vT vV vN' RR Fs T ∧ Stp w (w2.setCell ⟨xb, 5, none⟩ vN') F F' := by
  have hbx : w2.heap[xb]? = _ := (ho.block xb h.lt (own_apart_blk h.rN h.blk (by decide))).trans h.blk
  have hb2 := row_setCell (j := 5) hbx vN'
  have hT2 := own_only h.rT ho (fun g hg hh => own_apart' h.rT h.rN (by decide) hg hh)
  have hV2 := own_only h.rV ho (fun g hg hh => own_apart' h.rV h.rN (by decide) hg hh)
  have ho2 : Only (fun k => k = xb ∨ vN.ownBlock = some k) w (w2.setCell ⟨xb, 5, none⟩ vN') := (ho.mono (fun k _ hk => .inr hk)).setCell (fun _ => .inl rfl) _
  obtain ⟨h1, h2⟩ := h.upd ho2 (fun k hk => hk.elim .inl (fun hk => .inr (.inr (.inr hk)))) { S with sent := S.sent ++ [s] } vT vV vN' (by simpa using hb2) (own_set' hT2 hbx (by decide) _) (own_set' hV2 hbx (by decide) _) (own_set' hrow hbx (by decide) _) (fun g hg => .inl hg) (fun g hg => .inl hg) lN
  exact ⟨_, h1, h2⟩

set_option maxRecDepth 100000 in
set_option maxHeartbeats 3200000 in
theorem send_here (xb : Nat) (seq o : Nat) (frm : Int) (src dst proto id off : Int) (more : Bool) (sport dport : Int) (ao : Option Addr) (n cap : Nat) (Q : World → World → Prop) (w : World) (hn : n ≤ 1000) (hfo : frm = (o : Int))
    (HOW : Hid (∀ wz, Below w.heap.size w wz → Calls Tryz.prog 50 #[.pointer (some ⟨xb, 0, none⟩), .agg #[.int .u16 src, .int .u16 dst, .int .u8 proto, .int .u16 id, .int .u8 off, .bool more, .int .u16 sport, .int .u16 dport, .slice ao n cap]] wz fun e w' => e = .returned (.int .i64 o) ∧ Below wz.heap.size wz w'))
    (HCM : Hid (∀ wz, Below w.heap.size w wz → Calls Tryz.prog 81 #[.pointer (some ⟨xb, 0, none⟩), .agg #[.int .i64 seq, .int .i64 frm, .int .i64 o, .int .u16 src, .int .u16 dst, .int .u8 proto, .int .u16 id, .int .u8 off, .bool more, .int .u16 sport, .int .u16 dport, .slice none 0 0, .int .i64 n]] wz fun e w' => e = .returned (.tuple #[]) ∧ Q wz w')) :
    Calls Tryz.prog 74 #[.pointer (some ⟨xb, 0, none⟩), .int .i64 seq, .int .i64 frm, .agg #[.int .u16 src, .int .u16 dst, .int .u8 proto, .int .u16 id, .int .u8 off, .bool more, .int .u16 sport, .int .u16 dport, .slice ao n cap]] w fun e w' => e = .returned (.tuple #[]) ∧ ∃ wz, Below w.heap.size w wz ∧ Q wz w' := by
  have HOF := hide (fun w => pof_any src dst proto id off more sport dport ao n cap w hn)
  have HW0 : Hid (FxW w.heap.size w #[.int .u16 src, .int .u16 dst, .int .u8 proto, .int .u16 id, .int .u8 off, .bool more, .int .u16 sport, .int .u16 dport, .slice ao n cap] (w.alloc (.cells #[.int .u16 src, .int .u16 dst, .int .u8 proto, .int .u16 id, .int .u8 off, .bool more, .int .u16 sport, .int .u16 dport, .slice ao n cap] 40))) := ⟨(Below.refl _ _).alloc (Nat.le_refl _) _, by simp, box_cell (Below.refl _ _)⟩
  subst hfo
  go_enter Tryz.func74, Tryz.ntmps74
  go_wp2_with fail
  refine (HOW.out _ HW0.out.1).mono ?_
  rintro e w1 ⟨rfl, hb1⟩
  have HW1 := hide (HW0.out.below hb1)
  have cX := HW1.out.2.2
  have hX1 := HW1.out.2.1
  clear hb1 HW0 HOW
  go_wp2_with fail
  refine (HOF.out _).mono ?_
  rintro e w2 ⟨rfl, hb2⟩
  have HW2 := hide (HW1.out.below hb2)
  have HW3 := hide (HW2.out.alloc (.cells #[.int .i64 seq, .int .i64 o, .int .i64 o, .int .u16 src, .int .u16 dst, .int .u8 proto, .int .u16 id, .int .u8 off, .bool more, .int .u16 sport, .int .u16 dport, .slice none 0 0, .int .i64 n] 114))
  clear hb2 cX hX1 HW1 HOF
  go_wp2_with fail
  refine (HCM.out _ HW3.out.1).mono ?_
  rintro e w4 ⟨rfl, hq⟩
  have HQ := hide hq
  clear hq
  go_wp2
  refine bodyPost_ret (v := .tuple #[]) ?_ rfl ⟨rfl, _, HW3.out.1, HQ.out⟩
  go_light
  simp [results, Tryz.results74, go_sem]

set_option maxRecDepth 100000 in
set_option maxHeartbeats 3200000 in
theorem send_away (xb : Nat) (S : Cl) (F : Nat → Prop) (gS : Nat) (cs : Array Value) (vT vV vN : Value) (RR : Nat → List PE) (Fs : Nat → Nat → Prop) (T : Nat → Int) (seq o : Nat) (frm : Int) (src dst proto id off : Int) (more : Bool) (sport dport : Int) (ao : Option Addr) (n cap : Nat) (w : World) (h : PrC w xb S F gS cs vT vV vN RR Fs T) (hn : n ≤ 1000) (hfo : frm ≠ (o : Int)) (hsl : S.sent.length ≤ 1900000000000)
    (HOW : Hid (∀ wz, Below w.heap.size w wz → Calls Tryz.prog 50 #[.pointer (some ⟨xb, 0, none⟩), .agg #[.int .u16 src, .int .u16 dst, .int .u8 proto, .int .u16 id, .int .u8 off, .bool more, .int .u16 sport, .int .u16 dport, .slice ao n cap]] wz fun e w' => e = .returned (.int .i64 o) ∧ Below wz.heap.size wz w')) :
    Calls Tryz.prog 74 #[.pointer (some ⟨xb, 0, none⟩), .int .i64 seq, .int .i64 frm, .agg #[.int .u16 src, .int .u16 dst, .int .u8 proto, .int .u16 id, .int .u8 off, .bool more, .int .u16 sport, .int .u16 dport, .slice ao n cap]] w fun e w' => e = .returned (.tuple #[]) ∧ ∃ F' vN', PrC w' xb { S with sent := S.sent ++ [⟨seq, frm, o, ⟨src, dst, proto, id, off, more, sport, dport, n⟩⟩] } F' gS cs vT vV vN' RR Fs T ∧ Stp w w' F F' := by
  have HOF := hide (fun w => pof_any src dst proto id off more sport dport ao n cap w hn)
  have HW0 : Hid (FxW w.heap.size w #[.int .u16 src, .int .u16 dst, .int .u8 proto, .int .u16 id, .int .u8 off, .bool more, .int .u16 sport, .int .u16 dport, .slice ao n cap] (w.alloc (.cells #[.int .u16 src, .int .u16 dst, .int .u8 proto, .int .u16 id, .int .u8 off, .bool more, .int .u16 sport, .int .u16 dport, .slice ao n cap] 40))) := ⟨(Below.refl _ _).alloc (Nat.le_refl _) _, by simp, box_cell (Below.refl _ _)⟩
  have hne : (o : Int) ≠ frm := fun hh => hfo hh.symm
  have HH := hide h
  have hyb := h.lt
  have c5 : w.cell? ⟨xb, 5, none⟩ = some vN := arr_cell h.blk 5
  obtain ⟨na, nc, hvN⟩ := own_slice h.rN
  rw [hvN] at c5
  clear h hfo
  go_enter Tryz.func74, Tryz.ntmps74
  go_wp2_with fail
  refine (HOW.out _ HW0.out.1).mono ?_
  rintro e w1 ⟨rfl, hb1⟩
  have HW1 := hide (HW0.out.below hb1)
  have cX := HW1.out.2.2
  have hX1 := HW1.out.2.1
  clear hb1 HW0 HOW
  go_wp2_with fail
  refine (HOF.out _).mono ?_
  rintro e w2 ⟨rfl, hb2⟩
  have HW2 := hide (HW1.out.below hb2)
  have HW3 := hide (HW2.out.alloc (.cells #[.int .i64 seq, .int .i64 frm, .int .i64 o, .int .u16 src, .int .u16 dst, .int .u8 proto, .int .u16 id, .int .u8 off, .bool more, .int .u16 sport, .int .u16 dport, .slice none 0 0, .int .i64 n] 114))
  have cB := box_cell (Below.refl (w2.heap.size + 1) (w2.alloc (.cells #[.int .i64 seq, .int .i64 frm, .int .i64 o, .int .u16 src, .int .u16 dst, .int .u8 proto, .int .u16 id, .int .u8 off, .bool more, .int .u16 sport, .int .u16 dport, .slice none 0 0, .int .i64 n] 114)))
  have hz3 : (w2.alloc (.cells #[.int .i64 seq, .int .i64 frm, .int .i64 o, .int .u16 src, .int .u16 dst, .int .u8 proto, .int .u16 id, .int .u8 off, .bool more, .int .u16 sport, .int .u16 dport, .slice none 0 0, .int .i64 n] 114)).heap.size = w2.heap.size + 1 := by simp
  have hX2 := HW2.out.2.1
  clear hb2 cX hX1 HW1 HOF
  go_wp2_with fail
  generalize w2.alloc (.cells #[.int .i64 seq, .int .i64 frm, .int .i64 o, .int .u16 src, .int .u16 dst, .int .u8 proto, .int .u16 id, .int .u8 off, .bool more, .int .u16 sport, .int .u16 dport, .slice none 0 0, .int .i64 n] 114) = w3 at *
  generalize w2.heap.size = D at *
  have hP3 := HH.out.below HW3.out.1
  have HP3 := hide hP3
  have d5 : w3.cell? ⟨xb, 5, none⟩ = some (.slice na S.sent.length nc) := (HW3.out.1.cell (p := ⟨xb, 5, none⟩) hyb).trans c5
  have HRN := hide hP3.rN
  rw [hvN] at HRN
  have hxw3 : xb < w3.heap.size := hP3.lt
  have hD3 : D < w3.heap.size := by omega
  have HB3 := hide hP3.blk
  have HAP : Hid ((Value.slice na S.sent.length nc).ownBlock ≠ some xb) := own_apart_blk HRN.out HB3.out (by decide)
  obtain ⟨i0, hi, hq0, hq1, hq2⟩ := info_parts Tryz.infoFt
  clear hP3 hz3 c5
  go_region_law (refine step_append_lies _ rfl (.tmp 30) (.tmp 32) 67 rfl 0 114 i0 _ 13 72 Tryz.underlying67 hi hq0 hq1 hq2 rfl (by decide) _ S.sent.length _ rfl (World.ownsRow.alloc HRN.out _) ⟨w3.heap.size, 0, none⟩ 1 1 [.int .i64 seq, .int .i64 frm, .int .i64 o, .int .u16 src, .int .u16 dst, .int .u8 proto, .int .u16 id, .int .u8 off, .bool more, .int .u16 sport, .int .u16 dport, .slice none 0 0, .int .i64 n] rfl rfl (cells_new _ _ _) (by simp [Value.oneCell']) (by decide) (by unfold maxLen; omega) (by omega) (Nat.zero_le _) _ rfl ?_; intro g10 cp10 wy hown10 hgrow10 hwh10 hlt10; have yb : wy.heap[xb]? = _ := (hgrow10.block xb (by simp; omega) (fun hh => HAP.out hh.symm)).trans ((Below.heap_alloc _ _ _ hxw3).trans HB3.out); have y5 : wy.cell? ⟨xb, 5, none⟩ = some vN := arr_cell yb 5; have yf := arr_frozen yb 5; have yz : xb < wy.heap.size := lt_of_block yb)
  all_goals (rw [hvN] at y5)
  all_goals go_wp2
  all_goals go_end0
  all_goals
    have ho2 : Only (fun k => vN.ownBlock = some k) w3 wy := by rw [hvN]; exact (((Only.refl _ w3).alloc (.cells #[.int .i64 seq, .int .i64 frm, .int .i64 o, .int .u16 src, .int .u16 dst, .int .u8 proto, .int .u16 id, .int .u8 off, .bool more, .int .u16 sport, .int .u16 dport, .slice none 0 0, .int .i64 n] 114)).drewN 1).grown hgrow10 (fun k _ hk => hk)
    have hadd := HP3.out.addN ho2 ⟨seq, frm, o, ⟨src, dst, proto, id, off, more, sport, dport, n⟩⟩ (vN' := .slice (some ⟨g10, 0, none⟩) (S.sent.length + 1) cp10) (by
      rw [List.length_append, List.flatMap_append]
      exact hown10) (fun q hq => by
      rw [hvN]
      simp only [Value.ownBlock, Option.some.injEq] at hq
      subst hq
      rcases hwh10 with hh | hh
      · exact .inl hh
      · right
        have : g10 = w3.heap.size + 1 := by rw [hh]; simp
        omega)
    obtain ⟨F', h1, h2⟩ := hadd
    exact ⟨rfl, F', _, h1, (Stp.below HW3.out.1).trans h2⟩

end Go.Proofs.YtajphdppmdoalaaGreat
