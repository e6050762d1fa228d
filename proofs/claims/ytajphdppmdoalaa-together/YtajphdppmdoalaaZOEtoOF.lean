import Derived.Test.YtajphdppmdoalaaZOBtoOC
import Derived.Deep.DeepCutAuto
namespace Go.Proofs.Ytajphdppmdoalaa
open Go.RowKit
set_option linter.unusedVariables false

theorem PrC.cong {w : World} {xb : Nat} {S S' : Cl} {F : Nat → Prop} {gS : Nat} {cs : Array Value} {vT vV vN : Value} {RR : Nat → List PE} {Fs : Nat → Nat → Prop} {T : Nat → Int} (h : PrC w xb S F gS cs vT vV vN RR Fs T) (h1 : S'.life = S.life) (h2 : S'.next = S.next) (h3 : S'.slots = S.slots) (h4 : S'.evs = S.evs) (h5 : S'.sent = S.sent) : PrC w xb S' F gS cs vT vV vN RR Fs T :=
  ⟨by rw [h1, h2]; exact h.blk, h.stB, h.st, by rw [h3]; exact h.rT, by rw [h4]; exact h.rV, by rw [h5]; exact h.rN, h.dis, h.sub, h.fx, h.fg, h.fT, h.fV, h.fN, h.flt⟩
theorem PrC.tcong {w : World} {xb : Nat} {S : Cl} {F : Nat → Prop} {gS : Nat} {cs : Array Value} {vT vV vN : Value} {RR : Nat → List PE} {Fs : Nat → Nat → Prop} {T T' : Nat → Int} (h : PrC w xb S F gS cs vT vV vN RR Fs T) (hT : ∀ o, o < cs.size → T' o = T o) : PrC w xb S F gS cs vT vV vN RR Fs T' :=
  ⟨h.blk, h.stB, fun o ho => by rw [hT o ho]; exact h.st o ho, h.rT, h.rV, h.rN, h.dis, h.sub, h.fx, h.fg, h.fT, h.fV, h.fN, h.flt⟩
theorem come_len (L : List Ent) (own now : Int) (seq : Nat) (p : Pk) (b : Int) (ok : Bool) (h : ∀ e ∈ L, e.pcs.length ≤ 1000) : (comeS L own now seq p b ok).2.length ≤ 1001 := by
  unfold comeS
  simp only
  split
  · simp
  · split
    · simp
    · rename_i e he
      have hmem : e.pcs.length ≤ 1000 := by
        have := List.mem_of_getElem? he
        unfold begS at this
        split at this
        · exact h e this
        · rcases List.mem_append.1 this with h1 | h1
          · exact h e h1
          · rw [List.mem_singleton.1 h1]; simp [newS]
      unfold takenB
      simp only
      split
      · simp only [List.length_cons, List.length_map]
        have : (waitL e).length ≤ e.pcs.length := List.length_filter_le _ _
        omega
      · simp

set_option maxRecDepth 100000 in
set_option maxHeartbeats 3200000 in
theorem ccome_core (xb : Nat) (S : Cl) (F : Nat → Prop) (gS : Nat) (cs : Array Value) (vT vV vN : Value) (RR : Nat → List PE) (Fs : Nat → Nat → Prop) (T : Nat → Int) (t : Int) (o seq : Nat) (frm : Int) (p : Pk) (bk ec : Int) (L : List Ent) (E : List Ev) (w : World) (h : PrC w xb S F gS cs vT vV vN RR Fs T) (hoc : o < cs.size) (hn5 : cs.size ≤ 5) (hevl : S.evs.length ≤ 2000000000000) (hcl : E.length ≤ 1001)
    (HCH : Hid (∀ wz, Below w.heap.size w wz → Calls Try.prog 18 #[.pointer (some ⟨xb, 0, none⟩), .agg #[.int .u16 p.src, .int .u16 p.dst, .int .u8 p.proto, .int .u16 p.id, .int .u8 p.off, .bool p.more, .int .u16 p.sport, .int .u16 p.dport, .slice none 0 0]] wz fun e w' => e = .returned (.tuple #[.int .u8 bk, .int .i64 ec]) ∧ Below wz.heap.size wz w'))
    (HCO : Hid (∀ wz, Below w.heap.size w wz → Calls Try.prog 58 #[.pointer (some ⟨gS, o, none⟩), .int .i64 seq, .agg #[.int .u16 p.src, .int .u16 p.dst, .int .u8 p.proto, .int .u16 p.id, .int .u8 p.off, .bool p.more, .int .u16 p.sport, .int .u16 p.dport, .slice none 0 0, .int .i64 p.dlen], .int .u8 bk, .int .i64 ec] wz fun e w' => ∃ v v2 R', e = .returned v ∧ StPost wz w' gS o cs t (Fs o) L E v v2 R')) :
    Calls Try.prog 53 #[.pointer (some ⟨xb, 0, none⟩), .agg #[.int .i64 seq, .int .i64 frm, .int .i64 o, .int .u16 p.src, .int .u16 p.dst, .int .u8 p.proto, .int .u16 p.id, .int .u8 p.off, .bool p.more, .int .u16 p.sport, .int .u16 p.dport, .slice none 0 0, .int .i64 p.dlen]] w fun e w' => e = .returned (.tuple #[]) ∧ ∃ F' Fs' vV' v2 R2, PrC w' xb { S with evs := S.evs ++ E } F' gS (cs.setIfInBounds o v2) vT vV' vN (fun j => if j = o then R2 else RR j) Fs' (fun j => if j = o then t else T j) ∧ R2.map PE.e = L ∧ Stp w w' F F' := by
  have HH := hide h
  have hyb := h.lt
  have dS : w.cell? ⟨xb, 0, none⟩ = some (.slice (some ⟨gS, 0, none⟩) cs.size cs.size) := arr_cell h.blk 0
  have HW0 : Hid (FxW w.heap.size w #[.int .i64 seq, .int .i64 frm, .int .i64 o, .int .u16 p.src, .int .u16 p.dst, .int .u8 p.proto, .int .u16 p.id, .int .u8 p.off, .bool p.more, .int .u16 p.sport, .int .u16 p.dport, .slice none 0 0, .int .i64 p.dlen] (w.alloc (.cells #[.int .i64 seq, .int .i64 frm, .int .i64 o, .int .u16 p.src, .int .u16 p.dst, .int .u8 p.proto, .int .u16 p.id, .int .u8 p.off, .bool p.more, .int .u16 p.sport, .int .u16 p.dport, .slice none 0 0, .int .i64 p.dlen] 95))) := ⟨(Below.refl _ _).alloc (Nat.le_refl _) _, by simp, box_cell (Below.refl _ _)⟩
  obtain ⟨va, vc, hvV⟩ := own_slice h.rV
  clear h
  go_enter Try.func53, Try.ntmps53
  go_wp2_with fail
  refine (HCH.out _ HW0.out.1).mono ?_
  rintro e w1 ⟨rfl, hb1⟩
  have HW1 := hide (HW0.out.below hb1)
  have cX := HW1.out.2.2
  have hX1 := HW1.out.2.1
  have d1 := (HW1.out.1.cell (p := ⟨xb, 0, none⟩) hyb).trans dS
  have hx1 : xb < w1.heap.size := by omega
  have HW1d := hide HW1.out.drew
  clear hb1 HW0 HCH
  go_upto_region 4 with (fail)
  go_cut [7] (fun a7 wc => ∃ (v v2 : Value) (R2 : List PE), v = a7 ∧ Hid (StPost w1 wc gS o cs t (Fs o) L E v v2 R2))
  case first =>
    go_region_with (go_at_call 58; refine (HCO.out _ HW1d.out.1).mono ?_; rintro e w6 ⟨v, v2, R2, rfl, hpo⟩)
    all_goals (go_wp2_with fail; go_meet)
    all_goals (case rel =>
      go_light
      exact ⟨_, v2, R2, rfl, ⟨hpo.cell, hpo.is, hpo.ents, hpo.ev, hpo.nil, ((Only.refl _ w1).drewN 1).trans hpo.only (fun _ _ hh => hh)⟩⟩)
  case rest =>
    obtain ⟨a7, v2, R2, h7, HPO⟩ := hcut
    subst h7
    obtain ⟨w2, hw2⟩ : ∃ w2, w2 = wc := ⟨_, rfl⟩
    subst hw2
    have h1 := HH.out.below HW1.out.1
    obtain ⟨hP2, hS2⟩ := h1.store o v2 R2 t HPO.out.only HPO.out.cell HPO.out.is
    have HP2 := hide hP2
    have HS2 := hide hS2
    obtain ⟨i1, hi1, hp0, hp1, hp2⟩ := info_parts Try.infoEv
    have hyb2 := hP2.lt
    have c4 : w2.cell? ⟨xb, 4, none⟩ = some vV := arr_cell hP2.blk 4
    have cF : ∀ j, w2.frozen? ⟨xb, j, none⟩ = false := fun j => arr_frozen hP2.blk j
    rw [hvV] at c4
    have HX2 := hide (own_zero HPO.out.ev)
    have HN2 := hide HPO.out.nil
    have HRV := hide hP2.rV
    rw [hvV] at HRV
    obtain ⟨xa, xc, hx7⟩ := own_slice HX2.out
    subst hx7
    clear h1 hP2 hS2 cX d1 HW1d HCO dS
    go_wp2_with (at_builtin; refine wpList_append_row _ rfl (.tmp 48) (.tmp 49) 52 rfl 56 i1 _ 3 16 Try.underlying52 hi1 hp0 hp1 hp2 rfl (by decide) _ _ _ rfl HRV.out _ _ _ rfl HX2.out HN2.out (ev_one _) (by unfold maxLen; omega) (by omega) ?_)
    intro v8 w8 hown8 hgrow8 hwh8 hsame8
    have ho8 : Only (fun k => vV.ownBlock = some k) w2 w8 := by rw [hvV]; exact Only.of_grown hgrow8
    have hR := HP2.out.addV ho8 E (vV' := v8) (by rw [List.length_append, List.flatMap_append]; exact hown8) (fun q hq => by rw [hvV]; exact hwh8 q hq)
    have HR := hide hR
    have hb8 := (ho8.block xb hyb2 (own_apart_blk HP2.out.rV HP2.out.blk (by decide))).trans HP2.out.blk
    have c8 : w8.cell? ⟨xb, 4, none⟩ = some vV := arr_cell hb8 4
    have cF8 : ∀ j, w8.frozen? ⟨xb, j, none⟩ = false := fun j => arr_frozen hb8 j
    have hyb8 : xb < w8.heap.size := lt_of_block hb8
    rw [hvV] at c8
    obtain ⟨ya, yc, hy8⟩ := own_slice hown8
    subst hy8
    clear hown8 hgrow8 hwh8 hsame8 hR hb8 ho8
    go_wp2
    go_end0
    obtain ⟨F8, hP8, hS8⟩ := HR.out
    exact ⟨rfl, F8, _, _, v2, R2, hP8, HPO.out.ents, ((Stp.below HW1.out.1).trans HS2.out).trans hS8⟩

end Go.Proofs.Ytajphdppmdoalaa

namespace Go.Proofs.Ytajphdppmdoalaa
open Go.RowKit
set_option linter.unusedVariables false

set_option maxRecDepth 100000 in
set_option maxHeartbeats 800000 in
theorem ccome_any (xb : Nat) (S : Cl) (F : Nat → Prop) (seq : Nat) (frm : Int) (p : Pk) (w : World) (h : PrIs w xb S F) (hs : Sml S) (hu : Uq S.ents) (hp : PkB p) :
    Calls Try.prog 53 #[.pointer (some ⟨xb, 0, none⟩), .agg #[.int .i64 seq, .int .i64 frm, .int .i64 (ownerM S p), .int .u16 p.src, .int .u16 p.dst, .int .u8 p.proto, .int .u16 p.id, .int .u8 p.off, .bool p.more, .int .u16 p.sport, .int .u16 p.dport, .slice none 0 0, .int .i64 p.dlen]] w fun e w' => e = .returned (.tuple #[]) ∧ ∃ F', PrIs w' xb (pieceM S seq p) F' ∧ Stp w w' F F' := by
  obtain ⟨gS, cs, vT, vV, vN, RR, Fs, h, hr, he⟩ := h
  have hps := piece_store S seq p hs.cok hu
  have hsm := piece_same S seq p
  have hown : 0 ≤ ownerM S p ∧ ownerM S p < (cs.size : Int) := by
    have := hs.cok.reps
    rw [hr] at this
    unfold ownerM
    rw [hr]
    exact ⟨Int.emod_nonneg _ (by omega), Int.emod_lt_of_pos _ (by omega)⟩
  have HPS := hide (And.intro hps hsm)
  obtain ⟨o, ho⟩ : ∃ o : Nat, ownerM S p = (o : Int) := Int.eq_ofNat_of_zero_le hown.1
  rw [ho] at hown HPS
  rw [ho]
  have hoc : o < cs.size := by omega
  obtain ⟨vE, hcE, hst⟩ := h.st o hoc
  obtain ⟨f1, f2, f3, f4, f5⟩ := few_of S hs o (RR o) (he o hoc)
  have hel : ∀ e ∈ entsM S o, e.pcs.length ≤ 1000 := by
    intro e hem
    rw [← he o hoc] at hem
    obtain ⟨r, hr', rfl⟩ := List.mem_map.1 hem
    exact (f1.2 r hr').1
  have hcl := come_len (entsM S o) o S.now seq p (chosenM S p) (!S.slots.isEmpty) hel
  have hevl : S.evs.length ≤ 2000000000000 := by
    have h1 := hs.cnt
    have h2 := hs.next
    simp only [seqsM, List.length_append, List.length_map] at h1
    omega
  have HCH := hide (fun wz (hb : Below w.heap.size w wz) => choose_any xb S F gS cs vT vV vN RR Fs _ p.src p.dst p.proto p.id p.off p.more p.sport p.dport none 0 0 wz (h.below hb) hs.slots hp.src.1 hp.src.2 hp.dst.1 hp.dst.2 hp.proto.1 hp.proto.2 hp.id.1 hp.id.2 hp.off.1 (by have := hp.off.2; omega) hp.sport.1 hp.sport.2 hp.dport.1 hp.dport.2)
  have hbe : S.slots.getD ((flH p.src p.dst p.proto p.sport p.dport).toNat % 31) 0 = chosenM S p := rfl
  rw [hbe] at HCH
  have hgF : ¬ Fs o gS := fun hh => (h.sub o gS hh).2.1 rfl
  have HCO := hide (fun wz (hb : Below w.heap.size w wz) => come_any gS o cs vE (RR o) S.now (Fs o) (o : Int) seq p (chosenM S p) (!S.slots.isEmpty) wz ((hb.block gS (h.flt gS h.fg)).trans h.stB) hcE (hst.below hb) hgF f1 f2 f3 hp.off.1 (by have := hp.off.2; omega) (by have := hp.dlen; omega) (by have := hp.off.2; have := hp.dlen; omega) f4)
  rw [he o hoc] at HCO
  unfold Pk.pc at HCO
  refine (ccome_core xb S F gS cs vT vV vN RR Fs (fun _ => S.now) S.now o seq frm p _ _ _ _ w h hoc (by have := hs.reps; omega) hevl hcl HCH HCO).mono ?_
  rintro e w' ⟨rfl, F8, Fs', vV', v2, R2, hP8, hL, hS8⟩
  obtain ⟨⟨q1, q2, q3, q4⟩, s1, s2, s3, s4, s5, s6⟩ := HPS.out
  refine ⟨rfl, F8, ⟨gS, _, vT, _, vN, _, _, (hP8.cong s2 s4 s5 q1 s6).tcong (fun j _ => ?_), ?_, ?_⟩, hS8⟩
  · rw [s3]
    split <;> rfl
  · rw [s1, hr, Array.size_setIfInBounds]
  · intro j hj
    rw [Array.size_setIfInBounds] at hj
    by_cases hjo : j = o
    · subst hjo
      simp only [if_true]
      rw [hL, q2]
    · simp only [if_neg hjo]
      rw [he j hj, q3 j (by omega)]

end Go.Proofs.Ytajphdppmdoalaa
