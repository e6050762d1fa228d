import Derived.Test.YtajphdppmdoalaaGreatZPLLtoOH
import Derived.Laws.MakeOwn
namespace Go.Proofs.YtajphdppmdoalaaGreat
open Go.RowKit
set_option linter.unusedVariables false

theorem has_keep {w w' : World} {G : Nat → Prop} {ao : Option Addr} {zs : List Int} (h : Has w ao zs) (ho : Only G w w') (hG : ∀ a, ao = some a → ¬ G a.block) : Has w' ao zs := by
  refine ⟨h.1, fun hz => ?_⟩
  obtain ⟨b, o, rfl, hlt, hc⟩ := h.2 hz
  exact ⟨b, o, rfl, Nat.lt_of_lt_of_le hlt ho.size, fun j hj => (ho.cell (p := ⟨b, o + j, none⟩) hlt (hG ⟨b, o, none⟩ rfl)).trans (hc j hj)⟩
/-- One more arrival. -/
theorem PrC.more {w : World} {xb : Nat} {S : Cl} {F : Nat → Prop} {gS : Nat} {cs : Array Value} {vT vV vN : Value} {RR : Nat → List PE} {Fs : Nat → Nat → Prop} {T : Nat → Int} (h : PrC w xb S F gS cs vT vV vN RR Fs T) :
    ∃ F', PrC (w.setCell ⟨xb, 3, none⟩ (.int .i64 ((S.next : Int) + 1))) xb { S with next := S.next + 1 } F' gS cs vT vV vN RR Fs T ∧ Stp w (w.setCell ⟨xb, 3, none⟩ (.int .i64 ((S.next : Int) + 1))) F F' := by
  have hb3 := row_setCell (j := 3) h.blk (.int .i64 ((S.next : Int) + 1))
  have ho : Only (fun k => k = xb) w (w.setCell ⟨xb, 3, none⟩ (.int .i64 ((S.next : Int) + 1))) := (Only.refl (fun k => k = xb) w).setG
  obtain ⟨h1, h2⟩ := h.upd ho (fun k hk => .inl hk) { S with next := S.next + 1 } vT vV vN (by simpa using hb3) (own_set' h.rT h.blk (by decide) _) (own_set' h.rV h.blk (by decide) _) (own_set' h.rN h.blk (by decide) _) (fun g hg => .inl hg) (fun g hg => .inl hg) (fun g hg => .inl hg)
  exact ⟨_, h1, h2⟩
theorem evs_few (S : Cl) (hs : Sml S) : S.evs.length ≤ S.next ∧ S.sent.length ≤ S.next := by
  have h1 := hs.cnt
  simp only [seqsM, List.length_append, List.length_map] at h1
  omega

set_option maxRecDepth 100000 in
set_option maxHeartbeats 800000 in
theorem arrive_any (xb : Nat) (S : Cl) (F : Nat → Prop) (rep : Int) (zs : List Int) (ao : Option Addr) (n cap : Nat) (w : World) (h : PrIs w xb S F) (hs : Sml S) (hu : Uq S.ents) (hnx : S.next ≤ 1900000000000) (hr0 : 0 ≤ rep) (hr1 : rep < S.reps)
    (hl : zs.length = n) (hcap : n ≤ cap) (hcm : cap ≤ maxLen) (hd : Has w ao zs) (hz : ∀ z ∈ zs, 0 ≤ z ∧ z ≤ 255) (hap : ∀ a, ao = some a → ¬ F a.block) :
    Calls Tryz.prog 40 #[.pointer (some ⟨xb, 0, none⟩), .int .i64 rep, .slice ao n cap] w fun e w' => e = .returned (.tuple #[.int .i64 S.next, .int .i64 0]) ∧ ∃ F', PrIs w' xb (arriveM S rep (upK zs)) F' ∧ Stp w w' F F' := by
  obtain ⟨gS, cs, vT, vV, vN, RR, Fs, h, hr, he⟩ := h
  have hel := evs_few S hs
  have hN1 : 1 ≤ cs.size := by have := hs.cok.reps; omega
  have hN5 : cs.size ≤ 5 := by have := hs.reps; omega
  have hs1 := sml_next S hs (by omega)
  obtain ⟨F1, h1, hS1⟩ := h.more
  have hU := unpack_any ao n cap zs (w.setCell ⟨xb, 3, none⟩ (.int .i64 ((S.next : Int) + 1))) hl hcap hcm (has_keep hd hS1.only hap) hz
  have c0 : w.cell? ⟨xb, 0, none⟩ = some (.slice (some ⟨gS, 0, none⟩) cs.size cs.size) := arr_cell h.blk 0
  have c3 : w.cell? ⟨xb, 3, none⟩ = some (.int .i64 S.next) := arr_cell h.blk 3
  rw [hr] at hr1
  by_cases hc : upC zs = 0
  · obtain ⟨p, hup⟩ : ∃ p, upK zs = some p := by unfold upK; rw [if_pos hc]; exact ⟨_, rfl⟩
    obtain ⟨hpb, hpo⟩ := upK_ok zs hz p hup
    have hU2 : Calls Tryz.prog 64 #[.slice ao n cap] (w.setCell ⟨xb, 3, none⟩ (.int .i64 ((S.next : Int) + 1))) fun e w2 => ∃ da dc, e = .returned (.tuple #[.agg #[.int .u16 p.src, .int .u16 p.dst, .int .u8 p.proto, .int .u16 p.id, .int .u8 p.off, .bool p.more, .int .u16 p.sport, .int .u16 p.dport, .slice da p.dlen dc], .int .i64 0]) ∧ Below (w.setCell ⟨xb, 3, none⟩ (.int .i64 ((S.next : Int) + 1))).heap.size (w.setCell ⟨xb, 3, none⟩ (.int .i64 ((S.next : Int) + 1))) w2 := by
      refine hU.mono ?_
      rintro e w2 ⟨hb, ⟨_, v, rfl, hrow⟩ | ⟨hne, _⟩⟩
      · obtain ⟨da, dc, rfl⟩ := own_slice hrow
        unfold upK at hup
        rw [if_pos hc, Option.some.injEq] at hup
        subst hup
        exact ⟨da, dc, rfl, hb⟩
      · exact absurd hc hne
    have hch : ∀ (da : Option Addr) (dc : Nat) wz, PrC wz xb { S with next := S.next + 1 } F1 gS cs vT vV vN RR Fs (fun _ => S.now) → Calls Tryz.prog 48 #[.pointer (some ⟨xb, 0, none⟩), .agg #[.int .u16 p.src, .int .u16 p.dst, .int .u8 p.proto, .int .u16 p.id, .int .u8 p.off, .bool p.more, .int .u16 p.sport, .int .u16 p.dport, .slice da p.dlen dc]] wz fun e w' => e = .returned (.tuple #[.int .u8 (chosenM S p), .int .i64 (if (!S.slots.isEmpty) = true then 0 else 7)]) ∧ Below wz.heap.size wz w' :=
      fun da dc wz hz' => choose_any xb { S with next := S.next + 1 } F1 gS cs vT vV vN RR Fs _ p.src p.dst p.proto p.id p.off p.more p.sport p.dport da p.dlen dc wz hz' hs.slots hpb.src.1 hpb.src.2 hpb.dst.1 hpb.dst.2 hpb.proto.1 hpb.proto.2 hpb.id.1 hpb.id.2 hpb.off.1 (by have := hpb.off.2; omega) hpb.sport.1 hpb.sport.2 hpb.dport.1 hpb.dport.2
    rw [hup]
    cases hwp : (decide (p.off = 0) && !p.more) with
    | true =>
      have hwk : wholePk p = true := hwp
      refine (arrive_whole xb gS cs.size S.next rep ao n cap p.src p.dst p.proto p.id p.off p.more p.sport p.dport p.dlen (fun wz w' => ∃ F' vV', PrC w' xb (if (if (!S.slots.isEmpty) = true then (0 : Int) else 7) = 0 then toldM { S with next := S.next + 1 } S.next 0 (chosenM S p) else toldM { S with next := S.next + 1 } S.next 2 0) F' gS cs vT vV' vN RR Fs (fun _ => S.now) ∧ Stp wz w' F1 F') _ w h.blk c0 c3 (by omega) hr0 hr1 (hide hU2) hwp (hide (fun da dc wz hb => pass_core xb { S with next := S.next + 1 } F1 gS cs vT vV vN RR Fs _ S.next p.src p.dst p.proto p.id p.off p.more p.sport p.dport da p.dlen dc (chosenM S p) _ wz (h1.below hb) (by simp only; omega) (hide (fun wy hy => hch da dc wy ((h1.below hb).below hy)))))).mono ?_
      rintro e w' ⟨rfl, wz, hb, F', vV', h2, hS2⟩
      have hal : (if (if (!S.slots.isEmpty) = true then (0 : Int) else 7) = 0 then toldM { S with next := S.next + 1 } S.next 0 (chosenM S p) else toldM { S with next := S.next + 1 } S.next 2 0) = arriveM S rep (some p) := by
        unfold arriveM
        simp only [hwk, if_true]
        cases hsl : S.slots with
        | nil => simp
        | cons a t => simp
      rw [hal] at h2
      have hents : (arriveM S rep (some p)).reps = S.reps ∧ (arriveM S rep (some p)).now = S.now ∧ ∀ o, entsM (arriveM S rep (some p)) o = entsM S o := by
        unfold arriveM
        simp only [hwk, if_true]
        split <;> exact ⟨rfl, rfl, fun _ => rfl⟩
      exact ⟨rfl, F', ⟨gS, cs, vT, vV', vN, RR, Fs, by rw [hents.2.1]; exact h2, by rw [hents.1]; exact hr, fun o ho => by rw [hents.2.2]; exact he o ho⟩, (hS1.trans (Stp.below hb)).trans hS2⟩
    | false =>
      have hwk : wholePk p = false := hwp
      have hpok := hpo hwk
      have hown : 0 ≤ ownerM S p := Int.emod_nonneg _ (by have := hs.cok.reps; omega)
      obtain ⟨o, ho⟩ : ∃ o : Nat, ownerM S p = (o : Int) := Int.eq_ofNat_of_zero_le hown
      have hdg : dgH p.src p.dst p.proto p.id % (cs.size : Int) = (o : Int) := by rw [← hr]; exact ho
      have hOW : ∀ (da : Option Addr) (dc : Nat) wz, PrC wz xb { S with next := S.next + 1 } F1 gS cs vT vV vN RR Fs (fun _ => S.now) → Calls Tryz.prog 50 #[.pointer (some ⟨xb, 0, none⟩), .agg #[.int .u16 p.src, .int .u16 p.dst, .int .u8 p.proto, .int .u16 p.id, .int .u8 p.off, .bool p.more, .int .u16 p.sport, .int .u16 p.dport, .slice da p.dlen dc]] wz fun e w' => e = .returned (.int .i64 o) ∧ Below wz.heap.size wz w' := by
        intro da dc wz hz'
        have := owner_any xb { S with next := S.next + 1 } F1 gS cs vT vV vN RR Fs _ p.src p.dst p.proto p.id p.off p.more p.sport p.dport da p.dlen dc wz hz' hN1 hN5 hpb.src.1 hpb.src.2 hpb.dst.1 hpb.dst.2 hpb.proto.1 hpb.proto.2 hpb.id.1 hpb.id.2 hpb.off.1 (by have := hpb.off.2; omega) hpb.sport.1 hpb.sport.2 hpb.dport.1 hpb.dport.2
        rw [hdg] at this
        exact this
      by_cases hfo : rep = (o : Int)
      · have harr : arriveM S rep (some p) = pieceM { S with next := S.next + 1 } S.next p := by
          unfold arriveM
          simp only [hwk, Bool.false_eq_true, if_false]
          rw [if_pos (by rw [ho, hfo])]
        have hPI : ∀ wz, PrC wz xb { S with next := S.next + 1 } F1 gS cs vT vV vN RR Fs (fun _ => S.now) → PrIs wz xb { S with next := S.next + 1 } F1 := fun wz hz' => ⟨gS, cs, vT, vV, vN, RR, Fs, hz', hr, he⟩
        have hown1 : ownerM { S with next := S.next + 1 } p = (o : Int) := ho
        refine (arrive_piece xb gS cs.size S.next rep ao n cap p.src p.dst p.proto p.id p.off p.more p.sport p.dport p.dlen (fun wz w' => ∃ wy, Below wz.heap.size wz wy ∧ ∃ F', PrIs w' xb (pieceM { S with next := S.next + 1 } S.next p) F' ∧ Stp wy w' F1 F') _ w h.blk c0 c3 (by omega) hr0 hr1 (hide hU2) hwp (hide (fun da dc wz hb => send_here xb S.next o rep p.src p.dst p.proto p.id p.off p.more p.sport p.dport da p.dlen dc (fun wy w' => ∃ F', PrIs w' xb (pieceM { S with next := S.next + 1 } S.next p) F' ∧ Stp wy w' F1 F') wz (by have := hpb.dlen; omega) hfo (hide (fun wy hy => hOW da dc wy ((h1.below hb).below hy))) (hide (fun wy hy => ?_))))).mono ?_
        · have := ccome_any xb { S with next := S.next + 1 } F1 S.next rep p wy (hPI wy ((h1.below hb).below hy)) hs1.1 hu hpb
          rw [hown1] at this
          exact this
        · rintro e w' ⟨rfl, wz, hb, wy, hy, F', h2, hS2⟩
          rw [harr]
          exact ⟨rfl, F', h2, ((hS1.trans (Stp.below hb)).trans (Stp.below hy)).trans hS2⟩
      · have harr : arriveM S rep (some p) = { S with next := S.next + 1, sent := S.sent ++ [⟨S.next, rep, o, p⟩] } := by
          unfold arriveM
          simp only [hwk, Bool.false_eq_true, if_false]
          rw [if_neg (by rw [ho]; exact fun hh => hfo hh.symm), ho]
        refine (arrive_piece xb gS cs.size S.next rep ao n cap p.src p.dst p.proto p.id p.off p.more p.sport p.dport p.dlen (fun wz w' => ∃ F' vN', PrC w' xb { S with next := S.next + 1, sent := S.sent ++ [⟨S.next, rep, o, p⟩] } F' gS cs vT vV vN' RR Fs (fun _ => S.now) ∧ Stp wz w' F1 F') _ w h.blk c0 c3 (by omega) hr0 hr1 (hide hU2) hwp (hide (fun da dc wz hb => send_away xb { S with next := S.next + 1 } F1 gS cs vT vV vN RR Fs _ S.next o rep p.src p.dst p.proto p.id p.off p.more p.sport p.dport da p.dlen dc wz (h1.below hb) (by have := hpb.dlen; omega) hfo (by simp only; omega) (hide (fun wy hy => hOW da dc wy ((h1.below hb).below hy)))))).mono ?_
        rintro e w' ⟨rfl, wz, hb, F', vN', h2, hS2⟩
        rw [harr]
        exact ⟨rfl, F', ⟨gS, cs, vT, vV, vN', RR, Fs, h2, hr, he⟩, (hS1.trans (Stp.below hb)).trans hS2⟩
  · have hup : upK zs = none := by unfold upK; rw [if_neg hc]
    have hU2 : Calls Tryz.prog 64 #[.slice ao n cap] (w.setCell ⟨xb, 3, none⟩ (.int .i64 ((S.next : Int) + 1))) fun e w2 => e = .returned (.tuple #[.agg #[.int .u16 0, .int .u16 0, .int .u8 0, .int .u16 0, .int .u8 0, .bool false, .int .u16 0, .int .u16 0, .slice none 0 0], .int .i64 (upC zs)]) ∧ Below (w.setCell ⟨xb, 3, none⟩ (.int .i64 ((S.next : Int) + 1))).heap.size (w.setCell ⟨xb, 3, none⟩ (.int .i64 ((S.next : Int) + 1))) w2 := by
      refine hU.mono ?_
      rintro e w2 ⟨hb, ⟨h0, _⟩ | ⟨_, rfl⟩⟩
      · exact absurd h0 hc
      · exact ⟨rfl, hb⟩
    refine (arrive_bad xb gS cs.size S.next rep ao n cap 0 0 0 0 0 false 0 0 none 0 0 (upC zs) hc (fun wz w' => ∃ F' vV', PrC w' xb (toldM { S with next := S.next + 1 } S.next 1 0) F' gS cs vT vV' vN RR Fs (fun _ => S.now) ∧ Stp wz w' F1 F') _ w h.blk c0 c3 (by omega) hr0 hr1 (hide hU2) (hide (fun wz hb => (tell_any xb { S with next := S.next + 1 } F1 gS cs vT vV vN RR Fs _ S.next 1 0 wz (h1.below hb) (by simp only; omega)).mono (fun e w' he => he)))).mono ?_
    rintro e w' ⟨rfl, wz, hb, F', vV', h2, hS2⟩
    rw [hup]
    exact ⟨rfl, F', ⟨gS, cs, vT, vV', vN, RR, Fs, h2, hr, he⟩, (hS1.trans (Stp.below hb)).trans hS2⟩

end Go.Proofs.YtajphdppmdoalaaGreat

namespace Go.Proofs.YtajphdppmdoalaaGreat
open Go.RowKit
set_option linter.unusedVariables false

set_option maxRecDepth 100000 in
set_option maxHeartbeats 1600000 in
theorem deliver_core (xb : Nat) (k : Int) (s : Snt) (Q1 : World → Prop) (Q2 : World → World → Prop) (w : World)
    (HLA : Hid (Calls Tryz.prog 80 #[.pointer (some ⟨xb, 0, none⟩), .int .i64 k] w fun e w2 => e = .returned (.tuple #[.agg #[.int .i64 s.seq, .int .i64 s.frm, .int .i64 s.to, .int .u16 s.p.src, .int .u16 s.p.dst, .int .u8 s.p.proto, .int .u16 s.p.id, .int .u8 s.p.off, .bool s.p.more, .int .u16 s.p.sport, .int .u16 s.p.dport, .slice none 0 0, .int .i64 s.p.dlen], .int .i64 0]) ∧ Q1 w2))
    (HCM : Hid (∀ w2 wz, Q1 w2 → Below w2.heap.size w2 wz → Calls Tryz.prog 81 #[.pointer (some ⟨xb, 0, none⟩), .agg #[.int .i64 s.seq, .int .i64 s.frm, .int .i64 s.to, .int .u16 s.p.src, .int .u16 s.p.dst, .int .u8 s.p.proto, .int .u16 s.p.id, .int .u8 s.p.off, .bool s.p.more, .int .u16 s.p.sport, .int .u16 s.p.dport, .slice none 0 0, .int .i64 s.p.dlen]] wz fun e w' => e = .returned (.tuple #[]) ∧ Q2 w2 w')) :
    Calls Tryz.prog 52 #[.pointer (some ⟨xb, 0, none⟩), .int .i64 k] w fun e w' => e = .returned (.int .i64 0) ∧ ∃ w2, Q1 w2 ∧ Q2 w2 w' := by
  go_enter Tryz.func52, Tryz.ntmps52
  go_wp2_with fail
  refine HLA.out.mono ?_
  rintro e w2 ⟨rfl, hq1⟩
  have HQ1 := hide hq1
  clear hq1 HLA
  have HB2 : Hid (Below w2.heap.size w2 (w2.alloc (.cells #[.int .i64 s.seq, .int .i64 s.frm, .int .i64 s.to, .int .u16 s.p.src, .int .u16 s.p.dst, .int .u8 s.p.proto, .int .u16 s.p.id, .int .u8 s.p.off, .bool s.p.more, .int .u16 s.p.sport, .int .u16 s.p.dport, .slice none 0 0, .int .i64 s.p.dlen] 114))) := (Below.refl _ _).alloc (Nat.le_refl _) _
  go_wp2_with fail
  refine (HCM.out w2 _ HQ1.out HB2.out).mono ?_
  rintro e w5 ⟨rfl, hq⟩
  have HQ := hide hq
  clear hq
  go_wp2
  go_ret
  exact ⟨rfl, w2, HQ1.out, HQ.out⟩

set_option maxRecDepth 100000 in
set_option maxHeartbeats 1600000 in
theorem lose_core (xb : Nat) (k : Int) (s : Snt) (Q1 : World → Prop) (Q2 : World → World → Prop) (w : World)
    (HLA : Hid (Calls Tryz.prog 80 #[.pointer (some ⟨xb, 0, none⟩), .int .i64 k] w fun e w2 => e = .returned (.tuple #[.agg #[.int .i64 s.seq, .int .i64 s.frm, .int .i64 s.to, .int .u16 s.p.src, .int .u16 s.p.dst, .int .u8 s.p.proto, .int .u16 s.p.id, .int .u8 s.p.off, .bool s.p.more, .int .u16 s.p.sport, .int .u16 s.p.dport, .slice none 0 0, .int .i64 s.p.dlen], .int .i64 0]) ∧ Q1 w2))
    (HCM : Hid (∀ w2 wz, Q1 w2 → Below w2.heap.size w2 wz → Calls Tryz.prog 71 #[.pointer (some ⟨xb, 0, none⟩), .int .i64 s.seq, .int .u8 5, .int .u8 0] wz fun e w' => e = .returned (.tuple #[]) ∧ Q2 w2 w')) :
    Calls Tryz.prog 54 #[.pointer (some ⟨xb, 0, none⟩), .int .i64 k] w fun e w' => e = .returned (.int .i64 0) ∧ ∃ w2, Q1 w2 ∧ Q2 w2 w' := by
  go_enter Tryz.func54, Tryz.ntmps54
  go_wp2_with fail
  refine HLA.out.mono ?_
  rintro e w2 ⟨rfl, hq1⟩
  have HQ1 := hide hq1
  clear hq1 HLA
  have HB2 : Hid (Below w2.heap.size w2 (w2.alloc (.cells #[.int .i64 s.seq, .int .i64 s.frm, .int .i64 s.to, .int .u16 s.p.src, .int .u16 s.p.dst, .int .u8 s.p.proto, .int .u16 s.p.id, .int .u8 s.p.off, .bool s.p.more, .int .u16 s.p.sport, .int .u16 s.p.dport, .slice none 0 0, .int .i64 s.p.dlen] 114))) := (Below.refl _ _).alloc (Nat.le_refl _) _
  go_wp2_with fail
  refine (HCM.out w2 _ HQ1.out HB2.out).mono ?_
  rintro e w5 ⟨rfl, hq⟩
  have HQ := hide hq
  clear hq
  go_wp2
  go_ret
  exact ⟨rfl, w2, HQ1.out, HQ.out⟩

set_option maxRecDepth 100000 in
set_option maxHeartbeats 1600000 in
theorem deliver_no (xb : Nat) (k : Int) (S : Cl) (F : Nat → Prop) (w : World) (h : PrIs w xb S F) (hk : k < 0 ∨ (S.sent.length : Int) ≤ k) :
    Calls Tryz.prog 52 #[.pointer (some ⟨xb, 0, none⟩), .int .i64 k] w fun e w' => e = .returned (.int .i64 1) ∧ Below w.heap.size w w' := by
  have HLN := hide (land_no xb k S F w h hk)
  clear h hk
  go_enter Tryz.func52, Tryz.ntmps52
  go_wp2_with fail
  refine HLN.out.mono ?_
  rintro e w2 ⟨rfl, hb⟩
  have HB := hide hb
  clear hb HLN
  go_wp2
  go_ret
  exact ⟨rfl, HB.out.alloc HB.out.size _⟩

set_option maxRecDepth 100000 in
set_option maxHeartbeats 1600000 in
theorem lose_no (xb : Nat) (k : Int) (S : Cl) (F : Nat → Prop) (w : World) (h : PrIs w xb S F) (hk : k < 0 ∨ (S.sent.length : Int) ≤ k) :
    Calls Tryz.prog 54 #[.pointer (some ⟨xb, 0, none⟩), .int .i64 k] w fun e w' => e = .returned (.int .i64 1) ∧ Below w.heap.size w w' := by
  have HLN := hide (land_no xb k S F w h hk)
  clear h hk
  go_enter Tryz.func54, Tryz.ntmps54
  go_wp2_with fail
  refine HLN.out.mono ?_
  rintro e w2 ⟨rfl, hb⟩
  have HB := hide hb
  clear hb HLN
  go_wp2
  go_ret
  exact ⟨rfl, HB.out.alloc HB.out.size _⟩

/-- What is on its way goes to its owner. -/
def ToOK (S : Cl) : Prop := ∀ s ∈ S.sent, s.to = ownerM S s.p
theorem deliver_yes (xb k : Nat) (S : Cl) (F : Nat → Prop) (s : Snt) (w : World) (h : PrIs w xb S F) (hs : Sml S) (hu : Uq S.ents) (ht : ToOK S) (hk : S.sent[k]? = some s) :
    Calls Tryz.prog 52 #[.pointer (some ⟨xb, 0, none⟩), .int .i64 k] w fun e w' => e = .returned (.int .i64 0) ∧ ∃ F', PrIs w' xb (deliverM S k) F' ∧ Stp w w' F F' := by
  have hmem := List.mem_of_getElem? hk
  have hto : s.to = ownerM (landM S k) s.p := ht s hmem
  have hsl : Sml (landM S k) := (sml_land S k s hs hk).1
  have hd : deliverM S k = pieceM (landM S k) s.seq s.p := by unfold deliverM; rw [hk]
  refine (deliver_core xb k s (fun w2 => ∃ F', PrIs w2 xb (landM S k) F' ∧ Stp w w2 F F') (fun w2 w' => ∃ F', PrIs w' xb (pieceM (landM S k) s.seq s.p) F' ∧ Stp w w' F F') w (hide (land_yes xb k S F s w h hk (by have := evs_few S hs; have := hs.next; omega))) (hide ?_)).mono ?_
  · rintro w2 wz ⟨F2, h2, hS2⟩ hb
    have := ccome_any xb (landM S k) F2 s.seq s.frm s.p wz (h2.below hb) hsl hu (hs.sent s hmem).1
    rw [← hto] at this
    refine this.mono ?_
    rintro e w' ⟨rfl, F3, h3, hS3⟩
    exact ⟨rfl, F3, h3, (hS2.trans (Stp.below hb)).trans hS3⟩
  · rintro e w' ⟨rfl, w2, _, F3, h3, hS3⟩
    rw [hd]
    exact ⟨rfl, F3, h3, hS3⟩
theorem lose_yes (xb k : Nat) (S : Cl) (F : Nat → Prop) (s : Snt) (w : World) (h : PrIs w xb S F) (hs : Sml S) (hk : S.sent[k]? = some s) :
    Calls Tryz.prog 54 #[.pointer (some ⟨xb, 0, none⟩), .int .i64 k] w fun e w' => e = .returned (.int .i64 0) ∧ ∃ F', PrIs w' xb (loseM S k) F' ∧ Stp w w' F F' := by
  have hd : loseM S k = toldM (landM S k) s.seq 5 0 := by unfold loseM; rw [hk]
  have hel := evs_few S hs
  have hnx := hs.next
  refine (lose_core xb k s (fun w2 => ∃ F', PrIs w2 xb (landM S k) F' ∧ Stp w w2 F F') (fun w2 w' => ∃ F', PrIs w' xb (toldM (landM S k) s.seq 5 0) F' ∧ Stp w w' F F') w (hide (land_yes xb k S F s w h hk (by omega))) (hide ?_)).mono ?_
  · rintro w2 wz ⟨F2, ⟨gS, cs, vT, vV, vN, RR, Fs, h2, hr, he⟩, hS2⟩ hb
    refine (tell_any xb (landM S k) F2 gS cs vT vV vN RR Fs _ s.seq 5 0 wz (h2.below hb) (by simp only [landM]; omega)).mono ?_
    rintro e w' ⟨rfl, F3, vV3, h3, hS3⟩
    exact ⟨rfl, F3, ⟨gS, cs, vT, vV3, vN, RR, Fs, h3, hr, he⟩, (hS2.trans (Stp.below hb)).trans hS3⟩
  · rintro e w' ⟨rfl, w2, _, F3, h3, hS3⟩
    rw [hd]
    exact ⟨rfl, F3, h3, hS3⟩

end Go.Proofs.YtajphdppmdoalaaGreat

namespace Go.Proofs.YtajphdppmdoalaaGreat
open Go.RowKit
set_option linter.unusedVariables false

end Go.Proofs.YtajphdppmdoalaaGreat

namespace Go.Proofs.YtajphdppmdoalaaGreat
open Go.RowKit
set_option linter.unusedVariables false

theorem Tryz.infoSt : (Tryz.prog.info? 122).map (fun i => (i.zero, i.size, i.bytes)) = some (some (.agg #[.slice none 0 0]), 1, 24) := by kernel_rfl
theorem made_store (n : Nat) : madeCells (Value.agg #[.slice none 0 0]).cells n = Array.replicate n (.slice none 0 0) := by
  apply Array.ext
  · simp [madeCells]
  · intro i h1 h2
    simp [madeCells, Value.cells, Nat.mod_one]

set_option maxRecDepth 100000 in
set_option maxHeartbeats 1600000 in
theorem new_ok (N : Nat) (life : Int) (w : World) (hN1 : 1 ≤ N) (hN5 : N ≤ 5) (hl1 : 1 ≤ life) (hl2 : life ≤ 20) :
    Calls Tryz.prog 14 #[.int .i64 N, .int .i64 life] w fun e w' => ∃ xb F, e = .returned (.tuple #[.pointer (some ⟨xb, 0, none⟩), .int .i64 0]) ∧ PrIs w' xb (Cl.new N life) F ∧ (∀ k, F k → w.heap.size ≤ k) ∧ Below w.heap.size w w' := by
  obtain ⟨i0, hi, hq0, hq1, hq2⟩ := info_parts Tryz.infoSt
  have hmk : ∀ w : World, (Instr.makeSlice 66 (.int .i64 (N : Int)) (.int .i64 (N : Int))).run Tryz.prog w = .ok (.slice (some ⟨w.heap.size, 0, none⟩) N N) (w.alloc (.cells (Array.replicate N (.slice none 0 0)) 122)) := by
    intro w
    have h := run_make (P := Tryz.prog) w 66 122 i0 _ Tryz.underlying66 hi hq0 .i64 .i64 (N : Int) (N : Int) (by omega) (Int.le_refl _) (by rw [hq2]; omega) (by omega)
    rw [Int.toNat_natCast, hq1, Nat.mul_one, made_store] at h
    exact h
  have hNi1 : (1 : Int) ≤ (N : Int) := by omega
  have hNi5 : (N : Int) ≤ 5 := by omega
  generalize hCS : Array.replicate N (Value.slice none 0 0) = cs at *
  have HCS := hide hCS
  clear hCS hi hq0 hq1 hq2
  go_enter Tryz.func14, Tryz.ntmps14
  go_wp2
  go_ret2
  have hsz : cs.size = N := by rw [← HCS.out]; simp
  have hge : ∀ o, o < N → cs[o]? = some (.slice none 0 0) := by intro o ho; rw [← HCS.out]; simp [ho]
  have hB0 : ((w.alloc (.cells cs 122)).alloc (.cells #[.slice (some ⟨w.heap.size, 0, none⟩) N N, .int .i64 life, .slice none 0 0, .int .i64 0, .slice none 0 0, .slice none 0 0] 69)).heap[w.heap.size]? = some (.cells cs 122 (0, 0)) := (Below.heap_alloc _ _ _ (by simp)).trans (heap_alloc_new _ _)
  have hB1 : ((w.alloc (.cells cs 122)).alloc (.cells #[.slice (some ⟨w.heap.size, 0, none⟩) N N, .int .i64 life, .slice none 0 0, .int .i64 0, .slice none 0 0, .slice none 0 0] 69)).heap[w.heap.size + 1]? = some (.cells #[.slice (some ⟨w.heap.size, 0, none⟩) N N, .int .i64 life, .slice none 0 0, .int .i64 0, .slice none 0 0, .slice none 0 0] 69 (0, 0)) := by
    have := heap_alloc_new (w.alloc (.cells cs 122)) (.cells #[.slice (some ⟨w.heap.size, 0, none⟩) N N, .int .i64 life, .slice none 0 0, .int .i64 0, .slice none 0 0, .slice none 0 0] 69)
    rwa [World.size_alloc] at this
  refine ⟨w.heap.size + 1, fun k => k = w.heap.size ∨ k = w.heap.size + 1, rfl, ⟨w.heap.size, cs, .slice none 0 0, .slice none 0 0, .slice none 0 0, fun _ => [], fun _ _ => False, ⟨?_, hB0, ?_, World.ownsRow_nil _ _ _ _, World.ownsRow_nil _ _ _ _, World.ownsRow_nil _ _ _ _, fun _ _ _ _ hh => hh.elim, fun _ _ hh => hh.elim, .inr rfl, .inl rfl, fun g hg => by simp [Value.ownBlock] at hg, fun g hg => by simp [Value.ownBlock] at hg, fun g hg => by simp [Value.ownBlock] at hg, ?_⟩, ?_, ?_⟩, ?_, ?_⟩
  · rw [hsz]
    exact hB1
  · intro o ho
    rw [hsz] at ho
    exact ⟨.slice none 0 0, hge o ho, ⟨World.ownsRow_nil _ _ _ _, by simp, by simp, List.Pairwise.nil, List.Pairwise.nil, fun g hg => by simp [Value.ownBlock] at hg, by simp, by simp, fun _ hh => hh.elim⟩⟩
  · intro k hk
    simp only [World.size_alloc]
    omega
  · rw [hsz]
    rfl
  · intro o _
    rfl
  · intro k hk
    omega
  · exact ((Below.refl _ _).alloc (Nat.le_refl _) _).alloc (by simp) _

set_option maxRecDepth 100000 in
set_option maxHeartbeats 1600000 in
theorem new_bad (r life : Int) (w : World) (h : r < 1 ∨ 5 < r ∨ life < 1 ∨ 20 < life) :
    Calls Tryz.prog 14 #[.int .i64 r, .int .i64 life] w fun e w' => e = .returned (.tuple #[.pointer none, .int .i64 1]) ∧ w' = w := by
  have hd : (decide (r < 1) || decide (5 < r) || decide (life < 1) || decide (20 < life)) = true := by
    simp only [Bool.or_eq_true, decide_eq_true_eq]
    omega
  by_cases h1 : r < 1
  · go_enter Tryz.func14, Tryz.ntmps14
    go_wp2
    go_ret2
    exact ⟨rfl, rfl⟩
  · by_cases h2 : 5 < r
    · go_enter Tryz.func14, Tryz.ntmps14
      go_wp2
      go_ret2
      exact ⟨rfl, rfl⟩
    · by_cases h3 : life < 1
      · go_enter Tryz.func14, Tryz.ntmps14
        go_wp2
        go_ret2
        exact ⟨rfl, rfl⟩
      · have h4 : 20 < life := by omega
        go_enter Tryz.func14, Tryz.ntmps14
        go_wp2
        go_ret2
        exact ⟨rfl, rfl⟩

theorem tE_tbl (zs : List Int) (h0 : tE zs = 0) : tblOf zs = tbl zs ∧ (tbl zs).length = 31 := by
  refine ⟨?_, tbl_len zs⟩
  unfold tblOf
  rw [if_neg]
  intro hz0
  unfold tE at h0
  split at h0
  · omega
  · first
    | omega
    | (split at h0 <;> omega)
theorem tE_none (zs : List Int) (h0 : tE zs ≠ 0) (h1 : tE zs ≠ 1) : tblOf zs = [] := by
  unfold tblOf
  rw [if_pos]
  unfold tE at h0 h1
  by_cases h2 : 6 < zs.length ∨ (asc zs).length < zs.length
  · rw [if_pos h2] at h1
    omega
  · rw [if_neg h2] at h0
    by_cases hz0 : zs.length = 0
    · exact hz0
    · rw [if_neg hz0] at h0
      omega
/-- A table is set. -/
theorem PrC.setT {w w1 : World} {xb : Nat} {S : Cl} {F : Nat → Prop} {gS : Nat} {cs : Array Value} {vT vV vN vT' : Value} {RR : Nat → List PE} {Fs : Nat → Nat → Prop} {T : Nat → Int} (h : PrC w xb S F gS cs vT vV vN RR Fs T) (hb : Below w.heap.size w w1) (zs : List Int)
    (hrow : w1.ownsRow w.heap.size 5 1 vT' zs.length (zs.map (Value.int .u8))) :
    ∃ F', PrC (w1.setCell ⟨xb, 2, none⟩ vT') xb (backM S zs) F' gS cs vT' vV vN RR Fs T ∧ Stp w (w1.setCell ⟨xb, 2, none⟩ vT') F F' := by
  have h1 := h.below hb
  have hb2 := row_setCell (j := 2) h1.blk vT'
  have ho : Only (fun k => k = xb) w (w1.setCell ⟨xb, 2, none⟩ vT') := (Only.of_below (F := fun k => k = xb) hb).setG
  have hx : w1.heap[xb]? = _ := h1.blk
  obtain ⟨h2, h3⟩ := h.upd ho (fun k hk => .inl hk) (backM S zs) vT' vV vN (by simpa [backM] using hb2) (own_set' (own_zero hrow) h1.blk (by decide) _) (own_set' h1.rV h1.blk (by decide) _) (own_set' h1.rN h1.blk (by decide) _) (fun g hg => .inr (hrow.lt g hg).1) (fun g hg => .inl hg) (fun g hg => .inl hg)
  exact ⟨_, h2, h3⟩

set_option maxRecDepth 100000 in
set_option maxHeartbeats 1600000 in
theorem back_any (xb : Nat) (S : Cl) (F : Nat → Prop) (zs : List Int) (ao : Option Addr) (n cap : Nat) (w : World) (h : PrIs w xb S F) (hl : zs.length = n) (hd : Has w ao zs) (hn : n ≤ 9223372036854775807) (hz : ∀ z ∈ zs, 0 ≤ z ∧ z ≤ 255) :
    Calls Tryz.prog 38 #[.pointer (some ⟨xb, 0, none⟩), .slice ao n cap] w fun e w' => (tE zs = 1 ∧ e = .returned (.int .i64 1) ∧ Below w.heap.size w w') ∨ (tE zs ≠ 1 ∧ e = .returned (.int .i64 0) ∧ ∃ F', PrIs w' xb (backM S (tblOf zs)) F' ∧ Stp w w' F F') := by
  obtain ⟨gS, cs, vT, vV, vN, RR, Fs, h, hr, he⟩ := h
  have HTB := hide (ctable_any ao n cap zs w hl hd hn hz)
  have HH := hide h
  have HE := hide (And.intro hr he)
  have hyb := h.lt
  have HFIN : Hid (∀ w1 v T', Below w.heap.size w w1 → w1.ownsRow w.heap.size 5 1 v T'.length (T'.map (Value.int .u8)) → ∃ F', PrIs (w1.setCell ⟨xb, 2, none⟩ v) xb (backM S T') F' ∧ Stp w (w1.setCell ⟨xb, 2, none⟩ v) F F') := by
    intro w1 v T' hb hrow
    obtain ⟨F', h1, h2⟩ := h.setT hb T' hrow
    exact ⟨F', ⟨gS, cs, v, vV, vN, RR, Fs, h1, hr, he⟩, h2⟩
  have htb := tE_tbl zs
  have ht7 := tE_none zs
  unfold TabPost at HTB
  generalize tE zs = te at *
  have HT := hide (And.intro htb ht7)
  generalize tblOf zs = TO at *
  generalize tbl zs = TL at *
  have cT : w.cell? ⟨xb, 2, none⟩ = some vT := arr_cell h.blk 2
  obtain ⟨ta, tc, hvT⟩ := own_slice h.rT
  rw [hvT] at cT
  have HFZ : Hid (∀ w1, Below w.heap.size w w1 → w1.frozen? ⟨xb, 2, none⟩ = false) := fun w1 hb => arr_frozen (h.below hb).blk 2
  clear h hr he htb ht7
  go_enter Tryz.func38, Tryz.ntmps38
  go_wp2_with fail
  refine HTB.out.mono ?_
  rintro e w1 ⟨hb1, ⟨ht, v, rfl, hrow, hnn⟩ | ⟨ht, rfl⟩⟩
  · obtain ⟨va, vc, rfl⟩ := own_slice hrow
    have HB1 := hide hb1
    have HRW := hide hrow
    have c1 := (hb1.cell (p := ⟨xb, 2, none⟩) hyb).trans cT
    have f1 := HFZ.out w1 hb1
    have hx1 : xb < w1.heap.size := Nat.lt_of_lt_of_le hyb hb1.size
    have HTE := hide ht
    clear hb1 hrow ht hnn HTB
    go_wp2
    go_ret
    obtain ⟨t1, t2⟩ := HT.out.1 HTE.out
    refine .inr ⟨by rw [HTE.out]; omega, rfl, ?_⟩
    rw [t1]
    refine HFIN.out w1 _ TL HB1.out ?_
    rw [t2]
    exact HRW.out
  · have HB1 := hide hb1
    by_cases h1 : te = 1
    · have HTE := hide h1
      subst h1
      clear hb1 ht HTB
      go_wp2
      go_ret
      first
        | exact .inl ⟨HTE.out, rfl, HB1.out⟩
        | exact ⟨rfl, HB1.out⟩
    · have hbe : (te == 1) = false := by simpa using h1
      have c1 := (hb1.cell (p := ⟨xb, 2, none⟩) hyb).trans cT
      have f1 := HFZ.out w1 hb1
      have hx1 : xb < w1.heap.size := Nat.lt_of_lt_of_le hyb hb1.size
      have HTE := hide (And.intro ht h1)
      clear hb1 ht HTB h1
      go_wp2
      go_ret
      refine .inr ⟨HTE.out.2, rfl, ?_⟩
      rw [HT.out.2 HTE.out.1 HTE.out.2]
      exact HFIN.out w1 _ [] HB1.out (World.ownsRow_nil _ _ _ _)

end Go.Proofs.YtajphdppmdoalaaGreat
