import Derived.Test.YtajphdppmdoalaaZOGtoOH
namespace Go.Proofs.Ytajphdppmdoalaa
open Go.RowKit
set_option linter.unusedVariables false

theorem has_keep {w w' : World} {G : Nat → Prop} {ao : Option Addr} {zs : List Int} (h : Has w ao zs) (ho : Only G w w') (hG : ∀ a, ao = some a → ¬ G a.block) : Has w' ao zs := by
  refine ⟨h.1, fun hz => ?_⟩
  obtain ⟨b, o, rfl, hlt, hc⟩ := h.2 hz
  exact ⟨b, o, rfl, Nat.lt_of_lt_of_le hlt ho.size, fun j hj => (ho.cell (p := ⟨b, o + j, none⟩) hlt (hG ⟨b, o, none⟩ rfl)).trans (hc j hj)⟩
/-- One more arrival. -/
theorem PrC.more {w : World} {xb : Nat} {S : Cl} {F : Nat → Prop} {gS : Nat} {cs : Array Value} {vT vV vN : Value} {RR : Nat → List PE} {Fs : Nat → Nat → Prop} {T : Nat → Int} (h : PrC w xb S F gS cs vT vV vN RR Fs T) :
    ∃ F', PrC (w.setCell ⟨xb, 3, none⟩ (.int .i64 ((S.next : Int) + 1))) xb { S with next := S.next + 1 } F' gS cs vT vV vN RR Fs T ∧ Stp w (w.setCell ⟨xb, 3, none⟩ (.int .i64 ((S.next : Int) + 1))) F F' := by
  have hb3 := row_setCell (j := 3) h.blk (.int .i64 ((S.next : Int) + 1))
  have ho : Only (fun k => k = xb) w (w.setCell ⟨xb, 3, none⟩ (.int .i64 ((S.next : Int) + 1))) := (Only.refl (fun k => k = xb) w).setG
  obtain ⟨h1, h2⟩ := h.upd ho (fun k hk => .inl hk) { S with next := S.next + 1 } vT vV vN (by simpa using hb3) (own_set' h.rT h.blk (by decide) _) (own_set' h.rV h.blk (by decide) _) (own_set' h.rN h.blk (by decide) _) (fun g hg => .inl hg) (fun g hg => .inl hg) (fun g hg => .inl hg)
  exact ⟨_, h1, h2⟩
theorem evs_few (S : Cl) (hs : Sml S) : S.evs.length ≤ S.next ∧ S.sent.length ≤ S.next := by
  have h1 := hs.cnt
  simp only [seqsM, List.length_append, List.length_map] at h1
  omega

set_option maxRecDepth 100000 in
set_option maxHeartbeats 800000 in
theorem arrive_any (xb : Nat) (S : Cl) (F : Nat → Prop) (rep : Int) (zs : List Int) (ao : Option Addr) (n cap : Nat) (w : World) (h : PrIs w xb S F) (hs : Sml S) (hu : Uq S.ents) (hnx : S.next ≤ 1900000000000) (hr0 : 0 ≤ rep) (hr1 : rep < S.reps)
    (hl : zs.length = n) (hcap : n ≤ cap) (hcm : cap ≤ maxLen) (hd : Has w ao zs) (hz : ∀ z ∈ zs, 0 ≤ z ∧ z ≤ 255) (hap : ∀ a, ao = some a → ¬ F a.block) :
    Calls Try.prog 19 #[.pointer (some ⟨xb, 0, none⟩), .int .i64 rep, .slice ao n cap] w fun e w' => e = .returned (.tuple #[.int .i64 S.next, .int .i64 0]) ∧ ∃ F', PrIs w' xb (arriveM S rep (upK zs)) F' ∧ Stp w w' F F' := by
  obtain ⟨gS, cs, vT, vV, vN, RR, Fs, h, hr, he⟩ := h
  have hel := evs_few S hs
  have hN1 : 1 ≤ cs.size := by have := hs.cok.reps; omega
  have hN5 : cs.size ≤ 5 := by have := hs.reps; omega
  have hs1 := sml_next S hs (by omega)
  obtain ⟨F1, h1, hS1⟩ := h.more
  have hU := unpack_any ao n cap zs (w.setCell ⟨xb, 3, none⟩ (.int .i64 ((S.next : Int) + 1))) hl hcap hcm (has_keep hd hS1.only hap) hz
  have c0 : w.cell? ⟨xb, 0, none⟩ = some (.slice (some ⟨gS, 0, none⟩) cs.size cs.size) := arr_cell h.blk 0
  have c3 : w.cell? ⟨xb, 3, none⟩ = some (.int .i64 S.next) := arr_cell h.blk 3
  rw [hr] at hr1
  by_cases hc : upC zs = 0
  · obtain ⟨p, hup⟩ : ∃ p, upK zs = some p := by unfold upK; rw [if_pos hc]; exact ⟨_, rfl⟩
    obtain ⟨hpb, hpo⟩ := upK_ok zs hz p hup
    have hU2 : Calls Try.prog 28 #[.slice ao n cap] (w.setCell ⟨xb, 3, none⟩ (.int .i64 ((S.next : Int) + 1))) fun e w2 => ∃ da dc, e = .returned (.tuple #[.agg #[.int .u16 p.src, .int .u16 p.dst, .int .u8 p.proto, .int .u16 p.id, .int .u8 p.off, .bool p.more, .int .u16 p.sport, .int .u16 p.dport, .slice da p.dlen dc], .int .i64 0]) ∧ Below (w.setCell ⟨xb, 3, none⟩ (.int .i64 ((S.next : Int) + 1))).heap.size (w.setCell ⟨xb, 3, none⟩ (.int .i64 ((S.next : Int) + 1))) w2 := by
      refine hU.mono ?_
      rintro e w2 ⟨hb, ⟨_, v, rfl, hrow⟩ | ⟨hne, _⟩⟩
      · obtain ⟨da, dc, rfl⟩ := own_slice hrow
        unfold upK at hup
        rw [if_pos hc, Option.some.injEq] at hup
        subst hup
        exact ⟨da, dc, rfl, hb⟩
      · exact absurd hc hne
    have hch : ∀ (da : Option Addr) (dc : Nat) wz, PrC wz xb { S with next := S.next + 1 } F1 gS cs vT vV vN RR Fs (fun _ => S.now) → Calls Try.prog 18 #[.pointer (some ⟨xb, 0, none⟩), .agg #[.int .u16 p.src, .int .u16 p.dst, .int .u8 p.proto, .int .u16 p.id, .int .u8 p.off, .bool p.more, .int .u16 p.sport, .int .u16 p.dport, .slice da p.dlen dc]] wz fun e w' => e = .returned (.tuple #[.int .u8 (chosenM S p), .int .i64 (if (!S.slots.isEmpty) = true then 0 else 7)]) ∧ Below wz.heap.size wz w' :=
      fun da dc wz hz' => choose_any xb { S with next := S.next + 1 } F1 gS cs vT vV vN RR Fs _ p.src p.dst p.proto p.id p.off p.more p.sport p.dport da p.dlen dc wz hz' hs.slots hpb.src.1 hpb.src.2 hpb.dst.1 hpb.dst.2 hpb.proto.1 hpb.proto.2 hpb.id.1 hpb.id.2 hpb.off.1 (by have := hpb.off.2; omega) hpb.sport.1 hpb.sport.2 hpb.dport.1 hpb.dport.2
    rw [hup]
    cases hwp : (decide (p.off = 0) && !p.more) with
    | true =>
      have hwk : wholePk p = true := hwp
      refine (arrive_whole xb gS cs.size S.next rep ao n cap p.src p.dst p.proto p.id p.off p.more p.sport p.dport p.dlen (fun wz w' => ∃ F' vV', PrC w' xb (if (if (!S.slots.isEmpty) = true then (0 : Int) else 7) = 0 then toldM { S with next := S.next + 1 } S.next 0 (chosenM S p) else toldM { S with next := S.next + 1 } S.next 2 0) F' gS cs vT vV' vN RR Fs (fun _ => S.now) ∧ Stp wz w' F1 F') _ w h.blk c0 c3 (by omega) hr0 hr1 (hide hU2) hwp (hide (fun da dc wz hb => pass_core xb { S with next := S.next + 1 } F1 gS cs vT vV vN RR Fs _ S.next p.src p.dst p.proto p.id p.off p.more p.sport p.dport da p.dlen dc (chosenM S p) _ wz (h1.below hb) (by simp only; omega) (hide (fun wy hy => hch da dc wy ((h1.below hb).below hy)))))).mono ?_
      rintro e w' ⟨rfl, wz, hb, F', vV', h2, hS2⟩
      have hal : (if (if (!S.slots.isEmpty) = true then (0 : Int) else 7) = 0 then toldM { S with next := S.next + 1 } S.next 0 (chosenM S p) else toldM { S with next := S.next + 1 } S.next 2 0) = arriveM S rep (some p) := by
        unfold arriveM
        simp only [hwk, if_true]
        cases hsl : S.slots with
        | nil => simp
        | cons a t => simp
      rw [hal] at h2
      have hents : (arriveM S rep (some p)).reps = S.reps ∧ (arriveM S rep (some p)).now = S.now ∧ ∀ o, entsM (arriveM S rep (some p)) o = entsM S o := by
        unfold arriveM
        simp only [hwk, if_true]
        split <;> exact ⟨rfl, rfl, fun _ => rfl⟩
      exact ⟨rfl, F', ⟨gS, cs, vT, vV', vN, RR, Fs, by rw [hents.2.1]; exact h2, by rw [hents.1]; exact hr, fun o ho => by rw [hents.2.2]; exact he o ho⟩, (hS1.trans (Stp.below hb)).trans hS2⟩
    | false =>
      have hwk : wholePk p = false := hwp
      have hpok := hpo hwk
      have hown : 0 ≤ ownerM S p := Int.emod_nonneg _ (by have := hs.cok.reps; omega)
      obtain ⟨o, ho⟩ : ∃ o : Nat, ownerM S p = (o : Int) := Int.eq_ofNat_of_zero_le hown
      have hdg : dgH p.src p.dst p.proto p.id % (cs.size : Int) = (o : Int) := by rw [← hr]; exact ho
      have hOW : ∀ (da : Option Addr) (dc : Nat) wz, PrC wz xb { S with next := S.next + 1 } F1 gS cs vT vV vN RR Fs (fun _ => S.now) → Calls Try.prog 26 #[.pointer (some ⟨xb, 0, none⟩), .agg #[.int .u16 p.src, .int .u16 p.dst, .int .u8 p.proto, .int .u16 p.id, .int .u8 p.off, .bool p.more, .int .u16 p.sport, .int .u16 p.dport, .slice da p.dlen dc]] wz fun e w' => e = .returned (.int .i64 o) ∧ Below wz.heap.size wz w' := by
        intro da dc wz hz'
        have := owner_any xb { S with next := S.next + 1 } F1 gS cs vT vV vN RR Fs _ p.src p.dst p.proto p.id p.off p.more p.sport p.dport da p.dlen dc wz hz' hN1 hN5 hpb.src.1 hpb.src.2 hpb.dst.1 hpb.dst.2 hpb.proto.1 hpb.proto.2 hpb.id.1 hpb.id.2 hpb.off.1 (by have := hpb.off.2; omega) hpb.sport.1 hpb.sport.2 hpb.dport.1 hpb.dport.2
        rw [hdg] at this
        exact this
      by_cases hfo : rep = (o : Int)
      · have harr : arriveM S rep (some p) = pieceM { S with next := S.next + 1 } S.next p := by
          unfold arriveM
          simp only [hwk, Bool.false_eq_true, if_false]
          rw [if_pos (by rw [ho, hfo])]
        have hPI : ∀ wz, PrC wz xb { S with next := S.next + 1 } F1 gS cs vT vV vN RR Fs (fun _ => S.now) → PrIs wz xb { S with next := S.next + 1 } F1 := fun wz hz' => ⟨gS, cs, vT, vV, vN, RR, Fs, hz', hr, he⟩
        have hown1 : ownerM { S with next := S.next + 1 } p = (o : Int) := ho
        refine (arrive_piece xb gS cs.size S.next rep ao n cap p.src p.dst p.proto p.id p.off p.more p.sport p.dport p.dlen (fun wz w' => ∃ wy, Below wz.heap.size wz wy ∧ ∃ F', PrIs w' xb (pieceM { S with next := S.next + 1 } S.next p) F' ∧ Stp wy w' F1 F') _ w h.blk c0 c3 (by omega) hr0 hr1 (hide hU2) hwp (hide (fun da dc wz hb => send_here xb S.next o rep p.src p.dst p.proto p.id p.off p.more p.sport p.dport da p.dlen dc (fun wy w' => ∃ F', PrIs w' xb (pieceM { S with next := S.next + 1 } S.next p) F' ∧ Stp wy w' F1 F') wz (by have := hpb.dlen; omega) hfo (hide (fun wy hy => hOW da dc wy ((h1.below hb).below hy))) (hide (fun wy hy => ?_))))).mono ?_
        · have := ccome_any xb { S with next := S.next + 1 } F1 S.next rep p wy (hPI wy ((h1.below hb).below hy)) hs1.1 hu hpb
          rw [hown1] at this
          exact this
        · rintro e w' ⟨rfl, wz, hb, wy, hy, F', h2, hS2⟩
          rw [harr]
          exact ⟨rfl, F', h2, ((hS1.trans (Stp.below hb)).trans (Stp.below hy)).trans hS2⟩
      · have harr : arriveM S rep (some p) = { S with next := S.next + 1, sent := S.sent ++ [⟨S.next, rep, o, p⟩] } := by
          unfold arriveM
          simp only [hwk, Bool.false_eq_true, if_false]
          rw [if_neg (by rw [ho]; exact fun hh => hfo hh.symm), ho]
        refine (arrive_piece xb gS cs.size S.next rep ao n cap p.src p.dst p.proto p.id p.off p.more p.sport p.dport p.dlen (fun wz w' => ∃ F' vN', PrC w' xb { S with next := S.next + 1, sent := S.sent ++ [⟨S.next, rep, o, p⟩] } F' gS cs vT vV vN' RR Fs (fun _ => S.now) ∧ Stp wz w' F1 F') _ w h.blk c0 c3 (by omega) hr0 hr1 (hide hU2) hwp (hide (fun da dc wz hb => send_away xb { S with next := S.next + 1 } F1 gS cs vT vV vN RR Fs _ S.next o rep p.src p.dst p.proto p.id p.off p.more p.sport p.dport da p.dlen dc wz (h1.below hb) (by have := hpb.dlen; omega) hfo (by simp only; omega) (hide (fun wy hy => hOW da dc wy ((h1.below hb).below hy)))))).mono ?_
        rintro e w' ⟨rfl, wz, hb, F', vN', h2, hS2⟩
        rw [harr]
        exact ⟨rfl, F', ⟨gS, cs, vT, vV, vN', RR, Fs, h2, hr, he⟩, (hS1.trans (Stp.below hb)).trans hS2⟩
  · have hup : upK zs = none := by unfold upK; rw [if_neg hc]
    have hU2 : Calls Try.prog 28 #[.slice ao n cap] (w.setCell ⟨xb, 3, none⟩ (.int .i64 ((S.next : Int) + 1))) fun e w2 => e = .returned (.tuple #[.agg #[.int .u16 0, .int .u16 0, .int .u8 0, .int .u16 0, .int .u8 0, .bool false, .int .u16 0, .int .u16 0, .slice none 0 0], .int .i64 (upC zs)]) ∧ Below (w.setCell ⟨xb, 3, none⟩ (.int .i64 ((S.next : Int) + 1))).heap.size (w.setCell ⟨xb, 3, none⟩ (.int .i64 ((S.next : Int) + 1))) w2 := by
      refine hU.mono ?_
      rintro e w2 ⟨hb, ⟨h0, _⟩ | ⟨_, rfl⟩⟩
      · exact absurd h0 hc
      · exact ⟨rfl, hb⟩
    refine (arrive_bad xb gS cs.size S.next rep ao n cap 0 0 0 0 0 false 0 0 none 0 0 (upC zs) hc (fun wz w' => ∃ F' vV', PrC w' xb (toldM { S with next := S.next + 1 } S.next 1 0) F' gS cs vT vV' vN RR Fs (fun _ => S.now) ∧ Stp wz w' F1 F') _ w h.blk c0 c3 (by omega) hr0 hr1 (hide hU2) (hide (fun wz hb => (tell_any xb { S with next := S.next + 1 } F1 gS cs vT vV vN RR Fs _ S.next 1 0 wz (h1.below hb) (by simp only; omega)).mono (fun e w' he => he)))).mono ?_
    rintro e w' ⟨rfl, wz, hb, F', vV', h2, hS2⟩
    rw [hup]
    exact ⟨rfl, F', ⟨gS, cs, vT, vV', vN, RR, Fs, h2, hr, he⟩, (hS1.trans (Stp.below hb)).trans hS2⟩

end Go.Proofs.Ytajphdppmdoalaa

namespace Go.Proofs.Ytajphdppmdoalaa
open Go.RowKit
set_option linter.unusedVariables false

set_option maxRecDepth 100000 in
set_option maxHeartbeats 1600000 in
theorem deliver_core (xb : Nat) (k : Int) (s : Snt) (Q1 : World → Prop) (Q2 : World → World → Prop) (w : World)
    (HLA : Hid (Calls Try.prog 54 #[.pointer (some ⟨xb, 0, none⟩), .int .i64 k] w fun e w2 => e = .returned (.tuple #[.agg #[.int .i64 s.seq, .int .i64 s.frm, .int .i64 s.to, .int .u16 s.p.src, .int .u16 s.p.dst, .int .u8 s.p.proto, .int .u16 s.p.id, .int .u8 s.p.off, .bool s.p.more, .int .u16 s.p.sport, .int .u16 s.p.dport, .slice none 0 0, .int .i64 s.p.dlen], .int .i64 0]) ∧ Q1 w2))
    (HCM : Hid (∀ w2 wz, Q1 w2 → Below w2.heap.size w2 wz → Calls Try.prog 53 #[.pointer (some ⟨xb, 0, none⟩), .agg #[.int .i64 s.seq, .int .i64 s.frm, .int .i64 s.to, .int .u16 s.p.src, .int .u16 s.p.dst, .int .u8 s.p.proto, .int .u16 s.p.id, .int .u8 s.p.off, .bool s.p.more, .int .u16 s.p.sport, .int .u16 s.p.dport, .slice none 0 0, .int .i64 s.p.dlen]] wz fun e w' => e = .returned (.tuple #[]) ∧ Q2 w2 w')) :
    Calls Try.prog 38 #[.pointer (some ⟨xb, 0, none⟩), .int .i64 k] w fun e w' => e = .returned (.int .i64 0) ∧ ∃ w2, Q1 w2 ∧ Q2 w2 w' := by
  go_enter Try.func38, Try.ntmps38
  go_wp2_with fail
  refine HLA.out.mono ?_
  rintro e w2 ⟨rfl, hq1⟩
  have HQ1 := hide hq1
  clear hq1 HLA
  have HB2 : Hid (Below w2.heap.size w2 (w2.alloc (.cells #[.int .i64 s.seq, .int .i64 s.frm, .int .i64 s.to, .int .u16 s.p.src, .int .u16 s.p.dst, .int .u8 s.p.proto, .int .u16 s.p.id, .int .u8 s.p.off, .bool s.p.more, .int .u16 s.p.sport, .int .u16 s.p.dport, .slice none 0 0, .int .i64 s.p.dlen] 95))) := (Below.refl _ _).alloc (Nat.le_refl _) _
  go_wp2_with fail
  refine (HCM.out w2 _ HQ1.out HB2.out).mono ?_
  rintro e w5 ⟨rfl, hq⟩
  have HQ := hide hq
  clear hq
  go_wp2
  go_ret
  exact ⟨rfl, w2, HQ1.out, HQ.out⟩

set_option maxRecDepth 100000 in
set_option maxHeartbeats 1600000 in
theorem lose_core (xb : Nat) (k : Int) (s : Snt) (Q1 : World → Prop) (Q2 : World → World → Prop) (w : World)
    (HLA : Hid (Calls Try.prog 54 #[.pointer (some ⟨xb, 0, none⟩), .int .i64 k] w fun e w2 => e = .returned (.tuple #[.agg #[.int .i64 s.seq, .int .i64 s.frm, .int .i64 s.to, .int .u16 s.p.src, .int .u16 s.p.dst, .int .u8 s.p.proto, .int .u16 s.p.id, .int .u8 s.p.off, .bool s.p.more, .int .u16 s.p.sport, .int .u16 s.p.dport, .slice none 0 0, .int .i64 s.p.dlen], .int .i64 0]) ∧ Q1 w2))
    (HCM : Hid (∀ w2 wz, Q1 w2 → Below w2.heap.size w2 wz → Calls Try.prog 34 #[.pointer (some ⟨xb, 0, none⟩), .int .i64 s.seq, .int .u8 5, .int .u8 0] wz fun e w' => e = .returned (.tuple #[]) ∧ Q2 w2 w')) :
    Calls Try.prog 40 #[.pointer (some ⟨xb, 0, none⟩), .int .i64 k] w fun e w' => e = .returned (.int .i64 0) ∧ ∃ w2, Q1 w2 ∧ Q2 w2 w' := by
  go_enter Try.func40, Try.ntmps40
  go_wp2_with fail
  refine HLA.out.mono ?_
  rintro e w2 ⟨rfl, hq1⟩
  have HQ1 := hide hq1
  clear hq1 HLA
  have HB2 : Hid (Below w2.heap.size w2 (w2.alloc (.cells #[.int .i64 s.seq, .int .i64 s.frm, .int .i64 s.to, .int .u16 s.p.src, .int .u16 s.p.dst, .int .u8 s.p.proto, .int .u16 s.p.id, .int .u8 s.p.off, .bool s.p.more, .int .u16 s.p.sport, .int .u16 s.p.dport, .slice none 0 0, .int .i64 s.p.dlen] 95))) := (Below.refl _ _).alloc (Nat.le_refl _) _
  go_wp2_with fail
  refine (HCM.out w2 _ HQ1.out HB2.out).mono ?_
  rintro e w5 ⟨rfl, hq⟩
  have HQ := hide hq
  clear hq
  go_wp2
  go_ret
  exact ⟨rfl, w2, HQ1.out, HQ.out⟩

set_option maxRecDepth 100000 in
set_option maxHeartbeats 1600000 in
theorem deliver_no (xb : Nat) (k : Int) (S : Cl) (F : Nat → Prop) (w : World) (h : PrIs w xb S F) (hk : k < 0 ∨ (S.sent.length : Int) ≤ k) :
    Calls Try.prog 38 #[.pointer (some ⟨xb, 0, none⟩), .int .i64 k] w fun e w' => e = .returned (.int .i64 1) ∧ Below w.heap.size w w' := by
  have HLN := hide (land_no xb k S F w h hk)
  clear h hk
  go_enter Try.func38, Try.ntmps38
  go_wp2_with fail
  refine HLN.out.mono ?_
  rintro e w2 ⟨rfl, hb⟩
  have HB := hide hb
  clear hb HLN
  go_wp2
  go_ret
  exact ⟨rfl, HB.out.alloc HB.out.size _⟩

set_option maxRecDepth 100000 in
set_option maxHeartbeats 1600000 in
theorem lose_no (xb : Nat) (k : Int) (S : Cl) (F : Nat → Prop) (w : World) (h : PrIs w xb S F) (hk : k < 0 ∨ (S.sent.length : Int) ≤ k) :
    Calls Try.prog 40 #[.pointer (some ⟨xb, 0, none⟩), .int .i64 k] w fun e w' => e = .returned (.int .i64 1) ∧ Below w.heap.size w w' := by
  have HLN := hide (land_no xb k S F w h hk)
  clear h hk
  go_enter Try.func40, Try.ntmps40
  go_wp2_with fail
  refine HLN.out.mono ?_
  rintro e w2 ⟨rfl, hb⟩
  have HB := hide hb
  clear hb HLN
  go_wp2
  go_ret
  exact ⟨rfl, HB.out.alloc HB.out.size _⟩

/-- What is on its way goes to its owner. -/
def ToOK (S : Cl) : Prop := ∀ s ∈ S.sent, s.to = ownerM S s.p
theorem deliver_yes (xb k : Nat) (S : Cl) (F : Nat → Prop) (s : Snt) (w : World) (h : PrIs w xb S F) (hs : Sml S) (hu : Uq S.ents) (ht : ToOK S) (hk : S.sent[k]? = some s) :
    Calls Try.prog 38 #[.pointer (some ⟨xb, 0, none⟩), .int .i64 k] w fun e w' => e = .returned (.int .i64 0) ∧ ∃ F', PrIs w' xb (deliverM S k) F' ∧ Stp w w' F F' := by
  have hmem := List.mem_of_getElem? hk
  have hto : s.to = ownerM (landM S k) s.p := ht s hmem
  have hsl : Sml (landM S k) := (sml_land S k s hs hk).1
  have hd : deliverM S k = pieceM (landM S k) s.seq s.p := by unfold deliverM; rw [hk]
  refine (deliver_core xb k s (fun w2 => ∃ F', PrIs w2 xb (landM S k) F' ∧ Stp w w2 F F') (fun w2 w' => ∃ F', PrIs w' xb (pieceM (landM S k) s.seq s.p) F' ∧ Stp w w' F F') w (hide (land_yes xb k S F s w h hk (by have := evs_few S hs; have := hs.next; omega))) (hide ?_)).mono ?_
  · rintro w2 wz ⟨F2, h2, hS2⟩ hb
    have := ccome_any xb (landM S k) F2 s.seq s.frm s.p wz (h2.below hb) hsl hu (hs.sent s hmem).1
    rw [← hto] at this
    refine this.mono ?_
    rintro e w' ⟨rfl, F3, h3, hS3⟩
    exact ⟨rfl, F3, h3, (hS2.trans (Stp.below hb)).trans hS3⟩
  · rintro e w' ⟨rfl, w2, _, F3, h3, hS3⟩
    rw [hd]
    exact ⟨rfl, F3, h3, hS3⟩
theorem lose_yes (xb k : Nat) (S : Cl) (F : Nat → Prop) (s : Snt) (w : World) (h : PrIs w xb S F) (hs : Sml S) (hk : S.sent[k]? = some s) :
    Calls Try.prog 40 #[.pointer (some ⟨xb, 0, none⟩), .int .i64 k] w fun e w' => e = .returned (.int .i64 0) ∧ ∃ F', PrIs w' xb (loseM S k) F' ∧ Stp w w' F F' := by
  have hd : loseM S k = toldM (landM S k) s.seq 5 0 := by unfold loseM; rw [hk]
  have hel := evs_few S hs
  have hnx := hs.next
  refine (lose_core xb k s (fun w2 => ∃ F', PrIs w2 xb (landM S k) F' ∧ Stp w w2 F F') (fun w2 w' => ∃ F', PrIs w' xb (toldM (landM S k) s.seq 5 0) F' ∧ Stp w w' F F') w (hide (land_yes xb k S F s w h hk (by omega))) (hide ?_)).mono ?_
  · rintro w2 wz ⟨F2, ⟨gS, cs, vT, vV, vN, RR, Fs, h2, hr, he⟩, hS2⟩ hb
    refine (tell_any xb (landM S k) F2 gS cs vT vV vN RR Fs _ s.seq 5 0 wz (h2.below hb) (by simp only [landM]; omega)).mono ?_
    rintro e w' ⟨rfl, F3, vV3, h3, hS3⟩
    exact ⟨rfl, F3, ⟨gS, cs, vT, vV3, vN, RR, Fs, h3, hr, he⟩, (hS2.trans (Stp.below hb)).trans hS3⟩
  · rintro e w' ⟨rfl, w2, _, F3, h3, hS3⟩
    rw [hd]
    exact ⟨rfl, F3, h3, hS3⟩

end Go.Proofs.Ytajphdppmdoalaa
