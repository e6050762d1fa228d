import Derived.Test.YtajphdppmdoalaaGreatZAOGtoOH
set_option maxRecDepth 100000
set_option maxHeartbeats 6400000
set_option linter.unusedVariables false
namespace Go.Proofs.YtajphdppmdoalaaGreat
open Go.RowKit
theorem has_keep {w w':World} {G:Nat→Prop} {ao:Option Addr} {zs:List Int} (h:Has w ao zs) (ho:Only G w w') (hG:∀ a,ao=some a→¬ G a.block):Has w' ao zs:=by
 refine ⟨h.1,fun hz=>?_⟩
 obtain ⟨b,o,rfl,hlt,hc⟩:=h.2 hz
 exact ⟨b,o,rfl,Nat.lt_of_lt_of_le hlt ho.size,fun j hj=>(ho.cell (p:=⟨b,o + j,none⟩) hlt (hG ⟨b,o,none⟩ rfl)).trans (hc j hj)⟩
theorem PrC.more {w:World} {xb:Nat} {S:Cl} {F:Nat→Prop} {gS:Nat} {cs:Array Value} {vT vV vN:Value} {RR:Nat→List PE} {Fs:Nat→Nat→Prop} {T:Nat→Int} (h:PrC w xb S F gS cs vT vV vN RR Fs T) :
  ∃ F',PrC (w.setCell ⟨xb,3,none⟩ (.int .i64 ((S.next:Int) + 1))) xb { S with next:=S.next + 1 } F' gS cs vT vV vN RR Fs T∧Stp w (w.setCell ⟨xb,3,none⟩ (.int .i64 ((S.next:Int) + 1))) F F':=by
 have hb3:=row_setCell (j:=3) h.blk (.int .i64 ((S.next:Int) + 1))
 have ho:Only (fun k=>k=xb) w (w.setCell ⟨xb,3,none⟩ (.int .i64 ((S.next:Int) + 1))):=(Only.refl (fun k=>k=xb) w).setG
 obtain ⟨h1,h2⟩:=h.upd ho (fun k hk=>.inl hk) { S with next:=S.next + 1 } vT vV vN (by simpa using hb3) (own_set' h.rT h.blk (by decide) _) (own_set' h.rV h.blk (by decide) _) (own_set' h.rN h.blk (by decide) _) (fun g hg=>.inl hg) (fun g hg=>.inl hg) (fun g hg=>.inl hg)
 exact ⟨_,h1,h2⟩
theorem evs_few (S:Cl) (hs:Sml S):S.evs.length≤S.next∧S.sent.length≤S.next:=by
 have h1:=hs.cnt
 simp only [seqsM,List.length_append,List.length_map] at h1
 omega
theorem arrive_any (xb:Nat) (S:Cl) (F:Nat→Prop) (rep:Int) (zs:List Int) (ao:Option Addr) (n cap:Nat) (w:World) (h:PrIs w xb S F) (hs:Sml S) (hu:Uq S.ents) (hnx:S.next≤1900000000000) (hr0:0≤rep) (hr1:rep < S.reps)
  (hl:zs.length=n) (hcap:n≤cap) (hcm:cap≤maxLen) (hd:Has w ao zs) (hz:∀ z ∈ zs,0≤z∧z≤255) (hap:∀ a,ao=some a→¬ F a.block) :
  Calls Tryz.prog 40 #[.pointer (some ⟨xb,0,none⟩),.int .i64 rep,.slice ao n cap] w fun e w'=>e=.returned (.tuple #[.int .i64 S.next,.int .i64 0])∧∃ F',PrIs w' xb (arriveM S rep (upK zs)) F'∧Stp w w' F F':=by
 obtain ⟨gS,cs,vT,vV,vN,RR,Fs,h,hr,he⟩:=h
 have hel:=evs_few S hs
 have hN1:1≤cs.size:=by have:=hs.cok.reps;omega
 have hN5:cs.size≤5:=by have:=hs.reps;omega
 have hs1:=sml_next S hs (by omega)
 obtain ⟨F1,h1,hS1⟩:=h.more
 have hU:=unpack_any ao n cap zs (w.setCell ⟨xb,3,none⟩ (.int .i64 ((S.next:Int) + 1))) hl hcap hcm (has_keep hd hS1.only hap) hz
 have c0:w.cell? ⟨xb,0,none⟩=some (.slice (some ⟨gS,0,none⟩) cs.size cs.size):=arr_cell h.blk 0
 have c3:w.cell? ⟨xb,3,none⟩=some (.int .i64 S.next):=arr_cell h.blk 3
 rw [hr] at hr1
 by_cases hc:upC zs=0
 ·obtain ⟨p,hup⟩:∃ p,upK zs=some p:=by unfold upK;rw [if_pos hc];exact ⟨_,rfl⟩
  obtain ⟨hpb,hpo⟩:=upK_ok zs hz p hup
  have hU2:Calls Tryz.prog 64 #[.slice ao n cap] (w.setCell ⟨xb,3,none⟩ (.int .i64 ((S.next:Int) + 1))) fun e w2=>∃ da dc,e=.returned (.tuple #[.agg #[.int .u16 p.src,.int .u16 p.dst,.int .u8 p.proto,.int .u16 p.id,.int .u8 p.off,.bool p.more,.int .u16 p.sport,.int .u16 p.dport,.slice da p.dlen dc],.int .i64 0])∧Below (w.setCell ⟨xb,3,none⟩ (.int .i64 ((S.next:Int) + 1))).heap.size (w.setCell ⟨xb,3,none⟩ (.int .i64 ((S.next:Int) + 1))) w2:=by
   refine hU.mono ?_
   rintro e w2 ⟨hb,⟨_,v,rfl,hrow⟩ | ⟨hne,_⟩⟩
   ·obtain ⟨da,dc,rfl⟩:=own_slice hrow
    unfold upK at hup
    rw [if_pos hc,Option.some.injEq] at hup
    subst hup
    exact ⟨da,dc,rfl,hb⟩
   ·exact absurd hc hne
  have hch:∀ (da:Option Addr) (dc:Nat) wz,PrC wz xb { S with next:=S.next + 1 } F1 gS cs vT vV vN RR Fs (fun _=>S.now)→Calls Tryz.prog 48 #[.pointer (some ⟨xb,0,none⟩),.agg #[.int .u16 p.src,.int .u16 p.dst,.int .u8 p.proto,.int .u16 p.id,.int .u8 p.off,.bool p.more,.int .u16 p.sport,.int .u16 p.dport,.slice da p.dlen dc]] wz fun e w'=>e=.returned (.tuple #[.int .u8 (chosenM S p),.int .i64 (if (!S.slots.isEmpty)=true then 0 else 7)])∧Below wz.heap.size wz w' :=
   fun da dc wz hz'=>choose_any xb { S with next:=S.next + 1 } F1 gS cs vT vV vN RR Fs _ p.src p.dst p.proto p.id p.off p.more p.sport p.dport da p.dlen dc wz hz' hs.slots hpb.src.1 hpb.src.2 hpb.dst.1 hpb.dst.2 hpb.proto.1 hpb.proto.2 hpb.id.1 hpb.id.2 hpb.off.1 (by have:=hpb.off.2;omega) hpb.sport.1 hpb.sport.2 hpb.dport.1 hpb.dport.2
  rw [hup]
  cases hwp:(decide (p.off=0) && !p.more) with
  | true =>
   have hwk:wholePk p=true:=hwp
   refine (arrive_whole xb gS cs.size S.next rep ao n cap p.src p.dst p.proto p.id p.off p.more p.sport p.dport p.dlen (fun wz w'=>∃ F' vV',PrC w' xb (if (if (!S.slots.isEmpty)=true then (0:Int) else 7)=0 then toldM { S with next:=S.next + 1 } S.next 0 (chosenM S p) else toldM { S with next:=S.next + 1 } S.next 2 0) F' gS cs vT vV' vN RR Fs (fun _=>S.now)∧Stp wz w' F1 F') _ w h.blk c0 c3 (by omega) hr0 hr1 (hide hU2) hwp (hide (fun da dc wz hb=>pass_core xb { S with next:=S.next + 1 } F1 gS cs vT vV vN RR Fs _ S.next p.src p.dst p.proto p.id p.off p.more p.sport p.dport da p.dlen dc (chosenM S p) _ wz (h1.below hb) (by simp only;omega) (hide (fun wy hy=>hch da dc wy ((h1.below hb).below hy)))))).mono ?_
   rintro e w' ⟨rfl,wz,hb,F',vV',h2,hS2⟩
   have hal:(if (if (!S.slots.isEmpty)=true then (0:Int) else 7)=0 then toldM { S with next:=S.next + 1 } S.next 0 (chosenM S p) else toldM { S with next:=S.next + 1 } S.next 2 0)=arriveM S rep (some p):=by
    unfold arriveM
    simp only [hwk,if_true]
    cases hsl:S.slots with
    | nil=>simp
    | cons a t=>simp
   rw [hal] at h2
   have hents:(arriveM S rep (some p)).reps=S.reps∧(arriveM S rep (some p)).now=S.now∧∀ o,entsM (arriveM S rep (some p)) o=entsM S o:=by
    unfold arriveM
    simp only [hwk,if_true]
    split <;> exact ⟨rfl,rfl,fun _=>rfl⟩
   exact ⟨rfl,F',⟨gS,cs,vT,vV',vN,RR,Fs,by rw [hents.2.1];exact h2,by rw [hents.1];exact hr,fun o ho=>by rw [hents.2.2];exact he o ho⟩,(hS1.trans (Stp.below hb)).trans hS2⟩
  | false =>
   have hwk:wholePk p=false:=hwp
   have hpok:=hpo hwk
   have hown:0≤ownerM S p:=Int.emod_nonneg _ (by have:=hs.cok.reps;omega)
   obtain ⟨o,ho⟩:∃ o:Nat,ownerM S p=(o:Int):=Int.eq_ofNat_of_zero_le hown
   have hdg:dgH p.src p.dst p.proto p.id % (cs.size:Int)=(o:Int):=by rw [← hr];exact ho
   have hOW:∀ (da:Option Addr) (dc:Nat) wz,PrC wz xb { S with next:=S.next + 1 } F1 gS cs vT vV vN RR Fs (fun _=>S.now)→Calls Tryz.prog 50 #[.pointer (some ⟨xb,0,none⟩),.agg #[.int .u16 p.src,.int .u16 p.dst,.int .u8 p.proto,.int .u16 p.id,.int .u8 p.off,.bool p.more,.int .u16 p.sport,.int .u16 p.dport,.slice da p.dlen dc]] wz fun e w'=>e=.returned (.int .i64 o)∧Below wz.heap.size wz w':=by
    intro da dc wz hz'
    have:=owner_any xb { S with next:=S.next + 1 } F1 gS cs vT vV vN RR Fs _ p.src p.dst p.proto p.id p.off p.more p.sport p.dport da p.dlen dc wz hz' hN1 hN5 hpb.src.1 hpb.src.2 hpb.dst.1 hpb.dst.2 hpb.proto.1 hpb.proto.2 hpb.id.1 hpb.id.2 hpb.off.1 (by have:=hpb.off.2;omega) hpb.sport.1 hpb.sport.2 hpb.dport.1 hpb.dport.2
    rw [hdg] at this
    exact this
   by_cases hfo:rep=(o:Int)
   ·have harr:arriveM S rep (some p)=pieceM { S with next:=S.next + 1 } S.next p:=by
     unfold arriveM
     simp only [hwk,Bool.false_eq_true,if_false]
     rw [if_pos (by rw [ho,hfo])]
    have hPI:∀ wz,PrC wz xb { S with next:=S.next + 1 } F1 gS cs vT vV vN RR Fs (fun _=>S.now)→PrIs wz xb { S with next:=S.next + 1 } F1:=fun wz hz'=>⟨gS,cs,vT,vV,vN,RR,Fs,hz',hr,he⟩
    have hown1:ownerM { S with next:=S.next + 1 } p=(o:Int):=ho
    refine (arrive_piece xb gS cs.size S.next rep ao n cap p.src p.dst p.proto p.id p.off p.more p.sport p.dport p.dlen (fun wz w'=>∃ wy,Below wz.heap.size wz wy∧∃ F',PrIs w' xb (pieceM { S with next:=S.next + 1 } S.next p) F'∧Stp wy w' F1 F') _ w h.blk c0 c3 (by omega) hr0 hr1 (hide hU2) hwp (hide (fun da dc wz hb=>send_here xb S.next o rep p.src p.dst p.proto p.id p.off p.more p.sport p.dport da p.dlen dc (fun wy w'=>∃ F',PrIs w' xb (pieceM { S with next:=S.next + 1 } S.next p) F'∧Stp wy w' F1 F') wz (by have:=hpb.dlen;omega) hfo (hide (fun wy hy=>hOW da dc wy ((h1.below hb).below hy))) (hide (fun wy hy=>?_))))).mono ?_
    ·have:=ccome_any xb { S with next:=S.next + 1 } F1 S.next rep p wy (hPI wy ((h1.below hb).below hy)) hs1.1 hu hpb
     rw [hown1] at this
     exact this
    ·rintro e w' ⟨rfl,wz,hb,wy,hy,F',h2,hS2⟩
     rw [harr]
     exact ⟨rfl,F',h2,((hS1.trans (Stp.below hb)).trans (Stp.below hy)).trans hS2⟩
   ·have harr:arriveM S rep (some p)={ S with next:=S.next + 1,sent:=S.sent ++ [⟨S.next,rep,o,p⟩] }:=by
     unfold arriveM
     simp only [hwk,Bool.false_eq_true,if_false]
     rw [if_neg (by rw [ho];exact fun hh=>hfo hh.symm),ho]
    refine (arrive_piece xb gS cs.size S.next rep ao n cap p.src p.dst p.proto p.id p.off p.more p.sport p.dport p.dlen (fun wz w'=>∃ F' vN',PrC w' xb { S with next:=S.next + 1,sent:=S.sent ++ [⟨S.next,rep,o,p⟩] } F' gS cs vT vV vN' RR Fs (fun _=>S.now)∧Stp wz w' F1 F') _ w h.blk c0 c3 (by omega) hr0 hr1 (hide hU2) hwp (hide (fun da dc wz hb=>send_away xb { S with next:=S.next + 1 } F1 gS cs vT vV vN RR Fs _ S.next o rep p.src p.dst p.proto p.id p.off p.more p.sport p.dport da p.dlen dc wz (h1.below hb) (by have:=hpb.dlen;omega) hfo (by simp only;omega) (hide (fun wy hy=>hOW da dc wy ((h1.below hb).below hy)))))).mono ?_
    rintro e w' ⟨rfl,wz,hb,F',vN',h2,hS2⟩
    rw [harr]
    exact ⟨rfl,F',⟨gS,cs,vT,vV,vN',RR,Fs,h2,hr,he⟩,(hS1.trans (Stp.below hb)).trans hS2⟩
 ·have hup:upK zs=none:=by unfold upK;rw [if_neg hc]
  have hU2:Calls Tryz.prog 64 #[.slice ao n cap] (w.setCell ⟨xb,3,none⟩ (.int .i64 ((S.next:Int) + 1))) fun e w2=>e=.returned (.tuple #[.agg #[.int .u16 0,.int .u16 0,.int .u8 0,.int .u16 0,.int .u8 0,.bool false,.int .u16 0,.int .u16 0,.slice none 0 0],.int .i64 (upC zs)])∧Below (w.setCell ⟨xb,3,none⟩ (.int .i64 ((S.next:Int) + 1))).heap.size (w.setCell ⟨xb,3,none⟩ (.int .i64 ((S.next:Int) + 1))) w2:=by
   refine hU.mono ?_
   rintro e w2 ⟨hb,⟨h0,_⟩ | ⟨_,rfl⟩⟩
   ·exact absurd h0 hc
   ·exact ⟨rfl,hb⟩
  refine (arrive_bad xb gS cs.size S.next rep ao n cap 0 0 0 0 0 false 0 0 none 0 0 (upC zs) hc (fun wz w'=>∃ F' vV',PrC w' xb (toldM { S with next:=S.next + 1 } S.next 1 0) F' gS cs vT vV' vN RR Fs (fun _=>S.now)∧Stp wz w' F1 F') _ w h.blk c0 c3 (by omega) hr0 hr1 (hide hU2) (hide (fun wz hb=>(tell_any xb { S with next:=S.next + 1 } F1 gS cs vT vV vN RR Fs _ S.next 1 0 wz (h1.below hb) (by simp only;omega)).mono (fun e w' he=>he)))).mono ?_
  rintro e w' ⟨rfl,wz,hb,F',vV',h2,hS2⟩
  rw [hup]
  exact ⟨rfl,F',⟨gS,cs,vT,vV',vN,RR,Fs,h2,hr,he⟩,(hS1.trans (Stp.below hb)).trans hS2⟩
theorem deliver_core (xb:Nat) (k:Int) (s:Snt) (Q1:World→Prop) (Q2:World→World→Prop) (w:World)
  (HLA:Hid (Calls Tryz.prog 80 #[.pointer (some ⟨xb,0,none⟩),.int .i64 k] w fun e w2=>e=.returned (.tuple #[.agg #[.int .i64 s.seq,.int .i64 s.frm,.int .i64 s.to,.int .u16 s.p.src,.int .u16 s.p.dst,.int .u8 s.p.proto,.int .u16 s.p.id,.int .u8 s.p.off,.bool s.p.more,.int .u16 s.p.sport,.int .u16 s.p.dport,.slice none 0 0,.int .i64 s.p.dlen],.int .i64 0])∧Q1 w2))
  (HCM:Hid (∀ w2 wz,Q1 w2→Below w2.heap.size w2 wz→Calls Tryz.prog 81 #[.pointer (some ⟨xb,0,none⟩),.agg #[.int .i64 s.seq,.int .i64 s.frm,.int .i64 s.to,.int .u16 s.p.src,.int .u16 s.p.dst,.int .u8 s.p.proto,.int .u16 s.p.id,.int .u8 s.p.off,.bool s.p.more,.int .u16 s.p.sport,.int .u16 s.p.dport,.slice none 0 0,.int .i64 s.p.dlen]] wz fun e w'=>e=.returned (.tuple #[])∧Q2 w2 w')) :
  Calls Tryz.prog 52 #[.pointer (some ⟨xb,0,none⟩),.int .i64 k] w fun e w'=>e=.returned (.int .i64 0)∧∃ w2,Q1 w2∧Q2 w2 w':=by
 go_enter Tryz.func52,Tryz.ntmps52
 go_wp2_with fail
 refine HLA.out.mono ?_
 rintro e w2 ⟨rfl,hq1⟩
 have HQ1:=hide hq1
 clear hq1 HLA
 have HB2:Hid (Below w2.heap.size w2 (w2.alloc (.cells #[.int .i64 s.seq,.int .i64 s.frm,.int .i64 s.to,.int .u16 s.p.src,.int .u16 s.p.dst,.int .u8 s.p.proto,.int .u16 s.p.id,.int .u8 s.p.off,.bool s.p.more,.int .u16 s.p.sport,.int .u16 s.p.dport,.slice none 0 0,.int .i64 s.p.dlen] 114))):=(Below.refl _ _).alloc (Nat.le_refl _) _
 go_wp2_with fail
 refine (HCM.out w2 _ HQ1.out HB2.out).mono ?_
 rintro e w5 ⟨rfl,hq⟩
 have HQ:=hide hq
 clear hq
 go_wp2
 go_ret
 exact ⟨rfl,w2,HQ1.out,HQ.out⟩
theorem lose_core (xb:Nat) (k:Int) (s:Snt) (Q1:World→Prop) (Q2:World→World→Prop) (w:World)
  (HLA:Hid (Calls Tryz.prog 80 #[.pointer (some ⟨xb,0,none⟩),.int .i64 k] w fun e w2=>e=.returned (.tuple #[.agg #[.int .i64 s.seq,.int .i64 s.frm,.int .i64 s.to,.int .u16 s.p.src,.int .u16 s.p.dst,.int .u8 s.p.proto,.int .u16 s.p.id,.int .u8 s.p.off,.bool s.p.more,.int .u16 s.p.sport,.int .u16 s.p.dport,.slice none 0 0,.int .i64 s.p.dlen],.int .i64 0])∧Q1 w2))
  (HCM:Hid (∀ w2 wz,Q1 w2→Below w2.heap.size w2 wz→Calls Tryz.prog 71 #[.pointer (some ⟨xb,0,none⟩),.int .i64 s.seq,.int .u8 5,.int .u8 0] wz fun e w'=>e=.returned (.tuple #[])∧Q2 w2 w')) :
  Calls Tryz.prog 54 #[.pointer (some ⟨xb,0,none⟩),.int .i64 k] w fun e w'=>e=.returned (.int .i64 0)∧∃ w2,Q1 w2∧Q2 w2 w':=by
 go_enter Tryz.func54,Tryz.ntmps54
 go_wp2_with fail
 refine HLA.out.mono ?_
 rintro e w2 ⟨rfl,hq1⟩
 have HQ1:=hide hq1
 clear hq1 HLA
 have HB2:Hid (Below w2.heap.size w2 (w2.alloc (.cells #[.int .i64 s.seq,.int .i64 s.frm,.int .i64 s.to,.int .u16 s.p.src,.int .u16 s.p.dst,.int .u8 s.p.proto,.int .u16 s.p.id,.int .u8 s.p.off,.bool s.p.more,.int .u16 s.p.sport,.int .u16 s.p.dport,.slice none 0 0,.int .i64 s.p.dlen] 114))):=(Below.refl _ _).alloc (Nat.le_refl _) _
 go_wp2_with fail
 refine (HCM.out w2 _ HQ1.out HB2.out).mono ?_
 rintro e w5 ⟨rfl,hq⟩
 have HQ:=hide hq
 clear hq
 go_wp2
 go_ret
 exact ⟨rfl,w2,HQ1.out,HQ.out⟩
theorem deliver_no (xb:Nat) (k:Int) (S:Cl) (F:Nat→Prop) (w:World) (h:PrIs w xb S F) (hk:k < 0∨(S.sent.length:Int)≤k) :
  Calls Tryz.prog 52 #[.pointer (some ⟨xb,0,none⟩),.int .i64 k] w fun e w'=>e=.returned (.int .i64 1)∧Below w.heap.size w w':=by
 have HLN:=hide (land_no xb k S F w h hk)
 clear h hk
 go_enter Tryz.func52,Tryz.ntmps52
 go_wp2_with fail
 refine HLN.out.mono ?_
 rintro e w2 ⟨rfl,hb⟩
 have HB:=hide hb
 clear hb HLN
 go_wp2
 go_ret
 exact ⟨rfl,HB.out.alloc HB.out.size _⟩
theorem lose_no (xb:Nat) (k:Int) (S:Cl) (F:Nat→Prop) (w:World) (h:PrIs w xb S F) (hk:k < 0∨(S.sent.length:Int)≤k) :
  Calls Tryz.prog 54 #[.pointer (some ⟨xb,0,none⟩),.int .i64 k] w fun e w'=>e=.returned (.int .i64 1)∧Below w.heap.size w w':=by
 have HLN:=hide (land_no xb k S F w h hk)
 clear h hk
 go_enter Tryz.func54,Tryz.ntmps54
 go_wp2_with fail
 refine HLN.out.mono ?_
 rintro e w2 ⟨rfl,hb⟩
 have HB:=hide hb
 clear hb HLN
 go_wp2
 go_ret
 exact ⟨rfl,HB.out.alloc HB.out.size _⟩
def ToOK (S:Cl):Prop:=∀ s ∈ S.sent,s.to=ownerM S s.p
theorem deliver_yes (xb k:Nat) (S:Cl) (F:Nat→Prop) (s:Snt) (w:World) (h:PrIs w xb S F) (hs:Sml S) (hu:Uq S.ents) (ht:ToOK S) (hk:S.sent[k]?=some s) :
  Calls Tryz.prog 52 #[.pointer (some ⟨xb,0,none⟩),.int .i64 k] w fun e w'=>e=.returned (.int .i64 0)∧∃ F',PrIs w' xb (deliverM S k) F'∧Stp w w' F F':=by
 have hmem:=List.mem_of_getElem? hk
 have hto:s.to=ownerM (landM S k) s.p:=ht s hmem
 have hsl:Sml (landM S k):=(sml_land S k s hs hk).1
 have hd:deliverM S k=pieceM (landM S k) s.seq s.p:=by unfold deliverM;rw [hk]
 refine (deliver_core xb k s (fun w2=>∃ F',PrIs w2 xb (landM S k) F'∧Stp w w2 F F') (fun w2 w'=>∃ F',PrIs w' xb (pieceM (landM S k) s.seq s.p) F'∧Stp w w' F F') w (hide (land_yes xb k S F s w h hk (by have:=evs_few S hs;have:=hs.next;omega))) (hide ?_)).mono ?_
 ·rintro w2 wz ⟨F2,h2,hS2⟩ hb
  have:=ccome_any xb (landM S k) F2 s.seq s.frm s.p wz (h2.below hb) hsl hu (hs.sent s hmem).1
  rw [← hto] at this
  refine this.mono ?_
  rintro e w' ⟨rfl,F3,h3,hS3⟩
  exact ⟨rfl,F3,h3,(hS2.trans (Stp.below hb)).trans hS3⟩
 ·rintro e w' ⟨rfl,w2,_,F3,h3,hS3⟩
  rw [hd]
  exact ⟨rfl,F3,h3,hS3⟩
theorem lose_yes (xb k:Nat) (S:Cl) (F:Nat→Prop) (s:Snt) (w:World) (h:PrIs w xb S F) (hs:Sml S) (hk:S.sent[k]?=some s) :
  Calls Tryz.prog 54 #[.pointer (some ⟨xb,0,none⟩),.int .i64 k] w fun e w'=>e=.returned (.int .i64 0)∧∃ F',PrIs w' xb (loseM S k) F'∧Stp w w' F F':=by
 have hd:loseM S k=toldM (landM S k) s.seq 5 0:=by unfold loseM;rw [hk]
 have hel:=evs_few S hs
 have hnx:=hs.next
 refine (lose_core xb k s (fun w2=>∃ F',PrIs w2 xb (landM S k) F'∧Stp w w2 F F') (fun w2 w'=>∃ F',PrIs w' xb (toldM (landM S k) s.seq 5 0) F'∧Stp w w' F F') w (hide (land_yes xb k S F s w h hk (by omega))) (hide ?_)).mono ?_
 ·rintro w2 wz ⟨F2,⟨gS,cs,vT,vV,vN,RR,Fs,h2,hr,he⟩,hS2⟩ hb
  refine (tell_any xb (landM S k) F2 gS cs vT vV vN RR Fs _ s.seq 5 0 wz (h2.below hb) (by simp only [landM];omega)).mono ?_
  rintro e w' ⟨rfl,F3,vV3,h3,hS3⟩
  exact ⟨rfl,F3,⟨gS,cs,vT,vV3,vN,RR,Fs,h3,hr,he⟩,(hS2.trans (Stp.below hb)).trans hS3⟩
 ·rintro e w' ⟨rfl,w2,_,F3,h3,hS3⟩
  rw [hd]
  exact ⟨rfl,F3,h3,hS3⟩
theorem tick_prog (life now:Int) (R:List PE):lateP life now R=(tickS (R.map PE.e) life (now + 1)).2∧(youngP life now R).map PE.e=(tickS (R.map PE.e) life (now + 1)).1:=by
 constructor
 ·simp only [lateP,outL,heldL,oldP,tickS,List.filter_map]
  rfl
 ·simp only [youngP,tickS,List.filter_map]
  rfl
theorem stick_is {w w':World} {vE v2:Value} {R:List PE} {now life:Int} {F:Nat→Prop} {gS:Nat} (h:StIs w vE R now F) (ho:Only (fun q=>q=gS) w w') (hg:¬ F gS) (hrow:w'.ownsRow w.heap.size 152 11 v2 (youngP life now R).length ((youngP life now R).flatMap (PE.cells (now + 1)))):StIs w' v2 (youngP life now R) (now + 1) (Grew F w w'):=by
 have h1:=h.only ho (fun k hk hh=>hg (hh ▸ hk))
 have hs:(youngP life now R).Sublist R:=List.filter_sublist
 exact ⟨own_zero hrow,fun r hr=>h1.rs r (hs.subset hr),fun r hr=>h1.rh r (hs.subset hr),h.apS.sublist hs,h.apH.sublist hs,fun g hg=>.inr (hrow.lt g hg),fun r hr g hg=>.inl (h.fS r (hs.subset hr) g hg),fun r hr g hg=>.inl (h.fH r (hs.subset hr) g hg),fun k hk=>hk.elim (fun hk=>h1.flt k hk) (fun hk=>hk.2)⟩
def lateE (S:Cl) (j:Nat):List Ev:=(List.range j).flatMap (fun (o:Nat)=>(tickS (entsM S o) S.life (S.now + 1)).2)
theorem late_snoc (S:Cl) (j:Nat):lateE S (j + 1)=lateE S j ++ (tickS (entsM S j) S.life (S.now + 1)).2:=by
 simp [lateE,List.range_succ]
theorem late_small (S:Cl) (hs:Sml S) (j:Nat):(tickS (entsM S j) S.life (S.now + 1)).2.length≤3000:=by
 have h1:∀ e ∈ entsM S j,e.pcs.length≤1000:=by
  intro e he
  have hm:=(List.mem_filter.1 he).1
  exact Nat.le_trans (pcs_few e (hs.cok.ents e hm).1 (hs.ents e hm).pcs) (by omega)
 have h2:∀ L:List Ent,(∀ e ∈ L,e.pcs.length≤1000)→(L.flatMap waitL).length≤1000 * L.length:=by
  intro L
  induction L with
  | nil=>intro _;simp
  | cons e L ih =>
   intro hL
   have h3:=ih (fun x hx=>hL x (List.mem_cons_of_mem _ hx))
   have h4:=hL e List.mem_cons_self
   have h5:(waitL e).length≤e.pcs.length:=List.length_filter_le _ _
   rw [List.flatMap_cons,List.length_append,List.length_cons]
   omega
 have h3:=hs.cok.few j
 simp only [tickS,List.length_map]
 have h4:=h2 ((entsM S j).filter (fun e=>decide (S.life≤S.now + 1 - e.born))) (fun e he=>h1 e (List.mem_filter.1 he).1)
 have h5:((entsM S j).filter (fun e=>decide (S.life≤S.now + 1 - e.born))).length≤(entsM S j).length:=List.length_filter_le _ _
 omega
theorem late_sum (S:Cl) (hs:Sml S) (j:Nat):(lateE S j).length≤3000 * j:=by
 induction j with
 | zero=>simp [lateE]
 | succ j ih =>
  have:=late_small S hs j
  rw [late_snoc,List.length_append]
  omega
def MidT (w:World) (xb:Nat) (S:Cl) (F:Nat→Prop) (gS N:Nat) (vT vN:Value) (RR:Nat→List PE) (j:Nat) (wr:World):Prop :=
 ∃ F' cs' vV' RR' Fs',PrC wr xb { S with evs:=S.evs ++ lateE S j } F' gS cs' vT vV' vN RR' Fs' (fun o=>if o < j then S.now + 1 else S.now)∧Stp w wr F F'∧cs'.size=N∧(∀ o,o < j→(RR' o).map PE.e=(tickS (entsM S o) S.life (S.now + 1)).1)∧(∀ o,j≤o→RR' o=RR o)
theorem tick_core (xb:Nat) (S:Cl) (F:Nat→Prop) (gS N:Nat) (cs0:Array Value) (vT vV vN:Value) (RR:Nat→List PE) (Fs:Nat→Nat→Prop) (w:World) (h:PrC w xb S F gS cs0 vT vV vN RR Fs (fun _=>S.now)) (hN:cs0.size=N) (hN5:N≤5) (hevl:S.evs.length≤2000000000000)
  (hlate:∀ j:Nat,(tickS (entsM S j) S.life (S.now + 1)).2.length≤3000) (hsum:∀ j,(lateE S j).length≤3000 * j)
  (hm:∀ o,o < N→(RR o).map PE.e=entsM S o) (hfew:∀ o,o < N→PFew (RR o)∧∀ r ∈ RR o,0≤S.now - r.e.born∧S.now - r.e.born≤2000000000000) :
  Calls Tryz.prog 58 #[.pointer (some ⟨xb,0,none⟩)] w fun e w'=>e=.returned (.tuple #[])∧MidT w xb S F gS N vT vN RR N w':=by
 have HM0:Hid (MidT w xb S F gS N vT vN RR 0 w):=⟨F,cs0,vV,RR,Fs,by
  have:S.evs ++ lateE S 0=S.evs:=by simp [lateE]
  rw [this]
  exact h.tcong (fun o _=>by simp),Stp.refl _ _,hN,fun o ho=>by omega,fun o _=>rfl⟩
 have HMM:=hide hm
 have HFW:=hide hfew
 have HSU:=hide hsum
 have hyb:=h.lt
 have dS:w.cell? ⟨xb,0,none⟩=some (.slice (some ⟨gS,0,none⟩) N N):=by rw [← hN];exact arr_cell h.blk 0
 have HLT:=hide hlate
 obtain ⟨i1,hi1,hp0,hp1,hp2⟩:=info_parts Tryz.infoEv
 have HI1:=hide (And.intro hi1 (And.intro hp0 (And.intro hp1 hp2)))
 clear h hm hfew hsum hlate hi1 hp0 hp1 hp2
 go_enter Tryz.func58,Tryz.ntmps58
 go_wp2_with fail
 go_loopw [9] (fun v wr=>∃ j:Nat,j≤N∧v=.int .i64 j∧Hid (MidT w xb S F gS N vT vN RR j wr)) (fun v _=>N - (intOf v).toNat)
 case atStart=>exact ⟨0,Nat.zero_le _,rfl,HM0.out⟩
 case round =>
  obtain ⟨j,hj,rfl,HMID⟩:=hrel
  by_cases hlt:j < N
  ·obtain ⟨F1,cs1,vV1,RR1,Fs1,hP1,hS1,hcs1,hL1,hR1⟩:=HMID.out
   obtain ⟨vE,hcE,hst⟩:=hP1.st j (by omega)
   simp only [Nat.lt_irrefl,if_false] at hst
   rw [hR1 j (Nat.le_refl _)] at hst
   have hgF:¬ Fs1 j gS:=fun hh=>(hP1.sub j gS hh).2.1 rfl
   have HTK:=hide (fun wz (hb:Below wr.heap.size wr wz)=>stick_any gS j cs1 vE (RR j) S.now S.life (Fs1 j) wz ((hb.block gS (hP1.flt gS hP1.fg)).trans hP1.stB) hcE (hst.below hb) (HFW.out j hlt).1 (HFW.out j hlt).2)
   have HST:=hide hst
   have HP1:=hide hP1
   have HGF:=hide hgF
   have HREST:=hide (And.intro hS1 (And.intro hcs1 (And.intro hL1 hR1)))
   have hx1:xb < wr.heap.size:=hP1.lt
   have e0:wr.cell? ⟨xb,0,none⟩=some (.slice (some ⟨gS,0,none⟩) N N):=by rw [← hcs1];exact arr_cell hP1.blk 0
   have e1:wr.cell? ⟨xb,1,none⟩=some (.int .i64 S.life):=arr_cell hP1.blk 1
   have hji:(j:Int) < (N:Int):=by omega
   have HBd:Hid (Below wr.heap.size wr wr.drew):=(Below.refl _ _).drew
   clear hP1 hst hgF hS1 hcs1 hL1 hR1 HMID
   go_upto_region 3 with (fail)
   go_cut [3] (fun a3 wc=>∃ (v v2:Value),v=a3∧Hid (wc.heap[gS]?=some (.cells (cs1.setIfInBounds j v2) 122 (0,0))∧wc.ownsRow wr.heap.size 152 11 v2 (youngP S.life S.now (RR j)).length ((youngP S.life S.now (RR j)).flatMap (PE.cells (S.now + 1)))∧wc.ownsRow wr.heap.size 60 3 v (lateP S.life S.now (RR j)).length ((lateP S.life S.now (RR j)).flatMap Ev.cells)∧((lateP S.life S.now (RR j)).length=0→v=.slice none 0 0)∧Only (fun q=>q=gS) wr wc))
   case first =>
    go_region_with (go_at_call 85;refine (HTK.out _ HBd.out).mono ?_;rintro e w6 ⟨v,v2,rfl,t1,t2,t3,t4,t5⟩)
    all_goals (go_wp2_with fail;go_meet)
    all_goals (case rel =>
     go_light
     exact ⟨_,v2,rfl,t1,t2,t3,t4,((Only.refl _ wr).drewN 1).trans t5 (fun _ _ hh=>hh)⟩)
   case rest =>
    obtain ⟨a3,v2,h3,HTP⟩:=hcut
    subst h3
    obtain ⟨w2,hw2⟩:∃ w2,w2=wc:=⟨_,rfl⟩
    subst hw2
    obtain ⟨t1,t2,t3,t4,t5⟩:=HTP.out
    obtain ⟨hP2,hS2⟩:=HP1.out.store j v2 (youngP S.life S.now (RR j)) (S.now + 1) (t5.mono (fun k _ hk=>.inl hk)) t1 (stick_is HST.out t5 HGF.out t2)
    have HP2:=hide hP2
    have HS2:=hide hS2
    have hyb2:=hP2.lt
    obtain ⟨va,vc,hvV⟩:=own_slice hP2.rV
    simp only at hvV
    have c4:w2.cell? ⟨xb,4,none⟩=some vV1:=arr_cell hP2.blk 4
    have cF:∀ j,w2.frozen? ⟨xb,j,none⟩=false:=fun j=>arr_frozen hP2.blk j
    rw [hvV] at c4
    have HX2:=hide (own_zero t3)
    have HN2:=hide t4
    have HRV:Hid (w2.ownsRow 0 60 3 vV1 (S.evs ++ lateE S j).length ((S.evs ++ lateE S j).flatMap Ev.cells)):=hP2.rV
    rw [hvV] at HRV
    have hll:(lateP S.life S.now (RR j)).length≤3000:=by rw [(tick_prog S.life S.now (RR j)).1,HMM.out j hlt];exact HLT.out j
    have hsm:=HSU.out j
    have hel:(S.evs ++ lateE S j).length≤2000000100000:=by rw [List.length_append];omega
    have HLP:=hide (And.intro (tick_prog S.life S.now (RR j)) (HMM.out j hlt))
    generalize hLP:lateP S.life S.now (RR j)=LP at *
    generalize hEV:S.evs ++ lateE S j=EV at *
    obtain ⟨xa,xc,hx7⟩:=own_slice HX2.out
    subst hx7
    obtain ⟨hi1,hp0,hp1,hp2⟩:=HI1.out
    clear hP2 hS2 t1 t2 t3 t4 t5 HTK HST
    go_wp2_with (at_builtin;refine wpList_append_row _ rfl (.tmp 27) (.tmp 28) 57 rfl 60 i1 _ 3 16 Tryz.underlying57 hi1 hp0 hp1 hp2 rfl (by decide) _ _ _ rfl HRV.out _ _ _ rfl HX2.out HN2.out (ev_one _) (by unfold maxLen;omega) (by omega) ?_)
    intro v8 w8 hown8 hgrow8 hwh8 hsame8
    have ho8:Only (fun k=>vV1.ownBlock=some k) w2 w8:=by rw [hvV];exact Only.of_grown hgrow8
    have hR:=HP2.out.addV ho8 LP (vV':=v8) (by rw [List.length_append,List.flatMap_append];exact hown8) (fun q hq=>by rw [hvV];exact hwh8 q hq)
    have HR:=hide hR
    have hb8:=(ho8.block xb hyb2 (own_apart_blk HP2.out.rV HP2.out.blk (by decide))).trans HP2.out.blk
    have c8:w8.cell? ⟨xb,4,none⟩=some vV1:=arr_cell hb8 4
    have cF8:∀ j,w8.frozen? ⟨xb,j,none⟩=false:=fun j=>arr_frozen hb8 j
    have hyb8:xb < w8.heap.size:=lt_of_block hb8
    rw [hvV] at c8
    obtain ⟨ya,yc,hy8⟩:=own_slice hown8
    subst hy8
    clear hown8 hgrow8 hwh8 hsame8 hR hb8 ho8
    go_wp2
    go_roundw
    case rel =>
     go_light
     obtain ⟨F8,hP8,hS8⟩:=HR.out
     obtain ⟨⟨p1,p2⟩,p3⟩:=HLP.out
     obtain ⟨q1,q2,q3,q4⟩:=HREST.out
     have hev:EV ++ LP=S.evs ++ lateE S (j + 1):=by
      rw [late_snoc,← List.append_assoc,hEV,p1,p3]
     have hP9:=(hP8.cong (S':={ S with evs:=S.evs ++ lateE S (j + 1) }) rfl rfl rfl hev.symm rfl).tcong (T':=fun o=>if o < j + 1 then S.now + 1 else S.now) (fun o _=>by
      by_cases h1:o=j
      ·subst h1
       simp
      ·by_cases h2:o < j
       ·rw [if_pos (by omega),if_neg h1,if_pos h2]
       ·rw [if_neg (by omega),if_neg h1,if_neg h2])
     refine ⟨j + 1,by omega,by go_num,F8,_,_,_,_,hP9,(q1.trans HS2.out).trans hS8,?_,?_,?_⟩
     ·rw [Array.size_setIfInBounds];exact q2
     ·intro o ho
      by_cases h1:o=j
      ·subst h1
       simp only [if_true]
       rw [p2,p3]
      ·simp only [if_neg h1]
       exact q3 o (by omega)
     ·intro o ho
      simp only [if_neg (show o ≠ j by omega)]
      exact q4 o (by omega)
    case measure=>simp [intOf];omega
  ·obtain rfl:j=N:=by omega
   go_wp2
   go_end0
   exact ⟨rfl,HMID.out⟩
theorem ctick_any (xb:Nat) (S:Cl) (F:Nat→Prop) (w:World) (h:PrIs w xb S F) (hs:Sml S) :
  Calls Tryz.prog 58 #[.pointer (some ⟨xb,0,none⟩)] w fun e w'=>e=.returned (.tuple #[])∧∃ F',PrIs w' xb (tickM S) F'∧Stp w w' F F':=by
 obtain ⟨gS,cs,vT,vV,vN,RR,Fs,h,hr,he⟩:=h
 have hN5:cs.size≤5:=by have:=hs.reps;omega
 have hts:=tick_store S
 refine (tick_core xb S F gS cs.size cs vT vV vN RR Fs w h rfl hN5 (by have:=evs_few S hs;have:=hs.next;omega) (late_small S hs) (late_sum S hs) he (fun o ho=>by
  obtain ⟨f1,_,_,_,f5⟩:=few_of S hs o (RR o) (he o ho)
  exact ⟨f1,f5⟩)).mono ?_
 rintro e w' ⟨rfl,F',cs',vV',RR',Fs',hP,hS,hc,hL,_⟩
 have hev:(tickM S).evs=S.evs ++ lateE S cs.size:=by
  rw [hts.1,hr]
  rfl
 refine ⟨rfl,F',⟨gS,cs',vT,vV',vN,RR',Fs',?_,?_,?_⟩,hS⟩
 ·refine PrC.tcong (T:=fun o=>if o < cs.size then S.now + 1 else S.now) (hP.cong (S':=tickM S) rfl rfl rfl hev rfl) (fun o ho=>?_)
  rw [hc] at ho
  rw [if_pos ho]
  rfl
 ·rw [hc];exact hr
 ·intro o ho
  rw [hc] at ho
  rw [hL o ho,hts.2]
end Go.Proofs.YtajphdppmdoalaaGreat
