import Derived.Test.YtajphdppmdoalaaGreatZALBtoOB
import Derived.Deep.DeepCutAuto
set_option maxRecDepth 100000
set_option maxHeartbeats 6400000
set_option linter.unusedVariables false
namespace Go.Proofs.YtajphdppmdoalaaGreat
open Go.RowKit
theorem few_of (S:Cl) (hs:Sml S) (o:Int) (R:List PE) (hR:R.map PE.e=entsM S o):PFew R∧(∀ r ∈ R,EOK r.e)∧R.length≤3∧(∀ r ∈ R,r.e.pcs.length≤900)∧(∀ r ∈ R,0≤S.now - r.e.born∧S.now - r.e.born≤2000000000000):=by
 have hm:∀ r ∈ R,r.e ∈ S.ents:=by
  intro r hr
  have:r.e ∈ R.map PE.e:=List.mem_map_of_mem hr
  rw [hR,entsM] at this
  exact (List.mem_filter.1 this).1
 have hl:R.length≤3:=by
  have h1:=hs.cok.few o
  rw [← hR,List.length_map] at h1
  exact h1
 have hk:∀ r ∈ R,EOK r.e:=fun r hr=>(hs.cok.ents _ (hm r hr)).1
 have h9:∀ r ∈ R,r.e.pcs.length≤92:=fun r hr=>pcs_few _ (hk r hr) (hs.ents _ (hm r hr)).pcs
 have hn:=hs.now
 refine ⟨⟨by omega,fun r hr=>⟨Nat.le_trans (h9 r hr) (by omega),fun q hq=>?_⟩⟩,hk,hl,fun r hr=>Nat.le_trans (h9 r hr) (by omega),fun r hr=>?_⟩
 ·have h1:=(hk r hr).pos q hq
  have h2:=(hs.ents _ (hm r hr)).pcs q hq
  omega
 ·have h1:=(hs.ents _ (hm r hr)).born
  omega
theorem held_no (xb:Nat) (k:Int) (S:Cl) (F:Nat→Prop) (w:World) (h:PrIs w xb S F) (hk:k < 0∨S.reps≤k) :
  Calls Tryz.prog 56 #[.pointer (some ⟨xb,0,none⟩),.int .i64 k] w fun e w'=>e=.returned (.tuple #[.agg #[.int .i64 0,.int .i64 0,.int .i64 0],.int .i64 1])∧Below w.heap.size w w':=by
 obtain ⟨gS,cs,vT,vV,vN,RR,Fs,h,hr,he⟩:=h
 rw [hr] at hk
 have hyb:=h.lt
 have dY:=arr_cell h.blk
 clear h
 generalize cs.size=N at *
 by_cases h0:k < 0
 ·clear hk
  go_enter Tryz.func56,Tryz.ntmps56
  go_wp2
  refine bodyPost_ret (v:=.tuple #[.agg #[.int .i64 0,.int .i64 0,.int .i64 0],.int .i64 1]) ?_ rfl ⟨rfl,?_⟩
  all_goals go_light
  ·simp [results,Tryz.results56,go_sem]
  ·repeat' first | with_reducible exact Below.refl _ _ | with_reducible refine Below.setCell ?_ ?_ _ | with_reducible refine Below.alloc ?_ ?_ _
   all_goals (simp;try omega)
 ·have h1:k ≥ (N:Int):=by omega
  clear hk
  go_enter Tryz.func56,Tryz.ntmps56
  go_wp2
  refine bodyPost_ret (v:=.tuple #[.agg #[.int .i64 0,.int .i64 0,.int .i64 0],.int .i64 1]) ?_ rfl ⟨rfl,?_⟩
  all_goals go_light
  ·simp [results,Tryz.results56,go_sem]
  ·repeat' first | with_reducible exact Below.refl _ _ | with_reducible refine Below.setCell ?_ ?_ _ | with_reducible refine Below.alloc ?_ ?_ _
   all_goals (simp;try omega)
theorem held_yes (xb k:Nat) (S:Cl) (F:Nat→Prop) (w:World) (h:PrIs w xb S F) (hs:Sml S) (hk:(k:Int) < S.reps) :
  Calls Tryz.prog 56 #[.pointer (some ⟨xb,0,none⟩),.int .i64 k] w fun e w'=>e=.returned (.tuple #[.agg #[.int .i64 (entsM S k).length,.int .i64 (heldN S k),.int .i64 (heldB S k)],.int .i64 0])∧Below w.heap.size w w':=by
 obtain ⟨gS,cs,vT,vV,vN,RR,Fs,h,hr,he⟩:=h
 rw [hr] at hk
 have hkn:k < cs.size:=by omega
 obtain ⟨vE,hcE,hst⟩:=h.st k hkn
 have hm:=he k hkn
 obtain ⟨f1,f2,f3,f4,f5⟩:=few_of S hs k (RR k) hm
 have HB0:Hid (Below w.heap.size w (w.alloc (.cells #[.int .i64 0,.int .i64 0,.int .i64 0] 98))):=(Below.refl _ _).alloc (Nat.le_refl _) _
 have hgS:gS < w.heap.size:=h.flt gS h.fg
 have HL:=hide (load_any gS k vE (RR k) S.now (Fs k) _ (Nat.lt_of_lt_of_le hgS HB0.out.size) ((arr_cell ((HB0.out.block gS hgS).trans h.stB) k).trans hcE) (hst.below HB0.out) f1)
 have e1:(RR k).length=(entsM S k).length:=by rw [← hm,List.length_map]
 have e2:heldL (RR k)=(entsM S k).flatMap waitL:=by rw [heldL,hm]
 have e3:((entsM S k).flatMap waitL).length=heldN S k:=rfl
 have e4:bytesL ((entsM S k).flatMap waitL)=heldB S k:=rfl
 rw [e1,e2,e3,e4] at HL
 have hyb:=h.lt
 have dY:=arr_cell h.blk
 clear h hst hm e1 e2 e3 e4 f1 f2 f3 f4 f5 he
 generalize (entsM S k).length=E at *
 generalize heldN S k=P0 at *
 generalize heldB S k=B at *
 generalize cs.size=N at *
 go_enter Tryz.func56,Tryz.ntmps56
 go_wp2_with fail
 refine HL.out.mono ?_
 rintro e w2 ⟨rfl,hb2⟩
 have HX:Hid (w2.heap[w.heap.size]?=some (.cells #[.int .i64 0,.int .i64 0,.int .i64 0] 98 (0,0))):=(hb2.block _ (by simp)).trans (heap_alloc_new _ _)
 have HB2:Hid (Below w.heap.size w w2):=HB0.out.trans (hb2.mono (by simp))
 have dX:=arr_cell HX.out
 have fX:=arr_frozen HX.out
 have hz2:w.heap.size < w2.heap.size:=lt_of_block HX.out
 clear hb2 HL dY
 go_wp2
 have h3:=put3 (t:=98) HX.out (.int .i64 E) (.int .i64 P0) (.int .i64 B)
 generalize ((w2.setCell ⟨w.heap.size,0,none⟩ _).setCell ⟨w.heap.size,1,none⟩ _).setCell ⟨w.heap.size,2,none⟩ _=wF at h3 ⊢
 have dF:=arr_cell h3.1
 have hzF:w.heap.size < wF.heap.size:=lt_of_block h3.1
 have HBF:Hid (Below w.heap.size w wF):=HB2.out.trans (h3.2.to_below (by omega) (fun k hk=>by omega))
 clear dX fX
 refine bodyPost_ret (v:=.tuple #[.agg #[.int .i64 E,.int .i64 P0,.int .i64 B],.int .i64 0]) ?_ rfl ⟨rfl,HBF.out⟩
 go_light
 simp [results,Tryz.results56,go_sem,dF]
theorem flying_any (xb:Nat) (S:Cl) (F:Nat→Prop) (w:World) (h:PrIs w xb S F) (hn:S.sent.length≤2000000000000) :
  Calls Tryz.prog 45 #[.pointer (some ⟨xb,0,none⟩)] w fun e w'=>∃ v,e=.returned v∧w'.ownsRow w.heap.size 64 3 v S.sent.length (S.sent.flatMap Snt.fly)∧Below w.heap.size w w':=by
 obtain ⟨gS,cs,vT,vV,vN,RR,Fs,h,hr,he⟩:=h
 obtain ⟨i0,hi,hz0,hz1,hz2⟩:=info_parts Tryz.infoFl
 have HI:=hide (And.intro hi (And.intro hz0 (And.intro hz1 hz2)))
 clear hi hz0 hz1 hz2
 have HH:=hide h
 have hyb:=h.lt
 obtain ⟨ao,cap,hvN⟩:=own_slice h.rN
 subst hvN
 have dN:w.cell? ⟨xb,5,none⟩=some (.slice ao S.sent.length cap):=arr_cell h.blk 5
 clear h hr he
 go_enter Tryz.func45,Tryz.ntmps45
 go_wp2_with fail
 go_loopw [11,3] (fun i l wr=>∃ j:Nat,j≤S.sent.length∧i=.int .i64 j∧Hid (wr.ownsRow w.heap.size 64 3 l j ((S.sent.take j).flatMap Snt.fly))∧Hid (Below w.heap.size w wr)) (fun i _ _=>S.sent.length - (intOf i).toNat)
 case atStart=>exact ⟨0,Nat.zero_le _,rfl,World.ownsRow_nil _ _ _ _,Below.refl _ _⟩
 case round =>
  obtain ⟨j,hj,rfl,HO,HB⟩:=hrel
  by_cases hlt:j < S.sent.length
  ·obtain ⟨g,q,hgq⟩:=own_some HH.out.rN (by omega)
   rw [Value.slice.injEq] at hgq
   obtain ⟨rfl,_,rfl⟩:=hgq
   have hN:=(HH.out.below HB.out).rN
   have hgz:g < wr.heap.size:=(hN.lt g rfl).2
   obtain ⟨s,hr⟩:∃ s,S.sent[j]?=some s:=⟨_,List.getElem?_eq_getElem hlt⟩
   have c0:wr.cell? ⟨g,j * 13,none⟩=_:=row_get Snt.pcells Snt.plen hN j s hr 0 _ rfl
   have c1:=row_get Snt.pcells Snt.plen hN j s hr 1 _ rfl
   have c2:=row_get Snt.pcells Snt.plen hN j s hr 2 _ rfl
   have c3:=row_get Snt.pcells Snt.plen hN j s hr 3 _ rfl
   have c4:=row_get Snt.pcells Snt.plen hN j s hr 4 _ rfl
   have c5:=row_get Snt.pcells Snt.plen hN j s hr 5 _ rfl
   have c6:=row_get Snt.pcells Snt.plen hN j s hr 6 _ rfl
   have c7:=row_get Snt.pcells Snt.plen hN j s hr 7 _ rfl
   have c8:=row_get Snt.pcells Snt.plen hN j s hr 8 _ rfl
   have c9:=row_get Snt.pcells Snt.plen hN j s hr 9 _ rfl
   have c10:=row_get Snt.pcells Snt.plen hN j s hr 10 _ rfl
   have c11:=row_get Snt.pcells Snt.plen hN j s hr 11 _ rfl
   have c12:=row_get Snt.pcells Snt.plen hN j s hr 12 _ rfl
   have HST:Hid ((S.sent.take (j + 1)).flatMap Snt.fly=(S.sent.take j).flatMap Snt.fly ++ [.int .i64 s.seq,.int .i64 s.frm,.int .i64 s.to]):=by show _=_;rw [List.take_add_one,hr];simp [Snt.fly]
   have hsz:w.heap.size≤wr.heap.size:=HB.out.size
   obtain ⟨hi,hz0,hz1,hz2⟩:=HI.out
   clear hN hr
   go_wp2_with (at_builtin;refine wpList_append_own _ rfl (.tmp 15) (.tmp 18) 62 rfl w.heap.size 64 i0 _ 3 24 Tryz.underlying62 hi hz0 hz1 hz2 rfl (by decide) _ _ _ rfl ((HO.out.alloc _).alloc _) ⟨wr.heap.size + 1,0,none⟩ 1 1 [.int .i64 s.seq,.int .i64 s.frm,.int .i64 s.to] rfl rfl (news2 _ _ _ _) (by simp [Value.oneCell']) (by unfold maxLen;omega) (by omega) (by simp;omega) ?_)
   intro v2 w2 hown hgrow hiff
   rw [← HST.out] at hown
   have HO2:=hide hown
   have HB2:Hid (Below w.heap.size w w2):=((HB.out.alloc hsz _).alloc (by simp;omega) _).grown hgrow (by simp;omega) (fun k hk=>(HO.out.lt k hk).1)
   clear hown hgrow hiff
   go_wp2
   go_roundw
   case rel=>exact ⟨j + 1,by omega,by go_num,HO2.out,HB2.out⟩
   case measure=>simp [intOf];omega
  ·obtain rfl:j=S.sent.length:=by omega
   rw [List.take_length] at HO
   go_wp2
   go_ret
   exact ⟨_,rfl,HO.out,HB.out⟩
theorem PrC.cong {w:World} {xb:Nat} {S S':Cl} {F:Nat→Prop} {gS:Nat} {cs:Array Value} {vT vV vN:Value} {RR:Nat→List PE} {Fs:Nat→Nat→Prop} {T:Nat→Int} (h:PrC w xb S F gS cs vT vV vN RR Fs T) (h1:S'.life=S.life) (h2:S'.next=S.next) (h3:S'.slots=S.slots) (h4:S'.evs=S.evs) (h5:S'.sent=S.sent):PrC w xb S' F gS cs vT vV vN RR Fs T :=
 ⟨by rw [h1,h2];exact h.blk,h.stB,h.st,by rw [h3];exact h.rT,by rw [h4];exact h.rV,by rw [h5];exact h.rN,h.dis,h.sub,h.fx,h.fg,h.fT,h.fV,h.fN,h.flt⟩
theorem PrC.tcong {w:World} {xb:Nat} {S:Cl} {F:Nat→Prop} {gS:Nat} {cs:Array Value} {vT vV vN:Value} {RR:Nat→List PE} {Fs:Nat→Nat→Prop} {T T':Nat→Int} (h:PrC w xb S F gS cs vT vV vN RR Fs T) (hT:∀ o,o < cs.size→T' o=T o):PrC w xb S F gS cs vT vV vN RR Fs T' :=
 ⟨h.blk,h.stB,fun o ho=>by rw [hT o ho];exact h.st o ho,h.rT,h.rV,h.rN,h.dis,h.sub,h.fx,h.fg,h.fT,h.fV,h.fN,h.flt⟩
theorem come_len (L:List Ent) (own now:Int) (seq:Nat) (p:Pk) (b:Int) (ok:Bool) (h:∀ e ∈ L,e.pcs.length≤1000):(comeS L own now seq p b ok).2.length≤1001:=by
 unfold comeS
 simp only
 split
 ·simp
 ·split
  ·simp
  ·rename_i e he
   have hmem:e.pcs.length≤1000:=by
    have:=List.mem_of_getElem? he
    unfold begS at this
    split at this
    ·exact h e this
    ·rcases List.mem_append.1 this with h1 | h1
     ·exact h e h1
     ·rw [List.mem_singleton.1 h1];simp [newS]
   unfold takenB
   simp only
   split
   ·simp only [List.length_cons,List.length_map]
    have:(waitL e).length≤e.pcs.length:=List.length_filter_le _ _
    omega
   ·simp
theorem ccome_core (xb:Nat) (S:Cl) (F:Nat→Prop) (gS:Nat) (cs:Array Value) (vT vV vN:Value) (RR:Nat→List PE) (Fs:Nat→Nat→Prop) (T:Nat→Int) (t:Int) (o seq:Nat) (frm:Int) (p:Pk) (bk ec:Int) (L:List Ent) (E:List Ev) (w:World) (h:PrC w xb S F gS cs vT vV vN RR Fs T) (hoc:o < cs.size) (hn5:cs.size≤5) (hevl:S.evs.length≤2000000000000) (hcl:E.length≤1001)
  (HCH:Hid (∀ wz,Below w.heap.size w wz→Calls Tryz.prog 48 #[.pointer (some ⟨xb,0,none⟩),.agg #[.int .u16 p.src,.int .u16 p.dst,.int .u8 p.proto,.int .u16 p.id,.int .u8 p.off,.bool p.more,.int .u16 p.sport,.int .u16 p.dport,.slice none 0 0]] wz fun e w'=>e=.returned (.tuple #[.int .u8 bk,.int .i64 ec])∧Below wz.heap.size wz w'))
  (HCO:Hid (∀ wz,Below w.heap.size w wz→Calls Tryz.prog 100 #[.pointer (some ⟨gS,o,none⟩),.int .i64 seq,.agg #[.int .u16 p.src,.int .u16 p.dst,.int .u8 p.proto,.int .u16 p.id,.int .u8 p.off,.bool p.more,.int .u16 p.sport,.int .u16 p.dport,.slice none 0 0,.int .i64 p.dlen],.int .u8 bk,.int .i64 ec] wz fun e w'=>∃ v v2 R',e=.returned v∧StPost wz w' gS o cs t (Fs o) L E v v2 R')) :
  Calls Tryz.prog 81 #[.pointer (some ⟨xb,0,none⟩),.agg #[.int .i64 seq,.int .i64 frm,.int .i64 o,.int .u16 p.src,.int .u16 p.dst,.int .u8 p.proto,.int .u16 p.id,.int .u8 p.off,.bool p.more,.int .u16 p.sport,.int .u16 p.dport,.slice none 0 0,.int .i64 p.dlen]] w fun e w'=>e=.returned (.tuple #[])∧∃ F' Fs' vV' v2 R2,PrC w' xb { S with evs:=S.evs ++ E } F' gS (cs.setIfInBounds o v2) vT vV' vN (fun j=>if j=o then R2 else RR j) Fs' (fun j=>if j=o then t else T j)∧R2.map PE.e=L∧Stp w w' F F':=by
 have HH:=hide h
 have hyb:=h.lt
 have dS:w.cell? ⟨xb,0,none⟩=some (.slice (some ⟨gS,0,none⟩) cs.size cs.size):=arr_cell h.blk 0
 have HW0:Hid (FxW w.heap.size w #[.int .i64 seq,.int .i64 frm,.int .i64 o,.int .u16 p.src,.int .u16 p.dst,.int .u8 p.proto,.int .u16 p.id,.int .u8 p.off,.bool p.more,.int .u16 p.sport,.int .u16 p.dport,.slice none 0 0,.int .i64 p.dlen] (w.alloc (.cells #[.int .i64 seq,.int .i64 frm,.int .i64 o,.int .u16 p.src,.int .u16 p.dst,.int .u8 p.proto,.int .u16 p.id,.int .u8 p.off,.bool p.more,.int .u16 p.sport,.int .u16 p.dport,.slice none 0 0,.int .i64 p.dlen] 114))):=⟨(Below.refl _ _).alloc (Nat.le_refl _) _,by simp,box_cell (Below.refl _ _)⟩
 obtain ⟨va,vc,hvV⟩:=own_slice h.rV
 clear h
 go_enter Tryz.func81,Tryz.ntmps81
 go_wp2_with fail
 refine (HCH.out _ HW0.out.1).mono ?_
 rintro e w1 ⟨rfl,hb1⟩
 have HW1:=hide (HW0.out.below hb1)
 have cX:=HW1.out.2.2
 have hX1:=HW1.out.2.1
 have d1:=(HW1.out.1.cell (p:=⟨xb,0,none⟩) hyb).trans dS
 have hx1:xb < w1.heap.size:=by omega
 have HW1d:=hide HW1.out.drew
 clear hb1 HW0 HCH
 go_upto_region 4 with (fail)
 go_cut [7] (fun a7 wc=>∃ (v v2:Value) (R2:List PE),v=a7∧Hid (StPost w1 wc gS o cs t (Fs o) L E v v2 R2))
 case first =>
  go_region_with (go_at_call 100;refine (HCO.out _ HW1d.out.1).mono ?_;rintro e w6 ⟨v,v2,R2,rfl,hpo⟩)
  all_goals (go_wp2_with fail;go_meet)
  all_goals (case rel =>
   go_light
   exact ⟨_,v2,R2,rfl,⟨hpo.cell,hpo.is,hpo.ents,hpo.ev,hpo.nil,((Only.refl _ w1).drewN 1).trans hpo.only (fun _ _ hh=>hh)⟩⟩)
 case rest =>
  obtain ⟨a7,v2,R2,h7,HPO⟩:=hcut
  subst h7
  obtain ⟨w2,hw2⟩:∃ w2,w2=wc:=⟨_,rfl⟩
  subst hw2
  have h1:=HH.out.below HW1.out.1
  obtain ⟨hP2,hS2⟩:=h1.store o v2 R2 t HPO.out.only HPO.out.cell HPO.out.is
  have HP2:=hide hP2
  have HS2:=hide hS2
  obtain ⟨i1,hi1,hp0,hp1,hp2⟩:=info_parts Tryz.infoEv
  have hyb2:=hP2.lt
  have c4:w2.cell? ⟨xb,4,none⟩=some vV:=arr_cell hP2.blk 4
  have cF:∀ j,w2.frozen? ⟨xb,j,none⟩=false:=fun j=>arr_frozen hP2.blk j
  rw [hvV] at c4
  have HX2:=hide (own_zero HPO.out.ev)
  have HN2:=hide HPO.out.nil
  have HRV:=hide hP2.rV
  rw [hvV] at HRV
  obtain ⟨xa,xc,hx7⟩:=own_slice HX2.out
  subst hx7
  clear h1 hP2 hS2 cX d1 HW1d HCO dS
  go_wp2_with (at_builtin;refine wpList_append_row _ rfl (.tmp 48) (.tmp 49) 57 rfl 60 i1 _ 3 16 Tryz.underlying57 hi1 hp0 hp1 hp2 rfl (by decide) _ _ _ rfl HRV.out _ _ _ rfl HX2.out HN2.out (ev_one _) (by unfold maxLen;omega) (by omega) ?_)
  intro v8 w8 hown8 hgrow8 hwh8 hsame8
  have ho8:Only (fun k=>vV.ownBlock=some k) w2 w8:=by rw [hvV];exact Only.of_grown hgrow8
  have hR:=HP2.out.addV ho8 E (vV':=v8) (by rw [List.length_append,List.flatMap_append];exact hown8) (fun q hq=>by rw [hvV];exact hwh8 q hq)
  have HR:=hide hR
  have hb8:=(ho8.block xb hyb2 (own_apart_blk HP2.out.rV HP2.out.blk (by decide))).trans HP2.out.blk
  have c8:w8.cell? ⟨xb,4,none⟩=some vV:=arr_cell hb8 4
  have cF8:∀ j,w8.frozen? ⟨xb,j,none⟩=false:=fun j=>arr_frozen hb8 j
  have hyb8:xb < w8.heap.size:=lt_of_block hb8
  rw [hvV] at c8
  obtain ⟨ya,yc,hy8⟩:=own_slice hown8
  subst hy8
  clear hown8 hgrow8 hwh8 hsame8 hR hb8 ho8
  go_wp2
  go_end0
  obtain ⟨F8,hP8,hS8⟩:=HR.out
  exact ⟨rfl,F8,_,_,v2,R2,hP8,HPO.out.ents,((Stp.below HW1.out.1).trans HS2.out).trans hS8⟩
theorem ccome_any (xb:Nat) (S:Cl) (F:Nat→Prop) (seq:Nat) (frm:Int) (p:Pk) (w:World) (h:PrIs w xb S F) (hs:Sml S) (hu:Uq S.ents) (hp:PkB p) :
  Calls Tryz.prog 81 #[.pointer (some ⟨xb,0,none⟩),.agg #[.int .i64 seq,.int .i64 frm,.int .i64 (ownerM S p),.int .u16 p.src,.int .u16 p.dst,.int .u8 p.proto,.int .u16 p.id,.int .u8 p.off,.bool p.more,.int .u16 p.sport,.int .u16 p.dport,.slice none 0 0,.int .i64 p.dlen]] w fun e w'=>e=.returned (.tuple #[])∧∃ F',PrIs w' xb (pieceM S seq p) F'∧Stp w w' F F':=by
 obtain ⟨gS,cs,vT,vV,vN,RR,Fs,h,hr,he⟩:=h
 have hps:=piece_store S seq p hs.cok hu
 have hsm:=piece_same S seq p
 have hown:0≤ownerM S p∧ownerM S p < (cs.size:Int):=by
  have:=hs.cok.reps
  rw [hr] at this
  unfold ownerM
  rw [hr]
  exact ⟨Int.emod_nonneg _ (by omega),Int.emod_lt_of_pos _ (by omega)⟩
 have HPS:=hide (And.intro hps hsm)
 obtain ⟨o,ho⟩:∃ o:Nat,ownerM S p=(o:Int):=Int.eq_ofNat_of_zero_le hown.1
 rw [ho] at hown HPS
 rw [ho]
 have hoc:o < cs.size:=by omega
 obtain ⟨vE,hcE,hst⟩:=h.st o hoc
 obtain ⟨f1,f2,f3,f4,f5⟩:=few_of S hs o (RR o) (he o hoc)
 have hel:∀ e ∈ entsM S o,e.pcs.length≤1000:=by
  intro e hem
  rw [← he o hoc] at hem
  obtain ⟨r,hr',rfl⟩:=List.mem_map.1 hem
  exact (f1.2 r hr').1
 have hcl:=come_len (entsM S o) o S.now seq p (chosenM S p) (!S.slots.isEmpty) hel
 have hevl:S.evs.length≤2000000000000:=by
  have h1:=hs.cnt
  have h2:=hs.next
  simp only [seqsM,List.length_append,List.length_map] at h1
  omega
 have HCH:=hide (fun wz (hb:Below w.heap.size w wz)=>choose_any xb S F gS cs vT vV vN RR Fs _ p.src p.dst p.proto p.id p.off p.more p.sport p.dport none 0 0 wz (h.below hb) hs.slots hp.src.1 hp.src.2 hp.dst.1 hp.dst.2 hp.proto.1 hp.proto.2 hp.id.1 hp.id.2 hp.off.1 (by have:=hp.off.2;omega) hp.sport.1 hp.sport.2 hp.dport.1 hp.dport.2)
 have hbe:S.slots.getD ((flH p.src p.dst p.proto p.sport p.dport).toNat % 31) 0=chosenM S p:=rfl
 rw [hbe] at HCH
 have hgF:¬ Fs o gS:=fun hh=>(h.sub o gS hh).2.1 rfl
 have HCO:=hide (fun wz (hb:Below w.heap.size w wz)=>come_any gS o cs vE (RR o) S.now (Fs o) (o:Int) seq p (chosenM S p) (!S.slots.isEmpty) wz ((hb.block gS (h.flt gS h.fg)).trans h.stB) hcE (hst.below hb) hgF f1 f2 f3 hp.off.1 (by have:=hp.off.2;omega) (by have:=hp.dlen;omega) (by have:=hp.off.2;have:=hp.dlen;omega) f4)
 rw [he o hoc] at HCO
 unfold Pk.pc at HCO
 refine (ccome_core xb S F gS cs vT vV vN RR Fs (fun _=>S.now) S.now o seq frm p _ _ _ _ w h hoc (by have:=hs.reps;omega) hevl hcl HCH HCO).mono ?_
 rintro e w' ⟨rfl,F8,Fs',vV',v2,R2,hP8,hL,hS8⟩
 obtain ⟨⟨q1,q2,q3,q4⟩,s1,s2,s3,s4,s5,s6⟩:=HPS.out
 refine ⟨rfl,F8,⟨gS,_,vT,_,vN,_,_,(hP8.cong s2 s4 s5 q1 s6).tcong (fun j _=>?_),?_,?_⟩,hS8⟩
 ·rw [s3]
  split <;> rfl
 ·rw [s1,hr,Array.size_setIfInBounds]
 ·intro j hj
  rw [Array.size_setIfInBounds] at hj
  by_cases hjo:j=o
  ·subst hjo
   simp only [if_true]
   rw [hL,q2]
  ·simp only [if_neg hjo]
   rw [he j hj,q3 j (by omega)]
end Go.Proofs.YtajphdppmdoalaaGreat
