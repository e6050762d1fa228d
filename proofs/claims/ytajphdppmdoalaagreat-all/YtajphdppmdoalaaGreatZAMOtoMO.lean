import Derived.Test.YtajphdppmdoalaaGreatZAMMtoMM
set_option maxRecDepth 100000
set_option maxHeartbeats 6400000
set_option linter.unusedVariables false
namespace Go.Proofs.YtajphdppmdoalaaGreat
open Go.RowKit
theorem evs_le2 (S:Cl):S.evs.length≤(seqsM S).length:=by unfold seqsM;simp only [List.length_append,List.length_map];omega
def evq (q:Pc):Ev:=⟨q.seq,6,0⟩
def evO (S:Cl) (o:Int) (l:List Ent):List Ev:=((l.filter (fun e=>e.owner == o && oldM S e)).flatMap waitL).map evq
def evA (S:Cl) (l:List Ent) (n:Nat):List Ev:=(List.range n).flatMap (fun (o:Nat)=>evO S (o:Int) l)
theorem evO_snoc (S:Cl) (o:Int) (l:List Ent) (e:Ent):evO S o (l ++ [e])=if e.owner=o∧oldM S e=true then evO S o l ++ (wL e.pcs).map evq else evO S o l:=by
 unfold evO
 rw [List.filter_append]
 by_cases h1:e.owner=o
 ·cases h2:oldM S e with
  | true=>simp [h1,h2,waitL,wL]
  | false=>simp [h1,h2]
 ·simp [h1]
theorem evA_succ (S:Cl) (l:List Ent) (n:Nat):evA S l (n + 1)=evA S l n ++ evO S (n:Int) l:=by
 unfold evA
 rw [List.range_succ,List.flatMap_append]
 simp
theorem evO_len (S:Cl) (o:Int) (l:List Ent) (h:∀ e ∈ l,e.pcs.length≤1000∧∀ q ∈ e.pcs,0≤q.a∧q.a≤q.b∧q.b≤92):(evO S o l).length≤1000 * l.length:=by
 induction l with
 | nil=>simp [evO]
 | cons e l ih =>
  have h1:=ih (fun r hr=>h r (List.mem_cons_of_mem _ hr))
  have h2:=(h e List.mem_cons_self).1
  have h3:(waitL e).length≤e.pcs.length:=List.length_filter_le _ _
  unfold evO at *
  rw [List.filter_cons,List.length_cons]
  split
  ·rw [List.flatMap_cons,List.map_append,List.length_append,List.length_map]
   omega
  ·omega
theorem evA_len (S:Cl) (l:List Ent) (n:Nat) (h:FewP l):(evA S l n).length≤1000000 * n:=by
 induction n with
 | zero=>simp [evA]
 | succ n ih =>
  rw [evA_succ,List.length_append]
  have h1:=evO_len S n l h.2
  have h2:=h.1
  have h3:1000 * l.length≤1000000:=by omega
  omega
theorem few_take (l:List Ent) (j:Nat) (h:FewP l):FewP (l.take j):=⟨by rw [List.length_take];have:=h.1;omega,fun e he=>h.2 e (List.mem_of_mem_take he)⟩
theorem tick_is (S:Cl) (hr:0≤S.reps):tickM S={ S with now:=S.now + 1,evs:=S.evs ++ evA { S with now:=S.now + 1 } S.ents S.reps.toNat,ents:=S.ents.filter (fun e=>!oldM { S with now:=S.now + 1 } e) }:=rfl
theorem rtick_any (yb:Nat) (S:Cl) (F:Nat→Prop) (vS vE vN vV:Value) (ES:List RE) (NS:List RN) (w:World) (h:RefIs w yb S F vS vE vN vV ES NS) (hs:Sml S) (hn:S.next≤1900000000000) (hnow:S.now + 1≤2000000000000) :
  Calls Tryz.prog 59 #[.pointer (some ⟨yb,0,none⟩)] w fun e w'=>e=.returned (.tuple #[])∧∃ F' vE' vV' ES',RefIs w' yb (tickM S) F' vS vE' vN vV' ES' NS∧Stp w w' F F':=by
 obtain ⟨S',hS'⟩:∃ S',S'=tickM S:=⟨_,rfl⟩
 rw [← hS']
 rw [tick_is S (by have:=hs.cok.reps;omega)] at hS'
 have HS':=hide hS'
 have hyb:=h.lt
 have dY:=arr_cell h.blk
 have fY:=arr_frozen h.blk
 have hnw:=hs.now
 have hlf:=hs.life
 have hrp:=And.intro hs.cok.reps hs.reps
 obtain ⟨reps,hreps⟩:∃ n:Nat,S.reps=n:=⟨S.reps.toNat,by omega⟩
 have hrt:S.reps.toNat=reps:=by omega
 rw [hrt] at HS'
 have HRP:=hide hreps
 have hr5:reps≤5:=by omega
 have HFW:=hide (few_of_sml S hs)
 have HEB:=hide hs.ents
 have hcnt:=hs.cnt
 have hevs:=evs_le2 S
 obtain ⟨hR1,hSt1⟩:=h.set_now (S.now + 1)
 obtain ⟨S1,hS1⟩:∃ S1:Cl,S1={ S with now:=S.now + 1 }:=⟨_,rfl⟩
 rw [← hS1] at HS'
 have HS1:=hide hS1
 have hl:S.ents.length=ES.length:=by rw [← h.hes,List.length_map]
 have HES:=hide h.hes
 have hfl:ES.length≤1000:=by have:=HFW.out.1;omega
 obtain ⟨i0,hi,hz0,hz1',hz2'⟩:=info_parts Tryz.infoEn
 have HI:=hide (And.intro hi (And.intro hz0 (And.intro hz1' hz2')))
 have HR1:=hide hR1
 have HSt1:=hide hSt1
 obtain ⟨ea,ec,hvE⟩:=own_slice h.rE
 subst hvE
 clear h hR1 hSt1 hS' hS1 hi hz0 hz1' hz2' hreps hrt
 go_enter Tryz.func59,Tryz.ntmps59
 go_wp2_with fail
 generalize hW1:w.setCell ⟨yb,2,none⟩ _=w1 at *
 clear dY fY hW1
 go_loopw [2] (fun io wr=>∃ (o:Nat) (F1:Nat→Prop) (vV1:Value),o≤reps∧io=.int .i64 o∧Hid (RefIs wr yb { S with now:=S.now + 1,evs:=S.evs ++ evA S1 S.ents o } F1 vS (.slice ea ES.length ec) vN vV1 ES NS)∧Hid (Stp w wr F F1)) (fun io _=>reps - (intOf io).toNat)
 case atStart=>exact ⟨0,F,vV,Nat.zero_le _,rfl,by simpa [evA] using HR1,HSt1.out⟩
 case round =>
  obtain ⟨o,F1,vV1,ho,rfl,HRo,HSo⟩:=hrel
  have dY0:wr.cell? ⟨yb,0,none⟩=some (.int .i64 (reps:Int)):=by rw [← HRP.out];exact arr_cell HRo.out.blk 0
  have hyr:yb < wr.heap.size:=HRo.out.lt
  by_cases hlo:o < reps
  ·go_wp2_with fail
   clear dY0 hyr
   go_loopw [3] (fun i wq=>∃ (j:Nat) (F2:Nat→Prop) (vV2:Value),j≤ES.length∧i=.int .i64 j∧Hid (RefIs wq yb { S with now:=S.now + 1,evs:=S.evs ++ evA S1 S.ents o ++ evO S1 o (S.ents.take j) } F2 vS (.slice ea ES.length ec) vN vV2 ES NS)∧Hid (Stp w wq F F2)) (fun i _=>ES.length - (intOf i).toNat)
   case atStart=>exact ⟨0,F1,vV1,Nat.zero_le _,rfl,by simpa [evO] using HRo,HSo.out⟩
   case round =>
    obtain ⟨j,F2,vV2,hj,rfl,HRi,HSi⟩:=hrel
    have dE:wr.cell? ⟨yb,5,none⟩=some (.slice ea ES.length ec):=arr_cell HRi.out.blk 5
    have hyr:yb < wr.heap.size:=HRi.out.lt
    by_cases hlt:j < ES.length
    ·obtain ⟨g,q0,hgq⟩:=own_some HRi.out.rE (by omega)
     rw [Value.slice.injEq] at hgq
     obtain ⟨rfl,_,rfl⟩:=hgq
     have hN:=HRi.out.rE
     have hgr:g < wr.heap.size:=(hN.lt g rfl).2
     obtain ⟨x,hr⟩:∃ x,ES[j]?=some x:=⟨_,List.getElem?_eq_getElem hlt⟩
     have hre:S.ents[j]?=some x.e:=by rw [← HES.out,List.getElem?_map,hr];rfl
     have hem:=List.mem_of_getElem? hre
     have HT:=hide (take_snoc S.ents j x.e hre)
     have HTE:=hide (evO_snoc S1 o (S.ents.take j) x.e)
     have HX:=hide hr
     have hfe:=HFW.out.2 x.e hem
     have hbe:=(HEB.out x.e hem).born
     have c0:wr.cell? ⟨g,j * 14,none⟩=_:=row_get RE.cells RE.len hN j x hr 0 _ rfl
     have c1:=row_get RE.cells RE.len hN j x hr 1 _ rfl
     have c2:=row_get RE.cells RE.len hN j x hr 2 _ rfl
     have c3:=row_get RE.cells RE.len hN j x hr 3 _ rfl
     have c4:=row_get RE.cells RE.len hN j x hr 4 _ rfl
     have c5:=row_get RE.cells RE.len hN j x hr 5 _ rfl
     have c6:=row_get RE.cells RE.len hN j x hr 6 _ rfl
     have c7:=row_get RE.cells RE.len hN j x hr 7 _ rfl
     have c8:=row_get RE.cells RE.len hN j x hr 8 _ rfl
     have c9:=row_get RE.cells RE.len hN j x hr 9 _ rfl
     have c10:=row_get RE.cells RE.len hN j x hr 10 _ rfl
     have c11:=row_get RE.cells RE.len hN j x hr 11 _ rfl
     have c12:=row_get RE.cells RE.len hN j x hr 12 _ rfl
     have c13:=row_get RE.cells RE.len hN j x hr 13 _ rfl
     have HRPx:=hide (HRi.out.rP x (List.mem_of_getElem? hr))
     obtain ⟨da,dn,dc,hdv⟩:=HRi.out.raw x (List.mem_of_getElem? hr)
     obtain ⟨pa,pc,hpv⟩:=own_slice HRPx.out
     obtain ⟨re,roff,rmore,rsport,rdport,rdv,rpv⟩:=x
     simp only at HT HTE hfe hbe hdv hpv HRPx HX c0 c1 c2 c3 c4 c5 c6 c7 c8 c9 c10 c11 c12 c13
     subst hdv hpv
     obtain ⟨eo,es,ed,ep,ei,eb,pcs,ek,et⟩:=re
     simp only at HT HTE hfe hbe HRPx HX c0 c1 c2 c3 c4 c5 c6 c7 c8 c9 c10 c11 c12 c13
     have HFE:=hide hfe
     have dN:wr.cell? ⟨yb,2,none⟩=some (.int .i64 (S.now + 1)):=arr_cell HRi.out.blk 2
     have dL:wr.cell? ⟨yb,1,none⟩=some (.int .i64 S.life):=arr_cell HRi.out.blk 1
     have hold:oldM S1 ⟨eo,es,ed,ep,ei,eb,pcs,ek,et⟩=decide (S.life≤S.now + 1 - eb):=by rw [HS1.out];rfl
     rw [hold] at HTE
     clear hN hr hre hem hold hfe
     by_cases hoe:eo=(o:Int)
     ·have hne:(eo != (o:Int))=false:=by simp [hoe]
      by_cases hag:S.now + 1 - eb < S.life
      ·rw [if_neg (by simp;omega)] at HTE
       have HOE:=hide hoe
       clear hoe
       go_wp2_with fail
       go_region
       go_wp2
       go_roundw
       case rel=>exact ⟨j + 1,F2,vV2,by omega,by go_num,by rw [HT.out,HTE.out];exact HRi.out.below (((Below.refl _ _).alloc (Nat.le_refl _) _).drew),HSi.out.trans (Stp.below (((Below.refl _ _).alloc (Nat.le_refl _) _).drew))⟩
       case measure=>simp [intOf];omega
      ·rw [if_pos ⟨hoe,by simp;omega⟩] at HTE
       have hag':¬ (S.now + 1 - eb < S.life):=hag
       have HOE:=hide hoe
       clear hoe
       go_wp2_with fail
       go_region
       go_wp2_with fail
       clear dN dL dE c0 c1 c2 c3 c4 c5 c6 c7 c8 c9 c10 c11 c12 c13
       generalize hWq:World.drew _=wq
       have HXq:Hid (wq.heap[wr.heap.size]?=some (.cells #[.int .i64 eo,.int .u16 es,.int .u16 ed,.int .u8 ep,.int .u16 ei,.int .u8 roff,.bool rmore,.int .u16 rsport,.int .u16 rdport,.slice da dn dc,.int .i64 eb,.slice pa pcs.length pc,.bool ek,.int .u8 et] 128 (0,0))):=by rw [← hWq];exact heap_alloc_new _ _
       have HBq:Hid (Below wr.heap.size wr wq):=by rw [← hWq];exact ((Below.refl _ _).alloc (Nat.le_refl _) _).drew
       have HRq:=hide (HRi.out.below HBq.out)
       have HSq:Hid (Stp w wq F F2):=HSi.out.trans (Stp.below HBq.out)
       have HNq:Hid (¬ F2 wr.heap.size):=fun hF=>by have:=HRi.out.flt _ hF;omega
       clear hWq HBq
       generalize hbe2:wr.heap.size=be at *
       clear hbe2
       go_loopw [5] (fun k wz=>∃ (m:Nat) (F3:Nat→Prop) (vV3:Value),m≤pcs.length∧k=.int .i64 m∧Hid (RefIs wz yb { S with now:=S.now + 1,evs:=S.evs ++ evA S1 S.ents o ++ evO S1 o (S.ents.take j) ++ (wL (pcs.take m)).map evq } F3 vS (.slice (some ⟨g,0,none⟩) ES.length ec) vN vV3 ES NS)∧Hid (Stp w wz F F3)∧Hid (wz.heap[be]?=some (.cells #[.int .i64 eo,.int .u16 es,.int .u16 ed,.int .u8 ep,.int .u16 ei,.int .u8 roff,.bool rmore,.int .u16 rsport,.int .u16 rdport,.slice da dn dc,.int .i64 eb,.slice pa pcs.length pc,.bool ek,.int .u8 et] 128 (0,0)))∧Hid (¬ F3 be)) (fun k _=>pcs.length - (intOf k).toNat)
       case atStart=>exact ⟨0,F2,vV2,Nat.zero_le _,rfl,by simpa [wL] using HRq,HSq.out,HXq.out,HNq.out⟩
       case round =>
        obtain ⟨m,F3,vV3,hm,rfl,HRz,HSz,HXz,HNz⟩:=hrel
        have dX:=arr_cell HXz.out
        have hzx:be < wr.heap.size:=lt_of_block HXz.out
        have hyz:yb < wr.heap.size:=HRz.out.lt
        have hpl:=HFE.out.1
        by_cases hml:m < pcs.length
        ·have hrow:=HRz.out.rP _ (List.mem_of_getElem? HX.out)
         simp only at hrow
         obtain ⟨gp,q0,hgq⟩:=own_some hrow (by omega)
         rw [Value.slice.injEq] at hgq
         obtain ⟨rfl,_,rfl⟩:=hgq
         have hgz:gp < wr.heap.size:=(hrow.lt gp rfl).2
         obtain ⟨q,hq⟩:∃ q,pcs[m]?=some q:=⟨_,List.getElem?_eq_getElem hml⟩
         have d0:wr.cell? ⟨gp,m * 5,none⟩=_:=row_get Pc.cells Pc.len hrow m q hq 0 _ rfl
         have d4:=row_get Pc.cells Pc.len hrow m q hq 4 _ rfl
         have HTQ:=hide (take_snoc pcs m q hq)
         have HWQ:=hide (wL_snoc (pcs.take m) q)
         obtain ⟨qs,qa,qb,qe,qw⟩:=q
         simp only at d0 d4
         clear hrow hq
         cases qw with
         | true =>
          have hev:(S.evs ++ evA S1 S.ents o ++ evO S1 o (S.ents.take j) ++ (wL (pcs.take m)).map evq).length≤2000000000000:=by
           have e1:=evA_len S1 S.ents o HFW.out
           have e2:=evO_len S1 o (S.ents.take j) (few_take S.ents j HFW.out).2
           have e3:=(few_take S.ents j HFW.out).1
           have e4:(wL (pcs.take m)).length≤pcs.length:=Nat.le_trans (List.length_filter_le _ _) (by rw [List.length_take];omega)
           have e5:1000000 * o≤5000000:=by omega
           simp only [List.length_append,List.length_map]
           omega
          have HTD:=hide (rtold_any yb _ F3 vS (.slice (some ⟨g,0,none⟩) ES.length ec) vN vV3 ES NS qs 6 0 wr HRz.out hev)
          clear hev
          go_wp2_with fail
          refine HTD.out.mono ?_
          rintro e w5 ⟨rfl,F4,vV4,hR5,hS5⟩
          have HR5:=hide hR5
          have HS5:Hid (Stp w w5 F F4):=HSz.out.trans hS5
          have HX5:Hid (w5.heap[be]?=some (.cells #[.int .i64 eo,.int .u16 es,.int .u16 ed,.int .u8 ep,.int .u16 ei,.int .u8 roff,.bool rmore,.int .u16 rsport,.int .u16 rdport,.slice da dn dc,.int .i64 eb,.slice (some ⟨gp,0,none⟩) pcs.length pc,.bool ek,.int .u8 et] 128 (0,0))):=(hS5.only.block be hzx HNz.out).trans HXz.out
          have HN5:Hid (¬ F4 be):=fun hF=>(hS5.own be hF).elim HNz.out (fun h1=>by omega)
          clear hR5 hS5 HTD dX d0 d4
          go_wp2
          go_roundw
          case rel =>
           refine ⟨m + 1,F4,vV4,by omega,by go_num,?_,HS5.out,HX5.out,HN5.out⟩
           have h1:=HR5.out
           rw [HTQ.out,HWQ.out]
           show RefIs _ _ _ _ _ _ _ _ _ _
           simp only [if_true,List.map_append,List.map_cons,List.map_nil]
           rw [← List.append_assoc]
           exact h1
          case measure=>simp [intOf];omega
         | false =>
          go_wp2
          go_roundw
          case rel=>exact ⟨m + 1,F3,vV3,by omega,by go_num,by rw [HTQ.out,HWQ.out];simp only [if_false,Bool.false_eq_true];exact HRz.out,HSz.out,HXz.out,HNz.out⟩
          case measure=>simp [intOf];omega
        ·obtain rfl:m=pcs.length:=by omega
         rw [List.take_length] at HRz
         go_wp2
         go_roundw
         case rel=>exact ⟨j + 1,F3,vV3,by omega,by go_num,by rw [HT.out,HTE.out,← List.append_assoc];exact HRz.out,HSz.out⟩
         case measure=>simp [intOf];omega
     ·have hne:(eo != (o:Int))=true:=by simp [hoe]
      rw [if_neg (fun hh=>hoe hh.1)] at HTE
      have HOE:=hide hoe
      clear hoe
      go_wp2_with fail
      go_region
      go_wp2
      go_roundw
      case rel=>exact ⟨j + 1,F2,vV2,by omega,by go_num,by rw [HT.out,HTE.out];exact HRi.out.below (((Below.refl _ _).alloc (Nat.le_refl _) _).drew),HSi.out.trans (Stp.below (((Below.refl _ _).alloc (Nat.le_refl _) _).drew))⟩
      case measure=>simp [intOf];omega
    ·obtain rfl:j=ES.length:=by omega
     have htk:S.ents.take ES.length=S.ents:=List.take_of_length_le (by omega)
     rw [htk] at HRi
     go_wp2
     go_roundw
     case rel=>exact ⟨o + 1,F2,vV2,by omega,by go_num,by rw [evA_succ,← List.append_assoc];exact HRi.out,HSi.out⟩
     case measure=>simp [intOf];omega
  ·obtain rfl:o=reps:=by omega
   go_wp2_with fail
   clear dY0 hyr
   obtain ⟨w5,hw5⟩:∃ w5,w5=wr:=⟨_,rfl⟩
   subst hw5
   go_loopw [7,6] (fun i l wz=>∃ j:Nat,j≤ES.length∧i=.int .i64 j∧Hid (wz.ownsRow w5.heap.size 128 14 l ((ES.take j).filter (fun r:RE=>!oldM S1 r.e)).length (((ES.take j).filter (fun r:RE=>!oldM S1 r.e)).flatMap RE.cells))∧Hid (Below w5.heap.size w5 wz)) (fun i _ _=>ES.length - (intOf i).toNat)
   case atStart=>exact ⟨0,Nat.zero_le _,rfl,World.ownsRow_nil _ _ _ _,Below.refl _ _⟩
   case round =>
    obtain ⟨j,hj,rfl,HO,HB⟩:=hrel
    have HR:=hide (HRo.out.below HB.out)
    have dE:wr.cell? ⟨yb,5,none⟩=some (.slice ea ES.length ec):=arr_cell HR.out.blk 5
    have dN:wr.cell? ⟨yb,2,none⟩=some (.int .i64 (S.now + 1)):=arr_cell HR.out.blk 2
    have dL:wr.cell? ⟨yb,1,none⟩=some (.int .i64 S.life):=arr_cell HR.out.blk 1
    have fY:=arr_frozen HR.out.blk
    have hyr:yb < wr.heap.size:=HR.out.lt
    have hsz:w5.heap.size≤wr.heap.size:=HB.out.size
    by_cases hlt:j < ES.length
    ·obtain ⟨g,q0,hgq⟩:=own_some HR.out.rE (by omega)
     rw [Value.slice.injEq] at hgq
     obtain ⟨rfl,_,rfl⟩:=hgq
     have hN:=HR.out.rE
     have hgr:g < wr.heap.size:=(hN.lt g rfl).2
     obtain ⟨x,hr⟩:∃ x,ES[j]?=some x:=⟨_,List.getElem?_eq_getElem hlt⟩
     have hre:S.ents[j]?=some x.e:=by rw [← HES.out,List.getElem?_map,hr];rfl
     have hbe:=(HEB.out x.e (List.mem_of_getElem? hre)).born
     have HT:=hide (take_snoc ES j x hr)
     have hold:oldM S1 x.e=decide (S.life≤S.now + 1 - x.e.born):=by rw [HS1.out];rfl
     have c0:wr.cell? ⟨g,j * 14,none⟩=_:=row_get RE.cells RE.len hN j x hr 0 _ rfl
     have c1:=row_get RE.cells RE.len hN j x hr 1 _ rfl
     have c2:=row_get RE.cells RE.len hN j x hr 2 _ rfl
     have c3:=row_get RE.cells RE.len hN j x hr 3 _ rfl
     have c4:=row_get RE.cells RE.len hN j x hr 4 _ rfl
     have c5:=row_get RE.cells RE.len hN j x hr 5 _ rfl
     have c6:=row_get RE.cells RE.len hN j x hr 6 _ rfl
     have c7:=row_get RE.cells RE.len hN j x hr 7 _ rfl
     have c8:=row_get RE.cells RE.len hN j x hr 8 _ rfl
     have c9:=row_get RE.cells RE.len hN j x hr 9 _ rfl
     have c10:=row_get RE.cells RE.len hN j x hr 10 _ rfl
     have c11:=row_get RE.cells RE.len hN j x hr 11 _ rfl
     have c12:=row_get RE.cells RE.len hN j x hr 12 _ rfl
     have c13:=row_get RE.cells RE.len hN j x hr 13 _ rfl
     have hraw:x.dv.oneCell'=true:=by
      obtain ⟨ao,n,c,hv⟩:=HR.out.raw x (List.mem_of_getElem? hr)
      rw [hv];rfl
     have hpv:x.pv.oneCell'=true:=by
      obtain ⟨ao,c,hv⟩:=own_slice (HR.out.rP x (List.mem_of_getElem? hr))
      rw [hv];rfl
     have hlen:((ES.take j).filter (fun r:RE=>!oldM S1 r.e)).length≤j:=Nat.le_trans (List.length_filter_le _ _) (by rw [List.length_take];omega)
     clear hN hr hre
     by_cases hag:S.now + 1 - x.e.born < S.life
     ·have hfil:(ES.take (j + 1)).filter (fun r:RE=>!oldM S1 r.e)=(ES.take j).filter (fun r:RE=>!oldM S1 r.e) ++ [x]:=by
       rw [HT.out,List.filter_append]
       simp [hold]
       omega
      have HFI:=hide hfil
      obtain ⟨hi,hz0,hz1',hz2'⟩:=HI.out
      clear hfil hold
      go_wp2_with fail
      go_region
      go_wp2_with (at_builtin;refine wpList_append_own _ rfl (.tmp 105) (.tmp 113) 70 rfl w5.heap.size 128 i0 _ 14 88 Tryz.underlying70 hi hz0 hz1' hz2' rfl (by decide) _ _ _ rfl (World.ownsRow.alloc (World.ownsRow.drew HO.out) _) _ 1 1 x.cells rfl rfl (cells_new _ _ _) (RE.one x hraw hpv) (by unfold maxLen;omega) (by omega) (by simp;omega) ?_)
      intro v2 w2 hown hgrow hiff
      have HO2:Hid (w2.ownsRow w5.heap.size 128 14 v2 ((ES.take (j + 1)).filter (fun r:RE=>!oldM S1 r.e)).length (((ES.take (j + 1)).filter (fun r:RE=>!oldM S1 r.e)).flatMap RE.cells)):=by
       show World.ownsRow _ _ _ _ _ _ _
       rw [HFI.out,List.flatMap_append,List.length_append]
       simpa using hown
      have HB2:Hid (Below w5.heap.size w5 w2):=((HB.out.drew).alloc hsz _).grown hgrow (by simp;omega) (fun k hk=>(HO.out.lt k hk).1)
      clear hown hgrow hiff c0 c1 c2 c3 c4 c5 c6 c7 c8 c9 c10 c11 c12 c13
      go_wp2
      go_roundw
      case rel=>exact ⟨j + 1,by omega,by go_num,HO2.out,HB2.out⟩
      case measure=>simp [intOf];omega
     ·have hfil:(ES.take (j + 1)).filter (fun r:RE=>!oldM S1 r.e)=(ES.take j).filter (fun r:RE=>!oldM S1 r.e):=by
       rw [HT.out,List.filter_append]
       simp [hold]
       omega
      have HFI:=hide hfil
      clear hfil hold
      go_wp2_with fail
      go_region
      go_wp2
      go_roundw
      case rel=>exact ⟨j + 1,by omega,by go_num,by rw [HFI.out];exact HO.out,HB.out.drew⟩
      case measure=>simp [intOf];omega
    ·obtain rfl:j=ES.length:=by omega
     rw [List.take_length] at HO
     have hE:=HRo.out.setE (Only.of_below HB.out) (ES.filter (fun r:RE=>!oldM S1 r.e)) _ (own_zero HO.out) (fun r hr=>HRo.out.raw r (List.mem_filter.1 hr).1) (fun r hr=>.inl (List.mem_filter.1 hr).1) (fun r hr q hq=>.inl (HRo.out.fP r (List.mem_filter.1 hr).1 q hq)) (fun q hq=>.inr (HO.out.lt q hq).1)
     have hme:(ES.filter (fun r:RE=>!oldM S1 r.e)).map RE.e=S.ents.filter (fun e=>!oldM S1 e):=by
      rw [← HES.out,List.filter_map]
      rfl
     rw [hme] at hE
     obtain ⟨la,lc,rfl⟩:=own_slice HO.out
     have HE:Hid (∃ F6,RefIs (wr.setCell ⟨yb,5,none⟩ (.slice la (ES.filter (fun r:RE=>!oldM S1 r.e)).length lc)) yb S' F6 vS (.slice la (ES.filter (fun r:RE=>!oldM S1 r.e)).length lc) vN vV1 (ES.filter (fun r:RE=>!oldM S1 r.e)) NS∧Stp w5 (wr.setCell ⟨yb,5,none⟩ (.slice la (ES.filter (fun r:RE=>!oldM S1 r.e)).length lc)) F1 F6):=⟨_,by rw [HS'.out];exact hE.1,hE.2⟩
     clear hE hme
     go_wp2
     go_end0
     obtain ⟨F6,h1,h2⟩:=HE.out
     first | exact ⟨rfl,F6,_,_,_,h1,HSo.out.trans h2⟩ | exact ⟨rfl,F6,⟨_,_,_,h1⟩,HSo.out.trans h2⟩
end Go.Proofs.YtajphdppmdoalaaGreat
