import Derived.Test.YtajphdppmdoalaaGreatZAOLtoMG
import Derived.Test.YtajphdppmdoalaaGreatZAMDtoND
import Derived.Test.YtajphdppmdoalaaGreatZAAtoJ3
set_option maxRecDepth 100000
set_option maxHeartbeats 6400000
set_option linter.unusedVariables false
namespace Go.Proofs.YtajphdppmdoalaaGreat
open Go.RowKit
def wL (l:List Pc):List Pc:=l.filter (·.waits)
theorem wL_snoc (l:List Pc) (q:Pc):wL (l ++ [q])=if q.waits then wL l ++ [q] else wL l:=by
 unfold wL
 rw [List.filter_append]
 cases hq:q.waits <;> simp [hq]
def nE (l:List Ent) (o:Int):Nat:=(l.filter (·.owner == o)).length
def nP (l:List Ent) (o:Int):Nat:=((l.filter (·.owner == o)).flatMap waitL).length
def nB (l:List Ent) (o:Int):Int:=bytesL ((l.filter (·.owner == o)).flatMap waitL)
theorem ld_yes (l:List Ent) (e:Ent) (o:Int) (h:e.owner=o):nE (l ++ [e]) o=nE l o + 1∧nP (l ++ [e]) o=nP l o + (wL e.pcs).length∧nB (l ++ [e]) o=nB l o + bytesL (wL e.pcs):=by
 have:(l ++ [e]).filter (·.owner == o)=l.filter (·.owner == o) ++ [e]:=by rw [List.filter_append];simp [h]
 unfold nE nP nB
 rw [this,List.flatMap_append,List.length_append,List.length_append,bytes_append]
 simp [waitL,wL]
theorem ld_no (l:List Ent) (e:Ent) (o:Int) (h:e.owner ≠ o):nE (l ++ [e]) o=nE l o∧nP (l ++ [e]) o=nP l o∧nB (l ++ [e]) o=nB l o:=by
 have:(l ++ [e]).filter (·.owner == o)=l.filter (·.owner == o):=by rw [List.filter_append];simp [h]
 unfold nE nP nB
 rw [this]
 exact ⟨rfl,rfl,rfl⟩
def FewP (l:List Ent):Prop:=l.length≤1000∧∀ e ∈ l,e.pcs.length≤1000∧∀ q ∈ e.pcs,0≤q.a∧q.a≤q.b∧q.b≤92
theorem wL_bd (l:List Pc) (k:Nat) (h:l.length≤1000) (hq:∀ q ∈ l,0≤q.a∧q.a≤q.b∧q.b≤92):(wL (l.take k)).length≤1000∧0≤bytesL (wL (l.take k))∧bytesL (wL (l.take k))≤92000:=by
 have h1:(wL (l.take k)).length≤1000:=Nat.le_trans (List.length_filter_le _ _) (by rw [List.length_take];omega)
 have h2:=bytesL_bd (wL (l.take k)) (fun q hq'=>hq q (List.mem_of_mem_take (List.mem_filter.1 hq').1))
 omega
theorem ld_bd (l:List Ent) (o:Int) (h:∀ e ∈ l,e.pcs.length≤1000∧∀ q ∈ e.pcs,0≤q.a∧q.a≤q.b∧q.b≤92):nE l o≤l.length∧nP l o≤1000 * l.length∧0≤nB l o∧nB l o≤92000 * l.length:=by
 induction l with
 | nil=>simp [nE,nP,nB,bytesL]
 | cons e l ih =>
  have h1:=h e List.mem_cons_self
  have h2:=ih (fun r hr=>h r (List.mem_cons_of_mem _ hr))
  have h3:=wL_bd e.pcs e.pcs.length h1.1 h1.2
  rw [List.take_length] at h3
  unfold nE nP nB at *
  rw [List.filter_cons]
  split
  ·rw [List.flatMap_cons,List.length_cons,List.length_append,bytes_append,List.length_cons]
   unfold waitL at *
   unfold wL at h3
   omega
  ·rw [List.length_cons]
   omega
theorem ld_take (l:List Ent) (o:Int) (j:Nat) (h:FewP l):nE (l.take j) o≤1000∧nP (l.take j) o≤1000000∧0≤nB (l.take j) o∧nB (l.take j) o≤92000000:=by
 have h1:=ld_bd (l.take j) o (fun e he=>h.2 e (List.mem_of_mem_take he))
 have h2:(l.take j).length≤1000:=by rw [List.length_take];have:=h.1;omega
 omega
theorem rload_any (yb:Nat) (o:Int) (S:Cl) (F:Nat→Prop) (vS vE vN vV:Value) (ES:List RE) (NS:List RN) (w:World) (h:RefIs w yb S F vS vE vN vV ES NS) (hf:FewP S.ents) :
  Calls Tryz.prog 84 #[.pointer (some ⟨yb,0,none⟩),.int .i64 o] w fun e w'=>e=.returned (.agg #[.int .i64 (nE S.ents o),.int .i64 (nP S.ents o),.int .i64 (nB S.ents o)])∧Below w.heap.size w w':=by
 have HH:=hide h
 have HF:=hide hf
 have hyb:=h.lt
 obtain ⟨ao,cap,hvE⟩:=own_slice h.rE
 have HES:=hide h.hes
 have hl:S.ents.length=ES.length:=by rw [← h.hes,List.length_map]
 have hn:ES.length≤1000:=by rw [← hl];exact hf.1
 clear h hf
 go_enter Tryz.func84,Tryz.ntmps84
 go_wp2_with fail
 generalize hWW:((w.alloc _).alloc _)=w1
 have hz1:w1.heap.size=w.heap.size + 2:=by rw [← hWW];simp
 have HB0:Hid (Below w.heap.size w w1):=by rw [← hWW];exact ((Below.refl _ _).alloc (Nat.le_refl _) _).alloc (by simp) _
 have HX0:Hid (w1.heap[w.heap.size]?=some (.cells #[.int .i64 0,.int .i64 0,.int .i64 0] 98 (0,0))):=by rw [← hWW];exact heap_new1 _ _ _
 have HX1:Hid (w1.heap[w.heap.size + 1]?=some (.cells #[.int .i64 0,.int .i64 0,.int .i64 0] 98 (0,0))):=by rw [← hWW];exact heap_new2 _ _ _
 clear hWW
 go_loopw [6] (fun i wr=>∃ j:Nat,j≤ES.length∧i=.int .i64 j∧Hid (wr.heap[w.heap.size + 1]?=some (.cells #[.int .i64 (nE (S.ents.take j) o),.int .i64 (nP (S.ents.take j) o),.int .i64 (nB (S.ents.take j) o)] 98 (0,0)))∧Hid (Below (w.heap.size + 1) w1 wr)) (fun i _=>ES.length - (intOf i).toNat)
 case atStart=>exact ⟨0,Nat.zero_le _,rfl,HX1.out,Below.refl _ _⟩
 case round =>
  obtain ⟨j,hj,rfl,HO,HB⟩:=hrel
  have HBW:Hid (Below w.heap.size w wr):=HB0.out.trans (HB.out.mono (by omega))
  have HR:=hide (HH.out.below HBW.out)
  have hsz:w.heap.size + 2≤wr.heap.size:=by have:=HB.out.size;omega
  have cN:wr.cell? ⟨yb,5,none⟩=some (.slice ao ES.length cap):=by rw [← hvE];exact arr_cell HR.out.blk 5
  have hyr:yb < wr.heap.size:=by omega
  by_cases hlt:j < ES.length
  ·obtain ⟨g,q,hgq⟩:=own_some HH.out.rE (by omega)
   rw [hvE,Value.slice.injEq] at hgq
   obtain ⟨rfl,_,rfl⟩:=hgq
   have hN:=HR.out.rE
   rw [hvE] at hN
   have hgr:g < wr.heap.size:=(hN.lt g rfl).2
   obtain ⟨r,hr⟩:∃ r,ES[j]?=some r:=⟨_,List.getElem?_eq_getElem hlt⟩
   have hre:S.ents[j]?=some r.e:=by rw [← HES.out,List.getElem?_map,hr];rfl
   have HT:=hide (take_snoc S.ents j r.e hre)
   have hfr:=HF.out.2 r.e (List.mem_of_getElem? hre)
   have HFR:=hide hfr
   have hlb:=ld_take S.ents o j HF.out
   have HRP:=hide (HR.out.rP r (List.mem_of_getElem? hr))
   have HRP0:=hide (HH.out.rP r (List.mem_of_getElem? hr))
   obtain ⟨da,dn,dc,hdv⟩:=HH.out.raw r (List.mem_of_getElem? hr)
   have c0:wr.cell? ⟨g,j * 14,none⟩=_:=row_get RE.cells RE.len hN j r hr 0 _ rfl
   have c1:=row_get RE.cells RE.len hN j r hr 1 _ rfl
   have c2:=row_get RE.cells RE.len hN j r hr 2 _ rfl
   have c3:=row_get RE.cells RE.len hN j r hr 3 _ rfl
   have c4:=row_get RE.cells RE.len hN j r hr 4 _ rfl
   have c5:=row_get RE.cells RE.len hN j r hr 5 _ rfl
   have c6:=row_get RE.cells RE.len hN j r hr 6 _ rfl
   have c7:=row_get RE.cells RE.len hN j r hr 7 _ rfl
   have c8:=row_get RE.cells RE.len hN j r hr 8 _ rfl
   have c9:=row_get RE.cells RE.len hN j r hr 9 _ rfl
   have c10:=row_get RE.cells RE.len hN j r hr 10 _ rfl
   have c11:=row_get RE.cells RE.len hN j r hr 11 _ rfl
   have c12:=row_get RE.cells RE.len hN j r hr 12 _ rfl
   have c13:=row_get RE.cells RE.len hN j r hr 13 _ rfl
   obtain ⟨pa,pc,hpv⟩:=own_slice HRP.out
   obtain ⟨re,roff,rmore,rsport,rdport,rdv,rpv⟩:=r
   simp only at HT HFR HRP HRP0 hdv c0 c1 c2 c3 c4 c5 c6 c7 c8 c9 c10 c11 c12 c13 hpv hre hfr
   subst hpv hdv
   obtain ⟨eo,es,ed,ep,ei,eb,pcs,ek,et⟩:=re
   simp only at HT HFR HRP HRP0 c0 c1 c2 c3 c4 c5 c6 c7 c8 c9 c10 c11 c12 c13 hfr
   generalize hE0:nE (S.ents.take j) o=E0 at *
   generalize hP0:nP (S.ents.take j) o=P0 at *
   generalize hB0:nB (S.ents.take j) o=B0 at *
   have HE0:=hide (And.intro hE0 (And.intro hP0 hB0))
   clear hE0 hP0 hB0 hN hr hre
   by_cases ho:eo=o
   ·have hne:(eo != o)=false:=by simp [ho]
    have HL:=hide (ld_yes (S.ents.take j) ⟨eo,es,ed,ep,ei,eb,pcs,ek,et⟩ o ho)
    have HO':=hide ho
    have dB:=arr_cell HO.out
    have fB:=arr_frozen HO.out
    have hsz':w.heap.size + 1 < wr.heap.size:=by omega
    clear ho
    go_wp2_with fail
    clear c0 c1 c2 c3 c4 c5 c6 c7 c8 c9 c10 c11 c12 c13
    generalize hbx:wr.heap.size=bx at *
    generalize hWi:((wr.setCell ⟨w.heap.size + 1,0,none⟩ (.int .i64 ((E0:Int) + 1))).alloc (.cells #[.int .i64 eo,.int .u16 es,.int .u16 ed,.int .u8 ep,.int .u16 ei,.int .u8 roff,.bool rmore,.int .u16 rsport,.int .u16 rdport,.slice da dn dc,.int .i64 eb,.slice pa pcs.length pc,.bool ek,.int .u8 et] 128))=wi
    have HY1:Hid (wi.heap[w.heap.size + 1]?=some (.cells #[.int .i64 ((E0:Int) + 1),.int .i64 P0,.int .i64 B0] 98 (0,0))):=by
     rw [← hWi]
     refine (Below.heap_alloc _ _ _ (by simp;omega)).trans ?_
     simpa using row_setCell (j:=0) HO.out (.int .i64 ((E0:Int) + 1))
    have HYb:Hid (wi.heap[bx]?=some (.cells #[.int .i64 eo,.int .u16 es,.int .u16 ed,.int .u8 ep,.int .u16 ei,.int .u8 roff,.bool rmore,.int .u16 rsport,.int .u16 rdport,.slice da dn dc,.int .i64 eb,.slice pa pcs.length pc,.bool ek,.int .u8 et] 128 (0,0))):=by
     rw [← hWi,← hbx]
     have:=heap_alloc_new (wr.setCell ⟨w.heap.size + 1,0,none⟩ (.int .i64 ((E0:Int) + 1))) (.cells #[.int .i64 eo,.int .u16 es,.int .u16 ed,.int .u8 ep,.int .u16 ei,.int .u8 roff,.bool rmore,.int .u16 rsport,.int .u16 rdport,.slice da dn dc,.int .i64 eb,.slice pa pcs.length pc,.bool ek,.int .u8 et] 128)
     rwa [show (wr.setCell ⟨w.heap.size + 1,0,none⟩ (.int .i64 ((E0:Int) + 1))).heap.size=wr.heap.size from by simp] at this
    have HBi:Hid (Below (w.heap.size + 1) w1 wi):=by rw [← hWi];exact (HB.out.setCell (by simp) _).alloc (by simp;omega) _
    clear hWi hbx dB fB cN hyr
    go_loopw [8] (fun k wq=>∃ m:Nat,m≤pcs.length∧k=.int .i64 m∧Hid (wq.heap[w.heap.size + 1]?=some (.cells #[.int .i64 ((E0:Int) + 1),.int .i64 ((P0:Int) + ((wL (pcs.take m)).length:Nat)),.int .i64 (B0 + bytesL (wL (pcs.take m)))] 98 (0,0)))∧Hid (wq.heap[bx]?=some (.cells #[.int .i64 eo,.int .u16 es,.int .u16 ed,.int .u8 ep,.int .u16 ei,.int .u8 roff,.bool rmore,.int .u16 rsport,.int .u16 rdport,.slice da dn dc,.int .i64 eb,.slice pa pcs.length pc,.bool ek,.int .u8 et] 128 (0,0)))∧Hid (Below (w.heap.size + 1) w1 wq)) (fun k _=>pcs.length - (intOf k).toNat)
    case atStart=>exact ⟨0,Nat.zero_le _,rfl,by simpa [wL,bytesL] using HY1,HYb.out,HBi.out⟩
    case round =>
     obtain ⟨m,hm,rfl,HQ1,HQb,HQB⟩:=hrel
     have dB:=arr_cell HQ1.out
     have fB:=arr_frozen HQ1.out
     have dX:=arr_cell HQb.out
     have hz2:w.heap.size + 1 < wr.heap.size:=lt_of_block HQ1.out
     have hz3:bx < wr.heap.size:=lt_of_block HQb.out
     by_cases hml:m < pcs.length
     ·obtain ⟨gp,q,hgq⟩:=own_some HRP.out (by omega)
      rw [Value.slice.injEq] at hgq
      obtain ⟨rfl,_,rfl⟩:=hgq
      have hN:=own_below' HRP0.out (fun k hk=>(HRP0.out.lt k hk).2) (HB0.out.trans (HQB.out.mono (by omega)))
      have hgz:gp < wr.heap.size:=(hN.lt gp rfl).2
      have hgp:gp < w.heap.size:=(HRP0.out.lt gp rfl).2
      have hgn:gp ≠ w.heap.size + 1:=by omega
      have hbn:bx ≠ w.heap.size + 1:=by omega
      obtain ⟨q,hr⟩:∃ q,pcs[m]?=some q:=⟨_,List.getElem?_eq_getElem hml⟩
      have c1:=row_get Pc.cells Pc.len hN m q hr 1 _ rfl
      have c2:=row_get Pc.cells Pc.len hN m q hr 2 _ rfl
      have c4:=row_get Pc.cells Pc.len hN m q hr 4 _ rfl
      have HT2:=hide (take_snoc pcs m q hr)
      have HS2:=hide (wL_snoc (pcs.take m) q)
      have hwb:=wL_bd pcs m HFR.out.1 HFR.out.2
      have hqb:=HFR.out.2 q (List.mem_of_getElem? hr)
      generalize hN0:(wL (pcs.take m)).length=N at *
      generalize hM0:bytesL (wL (pcs.take m))=M at *
      have HN0:=hide hN0
      have HM0:=hide hM0
      obtain ⟨qs,qa,qb,qe,qw⟩:=q
      simp only at hqb c1 c2 c4
      clear hN hr hN0 hM0
      cases qw with
      | true =>
       go_wp2_with fail
       go_region
       go_wp2
       go_roundw
       case rel =>
        refine ⟨m + 1,by omega,by go_num,?_,?_,?_⟩
        ·show _=_
         rw [HT2.out,HS2.out]
         simp only [if_true]
         rw [List.length_append,bytesL_snoc,HN0.out,HM0.out]
         have:=row_setCell (j:=2) (row_setCell (j:=1) HQ1.out (.int .i64 ((P0:Int) + N + 1))) (.int .i64 (B0 + M + qb - qa))
         refine Eq.trans ?_ (this.trans ?_)
         ·rfl
         ·simp
          omega
        ·exact (Below.heap_setCell _ _ _ _ (by simp;omega)).trans ((Below.heap_setCell _ _ _ _ (by simp;omega)).trans HQb.out)
        ·exact ((HQB.out.setCell (by simp) _).setCell (by simp) _).drew
       case measure=>simp [intOf];omega
      | false =>
       go_wp2
       go_roundw
       case rel=>exact ⟨m + 1,by omega,by go_num,by rw [HT2.out,HS2.out];simp only [if_false,Bool.false_eq_true];rw [HN0.out,HM0.out];exact HQ1.out,HQb.out,HQB.out⟩
       case measure=>simp [intOf];omega
     ·obtain rfl:m=pcs.length:=by omega
      rw [List.take_length] at HQ1
      go_wp2
      go_roundw
      case rel=>exact ⟨j + 1,by omega,by go_num,by rw [HT.out,HL.out.1,HL.out.2.1,HL.out.2.2,HE0.out.1,HE0.out.2.1,HE0.out.2.2];exact HQ1.out,HQB.out⟩
      case measure=>simp [intOf];omega
   ·have hne:(eo != o)=true:=by simp [ho]
    have HL:=hide (ld_no (S.ents.take j) ⟨eo,es,ed,ep,ei,eb,pcs,ek,et⟩ o ho)
    clear ho
    go_wp2
    go_roundw
    case rel =>
     refine ⟨j + 1,by omega,by go_num,?_,?_⟩
     ·show _=_
      rw [HT.out,HL.out.1,HL.out.2.1,HL.out.2.2,HE0.out.1,HE0.out.2.1,HE0.out.2.2]
      exact (Below.heap_alloc _ _ _ (by omega)).trans HO.out
     ·exact HB.out.alloc (by omega) _
    case measure=>simp [intOf];omega
  ·obtain rfl:j=ES.length:=by omega
   have htk:S.ents.take ES.length=S.ents:=List.take_of_length_le (by omega)
   rw [htk] at HO
   have dB:=arr_cell HO.out
   have dA:=arr_cell ((HB.out.block _ (by omega)).trans HX0.out)
   have fA:=arr_frozen ((HB.out.block _ (by omega)).trans HX0.out)
   go_wp2
   have h3:=store3 (t:=98) ((HB.out.block _ (by omega)).trans HX0.out) (.int .i64 (nE S.ents o)) (.int .i64 (nP S.ents o)) (.int .i64 (nB S.ents o))
   generalize ((wr.setCell ⟨w.heap.size,0,none⟩ _).setCell ⟨w.heap.size,1,none⟩ _).setCell ⟨w.heap.size,2,none⟩ _=wF at h3 ⊢
   have dF:=arr_cell h3.1
   have hzF:w.heap.size < wF.heap.size:=lt_of_block h3.1
   clear dA dB fA
   refine bodyPost_ret (v:=.agg #[.int .i64 (nE S.ents o),.int .i64 (nP S.ents o),.int .i64 (nB S.ents o)]) ?_ rfl ⟨rfl,HBW.out.trans (h3.2.to_below (by omega) (fun k hk=>by omega))⟩
   go_light
   simp [results,Tryz.results84,go_sem,dF]
theorem rclash_any (q n:Pc) (w:World) :
  Calls Tryz.prog 103 #[.agg #[.int .i64 q.seq,.int .i64 q.a,.int .i64 q.b,.bool q.ends,.bool q.waits],.agg #[.int .i64 n.seq,.int .i64 n.a,.int .i64 n.b,.bool n.ends,.bool n.waits]] w fun e w'=>e=.returned (.bool (clashM q n))∧Below w.heap.size w w':=by
 have HB:Hid (∀ a b:Obj,Below w.heap.size w ((w.alloc a).alloc b)):=fun a b=>((Below.refl _ _).alloc (Nat.le_refl _) _).alloc (by simp) _
 unfold clashM
 obtain ⟨qs,qa,qb,qe,qw⟩:=q
 obtain ⟨ns,na,nb,ne,nw⟩:=n
 simp only
 have tail:Hid ((¬ qa < nb)∨(qa < nb∧¬ na < qb))→Calls Tryz.prog 103 #[.agg #[.int .i64 qs,.int .i64 qa,.int .i64 qb,.bool qe,.bool qw],.agg #[.int .i64 ns,.int .i64 na,.int .i64 nb,.bool ne,.bool nw]] w fun e w'=>e=.returned (.bool ((decide (qa < nb) && decide (na < qb)) || (qe && (ne || decide (nb > qb))) || (ne && decide (qb > nb))))∧Below w.heap.size w w':=by
  intro H
  rcases H.out with h1 | ⟨h1,h2⟩
  ·clear H
   cases qe with
   | false =>
    cases ne with
    | false =>
     go_enter Tryz.func103,Tryz.ntmps103
     go_wp2
     go_ret
     exact ⟨ret_bool (by simp_all <;> omega),HB.out _ _⟩
    | true =>
     go_enter Tryz.func103,Tryz.ntmps103
     go_wp2
     go_ret
     exact ⟨ret_bool (by simp_all <;> omega),HB.out _ _⟩
   | true =>
    cases ne with
    | true =>
     go_enter Tryz.func103,Tryz.ntmps103
     go_wp2
     go_ret
     exact ⟨ret_bool (by simp_all <;> omega),HB.out _ _⟩
    | false =>
     by_cases h3:nb > qb
     ·go_enter Tryz.func103,Tryz.ntmps103
      go_wp2
      go_ret
      exact ⟨ret_bool (by simp_all <;> omega),HB.out _ _⟩
     ·go_enter Tryz.func103,Tryz.ntmps103
      go_wp2
      go_ret
      exact ⟨ret_bool (by simp_all <;> omega),HB.out _ _⟩
  ·clear H
   cases qe with
   | false =>
    cases ne with
    | false =>
     go_enter Tryz.func103,Tryz.ntmps103
     go_wp2
     go_ret
     exact ⟨ret_bool (by simp_all <;> omega),HB.out _ _⟩
    | true =>
     go_enter Tryz.func103,Tryz.ntmps103
     go_wp2
     go_ret
     exact ⟨ret_bool (by simp_all <;> omega),HB.out _ _⟩
   | true =>
    cases ne with
    | true =>
     go_enter Tryz.func103,Tryz.ntmps103
     go_wp2
     go_ret
     exact ⟨ret_bool (by simp_all <;> omega),HB.out _ _⟩
    | false =>
     by_cases h3:nb > qb
     ·go_enter Tryz.func103,Tryz.ntmps103
      go_wp2
      go_ret
      exact ⟨ret_bool (by simp_all <;> omega),HB.out _ _⟩
     ·go_enter Tryz.func103,Tryz.ntmps103
      go_wp2
      go_ret
      exact ⟨ret_bool (by simp_all <;> omega),HB.out _ _⟩
 by_cases h1:qa < nb
 ·by_cases h2:na < qb
  ·clear tail
   go_enter Tryz.func103,Tryz.ntmps103
   go_wp2
   go_ret
   exact ⟨ret_bool (by simp [h1,h2]),HB.out _ _⟩
  ·exact tail (.inr ⟨h1,h2⟩)
 ·exact tail (.inl h1)
theorem ralike_any (s1 d1 p1 i1 o1:Int) (m1:Bool) (sp1 dp1:Int) (v1:Value) (s2 d2 p2 i2 o2:Int) (m2:Bool) (sp2 dp2:Int) (v2:Value) (w:World) :
  Calls Tryz.prog 95 #[.agg #[.int .u16 s1,.int .u16 d1,.int .u8 p1,.int .u16 i1,.int .u8 o1,.bool m1,.int .u16 sp1,.int .u16 dp1,v1],.agg #[.int .u16 s2,.int .u16 d2,.int .u8 p2,.int .u16 i2,.int .u8 o2,.bool m2,.int .u16 sp2,.int .u16 dp2,v2]] w fun e w'=>e=.returned (.bool (s1 == s2 && d1 == d2 && p1 == p2 && i1 == i2))∧Below w.heap.size w w':=by
 have HB:Hid (∀ a b:Obj,Below w.heap.size w ((w.alloc a).alloc b)):=fun a b=>((Below.refl _ _).alloc (Nat.le_refl _) _).alloc (by simp) _
 by_cases h1:s1=s2
 ·by_cases h2:d1=d2
  ·by_cases h3:p1=p2
   ·by_cases h4:i1=i2
    ·go_enter Tryz.func95,Tryz.ntmps95
     go_wp2
     go_ret
     exact ⟨ret_bool (by simp_all),HB.out _ _⟩
    ·go_enter Tryz.func95,Tryz.ntmps95
     go_wp2
     go_ret
     exact ⟨ret_bool (by simp_all),HB.out _ _⟩
   ·go_enter Tryz.func95,Tryz.ntmps95
    go_wp2
    go_ret
    exact ⟨ret_bool (by simp_all),HB.out _ _⟩
  ·go_enter Tryz.func95,Tryz.ntmps95
   go_wp2
   go_ret
   exact ⟨ret_bool (by simp_all),HB.out _ _⟩
 ·go_enter Tryz.func95,Tryz.ntmps95
  go_wp2
  go_ret
  exact ⟨ret_bool (by simp_all),HB.out _ _⟩
theorem either_any (low c:Int) (w:World) (hl0:0≤low) (hl:low≤255) (hc0:0≤c) (hc:c≤255) :
  Calls Tryz.prog 67 #[.int .i64 low,.int .i64 c] w fun e w'=>e=.returned (.int .i64 (eiK low c 8))∧∃ m,w'=w.drewN m:=by
 go_enter Tryz.func67,Tryz.ntmps67
 go_wp2_with fail
 go_loopw [5,6,7] (fun o p i wr=>∃ k:Nat,k≤8∧i=.int .i64 (k:Int)∧p=.int .i64 ((2 ^ k:Nat):Int)∧o=.int .i64 (eiK low c k)∧∃ m,wr=w.drewN m)
  (fun _ _ i _=>8 - (intOf i).toNat)
 case atStart=>exact ⟨0,by omega,rfl,rfl,by rw [eiK,Nat.pow_zero,Nat.mod_one];rfl,0,rfl⟩
 case round =>
  obtain ⟨k,hk,rfl,rfl,rfl,m,rfl⟩:=hrel
  by_cases hk8:k=8
  ·subst hk8
   generalize hr:eiK low c 8=r
   have HR:=hide hr
   clear hr
   go_wp2
   go_ret
   exact ⟨ret_int HR.out.symm,_,rfl⟩
  ·have HS:=hide (eiK_succ low c k hl0 hc0)
   have hb:=eiK_bd low c k
   generalize eiK low c k=r at *
   rcases (show k=0∨k=1∨k=2∨k=3∨k=4∨k=5∨k=6∨k=7 by omega) with rfl | rfl | rfl | rfl | rfl | rfl | rfl | rfl
   ·simp only [Nat.reducePow] at HS hb ⊢
    by_cases hbit:low % 2=c % 2
    ·have hne:(low % 2 != c % 2)=false:=by rw [hbit];exact bne_self_eq_false _
     have HV:Hid (eiK low c 1=r):=by show _=_;exact HS.out.trans (if_pos (by omega))
     clear HS hbit
     go_wp2_with fail
     go_quiet (fail)
     go_wp2
     go_roundw
     case rel=>exact ⟨1,by omega,by go_num,by go_num,by rw [HV.out],_,rfl⟩
     case measure=>simp [intOf]
    ·have hne:(low % 2 != c % 2)=true:=bne_iff_ne.2 hbit
     have HV:Hid (eiK low c 1=r + 1):=by show _=_;exact HS.out.trans (if_neg (by omega))
     clear HS hbit
     go_wp2_with fail
     go_quiet (fail)
     go_wp2
     go_roundw
     case rel=>exact ⟨1,by omega,by go_num,by go_num,by rw [HV.out],_,rfl⟩
     case measure=>simp [intOf]
   ·simp only [Nat.reducePow] at HS hb ⊢
    by_cases hbit:low / 2 % 2=c / 2 % 2
    ·have hne:(low / 2 % 2 != c / 2 % 2)=false:=by rw [hbit];exact bne_self_eq_false _
     have HV:Hid (eiK low c 2=r):=by show _=_;exact HS.out.trans (if_pos (by omega))
     clear HS hbit
     go_wp2_with fail
     go_quiet (fail)
     go_wp2
     go_roundw
     case rel=>exact ⟨2,by omega,by go_num,by go_num,by rw [HV.out],_,rfl⟩
     case measure=>simp [intOf]
    ·have hne:(low / 2 % 2 != c / 2 % 2)=true:=bne_iff_ne.2 hbit
     have HV:Hid (eiK low c 2=r + 2):=by show _=_;exact HS.out.trans (if_neg (by omega))
     clear HS hbit
     go_wp2_with fail
     go_quiet (fail)
     go_wp2
     go_roundw
     case rel=>exact ⟨2,by omega,by go_num,by go_num,by rw [HV.out],_,rfl⟩
     case measure=>simp [intOf]
   ·simp only [Nat.reducePow] at HS hb ⊢
    by_cases hbit:low / 4 % 2=c / 4 % 2
    ·have hne:(low / 4 % 2 != c / 4 % 2)=false:=by rw [hbit];exact bne_self_eq_false _
     have HV:Hid (eiK low c 3=r):=by show _=_;exact HS.out.trans (if_pos (by omega))
     clear HS hbit
     go_wp2_with fail
     go_quiet (fail)
     go_wp2
     go_roundw
     case rel=>exact ⟨3,by omega,by go_num,by go_num,by rw [HV.out],_,rfl⟩
     case measure=>simp [intOf]
    ·have hne:(low / 4 % 2 != c / 4 % 2)=true:=bne_iff_ne.2 hbit
     have HV:Hid (eiK low c 3=r + 4):=by show _=_;exact HS.out.trans (if_neg (by omega))
     clear HS hbit
     go_wp2_with fail
     go_quiet (fail)
     go_wp2
     go_roundw
     case rel=>exact ⟨3,by omega,by go_num,by go_num,by rw [HV.out],_,rfl⟩
     case measure=>simp [intOf]
   ·simp only [Nat.reducePow] at HS hb ⊢
    by_cases hbit:low / 8 % 2=c / 8 % 2
    ·have hne:(low / 8 % 2 != c / 8 % 2)=false:=by rw [hbit];exact bne_self_eq_false _
     have HV:Hid (eiK low c 4=r):=by show _=_;exact HS.out.trans (if_pos (by omega))
     clear HS hbit
     go_wp2_with fail
     go_quiet (fail)
     go_wp2
     go_roundw
     case rel=>exact ⟨4,by omega,by go_num,by go_num,by rw [HV.out],_,rfl⟩
     case measure=>simp [intOf]
    ·have hne:(low / 8 % 2 != c / 8 % 2)=true:=bne_iff_ne.2 hbit
     have HV:Hid (eiK low c 4=r + 8):=by show _=_;exact HS.out.trans (if_neg (by omega))
     clear HS hbit
     go_wp2_with fail
     go_quiet (fail)
     go_wp2
     go_roundw
     case rel=>exact ⟨4,by omega,by go_num,by go_num,by rw [HV.out],_,rfl⟩
     case measure=>simp [intOf]
   ·simp only [Nat.reducePow] at HS hb ⊢
    by_cases hbit:low / 16 % 2=c / 16 % 2
    ·have hne:(low / 16 % 2 != c / 16 % 2)=false:=by rw [hbit];exact bne_self_eq_false _
     have HV:Hid (eiK low c 5=r):=by show _=_;exact HS.out.trans (if_pos (by omega))
     clear HS hbit
     go_wp2_with fail
     go_quiet (fail)
     go_wp2
     go_roundw
     case rel=>exact ⟨5,by omega,by go_num,by go_num,by rw [HV.out],_,rfl⟩
     case measure=>simp [intOf]
    ·have hne:(low / 16 % 2 != c / 16 % 2)=true:=bne_iff_ne.2 hbit
     have HV:Hid (eiK low c 5=r + 16):=by show _=_;exact HS.out.trans (if_neg (by omega))
     clear HS hbit
     go_wp2_with fail
     go_quiet (fail)
     go_wp2
     go_roundw
     case rel=>exact ⟨5,by omega,by go_num,by go_num,by rw [HV.out],_,rfl⟩
     case measure=>simp [intOf]
   ·simp only [Nat.reducePow] at HS hb ⊢
    by_cases hbit:low / 32 % 2=c / 32 % 2
    ·have hne:(low / 32 % 2 != c / 32 % 2)=false:=by rw [hbit];exact bne_self_eq_false _
     have HV:Hid (eiK low c 6=r):=by show _=_;exact HS.out.trans (if_pos (by omega))
     clear HS hbit
     go_wp2_with fail
     go_quiet (fail)
     go_wp2
     go_roundw
     case rel=>exact ⟨6,by omega,by go_num,by go_num,by rw [HV.out],_,rfl⟩
     case measure=>simp [intOf]
    ·have hne:(low / 32 % 2 != c / 32 % 2)=true:=bne_iff_ne.2 hbit
     have HV:Hid (eiK low c 6=r + 32):=by show _=_;exact HS.out.trans (if_neg (by omega))
     clear HS hbit
     go_wp2_with fail
     go_quiet (fail)
     go_wp2
     go_roundw
     case rel=>exact ⟨6,by omega,by go_num,by go_num,by rw [HV.out],_,rfl⟩
     case measure=>simp [intOf]
   ·simp only [Nat.reducePow] at HS hb ⊢
    by_cases hbit:low / 64 % 2=c / 64 % 2
    ·have hne:(low / 64 % 2 != c / 64 % 2)=false:=by rw [hbit];exact bne_self_eq_false _
     have HV:Hid (eiK low c 7=r):=by show _=_;exact HS.out.trans (if_pos (by omega))
     clear HS hbit
     go_wp2_with fail
     go_quiet (fail)
     go_wp2
     go_roundw
     case rel=>exact ⟨7,by omega,by go_num,by go_num,by rw [HV.out],_,rfl⟩
     case measure=>simp [intOf]
    ·have hne:(low / 64 % 2 != c / 64 % 2)=true:=bne_iff_ne.2 hbit
     have HV:Hid (eiK low c 7=r + 64):=by show _=_;exact HS.out.trans (if_neg (by omega))
     clear HS hbit
     go_wp2_with fail
     go_quiet (fail)
     go_wp2
     go_roundw
     case rel=>exact ⟨7,by omega,by go_num,by go_num,by rw [HV.out],_,rfl⟩
     case measure=>simp [intOf]
   ·simp only [Nat.reducePow] at HS hb ⊢
    by_cases hbit:low / 128 % 2=c / 128 % 2
    ·have hne:(low / 128 % 2 != c / 128 % 2)=false:=by rw [hbit];exact bne_self_eq_false _
     have HV:Hid (eiK low c 8=r):=by show _=_;exact HS.out.trans (if_pos (by omega))
     clear HS hbit
     go_wp2_with fail
     go_quiet (fail)
     go_wp2
     go_roundw
     case rel=>exact ⟨8,by omega,by go_num,by go_num,by rw [HV.out],_,rfl⟩
     case measure=>simp [intOf]
    ·have hne:(low / 128 % 2 != c / 128 % 2)=true:=bne_iff_ne.2 hbit
     have HV:Hid (eiK low c 8=r + 128):=by show _=_;exact HS.out.trans (if_neg (by omega))
     clear HS hbit
     go_wp2_with fail
     go_quiet (fail)
     go_wp2
     go_roundw
     case rel=>exact ⟨8,by omega,by go_num,by go_num,by rw [HV.out],_,rfl⟩
     case measure=>simp [intOf]
theorem rhash_any (ao:Option Addr) (n cap:Nat) (zs:List Int) (w:World) (hl:zs.length=n) (hd:Has w ao zs) (hn:n≤9223372036854775807) (hz:∀ z ∈ zs,0≤z∧z≤255) :
  Calls Tryz.prog 35 #[.slice ao n cap] w fun e w'=>e=.returned (.int .i64 (hsh zs))∧∃ m,w'=w.drewN m:=by
 have HD:=hide hd
 have HZ:=hide hz
 clear hd hz
 go_enter Tryz.func35,Tryz.ntmps35
 go_wp2_with fail
 go_loopw [3,4] (fun h i wr=>∃ k:Nat,k≤n∧i=.int .i64 (k:Int)∧h=.int .i64 (hshK zs k)∧∃ m,wr=w.drewN m)
  (fun _ i _=>n - (intOf i).toNat)
 case atStart=>exact ⟨0,by omega,rfl,rfl,0,rfl⟩
 case round =>
  obtain ⟨k,hk,rfl,rfl,m,rfl⟩:=hrel
  by_cases hkn:k < n
  ·obtain ⟨b,o,rfl,_,hc⟩:=HD.out.2 (by intro h;subst h;simp at hl;omega)
   have c0:w.cell? ⟨b,o + k,none⟩=some (.int .u8 (zs.getD k 0)):=hc k (by omega)
   have hb:=HZ.out (zs.getD k 0) (by rw [List.getD_eq_getElem?_getD,List.getElem?_eq_getElem (by omega)];exact List.getElem_mem _)
   have HS:=hide (hshK_succ zs k (by omega))
   have hhb:=hshK_bd zs k
   generalize zs.getD k 0=z at *
   generalize hshK zs k=h at *
   clear hc
   have HE:=hide (either_any (h % 256) z)
   have HA:=hide (ei_all h z hhb.1 hb.1 hb.2)
   have heb:=eiK_bd (h % 256) z 8
   go_wp2_with fail
   refine (HE.out _ (by omega) (by omega) hb.1 hb.2).mono ?_
   rintro e w1 ⟨rfl,m1,rfl⟩
   clear HE
   generalize eiK (h % 256) z 8=x at *
   have hx:x < 256:=heb.2
   have hx0:0≤x:=heb.1
   clear heb
   have hmul:0≤(h / 256 * 256 + x) * 16777619∧(h / 256 * 256 + x) * 16777619≤9223372036854775807:=by omega
   go_wp2
   go_roundw
   case rel =>
    refine ⟨k + 1,by omega,by go_num,?_,_,rfl⟩
    rw [HS.out,hshx,← HA.out]
   case measure=>simp [intOf];omega
  ·obtain rfl:k=n:=by omega
   go_wp2
   go_ret
   exact ⟨ret_int (by rw [← hl,hshK_all]),_,rfl⟩
end Go.Proofs.YtajphdppmdoalaaGreat
