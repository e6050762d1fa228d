import Derived.Test.YtajphdppmdoalaaGreatZANFtoNM
import Derived.Test.YtajphdppmdoalaaGreatZAMDtoND
import Derived.BigQuiet
import Derived.Deep.RegionHeld3
set_option maxRecDepth 100000
set_option maxHeartbeats 6400000
set_option linter.unusedVariables false
namespace Go.Proofs.YtajphdppmdoalaaGreat
open Go.RowKit
theorem put3 {w:World} {g:Nat} {t:TypeId} {a b c:Value} (h:w.heap[g]?=some (.cells #[a,b,c] t (0,0))) (x y z:Value):(((w.setCell ⟨g,0,none⟩ x).setCell ⟨g,1,none⟩ y).setCell ⟨g,2,none⟩ z).heap[g]?=some (.cells #[x,y,z] t (0,0))∧Only (fun k=>k=g) w (((w.setCell ⟨g,0,none⟩ x).setCell ⟨g,1,none⟩ y).setCell ⟨g,2,none⟩ z):=by
 refine ⟨?_,(Only.refl (fun k=>k=g) w).setG.setG.setG⟩
 have h1:=row_setCell (j:=0) h x
 have h2:=row_setCell (j:=1) h1 y
 have h3:=row_setCell (j:=2) h2 z
 simpa using h3
def heldL (R:List PE):List Pc:=(R.map PE.e).flatMap waitL
theorem held_snoc (R:List PE) (j:Nat) (r:PE) (h:R[j]?=some r):heldL (R.take (j + 1))=heldL (R.take j) ++ waitL r.e:=by
 rw [heldL,take_snoc R j r h,List.map_append,List.flatMap_append]
 simp [heldL]
theorem bytesL_app (l m:List Pc):bytesL (l ++ m)=bytesL l + bytesL m:=by simp [bytesL]
theorem held_bd (R:List PE) (h:PFew R) (j:Nat):(heldL (R.take j)).length≤1000000∧0≤bytesL (heldL (R.take j))∧bytesL (heldL (R.take j))≤92000000:=by
 have h1:∀ R:List PE,(∀ r ∈ R,PcB r.e.pcs)→(heldL R).length≤1000 * R.length:=by
  intro R
  induction R with
  | nil=>intro _;simp [heldL]
  | cons r R ih =>
   intro hr
   have h2:=ih (fun x hx=>hr x (List.mem_cons_of_mem _ hx))
   have h3:=(wait_few r.e (hr r List.mem_cons_self)).1
   simp only [heldL,List.map_cons,List.flatMap_cons,List.length_append,List.length_cons] at *
   omega
 have h2:=h1 (R.take j) (fun r hr=>h.2 r (List.mem_of_mem_take hr))
 have h3:(R.take j).length≤1000:=by rw [List.length_take];have:=h.1;omega
 have h4:=bytesL_bd (heldL (R.take j)) (by
  intro q hq
  simp only [heldL,List.mem_flatMap,List.mem_map] at hq
  obtain ⟨e,⟨r,hr,rfl⟩,hq⟩:=hq
  exact (wait_few r.e (h.2 r (List.mem_of_mem_take hr))).2 q hq)
 omega
theorem load_any (gS i:Nat) (vE:Value) (R:List PE) (now:Int) (F:Nat→Prop) (w:World) (hg:gS < w.heap.size) (c0:w.cell? ⟨gS,i,none⟩=some vE) (h:StIs w vE R now F) (hf:PFew R) :
  Calls Tryz.prog 83 #[.pointer (some ⟨gS,i,none⟩)] w fun e w'=>e=.returned (.agg #[.int .i64 R.length,.int .i64 (heldL R).length,.int .i64 (bytesL (heldL R))])∧Below w.heap.size w w':=by
 have HH:=hide h
 have HF:=hide hf
 have hn:R.length≤1000:=hf.1
 obtain ⟨ao,cap,rfl⟩:=own_slice h.rE
 clear h hf
 go_enter Tryz.func83,Tryz.ntmps83
 go_wp2_with fail
 generalize hWW:((w.alloc _).alloc _)=w1
 have hz1:w1.heap.size=w.heap.size + 2:=by rw [← hWW];simp
 have HB0:Hid (Below w.heap.size w w1):=by rw [← hWW];exact ((Below.refl _ _).alloc (Nat.le_refl _) _).alloc (by simp) _
 have HX0:Hid (w1.heap[w.heap.size]?=some (.cells #[.int .i64 0,.int .i64 0,.int .i64 0] 98 (0,0))):=by rw [← hWW];exact (Below.heap_alloc _ _ _ (by simp)).trans (heap_alloc_new _ _)
 have HX1:Hid (w1.heap[w.heap.size + 1]?=some (.cells #[.int .i64 R.length,.int .i64 0,.int .i64 0] 98 (0,0))):=by rw [← hWW];have:=heap_alloc_new (w.alloc (.cells #[.int .i64 0,.int .i64 0,.int .i64 0] 98)) (.cells #[.int .i64 R.length,.int .i64 0,.int .i64 0] 98);rwa [World.size_alloc] at this
 clear hWW
 go_loopw [19] (fun k wr=>∃ j:Nat,j≤R.length∧k=.int .i64 j∧Hid (wr.heap[w.heap.size + 1]?=some (.cells #[.int .i64 R.length,.int .i64 (heldL (R.take j)).length,.int .i64 (bytesL (heldL (R.take j)))] 98 (0,0)))∧Hid (Below (w.heap.size + 1) w1 wr)) (fun k _=>R.length - (intOf k).toNat)
 case atStart=>exact ⟨0,Nat.zero_le _,rfl,HX1.out,Below.refl _ _⟩
 case round =>
  obtain ⟨j,hj,rfl,HO,HB⟩:=hrel
  have HBW:Hid (Below w.heap.size w wr):=HB0.out.trans (HB.out.mono (by omega))
  have hsz:w.heap.size + 2≤wr.heap.size:=by have:=HB.out.size;omega
  by_cases hlt:j < R.length
  ·obtain ⟨g,q,hgq⟩:=own_some HH.out.rE (by omega)
   rw [Value.slice.injEq] at hgq
   obtain ⟨rfl,_,rfl⟩:=hgq
   have hN:=(HH.out.below HBW.out).rE
   have hgz:g < wr.heap.size:=(hN.lt g rfl).2
   obtain ⟨r,hr⟩:∃ r,R[j]?=some r:=⟨_,List.getElem?_eq_getElem hlt⟩
   have HT:=hide (held_snoc R j r hr)
   have hbd:=held_bd R HF.out j
   have hwf:=wait_few r.e (HF.out.2 r (List.mem_of_getElem? hr))
   have r0:wr.cell? ⟨g,j * 11,none⟩=_:=row_get (PE.cells now) (PE.len now) hN j r hr 0 _ rfl
   have r1:=row_get (PE.cells now) (PE.len now) hN j r hr 1 _ rfl
   have r2:=row_get (PE.cells now) (PE.len now) hN j r hr 2 _ rfl
   have r3:=row_get (PE.cells now) (PE.len now) hN j r hr 3 _ rfl
   have r4:=row_get (PE.cells now) (PE.len now) hN j r hr 4 _ rfl
   have r5:=row_get (PE.cells now) (PE.len now) hN j r hr 5 _ rfl
   have r6:=row_get (PE.cells now) (PE.len now) hN j r hr 6 _ rfl
   have r7:=row_get (PE.cells now) (PE.len now) hN j r hr 7 _ rfl
   have r8:=row_get (PE.cells now) (PE.len now) hN j r hr 8 _ rfl
   have r9:=row_get (PE.cells now) (PE.len now) hN j r hr 9 _ rfl
   have r10:=row_get (PE.cells now) (PE.len now) hN j r hr 10 _ rfl
   obtain ⟨sa,sc,hsv⟩:=own_slice (HH.out.rs r (List.mem_of_getElem? hr))
   obtain ⟨ha,hc,hhv⟩:=own_slice (HH.out.rh r (List.mem_of_getElem? hr))
   have HRH0:=hide (HH.out.rh r (List.mem_of_getElem? hr))
   rw [hsv] at r5
   rw [hhv] at r10 HRH0
   generalize hWL:waitL r.e=WL at *
   have HWF:=hide hwf
   have hwl:WL.length≤1000:=hwf.1
   obtain ⟨re,rsv,rhv⟩:=r
   obtain ⟨eo,es,ed,ep,ei,eb,pcs,ek,et⟩:=re
   simp only at HT r0 r1 r2 r3 r4 r5 r6 r7 r8 r9 r10
   generalize (endO pcs).isSome=E1 at *
   generalize (endO pcs).getD 0=E2 at *
   generalize now - eb=AG at *
   generalize hP0:(heldL (R.take j)).length=P0 at *
   generalize hB0:bytesL (heldL (R.take j))=B0 at *
   have HP0:=hide (And.intro hP0 hB0)
   clear hN hr hsv hhv hWL hP0 hB0 hwf
   have dB:=arr_cell HO.out
   have fB:=arr_frozen HO.out
   have hsz':w.heap.size + 1 < wr.heap.size:=by omega
   go_wp2_with fail
   clear r0 r1 r2 r3 r4 r5 r6 r7 r8 r9 r10
   generalize hbx:wr.heap.size=bx at *
   generalize hWi:((wr.setCell ⟨w.heap.size + 1,1,none⟩ (.int .i64 ((P0:Int) + (WL.length:Int)))).alloc (.cells #[.int .u16 es,.int .u16 ed,.int .u8 ep,.int .u16 ei,.int .i64 AG,.slice sa pcs.length sc,.bool E1,.int .i64 E2,.bool ek,.int .u8 et,.slice ha WL.length hc] 152))=wi
   have HY1:Hid (wi.heap[w.heap.size + 1]?=some (.cells #[.int .i64 R.length,.int .i64 ((P0:Int) + (WL.length:Int)),.int .i64 B0] 98 (0,0))):=by
    rw [← hWi]
    refine (Below.heap_alloc _ _ _ (by simp;omega)).trans ?_
    simpa using row_setCell (j:=1) HO.out (.int .i64 ((P0:Int) + (WL.length:Int)))
   have HBi:Hid (Below (w.heap.size + 1) w1 wi):=by rw [← hWi];exact (HB.out.setCell (by simp) _).alloc (by simp;omega) _
   have hzi:bx + 1≤wi.heap.size:=by rw [← hWi];simp;omega
   clear hWi dB fB
   go_loopw [33] (fun k wq=>∃ m:Nat,m≤WL.length∧k=.int .i64 m∧Hid (wq.heap[w.heap.size + 1]?=some (.cells #[.int .i64 R.length,.int .i64 ((P0:Int) + (WL.length:Int)),.int .i64 (B0 + bytesL (WL.take m))] 98 (0,0)))∧Hid (Below (w.heap.size + 1) w1 wq)) (fun k _=>WL.length - (intOf k).toNat)
   case atStart=>exact ⟨0,Nat.zero_le _,rfl,by simpa [bytesL] using HY1,HBi.out⟩
   case round =>
    obtain ⟨m,hm,rfl,HQ1,HQB⟩:=hrel
    have dB:=arr_cell HQ1.out
    have fB:=arr_frozen HQ1.out
    have hq1:w.heap.size + 1 < wr.heap.size:=lt_of_block HQ1.out
    have hbt:=bytesL_take WL m HWF.out.2 hwl
    by_cases hlm:m < WL.length
    ·obtain ⟨gh,q,hgq⟩:=own_some HRH0.out (by omega)
     rw [Value.slice.injEq] at hgq
     obtain ⟨rfl,_,rfl⟩:=hgq
     have hHB:Below w.heap.size w wr:=HB0.out.trans (HQB.out.mono (by omega))
     have hRH:=own_below' HRH0.out (fun k hk=>(HRH0.out.lt k hk).2) hHB
     have hgh:gh < wr.heap.size:=(hRH.lt gh rfl).2
     obtain ⟨q,hq⟩:∃ q,WL[m]?=some q:=⟨_,List.getElem?_eq_getElem hlm⟩
     have q0:wr.cell? ⟨gh,m * 2,none⟩=_:=row_get Pc.wtg Pc.wtg_len hRH m q hq 0 _ rfl
     have q1:=row_get Pc.wtg Pc.wtg_len hRH m q hq 1 _ rfl
     have HT2:=hide (take_snoc WL m q hq)
     have hqb:=HWF.out.2 q (List.mem_of_getElem? hq)
     obtain ⟨qs,qa,qb,qe,qw⟩:=q
     simp only at q0 q1 hqb
     generalize hB2:bytesL (WL.take m)=B2 at *
     have HB2:=hide hB2
     clear hRH hq hB2 hHB
     go_wp2
     go_roundw
     case rel =>
      go_light
      refine ⟨m + 1,by omega,by go_num,?_,(HQB.out.setCell (by simp) _).alloc (by simp;omega) _⟩
      show _=_
      refine (Below.heap_alloc _ _ _ (by simp;omega)).trans ?_
      rw [HT2.out,bytesL_snoc,HB2.out]
      have:=row_setCell (j:=2) HQ1.out (.int .i64 (B0 + B2 + (qb - qa)))
      simp only [show B0 + (B2 + qb - qa)=B0 + B2 + (qb - qa) from by omega]
      simpa using this
     case measure=>simp [intOf];omega
    ·obtain rfl:m=WL.length:=by omega
     rw [List.take_length] at HQ1
     go_wp2
     go_roundw
     case rel =>
      go_light
      refine ⟨j + 1,by omega,by go_num,?_,HQB.out⟩
      show _=_
      rw [HT.out,List.length_append,bytesL_app,HP0.out.1,HP0.out.2]
      exact HQ1.out
     case measure=>simp [intOf];omega
  ·obtain rfl:j=R.length:=by omega
   rw [List.take_length] at HO
   have dB:=arr_cell HO.out
   have dA:=arr_cell ((HB.out.block _ (by omega)).trans HX0.out)
   have fA:=arr_frozen ((HB.out.block _ (by omega)).trans HX0.out)
   have hsA:w.heap.size < wr.heap.size:=by omega
   have hsB:w.heap.size + 1 < wr.heap.size:=by omega
   go_wp2
   have h3:=put3 (t:=98) ((HB.out.block _ (by omega)).trans HX0.out) (.int .i64 R.length) (.int .i64 (heldL R).length) (.int .i64 (bytesL (heldL R)))
   generalize ((wr.setCell ⟨w.heap.size,0,none⟩ _).setCell ⟨w.heap.size,1,none⟩ _).setCell ⟨w.heap.size,2,none⟩ _=wF at h3 ⊢
   have dF:=arr_cell h3.1
   have hzF:w.heap.size < wF.heap.size:=lt_of_block h3.1
   clear dA dB fA
   refine bodyPost_ret (v:=.agg #[.int .i64 R.length,.int .i64 (heldL R).length,.int .i64 (bytesL (heldL R))]) ?_ rfl ⟨rfl,HBW.out.trans (h3.2.to_below (by omega) (fun k hk=>by omega))⟩
   go_light
   simp [results,Tryz.results83,go_sem,dF]
theorem clashes_any (g o:Nat) (l:List Pc) (sv:Value) (p:Pk) (w:World) (hg:g < w.heap.size) (c5:w.cell? ⟨g,o + 5,none⟩=some sv) (c6:w.cell? ⟨g,o + 6,none⟩=some (.bool (endO l).isSome)) (c7:w.cell? ⟨g,o + 7,none⟩=some (.int .i64 ((endO l).getD 0)))
  (hS:w.ownsRow 0 165 2 sv l.length (l.flatMap Pc.span)) (hb:PcB l) (ho0:0≤p.off) (ho1:p.off≤255) (hd:p.dlen≤1000) :
  Calls Tryz.prog 111 #[.pointer (some ⟨g,o,none⟩),p.pc] w fun e w'=>e=.returned (.bool ((endO l).isSome && (!p.more || decide ((endO l).getD 0 < p.off * 4 + p.dlen)) || l.any (barS (p.off * 4) (p.off * 4 + p.dlen) (!p.more))))∧Below w.heap.size w w':=by
 obtain ⟨ao,cap,rfl⟩:=own_slice hS
 have HP:=hide hS
 have HQ:=hide hb
 have hl:l.length≤1000:=hb.1
 have HBY:=hide (fun w=>pbytes_any p w ho0 ho1 hd)
 have HLA:=hide (fun w=>plast_eq p w)
 have HME:=hide (fun a b c d w=>pmeets_any a b c d w)
 clear hS hb
 obtain ⟨src,dst,proto,id,off,more,sport,dport,n⟩:=p
 unfold Pk.pc at *
 unfold Pk.box at HLA
 simp only at *
 have hbA:0≤off * 4∧off * 4≤1020∧0≤off * 4 + (n:Int)∧off * 4 + (n:Int)≤2020:=by omega
 generalize off * 4 + (n:Int)=B at *
 generalize off * 4=A at *
 clear ho0 ho1 hd
 generalize hX:w.heap.size=X at *
 go_enter Tryz.func111,Tryz.ntmps111
 go_wp2_with fail
 refine (HBY.out _).mono ?_
 rintro e w1 ⟨rfl,hb1⟩
 have HB1:Hid (Below (w.heap.size + 1) (w.alloc (.cells #[.int .u16 src,.int .u16 dst,.int .u8 proto,.int .u16 id,.int .u8 off,.bool more,.int .u16 sport,.int .u16 dport,.slice none 0 0,.int .i64 n] 112)) w1):=hb1.mono (by simp)
 have hz1:w.heap.size + 1≤w1.heap.size:=by have:=hb1.size;simpa using this
 clear hb1 HBY
 have HB2:Hid (Below (w.heap.size + 1) (w.alloc (.cells #[.int .u16 src,.int .u16 dst,.int .u8 proto,.int .u16 id,.int .u8 off,.bool more,.int .u16 sport,.int .u16 dport,.slice none 0 0,.int .i64 n] 112)) (w1.alloc (.cells #[.int .i64 A,.int .i64 B] 165))):=HB1.out.alloc (by omega) _
 have cY:=box_cell (Below.refl (w1.heap.size + 1) (w1.alloc (.cells #[.int .i64 A,.int .i64 B] 165)))
 have cc:=box_cell HB1.out
 rw [hX] at hz1 cc
 have hXz:X < w1.heap.size:=by omega
 go_wp2_with fail
 have HBo:Hid (Below w.heap.size w (w1.alloc (.cells #[.int .i64 A,.int .i64 B] 165))):=below_old HB2.out
 have cX:=box_cell HB2.out
 have hz2:(w1.alloc (.cells #[.int .i64 A,.int .i64 B] 165)).heap.size=w1.heap.size + 1:=by simp
 generalize w1.alloc (.cells #[.int .i64 A,.int .i64 B] 165)=w2 at *
 generalize w1.heap.size=Y at *
 rw [hX] at cX
 have c5':=(HBo.out.cell (p:=⟨g,o + 5,none⟩) (by simp;omega)).trans c5
 have c6':=(HBo.out.cell (p:=⟨g,o + 6,none⟩) (by simp;omega)).trans c6
 have c7':=(HBo.out.cell (p:=⟨g,o + 7,none⟩) (by simp;omega)).trans c7
 have hgs:g < w2.heap.size:=by omega
 rw [hX] at HBo
 clear c5 c6 c7 HB1 HB2 cc hXz
 have hXz:X < w2.heap.size:=by omega
 have hYz:Y < w2.heap.size:=by omega
 have HcX:=hide cX
 have HcY:=hide cY
 cases hE:endO l with
 | none =>
  rw [hE] at c6' c7'
  cases more with
  | false =>
   simp only [Bool.not_false] at HLA
   go_region
   go_wp2_with fail
   go_loopw [32] (fun i wr=>∃ j:Nat,j≤l.length∧i=.int .i64 j∧Hid (Below X w wr)∧Hid (∀ j,wr.cell? ⟨X,j,none⟩=#[.int .u16 src,.int .u16 dst,.int .u8 proto,.int .u16 id,.int .u8 off,.bool false,.int .u16 sport,.int .u16 dport,.slice none 0 0,.int .i64 n][j]?)∧Hid (∀ j,wr.cell? ⟨Y,j,none⟩=#[.int .i64 A,.int .i64 B][j]?)∧Y < wr.heap.size∧Hid ((l.take j).any (barS A B (!false))=false)) (fun i _=>l.length - (intOf i).toNat)
   case atStart=>exact ⟨0,Nat.zero_le _,rfl,(by repeat (first | exact HBo.out | refine Below.drew ?_ | refine Below.alloc ?_ (by omega) _)),(fun k=>by simpa using HcX.out k),(fun k=>by simpa using HcY.out k),by simp;try omega,rfl⟩
   case round =>
    obtain ⟨j,hj,rfl,HB,HX,HY,hYr,HNo⟩:=hrel
    by_cases hlt:j < l.length
    ·obtain ⟨gs,q,hgq⟩:=own_some HP.out (by omega)
     rw [Value.slice.injEq] at hgq
     obtain ⟨rfl,_,rfl⟩:=hgq
     have hN:=own_below' HP.out (fun k hk=>by have:=(HP.out.lt k hk).2;omega) HB.out
     have hgz:gs < wr.heap.size:=(hN.lt gs rfl).2
     obtain ⟨q,hr⟩:∃ q,l[j]?=some q:=⟨_,List.getElem?_eq_getElem hlt⟩
     have r0:wr.cell? ⟨gs,j * 2,none⟩=_:=row_get Pc.span Pc.span_len hN j q hr 0 _ rfl
     have r1:=row_get Pc.span Pc.span_len hN j q hr 1 _ rfl
     have HT:=hide (take_snoc l j q hr)
     have hqb:=HQ.out.2 q (List.mem_of_getElem? hr)
     obtain ⟨qs,qa,qb,qe,qw⟩:=q
     simp only at hqb
     have HAny:Hid ((l.take (j + 1)).any (barS A B (!false))=barS A B (!false) ⟨qs,qa,qb,qe,qw⟩):=by
      show _=_
      rw [HT.out,List.any_append,HNo.out]
      simp
     have HAll:Hid (barS A B (!false) ⟨qs,qa,qb,qe,qw⟩=true→l.any (barS A B (!false))=true):=fun h=>List.any_eq_true.2 ⟨_,List.mem_of_getElem? hr,h⟩
     clear hN hr
     have hXr:X < wr.heap.size:=by omega
     have eX:=HX.out
     have eY:=HY.out
     by_cases hm:A < qb∧qa < B
     ·have hd1:decide (A < qb)=true:=decide_eq_true hm.1
      have hd2:decide (qa < B)=true:=decide_eq_true hm.2
      have HMM:=hide (HME.out A B qa qb)
      rw [hd1,hd2] at HMM
      go_wp2_with fail
      refine (HMM.out _).mono ?_
      rintro e w7 ⟨rfl,hb7⟩
      go_wp2
      go_ret
      exact ⟨by rw [HAll.out (by simp [barS,hd1,hd2])];simp,(HB.out.alloc (by omega) _).trans (hb7.mono (by simp;omega))⟩
     ·have HMM:=hide (HME.out A B qa qb)
      have hdd:(decide (A < qb) && decide (qa < B))=false:=by simpa using hm
      rw [hdd] at HMM
      go_wp2_with fail
      refine (HMM.out _).mono ?_
      rintro e w7 ⟨rfl,hb7⟩
      have HB7:Hid (Below (wr.heap.size + 1) (wr.alloc (.cells #[.int .i64 qa,.int .i64 qb] 165)) w7):=hb7.mono (by simp)
      have hz7:wr.heap.size + 1≤w7.heap.size:=by have:=hb7.size;simpa using this
      have c7s:=box_cell HB7.out
      have HB7o:=hide (below_old HB7.out)
      have fX:=fun j=>(HB7o.out.cell (p:=⟨X,j,none⟩) (by simp;omega)).trans (eX j)
      have fY:=fun j=>(HB7o.out.cell (p:=⟨Y,j,none⟩) (by simp;omega)).trans (eY j)
      have HW7:Hid (Below X w w7):=HB.out.trans (HB7o.out.mono (by omega))
      have HFX:=hide fX
      have HFY:=hide fY
      have hX7:X < w7.heap.size:=by omega
      have hY7:Y < w7.heap.size:=by omega
      clear eX eY r0 r1 hb7 HB7 HB7o
      have hZ7:wr.heap.size < w7.heap.size:=by omega
      by_cases hq2:B < qb
      ·have hd3:decide (B < qb)=true:=decide_eq_true hq2
       go_wp2_with (go_at_call 113;refine (HLA.out _).mono ?_;rintro e w' ⟨rfl,rfl⟩)
       go_ret
       exact ⟨by rw [HAll.out (by simp [barS,hd3])];simp,HW7.out.alloc (by omega) _⟩
      ·have hd3:decide (B < qb)=false:=decide_eq_false hq2
       go_wp2_with (go_at_call 113;refine (HLA.out _).mono ?_;rintro e w' ⟨rfl,rfl⟩)
       go_roundw
       case rel=>exact ⟨j + 1,by omega,by go_num,HW7.out.alloc (by omega) _,fun k=>(World.cell?_alloc_past _ _ _ (by first | omega | (simp;omega))).trans (HFX.out k),fun k=>(World.cell?_alloc_past _ _ _ (by first | omega | (simp;omega))).trans (HFY.out k),by simp;omega,by show _=_;rw [HAny.out];simp only [barS,hdd,hd3];rfl⟩
       case measure=>simp [intOf];omega
    ·obtain rfl:j=l.length:=by omega
     rw [List.take_length] at HNo
     go_wp2
     go_ret
     exact ⟨by rw [HNo.out,hE];simp,HB.out⟩
  | true =>
   simp only [Bool.not_true] at HLA
   go_region
   go_wp2_with fail
   go_loopw [32] (fun i wr=>∃ j:Nat,j≤l.length∧i=.int .i64 j∧Hid (Below X w wr)∧Hid (∀ j,wr.cell? ⟨X,j,none⟩=#[.int .u16 src,.int .u16 dst,.int .u8 proto,.int .u16 id,.int .u8 off,.bool true,.int .u16 sport,.int .u16 dport,.slice none 0 0,.int .i64 n][j]?)∧Hid (∀ j,wr.cell? ⟨Y,j,none⟩=#[.int .i64 A,.int .i64 B][j]?)∧Y < wr.heap.size∧Hid ((l.take j).any (barS A B (!true))=false)) (fun i _=>l.length - (intOf i).toNat)
   case atStart=>exact ⟨0,Nat.zero_le _,rfl,(by repeat (first | exact HBo.out | refine Below.drew ?_ | refine Below.alloc ?_ (by omega) _)),(fun k=>by simpa using HcX.out k),(fun k=>by simpa using HcY.out k),by simp;try omega,rfl⟩
   case round =>
    obtain ⟨j,hj,rfl,HB,HX,HY,hYr,HNo⟩:=hrel
    by_cases hlt:j < l.length
    ·obtain ⟨gs,q,hgq⟩:=own_some HP.out (by omega)
     rw [Value.slice.injEq] at hgq
     obtain ⟨rfl,_,rfl⟩:=hgq
     have hN:=own_below' HP.out (fun k hk=>by have:=(HP.out.lt k hk).2;omega) HB.out
     have hgz:gs < wr.heap.size:=(hN.lt gs rfl).2
     obtain ⟨q,hr⟩:∃ q,l[j]?=some q:=⟨_,List.getElem?_eq_getElem hlt⟩
     have r0:wr.cell? ⟨gs,j * 2,none⟩=_:=row_get Pc.span Pc.span_len hN j q hr 0 _ rfl
     have r1:=row_get Pc.span Pc.span_len hN j q hr 1 _ rfl
     have HT:=hide (take_snoc l j q hr)
     have hqb:=HQ.out.2 q (List.mem_of_getElem? hr)
     obtain ⟨qs,qa,qb,qe,qw⟩:=q
     simp only at hqb
     have HAny:Hid ((l.take (j + 1)).any (barS A B (!true))=barS A B (!true) ⟨qs,qa,qb,qe,qw⟩):=by
      show _=_
      rw [HT.out,List.any_append,HNo.out]
      simp
     have HAll:Hid (barS A B (!true) ⟨qs,qa,qb,qe,qw⟩=true→l.any (barS A B (!true))=true):=fun h=>List.any_eq_true.2 ⟨_,List.mem_of_getElem? hr,h⟩
     clear hN hr
     have hXr:X < wr.heap.size:=by omega
     have eX:=HX.out
     have eY:=HY.out
     by_cases hm:A < qb∧qa < B
     ·have hd1:decide (A < qb)=true:=decide_eq_true hm.1
      have hd2:decide (qa < B)=true:=decide_eq_true hm.2
      have HMM:=hide (HME.out A B qa qb)
      rw [hd1,hd2] at HMM
      go_wp2_with fail
      refine (HMM.out _).mono ?_
      rintro e w7 ⟨rfl,hb7⟩
      go_wp2
      go_ret
      exact ⟨by rw [HAll.out (by simp [barS,hd1,hd2])];simp,(HB.out.alloc (by omega) _).trans (hb7.mono (by simp;omega))⟩
     ·have HMM:=hide (HME.out A B qa qb)
      have hdd:(decide (A < qb) && decide (qa < B))=false:=by simpa using hm
      rw [hdd] at HMM
      go_wp2_with fail
      refine (HMM.out _).mono ?_
      rintro e w7 ⟨rfl,hb7⟩
      have HB7:Hid (Below (wr.heap.size + 1) (wr.alloc (.cells #[.int .i64 qa,.int .i64 qb] 165)) w7):=hb7.mono (by simp)
      have hz7:wr.heap.size + 1≤w7.heap.size:=by have:=hb7.size;simpa using this
      have c7s:=box_cell HB7.out
      have HB7o:=hide (below_old HB7.out)
      have fX:=fun j=>(HB7o.out.cell (p:=⟨X,j,none⟩) (by simp;omega)).trans (eX j)
      have fY:=fun j=>(HB7o.out.cell (p:=⟨Y,j,none⟩) (by simp;omega)).trans (eY j)
      have HW7:Hid (Below X w w7):=HB.out.trans (HB7o.out.mono (by omega))
      have HFX:=hide fX
      have HFY:=hide fY
      have hX7:X < w7.heap.size:=by omega
      have hY7:Y < w7.heap.size:=by omega
      clear eX eY r0 r1 hb7 HB7 HB7o
      have hZ7:wr.heap.size < w7.heap.size:=by omega
      go_wp2_with (go_at_call 113;refine (HLA.out _).mono ?_;rintro e w' ⟨rfl,rfl⟩)
      go_roundw
      case rel=>exact ⟨j + 1,by omega,by go_num,HW7.out.alloc (by omega) _,fun k=>(World.cell?_alloc_past _ _ _ (by first | omega | (simp;omega))).trans (HFX.out k),fun k=>(World.cell?_alloc_past _ _ _ (by first | omega | (simp;omega))).trans (HFY.out k),by simp;omega,by show _=_;rw [HAny.out];simp only [barS,hdd];rfl⟩
      case measure=>simp [intOf];omega
    ·obtain rfl:j=l.length:=by omega
     rw [List.take_length] at HNo
     go_wp2
     go_ret
     exact ⟨by rw [HNo.out,hE];simp,HB.out⟩
 | some b =>
  rw [hE] at c6' c7'
  cases more with
  | false =>
   simp only [Bool.not_false] at HLA
   first | (go_region_with (go_at_call 113;refine (HLA.out _).mono ?_;rintro e w' ⟨rfl,rfl⟩)) | fail
   all_goals go_wp2
   all_goals go_ret
   all_goals exact ⟨by simp [hE],(by repeat (first | exact HBo.out | refine Below.drew ?_ | refine Below.alloc ?_ (by omega) _))⟩
  | true =>
   simp only [Bool.not_true] at HLA
   by_cases hlt:b < B
   ·have hdt:decide (b < B)=true:=decide_eq_true hlt
    go_region_held3 (fun w'=>w'.cell? ⟨X,0,none⟩=some (.int .u16 src)∧w'.cell? ⟨X,1,none⟩=some (.int .u16 dst)∧w'.cell? ⟨X,2,none⟩=some (.int .u8 proto)∧w'.cell? ⟨X,3,none⟩=some (.int .u16 id)∧w'.cell? ⟨X,4,none⟩=some (.int .u8 off)∧w'.cell? ⟨X,5,none⟩=some (.bool true)∧w'.cell? ⟨X,6,none⟩=some (.int .u16 sport)∧w'.cell? ⟨X,7,none⟩=some (.int .u16 dport)∧w'.cell? ⟨X,8,none⟩=some (.slice none 0 0)∧w'.cell? ⟨X,9,none⟩=some (.int .i64 n)∧w'.cell? ⟨g,o + 6,none⟩=some (.bool true)∧w'.cell? ⟨g,o + 7,none⟩=some (.int .i64 b)∧w'.cell? ⟨Y,1,none⟩=some (.int .i64 B)∧w'.cell? ⟨g,o + 5,none⟩=some (.slice ao l.length cap)) (go_keep) (first | (go_at_call 113;refine (HLA.out _).mono ?_;rintro e w' ⟨rfl,rfl⟩))
    go_wp2
    go_ret
    exact ⟨by simp [hE,hlt],(by repeat (first | exact HBo.out | refine Below.drew ?_ | refine Below.alloc ?_ (by omega) _))⟩
   ·have hdt:decide (b < B)=false:=decide_eq_false hlt
    go_region_held3 (fun w'=>w'.cell? ⟨X,0,none⟩=some (.int .u16 src)∧w'.cell? ⟨X,1,none⟩=some (.int .u16 dst)∧w'.cell? ⟨X,2,none⟩=some (.int .u8 proto)∧w'.cell? ⟨X,3,none⟩=some (.int .u16 id)∧w'.cell? ⟨X,4,none⟩=some (.int .u8 off)∧w'.cell? ⟨X,5,none⟩=some (.bool true)∧w'.cell? ⟨X,6,none⟩=some (.int .u16 sport)∧w'.cell? ⟨X,7,none⟩=some (.int .u16 dport)∧w'.cell? ⟨X,8,none⟩=some (.slice none 0 0)∧w'.cell? ⟨X,9,none⟩=some (.int .i64 n)∧w'.cell? ⟨g,o + 6,none⟩=some (.bool true)∧w'.cell? ⟨g,o + 7,none⟩=some (.int .i64 b)∧w'.cell? ⟨Y,1,none⟩=some (.int .i64 B)∧w'.cell? ⟨g,o + 5,none⟩=some (.slice ao l.length cap)) (go_keep) (first | (go_at_call 113;refine (HLA.out _).mono ?_;rintro e w' ⟨rfl,rfl⟩))
    go_wp2_with fail
    go_loopw [32] (fun i wr=>∃ j:Nat,j≤l.length∧i=.int .i64 j∧Hid (Below X w wr)∧Hid (∀ j,wr.cell? ⟨X,j,none⟩=#[.int .u16 src,.int .u16 dst,.int .u8 proto,.int .u16 id,.int .u8 off,.bool true,.int .u16 sport,.int .u16 dport,.slice none 0 0,.int .i64 n][j]?)∧Hid (∀ j,wr.cell? ⟨Y,j,none⟩=#[.int .i64 A,.int .i64 B][j]?)∧Y < wr.heap.size∧Hid ((l.take j).any (barS A B (!true))=false)) (fun i _=>l.length - (intOf i).toNat)
    case atStart=>exact ⟨0,Nat.zero_le _,rfl,(by repeat (first | exact HBo.out | refine Below.drew ?_ | refine Below.alloc ?_ (by omega) _)),(fun k=>by simpa using (World.cell?_alloc_past _ _ _ (by first | omega | (simp;omega))).trans (HcX.out k)),(fun k=>by simpa using (World.cell?_alloc_past _ _ _ (by first | omega | (simp;omega))).trans (HcY.out k)),by simp;try omega,rfl⟩
    case round =>
     obtain ⟨j,hj,rfl,HB,HX,HY,hYr,HNo⟩:=hrel
     by_cases hlt:j < l.length
     ·obtain ⟨gs,q,hgq⟩:=own_some HP.out (by omega)
      rw [Value.slice.injEq] at hgq
      obtain ⟨rfl,_,rfl⟩:=hgq
      have hN:=own_below' HP.out (fun k hk=>by have:=(HP.out.lt k hk).2;omega) HB.out
      have hgz:gs < wr.heap.size:=(hN.lt gs rfl).2
      obtain ⟨q,hr⟩:∃ q,l[j]?=some q:=⟨_,List.getElem?_eq_getElem hlt⟩
      have r0:wr.cell? ⟨gs,j * 2,none⟩=_:=row_get Pc.span Pc.span_len hN j q hr 0 _ rfl
      have r1:=row_get Pc.span Pc.span_len hN j q hr 1 _ rfl
      have HT:=hide (take_snoc l j q hr)
      have hqb:=HQ.out.2 q (List.mem_of_getElem? hr)
      obtain ⟨qs,qa,qb,qe,qw⟩:=q
      simp only at hqb
      have HAny:Hid ((l.take (j + 1)).any (barS A B (!true))=barS A B (!true) ⟨qs,qa,qb,qe,qw⟩):=by
       show _=_
       rw [HT.out,List.any_append,HNo.out]
       simp
      have HAll:Hid (barS A B (!true) ⟨qs,qa,qb,qe,qw⟩=true→l.any (barS A B (!true))=true):=fun h=>List.any_eq_true.2 ⟨_,List.mem_of_getElem? hr,h⟩
      clear hN hr
      have hXr:X < wr.heap.size:=by omega
      have eX:=HX.out
      have eY:=HY.out
      by_cases hm:A < qb∧qa < B
      ·have hd1:decide (A < qb)=true:=decide_eq_true hm.1
       have hd2:decide (qa < B)=true:=decide_eq_true hm.2
       have HMM:=hide (HME.out A B qa qb)
       rw [hd1,hd2] at HMM
       go_wp2_with fail
       refine (HMM.out _).mono ?_
       rintro e w7 ⟨rfl,hb7⟩
       go_wp2
       go_ret
       exact ⟨by rw [HAll.out (by simp [barS,hd1,hd2])];simp,(HB.out.alloc (by omega) _).trans (hb7.mono (by simp;omega))⟩
      ·have HMM:=hide (HME.out A B qa qb)
       have hdd:(decide (A < qb) && decide (qa < B))=false:=by simpa using hm
       rw [hdd] at HMM
       go_wp2_with fail
       refine (HMM.out _).mono ?_
       rintro e w7 ⟨rfl,hb7⟩
       have HB7:Hid (Below (wr.heap.size + 1) (wr.alloc (.cells #[.int .i64 qa,.int .i64 qb] 165)) w7):=hb7.mono (by simp)
       have hz7:wr.heap.size + 1≤w7.heap.size:=by have:=hb7.size;simpa using this
       have c7s:=box_cell HB7.out
       have HB7o:=hide (below_old HB7.out)
       have fX:=fun j=>(HB7o.out.cell (p:=⟨X,j,none⟩) (by simp;omega)).trans (eX j)
       have fY:=fun j=>(HB7o.out.cell (p:=⟨Y,j,none⟩) (by simp;omega)).trans (eY j)
       have HW7:Hid (Below X w w7):=HB.out.trans (HB7o.out.mono (by omega))
       have HFX:=hide fX
       have HFY:=hide fY
       have hX7:X < w7.heap.size:=by omega
       have hY7:Y < w7.heap.size:=by omega
       clear eX eY r0 r1 hb7 HB7 HB7o
       have hZ7:wr.heap.size < w7.heap.size:=by omega
       go_wp2_with (go_at_call 113;refine (HLA.out _).mono ?_;rintro e w' ⟨rfl,rfl⟩)
       go_roundw
       case rel=>exact ⟨j + 1,by omega,by go_num,HW7.out.alloc (by omega) _,fun k=>(World.cell?_alloc_past _ _ _ (by first | omega | (simp;omega))).trans (HFX.out k),fun k=>(World.cell?_alloc_past _ _ _ (by first | omega | (simp;omega))).trans (HFY.out k),by simp;omega,by show _=_;rw [HAny.out];simp only [barS,hdd];rfl⟩
       case measure=>simp [intOf];omega
     ·obtain rfl:j=l.length:=by omega
      rw [List.take_length] at HNo
      go_wp2
      go_ret
      exact ⟨by rw [HNo.out,hE];simp;omega,HB.out⟩
end Go.Proofs.YtajphdppmdoalaaGreat
