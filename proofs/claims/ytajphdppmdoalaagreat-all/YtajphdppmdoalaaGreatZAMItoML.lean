import Derived.Test.YtajphdppmdoalaaGreatZAMHtoJ5
import Derived.Test.YtajphdppmdoalaaGreatZALAtoLA
import Derived.Deep.RegionHeld3
set_option maxRecDepth 100000
set_option maxHeartbeats 6400000
set_option linter.unusedVariables false
namespace Go.Proofs.YtajphdppmdoalaaGreat
open Go.RowKit
theorem few_of_sml (S:Cl) (h:Sml S):FewP S.ents :=
 ⟨Nat.le_trans (ents_few S h) (by decide),fun e he=>⟨Nat.le_trans (pcs_few e (h.cok.ents e he).1 (h.ents e he).pcs) (by decide),fun q hq=>by have h1:=(h.cok.ents e he).1.pos q hq;have h2:=(h.ents e he).pcs q hq;omega⟩⟩
theorem rrefused_none (yb:Nat) (S:Cl) (F:Nat→Prop) (vS vE vN vV:Value) (ES:List RE) (NS:List RN) (p:Pk) (ao:Option Addr) (cap:Nat) (n:Pc) (w:World) (h:RefIs w yb S F vS vE vN vV ES NS) (hs:Sml S) (hp:PkB p) (hn:0≤n.a∧n.a≤60∧n.a≤n.b∧n.b≤92) :
  Calls Tryz.prog 96 #[.pointer (some ⟨yb,0,none⟩),.int .i64 (-1),.agg #[.int .u16 p.src,.int .u16 p.dst,.int .u8 p.proto,.int .u16 p.id,.int .u8 p.off,.bool p.more,.int .u16 p.sport,.int .u16 p.dport,.slice ao p.dlen cap],.agg #[.int .i64 n.seq,.int .i64 n.a,.int .i64 n.b,.bool n.ends,.bool n.waits]] w fun e w'=>e=.returned (.int .u8 (refusedM S none p n))∧Below w.heap.size w w':=by
 obtain ⟨r,hr⟩:∃ r,r=refusedM S none p n:=⟨_,rfl⟩
 rw [← hr]
 have hEq:(entsM S (ownerM S p)).length=nE S.ents (ownerM S p):=rfl
 have hBq:heldB S (ownerM S p)=nB S.ents (ownerM S p):=rfl
 unfold refusedM at hr
 rw [hEq,hBq] at hr
 have HRr:=hide hr
 clear hEq hBq hr
 have HH:=hide h
 have HS:=hide hs
 have hyb:=h.lt
 have hR:=And.intro hs.cok.reps hs.reps
 have hE:=h.rE
 clear h
 go_enter Tryz.func96,Tryz.ntmps96
 go_wp2_with fail
 generalize hWW:((w.alloc _).alloc _)=w1
 have hz1:w1.heap.size=w.heap.size + 2:=by rw [← hWW];simp
 have HB1:Hid (Below w.heap.size w w1):=by rw [← hWW];exact ((Below.refl _ _).alloc (Nat.le_refl _) _).alloc (by simp) _
 have HN1:Hid (w1.heap[w.heap.size + 1]?=some (.cells #[.int .i64 n.seq,.int .i64 n.a,.int .i64 n.b,.bool n.ends,.bool n.waits] 130 (0,0))):=by rw [← hWW];exact heap_new2 _ _ _
 have HP1:Hid (w1.heap[w.heap.size]?=some (.cells #[.int .u16 p.src,.int .u16 p.dst,.int .u8 p.proto,.int .u16 p.id,.int .u8 p.off,.bool p.more,.int .u16 p.sport,.int .u16 p.dport,.slice ao p.dlen cap] 40 (0,0))):=by rw [← hWW];exact heap_new1 _ _ _
 clear hWW
 have dP:=arr_cell HP1.out
 have cR:w1.cell? ⟨yb,0,none⟩=some (.int .i64 S.reps):=arr_cell (HH.out.below HB1.out).blk 0
 go_wp2_with fail
 refine (rowner_any yb p.src p.dst p.proto p.id p.off p.more p.sport p.dport ao p.dlen cap S.reps w1 hp.src hp.dst hp.proto hp.id hp.sport hp.dport hR cR (by omega)).mono ?_
 rintro e w2 ⟨rfl,hb2⟩
 have ho:dgH p.src p.dst p.proto p.id % S.reps=ownerM S p:=rfl
 rw [ho]
 have HB2:Hid (Below w.heap.size w w2):=HB1.out.trans (hb2.mono (by omega))
 have hz2:w.heap.size + 2≤w2.heap.size:=by have:=hb2.size;omega
 have HN2:Hid (w2.heap[w.heap.size + 1]?=some (.cells #[.int .i64 n.seq,.int .i64 n.a,.int .i64 n.b,.bool n.ends,.bool n.waits] 130 (0,0))):=(hb2.block _ (by omega)).trans HN1.out
 clear ho hb2 cR dP HN1 HP1 HB1
 go_wp2_with fail
 refine (rload_any yb (ownerM S p) S F vS vE vN vV ES NS w2 (HH.out.below HB2.out) (few_of_sml S HS.out)).mono ?_
 rintro e w3 ⟨rfl,hb3⟩
 have HB3:Hid (Below w.heap.size w w3):=HB2.out.trans (hb3.mono (by omega))
 have hz3:w.heap.size + 2≤w3.heap.size:=by have:=hb3.size;omega
 have HN3:Hid (w3.heap[w.heap.size + 1]?=some (.cells #[.int .i64 n.seq,.int .i64 n.a,.int .i64 n.b,.bool n.ends,.bool n.waits] 130 (0,0))):=(hb3.block _ (by omega)).trans HN2.out
 have dN:=arr_cell HN3.out
 have hz3':w.heap.size + 1 < w3.heap.size:=by omega
 have hy3:yb < w3.heap.size:=by omega
 have HR3:=hide (HH.out.below HB3.out)
 have dY:=arr_cell HR3.out.blk
 obtain ⟨sa,sc,hvS⟩:=own_slice HH.out.rS
 subst hvS
 have hlb:=ld_take S.ents (ownerM S p) S.ents.length (few_of_sml S HS.out)
 rw [List.take_length] at hlb
 generalize nE S.ents (ownerM S p)=E at *
 generalize nB S.ents (ownerM S p)=B at *
 generalize nP S.ents (ownerM S p)=P0 at *
 clear hb3 HB2 HN2
 have HBA:Hid (∀ O,Below w.heap.size w (w3.alloc O)):=fun O=>HB3.out.alloc (by omega) _
 by_cases hA:n.a=0
 ·have hA1:(n.a == 0)=true:=by simp [hA]
  have hA2:¬ 0 < n.a:=by omega
  have hA3:¬ n.a > 0:=by omega
  cases hSl:S.slots with
  | nil =>
   have hL:(((S.slots.length:Nat):Int) == 0)=true:=by simp [hSl]
   have HA:=hide (And.intro hA hSl)
   clear hA hSl
   go_wp2
   go_ret
   exact ⟨ret_int (by rw [HRr.out,if_pos HA.out]),HBA.out _⟩
  | cons z zs =>
   have hL:(((S.slots.length:Nat):Int) == 0)=false:=by simp [hSl];omega
   have HA:Hid (¬ (n.a=0∧S.slots=[])):=fun h=>by rw [hSl] at h;simp at h
   clear hA hSl
   by_cases hE3:3≤E
   ·have hE4:(E:Int) ≥ 3:=by omega
    go_wp2
    go_ret
    exact ⟨ret_int (by rw [HRr.out,if_neg HA.out,if_pos ⟨rfl,hE3⟩]),HBA.out _⟩
   ·have hE4:¬ (E:Int) ≥ 3:=by omega
    go_wp2
    go_ret
    exact ⟨ret_int (by rw [HRr.out,if_neg HA.out,if_neg (by simp;omega)];simp;omega),HBA.out _⟩
 ·have hA1:(n.a == 0)=false:=by simp [hA]
  have hA2:n.a > 0:=by omega
  have HA:=hide hA
  clear hA
  by_cases hE3:3≤E
  ·have hE4:(E:Int) ≥ 3:=by omega
   go_wp2
   go_ret
   exact ⟨ret_int (by rw [HRr.out,if_neg (fun h=>HA.out h.1),if_pos ⟨rfl,hE3⟩]),HBA.out _⟩
  ·have hE4:¬ (E:Int) ≥ 3:=by omega
   by_cases hB:48 < B + n.b - n.a
   ·have hB4:B + n.b - n.a > 48:=hB
    go_wp2
    go_ret
    exact ⟨ret_int (by rw [HRr.out,if_neg (fun h=>HA.out h.1),if_neg (by simp;omega)];simp;omega),HBA.out _⟩
   ·have hB4:¬ B + n.b - n.a > 48:=hB
    go_wp2
    go_ret
    exact ⟨ret_int (by rw [HRr.out,if_neg (fun h=>HA.out h.1),if_neg (by simp;omega)];simp;omega),HBA.out _⟩
theorem rrefused_some (yb:Nat) (S:Cl) (F:Nat→Prop) (vS vE vN vV:Value) (ES:List RE) (NS:List RN) (p:Pk) (ao:Option Addr) (cap:Nat) (n:Pc) (w:World) (h:RefIs w yb S F vS vE vN vV ES NS) (hs:Sml S) (hp:PkB p) (hn:0≤n.a∧n.a≤60∧n.a≤n.b∧n.b≤92) (k:Nat) (r0:RE) (hk:ES[k]?=some r0) :
  Calls Tryz.prog 96 #[.pointer (some ⟨yb,0,none⟩),.int .i64 k,.agg #[.int .u16 p.src,.int .u16 p.dst,.int .u8 p.proto,.int .u16 p.id,.int .u8 p.off,.bool p.more,.int .u16 p.sport,.int .u16 p.dport,.slice ao p.dlen cap],.agg #[.int .i64 n.seq,.int .i64 n.a,.int .i64 n.b,.bool n.ends,.bool n.waits]] w fun e w'=>e=.returned (.int .u8 (refusedM S (some r0.e) p n))∧Below w.heap.size w w':=by
 obtain ⟨r,hr⟩:∃ r,r=refusedM S (some r0.e) p n:=⟨_,rfl⟩
 rw [← hr]
 have hEq:(entsM S (ownerM S p)).length=nE S.ents (ownerM S p):=rfl
 have hBq:heldB S (ownerM S p)=nB S.ents (ownerM S p):=rfl
 unfold refusedM at hr
 rw [hEq,hBq] at hr
 have HRr:=hide hr
 clear hEq hBq hr
 have HH:=hide h
 have HS:=hide hs
 have hyb:=h.lt
 have hR:=And.intro hs.cok.reps hs.reps
 have hE:=h.rE
 clear h
 go_enter Tryz.func96,Tryz.ntmps96
 go_wp2_with fail
 generalize hWW:((w.alloc _).alloc _)=w1
 have hz1:w1.heap.size=w.heap.size + 2:=by rw [← hWW];simp
 have HB1:Hid (Below w.heap.size w w1):=by rw [← hWW];exact ((Below.refl _ _).alloc (Nat.le_refl _) _).alloc (by simp) _
 have HN1:Hid (w1.heap[w.heap.size + 1]?=some (.cells #[.int .i64 n.seq,.int .i64 n.a,.int .i64 n.b,.bool n.ends,.bool n.waits] 130 (0,0))):=by rw [← hWW];exact heap_new2 _ _ _
 have HP1:Hid (w1.heap[w.heap.size]?=some (.cells #[.int .u16 p.src,.int .u16 p.dst,.int .u8 p.proto,.int .u16 p.id,.int .u8 p.off,.bool p.more,.int .u16 p.sport,.int .u16 p.dport,.slice ao p.dlen cap] 40 (0,0))):=by rw [← hWW];exact heap_new1 _ _ _
 clear hWW
 have dP:=arr_cell HP1.out
 have cR:w1.cell? ⟨yb,0,none⟩=some (.int .i64 S.reps):=arr_cell (HH.out.below HB1.out).blk 0
 go_wp2_with fail
 refine (rowner_any yb p.src p.dst p.proto p.id p.off p.more p.sport p.dport ao p.dlen cap S.reps w1 hp.src hp.dst hp.proto hp.id hp.sport hp.dport hR cR (by omega)).mono ?_
 rintro e w2 ⟨rfl,hb2⟩
 have ho:dgH p.src p.dst p.proto p.id % S.reps=ownerM S p:=rfl
 rw [ho]
 have HB2:Hid (Below w.heap.size w w2):=HB1.out.trans (hb2.mono (by omega))
 have hz2:w.heap.size + 2≤w2.heap.size:=by have:=hb2.size;omega
 have HN2:Hid (w2.heap[w.heap.size + 1]?=some (.cells #[.int .i64 n.seq,.int .i64 n.a,.int .i64 n.b,.bool n.ends,.bool n.waits] 130 (0,0))):=(hb2.block _ (by omega)).trans HN1.out
 clear ho hb2 cR dP HN1 HP1 HB1
 go_wp2_with fail
 refine (rload_any yb (ownerM S p) S F vS vE vN vV ES NS w2 (HH.out.below HB2.out) (few_of_sml S HS.out)).mono ?_
 rintro e w3 ⟨rfl,hb3⟩
 have HB3:Hid (Below w.heap.size w w3):=HB2.out.trans (hb3.mono (by omega))
 have hz3:w.heap.size + 2≤w3.heap.size:=by have:=hb3.size;omega
 have HN3:Hid (w3.heap[w.heap.size + 1]?=some (.cells #[.int .i64 n.seq,.int .i64 n.a,.int .i64 n.b,.bool n.ends,.bool n.waits] 130 (0,0))):=(hb3.block _ (by omega)).trans HN2.out
 have dN:=arr_cell HN3.out
 have hz3':w.heap.size + 1 < w3.heap.size:=by omega
 have hy3:yb < w3.heap.size:=by omega
 have HR3:=hide (HH.out.below HB3.out)
 have dY:=arr_cell HR3.out.blk
 obtain ⟨sa,sc,hvS⟩:=own_slice HH.out.rS
 subst hvS
 have hlb:=ld_take S.ents (ownerM S p) S.ents.length (few_of_sml S HS.out)
 rw [List.take_length] at hlb
 generalize nE S.ents (ownerM S p)=E at *
 generalize nB S.ents (ownerM S p)=B at *
 generalize nP S.ents (ownerM S p)=P0 at *
 clear hb3 HB2 HN2
 have HBA:Hid (∀ O,Below w.heap.size w (w3.alloc O)):=fun O=>HB3.out.alloc (by omega) _
 have hkl:k < ES.length:=(List.getElem?_eq_some_iff.1 hk).1
 obtain ⟨g,ec,hvE⟩:=own_some HH.out.rE (by omega)
 subst hvE
 have hg:g < w.heap.size:=(HH.out.rE.lt g rfl).2
 have hg3:g < w3.heap.size:=by omega
 have hkm:=List.mem_of_getElem? hk
 have HRP:=hide (HH.out.rP r0 hkm)
 have hre:r0.e ∈ S.ents:=by rw [← HH.out.hes];exact List.mem_map_of_mem hkm
 have hfr:=(few_of_sml S HS.out).2 r0.e hre
 have e11:=row_get RE.cells RE.len HR3.out.rE k r0 hk 11 _ rfl
 have e12:=row_get RE.cells RE.len HR3.out.rE k r0 hk 12 _ rfl
 obtain ⟨pa,pc,hpv⟩:=own_slice HRP.out
 obtain ⟨re,roff,rmore,rsport,rdport,rdv,rpv⟩:=r0
 simp only at HRP hfr e11 e12 hpv HRr
 subst hpv
 obtain ⟨eo,es,ed,ep,ei,eb,pcs,ek,et⟩:=re
 simp only at HRP hfr e11 e12 HRr
 have HE:=hide (And.intro e11 e12)
 have HFR:=hide hfr
 have hk0:¬ (k:Int) < 0:=by omega
 have hk1:(k:Int) ≥ 0:=by omega
 clear hk hkm hre hE
 have main:Hid (¬ (n.a=0∧S.slots=[]))→((n.a == 0)=false∨(n.a == 0)=true∧(((S.slots.length:Nat):Int) == 0)=false)→True:=fun _ _=>trivial
 by_cases hA:n.a=0∧S.slots=[]
 ·have hA1:(n.a == 0)=true:=by simp [hA.1]
  have hL:(((S.slots.length:Nat):Int) == 0)=true:=by simp [hA.2]
  have HA:=hide hA
  clear hA
  go_wp2
  go_ret
  exact ⟨ret_int (by rw [HRr.out,if_pos HA.out]),HBA.out _⟩
 ·have hAL:(n.a == 0)=false∨(n.a == 0)=true∧(((S.slots.length:Nat):Int) == 0)=false:=by
   by_cases h0:n.a=0
   ·refine .inr ⟨by simp [h0],?_⟩
    cases hSl:S.slots with
    | nil=>exact absurd ⟨h0,hSl⟩ hA
    | cons z zs=>simp;omega
   ·exact .inl (by simp [h0])
  have HA:=hide hA
  clear hA
  rcases hAL with hA1 | ⟨hA1,hL⟩
  ·go_wp2_with fail
   generalize hW4:w3.alloc _=w4
   have HX4:Hid (w4.heap[w3.heap.size]?=some (.cells #[.int .i64 E,.int .i64 P0,.int .i64 B] 98 (0,0))):=by rw [← hW4];exact heap_alloc_new _ _
   have HB4:Hid (Below w3.heap.size w3 w4):=by rw [← hW4];exact (Below.refl _ _).alloc (Nat.le_refl _) _
   have hz4:w4.heap.size=w3.heap.size + 1:=by rw [← hW4];simp
   have HD:=hide (And.intro dY dN)
   clear hW4 dN dY
   go_loopw [12] (fun i wr=>∃ j:Nat,j≤pcs.length∧i=.int .i64 j∧Hid (∀ q ∈ pcs.take j,clashM q n=false)∧Hid (Below w4.heap.size w4 wr)) (fun i _=>pcs.length - (intOf i).toNat)
   case atStart=>exact ⟨0,Nat.zero_le _,rfl,by intro q hq;simp at hq,Below.refl _ _⟩
   case round =>
    obtain ⟨j,hj,rfl,HCl,HBr⟩:=hrel
    have HB5:Hid (Below w3.heap.size w3 wr):=HB4.out.trans (HBr.out.mono (by omega))
    have HBW:Hid (Below w.heap.size w wr):=HB3.out.trans (HB5.out.mono (by omega))
    have HXr:Hid (wr.heap[w3.heap.size]?=some (.cells #[.int .i64 E,.int .i64 P0,.int .i64 B] 98 (0,0))):=(HBr.out.block _ (by omega)).trans HX4.out
    have hzr:w3.heap.size < wr.heap.size:=lt_of_block HXr.out
    have cN:∀ i,wr.cell? ⟨w.heap.size + 1,i,none⟩=#[.int .i64 n.seq,.int .i64 n.a,.int .i64 n.b,.bool n.ends,.bool n.waits][i]?:=fun i=>(HB5.out.cell (p:=⟨w.heap.size + 1,i,none⟩) (by simp;omega)).trans (HD.out.2 i)
    have cE:wr.cell? ⟨yb,5,none⟩=some (.slice (some ⟨g,0,none⟩) ES.length ec):=(HB5.out.cell (p:=⟨yb,5,none⟩) hy3).trans (HD.out.1 5)
    have f11:=(HB5.out.cell (p:=⟨g,k * 14 + 11,none⟩) hg3).trans HE.out.1
    have hn1:w.heap.size + 1 < wr.heap.size:=by omega
    have hyr:yb < wr.heap.size:=by omega
    have hgr:g < wr.heap.size:=by omega
    by_cases hlt:j < pcs.length
    ·obtain ⟨gp,q,hgq⟩:=own_some HRP.out (by omega)
     rw [Value.slice.injEq] at hgq
     obtain ⟨rfl,_,rfl⟩:=hgq
     have hN:=own_below' HRP.out (fun k hk=>(HRP.out.lt k hk).2) HBW.out
     have hgz:gp < wr.heap.size:=(hN.lt gp rfl).2
     obtain ⟨x,hr⟩:∃ x,pcs[j]?=some x:=⟨_,List.getElem?_eq_getElem hlt⟩
     have c0:wr.cell? ⟨gp,j * 5,none⟩=some (.int .i64 x.seq):=row_get Pc.cells Pc.len hN j x hr 0 _ rfl
     have c1:wr.cell? ⟨gp,j * 5 + 1,none⟩=some (.int .i64 x.a):=row_get Pc.cells Pc.len hN j x hr 1 _ rfl
     have c2:wr.cell? ⟨gp,j * 5 + 2,none⟩=some (.int .i64 x.b):=row_get Pc.cells Pc.len hN j x hr 2 _ rfl
     have c3:wr.cell? ⟨gp,j * 5 + 3,none⟩=some (.bool x.ends):=row_get Pc.cells Pc.len hN j x hr 3 _ rfl
     have c4:wr.cell? ⟨gp,j * 5 + 4,none⟩=some (.bool x.waits):=row_get Pc.cells Pc.len hN j x hr 4 _ rfl
     have HT:=hide (take_snoc pcs j x hr)
     have HM:=hide (List.mem_of_getElem? hr)
     have HCX:=hide (rclash_any x n)
     generalize hcx:clashM x n=cx at HCX
     have HC:=hide hcx
     clear hN hr hcx
     go_wp2_with fail
     go_region_held3 (fun w'=>w'.cell? ⟨yb,5,none⟩=some (.slice (some ⟨g,0,none⟩) ES.length ec)∧w'.cell? ⟨g,k * 14 + 11,none⟩=some (.slice (some ⟨gp,0,none⟩) pcs.length pc)∧w'.cell? ⟨gp,j * 5,none⟩=some (.int .i64 x.seq)∧w'.cell? ⟨gp,j * 5 + 1,none⟩=some (.int .i64 x.a)∧w'.cell? ⟨gp,j * 5 + 2,none⟩=some (.int .i64 x.b)∧w'.cell? ⟨gp,j * 5 + 3,none⟩=some (.bool x.ends)∧w'.cell? ⟨gp,j * 5 + 4,none⟩=some (.bool x.waits)∧w'.cell? ⟨w.heap.size + 1,0,none⟩=some (.int .i64 n.seq)∧w'.cell? ⟨w.heap.size + 1,1,none⟩=some (.int .i64 n.a)∧w'.cell? ⟨w.heap.size + 1,2,none⟩=some (.int .i64 n.b)∧w'.cell? ⟨w.heap.size + 1,3,none⟩=some (.bool n.ends)∧w'.cell? ⟨w.heap.size + 1,4,none⟩=some (.bool n.waits)) (go_keep) (first | (go_at_call 103;refine (HCX.out _).mono ?_;rintro e w' ⟨rfl,hb⟩;have k1:=fun i=>hb.cell (p:=⟨yb,i,none⟩) (by simp <;> omega);have k2:=fun i=>hb.cell (p:=⟨g,i,none⟩) (by simp <;> omega);have k3:=fun i=>hb.cell (p:=⟨gp,i,none⟩) (by simp <;> omega);have k4:=fun i=>hb.cell (p:=⟨w.heap.size + 1,i,none⟩) (by simp <;> omega);have HK:=hide hb;clear hb))
     have HBn:Hid (Below w4.heap.size w4 w'):=(HBr.out.drew).trans (HK.out.mono (by have:=HBr.out.size;simpa using this))
     have HBv:Hid (Below w.heap.size w w'):=HBW.out.trans ((((Below.refl _ _).drew).trans (HK.out.mono (by simp;omega))))
     rename_i hHeld
     clear k1 k2 k3 k4 HK hHeld c0 c1 c2 c3 c4 f11 cE cN
     cases cx with
     | true =>
      have hany:Hid (pcs.any (fun q=>clashM q n)=true):=List.any_eq_true.2 ⟨x,HM.out,HC.out⟩
      go_wp2
      go_ret
      exact ⟨ret_int (by rw [HRr.out,if_neg HA.out,if_neg (by simp)];simp [hany.out]),HBv.out⟩
     | false =>
      go_wp2
      go_roundw
      case rel =>
       refine ⟨j + 1,by omega,by go_num,?_,HBn.out⟩
       intro q hq
       rw [HT.out,List.mem_append,List.mem_singleton] at hq
       rcases hq with hq | rfl
       ·exact HCl.out q hq
       ·exact HC.out
      case measure=>simp [intOf];omega
    ·obtain rfl:j=pcs.length:=by omega
     rw [List.take_length] at HCl
     have dX:=arr_cell HXr.out
     have hany:Hid (pcs.any (fun q=>clashM q n)=false):=List.any_eq_false.2 (fun q hq=>by simp [HCl.out q hq])
     by_cases h0:n.a > 0
     ·have h0':0 < n.a:=h0
      cases ek with
      | true =>
       go_wp2
       go_ret
       exact ⟨ret_int (by rw [HRr.out,if_neg HA.out,if_neg (by simp)];simp [hany.out]),HBW.out⟩
      | false =>
       by_cases hB:B + n.b - n.a > 48
       ·have hB':48 < B + n.b - n.a:=hB
        go_wp2
        go_ret
        exact ⟨ret_int (by rw [HRr.out,if_neg HA.out,if_neg (by simp)];simp [hany.out,h0',hB']),HBW.out⟩
       ·have hB':¬ 48 < B + n.b - n.a:=hB
        go_wp2
        go_ret
        exact ⟨ret_int (by rw [HRr.out,if_neg HA.out,if_neg (by simp)];simp [hany.out];omega),HBW.out⟩
     ·have h0':¬ 0 < n.a:=h0
      go_wp2
      go_ret
      exact ⟨ret_int (by rw [HRr.out,if_neg HA.out,if_neg (by simp)];simp [hany.out];omega),HBW.out⟩
  ·go_wp2_with fail
   generalize hW4:w3.alloc _=w4
   have HX4:Hid (w4.heap[w3.heap.size]?=some (.cells #[.int .i64 E,.int .i64 P0,.int .i64 B] 98 (0,0))):=by rw [← hW4];exact heap_alloc_new _ _
   have HB4:Hid (Below w3.heap.size w3 w4):=by rw [← hW4];exact (Below.refl _ _).alloc (Nat.le_refl _) _
   have hz4:w4.heap.size=w3.heap.size + 1:=by rw [← hW4];simp
   have HD:=hide (And.intro dY dN)
   clear hW4 dN dY
   go_loopw [12] (fun i wr=>∃ j:Nat,j≤pcs.length∧i=.int .i64 j∧Hid (∀ q ∈ pcs.take j,clashM q n=false)∧Hid (Below w4.heap.size w4 wr)) (fun i _=>pcs.length - (intOf i).toNat)
   case atStart=>exact ⟨0,Nat.zero_le _,rfl,by intro q hq;simp at hq,Below.refl _ _⟩
   case round =>
    obtain ⟨j,hj,rfl,HCl,HBr⟩:=hrel
    have HB5:Hid (Below w3.heap.size w3 wr):=HB4.out.trans (HBr.out.mono (by omega))
    have HBW:Hid (Below w.heap.size w wr):=HB3.out.trans (HB5.out.mono (by omega))
    have HXr:Hid (wr.heap[w3.heap.size]?=some (.cells #[.int .i64 E,.int .i64 P0,.int .i64 B] 98 (0,0))):=(HBr.out.block _ (by omega)).trans HX4.out
    have hzr:w3.heap.size < wr.heap.size:=lt_of_block HXr.out
    have cN:∀ i,wr.cell? ⟨w.heap.size + 1,i,none⟩=#[.int .i64 n.seq,.int .i64 n.a,.int .i64 n.b,.bool n.ends,.bool n.waits][i]?:=fun i=>(HB5.out.cell (p:=⟨w.heap.size + 1,i,none⟩) (by simp;omega)).trans (HD.out.2 i)
    have cE:wr.cell? ⟨yb,5,none⟩=some (.slice (some ⟨g,0,none⟩) ES.length ec):=(HB5.out.cell (p:=⟨yb,5,none⟩) hy3).trans (HD.out.1 5)
    have f11:=(HB5.out.cell (p:=⟨g,k * 14 + 11,none⟩) hg3).trans HE.out.1
    have hn1:w.heap.size + 1 < wr.heap.size:=by omega
    have hyr:yb < wr.heap.size:=by omega
    have hgr:g < wr.heap.size:=by omega
    by_cases hlt:j < pcs.length
    ·obtain ⟨gp,q,hgq⟩:=own_some HRP.out (by omega)
     rw [Value.slice.injEq] at hgq
     obtain ⟨rfl,_,rfl⟩:=hgq
     have hN:=own_below' HRP.out (fun k hk=>(HRP.out.lt k hk).2) HBW.out
     have hgz:gp < wr.heap.size:=(hN.lt gp rfl).2
     obtain ⟨x,hr⟩:∃ x,pcs[j]?=some x:=⟨_,List.getElem?_eq_getElem hlt⟩
     have c0:wr.cell? ⟨gp,j * 5,none⟩=some (.int .i64 x.seq):=row_get Pc.cells Pc.len hN j x hr 0 _ rfl
     have c1:wr.cell? ⟨gp,j * 5 + 1,none⟩=some (.int .i64 x.a):=row_get Pc.cells Pc.len hN j x hr 1 _ rfl
     have c2:wr.cell? ⟨gp,j * 5 + 2,none⟩=some (.int .i64 x.b):=row_get Pc.cells Pc.len hN j x hr 2 _ rfl
     have c3:wr.cell? ⟨gp,j * 5 + 3,none⟩=some (.bool x.ends):=row_get Pc.cells Pc.len hN j x hr 3 _ rfl
     have c4:wr.cell? ⟨gp,j * 5 + 4,none⟩=some (.bool x.waits):=row_get Pc.cells Pc.len hN j x hr 4 _ rfl
     have HT:=hide (take_snoc pcs j x hr)
     have HM:=hide (List.mem_of_getElem? hr)
     have HCX:=hide (rclash_any x n)
     generalize hcx:clashM x n=cx at HCX
     have HC:=hide hcx
     clear hN hr hcx
     go_wp2_with fail
     go_region_held3 (fun w'=>w'.cell? ⟨yb,5,none⟩=some (.slice (some ⟨g,0,none⟩) ES.length ec)∧w'.cell? ⟨g,k * 14 + 11,none⟩=some (.slice (some ⟨gp,0,none⟩) pcs.length pc)∧w'.cell? ⟨gp,j * 5,none⟩=some (.int .i64 x.seq)∧w'.cell? ⟨gp,j * 5 + 1,none⟩=some (.int .i64 x.a)∧w'.cell? ⟨gp,j * 5 + 2,none⟩=some (.int .i64 x.b)∧w'.cell? ⟨gp,j * 5 + 3,none⟩=some (.bool x.ends)∧w'.cell? ⟨gp,j * 5 + 4,none⟩=some (.bool x.waits)∧w'.cell? ⟨w.heap.size + 1,0,none⟩=some (.int .i64 n.seq)∧w'.cell? ⟨w.heap.size + 1,1,none⟩=some (.int .i64 n.a)∧w'.cell? ⟨w.heap.size + 1,2,none⟩=some (.int .i64 n.b)∧w'.cell? ⟨w.heap.size + 1,3,none⟩=some (.bool n.ends)∧w'.cell? ⟨w.heap.size + 1,4,none⟩=some (.bool n.waits)) (go_keep) (first | (go_at_call 103;refine (HCX.out _).mono ?_;rintro e w' ⟨rfl,hb⟩;have k1:=fun i=>hb.cell (p:=⟨yb,i,none⟩) (by simp <;> omega);have k2:=fun i=>hb.cell (p:=⟨g,i,none⟩) (by simp <;> omega);have k3:=fun i=>hb.cell (p:=⟨gp,i,none⟩) (by simp <;> omega);have k4:=fun i=>hb.cell (p:=⟨w.heap.size + 1,i,none⟩) (by simp <;> omega);have HK:=hide hb;clear hb))
     have HBn:Hid (Below w4.heap.size w4 w'):=(HBr.out.drew).trans (HK.out.mono (by have:=HBr.out.size;simpa using this))
     have HBv:Hid (Below w.heap.size w w'):=HBW.out.trans ((((Below.refl _ _).drew).trans (HK.out.mono (by simp;omega))))
     rename_i hHeld
     clear k1 k2 k3 k4 HK hHeld c0 c1 c2 c3 c4 f11 cE cN
     cases cx with
     | true =>
      have hany:Hid (pcs.any (fun q=>clashM q n)=true):=List.any_eq_true.2 ⟨x,HM.out,HC.out⟩
      go_wp2
      go_ret
      exact ⟨ret_int (by rw [HRr.out,if_neg HA.out,if_neg (by simp)];simp [hany.out]),HBv.out⟩
     | false =>
      go_wp2
      go_roundw
      case rel =>
       refine ⟨j + 1,by omega,by go_num,?_,HBn.out⟩
       intro q hq
       rw [HT.out,List.mem_append,List.mem_singleton] at hq
       rcases hq with hq | rfl
       ·exact HCl.out q hq
       ·exact HC.out
      case measure=>simp [intOf];omega
    ·obtain rfl:j=pcs.length:=by omega
     rw [List.take_length] at HCl
     have dX:=arr_cell HXr.out
     have hany:Hid (pcs.any (fun q=>clashM q n)=false):=List.any_eq_false.2 (fun q hq=>by simp [HCl.out q hq])
     by_cases h0:n.a > 0
     ·have h0':0 < n.a:=h0
      cases ek with
      | true =>
       go_wp2
       go_ret
       exact ⟨ret_int (by rw [HRr.out,if_neg HA.out,if_neg (by simp)];simp [hany.out]),HBW.out⟩
      | false =>
       by_cases hB:B + n.b - n.a > 48
       ·have hB':48 < B + n.b - n.a:=hB
        go_wp2
        go_ret
        exact ⟨ret_int (by rw [HRr.out,if_neg HA.out,if_neg (by simp)];simp [hany.out,h0',hB']),HBW.out⟩
       ·have hB':¬ 48 < B + n.b - n.a:=hB
        go_wp2
        go_ret
        exact ⟨ret_int (by rw [HRr.out,if_neg HA.out,if_neg (by simp)];simp [hany.out];omega),HBW.out⟩
     ·have h0':¬ 0 < n.a:=h0
      go_wp2
      go_ret
      exact ⟨ret_int (by rw [HRr.out,if_neg HA.out,if_neg (by simp)];simp [hany.out];omega),HBW.out⟩
def setL (xs:List Value):Nat→List Value→List Value
 | _,[]=>xs
 | a,v :: vs=>setL (xs.set a v) (a + 1) vs
def stL (w:World) (g:Nat):Nat→List Value→World
 | _,[]=>w
 | a,v :: vs=>stL (w.setCell ⟨g,a,none⟩ v) g (a + 1) vs
theorem setL_eq (xs:List Value) (a:Nat) (vs:List Value) (h:a + vs.length≤xs.length):setL xs a vs=xs.take a ++ vs ++ xs.drop (a + vs.length):=by
 induction vs generalizing xs a with
 | nil=>simp [setL]
 | cons v vs ih =>
  rw [List.length_cons] at h
  rw [setL,ih (xs.set a v) (a + 1) (by rw [List.length_set];omega)]
  have h1:(xs.set a v).take (a + 1)=xs.take a ++ [v]:=by
   rw [List.take_add_one,List.take_set_of_le (Nat.le_refl _),List.getElem?_set_self (by omega)]
   rfl
  have h2:(xs.set a v).drop (a + 1 + vs.length)=xs.drop (a + (v :: vs).length):=by
   rw [List.drop_set_of_lt (by omega),List.length_cons,show a + 1 + vs.length=a + (vs.length + 1) from by omega]
  rw [h1,h2]
  simp
theorem stL_own {w:World} {base g n cap s:Nat} {e:TypeId} {xs:List Value} (h:w.ownsRow base e s (.slice (some ⟨g,0,none⟩) n cap) n xs) (a:Nat) (vs:List Value):(stL w g a vs).ownsRow base e s (.slice (some ⟨g,0,none⟩) n cap) n (setL xs a vs):=by
 induction vs generalizing w a xs with
 | nil=>exact h
 | cons v vs ih=>exact ih (h.stored a v).1 (a + 1)
theorem stL_only (w:World) (g a:Nat) (vs:List Value):Only (fun q=>q=g) w (stL w g a vs):=by
 induction vs generalizing w a with
 | nil=>exact Only.refl _ _
 | cons v vs ih=>exact ((Only.refl _ _).setB v).trans (ih (w.setCell ⟨g,a,none⟩ v) (a + 1)) (fun _ _ h=>h)
theorem gone_set (l:List Ent) (k:Nat) (e:Ent):goneM (l.set k e) k=goneM l k:=by
 unfold goneM
 rw [List.take_set_of_le (Nat.le_refl _),List.drop_set_of_lt (by omega)]
theorem ref_put {w:World} {yb:Nat} {S:Cl} {F:Nat→Prop} {vS vN vV:Value} {g c:Nat} {ES:List RE} {NS:List RN} (h:RefIs w yb S F vS (.slice (some ⟨g,0,none⟩) ES.length c) vN vV ES NS) (K:Nat) (r r2:RE) (hK:ES[K]?=some r) (hrow:w.ownsRow 0 130 5 r2.pv r2.e.pcs.length (r2.e.pcs.flatMap Pc.cells)) (hdv:∃ ao n cap,r2.dv=.slice ao n cap) :
  RefIs (stL w g (K * 14) r2.cells) yb { S with ents:=S.ents.set K r2.e } (fun k=>F k∨r2.pv.ownBlock=some k) vS (.slice (some ⟨g,0,none⟩) (ES.set K r2).length c) vN vV (ES.set K r2) NS∧Only (fun q=>q=g) w (stL w g (K * 14) r2.cells):=by
 have hl:K < ES.length:=(List.getElem?_eq_some_iff.1 hK).1
 have ho:=stL_only w g (K * 14) r2.cells
 have hE:=stL_own h.rE (K * 14) r2.cells
 have hcells:setL (ES.flatMap RE.cells) (K * 14) r2.cells=(ES.set K r2).flatMap RE.cells:=by
  rw [setL_eq _ _ _ (by rw [flat_length RE.cells 14 RE.len,RE.len];omega),flat_set_cells RE.cells 14 RE.len ES K r r2 hK,RE.len]
 rw [hcells] at hE
 have hn:∀ {u:Value} {e:TypeId} {s k:Nat} {ys:List Value},w.ownsRow 0 e s u k ys→e ≠ 128→∀ q,u.ownBlock=some q→¬ q=g:=by
  intro u e s k ys hu hne q hq hqg
  subst hqg
  exact own_apart' hu h.rE hne hq rfl
 have hyg:¬ yb=g:=fun hh=>own_apart_blk h.rE h.blk (by decide) (by rw [hh];rfl)
 have mem:∀ r' ∈ ES.set K r2,r' ∈ ES∨r'=r2:=fun r' hr=>List.mem_or_eq_of_mem_set hr
 refine ⟨⟨by rw [List.length_set];exact (ho.block yb h.lt hyg).trans h.blk,?_,h.hns,own_only h.rS ho (hn h.rS (by decide)),?_,own_only h.rN ho (hn h.rN (by decide)),own_only h.rV ho (hn h.rV (by decide)),?_,.inl h.fy,fun q hq=>.inl (h.fS q hq),fun q hq=>.inl (h.fE q (by simpa [Value.ownBlock] using hq)),fun q hq=>.inl (h.fN q hq),fun q hq=>.inl (h.fV q hq),?_,?_,?_,h.rawN⟩,ho⟩
 ·rw [List.map_set,h.hes]
 ·rw [List.length_set];exact hE
 ·intro r' hr
  rcases mem r' hr with h1 | rfl
  ·exact own_only (h.rP r' h1) ho (hn (h.rP r' h1) (by decide))
  ·exact own_only hrow ho (hn hrow (by decide))
 ·intro r' hr q hq
  rcases mem r' hr with h1 | rfl
  ·exact .inl (h.fP r' h1 q hq)
  ·exact .inr hq
 ·intro k hk
  rcases hk with hk | hk
  ·exact Nat.lt_of_lt_of_le (h.flt k hk) ho.size
  ·exact Nat.lt_of_lt_of_le (hrow.lt k hk).2 ho.size
 ·intro r' hr
  rcases mem r' hr with h1 | rfl
  ·exact h.raw r' h1
  ·exact hdv
theorem cells_at {w:World} {b:Nat} {xs:List Value} {t:TypeId} (h:w.heap[b]?=some (.cells xs.toArray t (0,0))):∀ j u,xs[j]?=some u→w.cell? ((⟨b,0,none⟩:Addr).add j)=some u:=by
 intro j u hu
 rw [show (⟨b,0,none⟩:Addr).add j=⟨b,j,none⟩ from by cases j <;> simp [Addr.add]]
 rw [arr_cell h]
 simpa using hu
theorem cells_new2 (w:World) (a:Obj) (xs:List Value) (t:TypeId):∀ j u,xs[j]?=some u→((w.alloc a).alloc (.cells xs.toArray t)).cell? ((⟨w.heap.size + 1,0,none⟩:Addr).add j)=some u:=cells_at (heap_new2 _ _ _)
theorem cells_newS (w:World) (a:Addr) (v:Value) (xs:List Value) (t:TypeId):∀ j u,xs[j]?=some u→((w.setCell a v).alloc (.cells xs.toArray t)).cell? ((⟨w.heap.size,0,none⟩:Addr).add j)=some u:=by
 refine cells_at (t:=t) ?_
 have:=heap_alloc_new (w.setCell a v) (.cells xs.toArray t)
 rwa [show (w.setCell a v).heap.size=w.heap.size from by simp] at this
theorem own_cells31 {w:World} {v:Value} {T:List Int} (h:w.ownsRow 0 5 1 v T.length (T.map (Value.int .u8))) (hT:T.length=31):∃ gs cs,v=.slice (some ⟨gs,0,none⟩) 31 cs∧gs < w.heap.size∧∀ j,j < 31→w.cell? ⟨gs,j,none⟩=some (.int .u8 (T.getD j 0)):=by
 obtain ⟨gs,cs,hv⟩:=own_some h (by omega)
 rw [hT] at hv
 subst hv
 refine ⟨gs,cs,rfl,(h.lt gs rfl).2,fun j hj=>?_⟩
 rw [hT] at h
 rw [h.cellAt j (by omega),List.getElem?_map,List.getElem?_eq_getElem (by omega),List.getD_eq_getElem?_getD,List.getElem?_eq_getElem (by omega)]
 rfl
theorem pcs_map (l:List Pc) (f:Pc→Pc) (hf:∀ q,(f q).a=q.a∧(f q).b=q.b) (h:∀ q ∈ l,0≤q.a∧q.a≤q.b∧q.b≤92):∀ q ∈ l.map f,0≤q.a∧q.a≤q.b∧q.b≤92:=by
 intro q hq
 obtain ⟨x,hx,rfl⟩:=List.mem_map.1 hq
 rw [(hf x).1,(hf x).2]
 exact h x hx
end Go.Proofs.YtajphdppmdoalaaGreat
