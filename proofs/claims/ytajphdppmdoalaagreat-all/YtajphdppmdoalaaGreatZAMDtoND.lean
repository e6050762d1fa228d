import Derived.Test.YtajphdppmdoalaaGreatZAMAtoMC
import Derived.Test.YtajphdppmdoalaaGreatZAJ1toLM
import Derived.Deep.AppendLies
import Derived.Deep.RegionLaw
set_option maxRecDepth 100000
set_option maxHeartbeats 6400000
set_option linter.unusedVariables false
namespace Go.Proofs.YtajphdppmdoalaaGreat
open Go.RowKit
theorem rtold_any (yb:Nat) (S:Cl) (F:Nat→Prop) (vS vE vN vV:Value) (ES:List RE) (NS:List RN) (seq:Nat) (f whr:Int) (w:World) (h:RefIs w yb S F vS vE vN vV ES NS) (hn:S.evs.length≤2000000000000) :
  Calls Tryz.prog 75 #[.pointer (some ⟨yb,0,none⟩),.int .i64 seq,.int .u8 f,.int .u8 whr] w fun e w'=>e=.returned (.tuple #[])∧∃ F' vV',RefIs w' yb (toldM S seq f whr) F' vS vE vN vV' ES NS∧Stp w w' F F':=by
 obtain ⟨i0,hi,hz0,hz1,hz2⟩:=info_parts Tryz.infoEv
 have HH:=hide h
 have hyb:=h.lt
 have cV:w.cell? ⟨yb,7,none⟩=some vV:=arr_cell h.blk 7
 have cF:∀ j,w.frozen? ⟨yb,j,none⟩=false:=fun j=>arr_frozen h.blk j
 clear h
 go_enter Tryz.func75,Tryz.ntmps75
 go_wp2_with (at_builtin;refine wpList_append_at _ rfl (.tmp 12) (.tmp 17) 57 rfl 60 i0 _ 3 16 Tryz.underlying57 hi hz0 hz1 hz2 rfl (by decide) _ _ _ rfl (HH.out.rV.alloc _) ⟨w.heap.size,0,none⟩ 1 1 (by decide) [.int .i64 seq,.int .u8 f,.int .u8 whr] rfl rfl (cells_new _ _ _) (by simp [Value.oneCell']) (by unfold maxLen;omega) (by omega) ?_)
 intro g c w2 hown hgrow hwhere hkeep
 have ho:Only (fun k=>vV.ownBlock=some k) w w2:=((Only.refl _ _).alloc _).grown hgrow (fun k _ hk=>hk)
 have hev:S.evs.flatMap Ev.cells ++ [.int .i64 seq,.int .u8 f,.int .u8 whr]=(S.evs ++ [(⟨seq,f,whr⟩:Ev)]).flatMap Ev.cells:=by simp [Ev.cells]
 rw [hev] at hown
 have R:=HH.out.setV ho (S.evs ++ [⟨seq,f,whr⟩]) _ (by rw [List.length_append];exact hown) (by
  intro q hq
  simp only [Value.ownBlock,Option.some.injEq] at hq
  subst hq
  rcases hwhere with h1 | h1
  ·exact .inl h1
  ·exact .inr (by have:w.heap.size≤(w.alloc (.cells #[.int .i64 seq,.int .u8 f,.int .u8 whr] 60)).heap.size:=(by simp);omega))
 have HR:=hide R
 have hyb2:yb < w2.heap.size:=Nat.lt_of_lt_of_le hyb ho.size
 have cF2:∀ j,w2.frozen? ⟨yb,j,none⟩=false:=fun j=>arr_frozen ((ho.block yb hyb (own_apart_blk HH.out.rV HH.out.blk (by decide))).trans HH.out.blk) j
 have cV2:w2.cell? ⟨yb,7,none⟩=some vV:=by rw [ho.cell (p:=⟨yb,7,none⟩) hyb (own_apart_blk HH.out.rV HH.out.blk (by decide))];exact cV
 clear R hown hgrow hkeep hwhere hev ho
 go_wp2
 go_end0
 exact ⟨rfl,_,_,HR.out⟩
theorem RefIs.taken {w:World} {yb:Nat} {S:Cl} {F:Nat→Prop} {vS vE vN vV:Value} {ES:List RE} {NS:List RN} (h:RefIs w yb S F vS vE vN vV ES NS) :
  RefIs (w.setCell ⟨yb,7,none⟩ (.slice none 0 0)) yb (takeM S) (fun k=>F k∧vV.ownBlock ≠ some k) vS vE vN (.slice none 0 0) ES NS∧Stp w (w.setCell ⟨yb,7,none⟩ (.slice none 0 0)) F (fun k=>F k∧vV.ownBlock ≠ some k)∧(w.setCell ⟨yb,7,none⟩ (.slice none 0 0)).ownsRow 0 60 3 vV S.evs.length (S.evs.flatMap Ev.cells):=by
 obtain ⟨h1,h2⟩:=h.setV (Only.refl _ _) [] (.slice none 0 0) (World.ownsRow_nil _ _ _ _) (by simp [Value.ownBlock])
 have hyV:vV.ownBlock ≠ some yb:=own_apart_blk h.rV h.blk (by decide)
 refine ⟨⟨h1.blk,h1.hes,h1.hns,h1.rS,h1.rE,h1.rN,h1.rV,h1.rP,⟨h.fy,hyV⟩,fun g hg=>⟨h.fS g hg,own_apart' h.rS h.rV (by decide) hg⟩,fun g hg=>⟨h.fE g hg,own_apart' h.rE h.rV (by decide) hg⟩,fun g hg=>⟨h.fN g hg,own_apart' h.rN h.rV (by decide) hg⟩,by simp [Value.ownBlock],fun r hr g hg=>⟨h.fP r hr g hg,own_apart' (h.rP r hr) h.rV (by decide) hg⟩,fun k hk=>h1.flt k (.inl hk.1),h1.raw,h1.rawN⟩,⟨h2.only,fun k hk=>.inl hk.1⟩,own_set' h.rV h.blk (by decide) _⟩
theorem rtake_any (yb:Nat) (S:Cl) (F:Nat→Prop) (vS vE vN vV:Value) (ES:List RE) (NS:List RN) (w:World) (h:RefIs w yb S F vS vE vN vV ES NS) :
  Calls Tryz.prog 43 #[.pointer (some ⟨yb,0,none⟩)] w fun e w'=>e=.returned vV∧∃ F',RefIs w' yb (takeM S) F' vS vE vN (.slice none 0 0) ES NS∧Stp w w' F F'∧w'.ownsRow 0 60 3 vV S.evs.length (S.evs.flatMap Ev.cells)∧(∀ g,vV.ownBlock=some g→F g∧¬ F' g):=by
 have HH:=hide h
 have HT:=hide h.taken
 have hyb:=h.lt
 have cV:w.cell? ⟨yb,7,none⟩=some vV:=arr_cell h.blk 7
 have cF:∀ j,w.frozen? ⟨yb,j,none⟩=false:=fun j=>arr_frozen h.blk j
 clear h
 go_enter Tryz.func43,Tryz.ntmps43
 go_wp2
 go_ret
 exact ⟨rfl,_,HT.out.1,HT.out.2.1,HT.out.2.2,fun g hg=>⟨HH.out.fV g hg,fun hk=>hk.2 hg⟩⟩
theorem rflying_any (yb:Nat) (S:Cl) (F:Nat→Prop) (vS vE vN vV:Value) (ES:List RE) (NS:List RN) (w:World) (h:RefIs w yb S F vS vE vN vV ES NS) (hn:S.sent.length≤2000000000000) :
  Calls Tryz.prog 46 #[.pointer (some ⟨yb,0,none⟩)] w fun e w'=>∃ v,e=.returned v∧w'.ownsRow w.heap.size 64 3 v S.sent.length (S.sent.flatMap Snt.fly)∧Below w.heap.size w w':=by
 obtain ⟨i0,hi,hz0,hz1,hz2⟩:=info_parts Tryz.infoFl
 have HI:=hide (And.intro hi (And.intro hz0 (And.intro hz1 hz2)))
 clear hi hz0 hz1 hz2
 have HH:=hide h
 have hyb:=h.lt
 have hl:S.sent.length=NS.length:=by rw [← h.hns,List.length_map]
 have HL:=hide hl
 have HNS:=hide h.hns
 rw [hl] at hn
 obtain ⟨ao,cap,hvN⟩:=own_slice h.rN
 clear h hl
 go_enter Tryz.func46,Tryz.ntmps46
 go_wp2_with fail
 go_loopw [4,3] (fun i l wr=>∃ j:Nat,j≤NS.length∧i=.int .i64 j∧Hid (wr.ownsRow w.heap.size 64 3 l j ((S.sent.take j).flatMap Snt.fly))∧Hid (Below w.heap.size w wr)) (fun i _ _=>NS.length - (intOf i).toNat)
 case atStart=>exact ⟨0,Nat.zero_le _,rfl,World.ownsRow_nil _ _ _ _,Below.refl _ _⟩
 case round =>
  obtain ⟨j,hj,rfl,HO,HB⟩:=hrel
  have cN:wr.cell? ⟨yb,6,none⟩=some (.slice ao NS.length cap):=by rw [← hvN];exact arr_cell (HH.out.below HB.out).blk 6
  have hyr:yb < wr.heap.size:=Nat.lt_of_lt_of_le hyb HB.out.size
  by_cases hlt:j < NS.length
  ·obtain ⟨g,q,hgq⟩:=own_some HH.out.rN (by omega)
   rw [hvN,Value.slice.injEq] at hgq
   obtain ⟨rfl,_,rfl⟩:=hgq
   have hN:=(HH.out.below HB.out).rN
   rw [hvN] at hN
   have hgz:g < wr.heap.size:=(hN.lt g rfl).2
   have hr:NS[j]?=some NS[j]:=List.getElem?_eq_getElem hlt
   generalize hre:NS[j]=r at hr
   have c0:wr.cell? ⟨g,j * 12,none⟩=_:=row_get RN.cells RN.len hN j r hr 0 _ rfl
   have c1:=row_get RN.cells RN.len hN j r hr 1 _ rfl
   have c2:=row_get RN.cells RN.len hN j r hr 2 _ rfl
   have hs:S.sent[j]?=some r.s:=by rw [← HNS.out,List.getElem?_map,hr];rfl
   have hst:(S.sent.take (j + 1)).flatMap Snt.fly=(S.sent.take j).flatMap Snt.fly ++ [.int .i64 r.s.seq,.int .i64 r.s.frm,.int .i64 r.s.to]:=by rw [List.take_add_one,hs];simp [Snt.fly]
   have HST:=hide hst
   have hsz:w.heap.size≤wr.heap.size:=HB.out.size
   obtain ⟨hi,hz0,hz1,hz2⟩:=HI.out
   clear hre hs hst hN hr
   go_wp2_with (at_builtin;refine wpList_append_own _ rfl (.tmp 14) (.tmp 23) 62 rfl w.heap.size 64 i0 _ 3 24 Tryz.underlying62 hi hz0 hz1 hz2 rfl (by decide) _ _ _ rfl (HO.out.alloc _) ⟨wr.heap.size,0,none⟩ 1 1 [.int .i64 r.s.seq,.int .i64 r.s.frm,.int .i64 r.s.to] rfl rfl (cells_new _ _ _) (by simp [Value.oneCell']) (by unfold maxLen;omega) (by omega) (by simp;omega) ?_)
   intro v2 w2 hown hgrow hiff
   rw [← HST.out] at hown
   have HO2:=hide hown
   have HB2:Hid (Below w.heap.size w w2):=(HB.out.alloc hsz _).grown hgrow (by simp;omega) (fun k hk=>(HO.out.lt k hk).1)
   clear hown hgrow hiff
   go_wp2
   go_roundw
   case rel=>exact ⟨j + 1,by omega,by go_num,HO2.out,HB2.out⟩
   case measure=>simp [intOf];omega
  ·obtain rfl:j=NS.length:=by omega
   have htk:S.sent.take NS.length=S.sent:=List.take_of_length_le (by rw [HL.out];exact Nat.le_refl _)
   rw [htk] at HO
   go_wp2
   go_ret
   exact ⟨_,rfl,by rw [HL.out];exact HO.out,HB.out⟩
theorem own_below' {w w':World} {B base k s:Nat} {e:TypeId} {u:Value} {ys:List Value} (h:w.ownsRow base e s u k ys) (hu:∀ g,u.ownBlock=some g→g < B) (hb:Below B w w'):w'.ownsRow base e s u k ys:=by
 refine ⟨h.1,?_⟩
 rcases h.2 with h2 | ⟨g,cap,cur,hv,hbs,hh,r⟩
 ·exact .inl h2
 ·exact .inr ⟨g,cap,cur,hv,hbs,(hb.block g (hu g (by rw [hv];rfl))).trans hh,r⟩
def endL (l:List Pc):Int:=((l.filter (·.ends)).getLast?.map (·.b)).getD (-1)
theorem endL_snoc (l:List Pc) (q:Pc):endL (l ++ [q])=if q.ends then q.b else endL l:=by
 unfold endL
 rw [List.filter_append]
 cases hq:q.ends with
 | true=>simp [hq]
 | false=>simp [hq]
theorem bytesL_snoc (l:List Pc) (q:Pc):bytesL (l ++ [q])=bytesL l + q.b - q.a:=by
 unfold bytesL
 rw [List.map_append,List.sum_append]
 simp
 omega
theorem take_snoc {α:Type} (l:List α) (j:Nat) (q:α) (h:l[j]?=some q):l.take (j + 1)=l.take j ++ [q]:=by
 rw [List.take_add_one,h]
 rfl
theorem bytesL_bd (l:List Pc) (h:∀ q ∈ l,0≤q.a∧q.a≤q.b∧q.b≤92):0≤bytesL l∧bytesL l≤92 * l.length:=by
 induction l with
 | nil=>simp [bytesL]
 | cons q l ih =>
  have h1:=h q List.mem_cons_self
  have h2:=ih (fun r hr=>h r (List.mem_cons_of_mem _ hr))
  simp only [bytesL,List.map_cons,List.sum_cons,List.length_cons] at *
  omega
theorem bytesL_take (l:List Pc) (j:Nat) (h:∀ q ∈ l,0≤q.a∧q.a≤q.b∧q.b≤92) (hl:l.length≤1000):0≤bytesL (l.take j)∧bytesL (l.take j)≤92000:=by
 have h1:=bytesL_bd (l.take j) (fun q hq=>h q (List.mem_of_mem_take hq))
 have h2:(l.take j).length≤1000:=by rw [List.length_take];omega
 omega
theorem rwhole_any (r:RE) (w:World) (hP:w.ownsRow 0 130 5 r.pv r.e.pcs.length (r.e.pcs.flatMap Pc.cells)) (hq:∀ q ∈ r.e.pcs,0≤q.a∧q.a≤q.b∧q.b≤92) (hl:r.e.pcs.length≤1000) :
  Calls Tryz.prog 97 #[.agg #[.int .i64 r.e.owner,.int .u16 r.e.src,.int .u16 r.e.dst,.int .u8 r.e.proto,.int .u16 r.e.id,.int .u8 r.off,.bool r.more,.int .u16 r.sport,.int .u16 r.dport,r.dv,.int .i64 r.e.born,r.pv,.bool r.e.known,.int .u8 r.e.to]] w fun e w'=>e=.returned (.bool (wholeM r.e))∧Below w.heap.size w w':=by
 have HP:=hide hP
 have HQ:=hide hq
 obtain ⟨ao,cap,hpv⟩:=own_slice hP
 have hwh:wholeM r.e=(bytesL r.e.pcs == endL r.e.pcs):=rfl
 rw [hwh]
 clear hP hq hwh
 generalize r.e.pcs=l at *
 obtain ⟨re,roff,rmore,rsport,rdport,rdv,rpv⟩:=r
 simp only at *
 subst hpv
 go_enter Tryz.func97,Tryz.ntmps97
 go_wp2_with fail
 generalize hWW:(w.alloc _)=w1
 have hz1':w1.heap.size=w.heap.size + 1:=by rw [← hWW];simp
 have HB0:Hid (Below w.heap.size w w1):=by rw [← hWW];exact (Below.refl _ _).alloc (Nat.le_refl _) _
 have c11:w1.cell? ⟨w.heap.size,11,none⟩=some (.slice ao l.length cap):=by rw [← hWW];exact box_cell (Below.refl _ _) 11
 have HC:=hide c11
 clear hWW c11
 go_loopw [5,4,3] (fun i n en wr=>∃ j:Nat,j≤l.length∧i=.int .i64 j∧n=.int .i64 (bytesL (l.take j))∧en=.int .i64 (endL (l.take j))∧Hid (Below (w.heap.size + 1) w1 wr)) (fun i _ _ _=>l.length - (intOf i).toNat)
 case atStart=>exact ⟨0,Nat.zero_le _,rfl,rfl,rfl,Below.refl _ _⟩
 case round =>
  obtain ⟨j,hj,rfl,rfl,rfl,HB⟩:=hrel
  have cN:wr.cell? ⟨w.heap.size,11,none⟩=some (.slice ao l.length cap):=(HB.out.cell (p:=⟨w.heap.size,11,none⟩) (by simp)).trans HC.out
  have hyr:w.heap.size < wr.heap.size:=by have:=HB.out.size;omega
  by_cases hlt:j < l.length
  ·obtain ⟨g,q,hgq⟩:=own_some HP.out (by omega)
   rw [Value.slice.injEq] at hgq
   obtain ⟨rfl,_,rfl⟩:=hgq
   have hN:=own_below' (own_below' HP.out (fun k hk=>(HP.out.lt k hk).2) HB0.out) (fun k hk=>by have:=(HP.out.lt k hk).2;omega) HB.out
   have hgz:g < wr.heap.size:=(hN.lt g rfl).2
   obtain ⟨q,hr⟩:∃ q,l[j]?=some q:=⟨_,List.getElem?_eq_getElem hlt⟩
   have c1:=row_get Pc.cells Pc.len hN j q hr 1 _ rfl
   have c2:=row_get Pc.cells Pc.len hN j q hr 2 _ rfl
   have c3:=row_get Pc.cells Pc.len hN j q hr 3 _ rfl
   have HT:=hide (take_snoc l j q hr)
   have hbd:=bytesL_take l j HQ.out hl
   have hqb:=HQ.out q (List.mem_of_getElem? hr)
   generalize hN0:bytesL (l.take j)=N at *
   generalize hE0:endL (l.take j)=E at *
   have HN0:=hide hN0
   have HE0:=hide hE0
   obtain ⟨qs,qa,qb,qe,qw⟩:=q
   simp only at hqb
   clear hN hr hN0 hE0
   cases qe with
   | true =>
    go_wp2_with fail
    go_region
    go_wp2
    go_roundw
    case rel=>exact ⟨j + 1,by omega,by go_num,by rw [HT.out,bytesL_snoc,HN0.out],by rw [HT.out,endL_snoc];rfl,HB.out.drew⟩
    case measure=>simp [intOf];omega
   | false =>
    go_wp2_with fail
    go_region
    go_wp2
    go_roundw
    case rel=>exact ⟨j + 1,by omega,by go_num,by rw [HT.out,bytesL_snoc,HN0.out],by rw [HT.out,endL_snoc,HE0.out];rfl,HB.out.drew⟩
    case measure=>simp [intOf];omega
  ·obtain rfl:j=l.length:=by omega
   rw [List.take_length]
   go_wp2
   go_ret
   exact ⟨rfl,(HB0.out.trans (HB.out.mono (by omega)))⟩
def Pk.pc (p:Pk):Value:=.agg #[.int .u16 p.src,.int .u16 p.dst,.int .u8 p.proto,.int .u16 p.id,.int .u8 p.off,.bool p.more,.int .u16 p.sport,.int .u16 p.dport,.slice none 0 0,.int .i64 p.dlen]
theorem pof_any (src dst proto id off:Int) (more:Bool) (sport dport:Int) (ao:Option Addr) (n cap:Nat) (w:World) (hn:n≤1000) :
  Calls Tryz.prog 94 #[.agg #[.int .u16 src,.int .u16 dst,.int .u8 proto,.int .u16 id,.int .u8 off,.bool more,.int .u16 sport,.int .u16 dport,.slice ao n cap]] w fun e w'=>e=.returned (.agg #[.int .u16 src,.int .u16 dst,.int .u8 proto,.int .u16 id,.int .u8 off,.bool more,.int .u16 sport,.int .u16 dport,.slice none 0 0,.int .i64 n])∧Below w.heap.size w w':=by
 go_enter Tryz.func94,Tryz.ntmps94
 go_wp2
 refine bodyPost_ret (v:=.agg #[.int .u16 src,.int .u16 dst,.int .u8 proto,.int .u16 id,.int .u8 off,.bool more,.int .u16 sport,.int .u16 dport,.slice none 0 0,.int .i64 n]) ?_ rfl ⟨rfl,((Below.refl _ _).alloc (Nat.le_refl _) _).alloc (by simp) _⟩
 go_light
 simp [results,Tryz.results94,go_sem]
theorem pbytes_any (p:Pk) (w:World) (h0:0≤p.off) (h1:p.off≤255) (hn:p.dlen≤1000) :
  Calls Tryz.prog 112 #[p.pc] w fun e w'=>e=.returned (.agg #[.int .i64 (p.off * 4),.int .i64 (p.off * 4 + p.dlen)])∧Below w.heap.size w w':=by
 obtain ⟨src,dst,proto,id,off,more,sport,dport,n⟩:=p
 unfold Pk.pc
 simp only at *
 go_enter Tryz.func112,Tryz.ntmps112
 go_wp2
 refine bodyPost_ret (v:=.agg #[.int .i64 (off * 4),.int .i64 (off * 4 + n)]) ?_ rfl ⟨rfl,((Below.refl _ _).alloc (Nat.le_refl _) _).alloc (by simp) _⟩
 go_light
 simp [results,Tryz.results112,go_sem]
theorem pdatagram_any (p:Pk) (w:World) :
  Calls Tryz.prog 104 #[p.pc] w fun e w'=>e=.returned (.agg #[.int .u16 p.src,.int .u16 p.dst,.int .u8 p.proto,.int .u16 p.id])∧Below w.heap.size w w':=by
 obtain ⟨src,dst,proto,id,off,more,sport,dport,n⟩:=p
 unfold Pk.pc
 simp only
 go_enter Tryz.func104,Tryz.ntmps104
 go_wp2
 refine bodyPost_ret (v:=.agg #[.int .u16 src,.int .u16 dst,.int .u8 proto,.int .u16 id]) ?_ rfl ⟨rfl,((Below.refl _ _).alloc (Nat.le_refl _) _).alloc (by simp) _⟩
 go_light
 simp [results,Tryz.results104,go_sem]
theorem pmeets_any (a b c d:Int) (w:World) :
  Calls Tryz.prog 114 #[.agg #[.int .i64 a,.int .i64 b],.agg #[.int .i64 c,.int .i64 d]] w fun e w'=>e=.returned (.bool (decide (a < d) && decide (c < b)))∧Below w.heap.size w w':=by
 go_enter Tryz.func114,Tryz.ntmps114
 by_cases h1:a < d
 ·go_wp2
  all_goals go_ret
  all_goals exact ⟨by simp_all;try omega,((Below.refl _ _).alloc (Nat.le_refl _) _).alloc (by simp) _⟩
 ·go_wp2
  all_goals go_ret
  all_goals exact ⟨by simp_all;try omega,((Below.refl _ _).alloc (Nat.le_refl _) _).alloc (by simp) _⟩
def Pk.box (p:Pk):Obj:=.cells #[.int .u16 p.src,.int .u16 p.dst,.int .u8 p.proto,.int .u16 p.id,.int .u8 p.off,.bool p.more,.int .u16 p.sport,.int .u16 p.dport,.slice none 0 0,.int .i64 p.dlen] 112
theorem plast_eq (p:Pk) (w:World) :
  Calls Tryz.prog 113 #[p.pc] w fun e w'=>e=.returned (.bool (!p.more))∧w'=w.alloc p.box:=by
 obtain ⟨src,dst,proto,id,off,more,sport,dport,n⟩:=p
 unfold Pk.pc Pk.box
 simp only
 go_enter Tryz.func113,Tryz.ntmps113
 go_wp2
 go_ret
 exact ⟨rfl,rfl⟩
theorem pfirst_eq (p:Pk) (w:World) :
  Calls Tryz.prog 110 #[p.pc] w fun e w'=>e=.returned (.bool (p.off == 0))∧w'=w.alloc p.box:=by
 obtain ⟨src,dst,proto,id,off,more,sport,dport,n⟩:=p
 unfold Pk.pc Pk.box
 simp only
 go_enter Tryz.func110,Tryz.ntmps110
 go_wp2
 go_ret
 exact ⟨rfl,rfl⟩
theorem news2 (w:World) (a:Obj) (xs:List Value) (t:TypeId):∀ j u,xs[j]?=some u→((w.alloc a).alloc (.cells xs.toArray t)).cell? ((⟨w.heap.size + 1,0,none⟩:Addr).add j)=some u:=by
 have:=cells_new (w.alloc a) xs t
 rwa [World.size_alloc] at this
theorem Only.setG {g:Nat} {a w:World} (h:Only (fun k=>k=g) a w) {j:Nat} {v:Value}:Only (fun k=>k=g) a (w.setCell ⟨g,j,none⟩ v):=h.setCell (fun _=>rfl) v
def endO (l:List Pc):Option Int:=(l.filter (·.ends)).getLast?.map (·.b)
def Pc.span (q:Pc):List Value:=[.int .i64 q.a,.int .i64 q.b]
def Pc.wtg (q:Pc):List Value:=[.int .i64 q.seq,.int .i64 (q.b - q.a)]
theorem Pc.span_len (q:Pc):q.span.length=2:=rfl
theorem Pc.wtg_len (q:Pc):q.wtg.length=2:=rfl
def PcB (l:List Pc):Prop:=l.length≤1000∧∀ q ∈ l,0≤q.a∧q.a≤q.b∧q.b≤92
theorem complete_any (g o:Nat) (l:List Pc) (sv:Value) (w:World) (hg:g < w.heap.size) (c5:w.cell? ⟨g,o + 5,none⟩=some sv) (c6:w.cell? ⟨g,o + 6,none⟩=some (.bool (endO l).isSome)) (c7:w.cell? ⟨g,o + 7,none⟩=some (.int .i64 ((endO l).getD 0)))
  (hS:w.ownsRow 0 165 2 sv l.length (l.flatMap Pc.span)) (hb:PcB l) :
  Calls Tryz.prog 108 #[.pointer (some ⟨g,o,none⟩)] w fun e w'=>e=.returned (.bool ((endO l).isSome && (bytesL l == (endO l).getD 0)))∧Below w.heap.size w w':=by
 obtain ⟨ao,cap,rfl⟩:=own_slice hS
 have HP:=hide hS
 have HQ:=hide hb
 have hl:l.length≤1000:=hb.1
 have HC6:=hide c6
 have HC7:=hide c7
 clear hS hb c6 c7
 go_enter Tryz.func108,Tryz.ntmps108
 go_wp2_with fail
 go_loopw [11,3] (fun i n wr=>∃ j:Nat,j≤l.length∧i=.int .i64 j∧n=.int .i64 (bytesL (l.take j))∧Hid (Below w.heap.size w wr)) (fun i _ _=>l.length - (intOf i).toNat)
 case atStart=>exact ⟨0,Nat.zero_le _,rfl,rfl,Below.refl _ _⟩
 case round =>
  obtain ⟨j,hj,rfl,rfl,HB⟩:=hrel
  by_cases hlt:j < l.length
  ·obtain ⟨gs,q,hgq⟩:=own_some HP.out (by omega)
   rw [Value.slice.injEq] at hgq
   obtain ⟨rfl,_,rfl⟩:=hgq
   have hN:=own_below' HP.out (fun k hk=>(HP.out.lt k hk).2) HB.out
   have hgz:gs < wr.heap.size:=(hN.lt gs rfl).2
   obtain ⟨q,hr⟩:∃ q,l[j]?=some q:=⟨_,List.getElem?_eq_getElem hlt⟩
   have c0:wr.cell? ⟨gs,j * 2,none⟩=_:=row_get Pc.span Pc.span_len hN j q hr 0 _ rfl
   have c1:=row_get Pc.span Pc.span_len hN j q hr 1 _ rfl
   have HT:=hide (take_snoc l j q hr)
   have hbd:=bytesL_take l j HQ.out.2 hl
   have hqb:=HQ.out.2 q (List.mem_of_getElem? hr)
   generalize hN0:bytesL (l.take j)=N at *
   have HN0:=hide hN0
   obtain ⟨qs,qa,qb,qe,qw⟩:=q
   simp only at hqb
   have hsz:w.heap.size≤wr.heap.size:=HB.out.size
   clear hN hr hN0
   go_wp2
   go_roundw
   case rel=>exact ⟨j + 1,by omega,by go_num,by rw [HT.out,bytesL_snoc,HN0.out];congr 1;simp only;omega,HB.out.alloc hsz _⟩
   case measure=>simp [intOf];omega
  ·obtain rfl:j=l.length:=by omega
   rw [List.take_length]
   have d6:=(HB.out.cell (p:=⟨g,o + 6,none⟩) hg).trans HC6.out
   have d7:=(HB.out.cell (p:=⟨g,o + 7,none⟩) hg).trans HC7.out
   have hgr:g < wr.heap.size:=Nat.lt_of_lt_of_le hg HB.out.size
   cases hE:endO l with
   | none =>
    rw [hE] at d6 d7
    go_wp2
    go_ret
    exact ⟨by rw [hE];rfl,HB.out⟩
   | some b =>
    rw [hE] at d6 d7
    go_wp2
    go_ret
    exact ⟨by rw [hE];rfl,HB.out⟩
def barS (a b:Int) (last:Bool) (q:Pc):Bool:=(decide (a < q.b) && decide (q.a < b)) || (last && decide (b < q.b))
theorem one_end (l:List Pc) (hp:l.Pairwise (fun q r=>clashM q r=false)):l.filter (·.ends)=[]∨∃ q,l.filter (·.ends)=[q]:=by
 have h:=hp.filter (fun q:Pc=>q.ends)
 have he:∀ q ∈ l.filter (·.ends),q.ends=true:=fun q hq=>(List.mem_filter.1 hq).2
 cases hl:l.filter (·.ends) with
 | nil=>exact .inl rfl
 | cons q t =>
  cases t with
  | nil=>exact .inr ⟨q,rfl⟩
  | cons r t =>
   exfalso
   rw [hl] at h he
   have h1:=(List.pairwise_cons.1 h).1 r List.mem_cons_self
   have h2:=clash_end q r h1 (he r (by simp))
   have h3:=he q List.mem_cons_self
   rw [h2.2] at h3
   cases h3
theorem clash_prog (l:List Pc) (n:Pc) (hp:l.Pairwise (fun q r=>clashM q r=false)) :
  l.any (fun q=>clashM q n)=((endO l).isSome && (n.ends || decide ((endO l).getD 0 < n.b)) || l.any (barS n.a n.b n.ends)):=by
 have h1:∀ q,clashM q n=((q.ends && (n.ends || decide (q.b < n.b))) || barS n.a n.b n.ends q):=by
  intro q
  unfold clashM barS
  cases q.ends <;> cases n.ends <;> simp [Bool.and_comm,Bool.or_comm]
 have h2:∀ l:List Pc,l.any (fun q=>clashM q n)=(l.any (fun q=>q.ends && (n.ends || decide (q.b < n.b))) || l.any (barS n.a n.b n.ends)):=by
  intro l
  induction l with
  | nil=>rfl
  | cons q l ih =>
   rw [List.any_cons,List.any_cons,List.any_cons,ih,h1 q]
   cases (q.ends && (n.ends || decide (q.b < n.b))) <;> cases barS n.a n.b n.ends q <;> simp
 rw [h2]
 congr 1
 have h3:l.any (fun q=>q.ends && (n.ends || decide (q.b < n.b)))=(l.filter (·.ends)).any (fun q=>n.ends || decide (q.b < n.b)):=by
  rw [List.any_filter]
 rw [h3,endO]
 rcases one_end l hp with h | ⟨q,h⟩
 ·rw [h];simp
 ·rw [h];simp only [List.any_cons,List.any_nil,Bool.or_false,List.getLast?_singleton,Option.map_some,Option.isSome_some,Option.getD_some,Bool.true_and];rfl
def entSet (xs:List Value) (o:Nat) (a b c d e f:Value):List Value:=(((((xs.set (o + 5) a).set (o + 6) b).set (o + 7) c).set (o + 8) d).set (o + 9) e).set (o + 10) f
theorem set_same (xs:List Value) (i:Nat) (v:Value) (h:xs[i]?=some v):xs.set i v=xs:=by
 obtain ⟨hi,h⟩:=List.getElem?_eq_some_iff.1 h
 subst h
 exact List.set_getElem_self hi
def accEv (seq:Nat) (wl:List Pc) (k:Bool) (t:Int):List Ev:=if k then ⟨seq,0,t⟩ :: wl.map (fun q=>⟨q.seq,0,t⟩) else []
def outL (l:List Pc):List Ev:=l.map (fun q=>⟨q.seq,6,0⟩)
theorem timeout_any (g o:Nat) (l:List Pc) (hv:Value) (w:World) (hg:g < w.heap.size) (c10:w.cell? ⟨g,o + 10,none⟩=some hv)
  (hS:w.ownsRow 0 154 2 hv l.length (l.flatMap Pc.wtg)) (hb:l.length≤1000) :
  Calls Tryz.prog 101 #[.pointer (some ⟨g,o,none⟩)] w fun e w'=>∃ v,e=.returned v∧w'.ownsRow w.heap.size 60 3 v l.length ((outL l).flatMap Ev.cells)∧Below w.heap.size w w'∧(l.length=0→v=.slice none 0 0):=by
 obtain ⟨i0,hi,hz0,hz1,hz2⟩:=info_parts Tryz.infoEv
 have HI:=hide (And.intro hi (And.intro hz0 (And.intro hz1 hz2)))
 clear hi hz0 hz1 hz2
 obtain ⟨ao,cap,rfl⟩:=own_slice hS
 have HP:=hide hS
 clear hS
 go_enter Tryz.func101,Tryz.ntmps101
 go_wp2_with fail
 go_loopw [11,3] (fun i v wr=>∃ j:Nat,j≤l.length∧i=.int .i64 j∧Hid (wr.ownsRow w.heap.size 60 3 v j ((outL (l.take j)).flatMap Ev.cells))∧Hid (Below w.heap.size w wr)∧Hid (j=0→v=.slice none 0 0)) (fun i _ _=>l.length - (intOf i).toNat)
 case atStart=>exact ⟨0,Nat.zero_le _,rfl,World.ownsRow_nil _ _ _ _,Below.refl _ _,fun _=>rfl⟩
 case round =>
  obtain ⟨j,hj,rfl,HO,HB,HNI⟩:=hrel
  by_cases hlt:j < l.length
  ·obtain ⟨gs,q,hgq⟩:=own_some HP.out (by omega)
   rw [Value.slice.injEq] at hgq
   obtain ⟨rfl,_,rfl⟩:=hgq
   have hN:=own_below' HP.out (fun k hk=>(HP.out.lt k hk).2) HB.out
   have hgz:gs < wr.heap.size:=(hN.lt gs rfl).2
   obtain ⟨q,hr⟩:∃ q,l[j]?=some q:=⟨_,List.getElem?_eq_getElem hlt⟩
   have c0:wr.cell? ⟨gs,j * 2,none⟩=_:=row_get Pc.wtg Pc.wtg_len hN j q hr 0 _ rfl
   have c1:=row_get Pc.wtg Pc.wtg_len hN j q hr 1 _ rfl
   have HT:Hid ((outL (l.take (j + 1))).flatMap Ev.cells=(outL (l.take j)).flatMap Ev.cells ++ [.int .i64 q.seq,.int .u8 6,.int .u8 0]):=by
    show _=_
    rw [take_snoc l j q hr]
    simp [outL,Ev.cells]
   obtain ⟨qs,qa,qb,qe,qw⟩:=q
   simp only at c0 c1 HT
   have hsz:w.heap.size≤wr.heap.size:=HB.out.size
   obtain ⟨hi,hz0,hz1,hz2⟩:=HI.out
   clear hN hr
   go_wp2_with (at_builtin;refine wpList_append_own _ rfl (.tmp 15) (.tmp 19) 57 rfl w.heap.size 60 i0 _ 3 16 Tryz.underlying57 hi hz0 hz1 hz2 rfl (by decide) _ _ _ rfl ((HO.out.alloc _).alloc _) ⟨wr.heap.size + 1,0,none⟩ 1 1 [.int .i64 qs,.int .u8 6,.int .u8 0] rfl rfl (news2 _ _ _ _) (by simp [Value.oneCell']) (by unfold maxLen;omega) (by omega) (by simp;omega) ?_)
   intro v2 w2 hown hgrow hiff
   rw [← HT.out] at hown
   have HO2:=hide hown
   have HB2:Hid (Below w.heap.size w w2):=((HB.out.alloc hsz _).alloc (by simp;omega) _).grown hgrow (by simp;omega) (fun k hk=>(HO.out.lt k hk).1)
   clear hown hgrow hiff
   go_wp2
   go_roundw
   case rel=>exact ⟨j + 1,by omega,by go_num,HO2.out,HB2.out,fun h=>by omega⟩
   case measure=>simp [intOf];omega
  ·obtain rfl:j=l.length:=by omega
   rw [List.take_length] at HO
   go_wp2
   go_ret
   exact ⟨_,rfl,HO.out,HB.out,HNI.out⟩
end Go.Proofs.YtajphdppmdoalaaGreat
