import Derived.Test.YtajphdppmdoalaaGreatZACDtoDC
import Derived.Test.YtajphdppmdoalaaGreatZABItoCB
import Derived.Deep.RegionHeld3
set_option maxRecDepth 100000
set_option maxHeartbeats 6400000
set_option linter.unusedVariables false
namespace Go.Proofs.YtajphdppmdoalaaGreat
open Go.RowKit
theorem own_not {w w':World} {base k s:Nat} {e:TypeId} {u:Value} {ys:List Value} (h:w.ownsRow base e s u k ys) (hb:Below w.heap.size w w'):w'.ownsRow base e s u k ys :=
 own_only (F:=fun _=>False) h (Only.of_below hb) (fun _ _ f=>f)
theorem world_take (ee aa bb src dst proto id off:Int) (more:Bool) (sport dport:Int) (dso:Option Addr) (dsn dsc:Nat) (ao:Option Addr) (n cap:Nat) (w0 w:World) (wb c t:Nat) (vl:Value) (G:Nat→Prop) (L:List Pr) (i:Nat) (p:Pr) (h:Wd w0 w wb c t vl G L) (hi:L[i]?=some p) (hc:c≤1466015503700) (ht:t≤1800000000000) :
  Calls Tryz.prog 21 #[.pointer (some ⟨wb,0,none⟩),.agg #[.pointer (some ⟨p.xb,0,none⟩),.pointer (some ⟨p.yb,0,none⟩)],.agg #[.int .i64 9,.int .i64 ee,.int .i64 aa,.int .i64 bb,.int .u16 src,.int .u16 dst,.int .u8 proto,.int .u16 id,.int .u8 off,.bool more,.int .u16 sport,.int .u16 dport,.slice dso dsn dsc,.slice ao n cap]] w fun e w'=>e=.returned (.bool true)∧WNxt w0 wb c t L w':=by
 have hbw:=boxes_below w (.cells #[.pointer (some ⟨p.xb,0,none⟩),.pointer (some ⟨p.yb,0,none⟩)] 52) (.cells #[.int .i64 9,.int .i64 ee,.int .i64 aa,.int .i64 bb,.int .u16 src,.int .u16 dst,.int .u8 proto,.int .u16 id,.int .u8 off,.bool more,.int .u16 sport,.int .u16 dport,.slice dso dsn dsc,.slice ao n cap] 42)
 have h2:=h.below hbw
 have hbx:=bx_start w #[.pointer (some ⟨p.xb,0,none⟩),.pointer (some ⟨p.yb,0,none⟩)] #[.int .i64 9,.int .i64 ee,.int .i64 aa,.int .i64 bb,.int .u16 src,.int .u16 dst,.int .u8 proto,.int .u16 id,.int .u8 off,.bool more,.int .u16 sport,.int .u16 dport,.slice dso dsn dsc,.slice ao n cap] 52 42
 generalize hw0:((w.alloc (.cells #[.pointer (some ⟨p.xb,0,none⟩),.pointer (some ⟨p.yb,0,none⟩)] 52)).alloc (.cells #[.int .i64 9,.int .i64 ee,.int .i64 aa,.int .i64 bb,.int .u16 src,.int .u16 dst,.int .u8 proto,.int .u16 id,.int .u8 off,.bool more,.int .u16 sport,.int .u16 dport,.slice dso dsn dsc,.slice ao n cap] 42))=w2 at *
 have hT:=(h2.ok i p hi).tw
 have hg:=(h2.ok i p hi).good
 have hlt:=(h.ok i p hi).tw.flt
 have hev:=evs_few p.S hg.sml
 have hnx:=(h2.ok i p hi).next
 have hap:=h2.ap i p hi
 refine (lists_take wb p.S.evs.length p.xb p.yb ee aa bb src dst proto id off more sport dport dso dsn dsc ao n cap w p.S.evs (fun wz=>wz=w2)
  (fun la lc wz=>Bx w #[.pointer (some ⟨p.xb,0,none⟩),.pointer (some ⟨p.yb,0,none⟩)] #[.int .i64 9,.int .i64 ee,.int .i64 aa,.int .i64 bb,.int .u16 src,.int .u16 dst,.int .u8 proto,.int .u16 id,.int .u8 off,.bool more,.int .u16 sport,.int .u16 dport,.slice dso dsn dsc,.slice ao n cap] wz∧∃ F1',Tw wz p.xb p.yb (takeM p.S) p.S F1' p.F2∧Stp w2 wz (fun k=>p.F1 k∨p.F2 k) (fun k=>F1' k∨p.F2 k)∧wz.ownsRow 0 60 3 (.slice la p.S.evs.length lc) p.S.evs.length (p.S.evs.flatMap Ev.cells)∧∀ g,(Value.slice la p.S.evs.length lc).ownBlock=some g→p.F1 g∧¬ F1' g)
  (fun la lc wz=>∃ F1' F2',Tw wz p.xb p.yb (takeM p.S) (takeM p.S) F1' F2'∧Stp w2 wz (fun k=>p.F1 k∨p.F2 k) (fun k=>F1' k∨F2' k)∧wz.ownsRow 0 60 3 (.slice la p.S.evs.length lc) p.S.evs.length (p.S.evs.flatMap Ev.cells)∧∀ g,(Value.slice la p.S.evs.length lc).ownBlock=some g→p.F1 g∧¬ F1' g∧¬ F2' g)
  (WNxt w0 wb c t L) (hide ?_) (hide ?_) (hide ?_) (hide ?_) (hide fun wz hz=>by rw [hz];exact hbx) (hide fun la lc wz hz=>hz.1) (hide hw0) (by omega)).mono fun e w' hh=>hh
 ·rintro wz rfl
  refine (take_any p.xb p.S p.F1 wz hT.x).mono ?_
  rintro e w' ⟨v,F',rfl,hp,hs,hr,hv⟩
  obtain ⟨la,lc,rfl⟩:=own_slice hr
  obtain ⟨h3,h4⟩:=hT.stepX hp hs
  exact ⟨la,lc,rfl,hbx.only hs.only (fun hk=>by have:=hlt _ (.inl hk);omega) (fun hk=>by have:=hlt _ (.inl hk);omega),F',h3,h4,hr,hv⟩
 ·rintro la lc wz ⟨_,F1',ht3,hs3,hr3,hv3⟩
  obtain ⟨vS,vE,vN,vV,ES,NS,hy⟩:=ht3.y
  refine (rtake_any p.yb p.S p.F2 vS vE vN vV ES NS wz hy).mono ?_
  rintro e w' ⟨rfl,F2',hR,hs4,hr4,hv4⟩
  obtain ⟨ma,mc,rfl⟩:=own_slice hr4
  obtain ⟨h5,h6⟩:=ht3.stepY ⟨_,_,_,_,_,_,hR⟩ hs4
  have hr5:=own_only hr3 hs4.only (fun g hgg=>hT.dis g (hv3 g hgg).1)
  refine ⟨ma,mc,rfl,⟨F1',F2',h5,hs3.trans h6,hr5,fun g hgg=>⟨(hv3 g hgg).1,(hv3 g hgg).2,fun hk=>?_⟩⟩,hr5,hr4⟩
  rcases hs4.own g hk with h7 | h7
  ·exact hT.dis g (hv3 g hgg).1 h7
  ·have:=own_ltS hr3 g hgg
   omega
 ·rintro la lc wz j ⟨F1',F2',h3,h4,h5,h6⟩
  have hb:Below wz.heap.size wz (wz.drewN j):=below_drewN (Below.refl _ _) j
  exact ⟨F1',F2',h3.below hb,h4.trans (Stp.below hb),own_not h5 hb,h6⟩
 ·rintro la lc wz ⟨F1',F2',h3,h4,h5,h6⟩
  have hW:=h2.pair i p hi (takeM p.S) F1' F2' h3 (nxt_take p.S hg) h4
  obtain ⟨vbs,ves,vfs,vkb,vke,vkf,BS,ES,FS,KB,KE,KF,hB⟩:=hW.book
  refine (events_any wb vl c G vbs ves vfs vkb vke vkf BS ES FS KB KE KF _ p.S.evs.length _ wz hB h5 (fun g hgg=>(hap g (.inl (h6 g hgg).1)).1) (by omega) hc).mono ?_
  rintro e w' ⟨rfl,G',ves',vke',ES',KE',hB',hG',ho⟩
  refine ⟨rfl,c + 1,vl,G',_,Nat.le_refl _,?_,hW.list (lv:=.slice la p.S.evs.length lc) ?_ ⟨vbs,ves',vfs,vkb,vke',vkf,BS,ES',FS,KB,KE',KF,hB'⟩ hG' ho⟩
  ·rw [List.length_set]
   exact Nat.le_refl _
  ·intro g hgg
   have h7:=h6 g hgg
   refine ⟨(hap g (.inl h7.1)).2.1,(hap g (.inl h7.1)).2.2,own_ltS h5 g hgg,fun j q hq=>?_⟩
   by_cases hj:j=i
   ·subst hj
    have hil:j < L.length:=by
     by_cases hlt':j < L.length
     ·exact hlt'
     ·rw [List.getElem?_eq_none (by omega)] at hi
      simp at hi
    rw [List.getElem?_set_self hil] at hq
    simp only [Option.some.injEq] at hq
    subst hq
    rintro (hk | hk)
    ·exact h7.2.1 hk
    ·exact h7.2.2 hk
   ·rw [List.getElem?_set_ne (Ne.symm hj)] at hq
    exact h2.dis i j p q (Ne.symm hj) hi hq g (.inl h7.1)
theorem world_flying (ee aa bb src dst proto id off:Int) (more:Bool) (sport dport:Int) (dso:Option Addr) (dsn dsc:Nat) (ao:Option Addr) (n cap:Nat) (w0 w:World) (wb c t:Nat) (vl:Value) (G:Nat→Prop) (L:List Pr) (i:Nat) (p:Pr) (h:Wd w0 w wb c t vl G L) (hi:L[i]?=some p) (hc:c≤1466015503700) (ht:t≤1800000000000) :
  Calls Tryz.prog 21 #[.pointer (some ⟨wb,0,none⟩),.agg #[.pointer (some ⟨p.xb,0,none⟩),.pointer (some ⟨p.yb,0,none⟩)],.agg #[.int .i64 10,.int .i64 ee,.int .i64 aa,.int .i64 bb,.int .u16 src,.int .u16 dst,.int .u8 proto,.int .u16 id,.int .u8 off,.bool more,.int .u16 sport,.int .u16 dport,.slice dso dsn dsc,.slice ao n cap]] w fun e w'=>e=.returned (.bool true)∧WNxt w0 wb c t L w':=by
 have hbw:=boxes_below w (.cells #[.pointer (some ⟨p.xb,0,none⟩),.pointer (some ⟨p.yb,0,none⟩)] 52) (.cells #[.int .i64 10,.int .i64 ee,.int .i64 aa,.int .i64 bb,.int .u16 src,.int .u16 dst,.int .u8 proto,.int .u16 id,.int .u8 off,.bool more,.int .u16 sport,.int .u16 dport,.slice dso dsn dsc,.slice ao n cap] 42)
 have h2:=h.below hbw
 have hbx:=bx_start w #[.pointer (some ⟨p.xb,0,none⟩),.pointer (some ⟨p.yb,0,none⟩)] #[.int .i64 10,.int .i64 ee,.int .i64 aa,.int .i64 bb,.int .u16 src,.int .u16 dst,.int .u8 proto,.int .u16 id,.int .u8 off,.bool more,.int .u16 sport,.int .u16 dport,.slice dso dsn dsc,.slice ao n cap] 52 42
 generalize hw0:((w.alloc (.cells #[.pointer (some ⟨p.xb,0,none⟩),.pointer (some ⟨p.yb,0,none⟩)] 52)).alloc (.cells #[.int .i64 10,.int .i64 ee,.int .i64 aa,.int .i64 bb,.int .u16 src,.int .u16 dst,.int .u8 proto,.int .u16 id,.int .u8 off,.bool more,.int .u16 sport,.int .u16 dport,.slice dso dsn dsc,.slice ao n cap] 42))=w2 at *
 have hT:=(h2.ok i p hi).tw
 have hg:=(h2.ok i p hi).good
 have hev:=evs_few p.S hg.sml
 have hnx:=(h2.ok i p hi).next
 refine (lists_flying wb p.S.sent.length p.xb p.yb ee aa bb src dst proto id off more sport dport dso dsn dsc ao n cap w p.S.sent (fun wz=>wz=w2)
  (fun la lc wz=>Below w2.heap.size w2 wz∧wz.ownsRow w2.heap.size 64 3 (.slice la p.S.sent.length lc) p.S.sent.length (p.S.sent.flatMap Snt.fly))
  (fun la lc wz=>Below w2.heap.size w2 wz∧wz.ownsRow w2.heap.size 64 3 (.slice la p.S.sent.length lc) p.S.sent.length (p.S.sent.flatMap Snt.fly))
  (WNxt w0 wb c t L) (hide ?_) (hide ?_) (hide ?_) (hide ?_) (hide fun wz hz=>by rw [hz];exact hbx) (hide fun la lc wz hz=>hbx.only (F:=fun _=>False) (Only.of_below hz.1) (fun f=>f) (fun f=>f)) (hide hw0) (by omega)).mono fun e w' hh=>hh
 ·rintro wz rfl
  refine (flying_any p.xb p.S p.F1 wz hT.x (by omega)).mono ?_
  rintro e w' ⟨v,rfl,hr,hb⟩
  obtain ⟨la,lc,rfl⟩:=own_slice hr
  exact ⟨la,lc,rfl,hb,hr⟩
 ·rintro la lc wz ⟨hb,hr⟩
  obtain ⟨vS,vE,vN,vV,ES,NS,hy⟩:=(hT.below hb).y
  refine (rflying_any p.yb p.S p.F2 vS vE vN vV ES NS wz hy (by omega)).mono ?_
  rintro e w' ⟨v,rfl,hr4,hb4⟩
  obtain ⟨ma,mc,rfl⟩:=own_slice hr4
  have hr5:=own_not hr hb4
  exact ⟨ma,mc,rfl,⟨hb.trans (hb4.mono hb.size),hr5⟩,own_zero hr5,own_zero hr4⟩
 ·rintro la lc wz j ⟨hb,hr⟩
  have hb':Below wz.heap.size wz (wz.drewN j):=below_drewN (Below.refl _ _) j
  exact ⟨hb.trans (hb'.mono hb.size),own_not hr hb'⟩
 ·rintro la lc wz ⟨hb,hr⟩
  have hW:=(h2.below hb).mono (Nat.le_succ t)
  have hsz:=h2.bel.size
  have hfr:∀ g,(Value.slice la p.S.sent.length lc).ownBlock=some g→w2.heap.size≤g∧g < wz.heap.size:=fun g hgg=>hr.lt g hgg
  obtain ⟨vbs,ves,vfs,vkb,vke,vkf,BS,ES,FS,KB,KE,KF,hB⟩:=hW.book
  refine (flights_any wb vl c G vbs ves vfs vkb vke vkf BS ES FS KB KE KF _ p.S.sent.length _ wz hB (own_zero hr) (fun g hgg hG=>by have:=h2.book.flt.2 g hG;have:=(hfr g hgg).1;omega) (by omega) hc).mono ?_
  rintro e w' ⟨rfl,G',vfs',vkf',FS',KF',hB',hG',ho⟩
  refine ⟨rfl,c + 1,vl,G',L,Nat.le_refl _,Nat.le_refl _,hW.list (lv:=.slice la p.S.sent.length lc) ?_ ⟨vbs,ves,vfs',vkb,vke,vkf',BS,ES,FS',KB,KE,KF',hB'⟩ hG' ho⟩
  intro g hgg
  have h7:=hfr g hgg
  refine ⟨fun hv=>by have:=own_ltS h2.row g hv;omega,by omega,h7.2,fun j q hq hk=>?_⟩
  have:=(h2.ok j q hq).tw.flt g hk
  omega
theorem pk_in (c:Int) (n:Nat) (hn:0 < n):∃ j:Nat,j < n∧pk c n=(j:Int):=by
 have h1:0≤pk c n∧pk c n < n:=by
  unfold pk
  split
  ·exact ⟨Int.emod_nonneg _ (by omega),Int.emod_lt_of_pos _ (by omega)⟩
  ·exact ⟨Int.emod_nonneg _ (by omega),Int.emod_lt_of_pos _ (by omega)⟩
 exact ⟨(pk c n).toNat,by omega,by omega⟩
theorem lpick_any (c n:Int) (w:World) (hc:-9223372036854775808≤c) (hc2:c≤9223372036854775807) (hn:1≤n) (hn2:n≤9223372036854775807) :
  Calls Tryz.prog 19 #[.int .i64 c,.int .i64 n] w fun e w'=>e=.returned (.int .i64 (pk c n))∧w'=w:=by
 go_enter Tryz.func19,Tryz.ntmps19
 go_wp2
 ·go_ret
  refine ⟨ret_int ?_,rfl⟩
  have:c < 0:=by assumption
  simp only [pk,this,if_true]
  rw [← Int.neg_tmod,Int.tmod_eq_emod_of_nonneg (by omega)]
 ·go_ret
  refine ⟨ret_int ?_,rfl⟩
  have:0≤c:=by assumption
  simp only [pk,show ¬ c < 0 by omega,if_false]
theorem step_k6 (wb gl m cl xb yb j:Nat) (ee aa bb src dst proto id off:Int) (more:Bool) (sport dport:Int) (dso:Option Addr) (dsn dsc:Nat) (ao:Option Addr) (n cap:Nat) (w:World) (Q:World→Prop) (hee:-9223372036854775808≤ee∧ee≤9223372036854775807) (hm:0 < m) (hm2:m≤2000000000000) (hj:pk ee m=(j:Int)) (hjm:j < m)
  (c0:w.cell? ⟨wb,0,none⟩=some (.slice (some ⟨gl,0,none⟩) m cl)) (r0:w.cell? ⟨gl,j * 2,none⟩=some (.pointer (some ⟨xb,0,none⟩))) (r1:w.cell? ⟨gl,j * 2 + 1,none⟩=some (.pointer (some ⟨yb,0,none⟩))) (hwb:wb < w.heap.size) (hgl:gl < w.heap.size)
  (HC:Hid (∀ wz,Below w.heap.size w wz→Calls Tryz.prog 20 #[.agg #[.pointer (some ⟨xb,0,none⟩),.pointer (some ⟨yb,0,none⟩)],.agg #[.int .i64 6,.int .i64 ee,.int .i64 aa,.int .i64 bb,.int .u16 src,.int .u16 dst,.int .u8 proto,.int .u16 id,.int .u8 off,.bool more,.int .u16 sport,.int .u16 dport,.slice dso dsn dsc,.slice ao n cap]] wz fun e w'=>e=.returned (.bool true)∧Q w')) :
  Calls Tryz.prog 12 #[.pointer (some ⟨wb,0,none⟩),.agg #[.int .i64 6,.int .i64 ee,.int .i64 aa,.int .i64 bb,.int .u16 src,.int .u16 dst,.int .u8 proto,.int .u16 id,.int .u8 off,.bool more,.int .u16 sport,.int .u16 dport,.slice dso dsn dsc,.slice ao n cap]] w fun e w'=>e=.returned (.bool true)∧Q w':=by
 have HP:Hid (∀ wz,Calls Tryz.prog 19 #[.int .i64 ee,.int .i64 (m:Int)] wz fun e w'=>e=.returned (.int .i64 (j:Int))∧w'=wz):=by
  intro wz
  have h:=lpick_any ee m wz hee.1 hee.2 (by omega) (by omega)
  rw [hj] at h
  exact h
 have a0:∀ O,(w.alloc O).cell? ⟨wb,0,none⟩=some (.slice (some ⟨gl,0,none⟩) m cl):=fun O=>(World.cell?_alloc_past O _ _ hwb).trans c0
 have a1:∀ O,(w.alloc O).cell? ⟨gl,j * 2,none⟩=some (.pointer (some ⟨xb,0,none⟩)):=fun O=>(World.cell?_alloc_past O _ _ hgl).trans r0
 have a2:∀ O,(w.alloc O).cell? ⟨gl,j * 2 + 1,none⟩=some (.pointer (some ⟨yb,0,none⟩)):=fun O=>(World.cell?_alloc_past O _ _ hgl).trans r1
 clear c0 r0 r1 hj
 have hm1:¬ ((m:Int)=0):=by omega
 have hjm2:(j:Int) < (m:Int):=by omega
 go_enter Tryz.func12,Tryz.ntmps12
 go_wp2_with fail
 go_region_held3 (fun w'=>w'.cell? ⟨wb,0,none⟩=some (.slice (some ⟨gl,0,none⟩) m cl)∧w'.cell? ⟨gl,j * 2,none⟩=some (.pointer (some ⟨xb,0,none⟩))∧w'.cell? ⟨gl,j * 2 + 1,none⟩=some (.pointer (some ⟨yb,0,none⟩))∧w'.cell? ⟨w.heap.size,1,none⟩=some (.int .i64 ee)) (first | go_keep | assumption) (first | (go_at_call 19;refine (HP.out _).mono ?_;rintro e w1 ⟨rfl,rfl⟩))
 all_goals
  go_wp2_with fail
  refine (HC.out _ ?_).mono ?_
  ·repeat' first | with_reducible exact Below.refl _ _ | with_reducible refine Below.drew ?_ | with_reducible refine Below.alloc ?_ ?_ _
   all_goals (simp;try omega)
  ·rintro e w1 ⟨rfl,q⟩
   have HQ:=hide q
   clear q
   go_wp2
   go_ret
   exact ⟨rfl,HQ.out⟩
theorem step_k7 (wb gl m cl xb yb j:Nat) (ee aa bb src dst proto id off:Int) (more:Bool) (sport dport:Int) (dso:Option Addr) (dsn dsc:Nat) (ao:Option Addr) (n cap:Nat) (w:World) (Q:World→Prop) (hee:-9223372036854775808≤ee∧ee≤9223372036854775807) (hm:0 < m) (hm2:m≤2000000000000) (hj:pk ee m=(j:Int)) (hjm:j < m)
  (c0:w.cell? ⟨wb,0,none⟩=some (.slice (some ⟨gl,0,none⟩) m cl)) (r0:w.cell? ⟨gl,j * 2,none⟩=some (.pointer (some ⟨xb,0,none⟩))) (r1:w.cell? ⟨gl,j * 2 + 1,none⟩=some (.pointer (some ⟨yb,0,none⟩))) (hwb:wb < w.heap.size) (hgl:gl < w.heap.size)
  (HC:Hid (∀ wz,Below w.heap.size w wz→Calls Tryz.prog 22 #[.agg #[.pointer (some ⟨xb,0,none⟩),.pointer (some ⟨yb,0,none⟩)],.agg #[.int .i64 7,.int .i64 ee,.int .i64 aa,.int .i64 bb,.int .u16 src,.int .u16 dst,.int .u8 proto,.int .u16 id,.int .u8 off,.bool more,.int .u16 sport,.int .u16 dport,.slice dso dsn dsc,.slice ao n cap]] wz fun e w'=>e=.returned (.bool true)∧Q w')) :
  Calls Tryz.prog 12 #[.pointer (some ⟨wb,0,none⟩),.agg #[.int .i64 7,.int .i64 ee,.int .i64 aa,.int .i64 bb,.int .u16 src,.int .u16 dst,.int .u8 proto,.int .u16 id,.int .u8 off,.bool more,.int .u16 sport,.int .u16 dport,.slice dso dsn dsc,.slice ao n cap]] w fun e w'=>e=.returned (.bool true)∧Q w':=by
 have HP:Hid (∀ wz,Calls Tryz.prog 19 #[.int .i64 ee,.int .i64 (m:Int)] wz fun e w'=>e=.returned (.int .i64 (j:Int))∧w'=wz):=by
  intro wz
  have h:=lpick_any ee m wz hee.1 hee.2 (by omega) (by omega)
  rw [hj] at h
  exact h
 have a0:∀ O,(w.alloc O).cell? ⟨wb,0,none⟩=some (.slice (some ⟨gl,0,none⟩) m cl):=fun O=>(World.cell?_alloc_past O _ _ hwb).trans c0
 have a1:∀ O,(w.alloc O).cell? ⟨gl,j * 2,none⟩=some (.pointer (some ⟨xb,0,none⟩)):=fun O=>(World.cell?_alloc_past O _ _ hgl).trans r0
 have a2:∀ O,(w.alloc O).cell? ⟨gl,j * 2 + 1,none⟩=some (.pointer (some ⟨yb,0,none⟩)):=fun O=>(World.cell?_alloc_past O _ _ hgl).trans r1
 clear c0 r0 r1 hj
 have hm1:¬ ((m:Int)=0):=by omega
 have hjm2:(j:Int) < (m:Int):=by omega
 go_enter Tryz.func12,Tryz.ntmps12
 go_wp2_with fail
 go_region_held3 (fun w'=>w'.cell? ⟨wb,0,none⟩=some (.slice (some ⟨gl,0,none⟩) m cl)∧w'.cell? ⟨gl,j * 2,none⟩=some (.pointer (some ⟨xb,0,none⟩))∧w'.cell? ⟨gl,j * 2 + 1,none⟩=some (.pointer (some ⟨yb,0,none⟩))∧w'.cell? ⟨w.heap.size,1,none⟩=some (.int .i64 ee)) (first | go_keep | assumption) (first | (go_at_call 19;refine (HP.out _).mono ?_;rintro e w1 ⟨rfl,rfl⟩))
 all_goals
  go_wp2_with fail
  refine (HC.out _ ?_).mono ?_
  ·repeat' first | with_reducible exact Below.refl _ _ | with_reducible refine Below.drew ?_ | with_reducible refine Below.alloc ?_ ?_ _
   all_goals (simp;try omega)
  ·rintro e w1 ⟨rfl,q⟩
   have HQ:=hide q
   clear q
   go_wp2
   go_ret
   exact ⟨rfl,HQ.out⟩
theorem step_k8 (wb gl m cl xb yb j:Nat) (ee aa bb src dst proto id off:Int) (more:Bool) (sport dport:Int) (dso:Option Addr) (dsn dsc:Nat) (ao:Option Addr) (n cap:Nat) (w:World) (Q:World→Prop) (hee:-9223372036854775808≤ee∧ee≤9223372036854775807) (hm:0 < m) (hm2:m≤2000000000000) (hj:pk ee m=(j:Int)) (hjm:j < m)
  (c0:w.cell? ⟨wb,0,none⟩=some (.slice (some ⟨gl,0,none⟩) m cl)) (r0:w.cell? ⟨gl,j * 2,none⟩=some (.pointer (some ⟨xb,0,none⟩))) (r1:w.cell? ⟨gl,j * 2 + 1,none⟩=some (.pointer (some ⟨yb,0,none⟩))) (hwb:wb < w.heap.size) (hgl:gl < w.heap.size)
  (HC:Hid (∀ wz,Below w.heap.size w wz→Calls Tryz.prog 20 #[.agg #[.pointer (some ⟨xb,0,none⟩),.pointer (some ⟨yb,0,none⟩)],.agg #[.int .i64 8,.int .i64 ee,.int .i64 aa,.int .i64 bb,.int .u16 src,.int .u16 dst,.int .u8 proto,.int .u16 id,.int .u8 off,.bool more,.int .u16 sport,.int .u16 dport,.slice dso dsn dsc,.slice ao n cap]] wz fun e w'=>e=.returned (.bool true)∧Q w')) :
  Calls Tryz.prog 12 #[.pointer (some ⟨wb,0,none⟩),.agg #[.int .i64 8,.int .i64 ee,.int .i64 aa,.int .i64 bb,.int .u16 src,.int .u16 dst,.int .u8 proto,.int .u16 id,.int .u8 off,.bool more,.int .u16 sport,.int .u16 dport,.slice dso dsn dsc,.slice ao n cap]] w fun e w'=>e=.returned (.bool true)∧Q w':=by
 have HP:Hid (∀ wz,Calls Tryz.prog 19 #[.int .i64 ee,.int .i64 (m:Int)] wz fun e w'=>e=.returned (.int .i64 (j:Int))∧w'=wz):=by
  intro wz
  have h:=lpick_any ee m wz hee.1 hee.2 (by omega) (by omega)
  rw [hj] at h
  exact h
 have a0:∀ O,(w.alloc O).cell? ⟨wb,0,none⟩=some (.slice (some ⟨gl,0,none⟩) m cl):=fun O=>(World.cell?_alloc_past O _ _ hwb).trans c0
 have a1:∀ O,(w.alloc O).cell? ⟨gl,j * 2,none⟩=some (.pointer (some ⟨xb,0,none⟩)):=fun O=>(World.cell?_alloc_past O _ _ hgl).trans r0
 have a2:∀ O,(w.alloc O).cell? ⟨gl,j * 2 + 1,none⟩=some (.pointer (some ⟨yb,0,none⟩)):=fun O=>(World.cell?_alloc_past O _ _ hgl).trans r1
 clear c0 r0 r1 hj
 have hm1:¬ ((m:Int)=0):=by omega
 have hjm2:(j:Int) < (m:Int):=by omega
 go_enter Tryz.func12,Tryz.ntmps12
 go_wp2_with fail
 go_region_held3 (fun w'=>w'.cell? ⟨wb,0,none⟩=some (.slice (some ⟨gl,0,none⟩) m cl)∧w'.cell? ⟨gl,j * 2,none⟩=some (.pointer (some ⟨xb,0,none⟩))∧w'.cell? ⟨gl,j * 2 + 1,none⟩=some (.pointer (some ⟨yb,0,none⟩))∧w'.cell? ⟨w.heap.size,1,none⟩=some (.int .i64 ee)) (first | go_keep | assumption) (first | (go_at_call 19;refine (HP.out _).mono ?_;rintro e w1 ⟨rfl,rfl⟩))
 all_goals
  go_wp2_with fail
  refine (HC.out _ ?_).mono ?_
  ·repeat' first | with_reducible exact Below.refl _ _ | with_reducible refine Below.drew ?_ | with_reducible refine Below.alloc ?_ ?_ _
   all_goals (simp;try omega)
  ·rintro e w1 ⟨rfl,q⟩
   have HQ:=hide q
   clear q
   go_wp2
   go_ret
   exact ⟨rfl,HQ.out⟩
theorem step_k9 (wb gl m cl xb yb j:Nat) (ee aa bb src dst proto id off:Int) (more:Bool) (sport dport:Int) (dso:Option Addr) (dsn dsc:Nat) (ao:Option Addr) (n cap:Nat) (w:World) (Q:World→Prop) (hee:-9223372036854775808≤ee∧ee≤9223372036854775807) (hm:0 < m) (hm2:m≤2000000000000) (hj:pk ee m=(j:Int)) (hjm:j < m)
  (c0:w.cell? ⟨wb,0,none⟩=some (.slice (some ⟨gl,0,none⟩) m cl)) (r0:w.cell? ⟨gl,j * 2,none⟩=some (.pointer (some ⟨xb,0,none⟩))) (r1:w.cell? ⟨gl,j * 2 + 1,none⟩=some (.pointer (some ⟨yb,0,none⟩))) (hwb:wb < w.heap.size) (hgl:gl < w.heap.size)
  (HC:Hid (∀ wz,Below w.heap.size w wz→Calls Tryz.prog 21 #[.pointer (some ⟨wb,0,none⟩),.agg #[.pointer (some ⟨xb,0,none⟩),.pointer (some ⟨yb,0,none⟩)],.agg #[.int .i64 9,.int .i64 ee,.int .i64 aa,.int .i64 bb,.int .u16 src,.int .u16 dst,.int .u8 proto,.int .u16 id,.int .u8 off,.bool more,.int .u16 sport,.int .u16 dport,.slice dso dsn dsc,.slice ao n cap]] wz fun e w'=>e=.returned (.bool true)∧Q w')) :
  Calls Tryz.prog 12 #[.pointer (some ⟨wb,0,none⟩),.agg #[.int .i64 9,.int .i64 ee,.int .i64 aa,.int .i64 bb,.int .u16 src,.int .u16 dst,.int .u8 proto,.int .u16 id,.int .u8 off,.bool more,.int .u16 sport,.int .u16 dport,.slice dso dsn dsc,.slice ao n cap]] w fun e w'=>e=.returned (.bool true)∧Q w':=by
 have HP:Hid (∀ wz,Calls Tryz.prog 19 #[.int .i64 ee,.int .i64 (m:Int)] wz fun e w'=>e=.returned (.int .i64 (j:Int))∧w'=wz):=by
  intro wz
  have h:=lpick_any ee m wz hee.1 hee.2 (by omega) (by omega)
  rw [hj] at h
  exact h
 have a0:∀ O,(w.alloc O).cell? ⟨wb,0,none⟩=some (.slice (some ⟨gl,0,none⟩) m cl):=fun O=>(World.cell?_alloc_past O _ _ hwb).trans c0
 have a1:∀ O,(w.alloc O).cell? ⟨gl,j * 2,none⟩=some (.pointer (some ⟨xb,0,none⟩)):=fun O=>(World.cell?_alloc_past O _ _ hgl).trans r0
 have a2:∀ O,(w.alloc O).cell? ⟨gl,j * 2 + 1,none⟩=some (.pointer (some ⟨yb,0,none⟩)):=fun O=>(World.cell?_alloc_past O _ _ hgl).trans r1
 clear c0 r0 r1 hj
 have hm1:¬ ((m:Int)=0):=by omega
 have hjm2:(j:Int) < (m:Int):=by omega
 go_enter Tryz.func12,Tryz.ntmps12
 go_wp2_with fail
 go_region_held3 (fun w'=>w'.cell? ⟨wb,0,none⟩=some (.slice (some ⟨gl,0,none⟩) m cl)∧w'.cell? ⟨gl,j * 2,none⟩=some (.pointer (some ⟨xb,0,none⟩))∧w'.cell? ⟨gl,j * 2 + 1,none⟩=some (.pointer (some ⟨yb,0,none⟩))∧w'.cell? ⟨w.heap.size,1,none⟩=some (.int .i64 ee)) (first | go_keep | assumption) (first | (go_at_call 19;refine (HP.out _).mono ?_;rintro e w1 ⟨rfl,rfl⟩))
 all_goals
  go_wp2_with fail
  refine (HC.out _ ?_).mono ?_
  ·repeat' first | with_reducible exact Below.refl _ _ | with_reducible refine Below.drew ?_ | with_reducible refine Below.alloc ?_ ?_ _
   all_goals (simp;try omega)
  ·rintro e w1 ⟨rfl,q⟩
   have HQ:=hide q
   clear q
   go_wp2
   go_ret
   exact ⟨rfl,HQ.out⟩
theorem step_k10 (wb gl m cl xb yb j:Nat) (ee aa bb src dst proto id off:Int) (more:Bool) (sport dport:Int) (dso:Option Addr) (dsn dsc:Nat) (ao:Option Addr) (n cap:Nat) (w:World) (Q:World→Prop) (hee:-9223372036854775808≤ee∧ee≤9223372036854775807) (hm:0 < m) (hm2:m≤2000000000000) (hj:pk ee m=(j:Int)) (hjm:j < m)
  (c0:w.cell? ⟨wb,0,none⟩=some (.slice (some ⟨gl,0,none⟩) m cl)) (r0:w.cell? ⟨gl,j * 2,none⟩=some (.pointer (some ⟨xb,0,none⟩))) (r1:w.cell? ⟨gl,j * 2 + 1,none⟩=some (.pointer (some ⟨yb,0,none⟩))) (hwb:wb < w.heap.size) (hgl:gl < w.heap.size)
  (HC:Hid (∀ wz,Below w.heap.size w wz→Calls Tryz.prog 21 #[.pointer (some ⟨wb,0,none⟩),.agg #[.pointer (some ⟨xb,0,none⟩),.pointer (some ⟨yb,0,none⟩)],.agg #[.int .i64 10,.int .i64 ee,.int .i64 aa,.int .i64 bb,.int .u16 src,.int .u16 dst,.int .u8 proto,.int .u16 id,.int .u8 off,.bool more,.int .u16 sport,.int .u16 dport,.slice dso dsn dsc,.slice ao n cap]] wz fun e w'=>e=.returned (.bool true)∧Q w')) :
  Calls Tryz.prog 12 #[.pointer (some ⟨wb,0,none⟩),.agg #[.int .i64 10,.int .i64 ee,.int .i64 aa,.int .i64 bb,.int .u16 src,.int .u16 dst,.int .u8 proto,.int .u16 id,.int .u8 off,.bool more,.int .u16 sport,.int .u16 dport,.slice dso dsn dsc,.slice ao n cap]] w fun e w'=>e=.returned (.bool true)∧Q w':=by
 have HP:Hid (∀ wz,Calls Tryz.prog 19 #[.int .i64 ee,.int .i64 (m:Int)] wz fun e w'=>e=.returned (.int .i64 (j:Int))∧w'=wz):=by
  intro wz
  have h:=lpick_any ee m wz hee.1 hee.2 (by omega) (by omega)
  rw [hj] at h
  exact h
 have a0:∀ O,(w.alloc O).cell? ⟨wb,0,none⟩=some (.slice (some ⟨gl,0,none⟩) m cl):=fun O=>(World.cell?_alloc_past O _ _ hwb).trans c0
 have a1:∀ O,(w.alloc O).cell? ⟨gl,j * 2,none⟩=some (.pointer (some ⟨xb,0,none⟩)):=fun O=>(World.cell?_alloc_past O _ _ hgl).trans r0
 have a2:∀ O,(w.alloc O).cell? ⟨gl,j * 2 + 1,none⟩=some (.pointer (some ⟨yb,0,none⟩)):=fun O=>(World.cell?_alloc_past O _ _ hgl).trans r1
 clear c0 r0 r1 hj
 have hm1:¬ ((m:Int)=0):=by omega
 have hjm2:(j:Int) < (m:Int):=by omega
 go_enter Tryz.func12,Tryz.ntmps12
 go_wp2_with fail
 go_region_held3 (fun w'=>w'.cell? ⟨wb,0,none⟩=some (.slice (some ⟨gl,0,none⟩) m cl)∧w'.cell? ⟨gl,j * 2,none⟩=some (.pointer (some ⟨xb,0,none⟩))∧w'.cell? ⟨gl,j * 2 + 1,none⟩=some (.pointer (some ⟨yb,0,none⟩))∧w'.cell? ⟨w.heap.size,1,none⟩=some (.int .i64 ee)) (first | go_keep | assumption) (first | (go_at_call 19;refine (HP.out _).mono ?_;rintro e w1 ⟨rfl,rfl⟩))
 all_goals
  go_wp2_with fail
  refine (HC.out _ ?_).mono ?_
  ·repeat' first | with_reducible exact Below.refl _ _ | with_reducible refine Below.drew ?_ | with_reducible refine Below.alloc ?_ ?_ _
   all_goals (simp;try omega)
  ·rintro e w1 ⟨rfl,q⟩
   have HQ:=hide q
   clear q
   go_wp2
   go_ret
   exact ⟨rfl,HQ.out⟩
theorem step_k11 (wb gl m cl xb yb j:Nat) (ee aa bb src dst proto id off:Int) (more:Bool) (sport dport:Int) (dso:Option Addr) (dsn dsc:Nat) (ao:Option Addr) (n cap:Nat) (w:World) (Q:World→Prop) (hee:-9223372036854775808≤ee∧ee≤9223372036854775807) (hm:0 < m) (hm2:m≤2000000000000) (hj:pk ee m=(j:Int)) (hjm:j < m)
  (c0:w.cell? ⟨wb,0,none⟩=some (.slice (some ⟨gl,0,none⟩) m cl)) (r0:w.cell? ⟨gl,j * 2,none⟩=some (.pointer (some ⟨xb,0,none⟩))) (r1:w.cell? ⟨gl,j * 2 + 1,none⟩=some (.pointer (some ⟨yb,0,none⟩))) (hwb:wb < w.heap.size) (hgl:gl < w.heap.size)
  (HC:Hid (∀ wz,Below w.heap.size w wz→Calls Tryz.prog 22 #[.agg #[.pointer (some ⟨xb,0,none⟩),.pointer (some ⟨yb,0,none⟩)],.agg #[.int .i64 11,.int .i64 ee,.int .i64 aa,.int .i64 bb,.int .u16 src,.int .u16 dst,.int .u8 proto,.int .u16 id,.int .u8 off,.bool more,.int .u16 sport,.int .u16 dport,.slice dso dsn dsc,.slice ao n cap]] wz fun e w'=>e=.returned (.bool true)∧Q w')) :
  Calls Tryz.prog 12 #[.pointer (some ⟨wb,0,none⟩),.agg #[.int .i64 11,.int .i64 ee,.int .i64 aa,.int .i64 bb,.int .u16 src,.int .u16 dst,.int .u8 proto,.int .u16 id,.int .u8 off,.bool more,.int .u16 sport,.int .u16 dport,.slice dso dsn dsc,.slice ao n cap]] w fun e w'=>e=.returned (.bool true)∧Q w':=by
 have HP:Hid (∀ wz,Calls Tryz.prog 19 #[.int .i64 ee,.int .i64 (m:Int)] wz fun e w'=>e=.returned (.int .i64 (j:Int))∧w'=wz):=by
  intro wz
  have h:=lpick_any ee m wz hee.1 hee.2 (by omega) (by omega)
  rw [hj] at h
  exact h
 have a0:∀ O,(w.alloc O).cell? ⟨wb,0,none⟩=some (.slice (some ⟨gl,0,none⟩) m cl):=fun O=>(World.cell?_alloc_past O _ _ hwb).trans c0
 have a1:∀ O,(w.alloc O).cell? ⟨gl,j * 2,none⟩=some (.pointer (some ⟨xb,0,none⟩)):=fun O=>(World.cell?_alloc_past O _ _ hgl).trans r0
 have a2:∀ O,(w.alloc O).cell? ⟨gl,j * 2 + 1,none⟩=some (.pointer (some ⟨yb,0,none⟩)):=fun O=>(World.cell?_alloc_past O _ _ hgl).trans r1
 clear c0 r0 r1 hj
 have hm1:¬ ((m:Int)=0):=by omega
 have hjm2:(j:Int) < (m:Int):=by omega
 go_enter Tryz.func12,Tryz.ntmps12
 go_wp2_with fail
 go_region_held3 (fun w'=>w'.cell? ⟨wb,0,none⟩=some (.slice (some ⟨gl,0,none⟩) m cl)∧w'.cell? ⟨gl,j * 2,none⟩=some (.pointer (some ⟨xb,0,none⟩))∧w'.cell? ⟨gl,j * 2 + 1,none⟩=some (.pointer (some ⟨yb,0,none⟩))∧w'.cell? ⟨w.heap.size,1,none⟩=some (.int .i64 ee)) (first | go_keep | assumption) (first | (go_at_call 19;refine (HP.out _).mono ?_;rintro e w1 ⟨rfl,rfl⟩))
 all_goals
  go_wp2_with fail
  refine (HC.out _ ?_).mono ?_
  ·repeat' first | with_reducible exact Below.refl _ _ | with_reducible refine Below.drew ?_ | with_reducible refine Below.alloc ?_ ?_ _
   all_goals (simp;try omega)
  ·rintro e w1 ⟨rfl,q⟩
   have HQ:=hide q
   clear q
   go_wp2
   go_ret
   exact ⟨rfl,HQ.out⟩
end Go.Proofs.YtajphdppmdoalaaGreat
