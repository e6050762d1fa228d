import Derived.Test.YtajphdppmdoalaaGreatZADFtoDO
import Derived.Deep.RegionHeld3
import Derived.Test.YtajphdppmdoalaaGreatZADBtoDB
import Derived.Test.YtajphdppmdoalaaGreatZADEtoBD
set_option maxRecDepth 100000
set_option maxHeartbeats 6400000
set_option linter.unusedVariables false
namespace Go.Proofs.YtajphdppmdoalaaGreat
open Go.RowKit
theorem step_k12 (wb gl m cl xb yb j:Nat) (ee aa bb src dst proto id off:Int) (more:Bool) (sport dport:Int) (dso:Option Addr) (dsn dsc:Nat) (ao:Option Addr) (n cap:Nat) (w:World) (Q:World→Prop) (hee:-9223372036854775808≤ee∧ee≤9223372036854775807) (hm:0 < m) (hm2:m≤2000000000000) (hj:pk ee m=(j:Int)) (hjm:j < m)
  (c0:w.cell? ⟨wb,0,none⟩=some (.slice (some ⟨gl,0,none⟩) m cl)) (r0:w.cell? ⟨gl,j * 2,none⟩=some (.pointer (some ⟨xb,0,none⟩))) (r1:w.cell? ⟨gl,j * 2 + 1,none⟩=some (.pointer (some ⟨yb,0,none⟩))) (hwb:wb < w.heap.size) (hgl:gl < w.heap.size)
  (HC:Hid (∀ wz,Below w.heap.size w wz→Calls Tryz.prog 22 #[.agg #[.pointer (some ⟨xb,0,none⟩),.pointer (some ⟨yb,0,none⟩)],.agg #[.int .i64 12,.int .i64 ee,.int .i64 aa,.int .i64 bb,.int .u16 src,.int .u16 dst,.int .u8 proto,.int .u16 id,.int .u8 off,.bool more,.int .u16 sport,.int .u16 dport,.slice dso dsn dsc,.slice ao n cap]] wz fun e w'=>e=.returned (.bool true)∧Q w')) :
  Calls Tryz.prog 12 #[.pointer (some ⟨wb,0,none⟩),.agg #[.int .i64 12,.int .i64 ee,.int .i64 aa,.int .i64 bb,.int .u16 src,.int .u16 dst,.int .u8 proto,.int .u16 id,.int .u8 off,.bool more,.int .u16 sport,.int .u16 dport,.slice dso dsn dsc,.slice ao n cap]] w fun e w'=>e=.returned (.bool true)∧Q w':=by
 have HP:Hid (∀ wz,Calls Tryz.prog 19 #[.int .i64 ee,.int .i64 (m:Int)] wz fun e w'=>e=.returned (.int .i64 (j:Int))∧w'=wz):=by
  intro wz
  have h:=lpick_any ee m wz hee.1 hee.2 (by omega) (by omega)
  rw [hj] at h
  exact h
 have a0:∀ O,(w.alloc O).cell? ⟨wb,0,none⟩=some (.slice (some ⟨gl,0,none⟩) m cl):=fun O=>(World.cell?_alloc_past O _ _ hwb).trans c0
 have a1:∀ O,(w.alloc O).cell? ⟨gl,j * 2,none⟩=some (.pointer (some ⟨xb,0,none⟩)):=fun O=>(World.cell?_alloc_past O _ _ hgl).trans r0
 have a2:∀ O,(w.alloc O).cell? ⟨gl,j * 2 + 1,none⟩=some (.pointer (some ⟨yb,0,none⟩)):=fun O=>(World.cell?_alloc_past O _ _ hgl).trans r1
 clear c0 r0 r1 hj
 have hm1:¬ ((m:Int)=0):=by omega
 have hjm2:(j:Int) < (m:Int):=by omega
 go_enter Tryz.func12,Tryz.ntmps12
 go_wp2_with fail
 go_region_held3 (fun w'=>w'.cell? ⟨wb,0,none⟩=some (.slice (some ⟨gl,0,none⟩) m cl)∧w'.cell? ⟨gl,j * 2,none⟩=some (.pointer (some ⟨xb,0,none⟩))∧w'.cell? ⟨gl,j * 2 + 1,none⟩=some (.pointer (some ⟨yb,0,none⟩))∧w'.cell? ⟨w.heap.size,1,none⟩=some (.int .i64 ee)) (first | go_keep | assumption) (first | (go_at_call 19;refine (HP.out _).mono ?_;rintro e w1 ⟨rfl,rfl⟩))
 all_goals
  go_wp2_with fail
  refine (HC.out _ ?_).mono ?_
  ·repeat' first | with_reducible exact Below.refl _ _ | with_reducible refine Below.drew ?_ | with_reducible refine Below.alloc ?_ ?_ _
   all_goals (simp;try omega)
  ·rintro e w1 ⟨rfl,q⟩
   have HQ:=hide q
   clear q
   go_wp2
   go_ret
   exact ⟨rfl,HQ.out⟩
theorem step_k13 (wb gl m cl xb yb j:Nat) (ee aa bb src dst proto id off:Int) (more:Bool) (sport dport:Int) (dso:Option Addr) (dsn dsc:Nat) (ao:Option Addr) (n cap:Nat) (w:World) (Q:World→Prop) (hee:-9223372036854775808≤ee∧ee≤9223372036854775807) (hm:0 < m) (hm2:m≤2000000000000) (hj:pk ee m=(j:Int)) (hjm:j < m)
  (c0:w.cell? ⟨wb,0,none⟩=some (.slice (some ⟨gl,0,none⟩) m cl)) (r0:w.cell? ⟨gl,j * 2,none⟩=some (.pointer (some ⟨xb,0,none⟩))) (r1:w.cell? ⟨gl,j * 2 + 1,none⟩=some (.pointer (some ⟨yb,0,none⟩))) (hwb:wb < w.heap.size) (hgl:gl < w.heap.size)
  (HC:Hid (∀ wz,Below w.heap.size w wz→Calls Tryz.prog 22 #[.agg #[.pointer (some ⟨xb,0,none⟩),.pointer (some ⟨yb,0,none⟩)],.agg #[.int .i64 13,.int .i64 ee,.int .i64 aa,.int .i64 bb,.int .u16 src,.int .u16 dst,.int .u8 proto,.int .u16 id,.int .u8 off,.bool more,.int .u16 sport,.int .u16 dport,.slice dso dsn dsc,.slice ao n cap]] wz fun e w'=>e=.returned (.bool true)∧Q w')) :
  Calls Tryz.prog 12 #[.pointer (some ⟨wb,0,none⟩),.agg #[.int .i64 13,.int .i64 ee,.int .i64 aa,.int .i64 bb,.int .u16 src,.int .u16 dst,.int .u8 proto,.int .u16 id,.int .u8 off,.bool more,.int .u16 sport,.int .u16 dport,.slice dso dsn dsc,.slice ao n cap]] w fun e w'=>e=.returned (.bool true)∧Q w':=by
 have HP:Hid (∀ wz,Calls Tryz.prog 19 #[.int .i64 ee,.int .i64 (m:Int)] wz fun e w'=>e=.returned (.int .i64 (j:Int))∧w'=wz):=by
  intro wz
  have h:=lpick_any ee m wz hee.1 hee.2 (by omega) (by omega)
  rw [hj] at h
  exact h
 have a0:∀ O,(w.alloc O).cell? ⟨wb,0,none⟩=some (.slice (some ⟨gl,0,none⟩) m cl):=fun O=>(World.cell?_alloc_past O _ _ hwb).trans c0
 have a1:∀ O,(w.alloc O).cell? ⟨gl,j * 2,none⟩=some (.pointer (some ⟨xb,0,none⟩)):=fun O=>(World.cell?_alloc_past O _ _ hgl).trans r0
 have a2:∀ O,(w.alloc O).cell? ⟨gl,j * 2 + 1,none⟩=some (.pointer (some ⟨yb,0,none⟩)):=fun O=>(World.cell?_alloc_past O _ _ hgl).trans r1
 clear c0 r0 r1 hj
 have hm1:¬ ((m:Int)=0):=by omega
 have hjm2:(j:Int) < (m:Int):=by omega
 go_enter Tryz.func12,Tryz.ntmps12
 go_wp2_with fail
 go_region_held3 (fun w'=>w'.cell? ⟨wb,0,none⟩=some (.slice (some ⟨gl,0,none⟩) m cl)∧w'.cell? ⟨gl,j * 2,none⟩=some (.pointer (some ⟨xb,0,none⟩))∧w'.cell? ⟨gl,j * 2 + 1,none⟩=some (.pointer (some ⟨yb,0,none⟩))∧w'.cell? ⟨w.heap.size,1,none⟩=some (.int .i64 ee)) (first | go_keep | assumption) (first | (go_at_call 19;refine (HP.out _).mono ?_;rintro e w1 ⟨rfl,rfl⟩))
 all_goals
  go_wp2_with fail
  refine (HC.out _ ?_).mono ?_
  ·repeat' first | with_reducible exact Below.refl _ _ | with_reducible refine Below.drew ?_ | with_reducible refine Below.alloc ?_ ?_ _
   all_goals (simp;try omega)
  ·rintro e w1 ⟨rfl,q⟩
   have HQ:=hide q
   clear q
   go_wp2
   go_ret
   exact ⟨rfl,HQ.out⟩
theorem step_k14 (wb gl m cl xb yb j:Nat) (ee aa bb src dst proto id off:Int) (more:Bool) (sport dport:Int) (dso:Option Addr) (dsn dsc:Nat) (ao:Option Addr) (n cap:Nat) (w:World) (Q:World→Prop) (hee:-9223372036854775808≤ee∧ee≤9223372036854775807) (hm:0 < m) (hm2:m≤2000000000000) (hj:pk ee m=(j:Int)) (hjm:j < m)
  (c0:w.cell? ⟨wb,0,none⟩=some (.slice (some ⟨gl,0,none⟩) m cl)) (r0:w.cell? ⟨gl,j * 2,none⟩=some (.pointer (some ⟨xb,0,none⟩))) (r1:w.cell? ⟨gl,j * 2 + 1,none⟩=some (.pointer (some ⟨yb,0,none⟩))) (hwb:wb < w.heap.size) (hgl:gl < w.heap.size)
  (HC:Hid (∀ wz,Below w.heap.size w wz→Calls Tryz.prog 22 #[.agg #[.pointer (some ⟨xb,0,none⟩),.pointer (some ⟨yb,0,none⟩)],.agg #[.int .i64 14,.int .i64 ee,.int .i64 aa,.int .i64 bb,.int .u16 src,.int .u16 dst,.int .u8 proto,.int .u16 id,.int .u8 off,.bool more,.int .u16 sport,.int .u16 dport,.slice dso dsn dsc,.slice ao n cap]] wz fun e w'=>e=.returned (.bool true)∧Q w')) :
  Calls Tryz.prog 12 #[.pointer (some ⟨wb,0,none⟩),.agg #[.int .i64 14,.int .i64 ee,.int .i64 aa,.int .i64 bb,.int .u16 src,.int .u16 dst,.int .u8 proto,.int .u16 id,.int .u8 off,.bool more,.int .u16 sport,.int .u16 dport,.slice dso dsn dsc,.slice ao n cap]] w fun e w'=>e=.returned (.bool true)∧Q w':=by
 have HP:Hid (∀ wz,Calls Tryz.prog 19 #[.int .i64 ee,.int .i64 (m:Int)] wz fun e w'=>e=.returned (.int .i64 (j:Int))∧w'=wz):=by
  intro wz
  have h:=lpick_any ee m wz hee.1 hee.2 (by omega) (by omega)
  rw [hj] at h
  exact h
 have a0:∀ O,(w.alloc O).cell? ⟨wb,0,none⟩=some (.slice (some ⟨gl,0,none⟩) m cl):=fun O=>(World.cell?_alloc_past O _ _ hwb).trans c0
 have a1:∀ O,(w.alloc O).cell? ⟨gl,j * 2,none⟩=some (.pointer (some ⟨xb,0,none⟩)):=fun O=>(World.cell?_alloc_past O _ _ hgl).trans r0
 have a2:∀ O,(w.alloc O).cell? ⟨gl,j * 2 + 1,none⟩=some (.pointer (some ⟨yb,0,none⟩)):=fun O=>(World.cell?_alloc_past O _ _ hgl).trans r1
 clear c0 r0 r1 hj
 have hm1:¬ ((m:Int)=0):=by omega
 have hjm2:(j:Int) < (m:Int):=by omega
 go_enter Tryz.func12,Tryz.ntmps12
 go_wp2_with fail
 go_region_held3 (fun w'=>w'.cell? ⟨wb,0,none⟩=some (.slice (some ⟨gl,0,none⟩) m cl)∧w'.cell? ⟨gl,j * 2,none⟩=some (.pointer (some ⟨xb,0,none⟩))∧w'.cell? ⟨gl,j * 2 + 1,none⟩=some (.pointer (some ⟨yb,0,none⟩))∧w'.cell? ⟨w.heap.size,1,none⟩=some (.int .i64 ee)) (first | go_keep | assumption) (first | (go_at_call 19;refine (HP.out _).mono ?_;rintro e w1 ⟨rfl,rfl⟩))
 all_goals
  go_wp2_with fail
  refine (HC.out _ ?_).mono ?_
  ·repeat' first | with_reducible exact Below.refl _ _ | with_reducible refine Below.drew ?_ | with_reducible refine Below.alloc ?_ ?_ _
   all_goals (simp;try omega)
  ·rintro e w1 ⟨rfl,q⟩
   have HQ:=hide q
   clear q
   go_wp2
   go_ret
   exact ⟨rfl,HQ.out⟩
def StepW (K:Int):Prop:=∀ (w0 w:World) (wb c t:Nat) (vl:Value) (G:Nat→Prop) (L:List Pr) (b o:Nat) (ee aa bb src dst proto id off:Int) (more:Bool) (sport dport:Int) (dso:Option Addr) (dsn dsc:Nat) (ds:List Int) (ao:Option Addr) (n cap:Nat) (zs:List Int),
 StepIs w0 b o K ee aa bb src dst proto id off more sport dport dso dsn dsc ds ao n cap zs→Wd w0 w wb c t vl G L→0 < L.length→c≤1466015503700→t≤1800000000000 →
 Calls Tryz.prog 12 #[.pointer (some ⟨wb,0,none⟩),.agg #[.int .i64 K,.int .i64 ee,.int .i64 aa,.int .i64 bb,.int .u16 src,.int .u16 dst,.int .u8 proto,.int .u16 id,.int .u8 off,.bool more,.int .u16 sport,.int .u16 dport,.slice dso dsn dsc,.slice ao n cap]] w fun e w'=>e=.returned (.bool true)∧WNxt w0 wb c t L w'
theorem stepw_7:StepW 7:=by
 intro w0 w wb c t vl G L b o ee aa bb src dst proto id off more sport dport dso dsn dsc ds ao n cap zs hst h hL hc ht
 obtain ⟨gl,cl,rfl⟩:=own_some h.row hL
 obtain ⟨j,hjm,hj⟩:=pk_in ee L.length hL
 obtain ⟨p,hp⟩:∃ p,L[j]?=some p:=⟨_,List.getElem?_eq_getElem hjm⟩
 have r0:w.cell? ⟨gl,j * 2,none⟩=some (.pointer (some ⟨p.xb,0,none⟩)):=row_get Pr.cells (fun _=>rfl) h.row j p hp 0 _ rfl
 have r1:w.cell? ⟨gl,j * 2 + 1,none⟩=some (.pointer (some ⟨p.yb,0,none⟩)):=row_get Pr.cells (fun _=>rfl) h.row j p hp 1 _ rfl
 have hlen:=h.len
 refine step_k7 wb gl L.length cl p.xb p.yb j ee aa bb src dst proto id off more sport dport dso dsn dsc ao n cap w (WNxt w0 wb c t L) hst.ee0 hL (by omega) hj hjm h.book.cell r0 r1 (h.book.flt.2 wb h.book.flt.1) (own_ltS h.row gl rfl) (hide fun wz hbz=>?_)
 have h2:=h.below hbz
 have hok:=h2.ok j p hp
 have hnx:=hok.next
 have hnow:=hok.now
 refine (pair_choose p.xb p.yb ee aa bb src dst proto id off more sport dport dso dsn dsc ao n cap wz p.S p.F1 p.F2 hok.tw hok.good hst.src0 hst.dst0 hst.proto0 hst.id0 hst.off0 hst.sport0 hst.dport0).mono ?_
 rintro e w' ⟨rfl,S',hA,hn⟩
 exact ⟨rfl,h2.step j p hp S' hA hn⟩
theorem stepw_11:StepW 11:=by
 intro w0 w wb c t vl G L b o ee aa bb src dst proto id off more sport dport dso dsn dsc ds ao n cap zs hst h hL hc ht
 obtain ⟨gl,cl,rfl⟩:=own_some h.row hL
 obtain ⟨j,hjm,hj⟩:=pk_in ee L.length hL
 obtain ⟨p,hp⟩:∃ p,L[j]?=some p:=⟨_,List.getElem?_eq_getElem hjm⟩
 have r0:w.cell? ⟨gl,j * 2,none⟩=some (.pointer (some ⟨p.xb,0,none⟩)):=row_get Pr.cells (fun _=>rfl) h.row j p hp 0 _ rfl
 have r1:w.cell? ⟨gl,j * 2 + 1,none⟩=some (.pointer (some ⟨p.yb,0,none⟩)):=row_get Pr.cells (fun _=>rfl) h.row j p hp 1 _ rfl
 have hlen:=h.len
 refine step_k11 wb gl L.length cl p.xb p.yb j ee aa bb src dst proto id off more sport dport dso dsn dsc ao n cap w (WNxt w0 wb c t L) hst.ee0 hL (by omega) hj hjm h.book.cell r0 r1 (h.book.flt.2 wb h.book.flt.1) (own_ltS h.row gl rfl) (hide fun wz hbz=>?_)
 have h2:=h.below hbz
 have hok:=h2.ok j p hp
 have hnx:=hok.next
 have hnow:=hok.now
 refine (pair_deliver p.xb p.yb ee aa bb src dst proto id off more sport dport dso dsn dsc ao n cap wz p.S p.F1 p.F2 hok.tw hok.good (by omega)).mono ?_
 rintro e w' ⟨rfl,S',hA,hn⟩
 exact ⟨rfl,h2.step j p hp S' hA hn⟩
theorem stepw_12:StepW 12:=by
 intro w0 w wb c t vl G L b o ee aa bb src dst proto id off more sport dport dso dsn dsc ds ao n cap zs hst h hL hc ht
 obtain ⟨gl,cl,rfl⟩:=own_some h.row hL
 obtain ⟨j,hjm,hj⟩:=pk_in ee L.length hL
 obtain ⟨p,hp⟩:∃ p,L[j]?=some p:=⟨_,List.getElem?_eq_getElem hjm⟩
 have r0:w.cell? ⟨gl,j * 2,none⟩=some (.pointer (some ⟨p.xb,0,none⟩)):=row_get Pr.cells (fun _=>rfl) h.row j p hp 0 _ rfl
 have r1:w.cell? ⟨gl,j * 2 + 1,none⟩=some (.pointer (some ⟨p.yb,0,none⟩)):=row_get Pr.cells (fun _=>rfl) h.row j p hp 1 _ rfl
 have hlen:=h.len
 refine step_k12 wb gl L.length cl p.xb p.yb j ee aa bb src dst proto id off more sport dport dso dsn dsc ao n cap w (WNxt w0 wb c t L) hst.ee0 hL (by omega) hj hjm h.book.cell r0 r1 (h.book.flt.2 wb h.book.flt.1) (own_ltS h.row gl rfl) (hide fun wz hbz=>?_)
 have h2:=h.below hbz
 have hok:=h2.ok j p hp
 have hnx:=hok.next
 have hnow:=hok.now
 refine (pair_lose p.xb p.yb ee aa bb src dst proto id off more sport dport dso dsn dsc ao n cap wz p.S p.F1 p.F2 hok.tw hok.good (by omega)).mono ?_
 rintro e w' ⟨rfl,S',hA,hn⟩
 exact ⟨rfl,h2.step j p hp S' hA hn⟩
theorem stepw_13:StepW 13:=by
 intro w0 w wb c t vl G L b o ee aa bb src dst proto id off more sport dport dso dsn dsc ds ao n cap zs hst h hL hc ht
 obtain ⟨gl,cl,rfl⟩:=own_some h.row hL
 obtain ⟨j,hjm,hj⟩:=pk_in ee L.length hL
 obtain ⟨p,hp⟩:∃ p,L[j]?=some p:=⟨_,List.getElem?_eq_getElem hjm⟩
 have r0:w.cell? ⟨gl,j * 2,none⟩=some (.pointer (some ⟨p.xb,0,none⟩)):=row_get Pr.cells (fun _=>rfl) h.row j p hp 0 _ rfl
 have r1:w.cell? ⟨gl,j * 2 + 1,none⟩=some (.pointer (some ⟨p.yb,0,none⟩)):=row_get Pr.cells (fun _=>rfl) h.row j p hp 1 _ rfl
 have hlen:=h.len
 refine step_k13 wb gl L.length cl p.xb p.yb j ee aa bb src dst proto id off more sport dport dso dsn dsc ao n cap w (WNxt w0 wb c t L) hst.ee0 hL (by omega) hj hjm h.book.cell r0 r1 (h.book.flt.2 wb h.book.flt.1) (own_ltS h.row gl rfl) (hide fun wz hbz=>?_)
 have h2:=h.below hbz
 have hok:=h2.ok j p hp
 have hnx:=hok.next
 have hnow:=hok.now
 refine (pair_held p.xb p.yb ee aa bb src dst proto id off more sport dport dso dsn dsc ao n cap wz p.S p.F1 p.F2 hok.tw hok.good).mono ?_
 rintro e w' ⟨rfl,S',hA,hn⟩
 exact ⟨rfl,h2.step j p hp S' hA hn⟩
theorem stepw_14:StepW 14:=by
 intro w0 w wb c t vl G L b o ee aa bb src dst proto id off more sport dport dso dsn dsc ds ao n cap zs hst h hL hc ht
 obtain ⟨gl,cl,rfl⟩:=own_some h.row hL
 obtain ⟨j,hjm,hj⟩:=pk_in ee L.length hL
 obtain ⟨p,hp⟩:∃ p,L[j]?=some p:=⟨_,List.getElem?_eq_getElem hjm⟩
 have r0:w.cell? ⟨gl,j * 2,none⟩=some (.pointer (some ⟨p.xb,0,none⟩)):=row_get Pr.cells (fun _=>rfl) h.row j p hp 0 _ rfl
 have r1:w.cell? ⟨gl,j * 2 + 1,none⟩=some (.pointer (some ⟨p.yb,0,none⟩)):=row_get Pr.cells (fun _=>rfl) h.row j p hp 1 _ rfl
 have hlen:=h.len
 refine step_k14 wb gl L.length cl p.xb p.yb j ee aa bb src dst proto id off more sport dport dso dsn dsc ao n cap w (WNxt w0 wb c t L) hst.ee0 hL (by omega) hj hjm h.book.cell r0 r1 (h.book.flt.2 wb h.book.flt.1) (own_ltS h.row gl rfl) (hide fun wz hbz=>?_)
 have h2:=h.below hbz
 have hok:=h2.ok j p hp
 have hnx:=hok.next
 have hnow:=hok.now
 refine (pair_tick p.xb p.yb ee aa bb src dst proto id off more sport dport dso dsn dsc ao n cap wz p.S p.F1 p.F2 hok.tw hok.good (by omega) (by omega)).mono ?_
 rintro e w' ⟨rfl,S',hA,hn⟩
 exact ⟨rfl,h2.step j p hp S' hA hn⟩
theorem stepw_6:StepW 6:=by
 intro w0 w wb c t vl G L b o ee aa bb src dst proto id off more sport dport dso dsn dsc ds ao n cap zs hst h hL hc ht
 obtain ⟨gl,cl,rfl⟩:=own_some h.row hL
 obtain ⟨j,hjm,hj⟩:=pk_in ee L.length hL
 obtain ⟨p,hp⟩:∃ p,L[j]?=some p:=⟨_,List.getElem?_eq_getElem hjm⟩
 have r0:w.cell? ⟨gl,j * 2,none⟩=some (.pointer (some ⟨p.xb,0,none⟩)):=row_get Pr.cells (fun _=>rfl) h.row j p hp 0 _ rfl
 have r1:w.cell? ⟨gl,j * 2 + 1,none⟩=some (.pointer (some ⟨p.yb,0,none⟩)):=row_get Pr.cells (fun _=>rfl) h.row j p hp 1 _ rfl
 have hlen:=h.len
 refine step_k6 wb gl L.length cl p.xb p.yb j ee aa bb src dst proto id off more sport dport dso dsn dsc ao n cap w (WNxt w0 wb c t L) hst.ee0 hL (by omega) hj hjm h.book.cell r0 r1 (h.book.flt.2 wb h.book.flt.1) (own_ltS h.row gl rfl) (hide fun wz hbz=>?_)
 have h2:=h.below hbz
 have hok:=h2.ok j p hp
 have hnx:=hok.next
 have hnow:=hok.now
 obtain ⟨y1,y2,y3,y4,y5,y6,y7⟩:=hst.bytes
 refine (pair_backends p.xb p.yb ee aa bb src dst proto id off more sport dport dso dsn dsc ao n cap wz zs p.S p.F1 p.F2 hok.tw hok.good y1 (y2.below h2.bel) y4 y3 y6 y7 y5 ?_).mono ?_
 ·intro hz a ha hk
  obtain ⟨b2,o2,e1,e2,_⟩:=y2.2 hz
  rw [ha] at e1
  simp only [Option.some.injEq] at e1
  subst e1
  have:=(h2.ap j p hp _ hk).2.2
  simp only at this
  omega
 rintro e w' ⟨rfl,S',hA,hn⟩
 exact ⟨rfl,h2.step j p hp S' hA hn⟩
theorem stepw_8:StepW 8:=by
 intro w0 w wb c t vl G L b o ee aa bb src dst proto id off more sport dport dso dsn dsc ds ao n cap zs hst h hL hc ht
 obtain ⟨gl,cl,rfl⟩:=own_some h.row hL
 obtain ⟨j,hjm,hj⟩:=pk_in ee L.length hL
 obtain ⟨p,hp⟩:∃ p,L[j]?=some p:=⟨_,List.getElem?_eq_getElem hjm⟩
 have r0:w.cell? ⟨gl,j * 2,none⟩=some (.pointer (some ⟨p.xb,0,none⟩)):=row_get Pr.cells (fun _=>rfl) h.row j p hp 0 _ rfl
 have r1:w.cell? ⟨gl,j * 2 + 1,none⟩=some (.pointer (some ⟨p.yb,0,none⟩)):=row_get Pr.cells (fun _=>rfl) h.row j p hp 1 _ rfl
 have hlen:=h.len
 refine step_k8 wb gl L.length cl p.xb p.yb j ee aa bb src dst proto id off more sport dport dso dsn dsc ao n cap w (WNxt w0 wb c t L) hst.ee0 hL (by omega) hj hjm h.book.cell r0 r1 (h.book.flt.2 wb h.book.flt.1) (own_ltS h.row gl rfl) (hide fun wz hbz=>?_)
 have h2:=h.below hbz
 have hok:=h2.ok j p hp
 have hnx:=hok.next
 have hnow:=hok.now
 obtain ⟨y1,y2,y3,y4,y5,y6,y7⟩:=hst.bytes
 refine (pair_arrive p.xb p.yb ee aa bb src dst proto id off more sport dport dso dsn dsc ao n cap wz zs p.S p.F1 p.F2 hok.tw hok.good y1 (y2.below h2.bel) y4 y3 y6 y7 y5 ?_ (by omega)).mono ?_
 ·intro hz a ha hk
  obtain ⟨b2,o2,e1,e2,_⟩:=y2.2 hz
  rw [ha] at e1
  simp only [Option.some.injEq] at e1
  subst e1
  have:=(h2.ap j p hp _ hk).2.2
  simp only at this
  omega
 rintro e w' ⟨rfl,S',hA,hn⟩
 exact ⟨rfl,h2.step j p hp S' hA hn⟩
theorem stepw_9:StepW 9:=by
 intro w0 w wb c t vl G L b o ee aa bb src dst proto id off more sport dport dso dsn dsc ds ao n cap zs hst h hL hc ht
 obtain ⟨gl,cl,rfl⟩:=own_some h.row hL
 obtain ⟨j,hjm,hj⟩:=pk_in ee L.length hL
 obtain ⟨p,hp⟩:∃ p,L[j]?=some p:=⟨_,List.getElem?_eq_getElem hjm⟩
 have r0:w.cell? ⟨gl,j * 2,none⟩=some (.pointer (some ⟨p.xb,0,none⟩)):=row_get Pr.cells (fun _=>rfl) h.row j p hp 0 _ rfl
 have r1:w.cell? ⟨gl,j * 2 + 1,none⟩=some (.pointer (some ⟨p.yb,0,none⟩)):=row_get Pr.cells (fun _=>rfl) h.row j p hp 1 _ rfl
 have hlen:=h.len
 refine step_k9 wb gl L.length cl p.xb p.yb j ee aa bb src dst proto id off more sport dport dso dsn dsc ao n cap w (WNxt w0 wb c t L) hst.ee0 hL (by omega) hj hjm h.book.cell r0 r1 (h.book.flt.2 wb h.book.flt.1) (own_ltS h.row gl rfl) (hide fun wz hbz=>?_)
 have h2:=h.below hbz
 have hok:=h2.ok j p hp
 have hnx:=hok.next
 have hnow:=hok.now
 exact world_take ee aa bb src dst proto id off more sport dport dso dsn dsc ao n cap w0 wz wb c t _ G L j p h2 hp hc ht
theorem stepw_10:StepW 10:=by
 intro w0 w wb c t vl G L b o ee aa bb src dst proto id off more sport dport dso dsn dsc ds ao n cap zs hst h hL hc ht
 obtain ⟨gl,cl,rfl⟩:=own_some h.row hL
 obtain ⟨j,hjm,hj⟩:=pk_in ee L.length hL
 obtain ⟨p,hp⟩:∃ p,L[j]?=some p:=⟨_,List.getElem?_eq_getElem hjm⟩
 have r0:w.cell? ⟨gl,j * 2,none⟩=some (.pointer (some ⟨p.xb,0,none⟩)):=row_get Pr.cells (fun _=>rfl) h.row j p hp 0 _ rfl
 have r1:w.cell? ⟨gl,j * 2 + 1,none⟩=some (.pointer (some ⟨p.yb,0,none⟩)):=row_get Pr.cells (fun _=>rfl) h.row j p hp 1 _ rfl
 have hlen:=h.len
 refine step_k10 wb gl L.length cl p.xb p.yb j ee aa bb src dst proto id off more sport dport dso dsn dsc ao n cap w (WNxt w0 wb c t L) hst.ee0 hL (by omega) hj hjm h.book.cell r0 r1 (h.book.flt.2 wb h.book.flt.1) (own_ltS h.row gl rfl) (hide fun wz hbz=>?_)
 have h2:=h.below hbz
 have hok:=h2.ok j p hp
 have hnx:=hok.next
 have hnow:=hok.now
 exact world_flying ee aa bb src dst proto id off more sport dport dso dsn dsc ao n cap w0 wz wb c t _ G L j p h2 hp hc ht
theorem step_k5 (wb:Nat) (ee aa bb src dst proto id off:Int) (more:Bool) (sport dport:Int) (dso:Option Addr) (dsn dsc:Nat) (ao:Option Addr) (n cap:Nat) (w:World) (Q:World→Prop)
  (HC:Hid (Calls Tryz.prog 11 #[.pointer (some ⟨wb,0,none⟩),.agg #[.int .i64 5,.int .i64 ee,.int .i64 aa,.int .i64 bb,.int .u16 src,.int .u16 dst,.int .u8 proto,.int .u16 id,.int .u8 off,.bool more,.int .u16 sport,.int .u16 dport,.slice dso dsn dsc,.slice ao n cap]] (w.alloc (.cells #[.int .i64 5,.int .i64 ee,.int .i64 aa,.int .i64 bb,.int .u16 src,.int .u16 dst,.int .u8 proto,.int .u16 id,.int .u8 off,.bool more,.int .u16 sport,.int .u16 dport,.slice dso dsn dsc,.slice ao n cap] 42)) fun e w'=>e=.returned (.bool true)∧Q w')) :
  Calls Tryz.prog 12 #[.pointer (some ⟨wb,0,none⟩),.agg #[.int .i64 5,.int .i64 ee,.int .i64 aa,.int .i64 bb,.int .u16 src,.int .u16 dst,.int .u8 proto,.int .u16 id,.int .u8 off,.bool more,.int .u16 sport,.int .u16 dport,.slice dso dsn dsc,.slice ao n cap]] w fun e w'=>e=.returned (.bool true)∧Q w':=by
 go_enter Tryz.func12,Tryz.ntmps12
 go_wp2_with fail
 refine HC.out.mono ?_
 rintro e w1 ⟨rfl,q⟩
 have HQ:=hide q
 clear q HC
 go_wp2
 go_ret
 exact ⟨rfl,HQ.out⟩
theorem stepw_5:StepW 5:=by
 intro w0 w wb c t vl G L b o ee aa bb src dst proto id off more sport dport dso dsn dsc ds ao n cap zs hst h hL hc ht
 have h2:=h.below ((Below.refl _ _).alloc (Nat.le_refl _) (.cells #[.int .i64 5,.int .i64 ee,.int .i64 aa,.int .i64 bb,.int .u16 src,.int .u16 dst,.int .u8 proto,.int .u16 id,.int .u8 off,.bool more,.int .u16 sport,.int .u16 dport,.slice dso dsn dsc,.slice ao n cap] 42))
 refine step_k5 wb ee aa bb src dst proto id off more sport dport dso dsn dsc ao n cap w (WNxt w0 wb c t L) (hide ?_)
 refine (world_begins ee aa bb src dst proto id off more sport dport dso dsn dsc ao n cap w0 (w.alloc (.cells #[.int .i64 5,.int .i64 ee,.int .i64 aa,.int .i64 bb,.int .u16 src,.int .u16 dst,.int .u8 proto,.int .u16 id,.int .u8 off,.bool more,.int .u16 sport,.int .u16 dport,.slice dso dsn dsc,.slice ao n cap] 42)) wb c t vl G L h2 ht).mono ?_
 rintro e w' ⟨rfl,vl',L',h3,h4⟩
 refine ⟨rfl,c,vl',G,L',by omega,?_,h3⟩
 rcases h4 with ⟨_,h4⟩ | ⟨_,h4⟩
 ·omega
 ·rw [h4]
  exact Nat.le_refl _
end Go.Proofs.YtajphdppmdoalaaGreat
