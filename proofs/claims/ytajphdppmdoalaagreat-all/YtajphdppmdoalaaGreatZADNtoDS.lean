import Derived.Test.YtajphdppmdoalaaGreatZADPtoDH
import Derived.Test.YtajphdppmdoalaaGreatZADKtoDK
import Derived.Test.YtajphdppmdoalaaGreatZADLtoDL
import Derived.Test.YtajphdppmdoalaaGreatZAJDtoX2
import Derived.Test.YtajphdppmdoalaaGreatZABGtoBE
import Derived.Test.YtajphdppmdoalaaGreatRows
import Derived.WalkKit
import Derived.ProofKit
import Derived.OpenShut
import Derived.ShutString
import Derived.ChangeOld
import Derived.Below
import Derived.SizedLaws
import Derived.Deep.Slices
import Derived.Test.YtajphdppmdoalaaGreatZANtoZ1
import Derived.Lib.SmallJoins
import Derived.Test.YtajphdppmdoalaaGreatZADItoDI
set_option maxRecDepth 100000
set_option maxHeartbeats 6400000
set_option linter.unusedVariables false
namespace Go.Proofs.YtajphdppmdoalaaGreat
open Go.RowKit
theorem wd_bytes {w0 w:World} {wb c t:Nat} {vl:Value} {G:Nat→Prop} {L:List Pr} (h:Wd w0 w wb c t vl G L) (hc:c≤1466015503700) (w5:World) (v:Value) (m:Nat) (zs':List Int) (hb:Below w.heap.size w w5) (hr:w5.ownsRow 0 5 1 v m (zs'.map (Value.int .u8))) (hv:∀ g,v.ownBlock=some g→w.heap.size≤g) (hm:m≤1048576) :
  Calls Tryz.prog 30 #[.pointer (some ⟨wb,1,none⟩),v] w5 fun e w'=>e=.returned (.tuple #[])∧WNxt w0 wb c t L w':=by
 have h5:=(h.below hb).mono (Nat.le_succ t)
 have hsz:=h.bel.size
 obtain ⟨vbs,ves,vfs,vkb,vke,vkf,BS,ES,FS,KB,KE,KF,hB⟩:=h5.book
 refine (bytes_all wb vl c G vbs ves vfs vkb vke vkf BS ES FS KB KE KF v m zs' w5 hB hr (fun g hg hG=>by have:=h.book.flt.2 g hG;have:=hv g hg;omega) (by omega) hc).mono ?_
 rintro e w' ⟨rfl,G',vbs',vkb',BS',KB',hB',hG',ho⟩
 refine ⟨rfl,c + 1,vl,G',L,Nat.le_refl _,Nat.le_refl _,h5.list (lv:=v) ?_ ⟨vbs',ves,vfs,vkb',vke,vkf,BS',ES,FS,KB',KE,KF,hB'⟩ hG' ho⟩
 intro g hgg
 have h7:=hv g hgg
 refine ⟨fun hvl=>by have:=own_ltS h.row g hvl;omega,by omega,own_ltS hr g hgg,fun j q hq hk=>?_⟩
 have:=(h.ok j q hq).tw.flt g hk
 omega
theorem wd_same {w0 w:World} {wb c t:Nat} {vl:Value} {G:Nat→Prop} {L:List Pr} (h:Wd w0 w wb c t vl G L) (w5:World) (hb:Below w.heap.size w w5):WNxt w0 wb c t L w5 :=
 ⟨c,vl,G,L,by omega,Nat.le_refl _,(h.below hb).mono (Nat.le_succ t)⟩
theorem step_k1 (wb:Nat) (ee aa bb src dst proto id off:Int) (more:Bool) (sport dport:Int) (dso:Option Addr) (dsn dsc:Nat) (ao:Option Addr) (n cap:Nat) (w:World) (Q:World→Prop)
  (HC:Hid (Calls Tryz.prog 16 #[.pointer (some ⟨wb,0,none⟩),.agg #[.int .i64 1,.int .i64 ee,.int .i64 aa,.int .i64 bb,.int .u16 src,.int .u16 dst,.int .u8 proto,.int .u16 id,.int .u8 off,.bool more,.int .u16 sport,.int .u16 dport,.slice dso dsn dsc,.slice ao n cap]] (w.alloc (.cells #[.int .i64 1,.int .i64 ee,.int .i64 aa,.int .i64 bb,.int .u16 src,.int .u16 dst,.int .u8 proto,.int .u16 id,.int .u8 off,.bool more,.int .u16 sport,.int .u16 dport,.slice dso dsn dsc,.slice ao n cap] 42)) fun e w'=>e=.returned (.bool true)∧Q w')) :
  Calls Tryz.prog 12 #[.pointer (some ⟨wb,0,none⟩),.agg #[.int .i64 1,.int .i64 ee,.int .i64 aa,.int .i64 bb,.int .u16 src,.int .u16 dst,.int .u8 proto,.int .u16 id,.int .u8 off,.bool more,.int .u16 sport,.int .u16 dport,.slice dso dsn dsc,.slice ao n cap]] w fun e w'=>e=.returned (.bool true)∧Q w':=by
 go_enter Tryz.func12,Tryz.ntmps12
 go_wp2_with fail
 refine HC.out.mono ?_
 rintro e w1 ⟨rfl,q⟩
 have HQ:=hide q
 clear q HC
 go_wp2
 go_ret
 exact ⟨rfl,HQ.out⟩
theorem step_k2 (wb:Nat) (ee aa bb src dst proto id off:Int) (more:Bool) (sport dport:Int) (dso:Option Addr) (dsn dsc:Nat) (ao:Option Addr) (n cap:Nat) (w:World) (Q:World→Prop)
  (HC:Hid (Calls Tryz.prog 17 #[.pointer (some ⟨wb,0,none⟩),.agg #[.int .i64 2,.int .i64 ee,.int .i64 aa,.int .i64 bb,.int .u16 src,.int .u16 dst,.int .u8 proto,.int .u16 id,.int .u8 off,.bool more,.int .u16 sport,.int .u16 dport,.slice dso dsn dsc,.slice ao n cap]] (w.alloc (.cells #[.int .i64 2,.int .i64 ee,.int .i64 aa,.int .i64 bb,.int .u16 src,.int .u16 dst,.int .u8 proto,.int .u16 id,.int .u8 off,.bool more,.int .u16 sport,.int .u16 dport,.slice dso dsn dsc,.slice ao n cap] 42)) fun e w'=>e=.returned (.bool true)∧Q w')) :
  Calls Tryz.prog 12 #[.pointer (some ⟨wb,0,none⟩),.agg #[.int .i64 2,.int .i64 ee,.int .i64 aa,.int .i64 bb,.int .u16 src,.int .u16 dst,.int .u8 proto,.int .u16 id,.int .u8 off,.bool more,.int .u16 sport,.int .u16 dport,.slice dso dsn dsc,.slice ao n cap]] w fun e w'=>e=.returned (.bool true)∧Q w':=by
 go_enter Tryz.func12,Tryz.ntmps12
 go_wp2_with fail
 refine HC.out.mono ?_
 rintro e w1 ⟨rfl,q⟩
 have HQ:=hide q
 clear q HC
 go_wp2
 go_ret
 exact ⟨rfl,HQ.out⟩
theorem step_k3 (wb:Nat) (ee aa bb src dst proto id off:Int) (more:Bool) (sport dport:Int) (dso:Option Addr) (dsn dsc:Nat) (ao:Option Addr) (n cap:Nat) (w:World) (Q:World→Prop)
  (HC:Hid (Calls Tryz.prog 18 #[.pointer (some ⟨wb,0,none⟩),.agg #[.int .i64 3,.int .i64 ee,.int .i64 aa,.int .i64 bb,.int .u16 src,.int .u16 dst,.int .u8 proto,.int .u16 id,.int .u8 off,.bool more,.int .u16 sport,.int .u16 dport,.slice dso dsn dsc,.slice ao n cap]] (w.alloc (.cells #[.int .i64 3,.int .i64 ee,.int .i64 aa,.int .i64 bb,.int .u16 src,.int .u16 dst,.int .u8 proto,.int .u16 id,.int .u8 off,.bool more,.int .u16 sport,.int .u16 dport,.slice dso dsn dsc,.slice ao n cap] 42)) fun e w'=>e=.returned (.bool true)∧Q w')) :
  Calls Tryz.prog 12 #[.pointer (some ⟨wb,0,none⟩),.agg #[.int .i64 3,.int .i64 ee,.int .i64 aa,.int .i64 bb,.int .u16 src,.int .u16 dst,.int .u8 proto,.int .u16 id,.int .u8 off,.bool more,.int .u16 sport,.int .u16 dport,.slice dso dsn dsc,.slice ao n cap]] w fun e w'=>e=.returned (.bool true)∧Q w':=by
 go_enter Tryz.func12,Tryz.ntmps12
 go_wp2_with fail
 refine HC.out.mono ?_
 rintro e w1 ⟨rfl,q⟩
 have HQ:=hide q
 clear q HC
 go_wp2
 go_ret
 exact ⟨rfl,HQ.out⟩
theorem step_k4 (wb:Nat) (ee aa bb src dst proto id off:Int) (more:Bool) (sport dport:Int) (dso:Option Addr) (dsn dsc:Nat) (ao:Option Addr) (n cap:Nat) (w:World) (Q:World→Prop)
  (HC:Hid (Calls Tryz.prog 18 #[.pointer (some ⟨wb,0,none⟩),.agg #[.int .i64 4,.int .i64 ee,.int .i64 aa,.int .i64 bb,.int .u16 src,.int .u16 dst,.int .u8 proto,.int .u16 id,.int .u8 off,.bool more,.int .u16 sport,.int .u16 dport,.slice dso dsn dsc,.slice ao n cap]] (w.alloc (.cells #[.int .i64 4,.int .i64 ee,.int .i64 aa,.int .i64 bb,.int .u16 src,.int .u16 dst,.int .u8 proto,.int .u16 id,.int .u8 off,.bool more,.int .u16 sport,.int .u16 dport,.slice dso dsn dsc,.slice ao n cap] 42)) fun e w'=>e=.returned (.bool true)∧Q w')) :
  Calls Tryz.prog 12 #[.pointer (some ⟨wb,0,none⟩),.agg #[.int .i64 4,.int .i64 ee,.int .i64 aa,.int .i64 bb,.int .u16 src,.int .u16 dst,.int .u8 proto,.int .u16 id,.int .u8 off,.bool more,.int .u16 sport,.int .u16 dport,.slice dso dsn dsc,.slice ao n cap]] w fun e w'=>e=.returned (.bool true)∧Q w':=by
 go_enter Tryz.func12,Tryz.ntmps12
 go_wp2_with fail
 refine HC.out.mono ?_
 rintro e w1 ⟨rfl,q⟩
 have HQ:=hide q
 clear q HC
 go_wp2
 go_ret
 exact ⟨rfl,HQ.out⟩
theorem stepw_1:StepW 1:=by
 intro w0 w wb c t vl G L b o ee aa bb src dst proto id off more sport dport dso dsn dsc ds ao n cap zs hst h hL hc ht
 have h2:=h.below ((Below.refl _ _).alloc (Nat.le_refl _) (.cells #[.int .i64 1,.int .i64 ee,.int .i64 aa,.int .i64 bb,.int .u16 src,.int .u16 dst,.int .u8 proto,.int .u16 id,.int .u8 off,.bool more,.int .u16 sport,.int .u16 dport,.slice dso dsn dsc,.slice ao n cap] 42))
 refine step_k1 wb ee aa bb src dst proto id off more sport dport dso dsn dsc ao n cap w (WNxt w0 wb c t L) (hide ?_)
 generalize (w.alloc (.cells #[.int .i64 1,.int .i64 ee,.int .i64 aa,.int .i64 bb,.int .u16 src,.int .u16 dst,.int .u8 proto,.int .u16 id,.int .u8 off,.bool more,.int .u16 sport,.int .u16 dport,.slice dso dsn dsc,.slice ao n cap] 42))=w2 at *
 have HY:=hide (wd_bytes h2 hc)
 have HS:=hide (wd_same h2)
 obtain ⟨y1,y2,y3,y4,y5,y6,y7⟩:=hst.data.below h2.bel
 cases dso with
 | none =>
  obtain rfl:=y2.1 rfl
  obtain rfl:dsn=0:=by simpa using y1.symm
  obtain rfl:=y5 rfl
  cases hw:wfB off more sport dport 0
  ·exact qpack_nn wb _ 1 ee aa bb src dst proto id off more sport dport ao n cap rfl w2 (WNxt w0 wb c t L) HY hst.src0.1 hst.src0.2 hst.dst0.1 hst.dst0.2 hst.proto0.1 hst.proto0.2 hst.id0.1 hst.id0.2 hst.off0.1 hst.off0.2 hst.sport0.1 hst.sport0.2 hst.dport0.1 hst.dport0.2 hw
  ·exact qpack_ny wb _ 1 ee aa bb src dst proto id off more sport dport ao n cap rfl w2 (WNxt w0 wb c t L) HY hst.src0.1 hst.src0.2 hst.dst0.1 hst.dst0.2 hst.proto0.1 hst.proto0.2 hst.id0.1 hst.id0.2 hst.off0.1 hst.off0.2 hst.sport0.1 hst.sport0.2 hst.dport0.1 hst.dport0.2 hw
 | some ad =>
  cases hw:wfB off more sport dport dsn
  ·exact qpack_sn wb _ 1 ee aa bb src dst proto id off more sport dport ad dsn dsc ds ao n cap rfl w2 (WNxt w0 wb c t L) HY hst.src0.1 hst.src0.2 hst.dst0.1 hst.dst0.2 hst.proto0.1 hst.proto0.2 hst.id0.1 hst.id0.2 hst.off0.1 hst.off0.2 hst.sport0.1 hst.sport0.2 hst.dport0.1 hst.dport0.2 y1 y2 y3 y4 hw
  ·exact qpack_sy wb _ 1 ee aa bb src dst proto id off more sport dport ad dsn dsc ds ao n cap rfl w2 (WNxt w0 wb c t L) HY hst.src0.1 hst.src0.2 hst.dst0.1 hst.dst0.2 hst.proto0.1 hst.proto0.2 hst.id0.1 hst.id0.2 hst.off0.1 hst.off0.2 hst.sport0.1 hst.sport0.2 hst.dport0.1 hst.dport0.2 y1 y2 y3 y4 hw
theorem stepw_2:StepW 2:=by
 intro w0 w wb c t vl G L b o ee aa bb src dst proto id off more sport dport dso dsn dsc ds ao n cap zs hst h hL hc ht
 have h2:=h.below ((Below.refl _ _).alloc (Nat.le_refl _) (.cells #[.int .i64 2,.int .i64 ee,.int .i64 aa,.int .i64 bb,.int .u16 src,.int .u16 dst,.int .u8 proto,.int .u16 id,.int .u8 off,.bool more,.int .u16 sport,.int .u16 dport,.slice dso dsn dsc,.slice ao n cap] 42))
 refine step_k2 wb ee aa bb src dst proto id off more sport dport dso dsn dsc ao n cap w (WNxt w0 wb c t L) (hide ?_)
 generalize (w.alloc (.cells #[.int .i64 2,.int .i64 ee,.int .i64 aa,.int .i64 bb,.int .u16 src,.int .u16 dst,.int .u8 proto,.int .u16 id,.int .u8 off,.bool more,.int .u16 sport,.int .u16 dport,.slice dso dsn dsc,.slice ao n cap] 42))=w2 at *
 have HY:=hide (wd_bytes h2 hc)
 have HS:=hide (wd_same h2)
 obtain ⟨y1,y2,y3,y4,y5,y6,y7⟩:=hst.bytes.below h2.bel
 cases ao with
 | none =>
  obtain rfl:=y2.1 rfl
  obtain rfl:n=0:=by simpa using y1.symm
  obtain rfl:=y5 rfl
  exact qunpack_ne wb 2 ee aa bb src dst proto id off more sport dport dso dsn dsc w2 (WNxt w0 wb c t L) HY (by decide)
 | some ad =>
  by_cases hup:upC zs=0
  ·exact qunpack_so wb 2 ee aa bb src dst proto id off more sport dport dso dsn dsc ad n cap zs w2 (WNxt w0 wb c t L) HY y1 y2 y3 y4 y6 y7 hup (up_len zs hup)
  ·exact qunpack_se wb 2 ee aa bb src dst proto id off more sport dport dso dsn dsc ad n cap zs w2 (WNxt w0 wb c t L) HY y1 y2 y3 y4 y6 y7 hup
theorem stepw_3:StepW 3:=by
 intro w0 w wb c t vl G L b o ee aa bb src dst proto id off more sport dport dso dsn dsc ds ao n cap zs hst h hL hc ht
 have h2:=h.below ((Below.refl _ _).alloc (Nat.le_refl _) (.cells #[.int .i64 3,.int .i64 ee,.int .i64 aa,.int .i64 bb,.int .u16 src,.int .u16 dst,.int .u8 proto,.int .u16 id,.int .u8 off,.bool more,.int .u16 sport,.int .u16 dport,.slice dso dsn dsc,.slice ao n cap] 42))
 refine step_k3 wb ee aa bb src dst proto id off more sport dport dso dsn dsc ao n cap w (WNxt w0 wb c t L) (hide ?_)
 generalize (w.alloc (.cells #[.int .i64 3,.int .i64 ee,.int .i64 aa,.int .i64 bb,.int .u16 src,.int .u16 dst,.int .u8 proto,.int .u16 id,.int .u8 off,.bool more,.int .u16 sport,.int .u16 dport,.slice dso dsn dsc,.slice ao n cap] 42))=w2 at *
 have HY:=hide (wd_bytes h2 hc)
 have HS:=hide (wd_same h2)
 obtain ⟨y1,y2,y3,y4,y5,y6,y7⟩:=hst.bytes.below h2.bel
 cases ao with
 | none =>
  obtain rfl:=y2.1 rfl
  obtain rfl:n=0:=by simpa using y1.symm
  obtain rfl:=y5 rfl
  exact qch_hn wb ee aa bb src dst proto id off more sport dport dso dsn dsc w2 (WNxt w0 wb c t L) HS
 | some ad=>exact qch_hs wb ee aa bb src dst proto id off more sport dport dso dsn dsc ad n cap zs w2 (WNxt w0 wb c t L) HS y1 y2 y3 y4
theorem stepw_4:StepW 4:=by
 intro w0 w wb c t vl G L b o ee aa bb src dst proto id off more sport dport dso dsn dsc ds ao n cap zs hst h hL hc ht
 have h2:=h.below ((Below.refl _ _).alloc (Nat.le_refl _) (.cells #[.int .i64 4,.int .i64 ee,.int .i64 aa,.int .i64 bb,.int .u16 src,.int .u16 dst,.int .u8 proto,.int .u16 id,.int .u8 off,.bool more,.int .u16 sport,.int .u16 dport,.slice dso dsn dsc,.slice ao n cap] 42))
 refine step_k4 wb ee aa bb src dst proto id off more sport dport dso dsn dsc ao n cap w (WNxt w0 wb c t L) (hide ?_)
 generalize (w.alloc (.cells #[.int .i64 4,.int .i64 ee,.int .i64 aa,.int .i64 bb,.int .u16 src,.int .u16 dst,.int .u8 proto,.int .u16 id,.int .u8 off,.bool more,.int .u16 sport,.int .u16 dport,.slice dso dsn dsc,.slice ao n cap] 42))=w2 at *
 have HY:=hide (wd_bytes h2 hc)
 have HS:=hide (wd_same h2)
 obtain ⟨y1,y2,y3,y4,y5,y6,y7⟩:=hst.bytes.below h2.bel
 cases ao with
 | none =>
  obtain rfl:=y2.1 rfl
  obtain rfl:n=0:=by simpa using y1.symm
  obtain rfl:=y5 rfl
  exact qch_ne wb ee aa bb src dst proto id off more sport dport dso dsn dsc w2 (WNxt w0 wb c t L) HY (by rw [tE];simp)
 | some ad =>
  by_cases hte:tE zs=0
  ·exact qch_so wb ee aa bb src dst proto id off more sport dport dso dsn dsc ad n cap zs w2 (WNxt w0 wb c t L) HY y1 y2 y3 y4 hte
  ·exact qch_se wb ee aa bb src dst proto id off more sport dport dso dsn dsc ad n cap zs w2 (WNxt w0 wb c t L) HY y1 y2 y3 y4 hte
end Go.Proofs.YtajphdppmdoalaaGreat
namespace Go.Proofs.YtajphdppmdoalaaGreat
open Go.ChangeShapes Go.WideShapes Go.ChangeAt Go.RowKit Go.Deep
theorem bytes5:Tryz.prog.bytesOf 5=1:=by kernel_rfl
theorem bytesStep:Tryz.prog.bytesOf 42=96:=by kernel_rfl
theorem cells5:Tryz.prog.cellsOf 5=1:=by kernel_rfl
theorem cellsStep:Tryz.prog.cellsOf 42=14:=by kernel_rfl
theorem open_lst {H:Type} {enc:TypeId × Value→H} {w:World} {fuel:Nat} {v:Value} {y:DataW H × List MemPlace}
  (h:DataW.trod enc Tryz.prog w 0 (fun _=>true) true fuel 38 [v]=some y) (hsz:∀ x ∈ y.1.weights Tryz.prog 38,x≤reachBytes) :
  ∃ ao n cap zs,v=.slice ao n cap∧Lst w ao n cap zs:=by
 rcases open_ints Tryz.underlying38 Tryz.underlying5 cells5 h with ⟨hcs,_⟩ | ⟨a,len,cap,zs,hcs,_,hl,hm,hz,hx,hcell,hwz⟩
 ·simp at hcs
  exact ⟨none,0,0,[],hcs,rfl,⟨fun _=>rfl,fun h=>absurd rfl h⟩,by simp,by decide,fun _=>rfl,Nat.le_refl _,by decide⟩
 ·simp at hcs
  have hz':zs.length=cap:=by simpa using hz
  refine ⟨some a,len,cap,zs.take len,hcs,by simp;omega,⟨by simp,?_⟩,?_,?_,by simp,hl,hm⟩
  ·intro hne
   have hp:0 < zs.length:=by cases zs with | nil=>simp at hne | cons _ _=>simp
   obtain ⟨b,o,rfl,hc⟩:=ints_at hcell hp
   refine ⟨b,o,rfl,World.block_lt_of_cell? w _ (by simpa using hc 0 hp),fun j hj=>?_⟩
   rw [List.length_take] at hj
   rw [hc j (by omega),List.getD_eq_getElem?_getD,List.getD_eq_getElem?_getD,List.getElem?_take_of_lt (by omega)]
  ·intro z hzz
   exact bounds_u8 (hwz z (List.mem_of_mem_take hzz))
  ·have h1:=hsz ((zs.length) * 1) (by rw [hx];simp [DataW.weights,Tryz.underlying38,bytes5,lits];left;omega)
   simp only [reachBytes] at h1
   omega
theorem list14 {α:Type} {l:List α} (h:l.length=14):∃ c0 c1 c2 c3 c4 c5 c6 c7 c8 c9 c10 c11 c12 c13,l=[c0,c1,c2,c3,c4,c5,c6,c7,c8,c9,c10,c11,c12,c13]:=by
 match l,h with
 | [c0,c1,c2,c3,c4,c5,c6,c7,c8,c9,c10,c11,c12,c13],_=>exact ⟨c0,c1,c2,c3,c4,c5,c6,c7,c8,c9,c10,c11,c12,c13,rfl⟩
theorem weights_each {H:Type} {ts:List TypeId} {ds:List (DataW H)} {B:Nat} (h:∀ x ∈ DataW.weightsEach Tryz.prog ts ds,x≤B) {j:Nat} {t:TypeId} {d:DataW H} (ht:ts[j]?=some t) (hd:ds[j]?=some d):∀ x ∈ d.weights Tryz.prog t,x≤B :=
 fun x hx=>h x (DataW.weights_mem_each ht hd x hx)
theorem weights_all {H:Type} {e:TypeId}:∀ {ds:List (DataW H)} {B:Nat},(∀ x ∈ DataW.weightsAll Tryz.prog e ds,x≤B)→∀ {j:Nat} {d:DataW H},ds[j]?=some d→∀ x ∈ d.weights Tryz.prog e,x≤B
 | d0 :: ds,B,h,0,d,hd,x,hx=>by
  simp at hd;subst hd
  exact h x (by simp [DataW.weightsAll,hx])
 | d0 :: ds,B,h,j + 1,d,hd,x,hx=>weights_all (ds:=ds) (fun y hy=>h y (by simp [DataW.weightsAll,hy])) (by simpa using hd) x hx
theorem open_step {H:Type} {enc:TypeId × Value→H} {w:World} {fuel b o:Nat} {cs:List Value} {y:DataW H × List MemPlace} (hlt:b < w.heap.size)
  (hcell:∀ j v,cs[j]?=some v→w.cell? ⟨b,o + j,none⟩=some v)
  (h:DataW.trod enc Tryz.prog w 0 (fun _=>true) true fuel 42 cs=some y) (hsz:∀ x ∈ y.1.weights Tryz.prog 42,x≤reachBytes) :
  ∃ kind ee aa bb src dst proto id off more sport dport ao n cap zs so sn sc ys,StepIs w b o kind ee aa bb src dst proto id off more sport dport ao n cap zs so sn sc ys:=by
 obtain ⟨xs,n,_,hx,hl,hlen,hg⟩:=DataW.trod_struct Tryz.underlying42 h
 rw [cellsStep] at hl
 obtain ⟨c0,c1,c2,c3,c4,c5,c6,c7,c8,c9,c10,c11,c12,c13,rfl⟩:=list14 hl
 match xs,hlen with
 | [y0,y1,y2,y3,y4,y5],_ =>
  have g0:DataW.trod enc Tryz.prog w 0 (fun _=>true) true n 3 [c0]=some y0:=hg 0 _ rfl
  have g1:DataW.trod enc Tryz.prog w 0 (fun _=>true) true n 3 [c1]=some y1:=hg 1 _ rfl
  have g2:DataW.trod enc Tryz.prog w 0 (fun _=>true) true n 3 [c2]=some y2:=hg 2 _ rfl
  have g3:DataW.trod enc Tryz.prog w 0 (fun _=>true) true n 3 [c3]=some y3:=hg 3 _ rfl
  have g4:DataW.trod enc Tryz.prog w 0 (fun _=>true) true n 40 [c4,c5,c6,c7,c8,c9,c10,c11,c12]=some y4:=hg 4 _ rfl
  have g5:DataW.trod enc Tryz.prog w 0 (fun _=>true) true n 38 [c13]=some y5:=hg 5 _ rfl
  have hws:∀ x ∈ DataW.weightsEach Tryz.prog [3,3,3,3,40,38] [y0.1,y1.1,y2.1,y3.1,y4.1,y5.1],x≤reachBytes:=by
   intro x hx'
   refine hsz x ?_
   rw [hx]
   simpa [DataW.weights,Tryz.underlying42] using hx'
  have hs4:=weights_each hws (j:=4) rfl rfl
  have hs5:=weights_each hws (j:=5) rfl rfl
  obtain ⟨k0,e0,_,w0⟩:=DataW.trod_int Tryz.underlying3 g0
  obtain ⟨k1,e1,_,w1⟩:=DataW.trod_int Tryz.underlying3 g1
  obtain ⟨k2,e2,_,w2⟩:=DataW.trod_int Tryz.underlying3 g2
  obtain ⟨k3,e3,_,w3⟩:=DataW.trod_int Tryz.underlying3 g3
  obtain ⟨so,sn,sc,ys,e13,hys⟩:=open_lst g5 hs5
  obtain ⟨zs4,n4,_,hx4,_,hlen4,hg4⟩:=DataW.trod_struct Tryz.underlying40 g4
  match zs4,hlen4 with
  | [z0,z1,z2,z3,z4,z5,z6,z7,z8],_ =>
   have p0:DataW.trod enc Tryz.prog w 0 (fun _=>true) true n4 37 [c4]=some z0:=hg4 0 _ rfl
   have p1:DataW.trod enc Tryz.prog w 0 (fun _=>true) true n4 37 [c5]=some z1:=hg4 1 _ rfl
   have p2:DataW.trod enc Tryz.prog w 0 (fun _=>true) true n4 5 [c6]=some z2:=hg4 2 _ rfl
   have p3:DataW.trod enc Tryz.prog w 0 (fun _=>true) true n4 37 [c7]=some z3:=hg4 3 _ rfl
   have p4:DataW.trod enc Tryz.prog w 0 (fun _=>true) true n4 5 [c8]=some z4:=hg4 4 _ rfl
   have p5:DataW.trod enc Tryz.prog w 0 (fun _=>true) true n4 4 [c9]=some z5:=hg4 5 _ rfl
   have p6:DataW.trod enc Tryz.prog w 0 (fun _=>true) true n4 37 [c10]=some z6:=hg4 6 _ rfl
   have p7:DataW.trod enc Tryz.prog w 0 (fun _=>true) true n4 37 [c11]=some z7:=hg4 7 _ rfl
   have p8:DataW.trod enc Tryz.prog w 0 (fun _=>true) true n4 38 [c12]=some z8:=hg4 8 _ rfl
   have hws4:∀ x ∈ DataW.weightsEach Tryz.prog [37,37,5,37,5,4,37,37,38] [z0.1,z1.1,z2.1,z3.1,z4.1,z5.1,z6.1,z7.1,z8.1],x≤reachBytes:=by
    intro x hx'
    refine hs4 x ?_
    rw [hx4]
    simpa [DataW.weights,Tryz.underlying40] using hx'
   have hs8:=weights_each hws4 (j:=8) rfl rfl
   obtain ⟨q0,f0,_,v0⟩:=DataW.trod_int Tryz.underlying37 p0
   obtain ⟨q1,f1,_,v1⟩:=DataW.trod_int Tryz.underlying37 p1
   obtain ⟨q2,f2,_,v2⟩:=DataW.trod_int Tryz.underlying5 p2
   obtain ⟨q3,f3,_,v3⟩:=DataW.trod_int Tryz.underlying37 p3
   obtain ⟨q4,f4,_,v4⟩:=DataW.trod_int Tryz.underlying5 p4
   obtain ⟨q5,f5,_⟩:=DataW.trod_bool Tryz.underlying4 p5
   obtain ⟨q6,f6,_,v6⟩:=DataW.trod_int Tryz.underlying37 p6
   obtain ⟨q7,f7,_,v7⟩:=DataW.trod_int Tryz.underlying37 p7
   obtain ⟨ao,dn,dc,ds,e12,hds⟩:=open_lst p8 hs8
   simp at e0 e1 e2 e3 f0 f1 f2 f3 f4 f5 f6 f7
   subst e0 e1 e2 e3 e12 e13 f0 f1 f2 f3 f4 f5 f6 f7
   exact ⟨k0,k1,k2,k3,q0,q1,q2,q3,q4,q5,q6,q7,ao,dn,dc,ds,so,sn,sc,ys,hcell,hlt,bounds_u16 v0,bounds_u16 v1,bounds_u8 v2,bounds_u16 v3,bounds_u8 v4,bounds_u16 v6,bounds_u16 v7,bounds_i64 w0,bounds_i64 w1,hds,hys⟩
end Go.Proofs.YtajphdppmdoalaaGreat
namespace Go.Proofs.YtajphdppmdoalaaGreat
open Go.ChangeShapes Go.WideShapes Go.ChangeAt Go.RowKit Go.Joins Go.Deep
theorem own:ownKnob Tryz.prog.godebug=none:=by kernel_rfl
theorem laidOut:laidOutB Tryz.prog=true:=by kernel_rfl
end Go.Proofs.YtajphdppmdoalaaGreat
namespace Go.Proofs.YtajphdppmdoalaaGreat
open Go.ChangeShapes Go.WideShapes Go.ChangeAt Go.RowKit Go.Deep
theorem addr_add (b o j:Nat):(⟨b,o,none⟩:Addr).add j=⟨b,o + j,none⟩:=by cases j <;> simp [Addr.add]
theorem addr_plain {w:World} {a:Addr} {v:Value} (h:w.cell? a=some v):∃ b o,a=⟨b,o,none⟩:=by
 obtain ⟨b,o,spot⟩:=a
 have hspot:spot=none:=by simpa using World.cell?_spot h
 subst hspot
 exact ⟨b,o,rfl⟩
theorem open_script {H:Type} {enc:TypeId × Value→H} {w:World} {ao:Option Addr} {N cap:Nat} {d:DataW H} {ps:List MemPlace}
  (h:DataW.Trod enc Tryz.prog w 0 (fun _=>true) true 22 (.slice ao N cap) d ps) (hsz:∀ x ∈ d.weights Tryz.prog 22,x≤reachBytes) :
  ScriptIn w ao N∧N * 96≤140737488351232:=by
 obtain ⟨fuel,hf⟩:=h
 have hf':DataW.trod enc Tryz.prog w 0 (fun _=>true) true fuel 22 [.slice ao N cap]=some (d,ps):=by simpa [Value.cells] using hf
 rcases open_slice Tryz.underlying22 hf' with ⟨hcs,_⟩ | ⟨a,len,cap',m,n,D,Pl,hcs,_,hl,hm,hmm,hx,hel⟩
 ·simp at hcs
  obtain ⟨rfl,rfl,rfl⟩:=hcs
  exact ⟨.inl rfl,by decide⟩
 ·simp at hcs
  obtain ⟨rfl,rfl,rfl⟩:=hcs
  have hmc:m=cap:=by simpa using hmm
  subst hmc
  have hd:d=.slice ((List.range N).map D) ((List.range (m - N)).map fun j=>D (N + j)):=by
   have:=congrArg Prod.fst hx;simpa using this
  have hw:∀ x ∈ (((List.range N).map D).length + ((List.range (m - N)).map fun j=>D (N + j)).length) * Tryz.prog.bytesOf 42 :: (DataW.weightsAll Tryz.prog 42 ((List.range N).map D) ++ DataW.weightsAll Tryz.prog 42 ((List.range (m - N)).map fun j=>D (N + j))),x≤reachBytes:=by
   intro x hx'
   refine hsz x ?_
   rw [hd]
   simpa [DataW.weights,Tryz.underlying22] using hx'
  have hN:N * 96≤140737488351232:=by
   have h1:=hw _ (List.mem_cons_self ..)
   rw [bytesStep] at h1
   simp only [List.length_map,List.length_range,reachBytes] at h1
   omega
  refine ⟨?_,hN⟩
  by_cases h0:N=0
  ·exact .inl h0
  right
  have hwe:∀ {j:Nat} {dd:DataW H},((List.range N).map D)[j]?=some dd→∀ x ∈ dd.weights Tryz.prog 42,x≤reachBytes:=fun hj=>weights_all (fun x hx'=>hw x (by simp [hx'])) hj
  obtain ⟨cs0,hc0,_⟩:=hel 0 (by omega)
  rw [cellsStep] at hc0
  obtain ⟨_,hl0,hcell0⟩:=World.cells?_some hc0
  have h00:=hcell0 0 (by omega)
  rw [List.getElem?_eq_getElem (by omega)] at h00
  obtain ⟨b,o,rfl⟩:∃ b o,a=⟨b,o,none⟩:=by
   obtain ⟨b,o,ha⟩:=addr_plain h00
   obtain ⟨b',o',sp⟩:=a
   simp [Addr.add] at ha
   obtain ⟨_,_,rfl⟩:=ha
   exact ⟨b',o',rfl⟩
  refine ⟨b,o,rfl,fun i hi=>?_⟩
  obtain ⟨cs,hc,htr⟩:=hel i (by omega)
  rw [cellsStep] at hc
  have hadd:(⟨b,o,none⟩:Addr).add (i * 14)=⟨b,o + i * 14,none⟩:=addr_add b o (i * 14)
  rw [hadd] at hc
  have hblk:=World.cells?_block hc (by decide)
  obtain ⟨_,hl',hcell⟩:=World.cells?_some hc
  refine open_step (y:=(D i,Pl i)) hblk ?_ htr (hwe (j:=i) (by rw [List.getElem?_map,List.getElem?_range hi];rfl))
  intro j v hv
  have hj:j < 14:=by
   by_cases hj:j < 14
   ·exact hj
   ·rw [List.getElem?_eq_none (by omega)] at hv;simp at hv
  have h1:=hcell j hj
  rw [hv] at h1
  have hadd2:(⟨b,o + i * 14,none⟩:Addr).add j=⟨b,o + i * 14 + j,none⟩:=addr_add b _ j
  rw [hadd2] at h1
  exact h1
theorem allL_kinds (w:World):∀ (j:Nat) (K:Int),([1,2,3,4,5,6,7,8,9,10,11,12,13,14]:List Int)[j]?=some K→(w.alloc (.cells #[.int .i64 1,.int .i64 2,.int .i64 3,.int .i64 4,.int .i64 5,.int .i64 6,.int .i64 7,.int .i64 8,.int .i64 9,.int .i64 10,.int .i64 11,.int .i64 12,.int .i64 13,.int .i64 14] 3)).cell? ⟨w.heap.size,j,none⟩=some (.int .i64 K):=by
 intro j K hj
 have h:=box_cell (w:=w) (cs:=#[.int .i64 1,.int .i64 2,.int .i64 3,.int .i64 4,.int .i64 5,.int .i64 6,.int .i64 7,.int .i64 8,.int .i64 9,.int .i64 10,.int .i64 11,.int .i64 12,.int .i64 13,.int .i64 14]) (t:=3) (Below.refl _ _) j
 rw [h]
 have hm:(#[.int .i64 1,.int .i64 2,.int .i64 3,.int .i64 4,.int .i64 5,.int .i64 6,.int .i64 7,.int .i64 8,.int .i64 9,.int .i64 10,.int .i64 11,.int .i64 12,.int .i64 13,.int .i64 14]:Array Value)[j]?=(([1,2,3,4,5,6,7,8,9,10,11,12,13,14]:List Int)[j]?).map (Value.int .i64):=by
  rw [← List.getElem?_map,List.getElem?_toArray]
  rfl
 rw [hm,hj]
 rfl
theorem allL_do:∀ K ∈ ([1,2,3,4,5,6,7,8,9,10,11,12,13,14]:List Int),StepW K:=by
 intro K hK
 simp only [List.mem_cons,List.not_mem_nil,or_false] at hK
 rcases hK with rfl | rfl | rfl | rfl | rfl | rfl | rfl | rfl | rfl | rfl | rfl | rfl | rfl | rfl
 ·exact stepw_1
 ·exact stepw_2
 ·exact stepw_3
 ·exact stepw_4
 ·exact stepw_5
 ·exact stepw_6
 ·exact stepw_7
 ·exact stepw_8
 ·exact stepw_9
 ·exact stepw_10
 ·exact stepw_11
 ·exact stepw_12
 ·exact stepw_13
 ·exact stepw_14
theorem allL_any (ao:Option Addr) (N cap:Nat) (w:World) (hS:ScriptIn w ao N) (hN:N * 96≤140737488351232) :
  Calls Tryz.prog 8 #[.slice ao N cap] w fun e w'=>e=.returned (.bool true)∧Below w.heap.size w w':=by
 have H:Hid (Calls Tryz.prog 9 #[.slice ao N cap,.slice (some ⟨w.heap.size,0,none⟩) 14 14] (w.alloc (.cells #[.int .i64 1,.int .i64 2,.int .i64 3,.int .i64 4,.int .i64 5,.int .i64 6,.int .i64 7,.int .i64 8,.int .i64 9,.int .i64 10,.int .i64 11,.int .i64 12,.int .i64 13,.int .i64 14] 3)) fun e w'=>e=.returned (.bool true)∧Below (w.alloc (.cells #[.int .i64 1,.int .i64 2,.int .i64 3,.int .i64 4,.int .i64 5,.int .i64 6,.int .i64 7,.int .i64 8,.int .i64 9,.int .i64 10,.int .i64 11,.int .i64 12,.int .i64 13,.int .i64 14] 3)).heap.size (w.alloc (.cells #[.int .i64 1,.int .i64 2,.int .i64 3,.int .i64 4,.int .i64 5,.int .i64 6,.int .i64 7,.int .i64 8,.int .i64 9,.int .i64 10,.int .i64 11,.int .i64 12,.int .i64 13,.int .i64 14] 3)) w'):=by
  rcases hS with rfl | ⟨b,o,rfl,hS⟩
  ·exact plays_void [1,2,3,4,5,6,7,8,9,10,11,12,13,14] 4 rfl (by decide) ao cap w.heap.size _ (allL_kinds w) (by simp)
  ·exact plays_many [1,2,3,4,5,6,7,8,9,10,11,12,13,14] 4 rfl (by decide) allL_do b o N cap w.heap.size _ (hS.below ((Below.refl _ _).alloc (Nat.le_refl _) _)) hN (allL_kinds w) (by simp)
 clear hS
 go_enter Tryz.func8,Tryz.ntmps8
 go_wp2_with fail
 refine H.out.mono ?_
 rintro e w1 ⟨rfl,hb⟩
 have HBe:Hid (Below w.heap.size w w1):=((Below.refl _ _).alloc (Nat.le_refl _) _).trans (hb.mono (by simp))
 clear hb H
 go_wp2
 go_ret
 exact ⟨rfl,HBe.out⟩
theorem allL_lifted (os:Os) (started:os.Started) (H:Type) (enc:TypeId × Value→H) :
  ReturnsInHanded {} Tryz.checked os 8 .any (Rows.allSpec.pre6 enc Tryz.prog Tryz.f8 Rows.allRow.domain false) (Rows.allSpec.post enc Tryz.prog Tryz.f8 false true false false):=by
 refine returnsInHanded_of_change_sized (C:=Tryz.checked) own started (by kernel_rfl) Tryz.func8
  (ChangeSpec.witness6 (enc:=enc) (C:=Tryz.checked) false ⟨#[],#[.slice none 0 0],[]⟩ 8 (by kernel_rfl) (by kernel_rfl) (by kernel_rfl) (by kernel_rfl)) ?_
 intro W base args ds gs before hval0 hW hcnd hsz0 _
 have hval:∀ (j:Nat) t v,Tryz.f8.params[j]?=some t→args[j]?=some v→Value.okWide Tryz.prog W .any base t v:=hval0
 have hsz:(DataW.weightsEach Tryz.prog (Tryz.f8.params.toList ++ Rows.allSpec.plain.varTypes Tryz.prog) (ds ++ gs)).all (·≤reachBytes)=true:=hsz0
 have hW':=hW
 obtain ⟨p,q,hA0,hV,rfl,hfz,hnd⟩:=hW
 have hA:DataW.TrodAll enc Tryz.prog W 0 (fun _=>true) true Tryz.f8.params.toList args.toList ds p:=hA0
 rw [Tryz.params8] at hA hval hsz
 obtain ⟨v0,vs0,d0,ds0,p0,q0,hargs,rfl,rfl,h0,r0⟩:=trodAll_cons hA
 obtain ⟨rfl,rfl,rfl⟩:=trodAll_nil r0
 obtain rfl:args=#[v0]:=by cases args;simp_all
 obtain ⟨rfl,rfl⟩:=trodVars_none hV
 obtain ⟨a0,len0,cap0,rfl⟩:=okWide_slice Tryz.underlying22 (hval 0 22 v0 rfl rfl)
 have k0:=h0
 have lt0:∀ x ∈ p0,x.block < W.heap.size:=by obtain ⟨m,hm⟩:=k0;exact DataW.trod_lt m _ _ _ hm
 have hws:∀ x ∈ d0.weights Tryz.prog 22,x≤reachBytes:=by
  intro x hx
  have:=List.all_eq_true.1 hsz x (DataW.weights_mem_each (j:=0) (t:=22) rfl rfl x hx)
  simpa using this
 obtain ⟨hS,hN⟩:=open_script h0 hws
 clear hA0 hval0
 refine (allL_any a0 len0 cap0 W hS hN).mono fun e W' ⟨he,bel⟩=>?_
 subst he
 exact ⟨_,rfl,_,_,_,[],_,[],hW',trodAll_mk1 (shut_bool Tryz.underlying4 _),(trodAll_cons_mk (Below.trod laidOut (by kernel_rfl) (of_decide_eq_true (by kernel_rfl)) k0 bel lt0) trodAll_mk0),rfl,bel.frame _,fun h=>by cases h⟩
theorem allL_holds:Rows.AllSaid :=
 OpenClaim.holds_of_wide 8 Tryz.f8 rfl rfl rfl rfl rfl rfl rfl ⟨rfl,rfl,rfl,rfl,rfl⟩ rfl rfl rfl rfl rfl (by kernel_rfl) Tryz.func8 (by kernel_rfl)
  (of_decide_eq_true (by kernel_rfl)) (by unfold Func.isWrapper;first | (rw [if_pos (by decide +kernel)];kernel_rfl) | (rw [if_neg (by decide +kernel)];exact ⟨rfl,rfl⟩))
  (fun os started H enc _=>allL_lifted os started H enc)
end Go.Proofs.YtajphdppmdoalaaGreat
