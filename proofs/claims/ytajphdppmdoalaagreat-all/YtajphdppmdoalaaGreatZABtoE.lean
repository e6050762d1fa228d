import Derived.Test.YtajphdppmdoalaaGreatZAAtoJ3
import Derived.Laws.AppendOwnNone
import Derived.Test.YtajphdppmdoalaaGreatZANKtoC
import Derived.Laws.CopyOwn
set_option maxRecDepth 100000
set_option maxHeartbeats 6400000
set_option linter.unusedVariables false
namespace Go.Proofs.YtajphdppmdoalaaGreat
open Go.RowKit
theorem headOf_any (src dst proto id off:Int) (more:Bool) (sport dport:Int) (ao:Option Addr) (n cap:Nat) (w:World) (hsrc0:0≤src) (hsrc:src≤65535) (hdst0:0≤dst) (hdst:dst≤65535) (hproto0:0≤proto) (hproto:proto≤255) (hid0:0≤id) (hid:id≤65535) (hoff0:0≤off) (hoff:off≤255) (hn:n≤32) :
  Calls Tryz.prog 87 #[.agg #[.int .u16 src,.int .u16 dst,.int .u8 proto,.int .u16 id,.int .u8 off,.bool more,.int .u16 sport,.int .u16 dport,.slice ao n cap]] w fun e w'=>e=.returned (.agg #[.int .u8 (mk more),.int .u8 proto,.int .u8 (src / 256),.int .u8 (src % 256),.int .u8 (dst / 256),.int .u8 (dst % 256),.int .u8 (id / 256),.int .u8 (id % 256),.int .u8 off,.int .u8 (tl off n),.int .u8 (cs src dst proto id off more n / 256),.int .u8 (cs src dst proto id off more n % 256)])∧Below w.heap.size w w':=by
 have hcs:=csum_bd (mk more) proto (src / 256) (src % 256) (dst / 256) (dst % 256) (id / 256) (id % 256) off (tl off n) (by have:=mk_bd more;omega) (by omega) (by omega) (by omega) (by omega) (by omega) (by omega) (by omega) (by omega) (by have:=tl_bd off n;omega)
 unfold cs
 cases more
 ·by_cases h0:off=0
  ·subst h0
   rw [show mk false=16 from rfl,show tl 0 n=(n:Int) + 4 from rfl] at hcs ⊢
   go_enter Tryz.func87,Tryz.ntmps87
   go_wp2_with fail
   refine (checksum_any 16 proto (src / 256) (src % 256) (dst / 256) (dst % 256) (id / 256) (id % 256) 0 ((n:Int) + 4) 0 0 _ (by omega) (by omega) (by omega) (by omega) (by omega) (by omega) (by omega) (by omega) (by omega) (by omega)).mono ?_
   generalize hcc:csum 16 proto (src / 256) (src % 256) (dst / 256) (dst % 256) (id / 256) (id % 256) 0 ((n:Int) + 4)=c at *
   have HC:=hide hcc
   clear hcc
   rintro e w1 ⟨rfl,m,rfl⟩
   go_wp2
   refine bodyPost_ret (v:=.agg #[.int .u8 16,.int .u8 proto,.int .u8 (src / 256),.int .u8 (src % 256),.int .u8 (dst / 256),.int .u8 (dst % 256),.int .u8 (id / 256),.int .u8 (id % 256),.int .u8 0,.int .u8 ((n:Int) + 4),.int .u8 (c / 256),.int .u8 (c % 256)]) ?_ rfl ⟨by rw [unhide HC],?_⟩
   all_goals go_light
   ·simp [results,Tryz.results87,go_sem]
   ·clear hcs HC
    repeat' first | with_reducible exact Below.refl _ _ | with_reducible refine Below.setCell ?_ ?_ _ | with_reducible refine below_drewN ?_ _ | with_reducible refine Below.alloc ?_ ?_ _
    all_goals (simp;try omega)
  ·have h0':(off == 0)=false:=by simp [h0]
   rw [show mk false=16 from rfl,show tl off n=(n:Int) from if_neg h0] at hcs ⊢
   clear h0
   go_enter Tryz.func87,Tryz.ntmps87
   go_wp2_with fail
   refine (checksum_any 16 proto (src / 256) (src % 256) (dst / 256) (dst % 256) (id / 256) (id % 256) off (n:Int) 0 0 _ (by omega) (by omega) (by omega) (by omega) (by omega) (by omega) (by omega) (by omega) (by omega) (by omega)).mono ?_
   generalize hcc:csum 16 proto (src / 256) (src % 256) (dst / 256) (dst % 256) (id / 256) (id % 256) off (n:Int)=c at *
   have HC:=hide hcc
   clear hcc
   rintro e w1 ⟨rfl,m,rfl⟩
   go_wp2
   refine bodyPost_ret (v:=.agg #[.int .u8 16,.int .u8 proto,.int .u8 (src / 256),.int .u8 (src % 256),.int .u8 (dst / 256),.int .u8 (dst % 256),.int .u8 (id / 256),.int .u8 (id % 256),.int .u8 off,.int .u8 (n:Int),.int .u8 (c / 256),.int .u8 (c % 256)]) ?_ rfl ⟨by rw [unhide HC],?_⟩
   all_goals go_light
   ·simp [results,Tryz.results87,go_sem]
   ·clear hcs HC
    repeat' first | with_reducible exact Below.refl _ _ | with_reducible refine Below.setCell ?_ ?_ _ | with_reducible refine below_drewN ?_ _ | with_reducible refine Below.alloc ?_ ?_ _
    all_goals (simp;try omega)
 ·by_cases h0:off=0
  ·subst h0
   rw [show mk true=17 from rfl,show tl 0 n=(n:Int) + 4 from rfl] at hcs ⊢
   go_enter Tryz.func87,Tryz.ntmps87
   go_wp2_with fail
   refine (checksum_any 17 proto (src / 256) (src % 256) (dst / 256) (dst % 256) (id / 256) (id % 256) 0 ((n:Int) + 4) 0 0 _ (by omega) (by omega) (by omega) (by omega) (by omega) (by omega) (by omega) (by omega) (by omega) (by omega)).mono ?_
   generalize hcc:csum 17 proto (src / 256) (src % 256) (dst / 256) (dst % 256) (id / 256) (id % 256) 0 ((n:Int) + 4)=c at *
   have HC:=hide hcc
   clear hcc
   rintro e w1 ⟨rfl,m,rfl⟩
   go_wp2
   refine bodyPost_ret (v:=.agg #[.int .u8 17,.int .u8 proto,.int .u8 (src / 256),.int .u8 (src % 256),.int .u8 (dst / 256),.int .u8 (dst % 256),.int .u8 (id / 256),.int .u8 (id % 256),.int .u8 0,.int .u8 ((n:Int) + 4),.int .u8 (c / 256),.int .u8 (c % 256)]) ?_ rfl ⟨by rw [unhide HC],?_⟩
   all_goals go_light
   ·simp [results,Tryz.results87,go_sem]
   ·clear hcs HC
    repeat' first | with_reducible exact Below.refl _ _ | with_reducible refine Below.setCell ?_ ?_ _ | with_reducible refine below_drewN ?_ _ | with_reducible refine Below.alloc ?_ ?_ _
    all_goals (simp;try omega)
  ·have h0':(off == 0)=false:=by simp [h0]
   rw [show mk true=17 from rfl,show tl off n=(n:Int) from if_neg h0] at hcs ⊢
   clear h0
   go_enter Tryz.func87,Tryz.ntmps87
   go_wp2_with fail
   refine (checksum_any 17 proto (src / 256) (src % 256) (dst / 256) (dst % 256) (id / 256) (id % 256) off (n:Int) 0 0 _ (by omega) (by omega) (by omega) (by omega) (by omega) (by omega) (by omega) (by omega) (by omega) (by omega)).mono ?_
   generalize hcc:csum 17 proto (src / 256) (src % 256) (dst / 256) (dst % 256) (id / 256) (id % 256) off (n:Int)=c at *
   have HC:=hide hcc
   clear hcc
   rintro e w1 ⟨rfl,m,rfl⟩
   go_wp2
   refine bodyPost_ret (v:=.agg #[.int .u8 17,.int .u8 proto,.int .u8 (src / 256),.int .u8 (src % 256),.int .u8 (dst / 256),.int .u8 (dst % 256),.int .u8 (id / 256),.int .u8 (id % 256),.int .u8 off,.int .u8 (n:Int),.int .u8 (c / 256),.int .u8 (c % 256)]) ?_ rfl ⟨by rw [unhide HC],?_⟩
   all_goals go_light
   ·simp [results,Tryz.results87,go_sem]
   ·clear hcs HC
    repeat' first | with_reducible exact Below.refl _ _ | with_reducible refine Below.setCell ?_ ?_ _ | with_reducible refine below_drewN ?_ _ | with_reducible refine Below.alloc ?_ ?_ _
    all_goals (simp;try omega)
theorem Tryz.info5:(Tryz.prog.info? 5).map (fun i=>(i.zero,i.size,i.bytes))=some (some (.int .u8 0),1,1):=by kernel_rfl
theorem pack_no (src dst proto id off:Int) (more:Bool) (sport dport:Int) (ao:Option Addr) (n cap:Nat) (w:World) (hoff0:0≤off) (hn:n≤maxLen) (hwf:wfB off more sport dport n=false) :
  Calls Tryz.prog 60 #[.agg #[.int .u16 src,.int .u16 dst,.int .u8 proto,.int .u16 id,.int .u8 off,.bool more,.int .u16 sport,.int .u16 dport,.slice ao n cap]] w fun e w'=>e=.returned (.tuple #[.slice none 0 0,.int .i64 6])∧Below w.heap.size w w':=by
 have H:=hide (wf_any src dst proto id off more sport dport ao n cap)
 rw [hwf] at H
 clear hwf
 go_enter Tryz.func60,Tryz.ntmps60
 go_wp2_with fail
 refine (unhide H _ hoff0 hn).mono ?_
 rintro e w1 ⟨rfl,o,rfl⟩
 go_wp2
 go_ret2
 exact ⟨rfl,((Below.refl _ _).alloc (Nat.le_refl _) _).alloc (by simp) _⟩
theorem pack_0n (src dst proto id:Int) (more:Bool) (sport dport:Int) (w:World) (hsrc0:0≤src) (hsrc:src≤65535) (hdst0:0≤dst) (hdst:dst≤65535) (hproto0:0≤proto) (hproto:proto≤255) (hid0:0≤id) (hid:id≤65535) (hsport0:0≤sport) (hsport:sport≤65535) (hdport0:0≤dport) (hdport:dport≤65535) (hwf:wfB 0 more sport dport 0=true) :
  Calls Tryz.prog 60 #[.agg #[.int .u16 src,.int .u16 dst,.int .u8 proto,.int .u16 id,.int .u8 0,.bool more,.int .u16 sport,.int .u16 dport,.slice none 0 0]] w fun e w'=>∃ v,e=.returned (.tuple #[v,.int .i64 0])∧w'.ownsRow w.heap.size 5 1 v (pkL src dst proto id 0 more sport dport []).length ((pkL src dst proto id 0 more sport dport []).map (Value.int .u8))∧v ≠ .slice none 0 0∧Below w.heap.size w w':=by
 have H:=hide (wf_any src dst proto id 0 more sport dport none 0 0)
 rw [hwf] at H
 clear hwf
 obtain ⟨i0,hi,hz0,hz1,hz2⟩:=info_parts Tryz.info5
 go_enter Tryz.func60,Tryz.ntmps60
 go_wp2_with fail
 refine (unhide H _ (by omega) (by unfold maxLen;omega)).mono ?_
 rintro e w1 ⟨rfl,o,rfl⟩
 go_wp2_with fail
 refine (headOf_any src dst proto id 0 more sport dport none 0 0 _ hsrc0 hsrc hdst0 hdst hproto0 hproto hid0 hid (by omega) (by omega) (by omega)).mono ?_
 rintro e w1 ⟨rfl,hb⟩
 have HB:Hid (Below (w.heap.size + 1) (w.alloc (.cells #[.int .u16 src,.int .u16 dst,.int .u8 proto,.int .u16 id,.int .u8 0,.bool more,.int .u16 sport,.int .u16 dport,.slice none 0 0] 40)) w1):=((Below.refl _ _).alloc (by simp) _).trans (hb.mono (by simp))
 have hz:w.heap.size + 1≤w1.heap.size:=by have:=HB.out.size;simpa using this
 clear hb H
 go_wp2_with (at_builtin;refine wpList_append_own _ rfl (.tmp 11) (.tmp 12) 38 rfl (w.heap.size + 1) 5 i0 (.int .u8 0) 1 1 Tryz.underlying38 hi hz0 hz1 hz2 rfl (by decide) _ _ _ rfl (World.ownsRow_nil _ _ _ _) ⟨w1.heap.size,0,none⟩ 12 12 [.int .u8 (mk more),.int .u8 proto,.int .u8 (src / 256),.int .u8 (src % 256),.int .u8 (dst / 256),.int .u8 (dst % 256),.int .u8 (id / 256),.int .u8 (id % 256),.int .u8 0,.int .u8 (tl 0 0),.int .u8 (cs src dst proto id 0 more 0 / 256),.int .u8 (cs src dst proto id 0 more 0 % 256)] rfl rfl (cells_new _ _ _) (by simp [Value.oneCell']) (by decide) (by decide) (by simp;omega) ?_)
 intro v1 w2 hown hgrow hiff
 have HB2:Hid (Below (w.heap.size + 1) (w.alloc (.cells #[.int .u16 src,.int .u16 dst,.int .u8 proto,.int .u16 id,.int .u8 0,.bool more,.int .u16 sport,.int .u16 dport,.slice none 0 0] 40)) w2):=(HB.out.alloc hz _).grown hgrow (by simp;omega) (by simp [Value.ownBlock])
 have hz2':w.heap.size + 1≤w2.heap.size:=by have:=HB2.out.size;simpa using this
 have c4:=box_cell HB2.out 4
 have c6:=box_cell HB2.out 6
 have c7:=box_cell HB2.out 7
 have c8:=box_cell HB2.out 8
 simp at c4 c6 c7 c8
 have hnn:v1 ≠ .slice none 0 0:=by intro h;first | exact hiff h | exact absurd (hiff.1 h).2 (by decide)
 have HO:=hide hown
 have HN:=hide hnn
 clear HB hown hgrow hiff hz hnn
 go_wp2_with (at_builtin;refine wpList_append_own _ rfl (.tmp 17) (.tmp 32) 38 rfl (w.heap.size + 1) 5 i0 (.int .u8 0) 1 1 Tryz.underlying38 hi hz0 hz1 hz2 rfl (by decide) _ _ _ rfl (HO.out.alloc _) ⟨w2.heap.size,0,none⟩ 4 4 [.int .u8 (sport / 256),.int .u8 (sport % 256),.int .u8 (dport / 256),.int .u8 (dport % 256)] rfl rfl (cells_new _ _ _) (by simp [Value.oneCell']) (by decide) (by decide) (by simp;omega) ?_)
 intro v2 w3 hown hgrow hiff
 have HB3:Hid (Below (w.heap.size + 1) (w.alloc (.cells #[.int .u16 src,.int .u16 dst,.int .u8 proto,.int .u16 id,.int .u8 0,.bool more,.int .u16 sport,.int .u16 dport,.slice none 0 0] 40)) w3):=(HB2.out.alloc hz2' _).grown hgrow (by simp;omega) (fun k hk=>(HO.out.lt k hk).1)
 have hz3':w.heap.size + 1≤w3.heap.size:=by have:=HB3.out.size;simpa using this
 clear c4 c6 c7 c8
 have c8:=box_cell HB3.out 8
 simp at c8
 have hnn:v2 ≠ .slice none 0 0:=by intro h;first | exact hiff h | exact HN.out (hiff.1 h).1
 clear HN
 have HN:=hide hnn
 clear HO
 have HO:=hide hown
 clear HB2 hown hgrow hiff hz2' hnn
 go_wp2_with (at_builtin;refine wpList_append_own_none rfl (.tmp 34) (.tmp 36) 38 rfl (w.heap.size + 1) 5 i0 1 Tryz.underlying38 hi _ _ _ rfl HO.out rfl ?_)
 go_wp2
 go_ret2
 refine ⟨_,rfl,?_,HN.out,below_old HB3.out⟩
 have h:=ownsRow_base HO.out (Nat.le_succ w.heap.size)
 simpa [pkL,hdL,ptL] using h
theorem pack_0s (src dst proto id:Int) (more:Bool) (sport dport:Int) (ad:Addr) (n cap:Nat) (zs:List Int) (w:World) (hsrc0:0≤src) (hsrc:src≤65535) (hdst0:0≤dst) (hdst:dst≤65535) (hproto0:0≤proto) (hproto:proto≤255) (hid0:0≤id) (hid:id≤65535) (hsport0:0≤sport) (hsport:sport≤65535) (hdport0:0≤dport) (hdport:dport≤65535) (hzs:zs.length=n) (hd:Has w (some ad) zs) (hn:n≤32) (hwf:wfB 0 more sport dport n=true) :
  Calls Tryz.prog 60 #[.agg #[.int .u16 src,.int .u16 dst,.int .u8 proto,.int .u16 id,.int .u8 0,.bool more,.int .u16 sport,.int .u16 dport,.slice (some ad) n cap]] w fun e w'=>∃ v,e=.returned (.tuple #[v,.int .i64 0])∧w'.ownsRow w.heap.size 5 1 v (pkL src dst proto id 0 more sport dport zs).length ((pkL src dst proto id 0 more sport dport zs).map (Value.int .u8))∧v ≠ .slice none 0 0∧Below w.heap.size w w':=by
 have H:=hide (wf_any src dst proto id 0 more sport dport (some ad) n cap)
 rw [hwf] at H
 clear hwf
 obtain ⟨i0,hi,hz0,hz1,hz2⟩:=info_parts Tryz.info5
 go_enter Tryz.func60,Tryz.ntmps60
 go_wp2_with fail
 refine (unhide H _ (by omega) (by unfold maxLen;omega)).mono ?_
 rintro e w1 ⟨rfl,o,rfl⟩
 go_wp2_with fail
 refine (headOf_any src dst proto id 0 more sport dport (some ad) n cap _ hsrc0 hsrc hdst0 hdst hproto0 hproto hid0 hid (by omega) (by omega) (by omega)).mono ?_
 rintro e w1 ⟨rfl,hb⟩
 have HB:Hid (Below (w.heap.size + 1) (w.alloc (.cells #[.int .u16 src,.int .u16 dst,.int .u8 proto,.int .u16 id,.int .u8 0,.bool more,.int .u16 sport,.int .u16 dport,.slice (some ad) n cap] 40)) w1):=((Below.refl _ _).alloc (by simp) _).trans (hb.mono (by simp))
 have hz:w.heap.size + 1≤w1.heap.size:=by have:=HB.out.size;simpa using this
 clear hb H
 go_wp2_with (at_builtin;refine wpList_append_own _ rfl (.tmp 11) (.tmp 12) 38 rfl (w.heap.size + 1) 5 i0 (.int .u8 0) 1 1 Tryz.underlying38 hi hz0 hz1 hz2 rfl (by decide) _ _ _ rfl (World.ownsRow_nil _ _ _ _) ⟨w1.heap.size,0,none⟩ 12 12 [.int .u8 (mk more),.int .u8 proto,.int .u8 (src / 256),.int .u8 (src % 256),.int .u8 (dst / 256),.int .u8 (dst % 256),.int .u8 (id / 256),.int .u8 (id % 256),.int .u8 0,.int .u8 (tl 0 n),.int .u8 (cs src dst proto id 0 more n / 256),.int .u8 (cs src dst proto id 0 more n % 256)] rfl rfl (cells_new _ _ _) (by simp [Value.oneCell']) (by decide) (by decide) (by simp;omega) ?_)
 intro v1 w2 hown hgrow hiff
 have HB2:Hid (Below (w.heap.size + 1) (w.alloc (.cells #[.int .u16 src,.int .u16 dst,.int .u8 proto,.int .u16 id,.int .u8 0,.bool more,.int .u16 sport,.int .u16 dport,.slice (some ad) n cap] 40)) w2):=(HB.out.alloc hz _).grown hgrow (by simp;omega) (by simp [Value.ownBlock])
 have hz2':w.heap.size + 1≤w2.heap.size:=by have:=HB2.out.size;simpa using this
 have c4:=box_cell HB2.out 4
 have c6:=box_cell HB2.out 6
 have c7:=box_cell HB2.out 7
 have c8:=box_cell HB2.out 8
 simp at c4 c6 c7 c8
 have hnn:v1 ≠ .slice none 0 0:=by intro h;first | exact hiff h | exact absurd (hiff.1 h).2 (by decide)
 have HO:=hide hown
 have HN:=hide hnn
 clear HB hown hgrow hiff hz hnn
 go_wp2_with (at_builtin;refine wpList_append_own _ rfl (.tmp 17) (.tmp 32) 38 rfl (w.heap.size + 1) 5 i0 (.int .u8 0) 1 1 Tryz.underlying38 hi hz0 hz1 hz2 rfl (by decide) _ _ _ rfl (HO.out.alloc _) ⟨w2.heap.size,0,none⟩ 4 4 [.int .u8 (sport / 256),.int .u8 (sport % 256),.int .u8 (dport / 256),.int .u8 (dport % 256)] rfl rfl (cells_new _ _ _) (by simp [Value.oneCell']) (by decide) (by decide) (by simp;omega) ?_)
 intro v2 w3 hown hgrow hiff
 have HB3:Hid (Below (w.heap.size + 1) (w.alloc (.cells #[.int .u16 src,.int .u16 dst,.int .u8 proto,.int .u16 id,.int .u8 0,.bool more,.int .u16 sport,.int .u16 dport,.slice (some ad) n cap] 40)) w3):=(HB2.out.alloc hz2' _).grown hgrow (by simp;omega) (fun k hk=>(HO.out.lt k hk).1)
 have hz3':w.heap.size + 1≤w3.heap.size:=by have:=HB3.out.size;simpa using this
 clear c4 c6 c7 c8
 have c8:=box_cell HB3.out 8
 simp at c8
 have hnn:v2 ≠ .slice none 0 0:=by intro h;first | exact hiff h | exact HN.out (hiff.1 h).1
 clear HN
 have HN:=hide hnn
 clear HO
 have HO:=hide hown
 clear HB2 hown hgrow hiff hz2' hnn
 have hd':=hd.below (below_old HB3.out)
 have HC:=hide hd'.cells
 clear hd hd'
 go_wp2_with (at_builtin;refine wpList_append_own _ rfl (.tmp 34) (.tmp 36) 38 rfl (w.heap.size + 1) 5 i0 (.int .u8 0) 1 1 Tryz.underlying38 hi hz0 hz1 hz2 rfl (by decide) _ _ _ rfl HO.out ad n cap (zs.map (Value.int .u8)) rfl (by simp [hzs]) HC.out (ints_oneCell _ _) (by unfold maxLen;omega) (by omega) hz3' ?_)
 intro v9 w9 hown hgrow hiff
 have HB9:Hid (Below (w.heap.size + 1) (w.alloc (.cells #[.int .u16 src,.int .u16 dst,.int .u8 proto,.int .u16 id,.int .u8 0,.bool more,.int .u16 sport,.int .u16 dport,.slice (some ad) n cap] 40)) w9):=HB3.out.grown hgrow hz3' (fun k hk=>(HO.out.lt k hk).1)
 have hnn:v9 ≠ .slice none 0 0:=by intro h;first | exact hiff h | exact HN.out (hiff.1 h).1
 clear HN
 have HN:=hide hnn
 clear HO
 have HO:=hide hown
 clear HB3 hown hgrow hiff hz3' hnn c8 HC
 go_wp2
 go_ret2
 refine ⟨_,rfl,?_,HN.out,below_old HB9.out⟩
 have h:=ownsRow_base HO.out (Nat.le_succ w.heap.size)
 subst hzs
 simpa [pkL,hdL,ptL,Nat.add_comm,Nat.add_left_comm,Nat.add_assoc] using h
theorem pack_1n (src dst proto id off:Int) (more:Bool) (sport dport:Int) (w:World) (hsrc0:0≤src) (hsrc:src≤65535) (hdst0:0≤dst) (hdst:dst≤65535) (hproto0:0≤proto) (hproto:proto≤255) (hid0:0≤id) (hid:id≤65535) (hoff0:0≤off) (hoff:off≤255) (h0:(off == 0)=false) (hwf:wfB off more sport dport 0=true) :
  Calls Tryz.prog 60 #[.agg #[.int .u16 src,.int .u16 dst,.int .u8 proto,.int .u16 id,.int .u8 off,.bool more,.int .u16 sport,.int .u16 dport,.slice none 0 0]] w fun e w'=>∃ v,e=.returned (.tuple #[v,.int .i64 0])∧w'.ownsRow w.heap.size 5 1 v (pkL src dst proto id off more sport dport []).length ((pkL src dst proto id off more sport dport []).map (Value.int .u8))∧v ≠ .slice none 0 0∧Below w.heap.size w w':=by
 have H:=hide (wf_any src dst proto id off more sport dport none 0 0)
 rw [hwf] at H
 clear hwf
 obtain ⟨i0,hi,hz0,hz1,hz2⟩:=info_parts Tryz.info5
 go_enter Tryz.func60,Tryz.ntmps60
 go_wp2_with fail
 refine (unhide H _ (by omega) (by unfold maxLen;omega)).mono ?_
 rintro e w1 ⟨rfl,o,rfl⟩
 go_wp2_with fail
 refine (headOf_any src dst proto id off more sport dport none 0 0 _ hsrc0 hsrc hdst0 hdst hproto0 hproto hid0 hid (by omega) (by omega) (by omega)).mono ?_
 rintro e w1 ⟨rfl,hb⟩
 have HB:Hid (Below (w.heap.size + 1) (w.alloc (.cells #[.int .u16 src,.int .u16 dst,.int .u8 proto,.int .u16 id,.int .u8 off,.bool more,.int .u16 sport,.int .u16 dport,.slice none 0 0] 40)) w1):=((Below.refl _ _).alloc (by simp) _).trans (hb.mono (by simp))
 have hz:w.heap.size + 1≤w1.heap.size:=by have:=HB.out.size;simpa using this
 clear hb H
 go_wp2_with (at_builtin;refine wpList_append_own _ rfl (.tmp 11) (.tmp 12) 38 rfl (w.heap.size + 1) 5 i0 (.int .u8 0) 1 1 Tryz.underlying38 hi hz0 hz1 hz2 rfl (by decide) _ _ _ rfl (World.ownsRow_nil _ _ _ _) ⟨w1.heap.size,0,none⟩ 12 12 [.int .u8 (mk more),.int .u8 proto,.int .u8 (src / 256),.int .u8 (src % 256),.int .u8 (dst / 256),.int .u8 (dst % 256),.int .u8 (id / 256),.int .u8 (id % 256),.int .u8 off,.int .u8 (tl off 0),.int .u8 (cs src dst proto id off more 0 / 256),.int .u8 (cs src dst proto id off more 0 % 256)] rfl rfl (cells_new _ _ _) (by simp [Value.oneCell']) (by decide) (by decide) (by simp;omega) ?_)
 intro v1 w2 hown hgrow hiff
 have HB2:Hid (Below (w.heap.size + 1) (w.alloc (.cells #[.int .u16 src,.int .u16 dst,.int .u8 proto,.int .u16 id,.int .u8 off,.bool more,.int .u16 sport,.int .u16 dport,.slice none 0 0] 40)) w2):=(HB.out.alloc hz _).grown hgrow (by simp;omega) (by simp [Value.ownBlock])
 have hz2':w.heap.size + 1≤w2.heap.size:=by have:=HB2.out.size;simpa using this
 have c4:=box_cell HB2.out 4
 have c6:=box_cell HB2.out 6
 have c7:=box_cell HB2.out 7
 have c8:=box_cell HB2.out 8
 simp at c4 c6 c7 c8
 have hnn:v1 ≠ .slice none 0 0:=by intro h;first | exact hiff h | exact absurd (hiff.1 h).2 (by decide)
 have HO:=hide hown
 have HN:=hide hnn
 clear HB hown hgrow hiff hz hnn
 go_wp2_with (at_builtin;refine wpList_append_own_none rfl (.tmp 34) (.tmp 36) 38 rfl (w.heap.size + 1) 5 i0 1 Tryz.underlying38 hi _ _ _ rfl HO.out rfl ?_)
 go_wp2
 go_ret2
 refine ⟨_,rfl,?_,HN.out,below_old HB2.out⟩
 have h:=ownsRow_base HO.out (Nat.le_succ w.heap.size)
 have h0n:¬ off=0:=by simpa using h0
 simpa [pkL,hdL,ptL,h0n] using h
theorem pack_1s (src dst proto id off:Int) (more:Bool) (sport dport:Int) (ad:Addr) (n cap:Nat) (zs:List Int) (w:World) (hsrc0:0≤src) (hsrc:src≤65535) (hdst0:0≤dst) (hdst:dst≤65535) (hproto0:0≤proto) (hproto:proto≤255) (hid0:0≤id) (hid:id≤65535) (hoff0:0≤off) (hoff:off≤255) (h0:(off == 0)=false) (hzs:zs.length=n) (hd:Has w (some ad) zs) (hn:n≤32) (hwf:wfB off more sport dport n=true) :
  Calls Tryz.prog 60 #[.agg #[.int .u16 src,.int .u16 dst,.int .u8 proto,.int .u16 id,.int .u8 off,.bool more,.int .u16 sport,.int .u16 dport,.slice (some ad) n cap]] w fun e w'=>∃ v,e=.returned (.tuple #[v,.int .i64 0])∧w'.ownsRow w.heap.size 5 1 v (pkL src dst proto id off more sport dport zs).length ((pkL src dst proto id off more sport dport zs).map (Value.int .u8))∧v ≠ .slice none 0 0∧Below w.heap.size w w':=by
 have H:=hide (wf_any src dst proto id off more sport dport (some ad) n cap)
 rw [hwf] at H
 clear hwf
 obtain ⟨i0,hi,hz0,hz1,hz2⟩:=info_parts Tryz.info5
 go_enter Tryz.func60,Tryz.ntmps60
 go_wp2_with fail
 refine (unhide H _ (by omega) (by unfold maxLen;omega)).mono ?_
 rintro e w1 ⟨rfl,o,rfl⟩
 go_wp2_with fail
 refine (headOf_any src dst proto id off more sport dport (some ad) n cap _ hsrc0 hsrc hdst0 hdst hproto0 hproto hid0 hid (by omega) (by omega) (by omega)).mono ?_
 rintro e w1 ⟨rfl,hb⟩
 have HB:Hid (Below (w.heap.size + 1) (w.alloc (.cells #[.int .u16 src,.int .u16 dst,.int .u8 proto,.int .u16 id,.int .u8 off,.bool more,.int .u16 sport,.int .u16 dport,.slice (some ad) n cap] 40)) w1):=((Below.refl _ _).alloc (by simp) _).trans (hb.mono (by simp))
 have hz:w.heap.size + 1≤w1.heap.size:=by have:=HB.out.size;simpa using this
 clear hb H
 go_wp2_with (at_builtin;refine wpList_append_own _ rfl (.tmp 11) (.tmp 12) 38 rfl (w.heap.size + 1) 5 i0 (.int .u8 0) 1 1 Tryz.underlying38 hi hz0 hz1 hz2 rfl (by decide) _ _ _ rfl (World.ownsRow_nil _ _ _ _) ⟨w1.heap.size,0,none⟩ 12 12 [.int .u8 (mk more),.int .u8 proto,.int .u8 (src / 256),.int .u8 (src % 256),.int .u8 (dst / 256),.int .u8 (dst % 256),.int .u8 (id / 256),.int .u8 (id % 256),.int .u8 off,.int .u8 (tl off n),.int .u8 (cs src dst proto id off more n / 256),.int .u8 (cs src dst proto id off more n % 256)] rfl rfl (cells_new _ _ _) (by simp [Value.oneCell']) (by decide) (by decide) (by simp;omega) ?_)
 intro v1 w2 hown hgrow hiff
 have HB2:Hid (Below (w.heap.size + 1) (w.alloc (.cells #[.int .u16 src,.int .u16 dst,.int .u8 proto,.int .u16 id,.int .u8 off,.bool more,.int .u16 sport,.int .u16 dport,.slice (some ad) n cap] 40)) w2):=(HB.out.alloc hz _).grown hgrow (by simp;omega) (by simp [Value.ownBlock])
 have hz2':w.heap.size + 1≤w2.heap.size:=by have:=HB2.out.size;simpa using this
 have c4:=box_cell HB2.out 4
 have c6:=box_cell HB2.out 6
 have c7:=box_cell HB2.out 7
 have c8:=box_cell HB2.out 8
 simp at c4 c6 c7 c8
 have hnn:v1 ≠ .slice none 0 0:=by intro h;first | exact hiff h | exact absurd (hiff.1 h).2 (by decide)
 have HO:=hide hown
 have HN:=hide hnn
 clear HB hown hgrow hiff hz hnn
 have hd':=hd.below (below_old HB2.out)
 have HC:=hide hd'.cells
 clear hd hd'
 go_wp2_with (at_builtin;refine wpList_append_own _ rfl (.tmp 34) (.tmp 36) 38 rfl (w.heap.size + 1) 5 i0 (.int .u8 0) 1 1 Tryz.underlying38 hi hz0 hz1 hz2 rfl (by decide) _ _ _ rfl HO.out ad n cap (zs.map (Value.int .u8)) rfl (by simp [hzs]) HC.out (ints_oneCell _ _) (by unfold maxLen;omega) (by omega) hz2' ?_)
 intro v9 w9 hown hgrow hiff
 have HB9:Hid (Below (w.heap.size + 1) (w.alloc (.cells #[.int .u16 src,.int .u16 dst,.int .u8 proto,.int .u16 id,.int .u8 off,.bool more,.int .u16 sport,.int .u16 dport,.slice (some ad) n cap] 40)) w9):=HB2.out.grown hgrow hz2' (fun k hk=>(HO.out.lt k hk).1)
 have hnn:v9 ≠ .slice none 0 0:=by intro h;first | exact hiff h | exact HN.out (hiff.1 h).1
 clear HN
 have HN:=hide hnn
 clear HO
 have HO:=hide hown
 clear HB2 hown hgrow hiff hz2' hnn c8 HC
 go_wp2
 go_ret2
 refine ⟨_,rfl,?_,HN.out,below_old HB9.out⟩
 have h:=ownsRow_base HO.out (Nat.le_succ w.heap.size)
 subst hzs
 have h0n:¬ off=0:=by simpa using h0
 simpa [pkL,hdL,ptL,h0n,Nat.add_comm,Nat.add_left_comm,Nat.add_assoc] using h
theorem pack_yes (src dst proto id off:Int) (more:Bool) (sport dport:Int) (ao:Option Addr) (n cap:Nat) (zs:List Int) (w:World) (hsrc0:0≤src) (hsrc:src≤65535) (hdst0:0≤dst) (hdst:dst≤65535) (hproto0:0≤proto) (hproto:proto≤255) (hid0:0≤id) (hid:id≤65535) (hoff0:0≤off) (hoff:off≤255) (hsport0:0≤sport) (hsport:sport≤65535) (hdport0:0≤dport) (hdport:dport≤65535) (hzs:zs.length=n) (hnil:ao=none→cap=0) (hd:Has w ao zs) (hwf:wfB off more sport dport n=true) :
  Calls Tryz.prog 60 #[.agg #[.int .u16 src,.int .u16 dst,.int .u8 proto,.int .u16 id,.int .u8 off,.bool more,.int .u16 sport,.int .u16 dport,.slice ao n cap]] w fun e w'=>∃ v,e=.returned (.tuple #[v,.int .i64 0])∧w'.ownsRow w.heap.size 5 1 v (pkL src dst proto id off more sport dport zs).length ((pkL src dst proto id off more sport dport zs).map (Value.int .u8))∧v ≠ .slice none 0 0∧Below w.heap.size w w':=by
 have hn:n≤32:=by simp [wfB] at hwf;omega
 cases ao with
 | none =>
  obtain rfl:=hd.1 rfl
  obtain rfl:=hnil rfl
  obtain rfl:n=0:=by simpa using hzs.symm
  by_cases h0:off=0
  ·subst h0
   exact pack_0n src dst proto id more sport dport w hsrc0 hsrc hdst0 hdst hproto0 hproto hid0 hid hsport0 hsport hdport0 hdport hwf
  ·exact pack_1n src dst proto id off more sport dport w hsrc0 hsrc hdst0 hdst hproto0 hproto hid0 hid hoff0 hoff (by simpa using h0) hwf
 | some ad =>
  by_cases h0:off=0
  ·subst h0
   exact pack_0s src dst proto id more sport dport ad n cap zs w hsrc0 hsrc hdst0 hdst hproto0 hproto hid0 hid hsport0 hsport hdport0 hdport hzs hd hn hwf
  ·exact pack_1s src dst proto id off more sport dport ad n cap zs w hsrc0 hsrc hdst0 hdst hproto0 hproto hid0 hid hoff0 hoff (by simpa using h0) hzs hd hn hwf
theorem unpack_short (ao:Option Addr) (n cap:Nat) (w:World) (hn:n < 12) :
  Calls Tryz.prog 64 #[.slice ao n cap] w fun e w'=>e=.returned (.tuple #[.agg #[.int .u16 0,.int .u16 0,.int .u8 0,.int .u16 0,.int .u8 0,.bool false,.int .u16 0,.int .u16 0,.slice none 0 0],.int .i64 2])∧Below w.heap.size w w':=by
 go_enter Tryz.func64,Tryz.ntmps64
 go_wp2
 refine bodyPost_ret (v:=.tuple #[.agg #[.int .u16 0,.int .u16 0,.int .u8 0,.int .u16 0,.int .u8 0,.bool false,.int .u16 0,.int .u16 0,.slice none 0 0],.int .i64 2]) ?_ rfl ⟨rfl,?_⟩
 all_goals go_light
 ·simp [results,Tryz.results64,go_sem]
 ·repeat' first | with_reducible exact Below.refl _ _ | with_reducible refine Below.setCell ?_ ?_ _ | with_reducible refine below_drewN ?_ _ | with_reducible refine Below.alloc ?_ ?_ _
  all_goals (simp;try omega)
theorem alloc_setRow (w:World) (old new:Array Value) (t:TypeId):(w.alloc (.cells old t)).setRow w.heap.size new=w.alloc (.cells new t):=by
 have h:(w.heap.push (.cells old t)).modify w.heap.size (fun | .cells _ elem frozen=>.cells new elem frozen | o=>o)=w.heap.push (.cells new t):=by
  apply Array.ext_getElem?
  intro i
  rw [Array.getElem?_modify,Array.getElem?_push,Array.getElem?_push]
  by_cases hi:i=w.heap.size
  ·subst hi;simp
  ·simp [hi,Ne.symm hi]
 exact congrArg (fun h=>({ w with heap:=h }:World)) h
theorem copy_head (b o n cap:Nat) (h0 h1 h2 h3 h4 h5 h6 h7 h8 h9 h10 h11:Int) (r:List Int) (w:World) (hn:12 + r.length=n) (hd:Has w (some ⟨b,o,none⟩) ([h0,h1,h2,h3,h4,h5,h6,h7,h8,h9,h10,h11] ++ r)) :
  Sem.run Tryz.prog (Builtin.copy_ #[38,38] 3 #[.slice (some ⟨w.heap.size + 1,0,none⟩) 12 12,.slice (some ⟨b,o,none⟩) n cap]) ((w.alloc (.cells #[.int .u16 0,.int .u16 0,.int .u8 0,.int .u16 0,.int .u8 0,.bool false,.int .u16 0,.int .u16 0,.slice none 0 0] 40)).alloc (.cells #[.int .u8 0,.int .u8 0,.int .u8 0,.int .u8 0,.int .u8 0,.int .u8 0,.int .u8 0,.int .u8 0,.int .u8 0,.int .u8 0,.int .u8 0,.int .u8 0] 131))
   = .ok (goInt 12) ((w.alloc (.cells #[.int .u16 0,.int .u16 0,.int .u8 0,.int .u16 0,.int .u8 0,.bool false,.int .u16 0,.int .u16 0,.slice none 0 0] 40)).alloc (.cells #[.int .u8 h0,.int .u8 h1,.int .u8 h2,.int .u8 h3,.int .u8 h4,.int .u8 h5,.int .u8 h6,.int .u8 h7,.int .u8 h8,.int .u8 h9,.int .u8 h10,.int .u8 h11] 131)):=by
 have:=run_copy_row (P:=Tryz.prog) ((w.alloc (.cells #[.int .u16 0,.int .u16 0,.int .u8 0,.int .u16 0,.int .u8 0,.bool false,.int .u16 0,.int .u16 0,.slice none 0 0] 40)).alloc (.cells #[.int .u8 0,.int .u8 0,.int .u8 0,.int .u8 0,.int .u8 0,.int .u8 0,.int .u8 0,.int .u8 0,.int .u8 0,.int .u8 0,.int .u8 0,.int .u8 0] 131)) 38 38 3 5 (w.heap.size + 1) 0 12 12 ⟨b,o,none⟩ n cap #[.int .u8 0,.int .u8 0,.int .u8 0,.int .u8 0,.int .u8 0,.int .u8 0,.int .u8 0,.int .u8 0,.int .u8 0,.int .u8 0,.int .u8 0,.int .u8 0] 131 [Value.int .u8 h0,Value.int .u8 h1,Value.int .u8 h2,Value.int .u8 h3,Value.int .u8 h4,Value.int .u8 h5,Value.int .u8 h6,Value.int .u8 h7,Value.int .u8 h8,Value.int .u8 h9,Value.int .u8 h10,Value.int .u8 h11] Tryz.underlying38 (by kernel_rfl) (by simpa using heap_alloc_new (w.alloc _) _) (by simp [Nat.min_def];omega) ?_ (by simp) (by simp [Value.oneCell'])
 ·rw [this]
  have h:=alloc_setRow (w.alloc (.cells #[.int .u16 0,.int .u16 0,.int .u8 0,.int .u16 0,.int .u8 0,.bool false,.int .u16 0,.int .u16 0,.slice none 0 0] 40))
  simp only [World.size_alloc] at h
  rw [h]
  rfl
 ·intro j v hj
  have hjl:j < 12:=by
   by_cases hj':j < 12
   ·exact hj'
   ·rw [List.getElem?_eq_none (by simp;omega)] at hj;exact absurd hj (by simp)
  have h:=Has.cells hd j v (by rw [List.map_append,List.getElem?_append_left (by simpa using hjl)];exact hj)
  exact cell_later (((Below.refl _ _).alloc (Nat.le_refl _) _).alloc (by simp) _) h
end Go.Proofs.YtajphdppmdoalaaGreat
