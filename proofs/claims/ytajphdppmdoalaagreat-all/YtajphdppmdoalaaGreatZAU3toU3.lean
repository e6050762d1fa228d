import Derived.Test.YtajphdppmdoalaaGreatZAT5toU2
set_option maxRecDepth 100000
set_option maxHeartbeats 6400000
set_option linter.unusedVariables false
namespace Go.Proofs.YtajphdppmdoalaaGreat
open Go.RowKit
theorem rpack_0sf (src dst proto id:Int) (sport dport:Int) (ad:Addr) (n cap:Nat) (zs:List Int) (w:World) (hsrc0:0≤src) (hsrc:src≤65535) (hdst0:0≤dst) (hdst:dst≤65535) (hproto0:0≤proto) (hproto:proto≤255) (hid0:0≤id) (hid:id≤65535) (hsport0:0≤sport) (hsport:sport≤65535) (hdport0:0≤dport) (hdport:dport≤65535) (hzs:zs.length=n) (hd:Has w (some ad) zs) (hn:n≤32) (hwf:wfB 0 false sport dport n=true) :
  Calls Tryz.prog 28 #[.agg #[.int .u16 src,.int .u16 dst,.int .u8 proto,.int .u16 id,.int .u8 0,.bool false,.int .u16 sport,.int .u16 dport,.slice (some ad) n cap]] w fun e w'=>∃ v,e=.returned (.tuple #[v,.int .i64 0])∧w'.ownsRow w.heap.size 5 1 v (pkL src dst proto id 0 false sport dport zs).length ((pkL src dst proto id 0 false sport dport zs).map (Value.int .u8))∧Below w.heap.size w w':=by
 have H:=hide (formed_any src dst proto id 0 false sport dport (some ad) n cap)
 rw [hwf] at H
 clear hwf
 obtain ⟨i0,hi,hz0,hz1,hz2⟩:=info_parts Tryz.info5
 go_enter Tryz.func28,Tryz.ntmps28
 go_wp2_with fail
 refine (unhide H _ (by omega) (by unfold maxLen;omega)).mono ?_
 rintro e w1 ⟨rfl,o,rfl⟩
 clear H
 generalize hWW:(((w.alloc (.cells #[.int .u16 src,.int .u16 dst,.int .u8 proto,.int .u16 id,.int .u8 0,.bool false,.int .u16 sport,.int .u16 dport,.slice (some ad) n cap] 40))).alloc o)=w1
 have HB:Hid (Below (w.heap.size + 1) (w.alloc (.cells #[.int .u16 src,.int .u16 dst,.int .u8 proto,.int .u16 id,.int .u8 0,.bool false,.int .u16 sport,.int .u16 dport,.slice (some ad) n cap] 40)) w1):=by rw [← hWW];exact (Below.refl _ _).alloc (by simp) _
 clear hWW
 have hz:w.heap.size + 1≤w1.heap.size:=by have:=HB.out.size;simpa using this
 have cc:=box_cell HB.out
 go_wp2_with fail
 refine (two_any sport _ (by omega) (by omega)).mono ?_
 rintro e wt ⟨rfl,rfl⟩
 go_wp2_with (at_builtin;refine wpList_append_own _ rfl (.tmp 16) (.tmp 20) 38 rfl (w.heap.size + 1) 5 i0 (.int .u8 0) 1 1 Tryz.underlying38 hi hz0 hz1 hz2 rfl (by decide) _ _ _ rfl (World.ownsRow_nil _ _ _ _) ⟨w1.heap.size,0,none⟩ 2 2 [.int .u8 (sport / 256),.int .u8 (sport % 256)] rfl rfl (cells_new _ _ _) (by simp [Value.oneCell']) (by unfold maxLen;omega) (by omega) (by simp;omega) ?_)
 intro v2 w2 hown hgrow hiff
 have HT2:=hide hown
 have HB2:Hid (Below (w.heap.size + 1) (w.alloc (.cells #[.int .u16 src,.int .u16 dst,.int .u8 proto,.int .u16 id,.int .u8 0,.bool false,.int .u16 sport,.int .u16 dport,.slice (some ad) n cap] 40)) w2):=(HB.out.alloc hz _).grown hgrow (by simp;omega) (by simp [Value.ownBlock])
 have hz2':w.heap.size + 1≤w2.heap.size:=by have:=HB2.out.size;simpa using this
 clear hown hgrow hiff cc HB hz
 have cc:=box_cell HB2.out
 go_wp2_with fail
 refine (two_any dport _ (by omega) (by omega)).mono ?_
 rintro e wt ⟨rfl,rfl⟩
 go_wp2_with (at_builtin;refine wpList_append_own _ rfl (.tmp 22) (.tmp 26) 38 rfl (w.heap.size + 1) 5 i0 (.int .u8 0) 1 1 Tryz.underlying38 hi hz0 hz1 hz2 rfl (by decide) _ _ _ rfl (HT2.out.alloc _) ⟨w2.heap.size,0,none⟩ 2 2 [.int .u8 (dport / 256),.int .u8 (dport % 256)] rfl rfl (cells_new _ _ _) (by simp [Value.oneCell']) (by unfold maxLen;omega) (by omega) (by simp;omega) ?_)
 intro v3 w3 hown hgrow hiff
 have HT3:=hide hown
 have HB3:Hid (Below (w.heap.size + 1) (w.alloc (.cells #[.int .u16 src,.int .u16 dst,.int .u8 proto,.int .u16 id,.int .u8 0,.bool false,.int .u16 sport,.int .u16 dport,.slice (some ad) n cap] 40)) w3):=(HB2.out.alloc hz2' _).grown hgrow (by simp;omega) (fun q hq=>(HT2.out.lt q hq).1)
 have hz3':w.heap.size + 1≤w3.heap.size:=by have:=HB3.out.size;simpa using this
 clear hown hgrow hiff cc HB2 hz2' HT2
 have cc:=box_cell HB3.out
 have hd':=hd.below (below_old HB3.out)
 have HC:=hide hd'.cells
 clear hd'
 go_wp2_with (at_builtin;refine wpList_append_own _ rfl (.tmp 28) (.tmp 30) 38 rfl (w.heap.size + 1) 5 i0 (.int .u8 0) 1 1 Tryz.underlying38 hi hz0 hz1 hz2 rfl (by decide) _ _ _ rfl HT3.out ad n cap (zs.map (Value.int .u8)) rfl (by simp [hzs]) HC.out (ints_oneCell _ _) (by unfold maxLen;omega) (by omega) hz3' ?_)
 intro v9 w9 hown hgrow hiff
 have HTT:Hid (w9.ownsRow (w.heap.size + 1) 5 1 v9 (4 + n) (([sport / 256,sport % 256,dport / 256,dport % 256] ++ zs).map (Value.int .u8))):=by show World.ownsRow _ _ _ _ _ _ _;simpa using hown
 have HB9:Hid (Below (w.heap.size + 1) (w.alloc (.cells #[.int .u16 src,.int .u16 dst,.int .u8 proto,.int .u16 id,.int .u8 0,.bool false,.int .u16 sport,.int .u16 dport,.slice (some ad) n cap] 40)) w9):=HB3.out.grown hgrow hz3' (fun q hq=>(HT3.out.lt q hq).1)
 have hz9':w.heap.size + 1≤w9.heap.size:=by have:=HB9.out.size;simpa using this
 clear hown hgrow hiff cc HB3 hz3' HC hd HT3
 have cc:=box_cell HB9.out
 obtain ⟨g9,q9,rfl⟩:=(own_shape HTT.out).resolve_left (by rintro rfl;rcases HTT.out.2 with ⟨_,h⟩ | ⟨_,_,_,h,_⟩;omega;simp at h)
 have HTL:Hid (∀ q,Value.ownBlock (.slice (some ⟨g9,0,none⟩) (4 + n) q9)=some q→q < w9.heap.size):=own_lt HTT.out
 have hwt:w.heap.size < w9.heap.size:=by omega
 have HCC:=hide cc
 have HBw:Hid (Below w.heap.size w w9):=below_old HB9.out
 go_wp2_with fail
 generalize hWA:w9.alloc (.cells #[.int .u8 16,.int .u8 proto] 5)=wa
 have HBa:Hid (Below w9.heap.size w9 wa):=by rw [← hWA];exact (Below.refl _ _).alloc (Nat.le_refl _) _
 have HOa:Hid (wa.ownsRow w9.heap.size 5 1 (.slice (some ⟨w9.heap.size,0,none⟩) 2 2) 2 (([16,proto]:List Int).map (Value.int .u8))):=by rw [← hWA];exact own_build w9 5 [.int .u8 16,.int .u8 proto] (by simp [maxLen])
 clear hWA cc
 have cc:∀ j,wa.cell? ⟨w.heap.size,j,none⟩=#[.int .u16 src,.int .u16 dst,.int .u8 proto,.int .u16 id,.int .u8 0,.bool false,.int .u16 sport,.int .u16 dport,.slice (some ad) n cap][j]?:=fun j=>(HBa.out.cell (p:=⟨w.heap.size,j,none⟩) hwt).trans (HCC.out j)
 have hzc:w9.heap.size≤wa.heap.size:=HBa.out.size
 have hzw:w.heap.size < wa.heap.size:=by omega
 refine (two_any src _ (by omega) (by omega)).mono ?_
 rintro e wx ⟨rfl,rfl⟩
 go_wp2_with (at_builtin;refine wpList_append_own _ rfl (.tmp 38) (.tmp 42) 38 rfl w9.heap.size 5 i0 (.int .u8 0) 1 1 Tryz.underlying38 hi hz0 hz1 hz2 rfl (by decide) _ _ _ rfl (HOa.out.alloc _) ⟨wa.heap.size,0,none⟩ 2 2 [.int .u8 (src / 256),.int .u8 (src % 256)] rfl rfl (cells_new _ _ _) (by simp [Value.oneCell']) (by unfold maxLen;omega) (by omega) (by simp;omega) ?_)
 intro vwb wb hown hgrow hiff
 have HOwb:Hid (wb.ownsRow w9.heap.size 5 1 vwb 4 (([16,proto,(src / 256),(src % 256)]:List Int).map (Value.int .u8))):=by show World.ownsRow _ _ _ _ _ _ _;simpa using hown
 have HBwb:Hid (Below w9.heap.size w9 wb):=(HBa.out.alloc hzc _).grown hgrow (by simp;omega) (fun q hq=>(HOa.out.lt q hq).1)
 clear hown hgrow hiff cc hzc hzw HOa HBa
 have cc:∀ j,wb.cell? ⟨w.heap.size,j,none⟩=#[.int .u16 src,.int .u16 dst,.int .u8 proto,.int .u16 id,.int .u8 0,.bool false,.int .u16 sport,.int .u16 dport,.slice (some ad) n cap][j]?:=fun j=>(HBwb.out.cell (p:=⟨w.heap.size,j,none⟩) hwt).trans (HCC.out j)
 have hzc:w9.heap.size≤wb.heap.size:=HBwb.out.size
 have hzw:w.heap.size < wb.heap.size:=by omega
 go_wp2_with fail
 refine (two_any dst _ (by omega) (by omega)).mono ?_
 rintro e wx ⟨rfl,rfl⟩
 go_wp2_with (at_builtin;refine wpList_append_own _ rfl (.tmp 44) (.tmp 48) 38 rfl w9.heap.size 5 i0 (.int .u8 0) 1 1 Tryz.underlying38 hi hz0 hz1 hz2 rfl (by decide) _ _ _ rfl (HOwb.out.alloc _) ⟨wb.heap.size,0,none⟩ 2 2 [.int .u8 (dst / 256),.int .u8 (dst % 256)] rfl rfl (cells_new _ _ _) (by simp [Value.oneCell']) (by unfold maxLen;omega) (by omega) (by simp;omega) ?_)
 intro vwc wc hown hgrow hiff
 have HOwc:Hid (wc.ownsRow w9.heap.size 5 1 vwc 6 (([16,proto,(src / 256),(src % 256),(dst / 256),(dst % 256)]:List Int).map (Value.int .u8))):=by show World.ownsRow _ _ _ _ _ _ _;simpa using hown
 have HBwc:Hid (Below w9.heap.size w9 wc):=(HBwb.out.alloc hzc _).grown hgrow (by simp;omega) (fun q hq=>(HOwb.out.lt q hq).1)
 clear hown hgrow hiff cc hzc hzw HOwb HBwb
 have cc:∀ j,wc.cell? ⟨w.heap.size,j,none⟩=#[.int .u16 src,.int .u16 dst,.int .u8 proto,.int .u16 id,.int .u8 0,.bool false,.int .u16 sport,.int .u16 dport,.slice (some ad) n cap][j]?:=fun j=>(HBwc.out.cell (p:=⟨w.heap.size,j,none⟩) hwt).trans (HCC.out j)
 have hzc:w9.heap.size≤wc.heap.size:=HBwc.out.size
 have hzw:w.heap.size < wc.heap.size:=by omega
 go_wp2_with fail
 refine (two_any id _ (by omega) (by omega)).mono ?_
 rintro e wx ⟨rfl,rfl⟩
 go_wp2_with (at_builtin;refine wpList_append_own _ rfl (.tmp 50) (.tmp 54) 38 rfl w9.heap.size 5 i0 (.int .u8 0) 1 1 Tryz.underlying38 hi hz0 hz1 hz2 rfl (by decide) _ _ _ rfl (HOwc.out.alloc _) ⟨wc.heap.size,0,none⟩ 2 2 [.int .u8 (id / 256),.int .u8 (id % 256)] rfl rfl (cells_new _ _ _) (by simp [Value.oneCell']) (by unfold maxLen;omega) (by omega) (by simp;omega) ?_)
 intro vwd wd hown hgrow hiff
 have HOwd:Hid (wd.ownsRow w9.heap.size 5 1 vwd 8 (([16,proto,(src / 256),(src % 256),(dst / 256),(dst % 256),(id / 256),(id % 256)]:List Int).map (Value.int .u8))):=by show World.ownsRow _ _ _ _ _ _ _;simpa using hown
 have HBwd:Hid (Below w9.heap.size w9 wd):=(HBwc.out.alloc hzc _).grown hgrow (by simp;omega) (fun q hq=>(HOwc.out.lt q hq).1)
 clear hown hgrow hiff cc hzc hzw HOwc HBwc
 have cc:∀ j,wd.cell? ⟨w.heap.size,j,none⟩=#[.int .u16 src,.int .u16 dst,.int .u8 proto,.int .u16 id,.int .u8 0,.bool false,.int .u16 sport,.int .u16 dport,.slice (some ad) n cap][j]?:=fun j=>(HBwd.out.cell (p:=⟨w.heap.size,j,none⟩) hwt).trans (HCC.out j)
 have hzc:w9.heap.size≤wd.heap.size:=HBwd.out.size
 have hzw:w.heap.size < wd.heap.size:=by omega
 go_wp2_with (at_builtin;refine wpList_append_own _ rfl (.tmp 56) (.tmp 62) 38 rfl w9.heap.size 5 i0 (.int .u8 0) 1 1 Tryz.underlying38 hi hz0 hz1 hz2 rfl (by decide) _ _ _ rfl (HOwd.out.alloc _) ⟨wd.heap.size,0,none⟩ 2 2 [.int .u8 0,.int .u8 (4 + (n:Int))] rfl rfl (cells_new _ _ _) (by simp [Value.oneCell']) (by unfold maxLen;omega) (by omega) (by simp;omega) ?_)
 intro vwe we hown hgrow hiff
 have HOwe:Hid (we.ownsRow w9.heap.size 5 1 vwe 10 (([16,proto,(src / 256),(src % 256),(dst / 256),(dst % 256),(id / 256),(id % 256),0,(4 + (n:Int))]:List Int).map (Value.int .u8))):=by show World.ownsRow _ _ _ _ _ _ _;simpa using hown
 have HBwe:Hid (Below w9.heap.size w9 we):=(HBwd.out.alloc hzc _).grown hgrow (by simp;omega) (fun q hq=>(HOwd.out.lt q hq).1)
 clear hown hgrow hiff cc hzc hzw HOwd HBwd
 obtain ⟨go,co,rfl⟩:=(own_shape HOwe.out).resolve_left (by rintro rfl;rcases HOwe.out.2 with ⟨_,h⟩ | ⟨_,_,_,h,_⟩;omega;simp at h)
 have HS:=hide (owns_has HOwe.out).1
 have cc:∀ j,we.cell? ⟨w.heap.size,j,none⟩=#[.int .u16 src,.int .u16 dst,.int .u8 proto,.int .u16 id,.int .u8 0,.bool false,.int .u16 sport,.int .u16 dport,.slice (some ad) n cap][j]?:=fun j=>(HBwe.out.cell (p:=⟨w.heap.size,j,none⟩) hwt).trans (HCC.out j)
 have hzc:w9.heap.size≤we.heap.size:=HBwe.out.size
 have hzw:w.heap.size < we.heap.size:=by omega
 go_wp2_with fail
 refine (sum_any go 0 10 co 16 proto (src / 256) (src % 256) (dst / 256) (dst % 256) (id / 256) (id % 256) 0 (4 + (n:Int)) [] _ HS.out (by omega) (by omega) (by omega) (by omega) (by omega) (by omega) (by omega) (by omega) (by omega) (by omega) (by omega) (by omega)).mono ?_
 rintro e wx ⟨rfl,m,rfl⟩
 have hcb:=csum_bd 16 proto (src / 256) (src % 256) (dst / 256) (dst % 256) (id / 256) (id % 256) 0 (4 + (n:Int)) (by omega) (by omega) (by omega) (by omega) (by omega) (by omega) (by omega) (by omega) (by omega) (by omega)
 have HCS:Hid (csum 16 proto (src / 256) (src % 256) (dst / 256) (dst % 256) (id / 256) (id % 256) 0 (4 + (n:Int))=cs src dst proto id 0 false n):=by show _=_;simp [cs,mk,tl,Int.add_comm]
 generalize csum 16 proto (src / 256) (src % 256) (dst / 256) (dst % 256) (id / 256) (id % 256) 0 (4 + (n:Int))=c at *
 generalize hWY:we.drewN m=wy
 have HBy:Hid (Below w9.heap.size w9 wy):=by rw [← hWY];exact below_drewN HBwe.out m
 have HOy:Hid (wy.ownsRow w9.heap.size 5 1 (.slice (some ⟨go,0,none⟩) 10 co) 10 (([16,proto,(src / 256),(src % 256),(dst / 256),(dst % 256),(id / 256),(id % 256),0,(4 + (n:Int))]:List Int).map (Value.int .u8))):=by rw [← hWY];exact HOwe.out
 clear hWY cc hzc hzw HS HOwe HBwe
 have cc:∀ j,wy.cell? ⟨w.heap.size,j,none⟩=#[.int .u16 src,.int .u16 dst,.int .u8 proto,.int .u16 id,.int .u8 0,.bool false,.int .u16 sport,.int .u16 dport,.slice (some ad) n cap][j]?:=fun j=>(HBy.out.cell (p:=⟨w.heap.size,j,none⟩) hwt).trans (HCC.out j)
 have hzc:w9.heap.size≤wy.heap.size:=HBy.out.size
 have hzw:w.heap.size < wy.heap.size:=by omega
 go_wp2_with fail
 refine (two_any c _ (by omega) (by omega)).mono ?_
 rintro e wx ⟨rfl,rfl⟩
 go_wp2_with (at_builtin;refine wpList_append_own _ rfl (.tmp 66) (.tmp 68) 38 rfl w9.heap.size 5 i0 (.int .u8 0) 1 1 Tryz.underlying38 hi hz0 hz1 hz2 rfl (by decide) _ _ _ rfl (HOy.out.alloc _) ⟨wy.heap.size,0,none⟩ 2 2 [.int .u8 (c / 256),.int .u8 (c % 256)] rfl rfl (cells_new _ _ _) (by simp [Value.oneCell']) (by unfold maxLen;omega) (by omega) (by simp;omega) ?_)
 intro vwf wf hown hgrow hiff
 have HOwf:Hid (wf.ownsRow w9.heap.size 5 1 vwf 12 (([16,proto,(src / 256),(src % 256),(dst / 256),(dst % 256),(id / 256),(id % 256),0,(4 + (n:Int)),(c / 256),(c % 256)]:List Int).map (Value.int .u8))):=by show World.ownsRow _ _ _ _ _ _ _;simpa using hown
 have HBwf:Hid (Below w9.heap.size w9 wf):=(HBy.out.alloc hzc _).grown hgrow (by simp;omega) (fun q hq=>(HOy.out.lt q hq).1)
 clear hown hgrow hiff cc hzc hzw HOy HBy
 have hzc:w9.heap.size≤wf.heap.size:=HBwf.out.size
 have HTN:=hide (own_below HTT.out HTL.out HBwf.out)
 have HTC:=hide (HTN.out.cells (g:=g9) rfl)
 go_wp2_with (at_builtin;refine wpList_append_own _ rfl (.tmp 70) (.tmp 71) 38 rfl w9.heap.size 5 i0 (.int .u8 0) 1 1 Tryz.underlying38 hi hz0 hz1 hz2 rfl (by decide) _ _ _ rfl HOwf.out ⟨g9,0,none⟩ (4 + n) q9 (([sport / 256,sport % 256,dport / 256,dport % 256] ++ zs:List Int).map (Value.int .u8)) rfl (by simp [hzs];omega) HTC.out (ints_oneCell _ _) (by unfold maxLen;omega) (by omega) hzc ?_)
 intro vz wz hown hgrow hiff
 have HZ:=hide hown
 have HBz:Hid (Below w9.heap.size w9 wz):=HBwf.out.grown hgrow hzc (fun q hq=>(HOwf.out.lt q hq).1)
 clear hown hgrow hiff
 go_wp2
 go_ret2
 refine ⟨_,rfl,?_,HBw.out.trans (HBz.out.mono (by omega))⟩
 have h:=ownsRow_base HZ.out (show w.heap.size≤w9.heap.size by omega)
 subst hzs
 simpa [pkL,hdL,ptL,mk,tl,← HCS.out,Nat.add_comm,Nat.add_left_comm,Nat.add_assoc,Int.add_comm] using h
theorem rpack_0st (src dst proto id:Int) (sport dport:Int) (ad:Addr) (n cap:Nat) (zs:List Int) (w:World) (hsrc0:0≤src) (hsrc:src≤65535) (hdst0:0≤dst) (hdst:dst≤65535) (hproto0:0≤proto) (hproto:proto≤255) (hid0:0≤id) (hid:id≤65535) (hsport0:0≤sport) (hsport:sport≤65535) (hdport0:0≤dport) (hdport:dport≤65535) (hzs:zs.length=n) (hd:Has w (some ad) zs) (hn:n≤32) (hwf:wfB 0 true sport dport n=true) :
  Calls Tryz.prog 28 #[.agg #[.int .u16 src,.int .u16 dst,.int .u8 proto,.int .u16 id,.int .u8 0,.bool true,.int .u16 sport,.int .u16 dport,.slice (some ad) n cap]] w fun e w'=>∃ v,e=.returned (.tuple #[v,.int .i64 0])∧w'.ownsRow w.heap.size 5 1 v (pkL src dst proto id 0 true sport dport zs).length ((pkL src dst proto id 0 true sport dport zs).map (Value.int .u8))∧Below w.heap.size w w':=by
 have H:=hide (formed_any src dst proto id 0 true sport dport (some ad) n cap)
 rw [hwf] at H
 clear hwf
 obtain ⟨i0,hi,hz0,hz1,hz2⟩:=info_parts Tryz.info5
 go_enter Tryz.func28,Tryz.ntmps28
 go_wp2_with fail
 refine (unhide H _ (by omega) (by unfold maxLen;omega)).mono ?_
 rintro e w1 ⟨rfl,o,rfl⟩
 clear H
 generalize hWW:(((w.alloc (.cells #[.int .u16 src,.int .u16 dst,.int .u8 proto,.int .u16 id,.int .u8 0,.bool true,.int .u16 sport,.int .u16 dport,.slice (some ad) n cap] 40))).alloc o)=w1
 have HB:Hid (Below (w.heap.size + 1) (w.alloc (.cells #[.int .u16 src,.int .u16 dst,.int .u8 proto,.int .u16 id,.int .u8 0,.bool true,.int .u16 sport,.int .u16 dport,.slice (some ad) n cap] 40)) w1):=by rw [← hWW];exact (Below.refl _ _).alloc (by simp) _
 clear hWW
 have hz:w.heap.size + 1≤w1.heap.size:=by have:=HB.out.size;simpa using this
 have cc:=box_cell HB.out
 go_wp2_with fail
 refine (two_any sport _ (by omega) (by omega)).mono ?_
 rintro e wt ⟨rfl,rfl⟩
 go_wp2_with (at_builtin;refine wpList_append_own _ rfl (.tmp 16) (.tmp 20) 38 rfl (w.heap.size + 1) 5 i0 (.int .u8 0) 1 1 Tryz.underlying38 hi hz0 hz1 hz2 rfl (by decide) _ _ _ rfl (World.ownsRow_nil _ _ _ _) ⟨w1.heap.size,0,none⟩ 2 2 [.int .u8 (sport / 256),.int .u8 (sport % 256)] rfl rfl (cells_new _ _ _) (by simp [Value.oneCell']) (by unfold maxLen;omega) (by omega) (by simp;omega) ?_)
 intro v2 w2 hown hgrow hiff
 have HT2:=hide hown
 have HB2:Hid (Below (w.heap.size + 1) (w.alloc (.cells #[.int .u16 src,.int .u16 dst,.int .u8 proto,.int .u16 id,.int .u8 0,.bool true,.int .u16 sport,.int .u16 dport,.slice (some ad) n cap] 40)) w2):=(HB.out.alloc hz _).grown hgrow (by simp;omega) (by simp [Value.ownBlock])
 have hz2':w.heap.size + 1≤w2.heap.size:=by have:=HB2.out.size;simpa using this
 clear hown hgrow hiff cc HB hz
 have cc:=box_cell HB2.out
 go_wp2_with fail
 refine (two_any dport _ (by omega) (by omega)).mono ?_
 rintro e wt ⟨rfl,rfl⟩
 go_wp2_with (at_builtin;refine wpList_append_own _ rfl (.tmp 22) (.tmp 26) 38 rfl (w.heap.size + 1) 5 i0 (.int .u8 0) 1 1 Tryz.underlying38 hi hz0 hz1 hz2 rfl (by decide) _ _ _ rfl (HT2.out.alloc _) ⟨w2.heap.size,0,none⟩ 2 2 [.int .u8 (dport / 256),.int .u8 (dport % 256)] rfl rfl (cells_new _ _ _) (by simp [Value.oneCell']) (by unfold maxLen;omega) (by omega) (by simp;omega) ?_)
 intro v3 w3 hown hgrow hiff
 have HT3:=hide hown
 have HB3:Hid (Below (w.heap.size + 1) (w.alloc (.cells #[.int .u16 src,.int .u16 dst,.int .u8 proto,.int .u16 id,.int .u8 0,.bool true,.int .u16 sport,.int .u16 dport,.slice (some ad) n cap] 40)) w3):=(HB2.out.alloc hz2' _).grown hgrow (by simp;omega) (fun q hq=>(HT2.out.lt q hq).1)
 have hz3':w.heap.size + 1≤w3.heap.size:=by have:=HB3.out.size;simpa using this
 clear hown hgrow hiff cc HB2 hz2' HT2
 have cc:=box_cell HB3.out
 have hd':=hd.below (below_old HB3.out)
 have HC:=hide hd'.cells
 clear hd'
 go_wp2_with (at_builtin;refine wpList_append_own _ rfl (.tmp 28) (.tmp 30) 38 rfl (w.heap.size + 1) 5 i0 (.int .u8 0) 1 1 Tryz.underlying38 hi hz0 hz1 hz2 rfl (by decide) _ _ _ rfl HT3.out ad n cap (zs.map (Value.int .u8)) rfl (by simp [hzs]) HC.out (ints_oneCell _ _) (by unfold maxLen;omega) (by omega) hz3' ?_)
 intro v9 w9 hown hgrow hiff
 have HTT:Hid (w9.ownsRow (w.heap.size + 1) 5 1 v9 (4 + n) (([sport / 256,sport % 256,dport / 256,dport % 256] ++ zs).map (Value.int .u8))):=by show World.ownsRow _ _ _ _ _ _ _;simpa using hown
 have HB9:Hid (Below (w.heap.size + 1) (w.alloc (.cells #[.int .u16 src,.int .u16 dst,.int .u8 proto,.int .u16 id,.int .u8 0,.bool true,.int .u16 sport,.int .u16 dport,.slice (some ad) n cap] 40)) w9):=HB3.out.grown hgrow hz3' (fun q hq=>(HT3.out.lt q hq).1)
 have hz9':w.heap.size + 1≤w9.heap.size:=by have:=HB9.out.size;simpa using this
 clear hown hgrow hiff cc HB3 hz3' HC hd HT3
 have cc:=box_cell HB9.out
 obtain ⟨g9,q9,rfl⟩:=(own_shape HTT.out).resolve_left (by rintro rfl;rcases HTT.out.2 with ⟨_,h⟩ | ⟨_,_,_,h,_⟩;omega;simp at h)
 have HTL:Hid (∀ q,Value.ownBlock (.slice (some ⟨g9,0,none⟩) (4 + n) q9)=some q→q < w9.heap.size):=own_lt HTT.out
 have hwt:w.heap.size < w9.heap.size:=by omega
 have HCC:=hide cc
 have HBw:Hid (Below w.heap.size w w9):=below_old HB9.out
 go_wp2_with fail
 generalize hWA:w9.alloc (.cells #[.int .u8 17,.int .u8 proto] 5)=wa
 have HBa:Hid (Below w9.heap.size w9 wa):=by rw [← hWA];exact (Below.refl _ _).alloc (Nat.le_refl _) _
 have HOa:Hid (wa.ownsRow w9.heap.size 5 1 (.slice (some ⟨w9.heap.size,0,none⟩) 2 2) 2 (([17,proto]:List Int).map (Value.int .u8))):=by rw [← hWA];exact own_build w9 5 [.int .u8 17,.int .u8 proto] (by simp [maxLen])
 clear hWA cc
 have cc:∀ j,wa.cell? ⟨w.heap.size,j,none⟩=#[.int .u16 src,.int .u16 dst,.int .u8 proto,.int .u16 id,.int .u8 0,.bool true,.int .u16 sport,.int .u16 dport,.slice (some ad) n cap][j]?:=fun j=>(HBa.out.cell (p:=⟨w.heap.size,j,none⟩) hwt).trans (HCC.out j)
 have hzc:w9.heap.size≤wa.heap.size:=HBa.out.size
 have hzw:w.heap.size < wa.heap.size:=by omega
 refine (two_any src _ (by omega) (by omega)).mono ?_
 rintro e wx ⟨rfl,rfl⟩
 go_wp2_with (at_builtin;refine wpList_append_own _ rfl (.tmp 38) (.tmp 42) 38 rfl w9.heap.size 5 i0 (.int .u8 0) 1 1 Tryz.underlying38 hi hz0 hz1 hz2 rfl (by decide) _ _ _ rfl (HOa.out.alloc _) ⟨wa.heap.size,0,none⟩ 2 2 [.int .u8 (src / 256),.int .u8 (src % 256)] rfl rfl (cells_new _ _ _) (by simp [Value.oneCell']) (by unfold maxLen;omega) (by omega) (by simp;omega) ?_)
 intro vwb wb hown hgrow hiff
 have HOwb:Hid (wb.ownsRow w9.heap.size 5 1 vwb 4 (([17,proto,(src / 256),(src % 256)]:List Int).map (Value.int .u8))):=by show World.ownsRow _ _ _ _ _ _ _;simpa using hown
 have HBwb:Hid (Below w9.heap.size w9 wb):=(HBa.out.alloc hzc _).grown hgrow (by simp;omega) (fun q hq=>(HOa.out.lt q hq).1)
 clear hown hgrow hiff cc hzc hzw HOa HBa
 have cc:∀ j,wb.cell? ⟨w.heap.size,j,none⟩=#[.int .u16 src,.int .u16 dst,.int .u8 proto,.int .u16 id,.int .u8 0,.bool true,.int .u16 sport,.int .u16 dport,.slice (some ad) n cap][j]?:=fun j=>(HBwb.out.cell (p:=⟨w.heap.size,j,none⟩) hwt).trans (HCC.out j)
 have hzc:w9.heap.size≤wb.heap.size:=HBwb.out.size
 have hzw:w.heap.size < wb.heap.size:=by omega
 go_wp2_with fail
 refine (two_any dst _ (by omega) (by omega)).mono ?_
 rintro e wx ⟨rfl,rfl⟩
 go_wp2_with (at_builtin;refine wpList_append_own _ rfl (.tmp 44) (.tmp 48) 38 rfl w9.heap.size 5 i0 (.int .u8 0) 1 1 Tryz.underlying38 hi hz0 hz1 hz2 rfl (by decide) _ _ _ rfl (HOwb.out.alloc _) ⟨wb.heap.size,0,none⟩ 2 2 [.int .u8 (dst / 256),.int .u8 (dst % 256)] rfl rfl (cells_new _ _ _) (by simp [Value.oneCell']) (by unfold maxLen;omega) (by omega) (by simp;omega) ?_)
 intro vwc wc hown hgrow hiff
 have HOwc:Hid (wc.ownsRow w9.heap.size 5 1 vwc 6 (([17,proto,(src / 256),(src % 256),(dst / 256),(dst % 256)]:List Int).map (Value.int .u8))):=by show World.ownsRow _ _ _ _ _ _ _;simpa using hown
 have HBwc:Hid (Below w9.heap.size w9 wc):=(HBwb.out.alloc hzc _).grown hgrow (by simp;omega) (fun q hq=>(HOwb.out.lt q hq).1)
 clear hown hgrow hiff cc hzc hzw HOwb HBwb
 have cc:∀ j,wc.cell? ⟨w.heap.size,j,none⟩=#[.int .u16 src,.int .u16 dst,.int .u8 proto,.int .u16 id,.int .u8 0,.bool true,.int .u16 sport,.int .u16 dport,.slice (some ad) n cap][j]?:=fun j=>(HBwc.out.cell (p:=⟨w.heap.size,j,none⟩) hwt).trans (HCC.out j)
 have hzc:w9.heap.size≤wc.heap.size:=HBwc.out.size
 have hzw:w.heap.size < wc.heap.size:=by omega
 go_wp2_with fail
 refine (two_any id _ (by omega) (by omega)).mono ?_
 rintro e wx ⟨rfl,rfl⟩
 go_wp2_with (at_builtin;refine wpList_append_own _ rfl (.tmp 50) (.tmp 54) 38 rfl w9.heap.size 5 i0 (.int .u8 0) 1 1 Tryz.underlying38 hi hz0 hz1 hz2 rfl (by decide) _ _ _ rfl (HOwc.out.alloc _) ⟨wc.heap.size,0,none⟩ 2 2 [.int .u8 (id / 256),.int .u8 (id % 256)] rfl rfl (cells_new _ _ _) (by simp [Value.oneCell']) (by unfold maxLen;omega) (by omega) (by simp;omega) ?_)
 intro vwd wd hown hgrow hiff
 have HOwd:Hid (wd.ownsRow w9.heap.size 5 1 vwd 8 (([17,proto,(src / 256),(src % 256),(dst / 256),(dst % 256),(id / 256),(id % 256)]:List Int).map (Value.int .u8))):=by show World.ownsRow _ _ _ _ _ _ _;simpa using hown
 have HBwd:Hid (Below w9.heap.size w9 wd):=(HBwc.out.alloc hzc _).grown hgrow (by simp;omega) (fun q hq=>(HOwc.out.lt q hq).1)
 clear hown hgrow hiff cc hzc hzw HOwc HBwc
 have cc:∀ j,wd.cell? ⟨w.heap.size,j,none⟩=#[.int .u16 src,.int .u16 dst,.int .u8 proto,.int .u16 id,.int .u8 0,.bool true,.int .u16 sport,.int .u16 dport,.slice (some ad) n cap][j]?:=fun j=>(HBwd.out.cell (p:=⟨w.heap.size,j,none⟩) hwt).trans (HCC.out j)
 have hzc:w9.heap.size≤wd.heap.size:=HBwd.out.size
 have hzw:w.heap.size < wd.heap.size:=by omega
 go_wp2_with (at_builtin;refine wpList_append_own _ rfl (.tmp 56) (.tmp 62) 38 rfl w9.heap.size 5 i0 (.int .u8 0) 1 1 Tryz.underlying38 hi hz0 hz1 hz2 rfl (by decide) _ _ _ rfl (HOwd.out.alloc _) ⟨wd.heap.size,0,none⟩ 2 2 [.int .u8 0,.int .u8 (4 + (n:Int))] rfl rfl (cells_new _ _ _) (by simp [Value.oneCell']) (by unfold maxLen;omega) (by omega) (by simp;omega) ?_)
 intro vwe we hown hgrow hiff
 have HOwe:Hid (we.ownsRow w9.heap.size 5 1 vwe 10 (([17,proto,(src / 256),(src % 256),(dst / 256),(dst % 256),(id / 256),(id % 256),0,(4 + (n:Int))]:List Int).map (Value.int .u8))):=by show World.ownsRow _ _ _ _ _ _ _;simpa using hown
 have HBwe:Hid (Below w9.heap.size w9 we):=(HBwd.out.alloc hzc _).grown hgrow (by simp;omega) (fun q hq=>(HOwd.out.lt q hq).1)
 clear hown hgrow hiff cc hzc hzw HOwd HBwd
 obtain ⟨go,co,rfl⟩:=(own_shape HOwe.out).resolve_left (by rintro rfl;rcases HOwe.out.2 with ⟨_,h⟩ | ⟨_,_,_,h,_⟩;omega;simp at h)
 have HS:=hide (owns_has HOwe.out).1
 have cc:∀ j,we.cell? ⟨w.heap.size,j,none⟩=#[.int .u16 src,.int .u16 dst,.int .u8 proto,.int .u16 id,.int .u8 0,.bool true,.int .u16 sport,.int .u16 dport,.slice (some ad) n cap][j]?:=fun j=>(HBwe.out.cell (p:=⟨w.heap.size,j,none⟩) hwt).trans (HCC.out j)
 have hzc:w9.heap.size≤we.heap.size:=HBwe.out.size
 have hzw:w.heap.size < we.heap.size:=by omega
 go_wp2_with fail
 refine (sum_any go 0 10 co 17 proto (src / 256) (src % 256) (dst / 256) (dst % 256) (id / 256) (id % 256) 0 (4 + (n:Int)) [] _ HS.out (by omega) (by omega) (by omega) (by omega) (by omega) (by omega) (by omega) (by omega) (by omega) (by omega) (by omega) (by omega)).mono ?_
 rintro e wx ⟨rfl,m,rfl⟩
 have hcb:=csum_bd 17 proto (src / 256) (src % 256) (dst / 256) (dst % 256) (id / 256) (id % 256) 0 (4 + (n:Int)) (by omega) (by omega) (by omega) (by omega) (by omega) (by omega) (by omega) (by omega) (by omega) (by omega)
 have HCS:Hid (csum 17 proto (src / 256) (src % 256) (dst / 256) (dst % 256) (id / 256) (id % 256) 0 (4 + (n:Int))=cs src dst proto id 0 true n):=by show _=_;simp [cs,mk,tl,Int.add_comm]
 generalize csum 17 proto (src / 256) (src % 256) (dst / 256) (dst % 256) (id / 256) (id % 256) 0 (4 + (n:Int))=c at *
 generalize hWY:we.drewN m=wy
 have HBy:Hid (Below w9.heap.size w9 wy):=by rw [← hWY];exact below_drewN HBwe.out m
 have HOy:Hid (wy.ownsRow w9.heap.size 5 1 (.slice (some ⟨go,0,none⟩) 10 co) 10 (([17,proto,(src / 256),(src % 256),(dst / 256),(dst % 256),(id / 256),(id % 256),0,(4 + (n:Int))]:List Int).map (Value.int .u8))):=by rw [← hWY];exact HOwe.out
 clear hWY cc hzc hzw HS HOwe HBwe
 have cc:∀ j,wy.cell? ⟨w.heap.size,j,none⟩=#[.int .u16 src,.int .u16 dst,.int .u8 proto,.int .u16 id,.int .u8 0,.bool true,.int .u16 sport,.int .u16 dport,.slice (some ad) n cap][j]?:=fun j=>(HBy.out.cell (p:=⟨w.heap.size,j,none⟩) hwt).trans (HCC.out j)
 have hzc:w9.heap.size≤wy.heap.size:=HBy.out.size
 have hzw:w.heap.size < wy.heap.size:=by omega
 go_wp2_with fail
 refine (two_any c _ (by omega) (by omega)).mono ?_
 rintro e wx ⟨rfl,rfl⟩
 go_wp2_with (at_builtin;refine wpList_append_own _ rfl (.tmp 66) (.tmp 68) 38 rfl w9.heap.size 5 i0 (.int .u8 0) 1 1 Tryz.underlying38 hi hz0 hz1 hz2 rfl (by decide) _ _ _ rfl (HOy.out.alloc _) ⟨wy.heap.size,0,none⟩ 2 2 [.int .u8 (c / 256),.int .u8 (c % 256)] rfl rfl (cells_new _ _ _) (by simp [Value.oneCell']) (by unfold maxLen;omega) (by omega) (by simp;omega) ?_)
 intro vwf wf hown hgrow hiff
 have HOwf:Hid (wf.ownsRow w9.heap.size 5 1 vwf 12 (([17,proto,(src / 256),(src % 256),(dst / 256),(dst % 256),(id / 256),(id % 256),0,(4 + (n:Int)),(c / 256),(c % 256)]:List Int).map (Value.int .u8))):=by show World.ownsRow _ _ _ _ _ _ _;simpa using hown
 have HBwf:Hid (Below w9.heap.size w9 wf):=(HBy.out.alloc hzc _).grown hgrow (by simp;omega) (fun q hq=>(HOy.out.lt q hq).1)
 clear hown hgrow hiff cc hzc hzw HOy HBy
 have hzc:w9.heap.size≤wf.heap.size:=HBwf.out.size
 have HTN:=hide (own_below HTT.out HTL.out HBwf.out)
 have HTC:=hide (HTN.out.cells (g:=g9) rfl)
 go_wp2_with (at_builtin;refine wpList_append_own _ rfl (.tmp 70) (.tmp 71) 38 rfl w9.heap.size 5 i0 (.int .u8 0) 1 1 Tryz.underlying38 hi hz0 hz1 hz2 rfl (by decide) _ _ _ rfl HOwf.out ⟨g9,0,none⟩ (4 + n) q9 (([sport / 256,sport % 256,dport / 256,dport % 256] ++ zs:List Int).map (Value.int .u8)) rfl (by simp [hzs];omega) HTC.out (ints_oneCell _ _) (by unfold maxLen;omega) (by omega) hzc ?_)
 intro vz wz hown hgrow hiff
 have HZ:=hide hown
 have HBz:Hid (Below w9.heap.size w9 wz):=HBwf.out.grown hgrow hzc (fun q hq=>(HOwf.out.lt q hq).1)
 clear hown hgrow hiff
 go_wp2
 go_ret2
 refine ⟨_,rfl,?_,HBw.out.trans (HBz.out.mono (by omega))⟩
 have h:=ownsRow_base HZ.out (show w.heap.size≤w9.heap.size by omega)
 subst hzs
 simpa [pkL,hdL,ptL,mk,tl,← HCS.out,Nat.add_comm,Nat.add_left_comm,Nat.add_assoc,Int.add_comm] using h
end Go.Proofs.YtajphdppmdoalaaGreat
