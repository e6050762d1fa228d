import Derived.Test.YtajphdppmdoalaaGreatZAJ6toT4
import Derived.Test.YtajphdppmdoalaaGreatZAJ1toLM
import Derived.Test.YtajphdppmdoalaaGreatZAU3toU3
set_option maxRecDepth 100000
set_option maxHeartbeats 6400000
set_option linter.unusedVariables false
namespace Go.Proofs.YtajphdppmdoalaaGreat
open Go.RowKit
theorem rem31 (h:Int) (h0:0≤h):∃ r:Nat,h % 31=(r:Int)∧r < 31∧r=h.toNat % 31∧(r:Int) < 31:=⟨h.toNat % 31,by omega,Nat.mod_lt _ (by decide),rfl,by omega⟩
theorem rowner_any (yb:Nat) (src dst proto id off:Int) (more:Bool) (sport dport:Int) (ao:Option Addr) (n cap:Nat) (R:Int) (w:World) (hsrc:0≤src∧src≤65535) (hdst:0≤dst∧dst≤65535) (hproto:0≤proto∧proto≤255) (hid:0≤id∧id≤65535) (hsport:0≤sport∧sport≤65535) (hdport:0≤dport∧dport≤65535) (hR:1≤R∧R≤5) (cR:w.cell? ⟨yb,0,none⟩=some (.int .i64 R)) (hyb:yb < w.heap.size) :
  Calls Tryz.prog 51 #[.pointer (some ⟨yb,0,none⟩),.agg #[.int .u16 src,.int .u16 dst,.int .u8 proto,.int .u16 id,.int .u8 off,.bool more,.int .u16 sport,.int .u16 dport,.slice ao n cap]] w fun e w'=>e=.returned (.int .i64 (dgH src dst proto id % R))∧Below w.heap.size w w':=by
 have HCR:=hide cR
 clear cR
 unfold dgH
 go_enter Tryz.func51,Tryz.ntmps51
 go_wp2_with fail
 obtain ⟨i0,hi,hz0,hz1,hz2⟩:=info_parts info_u8
 generalize hWW:(w.alloc (.cells #[.int .u16 src,.int .u16 dst,.int .u8 proto,.int .u16 id,.int .u8 off,.bool more,.int .u16 sport,.int .u16 dport,.slice ao n cap] 40))=w1
 have HB1:Hid (Below (w.heap.size + 1) (w.alloc (.cells #[.int .u16 src,.int .u16 dst,.int .u8 proto,.int .u16 id,.int .u8 off,.bool more,.int .u16 sport,.int .u16 dport,.slice ao n cap] 40)) w1):=by rw [← hWW];exact Below.refl _ _
 have hz1':w.heap.size + 1≤w1.heap.size:=by rw [← hWW];simp
 clear hWW
 have cc:=box_cell HB1.out
 refine (two_any src _ (by omega) (by omega)).mono ?_
 rintro e wt ⟨rfl,rfl⟩
 go_wp2_with (at_builtin;refine wpList_append_own _ rfl (.tmp 7) (.tmp 11) 38 rfl (w.heap.size + 1) 5 i0 (.int .u8 0) 1 1 Tryz.underlying38 hi hz0 hz1 hz2 rfl (by decide) _ _ _ rfl (World.ownsRow_nil _ _ _ _) ⟨w1.heap.size,0,none⟩ 2 2 [.int .u8 (src / 256),.int .u8 (src % 256)] rfl rfl (cells_new _ _ _) (by simp [Value.oneCell']) (by unfold maxLen;omega) (by omega) (by simp;try omega) ?_)
 intro v2 w2 hown hgrow hiff
 have HT2:Hid (w2.ownsRow (w.heap.size + 1) 5 1 v2 2 ([src / 256,src % 256].map (Value.int .u8))):=by show World.ownsRow _ _ _ _ _ _ _;simpa using hown
 have HB2:Hid (Below (w.heap.size + 1) (w.alloc (.cells #[.int .u16 src,.int .u16 dst,.int .u8 proto,.int .u16 id,.int .u8 off,.bool more,.int .u16 sport,.int .u16 dport,.slice ao n cap] 40)) w2):=(HB1.out.alloc hz1' _).grown hgrow (by simp;try omega) (by simp [Value.ownBlock])
 have hz2':w.heap.size + 1≤w2.heap.size:=by have:=HB2.out.size;simpa using this
 clear hown hgrow hiff cc HB1 hz1'
 have cc:=box_cell HB2.out
 go_wp2_with fail
 refine (two_any dst _ (by omega) (by omega)).mono ?_
 rintro e wt ⟨rfl,rfl⟩
 go_wp2_with (at_builtin;refine wpList_append_own _ rfl (.tmp 13) (.tmp 17) 38 rfl (w.heap.size + 1) 5 i0 (.int .u8 0) 1 1 Tryz.underlying38 hi hz0 hz1 hz2 rfl (by decide) _ _ _ rfl (HT2.out.alloc _) ⟨w2.heap.size,0,none⟩ 2 2 [.int .u8 (dst / 256),.int .u8 (dst % 256)] rfl rfl (cells_new _ _ _) (by simp [Value.oneCell']) (by unfold maxLen;omega) (by omega) (by simp;try omega) ?_)
 intro v3 w3 hown hgrow hiff
 have HT3:Hid (w3.ownsRow (w.heap.size + 1) 5 1 v3 4 ([src / 256,src % 256,dst / 256,dst % 256].map (Value.int .u8))):=by show World.ownsRow _ _ _ _ _ _ _;simpa using hown
 have HB3:Hid (Below (w.heap.size + 1) (w.alloc (.cells #[.int .u16 src,.int .u16 dst,.int .u8 proto,.int .u16 id,.int .u8 off,.bool more,.int .u16 sport,.int .u16 dport,.slice ao n cap] 40)) w3):=(HB2.out.alloc hz2' _).grown hgrow (by simp;try omega) (fun q hq=>(HT2.out.lt q hq).1)
 have hz3':w.heap.size + 1≤w3.heap.size:=by have:=HB3.out.size;simpa using this
 clear hown hgrow hiff cc HB2 hz2' HT2
 have cc:=box_cell HB3.out
 go_wp2_with (at_builtin;refine wpList_append_own _ rfl (.tmp 19) (.tmp 22) 38 rfl (w.heap.size + 1) 5 i0 (.int .u8 0) 1 1 Tryz.underlying38 hi hz0 hz1 hz2 rfl (by decide) _ _ _ rfl (HT3.out.alloc _) ⟨w3.heap.size,0,none⟩ 1 1 [_] rfl rfl (cell_one_new _ _ _) (by simp [Value.oneCell']) (by unfold maxLen;omega) (by omega) (by simp;try omega) ?_)
 intro v4 w4 hown hgrow hiff
 have HT4:Hid (w4.ownsRow (w.heap.size + 1) 5 1 v4 5 ([src / 256,src % 256,dst / 256,dst % 256,proto].map (Value.int .u8))):=by show World.ownsRow _ _ _ _ _ _ _;simpa using hown
 have HB4:Hid (Below (w.heap.size + 1) (w.alloc (.cells #[.int .u16 src,.int .u16 dst,.int .u8 proto,.int .u16 id,.int .u8 off,.bool more,.int .u16 sport,.int .u16 dport,.slice ao n cap] 40)) w4):=(HB3.out.alloc hz3' _).grown hgrow (by simp;try omega) (fun q hq=>(HT3.out.lt q hq).1)
 have hz4':w.heap.size + 1≤w4.heap.size:=by have:=HB4.out.size;simpa using this
 clear hown hgrow hiff cc HB3 hz3' HT3
 have cc:=box_cell HB4.out
 go_wp2_with fail
 refine (two_any id _ (by omega) (by omega)).mono ?_
 rintro e wt ⟨rfl,rfl⟩
 go_wp2_with (at_builtin;refine wpList_append_own _ rfl (.tmp 24) (.tmp 28) 38 rfl (w.heap.size + 1) 5 i0 (.int .u8 0) 1 1 Tryz.underlying38 hi hz0 hz1 hz2 rfl (by decide) _ _ _ rfl (HT4.out.alloc _) ⟨w4.heap.size,0,none⟩ 2 2 [.int .u8 (id / 256),.int .u8 (id % 256)] rfl rfl (cells_new _ _ _) (by simp [Value.oneCell']) (by unfold maxLen;omega) (by omega) (by simp;try omega) ?_)
 intro v5 w5 hown hgrow hiff
 have HT5:Hid (w5.ownsRow (w.heap.size + 1) 5 1 v5 7 ([src / 256,src % 256,dst / 256,dst % 256,proto,id / 256,id % 256].map (Value.int .u8))):=by show World.ownsRow _ _ _ _ _ _ _;simpa using hown
 have HB5:Hid (Below (w.heap.size + 1) (w.alloc (.cells #[.int .u16 src,.int .u16 dst,.int .u8 proto,.int .u16 id,.int .u8 off,.bool more,.int .u16 sport,.int .u16 dport,.slice ao n cap] 40)) w5):=(HB4.out.alloc hz4' _).grown hgrow (by simp;try omega) (fun q hq=>(HT4.out.lt q hq).1)
 have hz5':w.heap.size + 1≤w5.heap.size:=by have:=HB5.out.size;simpa using this
 clear hown hgrow hiff cc HB4 hz4' HT4
 obtain ⟨g5,q5,rfl⟩:=(own_shape HT5.out).resolve_left (by rintro rfl;rcases HT5.out.2 with ⟨_,h⟩ | ⟨_,_,_,h,_⟩;omega;simp at h)
 have HH:=hide (rhash_any (some ⟨g5,0,none⟩) 7 q5 [src / 256,src % 256,dst / 256,dst % 256,proto,id / 256,id % 256] w5 rfl (owns_has HT5.out).1 (by omega) (by intro z hz;simp at hz;omega))
 have hhb:=hsh_bd [src / 256,src % 256,dst / 256,dst % 256,proto,id / 256,id % 256]
 have HB:=hide (below_old HB5.out)
 have hzw:w.heap.size + 1≤w5.heap.size:=hz5'
 clear HT5 HB5
 generalize hE:hsh [src / 256,src % 256,dst / 256,dst % 256,proto,id / 256,id % 256]=hh
 rw [hE] at HH hhb
 have HE:=hide hE
 clear hE
 go_wp2_with fail
 refine HH.out.mono ?_
 rintro e w9 ⟨rfl,m9,rfl⟩
 have HBm:Hid (Below w.heap.size w (w5.drewN m9)):=below_drew HB.out m9
 generalize hW9:w5.drewN m9=w9
 rw [hW9] at HBm
 clear hW9 HH HB
 have c9:=(HBm.out.cell (p:=⟨yb,0,none⟩) hyb).trans HCR.out
 have hR0:(R == 0)=false:=by rw [beq_eq_false_iff_ne];omega
 go_wp2
 go_ret
 exact ⟨ret_int (by rw [HE.out]),HBm.out⟩
theorem rchosen_any (yb gs cs:Nat) (T:List Int) (src dst proto id off:Int) (more:Bool) (sport dport:Int) (ao:Option Addr) (n cap:Nat) (w:World) (hsrc:0≤src∧src≤65535) (hdst:0≤dst∧dst≤65535) (hproto:0≤proto∧proto≤255) (hid:0≤id∧id≤65535) (hsport:0≤sport∧sport≤65535) (hdport:0≤dport∧dport≤65535) (cS:w.cell? ⟨yb,4,none⟩=some (.slice (some ⟨gs,0,none⟩) 31 cs)) (hyb:yb < w.heap.size) (hT:∀ j,j < 31→w.cell? ⟨gs,j,none⟩=some (.int .u8 (T.getD j 0))) (hgs:gs < w.heap.size) :
  Calls Tryz.prog 76 #[.pointer (some ⟨yb,0,none⟩),.agg #[.int .u16 src,.int .u16 dst,.int .u8 proto,.int .u16 id,.int .u8 off,.bool more,.int .u16 sport,.int .u16 dport,.slice ao n cap]] w fun e w'=>e=.returned (.int .u8 (T.getD ((flH src dst proto sport dport).toNat % 31) 0))∧Below w.heap.size w w':=by
 have HCS:=hide cS
 have HT':=hide hT
 clear cS hT
 unfold flH
 go_enter Tryz.func76,Tryz.ntmps76
 go_wp2_with fail
 obtain ⟨i0,hi,hz0,hz1,hz2⟩:=info_parts info_u8
 generalize hWW:(w.alloc (.cells #[.int .u16 src,.int .u16 dst,.int .u8 proto,.int .u16 id,.int .u8 off,.bool more,.int .u16 sport,.int .u16 dport,.slice ao n cap] 40))=w1
 have HB1:Hid (Below (w.heap.size + 1) (w.alloc (.cells #[.int .u16 src,.int .u16 dst,.int .u8 proto,.int .u16 id,.int .u8 off,.bool more,.int .u16 sport,.int .u16 dport,.slice ao n cap] 40)) w1):=by rw [← hWW];exact Below.refl _ _
 have hz1':w.heap.size + 1≤w1.heap.size:=by rw [← hWW];simp
 clear hWW
 have cc:=box_cell HB1.out
 refine (two_any src _ (by omega) (by omega)).mono ?_
 rintro e wt ⟨rfl,rfl⟩
 go_wp2_with (at_builtin;refine wpList_append_own _ rfl (.tmp 7) (.tmp 11) 38 rfl (w.heap.size + 1) 5 i0 (.int .u8 0) 1 1 Tryz.underlying38 hi hz0 hz1 hz2 rfl (by decide) _ _ _ rfl (World.ownsRow_nil _ _ _ _) ⟨w1.heap.size,0,none⟩ 2 2 [.int .u8 (src / 256),.int .u8 (src % 256)] rfl rfl (cells_new _ _ _) (by simp [Value.oneCell']) (by unfold maxLen;omega) (by omega) (by simp;try omega) ?_)
 intro v2 w2 hown hgrow hiff
 have HT2:Hid (w2.ownsRow (w.heap.size + 1) 5 1 v2 2 ([src / 256,src % 256].map (Value.int .u8))):=by show World.ownsRow _ _ _ _ _ _ _;simpa using hown
 have HB2:Hid (Below (w.heap.size + 1) (w.alloc (.cells #[.int .u16 src,.int .u16 dst,.int .u8 proto,.int .u16 id,.int .u8 off,.bool more,.int .u16 sport,.int .u16 dport,.slice ao n cap] 40)) w2):=(HB1.out.alloc hz1' _).grown hgrow (by simp;try omega) (by simp [Value.ownBlock])
 have hz2':w.heap.size + 1≤w2.heap.size:=by have:=HB2.out.size;simpa using this
 clear hown hgrow hiff cc HB1 hz1'
 have cc:=box_cell HB2.out
 go_wp2_with fail
 refine (two_any dst _ (by omega) (by omega)).mono ?_
 rintro e wt ⟨rfl,rfl⟩
 go_wp2_with (at_builtin;refine wpList_append_own _ rfl (.tmp 13) (.tmp 17) 38 rfl (w.heap.size + 1) 5 i0 (.int .u8 0) 1 1 Tryz.underlying38 hi hz0 hz1 hz2 rfl (by decide) _ _ _ rfl (HT2.out.alloc _) ⟨w2.heap.size,0,none⟩ 2 2 [.int .u8 (dst / 256),.int .u8 (dst % 256)] rfl rfl (cells_new _ _ _) (by simp [Value.oneCell']) (by unfold maxLen;omega) (by omega) (by simp;try omega) ?_)
 intro v3 w3 hown hgrow hiff
 have HT3:Hid (w3.ownsRow (w.heap.size + 1) 5 1 v3 4 ([src / 256,src % 256,dst / 256,dst % 256].map (Value.int .u8))):=by show World.ownsRow _ _ _ _ _ _ _;simpa using hown
 have HB3:Hid (Below (w.heap.size + 1) (w.alloc (.cells #[.int .u16 src,.int .u16 dst,.int .u8 proto,.int .u16 id,.int .u8 off,.bool more,.int .u16 sport,.int .u16 dport,.slice ao n cap] 40)) w3):=(HB2.out.alloc hz2' _).grown hgrow (by simp;try omega) (fun q hq=>(HT2.out.lt q hq).1)
 have hz3':w.heap.size + 1≤w3.heap.size:=by have:=HB3.out.size;simpa using this
 clear hown hgrow hiff cc HB2 hz2' HT2
 have cc:=box_cell HB3.out
 go_wp2_with (at_builtin;refine wpList_append_own _ rfl (.tmp 19) (.tmp 22) 38 rfl (w.heap.size + 1) 5 i0 (.int .u8 0) 1 1 Tryz.underlying38 hi hz0 hz1 hz2 rfl (by decide) _ _ _ rfl (HT3.out.alloc _) ⟨w3.heap.size,0,none⟩ 1 1 [_] rfl rfl (cell_one_new _ _ _) (by simp [Value.oneCell']) (by unfold maxLen;omega) (by omega) (by simp;try omega) ?_)
 intro v4 w4 hown hgrow hiff
 have HT4:Hid (w4.ownsRow (w.heap.size + 1) 5 1 v4 5 ([src / 256,src % 256,dst / 256,dst % 256,proto].map (Value.int .u8))):=by show World.ownsRow _ _ _ _ _ _ _;simpa using hown
 have HB4:Hid (Below (w.heap.size + 1) (w.alloc (.cells #[.int .u16 src,.int .u16 dst,.int .u8 proto,.int .u16 id,.int .u8 off,.bool more,.int .u16 sport,.int .u16 dport,.slice ao n cap] 40)) w4):=(HB3.out.alloc hz3' _).grown hgrow (by simp;try omega) (fun q hq=>(HT3.out.lt q hq).1)
 have hz4':w.heap.size + 1≤w4.heap.size:=by have:=HB4.out.size;simpa using this
 clear hown hgrow hiff cc HB3 hz3' HT3
 have cc:=box_cell HB4.out
 go_wp2_with fail
 refine (two_any sport _ (by omega) (by omega)).mono ?_
 rintro e wt ⟨rfl,rfl⟩
 go_wp2_with (at_builtin;refine wpList_append_own _ rfl (.tmp 24) (.tmp 28) 38 rfl (w.heap.size + 1) 5 i0 (.int .u8 0) 1 1 Tryz.underlying38 hi hz0 hz1 hz2 rfl (by decide) _ _ _ rfl (HT4.out.alloc _) ⟨w4.heap.size,0,none⟩ 2 2 [.int .u8 (sport / 256),.int .u8 (sport % 256)] rfl rfl (cells_new _ _ _) (by simp [Value.oneCell']) (by unfold maxLen;omega) (by omega) (by simp;try omega) ?_)
 intro v5 w5 hown hgrow hiff
 have HT5:Hid (w5.ownsRow (w.heap.size + 1) 5 1 v5 7 ([src / 256,src % 256,dst / 256,dst % 256,proto,sport / 256,sport % 256].map (Value.int .u8))):=by show World.ownsRow _ _ _ _ _ _ _;simpa using hown
 have HB5:Hid (Below (w.heap.size + 1) (w.alloc (.cells #[.int .u16 src,.int .u16 dst,.int .u8 proto,.int .u16 id,.int .u8 off,.bool more,.int .u16 sport,.int .u16 dport,.slice ao n cap] 40)) w5):=(HB4.out.alloc hz4' _).grown hgrow (by simp;try omega) (fun q hq=>(HT4.out.lt q hq).1)
 have hz5':w.heap.size + 1≤w5.heap.size:=by have:=HB5.out.size;simpa using this
 clear hown hgrow hiff cc HB4 hz4' HT4
 have cc:=box_cell HB5.out
 go_wp2_with fail
 refine (two_any dport _ (by omega) (by omega)).mono ?_
 rintro e wt ⟨rfl,rfl⟩
 go_wp2_with (at_builtin;refine wpList_append_own _ rfl (.tmp 30) (.tmp 34) 38 rfl (w.heap.size + 1) 5 i0 (.int .u8 0) 1 1 Tryz.underlying38 hi hz0 hz1 hz2 rfl (by decide) _ _ _ rfl (HT5.out.alloc _) ⟨w5.heap.size,0,none⟩ 2 2 [.int .u8 (dport / 256),.int .u8 (dport % 256)] rfl rfl (cells_new _ _ _) (by simp [Value.oneCell']) (by unfold maxLen;omega) (by omega) (by simp;try omega) ?_)
 intro v6 w6 hown hgrow hiff
 have HT6:Hid (w6.ownsRow (w.heap.size + 1) 5 1 v6 9 ([src / 256,src % 256,dst / 256,dst % 256,proto,sport / 256,sport % 256,dport / 256,dport % 256].map (Value.int .u8))):=by show World.ownsRow _ _ _ _ _ _ _;simpa using hown
 have HB6:Hid (Below (w.heap.size + 1) (w.alloc (.cells #[.int .u16 src,.int .u16 dst,.int .u8 proto,.int .u16 id,.int .u8 off,.bool more,.int .u16 sport,.int .u16 dport,.slice ao n cap] 40)) w6):=(HB5.out.alloc hz5' _).grown hgrow (by simp;try omega) (fun q hq=>(HT5.out.lt q hq).1)
 have hz6':w.heap.size + 1≤w6.heap.size:=by have:=HB6.out.size;simpa using this
 clear hown hgrow hiff cc HB5 hz5' HT5
 obtain ⟨g6,q6,rfl⟩:=(own_shape HT6.out).resolve_left (by rintro rfl;rcases HT6.out.2 with ⟨_,h⟩ | ⟨_,_,_,h,_⟩;omega;simp at h)
 have HH:=hide (rhash_any (some ⟨g6,0,none⟩) 9 q6 [src / 256,src % 256,dst / 256,dst % 256,proto,sport / 256,sport % 256,dport / 256,dport % 256] w6 rfl (owns_has HT6.out).1 (by omega) (by intro z hz;simp at hz;omega))
 have hhb:=hsh_bd [src / 256,src % 256,dst / 256,dst % 256,proto,sport / 256,sport % 256,dport / 256,dport % 256]
 have HB:=hide (below_old HB6.out)
 have hzw:w.heap.size + 1≤w6.heap.size:=hz6'
 clear HT6 HB6
 generalize hE:hsh [src / 256,src % 256,dst / 256,dst % 256,proto,sport / 256,sport % 256,dport / 256,dport % 256]=hh
 rw [hE] at HH hhb
 have HE:=hide hE
 clear hE
 go_wp2_with fail
 refine HH.out.mono ?_
 rintro e w9 ⟨rfl,m9,rfl⟩
 have HBm:Hid (Below w.heap.size w (w6.drewN m9)):=below_drew HB.out m9
 generalize hW9:w6.drewN m9=w9
 rw [hW9] at HBm
 clear hW9 HH HB
 have c9:=(HBm.out.cell (p:=⟨yb,4,none⟩) hyb).trans HCS.out
 obtain ⟨r,hr,hr31,hre,hri⟩:=rem31 hh hhb.1
 have c8:=(HBm.out.cell (p:=⟨gs,r,none⟩) hgs).trans (HT'.out r hr31)
 have HRE:=hide hre
 clear hre
 go_wp2
 go_ret
 exact ⟨ret_int (by rw [HE.out,← HRE.out,List.getD_eq_getElem?_getD]),HBm.out⟩
end Go.Proofs.YtajphdppmdoalaaGreat
