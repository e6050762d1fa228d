import Derived.Test.YtajphdppmdoalaaGreatZADAtoV2
import Derived.Test.YtajphdppmdoalaaGreatZAMAtoMC
set_option maxRecDepth 100000
set_option maxHeartbeats 6400000
set_option linter.unusedVariables false
namespace Go.Proofs.YtajphdppmdoalaaGreat
open Go.RowKit
theorem qunpack_se (wb:Nat) (kind ee aa bb src dst proto id off:Int) (more:Bool) (sport dport:Int) (dso:Option Addr) (dsn dsc:Nat) (ad:Addr) (n cap:Nat) (zs:List Int) (w:World) (Q:World→Prop) (HBY0:Hid (∀ (w5:World) (v:Value) (m:Nat) (zs':List Int),Below w.heap.size w w5→w5.ownsRow 0 5 1 v m (zs'.map (Value.int .u8))→(∀ g,v.ownBlock=some g→w.heap.size≤g)→m≤1048576→Calls Tryz.prog 30 #[.pointer (some ⟨wb,1,none⟩),v] w5 fun e w'=>e=.returned (.tuple #[])∧Q w')) (hzs:zs.length=n) (hd:Has w (some ad) zs) (hzb:∀ z ∈ zs,0≤z∧z≤255) (hn:n≤140737488351232) (hcap:n≤cap) (hmax:cap≤maxLen)
  (hup:upC zs ≠ 0) :
  Calls Tryz.prog 17 #[.pointer (some ⟨wb,0,none⟩),.agg #[.int .i64 kind,.int .i64 ee,.int .i64 aa,.int .i64 bb,.int .u16 src,.int .u16 dst,.int .u8 proto,.int .u16 id,.int .u8 off,.bool more,.int .u16 sport,.int .u16 dport,.slice dso dsn dsc,.slice (some ad) n cap]] w fun e w'=>e=.returned (.bool true)∧Q w':=by
 have HD:=hide hd
 have HGV:Hid (∀ w1,Has w1 (some ad) zs→Calls Tryz.prog 26 #[.slice (some ad) n cap] w1 fun e w'=>e=.returned (.slice (some ⟨w1.heap.size,0,none⟩) (n + 8) (n + 8))∧∃ C:Array Value,w'=w1.alloc (.cells C 5)∧C.size=n + 8∧(∀ j,j < n→C[j]?=some (.int .u8 (zs.getD j 0)))∧∀ j,n≤j→j < n + 8→C[j]?=some (.int .u8 77)):=fun w1 h=>given_any (some ad) n cap zs w1 hzs h hn
 clear hd
 have heq:=fun wx=>Lib.run_eql_slice_nil (P:=Tryz.prog) wx 38 5 (some ad) n cap 0 0 Tryz.underlying38
 go_enter Tryz.func17,Tryz.ntmps17
 go_wp2_with fail
 refine (HGV.out _ (HD.out.below ((Below.refl _ _).alloc (Nat.le_refl _) _))).mono ?_
 rintro e w1 ⟨rfl,C,rfl,hCs,hCp,hCq⟩
 have HC:=hide (And.intro hCs (And.intro hCp hCq))
 clear hCs hCp hCq HGV
 go_wp2_with fail
 generalize hW2:((w.alloc (.cells #[.int .i64 kind,.int .i64 ee,.int .i64 aa,.int .i64 bb,.int .u16 src,.int .u16 dst,.int .u8 proto,.int .u16 id,.int .u8 off,.bool more,.int .u16 sport,.int .u16 dport,.slice dso dsn dsc,.slice (some ad) n cap] 42)).alloc (.cells C 5))=w2
 have HB2:Hid (Below (w.heap.size + 1) (w.alloc (.cells #[.int .i64 kind,.int .i64 ee,.int .i64 aa,.int .i64 bb,.int .u16 src,.int .u16 dst,.int .u8 proto,.int .u16 id,.int .u8 off,.bool more,.int .u16 sport,.int .u16 dport,.slice dso dsn dsc,.slice (some ad) n cap] 42)) w2):=by rw [← hW2];exact (Below.refl _ _).alloc (by simp) _
 have HG2:Hid (w2.heap[w.heap.size + 1]?=some (.cells C 5 (0,0))):=by
  rw [← hW2]
  have h:=heap_alloc_new (w.alloc (.cells #[.int .i64 kind,.int .i64 ee,.int .i64 aa,.int .i64 bb,.int .u16 src,.int .u16 dst,.int .u8 proto,.int .u16 id,.int .u8 off,.bool more,.int .u16 sport,.int .u16 dport,.slice dso dsn dsc,.slice (some ad) n cap] 42)) (.cells C 5)
  rw [World.size_alloc] at h
  exact h
 have hz2:w2.heap.size=w.heap.size + 2:=by rw [← hW2];simp
 clear hW2 heq
 have HPD:Hid (Has w2 (some ⟨w.heap.size + 1,0,none⟩) zs):=has_of_row HG2.out (fun j hj=>HC.out.2.1 j (by omega))
 refine (funpack_any (some ⟨w.heap.size + 1,0,none⟩) n (n + 8) zs w2 hzs (by omega) (by unfold maxLen;omega) HPD.out hzb).mono ?_
 intro e w3 h3
 obtain ⟨rfl,hb3⟩:=UpPost.err h3 rfl hup
 clear h3
 have HB3:=hide hb3
 have hz3:w2.heap.size≤w3.heap.size:=hb3.size
 have HBx3:Hid (Below (w.heap.size + 1) (w.alloc (.cells #[.int .i64 kind,.int .i64 ee,.int .i64 aa,.int .i64 bb,.int .u16 src,.int .u16 dst,.int .u8 proto,.int .u16 id,.int .u8 off,.bool more,.int .u16 sport,.int .u16 dport,.slice dso dsn dsc,.slice (some ad) n cap] 42)) w3):=HB2.out.trans (HB3.out.mono (by omega))
 have cc:=box_cell HBx3.out
 have hzw:w.heap.size < w3.heap.size:=by omega
 clear hb3
 go_wp2_with fail
 generalize hWa:w3.alloc (.cells #[.int .u16 0,.int .u16 0,.int .u8 0,.int .u16 0,.int .u8 0,.bool false,.int .u16 0,.int .u16 0,.slice none 0 0] 40)=w3a
 have HPb:Hid (w3a.heap[w3.heap.size]?=some (.cells #[.int .u16 0,.int .u16 0,.int .u8 0,.int .u16 0,.int .u8 0,.bool false,.int .u16 0,.int .u16 0,.slice none 0 0] 40 (0,0))):=by rw [← hWa];exact heap_alloc_new _ _
 have HB3a:Hid (Below w3.heap.size w3 w3a):=by rw [← hWa];exact (Below.refl _ _).alloc (Nat.le_refl _) _
 clear hWa cc
 have hz3a:w3.heap.size < w3a.heap.size:=lt_of_block HPb.out
 have HBx3a:Hid (Below (w.heap.size + 1) (w.alloc (.cells #[.int .i64 kind,.int .i64 ee,.int .i64 aa,.int .i64 bb,.int .u16 src,.int .u16 dst,.int .u8 proto,.int .u16 id,.int .u8 off,.bool more,.int .u16 sport,.int .u16 dport,.slice dso dsn dsc,.slice (some ad) n cap] 42)) w3a):=HBx3.out.trans (HB3a.out.mono (by omega))
 refine (runpack_any (some ad) n cap zs w3a hzs hcap hmax (HD.out.below (below_old HBx3a.out)) hzb).mono ?_
 intro e w4 h4
 obtain ⟨rfl,hb4⟩:=UpPost.err h4 rfl hup
 clear h4
 have HB4:=hide hb4
 have hz4:w3a.heap.size≤w4.heap.size:=hb4.size
 have HBx4:Hid (Below (w.heap.size + 1) (w.alloc (.cells #[.int .i64 kind,.int .i64 ee,.int .i64 aa,.int .i64 bb,.int .u16 src,.int .u16 dst,.int .u8 proto,.int .u16 id,.int .u8 off,.bool more,.int .u16 sport,.int .u16 dport,.slice dso dsn dsc,.slice (some ad) n cap] 42)) w4):=HBx3a.out.trans (HB4.out.mono (by omega))
 have cc:=box_cell HBx4.out
 have hzw4:w.heap.size < w4.heap.size:=by omega
 clear hb4
 go_wp2_with fail
 generalize hWb:w4.alloc (.cells #[.int .u16 0,.int .u16 0,.int .u8 0,.int .u16 0,.int .u8 0,.bool false,.int .u16 0,.int .u16 0,.slice none 0 0] 40)=w4a
 have HQb:Hid (w4a.heap[w4.heap.size]?=some (.cells #[.int .u16 0,.int .u16 0,.int .u8 0,.int .u16 0,.int .u8 0,.bool false,.int .u16 0,.int .u16 0,.slice none 0 0] 40 (0,0))):=by rw [← hWb];exact heap_alloc_new _ _
 have HB4a:Hid (Below w4.heap.size w4 w4a):=by rw [← hWb];exact (Below.refl _ _).alloc (Nat.le_refl _) _
 clear hWb cc
 have hz4a:w4.heap.size < w4a.heap.size:=lt_of_block HQb.out
 have HBx4a:Hid (Below (w.heap.size + 1) (w.alloc (.cells #[.int .i64 kind,.int .i64 ee,.int .i64 aa,.int .i64 bb,.int .u16 src,.int .u16 dst,.int .u8 proto,.int .u16 id,.int .u8 off,.bool more,.int .u16 sport,.int .u16 dport,.slice dso dsn dsc,.slice (some ad) n cap] 42)) w4a):=HBx4.out.trans (HB4a.out.mono (by omega))
 have HG4:Hid (w4a.heap[w.heap.size + 1]?=some (.cells C 5 (0,0))):=(HB4a.out.block _ (by omega)).trans ((HB4.out.block _ (by omega)).trans ((HB3a.out.block _ (by omega)).trans ((HB3.out.block _ (by omega)).trans HG2.out)))
 refine (clean_any (w.heap.size + 1) (some ad) n cap zs C w4a hzs (HD.out.below (below_old HBx4a.out)) hn (fun b hb hz=>by obtain ⟨b2,o2,h1,h2,_⟩:=HD.out.2 hz;rw [h1] at hb;simp only [Option.some.injEq] at hb;subst hb;show b2 < _;omega) HG4.out HC.out.1 HC.out.2.1 HC.out.2.2).mono ?_
 rintro e w5 ⟨rfl,hg5⟩
 have HG5:=hide hg5
 have hz5:w4a.heap.size≤w5.heap.size:=hg5.size
 have HBw5:Hid (Below w.heap.size w w5):=(below_old HBx4a.out).grown hg5 (by omega) (by simp)
 have HP5:Hid (w5.heap[w3.heap.size]?=some (.cells #[.int .u16 0,.int .u16 0,.int .u8 0,.int .u16 0,.int .u8 0,.bool false,.int .u16 0,.int .u16 0,.slice none 0 0] 40 (0,0))):=(hg5.block _ (by omega) (by simp;omega)).trans ((HB4a.out.block _ (by omega)).trans ((HB4.out.block _ (by omega)).trans HPb.out))
 have HQ5:Hid (w5.heap[w4.heap.size]?=some (.cells #[.int .u16 0,.int .u16 0,.int .u8 0,.int .u16 0,.int .u8 0,.bool false,.int .u16 0,.int .u16 0,.slice none 0 0] 40 (0,0))):=(hg5.block _ (by omega) (by simp;omega)).trans HQb.out
 have cp:=arr_cell HP5.out
 have cq:=arr_cell HQ5.out
 clear hg5
 go_wp2_with fail
 refine (samePacket_true 0 0 0 0 0 false 0 0 [] none none 0 0 0 w5 rfl ⟨fun _=>rfl,fun h=>absurd rfl h⟩ ⟨fun _=>rfl,fun h=>absurd rfl h⟩).mono ?_
 rintro e w6 ⟨rfl,hb6⟩
 have HBw6:Hid (Below w.heap.size w w6):=HBw5.out.trans (hb6.mono (by omega))
 have hz6:w5.heap.size≤w6.heap.size:=hb6.size
 have cp6:w6.cell? ⟨w3.heap.size,8,none⟩=some (.slice none 0 0):=(hb6.cell (p:=⟨w3.heap.size,8,none⟩) (by show w3.heap.size < _;omega)).trans (by rw [cp 8];rfl)
 have HBY:=hide (HBY0.out w6.drew (.slice none 0 0) 0 [] HBw6.out.drew (World.ownsRow_nil _ _ _ _) (by simp [Value.ownBlock]) (by decide))
 clear cp cq hb6
 go_upto_region 9 with (fail)
 go_region_with (first | (go_at_call 30;refine HBY.out.mono ?_;rintro e w7 ⟨rfl,hB7⟩;have HB7:=hide hB7;clear hB7))
 all_goals
  go_wp2
  go_ret
  exact ⟨by simp,HB7.out⟩
theorem qunpack_ne (wb:Nat) (kind ee aa bb src dst proto id off:Int) (more:Bool) (sport dport:Int) (dso:Option Addr) (dsn dsc:Nat) (w:World) (Q:World→Prop) (HBY0:Hid (∀ (w5:World) (v:Value) (m:Nat) (zs':List Int),Below w.heap.size w w5→w5.ownsRow 0 5 1 v m (zs'.map (Value.int .u8))→(∀ g,v.ownBlock=some g→w.heap.size≤g)→m≤1048576→Calls Tryz.prog 30 #[.pointer (some ⟨wb,1,none⟩),v] w5 fun e w'=>e=.returned (.tuple #[])∧Q w'))
  (hup:upC [] ≠ 0) :
  Calls Tryz.prog 17 #[.pointer (some ⟨wb,0,none⟩),.agg #[.int .i64 kind,.int .i64 ee,.int .i64 aa,.int .i64 bb,.int .u16 src,.int .u16 dst,.int .u8 proto,.int .u16 id,.int .u8 off,.bool more,.int .u16 sport,.int .u16 dport,.slice dso dsn dsc,.slice none 0 0]] w fun e w'=>e=.returned (.bool true)∧Q w':=by
 have HD:Hid (Has w none []):=⟨fun _=>rfl,fun h=>absurd rfl h⟩
 have HGV:Hid (∀ w1,Has w1 none []→Calls Tryz.prog 26 #[.slice none 0 0] w1 fun e w'=>e=.returned (.slice (some ⟨w1.heap.size,0,none⟩) (0 + 8) (0 + 8))∧∃ C:Array Value,w'=w1.alloc (.cells C 5)∧C.size=0 + 8∧(∀ j,j < 0→C[j]?=some (.int .u8 (([]:List Int).getD j 0)))∧∀ j,0≤j→j < 0 + 8→C[j]?=some (.int .u8 77)):=fun w1 h=>given_any none 0 0 [] w1 rfl h (by decide)
 have heq:=fun wx=>Lib.run_eql_slice_nil (P:=Tryz.prog) wx 38 5 none 0 0 0 0 Tryz.underlying38
 go_enter Tryz.func17,Tryz.ntmps17
 go_wp2_with fail
 refine (HGV.out _ (HD.out.below ((Below.refl _ _).alloc (Nat.le_refl _) _))).mono ?_
 rintro e w1 ⟨rfl,C,rfl,hCs,hCp,hCq⟩
 have HC:=hide (And.intro hCs (And.intro hCp hCq))
 clear hCs hCp hCq HGV
 go_wp2_with fail
 generalize hW2:((w.alloc (.cells #[.int .i64 kind,.int .i64 ee,.int .i64 aa,.int .i64 bb,.int .u16 src,.int .u16 dst,.int .u8 proto,.int .u16 id,.int .u8 off,.bool more,.int .u16 sport,.int .u16 dport,.slice dso dsn dsc,.slice none 0 0] 42)).alloc (.cells C 5))=w2
 have HB2:Hid (Below (w.heap.size + 1) (w.alloc (.cells #[.int .i64 kind,.int .i64 ee,.int .i64 aa,.int .i64 bb,.int .u16 src,.int .u16 dst,.int .u8 proto,.int .u16 id,.int .u8 off,.bool more,.int .u16 sport,.int .u16 dport,.slice dso dsn dsc,.slice none 0 0] 42)) w2):=by rw [← hW2];exact (Below.refl _ _).alloc (by simp) _
 have HG2:Hid (w2.heap[w.heap.size + 1]?=some (.cells C 5 (0,0))):=by
  rw [← hW2]
  have h:=heap_alloc_new (w.alloc (.cells #[.int .i64 kind,.int .i64 ee,.int .i64 aa,.int .i64 bb,.int .u16 src,.int .u16 dst,.int .u8 proto,.int .u16 id,.int .u8 off,.bool more,.int .u16 sport,.int .u16 dport,.slice dso dsn dsc,.slice none 0 0] 42)) (.cells C 5)
  rw [World.size_alloc] at h
  exact h
 have hz2:w2.heap.size=w.heap.size + 2:=by rw [← hW2];simp
 clear hW2 heq
 have HPD:Hid (Has w2 none []):=⟨fun _=>rfl,fun h=>absurd rfl h⟩
 refine (funpack_any none 0 0 [] w2 rfl (by omega) (by unfold maxLen;omega) HPD.out (by simp)).mono ?_
 intro e w3 h3
 obtain ⟨rfl,hb3⟩:=UpPost.err h3 rfl hup
 clear h3
 have HB3:=hide hb3
 have hz3:w2.heap.size≤w3.heap.size:=hb3.size
 have HBx3:Hid (Below (w.heap.size + 1) (w.alloc (.cells #[.int .i64 kind,.int .i64 ee,.int .i64 aa,.int .i64 bb,.int .u16 src,.int .u16 dst,.int .u8 proto,.int .u16 id,.int .u8 off,.bool more,.int .u16 sport,.int .u16 dport,.slice dso dsn dsc,.slice none 0 0] 42)) w3):=HB2.out.trans (HB3.out.mono (by omega))
 have cc:=box_cell HBx3.out
 have hzw:w.heap.size < w3.heap.size:=by omega
 clear hb3
 go_wp2_with fail
 generalize hWa:w3.alloc (.cells #[.int .u16 0,.int .u16 0,.int .u8 0,.int .u16 0,.int .u8 0,.bool false,.int .u16 0,.int .u16 0,.slice none 0 0] 40)=w3a
 have HPb:Hid (w3a.heap[w3.heap.size]?=some (.cells #[.int .u16 0,.int .u16 0,.int .u8 0,.int .u16 0,.int .u8 0,.bool false,.int .u16 0,.int .u16 0,.slice none 0 0] 40 (0,0))):=by rw [← hWa];exact heap_alloc_new _ _
 have HB3a:Hid (Below w3.heap.size w3 w3a):=by rw [← hWa];exact (Below.refl _ _).alloc (Nat.le_refl _) _
 clear hWa cc
 have hz3a:w3.heap.size < w3a.heap.size:=lt_of_block HPb.out
 have HBx3a:Hid (Below (w.heap.size + 1) (w.alloc (.cells #[.int .i64 kind,.int .i64 ee,.int .i64 aa,.int .i64 bb,.int .u16 src,.int .u16 dst,.int .u8 proto,.int .u16 id,.int .u8 off,.bool more,.int .u16 sport,.int .u16 dport,.slice dso dsn dsc,.slice none 0 0] 42)) w3a):=HBx3.out.trans (HB3a.out.mono (by omega))
 refine (runpack_any none 0 0 [] w3a rfl (Nat.le_refl _) (by decide) (HD.out.below (below_old HBx3a.out)) (by simp)).mono ?_
 intro e w4 h4
 obtain ⟨rfl,hb4⟩:=UpPost.err h4 rfl hup
 clear h4
 have HB4:=hide hb4
 have hz4:w3a.heap.size≤w4.heap.size:=hb4.size
 have HBx4:Hid (Below (w.heap.size + 1) (w.alloc (.cells #[.int .i64 kind,.int .i64 ee,.int .i64 aa,.int .i64 bb,.int .u16 src,.int .u16 dst,.int .u8 proto,.int .u16 id,.int .u8 off,.bool more,.int .u16 sport,.int .u16 dport,.slice dso dsn dsc,.slice none 0 0] 42)) w4):=HBx3a.out.trans (HB4.out.mono (by omega))
 have cc:=box_cell HBx4.out
 have hzw4:w.heap.size < w4.heap.size:=by omega
 clear hb4
 go_wp2_with fail
 generalize hWb:w4.alloc (.cells #[.int .u16 0,.int .u16 0,.int .u8 0,.int .u16 0,.int .u8 0,.bool false,.int .u16 0,.int .u16 0,.slice none 0 0] 40)=w4a
 have HQb:Hid (w4a.heap[w4.heap.size]?=some (.cells #[.int .u16 0,.int .u16 0,.int .u8 0,.int .u16 0,.int .u8 0,.bool false,.int .u16 0,.int .u16 0,.slice none 0 0] 40 (0,0))):=by rw [← hWb];exact heap_alloc_new _ _
 have HB4a:Hid (Below w4.heap.size w4 w4a):=by rw [← hWb];exact (Below.refl _ _).alloc (Nat.le_refl _) _
 clear hWb cc
 have hz4a:w4.heap.size < w4a.heap.size:=lt_of_block HQb.out
 have HBx4a:Hid (Below (w.heap.size + 1) (w.alloc (.cells #[.int .i64 kind,.int .i64 ee,.int .i64 aa,.int .i64 bb,.int .u16 src,.int .u16 dst,.int .u8 proto,.int .u16 id,.int .u8 off,.bool more,.int .u16 sport,.int .u16 dport,.slice dso dsn dsc,.slice none 0 0] 42)) w4a):=HBx4.out.trans (HB4a.out.mono (by omega))
 have HG4:Hid (w4a.heap[w.heap.size + 1]?=some (.cells C 5 (0,0))):=(HB4a.out.block _ (by omega)).trans ((HB4.out.block _ (by omega)).trans ((HB3a.out.block _ (by omega)).trans ((HB3.out.block _ (by omega)).trans HG2.out)))
 refine (clean_any (w.heap.size + 1) none 0 0 [] C w4a rfl (HD.out.below (below_old HBx4a.out)) (by decide) (by simp) HG4.out HC.out.1 HC.out.2.1 HC.out.2.2).mono ?_
 rintro e w5 ⟨rfl,hg5⟩
 have HG5:=hide hg5
 have hz5:w4a.heap.size≤w5.heap.size:=hg5.size
 have HBw5:Hid (Below w.heap.size w w5):=(below_old HBx4a.out).grown hg5 (by omega) (by simp)
 have HP5:Hid (w5.heap[w3.heap.size]?=some (.cells #[.int .u16 0,.int .u16 0,.int .u8 0,.int .u16 0,.int .u8 0,.bool false,.int .u16 0,.int .u16 0,.slice none 0 0] 40 (0,0))):=(hg5.block _ (by omega) (by simp;omega)).trans ((HB4a.out.block _ (by omega)).trans ((HB4.out.block _ (by omega)).trans HPb.out))
 have HQ5:Hid (w5.heap[w4.heap.size]?=some (.cells #[.int .u16 0,.int .u16 0,.int .u8 0,.int .u16 0,.int .u8 0,.bool false,.int .u16 0,.int .u16 0,.slice none 0 0] 40 (0,0))):=(hg5.block _ (by omega) (by simp;omega)).trans HQb.out
 have cp:=arr_cell HP5.out
 have cq:=arr_cell HQ5.out
 clear hg5
 go_wp2_with fail
 refine (samePacket_true 0 0 0 0 0 false 0 0 [] none none 0 0 0 w5 rfl ⟨fun _=>rfl,fun h=>absurd rfl h⟩ ⟨fun _=>rfl,fun h=>absurd rfl h⟩).mono ?_
 rintro e w6 ⟨rfl,hb6⟩
 have HBw6:Hid (Below w.heap.size w w6):=HBw5.out.trans (hb6.mono (by omega))
 have hz6:w5.heap.size≤w6.heap.size:=hb6.size
 have cp6:w6.cell? ⟨w3.heap.size,8,none⟩=some (.slice none 0 0):=(hb6.cell (p:=⟨w3.heap.size,8,none⟩) (by show w3.heap.size < _;omega)).trans (by rw [cp 8];rfl)
 have HBY:=hide (HBY0.out w6.drew (.slice none 0 0) 0 [] HBw6.out.drew (World.ownsRow_nil _ _ _ _) (by simp [Value.ownBlock]) (by decide))
 clear cp cq hb6
 go_upto_region 9 with (fail)
 go_region_with (first | (go_at_call 30;refine HBY.out.mono ?_;rintro e w7 ⟨rfl,hB7⟩;have HB7:=hide hB7;clear hB7))
 all_goals
  go_wp2
  go_ret
  exact ⟨by simp,HB7.out⟩
theorem qunpack_so (wb:Nat) (kind ee aa bb src dst proto id off:Int) (more:Bool) (sport dport:Int) (dso:Option Addr) (dsn dsc:Nat) (ad:Addr) (n cap:Nat) (zs:List Int) (w:World) (Q:World→Prop) (HBY0:Hid (∀ (w5:World) (v:Value) (m:Nat) (zs':List Int),Below w.heap.size w w5→w5.ownsRow 0 5 1 v m (zs'.map (Value.int .u8))→(∀ g,v.ownBlock=some g→w.heap.size≤g)→m≤1048576→Calls Tryz.prog 30 #[.pointer (some ⟨wb,1,none⟩),v] w5 fun e w'=>e=.returned (.tuple #[])∧Q w')) (hzs:zs.length=n) (hd:Has w (some ad) zs) (hzb:∀ z ∈ zs,0≤z∧z≤255) (hn:n≤140737488351232) (hcap:n≤cap) (hmax:cap≤maxLen)
  (hup:upC zs=0) (hul:(upP zs).data.length≤32) :
  Calls Tryz.prog 17 #[.pointer (some ⟨wb,0,none⟩),.agg #[.int .i64 kind,.int .i64 ee,.int .i64 aa,.int .i64 bb,.int .u16 src,.int .u16 dst,.int .u8 proto,.int .u16 id,.int .u8 off,.bool more,.int .u16 sport,.int .u16 dport,.slice dso dsn dsc,.slice (some ad) n cap]] w fun e w'=>e=.returned (.bool true)∧Q w':=by
 have HD:=hide hd
 have HGV:Hid (∀ w1,Has w1 (some ad) zs→Calls Tryz.prog 26 #[.slice (some ad) n cap] w1 fun e w'=>e=.returned (.slice (some ⟨w1.heap.size,0,none⟩) (n + 8) (n + 8))∧∃ C:Array Value,w'=w1.alloc (.cells C 5)∧C.size=n + 8∧(∀ j,j < n→C[j]?=some (.int .u8 (zs.getD j 0)))∧∀ j,n≤j→j < n + 8→C[j]?=some (.int .u8 77)):=fun w1 h=>given_any (some ad) n cap zs w1 hzs h hn
 clear hd
 have heq:=fun wx=>Lib.run_eql_slice_nil (P:=Tryz.prog) wx 38 5 (some ad) n cap 0 0 Tryz.underlying38
 go_enter Tryz.func17,Tryz.ntmps17
 go_wp2_with fail
 refine (HGV.out _ (HD.out.below ((Below.refl _ _).alloc (Nat.le_refl _) _))).mono ?_
 rintro e w1 ⟨rfl,C,rfl,hCs,hCp,hCq⟩
 have HC:=hide (And.intro hCs (And.intro hCp hCq))
 clear hCs hCp hCq HGV
 go_wp2_with fail
 generalize hW2:((w.alloc (.cells #[.int .i64 kind,.int .i64 ee,.int .i64 aa,.int .i64 bb,.int .u16 src,.int .u16 dst,.int .u8 proto,.int .u16 id,.int .u8 off,.bool more,.int .u16 sport,.int .u16 dport,.slice dso dsn dsc,.slice (some ad) n cap] 42)).alloc (.cells C 5))=w2
 have HB2:Hid (Below (w.heap.size + 1) (w.alloc (.cells #[.int .i64 kind,.int .i64 ee,.int .i64 aa,.int .i64 bb,.int .u16 src,.int .u16 dst,.int .u8 proto,.int .u16 id,.int .u8 off,.bool more,.int .u16 sport,.int .u16 dport,.slice dso dsn dsc,.slice (some ad) n cap] 42)) w2):=by rw [← hW2];exact (Below.refl _ _).alloc (by simp) _
 have HG2:Hid (w2.heap[w.heap.size + 1]?=some (.cells C 5 (0,0))):=by
  rw [← hW2]
  have h:=heap_alloc_new (w.alloc (.cells #[.int .i64 kind,.int .i64 ee,.int .i64 aa,.int .i64 bb,.int .u16 src,.int .u16 dst,.int .u8 proto,.int .u16 id,.int .u8 off,.bool more,.int .u16 sport,.int .u16 dport,.slice dso dsn dsc,.slice (some ad) n cap] 42)) (.cells C 5)
  rw [World.size_alloc] at h
  exact h
 have hz2:w2.heap.size=w.heap.size + 2:=by rw [← hW2];simp
 clear hW2 heq
 have HPD:Hid (Has w2 (some ⟨w.heap.size + 1,0,none⟩) zs):=has_of_row HG2.out (fun j hj=>HC.out.2.1 j (by omega))
 refine (funpack_any (some ⟨w.heap.size + 1,0,none⟩) n (n + 8) zs w2 hzs (by omega) (by unfold maxLen;omega) HPD.out hzb).mono ?_
 intro e w3 h3
 obtain ⟨hb3,h3⟩:=h3
 rcases h3 with ⟨_,v3,rfl,ho3⟩ | ⟨hbad,_⟩
 rotate_left
 ·exact absurd hup hbad
 rcases own_shape ho3 with rfl | ⟨g3,c3,rfl⟩
 ·have HDN:=hide (owns_nil_has ho3)
  rw [HDN.out.2] at ho3
  have HO3:=hide ho3
  clear ho3
  have HB3:=hide hb3
  have hz3:w2.heap.size≤w3.heap.size:=hb3.size
  have HBx3:Hid (Below (w.heap.size + 1) (w.alloc (.cells #[.int .i64 kind,.int .i64 ee,.int .i64 aa,.int .i64 bb,.int .u16 src,.int .u16 dst,.int .u8 proto,.int .u16 id,.int .u8 off,.bool more,.int .u16 sport,.int .u16 dport,.slice dso dsn dsc,.slice (some ad) n cap] 42)) w3):=HB2.out.trans (HB3.out.mono (by omega))
  have cc:=box_cell HBx3.out
  have hzw:w.heap.size < w3.heap.size:=by omega
  clear hb3
  go_wp2_with fail
  generalize hWa:w3.alloc (.cells #[.int .u16 (upP zs).src,.int .u16 (upP zs).dst,.int .u8 (upP zs).proto,.int .u16 (upP zs).id,.int .u8 (upP zs).off,.bool (upP zs).more,.int .u16 (upP zs).sport,.int .u16 (upP zs).dport,.slice none 0 0] 40)=w3a
  have HPb:Hid (w3a.heap[w3.heap.size]?=some (.cells #[.int .u16 (upP zs).src,.int .u16 (upP zs).dst,.int .u8 (upP zs).proto,.int .u16 (upP zs).id,.int .u8 (upP zs).off,.bool (upP zs).more,.int .u16 (upP zs).sport,.int .u16 (upP zs).dport,.slice none 0 0] 40 (0,0))):=by rw [← hWa];exact heap_alloc_new _ _
  have HB3a:Hid (Below w3.heap.size w3 w3a):=by rw [← hWa];exact (Below.refl _ _).alloc (Nat.le_refl _) _
  clear hWa cc
  have hz3a:w3.heap.size < w3a.heap.size:=lt_of_block HPb.out
  have HBx3a:Hid (Below (w.heap.size + 1) (w.alloc (.cells #[.int .i64 kind,.int .i64 ee,.int .i64 aa,.int .i64 bb,.int .u16 src,.int .u16 dst,.int .u8 proto,.int .u16 id,.int .u8 off,.bool more,.int .u16 sport,.int .u16 dport,.slice dso dsn dsc,.slice (some ad) n cap] 42)) w3a):=HBx3.out.trans (HB3a.out.mono (by omega))
  refine (runpack_any (some ad) n cap zs w3a hzs hcap hmax (HD.out.below (below_old HBx3a.out)) hzb).mono ?_
  intro e w4 h4
  obtain ⟨hb4,h4⟩:=h4
  rcases h4 with ⟨_,v4,rfl,ho4⟩ | ⟨hbad,_⟩
  rotate_left
  ·exact absurd hup hbad
  obtain ⟨ao4,c4,rfl,hh4,_,_,_,_⟩:=owns_any ho4
  rw [HDN.out.2] at ho4 ⊢
  have HO4:=hide ho4
  clear ho4 hh4
  have HB4:=hide hb4
  have hz4:w3a.heap.size≤w4.heap.size:=hb4.size
  have HBx4:Hid (Below (w.heap.size + 1) (w.alloc (.cells #[.int .i64 kind,.int .i64 ee,.int .i64 aa,.int .i64 bb,.int .u16 src,.int .u16 dst,.int .u8 proto,.int .u16 id,.int .u8 off,.bool more,.int .u16 sport,.int .u16 dport,.slice dso dsn dsc,.slice (some ad) n cap] 42)) w4):=HBx3a.out.trans (HB4.out.mono (by omega))
  have cc:=box_cell HBx4.out
  have hzw4:w.heap.size < w4.heap.size:=by omega
  clear hb4
  go_wp2_with fail
  generalize hWb:w4.alloc (.cells #[.int .u16 (upP zs).src,.int .u16 (upP zs).dst,.int .u8 (upP zs).proto,.int .u16 (upP zs).id,.int .u8 (upP zs).off,.bool (upP zs).more,.int .u16 (upP zs).sport,.int .u16 (upP zs).dport,.slice ao4 0 c4] 40)=w4a
  have HQb:Hid (w4a.heap[w4.heap.size]?=some (.cells #[.int .u16 (upP zs).src,.int .u16 (upP zs).dst,.int .u8 (upP zs).proto,.int .u16 (upP zs).id,.int .u8 (upP zs).off,.bool (upP zs).more,.int .u16 (upP zs).sport,.int .u16 (upP zs).dport,.slice ao4 0 c4] 40 (0,0))):=by rw [← hWb];exact heap_alloc_new _ _
  have HB4a:Hid (Below w4.heap.size w4 w4a):=by rw [← hWb];exact (Below.refl _ _).alloc (Nat.le_refl _) _
  clear hWb cc
  have hz4a:w4.heap.size < w4a.heap.size:=lt_of_block HQb.out
  have HBx4a:Hid (Below (w.heap.size + 1) (w.alloc (.cells #[.int .i64 kind,.int .i64 ee,.int .i64 aa,.int .i64 bb,.int .u16 src,.int .u16 dst,.int .u8 proto,.int .u16 id,.int .u8 off,.bool more,.int .u16 sport,.int .u16 dport,.slice dso dsn dsc,.slice (some ad) n cap] 42)) w4a):=HBx4.out.trans (HB4a.out.mono (by omega))
  have HG4:Hid (w4a.heap[w.heap.size + 1]?=some (.cells C 5 (0,0))):=(HB4a.out.block _ (by omega)).trans ((HB4.out.block _ (by omega)).trans ((HB3a.out.block _ (by omega)).trans ((HB3.out.block _ (by omega)).trans HG2.out)))
  refine (clean_any (w.heap.size + 1) (some ad) n cap zs C w4a hzs (HD.out.below (below_old HBx4a.out)) hn (fun b hb hz=>by obtain ⟨b2,o2,h1,h2,_⟩:=HD.out.2 hz;rw [h1] at hb;simp only [Option.some.injEq] at hb;subst hb;show b2 < _;omega) HG4.out HC.out.1 HC.out.2.1 HC.out.2.2).mono ?_
  rintro e w5 ⟨rfl,hg5⟩
  have HG5:=hide hg5
  have hz5:w4a.heap.size≤w5.heap.size:=hg5.size
  have HBw5:Hid (Below w.heap.size w w5):=(below_old HBx4a.out).grown hg5 (by omega) (by simp)
  have HP5:Hid (w5.heap[w3.heap.size]?=some (.cells #[.int .u16 (upP zs).src,.int .u16 (upP zs).dst,.int .u8 (upP zs).proto,.int .u16 (upP zs).id,.int .u8 (upP zs).off,.bool (upP zs).more,.int .u16 (upP zs).sport,.int .u16 (upP zs).dport,.slice none 0 0] 40 (0,0))):=(hg5.block _ (by omega) (by simp;omega)).trans ((HB4a.out.block _ (by omega)).trans ((HB4.out.block _ (by omega)).trans HPb.out))
  have HQ5:Hid (w5.heap[w4.heap.size]?=some (.cells #[.int .u16 (upP zs).src,.int .u16 (upP zs).dst,.int .u8 (upP zs).proto,.int .u16 (upP zs).id,.int .u8 (upP zs).off,.bool (upP zs).more,.int .u16 (upP zs).sport,.int .u16 (upP zs).dport,.slice ao4 0 c4] 40 (0,0))):=(hg5.block _ (by omega) (by simp;omega)).trans HQb.out
  have cp:=arr_cell HP5.out
  have cq:=arr_cell HQ5.out
  clear hg5
  have HV3:Hid (w5.ownsRow w2.heap.size 5 1 (.slice none 0 0) 0 ((upP zs).data.map (Value.int .u8))):=World.ownsRow.kept (own_below (own_below (own_below HO3.out (own_lt HO3.out) HB3a.out) (fun g hg=>by have:=own_lt HO3.out g hg;omega) HB4.out) (fun g hg=>by have:=own_lt HO3.out g hg;omega) HB4a.out) HG5.out (.inr (by intro h;have:=(HO3.out.lt _ h).1;omega))
  have HV4:Hid (w5.ownsRow w3a.heap.size 5 1 (.slice ao4 0 c4) 0 ((upP zs).data.map (Value.int .u8))):=World.ownsRow.kept (own_below HO4.out (own_lt HO4.out) HB4a.out) HG5.out (by cases hv:Value.ownBlock (.slice ao4 0 c4) with | none=>exact .inl rfl | some q=>exact .inr (by have:=(HO4.out.lt q hv).1;simp;omega))
  have HHb:Hid (Has w5 ao4 (upP zs).data):=(owns_has2 HV4.out).1
  go_wp2_with fail
  refine (samePacket_true (upP zs).src (upP zs).dst (upP zs).proto (upP zs).id (upP zs).off (upP zs).more (upP zs).sport (upP zs).dport (upP zs).data none ao4 0 0 c4 w5 HDN.out.2 (owns_has2 HV3.out).1 HHb.out).mono ?_
  rintro e w6 ⟨rfl,hb6⟩
  have HBw6:Hid (Below w.heap.size w w6):=HBw5.out.trans (hb6.mono (by omega))
  have hz6:w5.heap.size≤w6.heap.size:=hb6.size
  have cp6:w6.cell? ⟨w3.heap.size,8,none⟩=some (.slice none 0 0):=(hb6.cell (p:=⟨w3.heap.size,8,none⟩) (by show w3.heap.size < _;omega)).trans (by rw [cp 8];rfl)
  have HBY:=hide (HBY0.out w6.drew (.slice none 0 0) 0 [] HBw6.out.drew (World.ownsRow_nil _ _ _ _) (by simp [Value.ownBlock]) (by decide))
  clear cp cq hb6
  go_upto_region 9 with (fail)
  go_region_with (first | (go_at_call 30;refine HBY.out.mono ?_;rintro e w7 ⟨rfl,hB7⟩;have HB7:=hide hB7;clear hB7))
  all_goals
   go_wp2
   go_ret
   exact ⟨by simp,HB7.out⟩
 ·have HO3:=hide ho3
  clear ho3
  have HB3:=hide hb3
  have hz3:w2.heap.size≤w3.heap.size:=hb3.size
  have HBx3:Hid (Below (w.heap.size + 1) (w.alloc (.cells #[.int .i64 kind,.int .i64 ee,.int .i64 aa,.int .i64 bb,.int .u16 src,.int .u16 dst,.int .u8 proto,.int .u16 id,.int .u8 off,.bool more,.int .u16 sport,.int .u16 dport,.slice dso dsn dsc,.slice (some ad) n cap] 42)) w3):=HB2.out.trans (HB3.out.mono (by omega))
  have cc:=box_cell HBx3.out
  have hzw:w.heap.size < w3.heap.size:=by omega
  clear hb3
  go_wp2_with fail
  generalize hWa:w3.alloc (.cells #[.int .u16 (upP zs).src,.int .u16 (upP zs).dst,.int .u8 (upP zs).proto,.int .u16 (upP zs).id,.int .u8 (upP zs).off,.bool (upP zs).more,.int .u16 (upP zs).sport,.int .u16 (upP zs).dport,.slice (some ⟨g3,0,none⟩) (upP zs).data.length c3] 40)=w3a
  have HPb:Hid (w3a.heap[w3.heap.size]?=some (.cells #[.int .u16 (upP zs).src,.int .u16 (upP zs).dst,.int .u8 (upP zs).proto,.int .u16 (upP zs).id,.int .u8 (upP zs).off,.bool (upP zs).more,.int .u16 (upP zs).sport,.int .u16 (upP zs).dport,.slice (some ⟨g3,0,none⟩) (upP zs).data.length c3] 40 (0,0))):=by rw [← hWa];exact heap_alloc_new _ _
  have HB3a:Hid (Below w3.heap.size w3 w3a):=by rw [← hWa];exact (Below.refl _ _).alloc (Nat.le_refl _) _
  clear hWa cc
  have hz3a:w3.heap.size < w3a.heap.size:=lt_of_block HPb.out
  have HBx3a:Hid (Below (w.heap.size + 1) (w.alloc (.cells #[.int .i64 kind,.int .i64 ee,.int .i64 aa,.int .i64 bb,.int .u16 src,.int .u16 dst,.int .u8 proto,.int .u16 id,.int .u8 off,.bool more,.int .u16 sport,.int .u16 dport,.slice dso dsn dsc,.slice (some ad) n cap] 42)) w3a):=HBx3.out.trans (HB3a.out.mono (by omega))
  refine (runpack_any (some ad) n cap zs w3a hzs hcap hmax (HD.out.below (below_old HBx3a.out)) hzb).mono ?_
  intro e w4 h4
  obtain ⟨hb4,h4⟩:=h4
  rcases h4 with ⟨_,v4,rfl,ho4⟩ | ⟨hbad,_⟩
  rotate_left
  ·exact absurd hup hbad
  obtain ⟨ao4,c4,rfl,hh4,_,_,_,_⟩:=owns_any ho4
  have HO4:=hide ho4
  clear ho4 hh4
  have HB4:=hide hb4
  have hz4:w3a.heap.size≤w4.heap.size:=hb4.size
  have HBx4:Hid (Below (w.heap.size + 1) (w.alloc (.cells #[.int .i64 kind,.int .i64 ee,.int .i64 aa,.int .i64 bb,.int .u16 src,.int .u16 dst,.int .u8 proto,.int .u16 id,.int .u8 off,.bool more,.int .u16 sport,.int .u16 dport,.slice dso dsn dsc,.slice (some ad) n cap] 42)) w4):=HBx3a.out.trans (HB4.out.mono (by omega))
  have cc:=box_cell HBx4.out
  have hzw4:w.heap.size < w4.heap.size:=by omega
  clear hb4
  go_wp2_with fail
  generalize hWb:w4.alloc (.cells #[.int .u16 (upP zs).src,.int .u16 (upP zs).dst,.int .u8 (upP zs).proto,.int .u16 (upP zs).id,.int .u8 (upP zs).off,.bool (upP zs).more,.int .u16 (upP zs).sport,.int .u16 (upP zs).dport,.slice ao4 (upP zs).data.length c4] 40)=w4a
  have HQb:Hid (w4a.heap[w4.heap.size]?=some (.cells #[.int .u16 (upP zs).src,.int .u16 (upP zs).dst,.int .u8 (upP zs).proto,.int .u16 (upP zs).id,.int .u8 (upP zs).off,.bool (upP zs).more,.int .u16 (upP zs).sport,.int .u16 (upP zs).dport,.slice ao4 (upP zs).data.length c4] 40 (0,0))):=by rw [← hWb];exact heap_alloc_new _ _
  have HB4a:Hid (Below w4.heap.size w4 w4a):=by rw [← hWb];exact (Below.refl _ _).alloc (Nat.le_refl _) _
  clear hWb cc
  have hz4a:w4.heap.size < w4a.heap.size:=lt_of_block HQb.out
  have HBx4a:Hid (Below (w.heap.size + 1) (w.alloc (.cells #[.int .i64 kind,.int .i64 ee,.int .i64 aa,.int .i64 bb,.int .u16 src,.int .u16 dst,.int .u8 proto,.int .u16 id,.int .u8 off,.bool more,.int .u16 sport,.int .u16 dport,.slice dso dsn dsc,.slice (some ad) n cap] 42)) w4a):=HBx4.out.trans (HB4a.out.mono (by omega))
  have HG4:Hid (w4a.heap[w.heap.size + 1]?=some (.cells C 5 (0,0))):=(HB4a.out.block _ (by omega)).trans ((HB4.out.block _ (by omega)).trans ((HB3a.out.block _ (by omega)).trans ((HB3.out.block _ (by omega)).trans HG2.out)))
  refine (clean_any (w.heap.size + 1) (some ad) n cap zs C w4a hzs (HD.out.below (below_old HBx4a.out)) hn (fun b hb hz=>by obtain ⟨b2,o2,h1,h2,_⟩:=HD.out.2 hz;rw [h1] at hb;simp only [Option.some.injEq] at hb;subst hb;show b2 < _;omega) HG4.out HC.out.1 HC.out.2.1 HC.out.2.2).mono ?_
  rintro e w5 ⟨rfl,hg5⟩
  have HG5:=hide hg5
  have hz5:w4a.heap.size≤w5.heap.size:=hg5.size
  have HBw5:Hid (Below w.heap.size w w5):=(below_old HBx4a.out).grown hg5 (by omega) (by simp)
  have HP5:Hid (w5.heap[w3.heap.size]?=some (.cells #[.int .u16 (upP zs).src,.int .u16 (upP zs).dst,.int .u8 (upP zs).proto,.int .u16 (upP zs).id,.int .u8 (upP zs).off,.bool (upP zs).more,.int .u16 (upP zs).sport,.int .u16 (upP zs).dport,.slice (some ⟨g3,0,none⟩) (upP zs).data.length c3] 40 (0,0))):=(hg5.block _ (by omega) (by simp;omega)).trans ((HB4a.out.block _ (by omega)).trans ((HB4.out.block _ (by omega)).trans HPb.out))
  have HQ5:Hid (w5.heap[w4.heap.size]?=some (.cells #[.int .u16 (upP zs).src,.int .u16 (upP zs).dst,.int .u8 (upP zs).proto,.int .u16 (upP zs).id,.int .u8 (upP zs).off,.bool (upP zs).more,.int .u16 (upP zs).sport,.int .u16 (upP zs).dport,.slice ao4 (upP zs).data.length c4] 40 (0,0))):=(hg5.block _ (by omega) (by simp;omega)).trans HQb.out
  have cp:=arr_cell HP5.out
  have cq:=arr_cell HQ5.out
  clear hg5
  have HV3:Hid (w5.ownsRow w2.heap.size 5 1 (.slice (some ⟨g3,0,none⟩) (upP zs).data.length c3) (upP zs).data.length ((upP zs).data.map (Value.int .u8))):=World.ownsRow.kept (own_below (own_below (own_below HO3.out (own_lt HO3.out) HB3a.out) (fun g hg=>by have:=own_lt HO3.out g hg;omega) HB4.out) (fun g hg=>by have:=own_lt HO3.out g hg;omega) HB4a.out) HG5.out (.inr (by intro h;have:=(HO3.out.lt _ h).1;omega))
  have HV4:Hid (w5.ownsRow w3a.heap.size 5 1 (.slice ao4 (upP zs).data.length c4) (upP zs).data.length ((upP zs).data.map (Value.int .u8))):=World.ownsRow.kept (own_below HO4.out (own_lt HO4.out) HB4a.out) HG5.out (by cases hv:Value.ownBlock (.slice ao4 (upP zs).data.length c4) with | none=>exact .inl rfl | some q=>exact .inr (by have:=(HO4.out.lt q hv).1;simp;omega))
  have HHb:Hid (Has w5 ao4 (upP zs).data):=(owns_has2 HV4.out).1
  go_wp2_with fail
  refine (samePacket_true (upP zs).src (upP zs).dst (upP zs).proto (upP zs).id (upP zs).off (upP zs).more (upP zs).sport (upP zs).dport (upP zs).data (some ⟨g3,0,none⟩) ao4 (upP zs).data.length c3 c4 w5 rfl (owns_has2 HV3.out).1 HHb.out).mono ?_
  rintro e w6 ⟨rfl,hb6⟩
  have HBw6:Hid (Below w.heap.size w w6):=HBw5.out.trans (hb6.mono (by omega))
  have hz6:w5.heap.size≤w6.heap.size:=hb6.size
  have cp6:w6.cell? ⟨w3.heap.size,8,none⟩=some (.slice (some ⟨g3,0,none⟩) (upP zs).data.length c3):=(hb6.cell (p:=⟨w3.heap.size,8,none⟩) (by show w3.heap.size < _;omega)).trans (by rw [cp 8];rfl)
  have HV36:=hide (own_below HV3.out (fun g hg=>by have:=own_lt HV3.out g hg;exact this) hb6)
  have HBY:=hide (HBY0.out w6.drew _ (upP zs).data.length (upP zs).data HBw6.out.drew (own_zero HV36.out.drew) (fun g hg=>by have:=(HV36.out.lt g hg).1;omega) (by omega))
  clear cp cq hb6
  go_upto_region 9 with (fail)
  go_region_with (first | (go_at_call 30;refine HBY.out.mono ?_;rintro e w7 ⟨rfl,hB7⟩;have HB7:=hide hB7;clear hB7))
  all_goals
   go_wp2
   go_ret
   exact ⟨by simp,HB7.out⟩
end Go.Proofs.YtajphdppmdoalaaGreat
