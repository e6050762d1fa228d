import Derived.Test.YtajphdppmdoalaaGreatZAZ4toCA
import Derived.Test.YtajphdppmdoalaaGreatZAMAtoMC
set_option maxRecDepth 100000
set_option maxHeartbeats 6400000
set_option linter.unusedVariables false
namespace Go.Proofs.YtajphdppmdoalaaGreat
open Go.RowKit
theorem qpack_sy (wb:Nat) (sv:Value) (kind ee aa bb src dst proto id off:Int) (more:Bool) (sport dport:Int) (ad:Addr) (n cap:Nat) (zs:List Int) (so:Option Addr) (sn sc:Nat) (hsv:sv=.slice so sn sc) (w:World) (Q:World→Prop) (HBY0:Hid (∀ (w5:World) (v:Value) (m:Nat) (zs':List Int),Below w.heap.size w w5→w5.ownsRow 0 5 1 v m (zs'.map (Value.int .u8))→(∀ g,v.ownBlock=some g→w.heap.size≤g)→m≤1048576→Calls Tryz.prog 30 #[.pointer (some ⟨wb,1,none⟩),v] w5 fun e w'=>e=.returned (.tuple #[])∧Q w')) (hsrc0:0≤src) (hsrc:src≤65535) (hdst0:0≤dst) (hdst:dst≤65535) (hproto0:0≤proto) (hproto:proto≤255) (hid0:0≤id) (hid:id≤65535) (hoff0:0≤off) (hoff:off≤255) (hsport0:0≤sport) (hsport:sport≤65535) (hdport0:0≤dport) (hdport:dport≤65535) (hzs:zs.length=n) (hd:Has w (some ad) zs) (hzb:∀ z ∈ zs,0≤z∧z≤255) (hn:n≤140737488351232)
  (hwf:wfB off more sport dport n=true) :
  Calls Tryz.prog 16 #[.pointer (some ⟨wb,0,none⟩),.agg #[.int .i64 kind,.int .i64 ee,.int .i64 aa,.int .i64 bb,.int .u16 src,.int .u16 dst,.int .u8 proto,.int .u16 id,.int .u8 off,.bool more,.int .u16 sport,.int .u16 dport,.slice (some ad) n cap,sv]] w fun e w'=>e=.returned (.bool true)∧Q w':=by
 subst hsv
 have HD:=hide hd
 have HGV:Hid (∀ w1,Has w1 (some ad) zs→Calls Tryz.prog 26 #[.slice (some ad) n cap] w1 fun e w'=>e=.returned (.slice (some ⟨w1.heap.size,0,none⟩) (n + 8) (n + 8))∧∃ C:Array Value,w'=w1.alloc (.cells C 5)∧C.size=n + 8∧(∀ j,j < n→C[j]?=some (.int .u8 (zs.getD j 0)))∧∀ j,n≤j→j < n + 8→C[j]?=some (.int .u8 77)):=fun w1 h=>given_any (some ad) n cap zs w1 hzs h hn
 clear hd
 have heq:=fun wx=>Lib.run_eql_slice_nil (P:=Tryz.prog) wx 38 5 (some ad) n cap 0 0 Tryz.underlying38
 go_enter Tryz.func16,Tryz.ntmps16
 go_wp2_with fail
 refine (HGV.out _ (HD.out.below ((Below.refl _ _).alloc (Nat.le_refl _) _))).mono ?_
 rintro e w1 ⟨rfl,C,rfl,hCs,hCp,hCq⟩
 have HC:=hide (And.intro hCs (And.intro hCp hCq))
 clear hCs hCp hCq HGV
 go_wp2_with fail
 generalize hW2:((((w.alloc (.cells #[.int .i64 kind,.int .i64 ee,.int .i64 aa,.int .i64 bb,.int .u16 src,.int .u16 dst,.int .u8 proto,.int .u16 id,.int .u8 off,.bool more,.int .u16 sport,.int .u16 dport,.slice (some ad) n cap,.slice so sn sc] 42)).alloc (.cells C 5)).alloc (.cells #[.int .u16 src,.int .u16 dst,.int .u8 proto,.int .u16 id,.int .u8 off,.bool more,.int .u16 sport,.int .u16 dport,(.slice (some ⟨w.heap.size + 1,0,none⟩) n (n + 8))] 40)))=w2
 have HB2:Hid (Below (w.heap.size + 1) (w.alloc (.cells #[.int .i64 kind,.int .i64 ee,.int .i64 aa,.int .i64 bb,.int .u16 src,.int .u16 dst,.int .u8 proto,.int .u16 id,.int .u8 off,.bool more,.int .u16 sport,.int .u16 dport,.slice (some ad) n cap,.slice so sn sc] 42)) w2):=by rw [← hW2];exact ((Below.refl _ _).alloc (by simp) _).alloc (by simp) _
 have HG2:Hid (w2.heap[w.heap.size + 1]?=some (.cells C 5 (0,0))):=by
  rw [← hW2]
  refine (Below.heap_alloc _ _ _ (by simp)).trans ?_
  have h:=heap_alloc_new (w.alloc (.cells #[.int .i64 kind,.int .i64 ee,.int .i64 aa,.int .i64 bb,.int .u16 src,.int .u16 dst,.int .u8 proto,.int .u16 id,.int .u8 off,.bool more,.int .u16 sport,.int .u16 dport,.slice (some ad) n cap,.slice so sn sc] 42)) (.cells C 5)
  rw [World.size_alloc] at h
  exact h
 have hz2:w2.heap.size=w.heap.size + 3:=by rw [← hW2];simp
 clear hW2 heq
 have HPD:Hid (Has w2 (some ⟨w.heap.size + 1,0,none⟩) zs):=has_of_row HG2.out (fun j hj=>HC.out.2.1 j (by omega))
 refine (fpack_yes src dst proto id off more sport dport (some ⟨w.heap.size + 1,0,none⟩) n (n + 8) zs w2 hsrc0 hsrc hdst0 hdst hproto0 hproto hid0 hid hoff0 hoff hsport0 hsport hdport0 hdport hzs (by simp) HPD.out hwf).mono ?_
 rintro e w3 ⟨v3,rfl,ho3,hnn3,hb3⟩
 obtain ⟨g3,c3,rfl⟩:=(own_shape ho3).resolve_left hnn3
 have HO3:=hide ho3
 clear ho3 hnn3
 have HB3:=hide hb3
 have hz3:w2.heap.size≤w3.heap.size:=hb3.size
 have HBx3:Hid (Below (w.heap.size + 1) (w.alloc (.cells #[.int .i64 kind,.int .i64 ee,.int .i64 aa,.int .i64 bb,.int .u16 src,.int .u16 dst,.int .u8 proto,.int .u16 id,.int .u8 off,.bool more,.int .u16 sport,.int .u16 dport,.slice (some ad) n cap,.slice so sn sc] 42)) w3):=HB2.out.trans (HB3.out.mono (by omega))
 have cc:=box_cell HBx3.out
 have hzw:w.heap.size < w3.heap.size:=by omega
 clear hb3
 go_wp2_with fail
 refine (rpack_yes src dst proto id off more sport dport (some ad) n cap zs w3 hsrc0 hsrc hdst0 hdst hproto0 hproto hid0 hid hoff0 hoff hsport0 hsport hdport0 hdport hzs (by simp) (HD.out.below (below_old HBx3.out)) hwf).mono ?_
 rintro e w4 ⟨v4,rfl,ho4,hb4⟩
 obtain ⟨ao4,c4,rfl,hh4,hl4,_,_,_⟩:=owns_any ho4
 have HH4:=hide hh4
 have HO4:=hide ho4
 clear ho4 hh4
 have HB4:=hide hb4
 have hz4:w3.heap.size≤w4.heap.size:=hb4.size
 have HBx4:Hid (Below (w.heap.size + 1) (w.alloc (.cells #[.int .i64 kind,.int .i64 ee,.int .i64 aa,.int .i64 bb,.int .u16 src,.int .u16 dst,.int .u8 proto,.int .u16 id,.int .u8 off,.bool more,.int .u16 sport,.int .u16 dport,.slice (some ad) n cap,.slice so sn sc] 42)) w4):=HBx3.out.trans (HB4.out.mono (by omega))
 have HG4:Hid (w4.heap[w.heap.size + 1]?=some (.cells C 5 (0,0))):=(HB4.out.block _ (by omega)).trans ((HB3.out.block _ (by omega)).trans HG2.out)
 clear cc hb4 hzw
 have cc:=box_cell HBx4.out
 have hzw:w.heap.size < w4.heap.size:=by omega
 go_wp2_with fail
 refine (clean_any (w.heap.size + 1) (some ad) n cap zs C w4 hzs (HD.out.below (below_old HBx4.out)) hn (fun b hb hz=>by obtain ⟨b2,o2,h1,h2,_⟩:=HD.out.2 hz;rw [h1] at hb;simp only [Option.some.injEq] at hb;subst hb;show b2 < _;omega) HG4.out HC.out.1 HC.out.2.1 HC.out.2.2).mono ?_
 rintro e w5 ⟨rfl,hg5⟩
 have HG5:=hide hg5
 have hz5:w4.heap.size≤w5.heap.size:=hg5.size
 have HBw5:Hid (Below w.heap.size w w5):=(below_old HBx4.out).grown hg5 (by omega) (by simp)
 clear cc hzw hg5
 have HO3':Hid (w5.ownsRow w2.heap.size 5 1 (.slice (some ⟨g3,0,none⟩) (pkL src dst proto id off more sport dport zs).length c3) (pkL src dst proto id off more sport dport zs).length ((pkL src dst proto id off more sport dport zs).map (Value.int .u8))):=World.ownsRow.kept (own_below HO3.out (own_lt HO3.out) HB4.out) HG5.out (.inr (by intro h;have:=(HO3.out.lt _ h).1;omega))
 have HO4':Hid (w5.ownsRow w3.heap.size 5 1 (.slice ao4 (pkL src dst proto id off more sport dport zs).length c4) (pkL src dst proto id off more sport dport zs).length ((pkL src dst proto id off more sport dport zs).map (Value.int .u8))):=World.ownsRow.kept HO4.out HG5.out (by cases hv:Value.ownBlock (.slice ao4 (pkL src dst proto id off more sport dport zs).length c4) with | none=>exact .inl rfl | some q=>exact .inr (by have:=(HO4.out.lt q hv).1;simp;omega))
 have hcA:=fun (m:Nat)=>conv_has (w:=w5) (owns_has HO3'.out).1 c3
 have hcB:(convert 38 9 (.slice ao4 (pkL src dst proto id off more sport dport zs).length c4)).run Tryz.prog w5=.ok (.string (strOfNums (pkL src dst proto id off more sport dport zs))) w5:=by
  obtain ⟨ao',cv',he,h1,h2,_⟩:=owns_any HO4'.out
  simp only [Value.slice.injEq] at he
  obtain ⟨rfl,_,rfl⟩:=he
  exact conv_has h1 c4
 have hcA:=conv_has (w:=w5) (owns_has HO3'.out).1 c3
 have hlen:(pkL src dst proto id off more sport dport zs).length≤1048576:=by
  have h1:n≤32:=by simp [wfB] at hwf;omega
  simp only [pkL,hdL,ptL]
  split <;> simp <;> omega
 have HLEN:=hide hlen
 generalize (pkL src dst proto id off more sport dport zs)=LL at *
 go_wp2_with fail
 refine (HBY0.out w5 _ LL.length LL HBw5.out (own_zero HO3'.out) (fun g hg=>by have:=(HO3'.out.lt g hg).1;omega) HLEN.out).mono ?_
 rintro e w6 ⟨rfl,hB6⟩
 have HB6:=hide hB6
 clear hB6 hcA hcB
 go_wp2
 go_ret
 exact ⟨by simp,HB6.out⟩
theorem qpack_sn (wb:Nat) (sv:Value) (kind ee aa bb src dst proto id off:Int) (more:Bool) (sport dport:Int) (ad:Addr) (n cap:Nat) (zs:List Int) (so:Option Addr) (sn sc:Nat) (hsv:sv=.slice so sn sc) (w:World) (Q:World→Prop) (HBY0:Hid (∀ (w5:World) (v:Value) (m:Nat) (zs':List Int),Below w.heap.size w w5→w5.ownsRow 0 5 1 v m (zs'.map (Value.int .u8))→(∀ g,v.ownBlock=some g→w.heap.size≤g)→m≤1048576→Calls Tryz.prog 30 #[.pointer (some ⟨wb,1,none⟩),v] w5 fun e w'=>e=.returned (.tuple #[])∧Q w')) (hsrc0:0≤src) (hsrc:src≤65535) (hdst0:0≤dst) (hdst:dst≤65535) (hproto0:0≤proto) (hproto:proto≤255) (hid0:0≤id) (hid:id≤65535) (hoff0:0≤off) (hoff:off≤255) (hsport0:0≤sport) (hsport:sport≤65535) (hdport0:0≤dport) (hdport:dport≤65535) (hzs:zs.length=n) (hd:Has w (some ad) zs) (hzb:∀ z ∈ zs,0≤z∧z≤255) (hn:n≤140737488351232)
  (hwf:wfB off more sport dport n=false) :
  Calls Tryz.prog 16 #[.pointer (some ⟨wb,0,none⟩),.agg #[.int .i64 kind,.int .i64 ee,.int .i64 aa,.int .i64 bb,.int .u16 src,.int .u16 dst,.int .u8 proto,.int .u16 id,.int .u8 off,.bool more,.int .u16 sport,.int .u16 dport,.slice (some ad) n cap,sv]] w fun e w'=>e=.returned (.bool true)∧Q w':=by
 subst hsv
 have HD:=hide hd
 have HGV:Hid (∀ w1,Has w1 (some ad) zs→Calls Tryz.prog 26 #[.slice (some ad) n cap] w1 fun e w'=>e=.returned (.slice (some ⟨w1.heap.size,0,none⟩) (n + 8) (n + 8))∧∃ C:Array Value,w'=w1.alloc (.cells C 5)∧C.size=n + 8∧(∀ j,j < n→C[j]?=some (.int .u8 (zs.getD j 0)))∧∀ j,n≤j→j < n + 8→C[j]?=some (.int .u8 77)):=fun w1 h=>given_any (some ad) n cap zs w1 hzs h hn
 clear hd
 have heq:=fun wx=>Lib.run_eql_slice_nil (P:=Tryz.prog) wx 38 5 (some ad) n cap 0 0 Tryz.underlying38
 go_enter Tryz.func16,Tryz.ntmps16
 go_wp2_with fail
 refine (HGV.out _ (HD.out.below ((Below.refl _ _).alloc (Nat.le_refl _) _))).mono ?_
 rintro e w1 ⟨rfl,C,rfl,hCs,hCp,hCq⟩
 have HC:=hide (And.intro hCs (And.intro hCp hCq))
 clear hCs hCp hCq HGV
 go_wp2_with fail
 generalize hW2:((((w.alloc (.cells #[.int .i64 kind,.int .i64 ee,.int .i64 aa,.int .i64 bb,.int .u16 src,.int .u16 dst,.int .u8 proto,.int .u16 id,.int .u8 off,.bool more,.int .u16 sport,.int .u16 dport,.slice (some ad) n cap,.slice so sn sc] 42)).alloc (.cells C 5)).alloc (.cells #[.int .u16 src,.int .u16 dst,.int .u8 proto,.int .u16 id,.int .u8 off,.bool more,.int .u16 sport,.int .u16 dport,(.slice (some ⟨w.heap.size + 1,0,none⟩) n (n + 8))] 40)))=w2
 have HB2:Hid (Below (w.heap.size + 1) (w.alloc (.cells #[.int .i64 kind,.int .i64 ee,.int .i64 aa,.int .i64 bb,.int .u16 src,.int .u16 dst,.int .u8 proto,.int .u16 id,.int .u8 off,.bool more,.int .u16 sport,.int .u16 dport,.slice (some ad) n cap,.slice so sn sc] 42)) w2):=by rw [← hW2];exact ((Below.refl _ _).alloc (by simp) _).alloc (by simp) _
 have HG2:Hid (w2.heap[w.heap.size + 1]?=some (.cells C 5 (0,0))):=by
  rw [← hW2]
  refine (Below.heap_alloc _ _ _ (by simp)).trans ?_
  have h:=heap_alloc_new (w.alloc (.cells #[.int .i64 kind,.int .i64 ee,.int .i64 aa,.int .i64 bb,.int .u16 src,.int .u16 dst,.int .u8 proto,.int .u16 id,.int .u8 off,.bool more,.int .u16 sport,.int .u16 dport,.slice (some ad) n cap,.slice so sn sc] 42)) (.cells C 5)
  rw [World.size_alloc] at h
  exact h
 have hz2:w2.heap.size=w.heap.size + 3:=by rw [← hW2];simp
 clear hW2 heq
 have HPD:Hid (Has w2 (some ⟨w.heap.size + 1,0,none⟩) zs):=has_of_row HG2.out (fun j hj=>HC.out.2.1 j (by omega))
 refine (fpack_no src dst proto id off more sport dport (some ⟨w.heap.size + 1,0,none⟩) n (n + 8) w2 hoff0 (by unfold maxLen;omega) hwf).mono ?_
 rintro e w3 ⟨rfl,hb3⟩
 have HB3:=hide hb3
 have hz3:w2.heap.size≤w3.heap.size:=hb3.size
 have HBx3:Hid (Below (w.heap.size + 1) (w.alloc (.cells #[.int .i64 kind,.int .i64 ee,.int .i64 aa,.int .i64 bb,.int .u16 src,.int .u16 dst,.int .u8 proto,.int .u16 id,.int .u8 off,.bool more,.int .u16 sport,.int .u16 dport,.slice (some ad) n cap,.slice so sn sc] 42)) w3):=HB2.out.trans (HB3.out.mono (by omega))
 have cc:=box_cell HBx3.out
 have hzw:w.heap.size < w3.heap.size:=by omega
 clear hb3
 go_wp2_with fail
 refine (rpack_no src dst proto id off more sport dport (some ad) n cap w3 hoff0 (by unfold maxLen;omega) hwf).mono ?_
 rintro e w4 ⟨rfl,hb4⟩
 have HB4:=hide hb4
 have hz4:w3.heap.size≤w4.heap.size:=hb4.size
 have HBx4:Hid (Below (w.heap.size + 1) (w.alloc (.cells #[.int .i64 kind,.int .i64 ee,.int .i64 aa,.int .i64 bb,.int .u16 src,.int .u16 dst,.int .u8 proto,.int .u16 id,.int .u8 off,.bool more,.int .u16 sport,.int .u16 dport,.slice (some ad) n cap,.slice so sn sc] 42)) w4):=HBx3.out.trans (HB4.out.mono (by omega))
 have HG4:Hid (w4.heap[w.heap.size + 1]?=some (.cells C 5 (0,0))):=(HB4.out.block _ (by omega)).trans ((HB3.out.block _ (by omega)).trans HG2.out)
 clear cc hb4 hzw
 have cc:=box_cell HBx4.out
 have hzw:w.heap.size < w4.heap.size:=by omega
 go_wp2_with fail
 refine (clean_any (w.heap.size + 1) (some ad) n cap zs C w4 hzs (HD.out.below (below_old HBx4.out)) hn (fun b hb hz=>by obtain ⟨b2,o2,h1,h2,_⟩:=HD.out.2 hz;rw [h1] at hb;simp only [Option.some.injEq] at hb;subst hb;show b2 < _;omega) HG4.out HC.out.1 HC.out.2.1 HC.out.2.2).mono ?_
 rintro e w5 ⟨rfl,hg5⟩
 have HG5:=hide hg5
 have hz5:w4.heap.size≤w5.heap.size:=hg5.size
 have HBw5:Hid (Below w.heap.size w w5):=(below_old HBx4.out).grown hg5 (by omega) (by simp)
 clear cc hzw hg5
 have hcA:(convert 38 9 (.slice none 0 0)).run Tryz.prog w5=.ok (.string (strOfNums [])) w5:=conv_has (w:=w5) (ao:=none) (zs:=[]) ⟨fun _=>rfl,fun h=>absurd rfl h⟩ 0
 go_wp2_with fail
 refine (HBY0.out w5 (.slice none 0 0) 0 [] HBw5.out (World.ownsRow_nil _ _ _ _) (by simp [Value.ownBlock]) (by decide)).mono ?_
 rintro e w6 ⟨rfl,hB6⟩
 have HB6:=hide hB6
 clear hB6 hcA
 go_wp2
 go_ret
 exact ⟨by simp,HB6.out⟩
theorem qpack_ny (wb:Nat) (sv:Value) (kind ee aa bb src dst proto id off:Int) (more:Bool) (sport dport:Int) (so:Option Addr) (sn sc:Nat) (hsv:sv=.slice so sn sc) (w:World) (Q:World→Prop) (HBY0:Hid (∀ (w5:World) (v:Value) (m:Nat) (zs':List Int),Below w.heap.size w w5→w5.ownsRow 0 5 1 v m (zs'.map (Value.int .u8))→(∀ g,v.ownBlock=some g→w.heap.size≤g)→m≤1048576→Calls Tryz.prog 30 #[.pointer (some ⟨wb,1,none⟩),v] w5 fun e w'=>e=.returned (.tuple #[])∧Q w')) (hsrc0:0≤src) (hsrc:src≤65535) (hdst0:0≤dst) (hdst:dst≤65535) (hproto0:0≤proto) (hproto:proto≤255) (hid0:0≤id) (hid:id≤65535) (hoff0:0≤off) (hoff:off≤255) (hsport0:0≤sport) (hsport:sport≤65535) (hdport0:0≤dport) (hdport:dport≤65535)
  (hwf:wfB off more sport dport 0=true) :
  Calls Tryz.prog 16 #[.pointer (some ⟨wb,0,none⟩),.agg #[.int .i64 kind,.int .i64 ee,.int .i64 aa,.int .i64 bb,.int .u16 src,.int .u16 dst,.int .u8 proto,.int .u16 id,.int .u8 off,.bool more,.int .u16 sport,.int .u16 dport,.slice none 0 0,sv]] w fun e w'=>e=.returned (.bool true)∧Q w':=by
 subst hsv
 have HD:Hid (Has w none []):=⟨fun _=>rfl,fun h=>absurd rfl h⟩
 have HGV:Hid (∀ w1,Has w1 none []→Calls Tryz.prog 26 #[.slice none 0 0] w1 fun e w'=>e=.returned (.slice (some ⟨w1.heap.size,0,none⟩) (0 + 8) (0 + 8))∧∃ C:Array Value,w'=w1.alloc (.cells C 5)∧C.size=0 + 8∧(∀ j,j < 0→C[j]?=some (.int .u8 (([]:List Int).getD j 0)))∧∀ j,0≤j→j < 0 + 8→C[j]?=some (.int .u8 77)):=fun w1 h=>given_any none 0 0 [] w1 rfl h (by decide)
 have heq:=fun wx=>Lib.run_eql_slice_nil (P:=Tryz.prog) wx 38 5 none 0 0 0 0 Tryz.underlying38
 go_enter Tryz.func16,Tryz.ntmps16
 go_wp2_with fail
 refine (HGV.out _ (HD.out.below ((Below.refl _ _).alloc (Nat.le_refl _) _))).mono ?_
 rintro e w1 ⟨rfl,C,rfl,hCs,hCp,hCq⟩
 have HC:=hide (And.intro hCs (And.intro hCp hCq))
 clear hCs hCp hCq HGV
 go_wp2_with fail
 generalize hW2:((((w.alloc (.cells #[.int .i64 kind,.int .i64 ee,.int .i64 aa,.int .i64 bb,.int .u16 src,.int .u16 dst,.int .u8 proto,.int .u16 id,.int .u8 off,.bool more,.int .u16 sport,.int .u16 dport,.slice none 0 0,.slice so sn sc] 42)).alloc (.cells C 5)).alloc (.cells #[.int .u16 src,.int .u16 dst,.int .u8 proto,.int .u16 id,.int .u8 off,.bool more,.int .u16 sport,.int .u16 dport,(.slice none 0 0)] 40)))=w2
 have HB2:Hid (Below (w.heap.size + 1) (w.alloc (.cells #[.int .i64 kind,.int .i64 ee,.int .i64 aa,.int .i64 bb,.int .u16 src,.int .u16 dst,.int .u8 proto,.int .u16 id,.int .u8 off,.bool more,.int .u16 sport,.int .u16 dport,.slice none 0 0,.slice so sn sc] 42)) w2):=by rw [← hW2];exact ((Below.refl _ _).alloc (by simp) _).alloc (by simp) _
 have HG2:Hid (w2.heap[w.heap.size + 1]?=some (.cells C 5 (0,0))):=by
  rw [← hW2]
  refine (Below.heap_alloc _ _ _ (by simp)).trans ?_
  have h:=heap_alloc_new (w.alloc (.cells #[.int .i64 kind,.int .i64 ee,.int .i64 aa,.int .i64 bb,.int .u16 src,.int .u16 dst,.int .u8 proto,.int .u16 id,.int .u8 off,.bool more,.int .u16 sport,.int .u16 dport,.slice none 0 0,.slice so sn sc] 42)) (.cells C 5)
  rw [World.size_alloc] at h
  exact h
 have hz2:w2.heap.size=w.heap.size + 3:=by rw [← hW2];simp
 clear hW2 heq
 have HPD:Hid (Has w2 none []):=⟨fun _=>rfl,fun h=>absurd rfl h⟩
 refine (fpack_yes src dst proto id off more sport dport none 0 0 [] w2 hsrc0 hsrc hdst0 hdst hproto0 hproto hid0 hid hoff0 hoff hsport0 hsport hdport0 hdport rfl (fun _=>rfl) HPD.out hwf).mono ?_
 rintro e w3 ⟨v3,rfl,ho3,hnn3,hb3⟩
 obtain ⟨g3,c3,rfl⟩:=(own_shape ho3).resolve_left hnn3
 have HO3:=hide ho3
 clear ho3 hnn3
 have HB3:=hide hb3
 have hz3:w2.heap.size≤w3.heap.size:=hb3.size
 have HBx3:Hid (Below (w.heap.size + 1) (w.alloc (.cells #[.int .i64 kind,.int .i64 ee,.int .i64 aa,.int .i64 bb,.int .u16 src,.int .u16 dst,.int .u8 proto,.int .u16 id,.int .u8 off,.bool more,.int .u16 sport,.int .u16 dport,.slice none 0 0,.slice so sn sc] 42)) w3):=HB2.out.trans (HB3.out.mono (by omega))
 have cc:=box_cell HBx3.out
 have hzw:w.heap.size < w3.heap.size:=by omega
 clear hb3
 go_wp2_with fail
 refine (rpack_yes src dst proto id off more sport dport none 0 0 [] w3 hsrc0 hsrc hdst0 hdst hproto0 hproto hid0 hid hoff0 hoff hsport0 hsport hdport0 hdport rfl (fun _=>rfl) (HD.out.below (below_old HBx3.out)) hwf).mono ?_
 rintro e w4 ⟨v4,rfl,ho4,hb4⟩
 obtain ⟨ao4,c4,rfl,hh4,hl4,_,_,_⟩:=owns_any ho4
 have HH4:=hide hh4
 have HO4:=hide ho4
 clear ho4 hh4
 have HB4:=hide hb4
 have hz4:w3.heap.size≤w4.heap.size:=hb4.size
 have HBx4:Hid (Below (w.heap.size + 1) (w.alloc (.cells #[.int .i64 kind,.int .i64 ee,.int .i64 aa,.int .i64 bb,.int .u16 src,.int .u16 dst,.int .u8 proto,.int .u16 id,.int .u8 off,.bool more,.int .u16 sport,.int .u16 dport,.slice none 0 0,.slice so sn sc] 42)) w4):=HBx3.out.trans (HB4.out.mono (by omega))
 have HG4:Hid (w4.heap[w.heap.size + 1]?=some (.cells C 5 (0,0))):=(HB4.out.block _ (by omega)).trans ((HB3.out.block _ (by omega)).trans HG2.out)
 clear cc hb4 hzw
 have cc:=box_cell HBx4.out
 have hzw:w.heap.size < w4.heap.size:=by omega
 go_wp2_with fail
 refine (clean_any (w.heap.size + 1) none 0 0 [] C w4 rfl (HD.out.below (below_old HBx4.out)) (by decide) (by simp) HG4.out HC.out.1 HC.out.2.1 HC.out.2.2).mono ?_
 rintro e w5 ⟨rfl,hg5⟩
 have HG5:=hide hg5
 have hz5:w4.heap.size≤w5.heap.size:=hg5.size
 have HBw5:Hid (Below w.heap.size w w5):=(below_old HBx4.out).grown hg5 (by omega) (by simp)
 clear cc hzw hg5
 have HO3':Hid (w5.ownsRow w2.heap.size 5 1 (.slice (some ⟨g3,0,none⟩) (pkL src dst proto id off more sport dport []).length c3) (pkL src dst proto id off more sport dport []).length ((pkL src dst proto id off more sport dport []).map (Value.int .u8))):=World.ownsRow.kept (own_below HO3.out (own_lt HO3.out) HB4.out) HG5.out (.inr (by intro h;have:=(HO3.out.lt _ h).1;omega))
 have HO4':Hid (w5.ownsRow w3.heap.size 5 1 (.slice ao4 (pkL src dst proto id off more sport dport []).length c4) (pkL src dst proto id off more sport dport []).length ((pkL src dst proto id off more sport dport []).map (Value.int .u8))):=World.ownsRow.kept HO4.out HG5.out (by cases hv:Value.ownBlock (.slice ao4 (pkL src dst proto id off more sport dport []).length c4) with | none=>exact .inl rfl | some q=>exact .inr (by have:=(HO4.out.lt q hv).1;simp;omega))
 have hcA:=fun (m:Nat)=>conv_has (w:=w5) (owns_has HO3'.out).1 c3
 have hcB:(convert 38 9 (.slice ao4 (pkL src dst proto id off more sport dport []).length c4)).run Tryz.prog w5=.ok (.string (strOfNums (pkL src dst proto id off more sport dport []))) w5:=by
  obtain ⟨ao',cv',he,h1,h2,_⟩:=owns_any HO4'.out
  simp only [Value.slice.injEq] at he
  obtain ⟨rfl,_,rfl⟩:=he
  exact conv_has h1 c4
 have hcA:=conv_has (w:=w5) (owns_has HO3'.out).1 c3
 have hlen:(pkL src dst proto id off more sport dport []).length≤1048576:=by
  have h1:0≤32:=by simp [wfB] at hwf;omega
  simp only [pkL,hdL,ptL]
  split <;> simp <;> omega
 have HLEN:=hide hlen
 generalize (pkL src dst proto id off more sport dport [])=LL at *
 go_wp2_with fail
 refine (HBY0.out w5 _ LL.length LL HBw5.out (own_zero HO3'.out) (fun g hg=>by have:=(HO3'.out.lt g hg).1;omega) HLEN.out).mono ?_
 rintro e w6 ⟨rfl,hB6⟩
 have HB6:=hide hB6
 clear hB6 hcA hcB
 go_wp2
 go_ret
 exact ⟨by simp,HB6.out⟩
theorem qpack_nn (wb:Nat) (sv:Value) (kind ee aa bb src dst proto id off:Int) (more:Bool) (sport dport:Int) (so:Option Addr) (sn sc:Nat) (hsv:sv=.slice so sn sc) (w:World) (Q:World→Prop) (HBY0:Hid (∀ (w5:World) (v:Value) (m:Nat) (zs':List Int),Below w.heap.size w w5→w5.ownsRow 0 5 1 v m (zs'.map (Value.int .u8))→(∀ g,v.ownBlock=some g→w.heap.size≤g)→m≤1048576→Calls Tryz.prog 30 #[.pointer (some ⟨wb,1,none⟩),v] w5 fun e w'=>e=.returned (.tuple #[])∧Q w')) (hsrc0:0≤src) (hsrc:src≤65535) (hdst0:0≤dst) (hdst:dst≤65535) (hproto0:0≤proto) (hproto:proto≤255) (hid0:0≤id) (hid:id≤65535) (hoff0:0≤off) (hoff:off≤255) (hsport0:0≤sport) (hsport:sport≤65535) (hdport0:0≤dport) (hdport:dport≤65535)
  (hwf:wfB off more sport dport 0=false) :
  Calls Tryz.prog 16 #[.pointer (some ⟨wb,0,none⟩),.agg #[.int .i64 kind,.int .i64 ee,.int .i64 aa,.int .i64 bb,.int .u16 src,.int .u16 dst,.int .u8 proto,.int .u16 id,.int .u8 off,.bool more,.int .u16 sport,.int .u16 dport,.slice none 0 0,sv]] w fun e w'=>e=.returned (.bool true)∧Q w':=by
 subst hsv
 have HD:Hid (Has w none []):=⟨fun _=>rfl,fun h=>absurd rfl h⟩
 have HGV:Hid (∀ w1,Has w1 none []→Calls Tryz.prog 26 #[.slice none 0 0] w1 fun e w'=>e=.returned (.slice (some ⟨w1.heap.size,0,none⟩) (0 + 8) (0 + 8))∧∃ C:Array Value,w'=w1.alloc (.cells C 5)∧C.size=0 + 8∧(∀ j,j < 0→C[j]?=some (.int .u8 (([]:List Int).getD j 0)))∧∀ j,0≤j→j < 0 + 8→C[j]?=some (.int .u8 77)):=fun w1 h=>given_any none 0 0 [] w1 rfl h (by decide)
 have heq:=fun wx=>Lib.run_eql_slice_nil (P:=Tryz.prog) wx 38 5 none 0 0 0 0 Tryz.underlying38
 go_enter Tryz.func16,Tryz.ntmps16
 go_wp2_with fail
 refine (HGV.out _ (HD.out.below ((Below.refl _ _).alloc (Nat.le_refl _) _))).mono ?_
 rintro e w1 ⟨rfl,C,rfl,hCs,hCp,hCq⟩
 have HC:=hide (And.intro hCs (And.intro hCp hCq))
 clear hCs hCp hCq HGV
 go_wp2_with fail
 generalize hW2:((((w.alloc (.cells #[.int .i64 kind,.int .i64 ee,.int .i64 aa,.int .i64 bb,.int .u16 src,.int .u16 dst,.int .u8 proto,.int .u16 id,.int .u8 off,.bool more,.int .u16 sport,.int .u16 dport,.slice none 0 0,.slice so sn sc] 42)).alloc (.cells C 5)).alloc (.cells #[.int .u16 src,.int .u16 dst,.int .u8 proto,.int .u16 id,.int .u8 off,.bool more,.int .u16 sport,.int .u16 dport,(.slice none 0 0)] 40)))=w2
 have HB2:Hid (Below (w.heap.size + 1) (w.alloc (.cells #[.int .i64 kind,.int .i64 ee,.int .i64 aa,.int .i64 bb,.int .u16 src,.int .u16 dst,.int .u8 proto,.int .u16 id,.int .u8 off,.bool more,.int .u16 sport,.int .u16 dport,.slice none 0 0,.slice so sn sc] 42)) w2):=by rw [← hW2];exact ((Below.refl _ _).alloc (by simp) _).alloc (by simp) _
 have HG2:Hid (w2.heap[w.heap.size + 1]?=some (.cells C 5 (0,0))):=by
  rw [← hW2]
  refine (Below.heap_alloc _ _ _ (by simp)).trans ?_
  have h:=heap_alloc_new (w.alloc (.cells #[.int .i64 kind,.int .i64 ee,.int .i64 aa,.int .i64 bb,.int .u16 src,.int .u16 dst,.int .u8 proto,.int .u16 id,.int .u8 off,.bool more,.int .u16 sport,.int .u16 dport,.slice none 0 0,.slice so sn sc] 42)) (.cells C 5)
  rw [World.size_alloc] at h
  exact h
 have hz2:w2.heap.size=w.heap.size + 3:=by rw [← hW2];simp
 clear hW2 heq
 have HPD:Hid (Has w2 none []):=⟨fun _=>rfl,fun h=>absurd rfl h⟩
 refine (fpack_no src dst proto id off more sport dport none 0 0 w2 hoff0 (by unfold maxLen;omega) hwf).mono ?_
 rintro e w3 ⟨rfl,hb3⟩
 have HB3:=hide hb3
 have hz3:w2.heap.size≤w3.heap.size:=hb3.size
 have HBx3:Hid (Below (w.heap.size + 1) (w.alloc (.cells #[.int .i64 kind,.int .i64 ee,.int .i64 aa,.int .i64 bb,.int .u16 src,.int .u16 dst,.int .u8 proto,.int .u16 id,.int .u8 off,.bool more,.int .u16 sport,.int .u16 dport,.slice none 0 0,.slice so sn sc] 42)) w3):=HB2.out.trans (HB3.out.mono (by omega))
 have cc:=box_cell HBx3.out
 have hzw:w.heap.size < w3.heap.size:=by omega
 clear hb3
 go_wp2_with fail
 refine (rpack_no src dst proto id off more sport dport none 0 0 w3 hoff0 (by unfold maxLen;omega) hwf).mono ?_
 rintro e w4 ⟨rfl,hb4⟩
 have HB4:=hide hb4
 have hz4:w3.heap.size≤w4.heap.size:=hb4.size
 have HBx4:Hid (Below (w.heap.size + 1) (w.alloc (.cells #[.int .i64 kind,.int .i64 ee,.int .i64 aa,.int .i64 bb,.int .u16 src,.int .u16 dst,.int .u8 proto,.int .u16 id,.int .u8 off,.bool more,.int .u16 sport,.int .u16 dport,.slice none 0 0,.slice so sn sc] 42)) w4):=HBx3.out.trans (HB4.out.mono (by omega))
 have HG4:Hid (w4.heap[w.heap.size + 1]?=some (.cells C 5 (0,0))):=(HB4.out.block _ (by omega)).trans ((HB3.out.block _ (by omega)).trans HG2.out)
 clear cc hb4 hzw
 have cc:=box_cell HBx4.out
 have hzw:w.heap.size < w4.heap.size:=by omega
 go_wp2_with fail
 refine (clean_any (w.heap.size + 1) none 0 0 [] C w4 rfl (HD.out.below (below_old HBx4.out)) (by decide) (by simp) HG4.out HC.out.1 HC.out.2.1 HC.out.2.2).mono ?_
 rintro e w5 ⟨rfl,hg5⟩
 have HG5:=hide hg5
 have hz5:w4.heap.size≤w5.heap.size:=hg5.size
 have HBw5:Hid (Below w.heap.size w w5):=(below_old HBx4.out).grown hg5 (by omega) (by simp)
 clear cc hzw hg5
 have hcA:(convert 38 9 (.slice none 0 0)).run Tryz.prog w5=.ok (.string (strOfNums [])) w5:=conv_has (w:=w5) (ao:=none) (zs:=[]) ⟨fun _=>rfl,fun h=>absurd rfl h⟩ 0
 go_wp2_with fail
 refine (HBY0.out w5 (.slice none 0 0) 0 [] HBw5.out (World.ownsRow_nil _ _ _ _) (by simp [Value.ownBlock]) (by decide)).mono ?_
 rintro e w6 ⟨rfl,hB6⟩
 have HB6:=hide hB6
 clear hB6 hcA
 go_wp2
 go_ret
 exact ⟨by simp,HB6.out⟩
end Go.Proofs.YtajphdppmdoalaaGreat
