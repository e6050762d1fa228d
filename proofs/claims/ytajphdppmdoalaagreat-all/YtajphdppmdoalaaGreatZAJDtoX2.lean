import Derived.Test.YtajphdppmdoalaaGreatZAJ6toT4
import Derived.Test.YtajphdppmdoalaaGreatZAT5toU2
import Derived.Test.YtajphdppmdoalaaGreatZANtoZ1
import Derived.Test.YtajphdppmdoalaaGreatZAMAtoMC
import Derived.Test.YtajphdppmdoalaaGreatZAZ4toCA
import Derived.Test.YtajphdppmdoalaaGreatZADAtoV2
set_option maxRecDepth 100000
set_option maxHeartbeats 6400000
set_option linter.unusedVariables false
namespace Go.Proofs.YtajphdppmdoalaaGreat
open Go.RowKit
theorem TabPost.err {w w':World} {zs:List Int} {e:Ending} (h:TabPost w zs e w') (h0:tE zs ≠ 0):e=.returned (.tuple #[.slice none 0 0,.int .i64 (tE zs)])∧Below w.heap.size w w':=by
 obtain ⟨hb,h⟩:=h
 rcases h with ⟨h,_⟩ | ⟨_,h⟩
 ·exact absurd h h0
 ·exact ⟨h,hb⟩
theorem TabPost.ok {w w':World} {zs:List Int} {e:Ending} (h:TabPost w zs e w') (h0:tE zs=0):∃ g c,e=.returned (.tuple #[.slice (some ⟨g,0,none⟩) 31 c,.int .i64 0])∧w'.ownsRow w.heap.size 5 1 (.slice (some ⟨g,0,none⟩) 31 c) 31 ((tbl zs).map (Value.int .u8))∧Below w.heap.size w w':=by
 obtain ⟨hb,h⟩:=h
 rcases h with ⟨_,v,rfl,ho,hnn⟩ | ⟨h,_⟩
 ·obtain ⟨g,c,rfl⟩:=(own_shape ho).resolve_left hnn
  exact ⟨g,c,rfl,ho,hb⟩
 ·exact absurd h0 h
theorem qch_hs (wb:Nat) (ee aa bb src dst proto id off:Int) (more:Bool) (sport dport:Int) (dso:Option Addr) (dsn dsc:Nat) (ad:Addr) (n cap:Nat) (zs:List Int) (w:World) (Q:World→Prop) (HBQ0:Hid (∀ w5:World,Below w.heap.size w w5→Q w5)) (hzs:zs.length=n) (hd:Has w (some ad) zs) (hzb:∀ z ∈ zs,0≤z∧z≤255) (hn:n≤140737488351232) :
  Calls Tryz.prog 18 #[.pointer (some ⟨wb,0,none⟩),.agg #[.int .i64 3,.int .i64 ee,.int .i64 aa,.int .i64 bb,.int .u16 src,.int .u16 dst,.int .u8 proto,.int .u16 id,.int .u8 off,.bool more,.int .u16 sport,.int .u16 dport,.slice dso dsn dsc,.slice (some ad) n cap]] w fun e w'=>e=.returned (.bool true)∧Q w':=by
 have HD:=hide hd
 have HZB:=hide hzb
 clear hd hzb
 have HGV:Hid (∀ w1,Has w1 (some ad) zs→Calls Tryz.prog 26 #[.slice (some ad) n cap] w1 fun e w'=>e=.returned (.slice (some ⟨w1.heap.size,0,none⟩) (n + 8) (n + 8))∧∃ C:Array Value,w'=w1.alloc (.cells C 5)∧C.size=n + 8∧(∀ j,j < n→C[j]?=some (.int .u8 (zs.getD j 0)))∧∀ j,n≤j→j < n + 8→C[j]?=some (.int .u8 77)):=fun w1 h=>given_any (some ad) n cap zs w1 hzs h hn
 have heq:=fun wx=>Lib.run_eql_slice_nil (P:=Tryz.prog) wx 38 5 (some ad) n cap 0 0 Tryz.underlying38
 go_enter Tryz.func18,Tryz.ntmps18
 go_wp2_with fail
 refine (HGV.out _ (HD.out.below ((Below.refl _ _).alloc (Nat.le_refl _) _))).mono ?_
 rintro e w1 ⟨rfl,C,rfl,hCs,hCp,hCq⟩
 have HC:=hide (And.intro hCs (And.intro hCp hCq))
 clear hCs hCp hCq HGV
 go_wp2_with fail
 generalize hW2:((w.alloc (.cells #[.int .i64 3,.int .i64 ee,.int .i64 aa,.int .i64 bb,.int .u16 src,.int .u16 dst,.int .u8 proto,.int .u16 id,.int .u8 off,.bool more,.int .u16 sport,.int .u16 dport,.slice dso dsn dsc,.slice (some ad) n cap] 42)).alloc (.cells C 5))=w2
 have HB2:Hid (Below (w.heap.size + 1) (w.alloc (.cells #[.int .i64 3,.int .i64 ee,.int .i64 aa,.int .i64 bb,.int .u16 src,.int .u16 dst,.int .u8 proto,.int .u16 id,.int .u8 off,.bool more,.int .u16 sport,.int .u16 dport,.slice dso dsn dsc,.slice (some ad) n cap] 42)) w2):=by rw [← hW2];exact (Below.refl _ _).alloc (by simp) _
 have HG2:Hid (w2.heap[w.heap.size + 1]?=some (.cells C 5 (0,0))):=by
  rw [← hW2]
  have h:=heap_alloc_new (w.alloc (.cells #[.int .i64 3,.int .i64 ee,.int .i64 aa,.int .i64 bb,.int .u16 src,.int .u16 dst,.int .u8 proto,.int .u16 id,.int .u8 off,.bool more,.int .u16 sport,.int .u16 dport,.slice dso dsn dsc,.slice (some ad) n cap] 42)) (.cells C 5)
  rw [World.size_alloc] at h
  exact h
 have hz2:w2.heap.size=w.heap.size + 2:=by rw [← hW2];simp
 clear hW2 heq
 have HPD:Hid (Has w2 (some ⟨w.heap.size + 1,0,none⟩) zs):=has_of_row HG2.out (fun j hj=>HC.out.2.1 j (by omega))
 have hhb:=hsh_bd zs
 have HH:=hide (fhash_any (some ⟨w.heap.size + 1,0,none⟩) n (n + 8) zs w2 hzs HPD.out (by omega) HZB.out)
 have HRH:=hide (fun (w3:World) (h:Has w3 (some ad) zs)=>rhash_any (some ad) n cap zs w3 hzs h (by omega) HZB.out)
 generalize hsh zs=hh at *
 refine HH.out.mono ?_
 rintro e w3 ⟨rfl,m3,rfl⟩
 clear HH
 have hb3:Below w2.heap.size w2 (w2.drewN m3):=below_drew (Below.refl _ _) m3
 generalize hW3:w2.drewN m3=w3
 rw [hW3] at hb3
 clear hW3
 have HB3:=hide hb3
 have hz3:w2.heap.size≤w3.heap.size:=hb3.size
 have HBx3:Hid (Below (w.heap.size + 1) (w.alloc (.cells #[.int .i64 3,.int .i64 ee,.int .i64 aa,.int .i64 bb,.int .u16 src,.int .u16 dst,.int .u8 proto,.int .u16 id,.int .u8 off,.bool more,.int .u16 sport,.int .u16 dport,.slice dso dsn dsc,.slice (some ad) n cap] 42)) w3):=HB2.out.trans (HB3.out.mono (by omega))
 have cc:=box_cell HBx3.out
 have hzw:w.heap.size < w3.heap.size:=by omega
 clear hb3
 go_wp2_with fail
 refine (HRH.out w3 (HD.out.below (below_old HBx3.out))).mono ?_
 rintro e w4 ⟨rfl,m4,rfl⟩
 clear HRH
 have hb4:Below w3.heap.size w3 (w3.drewN m4):=below_drew (Below.refl _ _) m4
 generalize hW4:w3.drewN m4=w4
 rw [hW4] at hb4
 clear hW4
 have HB4:=hide hb4
 have hz4:w3.heap.size≤w4.heap.size:=hb4.size
 have HBx4:Hid (Below (w.heap.size + 1) (w.alloc (.cells #[.int .i64 3,.int .i64 ee,.int .i64 aa,.int .i64 bb,.int .u16 src,.int .u16 dst,.int .u8 proto,.int .u16 id,.int .u8 off,.bool more,.int .u16 sport,.int .u16 dport,.slice dso dsn dsc,.slice (some ad) n cap] 42)) w4):=HBx3.out.trans (HB4.out.mono (by omega))
 have HG4:Hid (w4.heap[w.heap.size + 1]?=some (.cells C 5 (0,0))):=(HB4.out.block _ (by omega)).trans ((HB3.out.block _ (by omega)).trans HG2.out)
 clear cc hb4 hzw
 have cc:=box_cell HBx4.out
 have hzw:w.heap.size < w4.heap.size:=by omega
 go_wp2_with fail
 refine (clean_any (w.heap.size + 1) (some ad) n cap zs C w4 hzs (HD.out.below (below_old HBx4.out)) hn (fun b hb hz=>by obtain ⟨b2,o2,h1,h2,_⟩:=HD.out.2 hz;rw [h1] at hb;simp only [Option.some.injEq] at hb;subst hb;show b2 < _;omega) HG4.out HC.out.1 HC.out.2.1 HC.out.2.2).mono ?_
 rintro e w5 ⟨rfl,hg5⟩
 have HG5:=hide hg5
 have hz5:w4.heap.size≤w5.heap.size:=hg5.size
 have HBw5:Hid (Below w.heap.size w w5):=(below_old HBx4.out).grown hg5 (by omega) (by simp)
 clear cc hzw hg5
 have HB6:Hid (Q w5):=HBQ0.out w5 HBw5.out
 go_wp2
 go_ret
 exact ⟨by simp,HB6.out⟩
theorem qch_hn (wb:Nat) (ee aa bb src dst proto id off:Int) (more:Bool) (sport dport:Int) (dso:Option Addr) (dsn dsc:Nat) (w:World) (Q:World→Prop) (HBQ0:Hid (∀ w5:World,Below w.heap.size w w5→Q w5)) :
  Calls Tryz.prog 18 #[.pointer (some ⟨wb,0,none⟩),.agg #[.int .i64 3,.int .i64 ee,.int .i64 aa,.int .i64 bb,.int .u16 src,.int .u16 dst,.int .u8 proto,.int .u16 id,.int .u8 off,.bool more,.int .u16 sport,.int .u16 dport,.slice dso dsn dsc,.slice none 0 0]] w fun e w'=>e=.returned (.bool true)∧Q w':=by
 have HD:Hid (Has w none []):=⟨fun _=>rfl,fun h=>absurd rfl h⟩
 have HZB:Hid (∀ z ∈ ([]:List Int),0≤z∧z≤255):=by intro z hz;simp at hz
 have HGV:Hid (∀ w1,Has w1 none []→Calls Tryz.prog 26 #[.slice none 0 0] w1 fun e w'=>e=.returned (.slice (some ⟨w1.heap.size,0,none⟩) (0 + 8) (0 + 8))∧∃ C:Array Value,w'=w1.alloc (.cells C 5)∧C.size=0 + 8∧(∀ j,j < 0→C[j]?=some (.int .u8 (([]:List Int).getD j 0)))∧∀ j,0≤j→j < 0 + 8→C[j]?=some (.int .u8 77)):=fun w1 h=>given_any none 0 0 [] w1 rfl h (by decide)
 have heq:=fun wx=>Lib.run_eql_slice_nil (P:=Tryz.prog) wx 38 5 none 0 0 0 0 Tryz.underlying38
 go_enter Tryz.func18,Tryz.ntmps18
 go_wp2_with fail
 refine (HGV.out _ (HD.out.below ((Below.refl _ _).alloc (Nat.le_refl _) _))).mono ?_
 rintro e w1 ⟨rfl,C,rfl,hCs,hCp,hCq⟩
 have HC:=hide (And.intro hCs (And.intro hCp hCq))
 clear hCs hCp hCq HGV
 go_wp2_with fail
 generalize hW2:((w.alloc (.cells #[.int .i64 3,.int .i64 ee,.int .i64 aa,.int .i64 bb,.int .u16 src,.int .u16 dst,.int .u8 proto,.int .u16 id,.int .u8 off,.bool more,.int .u16 sport,.int .u16 dport,.slice dso dsn dsc,.slice none 0 0] 42)).alloc (.cells C 5))=w2
 have HB2:Hid (Below (w.heap.size + 1) (w.alloc (.cells #[.int .i64 3,.int .i64 ee,.int .i64 aa,.int .i64 bb,.int .u16 src,.int .u16 dst,.int .u8 proto,.int .u16 id,.int .u8 off,.bool more,.int .u16 sport,.int .u16 dport,.slice dso dsn dsc,.slice none 0 0] 42)) w2):=by rw [← hW2];exact (Below.refl _ _).alloc (by simp) _
 have HG2:Hid (w2.heap[w.heap.size + 1]?=some (.cells C 5 (0,0))):=by
  rw [← hW2]
  have h:=heap_alloc_new (w.alloc (.cells #[.int .i64 3,.int .i64 ee,.int .i64 aa,.int .i64 bb,.int .u16 src,.int .u16 dst,.int .u8 proto,.int .u16 id,.int .u8 off,.bool more,.int .u16 sport,.int .u16 dport,.slice dso dsn dsc,.slice none 0 0] 42)) (.cells C 5)
  rw [World.size_alloc] at h
  exact h
 have hz2:w2.heap.size=w.heap.size + 2:=by rw [← hW2];simp
 clear hW2 heq
 have HPD:Hid (Has w2 none []):=⟨fun _=>rfl,fun h=>absurd rfl h⟩
 have hhb:=hsh_bd []
 have HH:=hide (fhash_any none 0 0 [] w2 rfl HPD.out (by omega) HZB.out)
 have HRH:=hide (fun (w3:World) (h:Has w3 none [])=>rhash_any none 0 0 [] w3 rfl h (by omega) HZB.out)
 generalize hsh []=hh at *
 refine HH.out.mono ?_
 rintro e w3 ⟨rfl,m3,rfl⟩
 clear HH
 have hb3:Below w2.heap.size w2 (w2.drewN m3):=below_drew (Below.refl _ _) m3
 generalize hW3:w2.drewN m3=w3
 rw [hW3] at hb3
 clear hW3
 have HB3:=hide hb3
 have hz3:w2.heap.size≤w3.heap.size:=hb3.size
 have HBx3:Hid (Below (w.heap.size + 1) (w.alloc (.cells #[.int .i64 3,.int .i64 ee,.int .i64 aa,.int .i64 bb,.int .u16 src,.int .u16 dst,.int .u8 proto,.int .u16 id,.int .u8 off,.bool more,.int .u16 sport,.int .u16 dport,.slice dso dsn dsc,.slice none 0 0] 42)) w3):=HB2.out.trans (HB3.out.mono (by omega))
 have cc:=box_cell HBx3.out
 have hzw:w.heap.size < w3.heap.size:=by omega
 clear hb3
 go_wp2_with fail
 refine (HRH.out w3 (HD.out.below (below_old HBx3.out))).mono ?_
 rintro e w4 ⟨rfl,m4,rfl⟩
 clear HRH
 have hb4:Below w3.heap.size w3 (w3.drewN m4):=below_drew (Below.refl _ _) m4
 generalize hW4:w3.drewN m4=w4
 rw [hW4] at hb4
 clear hW4
 have HB4:=hide hb4
 have hz4:w3.heap.size≤w4.heap.size:=hb4.size
 have HBx4:Hid (Below (w.heap.size + 1) (w.alloc (.cells #[.int .i64 3,.int .i64 ee,.int .i64 aa,.int .i64 bb,.int .u16 src,.int .u16 dst,.int .u8 proto,.int .u16 id,.int .u8 off,.bool more,.int .u16 sport,.int .u16 dport,.slice dso dsn dsc,.slice none 0 0] 42)) w4):=HBx3.out.trans (HB4.out.mono (by omega))
 have HG4:Hid (w4.heap[w.heap.size + 1]?=some (.cells C 5 (0,0))):=(HB4.out.block _ (by omega)).trans ((HB3.out.block _ (by omega)).trans HG2.out)
 clear cc hb4 hzw
 have cc:=box_cell HBx4.out
 have hzw:w.heap.size < w4.heap.size:=by omega
 go_wp2_with fail
 refine (clean_any (w.heap.size + 1) none 0 0 [] C w4 rfl (HD.out.below (below_old HBx4.out)) (by decide) (by simp) HG4.out HC.out.1 HC.out.2.1 HC.out.2.2).mono ?_
 rintro e w5 ⟨rfl,hg5⟩
 have HG5:=hide hg5
 have hz5:w4.heap.size≤w5.heap.size:=hg5.size
 have HBw5:Hid (Below w.heap.size w w5):=(below_old HBx4.out).grown hg5 (by omega) (by simp)
 clear cc hzw hg5
 have HB6:Hid (Q w5):=HBQ0.out w5 HBw5.out
 go_wp2
 go_ret
 exact ⟨by simp,HB6.out⟩
theorem qch_so (wb:Nat) (ee aa bb src dst proto id off:Int) (more:Bool) (sport dport:Int) (dso:Option Addr) (dsn dsc:Nat) (ad:Addr) (n cap:Nat) (zs:List Int) (w:World) (Q:World→Prop) (HBY0:Hid (∀ (w5:World) (v:Value) (m:Nat) (zs':List Int),Below w.heap.size w w5→w5.ownsRow 0 5 1 v m (zs'.map (Value.int .u8))→(∀ g,v.ownBlock=some g→w.heap.size≤g)→m≤1048576→Calls Tryz.prog 30 #[.pointer (some ⟨wb,1,none⟩),v] w5 fun e w'=>e=.returned (.tuple #[])∧Q w')) (hzs:zs.length=n) (hd:Has w (some ad) zs) (hzb:∀ z ∈ zs,0≤z∧z≤255) (hn:n≤140737488351232) (hte:tE zs=0) :
  Calls Tryz.prog 18 #[.pointer (some ⟨wb,0,none⟩),.agg #[.int .i64 4,.int .i64 ee,.int .i64 aa,.int .i64 bb,.int .u16 src,.int .u16 dst,.int .u8 proto,.int .u16 id,.int .u8 off,.bool more,.int .u16 sport,.int .u16 dport,.slice dso dsn dsc,.slice (some ad) n cap]] w fun e w'=>e=.returned (.bool true)∧Q w':=by
 have HD:=hide hd
 have HZB:=hide hzb
 clear hd hzb
 have HGV:Hid (∀ w1,Has w1 (some ad) zs→Calls Tryz.prog 26 #[.slice (some ad) n cap] w1 fun e w'=>e=.returned (.slice (some ⟨w1.heap.size,0,none⟩) (n + 8) (n + 8))∧∃ C:Array Value,w'=w1.alloc (.cells C 5)∧C.size=n + 8∧(∀ j,j < n→C[j]?=some (.int .u8 (zs.getD j 0)))∧∀ j,n≤j→j < n + 8→C[j]?=some (.int .u8 77)):=fun w1 h=>given_any (some ad) n cap zs w1 hzs h hn
 have heq:=fun wx=>Lib.run_eql_slice_nil (P:=Tryz.prog) wx 38 5 (some ad) n cap 0 0 Tryz.underlying38
 go_enter Tryz.func18,Tryz.ntmps18
 go_wp2_with fail
 refine (HGV.out _ (HD.out.below ((Below.refl _ _).alloc (Nat.le_refl _) _))).mono ?_
 rintro e w1 ⟨rfl,C,rfl,hCs,hCp,hCq⟩
 have HC:=hide (And.intro hCs (And.intro hCp hCq))
 clear hCs hCp hCq HGV
 go_wp2_with fail
 generalize hW2:((w.alloc (.cells #[.int .i64 4,.int .i64 ee,.int .i64 aa,.int .i64 bb,.int .u16 src,.int .u16 dst,.int .u8 proto,.int .u16 id,.int .u8 off,.bool more,.int .u16 sport,.int .u16 dport,.slice dso dsn dsc,.slice (some ad) n cap] 42)).alloc (.cells C 5))=w2
 have HB2:Hid (Below (w.heap.size + 1) (w.alloc (.cells #[.int .i64 4,.int .i64 ee,.int .i64 aa,.int .i64 bb,.int .u16 src,.int .u16 dst,.int .u8 proto,.int .u16 id,.int .u8 off,.bool more,.int .u16 sport,.int .u16 dport,.slice dso dsn dsc,.slice (some ad) n cap] 42)) w2):=by rw [← hW2];exact (Below.refl _ _).alloc (by simp) _
 have HG2:Hid (w2.heap[w.heap.size + 1]?=some (.cells C 5 (0,0))):=by
  rw [← hW2]
  have h:=heap_alloc_new (w.alloc (.cells #[.int .i64 4,.int .i64 ee,.int .i64 aa,.int .i64 bb,.int .u16 src,.int .u16 dst,.int .u8 proto,.int .u16 id,.int .u8 off,.bool more,.int .u16 sport,.int .u16 dport,.slice dso dsn dsc,.slice (some ad) n cap] 42)) (.cells C 5)
  rw [World.size_alloc] at h
  exact h
 have hz2:w2.heap.size=w.heap.size + 2:=by rw [← hW2];simp
 clear hW2 heq
 have HPD:Hid (Has w2 (some ⟨w.heap.size + 1,0,none⟩) zs):=has_of_row HG2.out (fun j hj=>HC.out.2.1 j (by omega))
 refine (ftable_any (some ⟨w.heap.size + 1,0,none⟩) n (n + 8) zs w2 hzs HPD.out (by omega) HZB.out).mono ?_
 intro e w3 h3
 obtain ⟨g3,c3,rfl,ho3,hb3⟩:=TabPost.ok h3 hte
 have HO3:=hide ho3
 clear h3 ho3
 have HB3:=hide hb3
 have hz3:w2.heap.size≤w3.heap.size:=hb3.size
 have HBx3:Hid (Below (w.heap.size + 1) (w.alloc (.cells #[.int .i64 4,.int .i64 ee,.int .i64 aa,.int .i64 bb,.int .u16 src,.int .u16 dst,.int .u8 proto,.int .u16 id,.int .u8 off,.bool more,.int .u16 sport,.int .u16 dport,.slice dso dsn dsc,.slice (some ad) n cap] 42)) w3):=HB2.out.trans (HB3.out.mono (by omega))
 have cc:=box_cell HBx3.out
 have hzw:w.heap.size < w3.heap.size:=by omega
 clear hb3
 go_wp2_with fail
 refine (rtable_any (some ad) n cap zs w3 hzs (HD.out.below (below_old HBx3.out)) (by omega) HZB.out).mono ?_
 intro e w4 h4
 obtain ⟨g4,c4,rfl,ho4,hb4⟩:=TabPost.ok h4 hte
 have HO4:=hide ho4
 clear h4 ho4
 have HB4:=hide hb4
 have hz4:w3.heap.size≤w4.heap.size:=hb4.size
 have HBx4:Hid (Below (w.heap.size + 1) (w.alloc (.cells #[.int .i64 4,.int .i64 ee,.int .i64 aa,.int .i64 bb,.int .u16 src,.int .u16 dst,.int .u8 proto,.int .u16 id,.int .u8 off,.bool more,.int .u16 sport,.int .u16 dport,.slice dso dsn dsc,.slice (some ad) n cap] 42)) w4):=HBx3.out.trans (HB4.out.mono (by omega))
 have HG4:Hid (w4.heap[w.heap.size + 1]?=some (.cells C 5 (0,0))):=(HB4.out.block _ (by omega)).trans ((HB3.out.block _ (by omega)).trans HG2.out)
 clear cc hb4 hzw
 have cc:=box_cell HBx4.out
 have hzw:w.heap.size < w4.heap.size:=by omega
 go_wp2_with fail
 refine (clean_any (w.heap.size + 1) (some ad) n cap zs C w4 hzs (HD.out.below (below_old HBx4.out)) hn (fun b hb hz=>by obtain ⟨b2,o2,h1,h2,_⟩:=HD.out.2 hz;rw [h1] at hb;simp only [Option.some.injEq] at hb;subst hb;show b2 < _;omega) HG4.out HC.out.1 HC.out.2.1 HC.out.2.2).mono ?_
 rintro e w5 ⟨rfl,hg5⟩
 have HG5:=hide hg5
 have hz5:w4.heap.size≤w5.heap.size:=hg5.size
 have HBw5:Hid (Below w.heap.size w w5):=(below_old HBx4.out).grown hg5 (by omega) (by simp)
 clear cc hzw hg5
 have HO3':Hid (w5.ownsRow w2.heap.size 5 1 (.slice (some ⟨g3,0,none⟩) 31 c3) 31 ((tbl zs).map (Value.int .u8))):=World.ownsRow.kept (own_below HO3.out (own_lt HO3.out) HB4.out) HG5.out (.inr (by intro h;have:=(HO3.out.lt _ h).1;omega))
 have HO4':Hid (w5.ownsRow w3.heap.size 5 1 (.slice (some ⟨g4,0,none⟩) 31 c4) 31 ((tbl zs).map (Value.int .u8))):=World.ownsRow.kept HO4.out HG5.out (.inr (by intro h;have:=(HO4.out.lt _ h).1;omega))
 clear HO3 HO4
 have hlT:=tbl_len zs
 generalize hT:tbl zs=T
 rw [hT] at HO3' HO4' hlT
 clear hT hte
 have hcA:=conv_has (w:=w5) (owns_has HO3'.out).1 c3
 have hcB:=conv_has (w:=w5) (owns_has HO4'.out).1 c4
 rw [hlT] at hcA hcB
 clear hlT
 generalize strOfNums T=ss at *
 go_wp2_with fail
 refine (HBY0.out w5 _ 31 T HBw5.out (own_zero HO3'.out) (fun g hg=>by have:=(HO3'.out.lt g hg).1;omega) (by decide)).mono ?_
 rintro e w6 ⟨rfl,hB6⟩
 have HB6:=hide hB6
 clear hB6 hcA hcB
 go_wp2
 go_ret
 exact ⟨by simp,HB6.out⟩
theorem qch_se (wb:Nat) (ee aa bb src dst proto id off:Int) (more:Bool) (sport dport:Int) (dso:Option Addr) (dsn dsc:Nat) (ad:Addr) (n cap:Nat) (zs:List Int) (w:World) (Q:World→Prop) (HBY0:Hid (∀ (w5:World) (v:Value) (m:Nat) (zs':List Int),Below w.heap.size w w5→w5.ownsRow 0 5 1 v m (zs'.map (Value.int .u8))→(∀ g,v.ownBlock=some g→w.heap.size≤g)→m≤1048576→Calls Tryz.prog 30 #[.pointer (some ⟨wb,1,none⟩),v] w5 fun e w'=>e=.returned (.tuple #[])∧Q w')) (hzs:zs.length=n) (hd:Has w (some ad) zs) (hzb:∀ z ∈ zs,0≤z∧z≤255) (hn:n≤140737488351232) (hte:tE zs ≠ 0) :
  Calls Tryz.prog 18 #[.pointer (some ⟨wb,0,none⟩),.agg #[.int .i64 4,.int .i64 ee,.int .i64 aa,.int .i64 bb,.int .u16 src,.int .u16 dst,.int .u8 proto,.int .u16 id,.int .u8 off,.bool more,.int .u16 sport,.int .u16 dport,.slice dso dsn dsc,.slice (some ad) n cap]] w fun e w'=>e=.returned (.bool true)∧Q w':=by
 have HD:=hide hd
 have HZB:=hide hzb
 clear hd hzb
 have HGV:Hid (∀ w1,Has w1 (some ad) zs→Calls Tryz.prog 26 #[.slice (some ad) n cap] w1 fun e w'=>e=.returned (.slice (some ⟨w1.heap.size,0,none⟩) (n + 8) (n + 8))∧∃ C:Array Value,w'=w1.alloc (.cells C 5)∧C.size=n + 8∧(∀ j,j < n→C[j]?=some (.int .u8 (zs.getD j 0)))∧∀ j,n≤j→j < n + 8→C[j]?=some (.int .u8 77)):=fun w1 h=>given_any (some ad) n cap zs w1 hzs h hn
 have heq:=fun wx=>Lib.run_eql_slice_nil (P:=Tryz.prog) wx 38 5 (some ad) n cap 0 0 Tryz.underlying38
 go_enter Tryz.func18,Tryz.ntmps18
 go_wp2_with fail
 refine (HGV.out _ (HD.out.below ((Below.refl _ _).alloc (Nat.le_refl _) _))).mono ?_
 rintro e w1 ⟨rfl,C,rfl,hCs,hCp,hCq⟩
 have HC:=hide (And.intro hCs (And.intro hCp hCq))
 clear hCs hCp hCq HGV
 go_wp2_with fail
 generalize hW2:((w.alloc (.cells #[.int .i64 4,.int .i64 ee,.int .i64 aa,.int .i64 bb,.int .u16 src,.int .u16 dst,.int .u8 proto,.int .u16 id,.int .u8 off,.bool more,.int .u16 sport,.int .u16 dport,.slice dso dsn dsc,.slice (some ad) n cap] 42)).alloc (.cells C 5))=w2
 have HB2:Hid (Below (w.heap.size + 1) (w.alloc (.cells #[.int .i64 4,.int .i64 ee,.int .i64 aa,.int .i64 bb,.int .u16 src,.int .u16 dst,.int .u8 proto,.int .u16 id,.int .u8 off,.bool more,.int .u16 sport,.int .u16 dport,.slice dso dsn dsc,.slice (some ad) n cap] 42)) w2):=by rw [← hW2];exact (Below.refl _ _).alloc (by simp) _
 have HG2:Hid (w2.heap[w.heap.size + 1]?=some (.cells C 5 (0,0))):=by
  rw [← hW2]
  have h:=heap_alloc_new (w.alloc (.cells #[.int .i64 4,.int .i64 ee,.int .i64 aa,.int .i64 bb,.int .u16 src,.int .u16 dst,.int .u8 proto,.int .u16 id,.int .u8 off,.bool more,.int .u16 sport,.int .u16 dport,.slice dso dsn dsc,.slice (some ad) n cap] 42)) (.cells C 5)
  rw [World.size_alloc] at h
  exact h
 have hz2:w2.heap.size=w.heap.size + 2:=by rw [← hW2];simp
 clear hW2 heq
 have HPD:Hid (Has w2 (some ⟨w.heap.size + 1,0,none⟩) zs):=has_of_row HG2.out (fun j hj=>HC.out.2.1 j (by omega))
 refine (ftable_any (some ⟨w.heap.size + 1,0,none⟩) n (n + 8) zs w2 hzs HPD.out (by omega) HZB.out).mono ?_
 intro e w3 h3
 obtain ⟨rfl,hb3⟩:=TabPost.err h3 hte
 clear h3
 have HB3:=hide hb3
 have hz3:w2.heap.size≤w3.heap.size:=hb3.size
 have HBx3:Hid (Below (w.heap.size + 1) (w.alloc (.cells #[.int .i64 4,.int .i64 ee,.int .i64 aa,.int .i64 bb,.int .u16 src,.int .u16 dst,.int .u8 proto,.int .u16 id,.int .u8 off,.bool more,.int .u16 sport,.int .u16 dport,.slice dso dsn dsc,.slice (some ad) n cap] 42)) w3):=HB2.out.trans (HB3.out.mono (by omega))
 have cc:=box_cell HBx3.out
 have hzw:w.heap.size < w3.heap.size:=by omega
 clear hb3
 go_wp2_with fail
 refine (rtable_any (some ad) n cap zs w3 hzs (HD.out.below (below_old HBx3.out)) (by omega) HZB.out).mono ?_
 intro e w4 h4
 obtain ⟨rfl,hb4⟩:=TabPost.err h4 hte
 clear h4
 have HB4:=hide hb4
 have hz4:w3.heap.size≤w4.heap.size:=hb4.size
 have HBx4:Hid (Below (w.heap.size + 1) (w.alloc (.cells #[.int .i64 4,.int .i64 ee,.int .i64 aa,.int .i64 bb,.int .u16 src,.int .u16 dst,.int .u8 proto,.int .u16 id,.int .u8 off,.bool more,.int .u16 sport,.int .u16 dport,.slice dso dsn dsc,.slice (some ad) n cap] 42)) w4):=HBx3.out.trans (HB4.out.mono (by omega))
 have HG4:Hid (w4.heap[w.heap.size + 1]?=some (.cells C 5 (0,0))):=(HB4.out.block _ (by omega)).trans ((HB3.out.block _ (by omega)).trans HG2.out)
 clear cc hb4 hzw
 have cc:=box_cell HBx4.out
 have hzw:w.heap.size < w4.heap.size:=by omega
 go_wp2_with fail
 refine (clean_any (w.heap.size + 1) (some ad) n cap zs C w4 hzs (HD.out.below (below_old HBx4.out)) hn (fun b hb hz=>by obtain ⟨b2,o2,h1,h2,_⟩:=HD.out.2 hz;rw [h1] at hb;simp only [Option.some.injEq] at hb;subst hb;show b2 < _;omega) HG4.out HC.out.1 HC.out.2.1 HC.out.2.2).mono ?_
 rintro e w5 ⟨rfl,hg5⟩
 have HG5:=hide hg5
 have hz5:w4.heap.size≤w5.heap.size:=hg5.size
 have HBw5:Hid (Below w.heap.size w w5):=(below_old HBx4.out).grown hg5 (by omega) (by simp)
 clear cc hzw hg5
 have hcA:(convert 38 9 (.slice none 0 0)).run Tryz.prog w5=.ok (.string (strOfNums [])) w5:=conv_has (w:=w5) (ao:=none) (zs:=[]) ⟨fun _=>rfl,fun h=>absurd rfl h⟩ 0
 generalize tE zs=te at *
 go_wp2_with fail
 refine (HBY0.out w5 (.slice none 0 0) 0 [] HBw5.out (World.ownsRow_nil _ _ _ _) (by simp [Value.ownBlock]) (by decide)).mono ?_
 rintro e w6 ⟨rfl,hB6⟩
 have HB6:=hide hB6
 clear hB6 hcA
 go_wp2
 go_ret
 exact ⟨by simp,HB6.out⟩
theorem qch_ne (wb:Nat) (ee aa bb src dst proto id off:Int) (more:Bool) (sport dport:Int) (dso:Option Addr) (dsn dsc:Nat) (w:World) (Q:World→Prop) (HBY0:Hid (∀ (w5:World) (v:Value) (m:Nat) (zs':List Int),Below w.heap.size w w5→w5.ownsRow 0 5 1 v m (zs'.map (Value.int .u8))→(∀ g,v.ownBlock=some g→w.heap.size≤g)→m≤1048576→Calls Tryz.prog 30 #[.pointer (some ⟨wb,1,none⟩),v] w5 fun e w'=>e=.returned (.tuple #[])∧Q w')) (hte:tE [] ≠ 0) :
  Calls Tryz.prog 18 #[.pointer (some ⟨wb,0,none⟩),.agg #[.int .i64 4,.int .i64 ee,.int .i64 aa,.int .i64 bb,.int .u16 src,.int .u16 dst,.int .u8 proto,.int .u16 id,.int .u8 off,.bool more,.int .u16 sport,.int .u16 dport,.slice dso dsn dsc,.slice none 0 0]] w fun e w'=>e=.returned (.bool true)∧Q w':=by
 have HD:Hid (Has w none []):=⟨fun _=>rfl,fun h=>absurd rfl h⟩
 have HZB:Hid (∀ z ∈ ([]:List Int),0≤z∧z≤255):=by intro z hz;simp at hz
 have HGV:Hid (∀ w1,Has w1 none []→Calls Tryz.prog 26 #[.slice none 0 0] w1 fun e w'=>e=.returned (.slice (some ⟨w1.heap.size,0,none⟩) (0 + 8) (0 + 8))∧∃ C:Array Value,w'=w1.alloc (.cells C 5)∧C.size=0 + 8∧(∀ j,j < 0→C[j]?=some (.int .u8 (([]:List Int).getD j 0)))∧∀ j,0≤j→j < 0 + 8→C[j]?=some (.int .u8 77)):=fun w1 h=>given_any none 0 0 [] w1 rfl h (by decide)
 have heq:=fun wx=>Lib.run_eql_slice_nil (P:=Tryz.prog) wx 38 5 none 0 0 0 0 Tryz.underlying38
 go_enter Tryz.func18,Tryz.ntmps18
 go_wp2_with fail
 refine (HGV.out _ (HD.out.below ((Below.refl _ _).alloc (Nat.le_refl _) _))).mono ?_
 rintro e w1 ⟨rfl,C,rfl,hCs,hCp,hCq⟩
 have HC:=hide (And.intro hCs (And.intro hCp hCq))
 clear hCs hCp hCq HGV
 go_wp2_with fail
 generalize hW2:((w.alloc (.cells #[.int .i64 4,.int .i64 ee,.int .i64 aa,.int .i64 bb,.int .u16 src,.int .u16 dst,.int .u8 proto,.int .u16 id,.int .u8 off,.bool more,.int .u16 sport,.int .u16 dport,.slice dso dsn dsc,.slice none 0 0] 42)).alloc (.cells C 5))=w2
 have HB2:Hid (Below (w.heap.size + 1) (w.alloc (.cells #[.int .i64 4,.int .i64 ee,.int .i64 aa,.int .i64 bb,.int .u16 src,.int .u16 dst,.int .u8 proto,.int .u16 id,.int .u8 off,.bool more,.int .u16 sport,.int .u16 dport,.slice dso dsn dsc,.slice none 0 0] 42)) w2):=by rw [← hW2];exact (Below.refl _ _).alloc (by simp) _
 have HG2:Hid (w2.heap[w.heap.size + 1]?=some (.cells C 5 (0,0))):=by
  rw [← hW2]
  have h:=heap_alloc_new (w.alloc (.cells #[.int .i64 4,.int .i64 ee,.int .i64 aa,.int .i64 bb,.int .u16 src,.int .u16 dst,.int .u8 proto,.int .u16 id,.int .u8 off,.bool more,.int .u16 sport,.int .u16 dport,.slice dso dsn dsc,.slice none 0 0] 42)) (.cells C 5)
  rw [World.size_alloc] at h
  exact h
 have hz2:w2.heap.size=w.heap.size + 2:=by rw [← hW2];simp
 clear hW2 heq
 have HPD:Hid (Has w2 none []):=⟨fun _=>rfl,fun h=>absurd rfl h⟩
 refine (ftable_any none 0 0 [] w2 rfl HPD.out (by omega) HZB.out).mono ?_
 intro e w3 h3
 obtain ⟨rfl,hb3⟩:=TabPost.err h3 hte
 clear h3
 have HB3:=hide hb3
 have hz3:w2.heap.size≤w3.heap.size:=hb3.size
 have HBx3:Hid (Below (w.heap.size + 1) (w.alloc (.cells #[.int .i64 4,.int .i64 ee,.int .i64 aa,.int .i64 bb,.int .u16 src,.int .u16 dst,.int .u8 proto,.int .u16 id,.int .u8 off,.bool more,.int .u16 sport,.int .u16 dport,.slice dso dsn dsc,.slice none 0 0] 42)) w3):=HB2.out.trans (HB3.out.mono (by omega))
 have cc:=box_cell HBx3.out
 have hzw:w.heap.size < w3.heap.size:=by omega
 clear hb3
 go_wp2_with fail
 refine (rtable_any none 0 0 [] w3 rfl (HD.out.below (below_old HBx3.out)) (by omega) HZB.out).mono ?_
 intro e w4 h4
 obtain ⟨rfl,hb4⟩:=TabPost.err h4 hte
 clear h4
 have HB4:=hide hb4
 have hz4:w3.heap.size≤w4.heap.size:=hb4.size
 have HBx4:Hid (Below (w.heap.size + 1) (w.alloc (.cells #[.int .i64 4,.int .i64 ee,.int .i64 aa,.int .i64 bb,.int .u16 src,.int .u16 dst,.int .u8 proto,.int .u16 id,.int .u8 off,.bool more,.int .u16 sport,.int .u16 dport,.slice dso dsn dsc,.slice none 0 0] 42)) w4):=HBx3.out.trans (HB4.out.mono (by omega))
 have HG4:Hid (w4.heap[w.heap.size + 1]?=some (.cells C 5 (0,0))):=(HB4.out.block _ (by omega)).trans ((HB3.out.block _ (by omega)).trans HG2.out)
 clear cc hb4 hzw
 have cc:=box_cell HBx4.out
 have hzw:w.heap.size < w4.heap.size:=by omega
 go_wp2_with fail
 refine (clean_any (w.heap.size + 1) none 0 0 [] C w4 rfl (HD.out.below (below_old HBx4.out)) (by decide) (by simp) HG4.out HC.out.1 HC.out.2.1 HC.out.2.2).mono ?_
 rintro e w5 ⟨rfl,hg5⟩
 have HG5:=hide hg5
 have hz5:w4.heap.size≤w5.heap.size:=hg5.size
 have HBw5:Hid (Below w.heap.size w w5):=(below_old HBx4.out).grown hg5 (by omega) (by simp)
 clear cc hzw hg5
 have hcA:(convert 38 9 (.slice none 0 0)).run Tryz.prog w5=.ok (.string (strOfNums [])) w5:=conv_has (w:=w5) (ao:=none) (zs:=[]) ⟨fun _=>rfl,fun h=>absurd rfl h⟩ 0
 generalize tE []=te at *
 go_wp2_with fail
 refine (HBY0.out w5 (.slice none 0 0) 0 [] HBw5.out (World.ownsRow_nil _ _ _ _) (by simp [Value.ownBlock]) (by decide)).mono ?_
 rintro e w6 ⟨rfl,hB6⟩
 have HB6:=hide hB6
 clear hB6 hcA
 go_wp2
 go_ret
 exact ⟨by simp,HB6.out⟩
def ScriptIn (w:World) (ao:Option Addr) (N:Nat):Prop:=N=0∨∃ b o,ao=some ⟨b,o,none⟩∧Script w b o N
theorem Script.below {w w':World} {b o N:Nat} (h:Script w b o N) (hb:Below w.heap.size w w'):Script w' b o N:=by
 intro i hi
 obtain ⟨k,a1,a2,a3,a4,a5,a6,a7,a8,a9,a10,a11,a12,a13,a14,a15,a16,a17,a18,a19,hs⟩:=h i hi
 exact ⟨k,a1,a2,a3,a4,a5,a6,a7,a8,a9,a10,a11,a12,a13,a14,a15,a16,a17,a18,a19,hs.below hb⟩
theorem up_len (zs:List Int) (h:upC zs=0):(upP zs).data.length≤32:=by
 by_cases h12:zs.length < 12
 ·have:upC zs=2:=by
   unfold upC
   split
   ·simp at h12;omega
   ·rfl
  omega
 obtain ⟨h0,h1,h2,h3,h4,h5,h6,h7,h8,h9,h10,h11,r,rfl⟩:=split12 zs (by omega)
 simp only [upC,List.cons_append,List.nil_append] at h
 split at h
 ·omega
 split at h
 ·omega
 split at h
 ·omega
 split at h
 ·omega
 rename_i hw
 have hw:wfB h8 (h0 == 17) (spOf h8 r) (dpOf h8 r) (dtOf h8 r).length=true:=by simpa using hw
 simp only [upP,List.cons_append,List.nil_append]
 revert hw
 generalize (dtOf h8 r).length=L
 unfold wfB
 simp
 omega
end Go.Proofs.YtajphdppmdoalaaGreat
