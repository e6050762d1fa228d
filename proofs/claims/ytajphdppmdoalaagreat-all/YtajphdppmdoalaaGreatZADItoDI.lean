import Derived.Test.YtajphdppmdoalaaGreatZADPtoDH
set_option maxRecDepth 100000
set_option maxHeartbeats 6400000
set_option linter.unusedVariables false
namespace Go.Proofs.YtajphdppmdoalaaGreat
open Go.RowKit
theorem needs_any (KS:List Int) (gk q0:Nat) (w:World) (h5:KS[q0]?=some 5) (hl:KS.length≤1000) (hk:∀ (j:Nat) K,KS[j]?=some K→w.cell? ⟨gk,j,none⟩=some (.int .i64 K)) :
  Calls Tryz.prog 10 #[.slice (some ⟨gk,0,none⟩) KS.length KS.length] w fun e w'=>e=.returned (.bool true)∧w'=w:=by
 have HK:=hide hk
 have hq0:q0 < KS.length:=by
  by_cases hlt:q0 < KS.length
  ·exact hlt
  ·rw [List.getElem?_eq_none (by omega)] at h5
   simp at h5
 have H5:=hide h5
 clear hk h5
 generalize hNK:KS.length=NK at *
 go_enter Tryz.func10,Tryz.ntmps10
 go_wp2_with fail
 go_loop [3] (fun i=>∃ q:Nat,q≤q0∧i=.int .i64 q) (fun i=>NK - (intOf i).toNat)
 case atStart=>exact ⟨0,by omega,rfl⟩
 case round =>
  obtain ⟨q,hq,rfl⟩:=hrel
  obtain ⟨K,hK⟩:∃ K,KS[q]?=some K:=⟨_,List.getElem?_eq_getElem (by omega)⟩
  have ck:=HK.out q K hK
  have i1:(q:Int) < (NK:Int):=by omega
  by_cases h5:K=5
  ·subst h5
   go_wp2
   go_ret
   exact ⟨rfl,rfl⟩
  ·have hne:(K == 5)=false:=by simp [h5]
   have hq1:q < q0:=by
    rcases Nat.lt_or_ge q q0 with h | h
    ·exact h
    ·obtain rfl:q=q0:=by omega
     rw [H5.out] at hK
     simp only [Option.some.injEq] at hK
     exact absurd hK.symm h5
   clear hK
   go_wp2
   go_round
   case rel=>exact ⟨q + 1,by omega,by go_num⟩
   case measure=>simp [intOf];omega
theorem wd_start (w:World):Wd w (w.alloc (.cells #[.slice none 0 0,.slice none 0 0,.slice none 0 0,.slice none 0 0,.slice none 0 0,.slice none 0 0,.slice none 0 0,.int .i64 0] 34)) w.heap.size 0 0 (.slice none 0 0) (fun k=>k=w.heap.size) []:=by
 have hcol:∀ (e se:TypeId) (s:Nat) (f:Int→Nat→List Value),Col (w.alloc (.cells #[.slice none 0 0,.slice none 0 0,.slice none 0 0,.slice none 0 0,.slice none 0 0,.slice none 0 0,.slice none 0 0,.int .i64 0] 34)) (fun k=>k=w.heap.size) e se s f (.slice none 0 0) (.slice none 0 0) [] [] 0:=fun e se s f =>
  ⟨World.ownsRow_nil _ _ _ _,World.ownsRow_nil _ _ _ _,fun i u k hu=>by simp at hu,by simp [Value.ownBlock],by simp [Value.ownBlock]⟩
 refine ⟨⟨.slice none 0 0,.slice none 0 0,.slice none 0 0,.slice none 0 0,.slice none 0 0,.slice none 0 0,[],[],[],[],[],[],heap_alloc_new _ _,hcol _ _ _ _,hcol _ _ _ _,hcol _ _ _ _,by simp [Value.ownBlock],by simp [Value.ownBlock],by simp [Value.ownBlock],rfl,fun k hk=>by rw [hk];simp,⟨rfl,rfl,rfl⟩,by simp⟩,World.ownsRow_nil _ _ _ _,by simp [Value.ownBlock],fun k hk=>by rw [hk];exact Nat.le_refl _,fun i p hp=>by simp at hp,fun i p hp=>by simp at hp,fun i j p q _ hp=>by simp at hp,by simp,(Below.refl _ _).alloc (Nat.le_refl _) _⟩
theorem any_take (KS:List Int) (kind:Int) (k:Nat) (K:Int) (h:KS[k]?=some K):(KS.take (k + 1)).any (fun z=>kind == z)=((KS.take k).any (fun z=>kind == z) || (kind == K)):=by
 rw [List.take_add_one,h,List.any_append]
 simp
theorem plays_many (KS:List Int) (q0:Nat) (h5:KS[q0]?=some 5) (hl:KS.length≤1000) (hdo:∀ K ∈ KS,StepW K) (b o N cap gk:Nat) (w:World) (hS:Script w b o N) (hN:N * 96≤140737488351232) (hk:∀ (j:Nat) K,KS[j]?=some K→w.cell? ⟨gk,j,none⟩=some (.int .i64 K)) (hgk:gk < w.heap.size) :
  Calls Tryz.prog 9 #[.slice (some ⟨b,o,none⟩) N cap,.slice (some ⟨gk,0,none⟩) KS.length KS.length] w fun e w'=>e=.returned (.bool true)∧Below w.heap.size w w':=by
 have HS:=hide hS
 have HD:=hide hdo
 have HK:=hide hk
 have HN:Hid (∀ O,Calls Tryz.prog 10 #[.slice (some ⟨gk,0,none⟩) KS.length KS.length] (w.alloc O) fun e w'=>e=.returned (.bool true)∧w'=(w.alloc O)):=fun O=>needs_any KS gk q0 _ h5 hl (fun j K hj=>(World.cell?_alloc_past O _ _ hgk).trans (hk j K hj))
 have HBG:=hide (world_begins 0 2 3 0 0 0 0 0 false 0 0 none 0 0 none 0 0 w _ w.heap.size 0 0 _ _ [] (wd_start w) (by decide))
 clear hS hdo hk h5
 go_enter Tryz.func9,Tryz.ntmps9
 go_wp2_with fail
 refine (HN.out _).mono ?_
 rintro e w1 ⟨rfl,rfl⟩
 go_wp2_with fail
 refine HBG.out.mono ?_
 rintro e w2 ⟨rfl,vl,L,hW,hL⟩
 have hL1:L.length=1:=by
  rcases hL with ⟨_,h⟩ | ⟨h,_⟩
  ·simpa using h
  ·exact absurd (by decide) h
 obtain ⟨gl,cl,hvl⟩:=own_some hW.row (by omega)
 rw [hL1] at hvl
 have cV:w2.cell? ⟨w.heap.size,0,none⟩=some (.slice (some ⟨gl,0,none⟩) 1 cl):=by rw [← hvl];exact hW.book.cell
 have hwb:w.heap.size < w2.heap.size:=hW.book.flt.2 _ hW.book.flt.1
 have HW:=hide hW
 clear hW hL hvl HN HBG
 go_wp2_with fail
 clear cV
 go_loopw [8] (fun i8 wr=>∃ i:Nat,i≤N∧i8=.int .i64 i∧Hid (∃ c vl G L,c≤i∧0 < L.length∧Wd w wr w.heap.size c (i + 1) vl G L)) (fun i8 _=>N - (intOf i8).toNat)
 case atStart=>exact ⟨0,by omega,rfl,⟨0,vl,_,L,by omega,by omega,HW.out⟩⟩
 case round =>
  obtain ⟨i,hi,rfl,HI⟩:=hrel
  by_cases hlt:i < N
  ·obtain ⟨kind,ee,aa,bb,src,dst,proto,id,off,more,sport,dport,ao,n,dcap,zs,so,sn,sc,ys,hst⟩:=HS.out i hlt
   have HB:Hid (Below w.heap.size w wr):=by obtain ⟨_,_,_,_,_,_,h⟩:=HI.out;exact h.bel
   have hst':=hst.below HB.out
   have HST:=hide hst
   have ck:∀ (j:Nat) K,KS[j]?=some K→wr.cell? ⟨gk,j,none⟩=some (.int .i64 K):=fun j K hj=>(HB.out.cell (p:=⟨gk,j,none⟩) hgk).trans (HK.out j K hj)
   have HCK:=hide ck
   have s0:wr.cell? ⟨b,o + i * 14,none⟩=some (.int .i64 kind):=hst'.cell 0 _ rfl
   have s1:=hst'.cell 1 _ rfl
   have s2:=hst'.cell 2 _ rfl
   have s3:=hst'.cell 3 _ rfl
   have s4:=hst'.cell 4 _ rfl
   have s5:=hst'.cell 5 _ rfl
   have s6:=hst'.cell 6 _ rfl
   have s7:=hst'.cell 7 _ rfl
   have s8:=hst'.cell 8 _ rfl
   have s9:=hst'.cell 9 _ rfl
   have s10:=hst'.cell 10 _ rfl
   have s11:=hst'.cell 11 _ rfl
   have s12:=hst'.cell 12 _ rfl
   have s13:=hst'.cell 13 _ rfl
   clear hst hst' ck
   go_wp2_with fail
   go_loopw [9,10] (fun in9 k10 wi=>∃ k:Nat,k≤KS.length∧k10=.int .i64 k∧in9=.bool ((KS.take k).any (fun z=>kind == z))∧∃ m,wi=wr.drewN m) (fun _ k10 _=>KS.length - (intOf k10).toNat)
   case atStart=>exact ⟨0,by omega,rfl,by simp,0,rfl⟩
   case round =>
    obtain ⟨k,hk,rfl,hin,m,rfl⟩:=hrel
    by_cases hkl:k < KS.length
    ·obtain ⟨K,hK⟩:∃ K,KS[k]?=some K:=⟨_,List.getElem?_eq_getElem hkl⟩
     have ck:=HCK.out k K hK
     have hstep:=any_take KS kind k K hK
     have i1:(i:Int) < (N:Int):=by omega
     have k1:(k:Int) < (KS.length:Int):=by omega
     clear hK
     generalize (KS.take k).any (fun z=>kind == z)=bk at *
     subst hin
     cases bk
     ·go_wp2_with fail
      go_quiet (fail)
      go_wp2
      go_roundw
      case rel=>exact ⟨k + 1,by omega,by go_num,by rw [hstep];simp,_,rfl⟩
      case measure=>simp [intOf];omega
     ·go_wp2_with fail
      go_quiet (fail)
      go_wp2
      go_roundw
      case rel=>exact ⟨k + 1,by omega,by go_num,by rw [hstep];simp,_,rfl⟩
      case measure=>simp [intOf];omega
    ·obtain rfl:k=KS.length:=by omega
     rw [List.take_length] at hin
     cases hany:KS.any (fun z=>kind == z)
     ·rw [hany] at hin
      subst hin
      go_wp2
      go_roundw
      case rel =>
       obtain ⟨c,vl',G',L',h1,h2,h3⟩:=HI.out
       exact ⟨i + 1,by omega,by go_num,⟨c,vl',G',L',by omega,h2,(h3.mono (Nat.le_succ _)).below (below_drewN (Below.refl _ _) m)⟩⟩
      case measure=>simp [intOf];omega
     ·rw [hany] at hin
      subst hin
      have hmem:kind ∈ KS:=by
       obtain ⟨z,hz,hzk⟩:=List.any_eq_true.1 hany
       have:kind=z:=by simpa using hzk
       rw [this]
       exact hz
      clear hany
      have i1:(i:Int) < (N:Int):=by omega
      obtain ⟨c,vl',G',L',hc1,hL1',hW1⟩:=HI.out
      have HC:=hide (HD.out kind hmem w (wr.drewN m) w.heap.size c (i + 1) vl' G' L' b (o + i * 14) ee aa bb src dst proto id off more sport dport ao n dcap zs so sn sc ys HST.out (hW1.below (below_drewN (Below.refl _ _) m)) hL1' (by omega) (by omega))
      clear hW1
      go_wp2_with fail
      refine HC.out.mono ?_
      rintro e w3 ⟨rfl,c',vl2,G2,L2,hc2,hl2,hW2⟩
      have HW2:=hide hW2
      obtain ⟨vbs,ves,vfs,vkb,vke,vkf,BS,ES,FS,KB,KE,KF,hB⟩:=hW2.book
      have HKP:=hide (kept_all w.heap.size c' vl2 vbs ves vfs vkb vke vkf G2 BS ES FS KB KE KF w3 hB (by omega))
      clear hB hW2 HC s0 s1 s2 s3 s4 s5 s6 s7 s8 s9 s10 s11 s12 s13 HST HCK HB
      go_wp2_with fail
      refine HKP.out.mono ?_
      rintro e w4 ⟨rfl,hb4⟩
      go_wp2
      go_roundw
      case rel=>exact ⟨i + 1,by omega,by go_num,⟨c',vl2,G2,L2,by omega,by omega,HW2.out.below hb4⟩⟩
      case measure=>simp [intOf];omega
  ·go_wp2
   go_ret
   obtain ⟨_,_,_,_,_,_,h⟩:=HI.out
   exact ⟨rfl,h.bel⟩
theorem plays_void (KS:List Int) (q0:Nat) (h5:KS[q0]?=some 5) (hl:KS.length≤1000) (ao:Option Addr) (cap gk:Nat) (w:World) (hk:∀ (j:Nat) K,KS[j]?=some K→w.cell? ⟨gk,j,none⟩=some (.int .i64 K)) (hgk:gk < w.heap.size) :
  Calls Tryz.prog 9 #[.slice ao 0 cap,.slice (some ⟨gk,0,none⟩) KS.length KS.length] w fun e w'=>e=.returned (.bool true)∧Below w.heap.size w w':=by
 have HN:Hid (∀ O,Calls Tryz.prog 10 #[.slice (some ⟨gk,0,none⟩) KS.length KS.length] (w.alloc O) fun e w'=>e=.returned (.bool true)∧w'=(w.alloc O)):=fun O=>needs_any KS gk q0 _ h5 hl (fun j K hj=>(World.cell?_alloc_past O _ _ hgk).trans (hk j K hj))
 have HBG:=hide (world_begins 0 2 3 0 0 0 0 0 false 0 0 none 0 0 none 0 0 w _ w.heap.size 0 0 _ _ [] (wd_start w) (by decide))
 clear hk h5
 go_enter Tryz.func9,Tryz.ntmps9
 go_wp2_with fail
 refine (HN.out _).mono ?_
 rintro e w1 ⟨rfl,rfl⟩
 go_wp2_with fail
 refine HBG.out.mono ?_
 rintro e w2 ⟨rfl,vl,L,hW,hL⟩
 have hL1:L.length=1:=by
  rcases hL with ⟨_,h⟩ | ⟨h,_⟩
  ·simpa using h
  ·exact absurd (by decide) h
 obtain ⟨gl,cl,hvl⟩:=own_some hW.row (by omega)
 rw [hL1] at hvl
 have cV:w2.cell? ⟨w.heap.size,0,none⟩=some (.slice (some ⟨gl,0,none⟩) 1 cl):=by rw [← hvl];exact hW.book.cell
 have hwb:w.heap.size < w2.heap.size:=hW.book.flt.2 _ hW.book.flt.1
 have HW:Hid (Below w.heap.size w w2):=hW.bel
 clear hW hL hvl HN HBG
 go_wp2_with fail
 refine wp_loop_rounds 1 ?_
 rw [rounds_succ]
 go_wp2
 go_ret
 exact ⟨rfl,HW.out⟩
end Go.Proofs.YtajphdppmdoalaaGreat
