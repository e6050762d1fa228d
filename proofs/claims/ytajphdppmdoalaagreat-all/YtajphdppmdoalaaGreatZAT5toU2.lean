import Derived.Test.YtajphdppmdoalaaGreatZAJ6toT4
import Derived.Deep.OwnRows
set_option maxRecDepth 100000
set_option maxHeartbeats 6400000
set_option linter.unusedVariables false
namespace Go.Proofs.YtajphdppmdoalaaGreat
open Go.RowKit
theorem made_size (z:Value) (n:Nat):(madeCells #[z] n).size=n:=by simp [madeCells]
theorem given_copy (ao:Option Addr) (n cap:Nat) (zs:List Int) (Z:Array Value) (w:World) (hl:zs.length=n) (hd:Has w ao zs) (hZ:Z.size=n + 8) :
  ∃ C:Array Value,Sem.run Tryz.prog (Builtin.copy_ #[38,38] 3 #[.slice (some ⟨w.heap.size,0,none⟩) (n + 8) (n + 8),.slice ao n cap]) (w.alloc (.cells Z 5))=.ok (goInt n) (w.alloc (.cells C 5))∧C.size=n + 8∧∀ j,j < n→C[j]?=some (.int .u8 (zs.getD j 0)):=by
 by_cases hn:n=0
 ·subst hn
  refine ⟨Z,?_,hZ,by intro j hj;omega⟩
  exact run_copy_none (P:=Tryz.prog) _ 38 38 3 5 _ _ _ _ _ _ Tryz.underlying38 (by kernel_rfl) (by simp)
 ·obtain ⟨b,o,rfl,hlt,hc⟩:=hd.2 (by intro h;subst h;simp at hl;omega)
  refine ⟨((zs.map (Value.int .u8)) ++ Z.toList.drop n).toArray,?_,by simp [hl,hZ],?_⟩
  ·have h:=run_copy_row (P:=Tryz.prog) (w.alloc (.cells Z 5)) 38 38 3 5 w.heap.size 0 (n + 8) (n + 8) ⟨b,o,none⟩ n cap Z 5 (zs.map (Value.int .u8)) Tryz.underlying38 (by kernel_rfl) (heap_alloc_new _ _) (by simp [hl]) ?_ (by simp [hl,hZ]) (ints_oneCell _ _)
   ·rw [h,alloc_setRow]
    simp [hl]
   ·exact Has.cells (hd.below ((Below.refl _ _).alloc (Nat.le_refl _) _))
  ·intro j hj
   rw [List.getElem?_toArray,List.getElem?_append_left (by simp [hl];exact hj),List.getElem?_map,List.getElem?_eq_getElem (by omega),List.getD_eq_getElem?_getD,List.getElem?_eq_getElem (by omega)]
   rfl
theorem given_any (ao:Option Addr) (n cap:Nat) (zs:List Int) (w:World) (hl:zs.length=n) (hd:Has w ao zs) (hn:n≤140737488351232) :
  Calls Tryz.prog 26 #[.slice ao n cap] w fun e w'=>e=.returned (.slice (some ⟨w.heap.size,0,none⟩) (n + 8) (n + 8))∧∃ C:Array Value,w'=w.alloc (.cells C 5)∧C.size=n + 8∧(∀ j,j < n→C[j]?=some (.int .u8 (zs.getD j 0)))∧∀ j,n≤j→j < n + 8→C[j]?=some (.int .u8 77):=by
 obtain ⟨C0,hcp,hs0,hp0⟩:=given_copy ao n cap zs (madeCells #[.int .u8 0] (n + 8)) w hl hd (made_size _ _)
 have hmk:=run_make_row' (P:=Tryz.prog) 38 5 (.int .u8 0) 1 Tryz.underlying38 Tryz.info5 rfl .i64 .i64 (n + 8) (by omega) (by omega)
 rw [show ((n + 8:Nat):Int)=(n:Int) + 8 from by omega] at hmk
 generalize madeCells #[.int .u8 0] (n + 8)=Z at *
 have HS0:=hide hs0
 have HP0:=hide hp0
 clear hs0 hp0 hd hl
 go_enter Tryz.func26,Tryz.ntmps26
 go_wp2_with fail
 go_loopw [4] (fun i wr=>∃ (q:Nat) (C:Array Value),q≤8∧i=.int .i64 ((n:Int) + q)∧wr=w.alloc (.cells C 5)∧Hid (C.size=n + 8∧(∀ j,j < n→C[j]?=some (.int .u8 (zs.getD j 0)))∧∀ j,n≤j→j < n + q→C[j]?=some (.int .u8 77)))
  (fun i _=>n + 8 - (intOf i).toNat)
 case atStart=>exact ⟨0,C0,by omega,by simp,rfl,HS0.out,HP0.out,fun j h1 h2=>by omega⟩
 case round =>
  obtain ⟨q,C,hq,rfl,rfl,HC⟩:=hrel
  clear hcp hmk
  by_cases hlt:q < 8
  ·have hcell:C[n + q]?=some (C[n + q]'(by have:=HC.out.1;omega)):=Array.getElem?_eq_getElem (by have:=HC.out.1;omega)
   generalize C[n + q]'(by have:=HC.out.1;omega)=old at hcell
   go_wp2
   go_roundw
   case rel =>
    refine ⟨q + 1,C.setIfInBounds (n + q) (.int .u8 77),by omega,by go_num,rfl,?_,?_,?_⟩
    ·rw [Array.size_setIfInBounds];exact HC.out.1
    ·intro j hj
     rw [Array.getElem?_setIfInBounds,if_neg (by omega)]
     exact HC.out.2.1 j hj
    ·intro j h1 h2
     rw [Array.getElem?_setIfInBounds]
     by_cases he:n + q=j
     ·rw [if_pos he,if_pos (by have:=HC.out.1;omega)]
     ·rw [if_neg he];exact HC.out.2.2 j h1 (by omega)
   case measure=>simp [intOf];omega
  ·obtain rfl:q=8:=by omega
   go_wp2
   go_ret
   exact ⟨rfl,C,rfl,HC.out⟩
theorem grown_drewN {a b:World} {r:Option Nat} (h:a.grownBy b r) (m:Nat):a.grownBy (b.drewN m) r:=grown_trans h ⟨rfl,rfl,rfl,Nat.le_refl _,fun _ _ _=>rfl⟩
theorem grown_set {w:World} {g j:Nat} {x:Value}:w.grownBy (w.setCell ⟨g,j,none⟩ x) (some g) :=
 ⟨rfl,rfl,rfl,by simp,fun k hk hne=>Below.heap_setCell _ _ _ _ (by intro h;exact hne (by simp [h]))⟩
theorem clean_any (ga:Nat) (ao:Option Addr) (n cap:Nat) (zs:List Int) (C:Array Value) (w:World) (hl:zs.length=n) (hd:Has w ao zs) (hn:n≤140737488351232) (hlt0:∀ b,ao=some b→zs ≠ []→b.block < ga)
  (hga:w.heap[ga]?=some (.cells C 5 (0,0))) (hs:C.size=n + 8) (hp:∀ j,j < n→C[j]?=some (.int .u8 (zs.getD j 0))) (hq:∀ j,n≤j→j < n + 8→C[j]?=some (.int .u8 77)) :
  Calls Tryz.prog 29 #[.slice (some ⟨ga,0,none⟩) (n + 8) (n + 8),.slice ao n cap] w fun e w'=>e=.returned (.bool true)∧w.grownBy w' (some ga):=by
 have HF:=hide (And.intro hl (And.intro hd (And.intro hlt0 (And.intro hs (And.intro hp hq)))))
 have HGA:=hide hga
 clear hl hd hlt0 hga hs hp hq
 go_enter Tryz.func29,Tryz.ntmps29
 go_wp2_with fail
 go_loopw [5,6] (fun s i wr=>∃ (q:Nat) (C':Array Value),q≤n + 8∧i=.int .i64 q∧s=.bool true∧Hid (wr.heap[ga]?=some (.cells C' 5 (0,0)))∧Hid (C'.size=n + 8∧∀ j,q≤j→C'[j]?=C[j]?)∧Hid (w.grownBy wr (some ga)))
  (fun _ i _=>n + 8 - (intOf i).toNat)
 case atStart=>exact ⟨0,C,by omega,rfl,rfl,HGA.out,⟨HF.out.2.2.2.1,fun _ _=>rfl⟩,World.grownBy.refl _ _⟩
 case round =>
  obtain ⟨q,C',hq,rfl,rfl,HG,HC,HW⟩:=hrel
  by_cases hlt:q < n + 8
  ·have rel:∀ (x:Value) (m:Nat),∃ (q':Nat) (C'':Array Value),q'≤n + 8∧Value.int .i64 ((q:Int) + 1)=.int .i64 q'∧Value.bool true=.bool true∧Hid (((wr.setCell ⟨ga,q,none⟩ (.int .u8 99)).drewN m).heap[ga]?=some (.cells C'' 5 (0,0)))∧Hid (C''.size=n + 8∧∀ j,q'≤j→C''[j]?=C[j]?)∧Hid (w.grownBy ((wr.setCell ⟨ga,q,none⟩ (.int .u8 99)).drewN m) (some ga)):=by
    intro x m
    refine ⟨q + 1,C'.setIfInBounds q (.int .u8 99),by omega,by go_num,rfl,row_setCell HG.out _,⟨?_,?_⟩,grown_drewN (grown_trans HW.out grown_set) m⟩
    ·rw [Array.size_setIfInBounds];exact HC.out.1
    ·intro j hj
     rw [Array.getElem?_setIfInBounds,if_neg (by omega)]
     exact HC.out.2 j (by omega)
   have REL:=hide rel
   clear rel
   have f0:=arr_frozen HG.out q
   by_cases hqn:q < n
   ·have c0:wr.cell? ⟨ga,q,none⟩=some (.int .u8 (zs.getD q 0)):=by rw [arr_cell HG.out,HC.out.2 q (Nat.le_refl _)];exact HF.out.2.2.2.2.1 q hqn
    obtain ⟨hl,hd,hlt0,_⟩:=HF.out
    obtain ⟨b,o,rfl,hbz,hbc⟩:=hd.2 (by intro h;subst h;simp at hl;omega)
    have hbg:b < ga:=hlt0 _ rfl (by intro h;subst h;simp at hl;omega)
    have c1:wr.cell? ⟨b,o + q,none⟩=some (.int .u8 (zs.getD q 0)):=HW.out.cell (hbc q (by omega)) (by simp;omega)
    generalize zs.getD q 0=z at c0 c1
    have i1:(q:Int) < (n:Int):=by omega
    have i2:(q:Int) < (n:Int) + 8:=by omega
    clear hd hlt0 hbc hl
    go_wp2_with fail
    go_quiet (fail)
    go_wp2
    go_roundw
    case rel =>
     obtain ⟨q',C'',h1,h2,_,h3,h4,h5⟩:=REL.out (.int .u8 0) nq
     exact ⟨q',C'',h1,h2,rfl,h3,h4,h5⟩
    case measure=>simp [intOf];omega
   ·have c0:wr.cell? ⟨ga,q,none⟩=some (.int .u8 77):=by rw [arr_cell HG.out,HC.out.2 q (Nat.le_refl _)];exact HF.out.2.2.2.2.2 q (by omega) hlt
    go_wp2
    go_roundw
    case rel =>
     obtain ⟨q',C'',h1,h2,_,h3,h4,h5⟩:=REL.out (.int .u8 0) 0
     exact ⟨q',C'',h1,h2,rfl,h3,h4,h5⟩
    case measure=>simp [intOf];omega
  ·go_wp2
   go_ret
   exact ⟨rfl,HW.out⟩
theorem formed_any (src dst proto id off:Int) (more:Bool) (sport dport:Int) (ao:Option Addr) (n cap:Nat) (w:World) (hoff0:0≤off) (hn:n≤maxLen) :
  Calls Tryz.prog 61 #[.agg #[.int .u16 src,.int .u16 dst,.int .u8 proto,.int .u16 id,.int .u8 off,.bool more,.int .u16 sport,.int .u16 dport,.slice ao n cap]] w fun e w'=>e=.returned (.bool (wfB off more sport dport n))∧∃ o,w'=w.alloc o:=by
 unfold maxLen at hn
 go_enter Tryz.func61,Tryz.ntmps61
 go_wp2
 all_goals
  go_ret
  refine ⟨ret_bool ?_,_,rfl⟩
  go_light
  simp_all [wfB]
  try first | omega | (rw [Bool.eq_iff_iff];simp;omega) | (intros;omega)
theorem two_any (n:Int) (w:World) (h0:0≤n) (h:n≤65535) :
  Calls Tryz.prog 62 #[.int .i64 n] w fun e w'=>e=.returned (.slice (some ⟨w.heap.size,0,none⟩) 2 2)∧w'=w.alloc (.cells #[.int .u8 (n / 256),.int .u8 (n % 256)] 5):=by
 go_enter Tryz.func62,Tryz.ntmps62
 go_wp2
 go_ret
 exact ⟨rfl,rfl⟩
theorem number_any (g o n cap at':Nat) (x y:Int) (w:World) (hx:0≤x∧x≤255) (hy:0≤y∧y≤255) (hat:at' + 1 < n) (hn:n≤9223372036854775807)
  (c0:w.cell? ⟨g,o + at',none⟩=some (.int .u8 x)) (c1:w.cell? ⟨g,o + (at' + 1),none⟩=some (.int .u8 y)) :
  Calls Tryz.prog 65 #[.slice (some ⟨g,o,none⟩) n cap,.int .i64 at'] w fun e w'=>e=.returned (.int .i64 (x * 256 + y))∧∃ m,w'=w.drewN m:=by
 have i1:(at':Int) < (n:Int):=by omega
 have i2:(at':Int) + 1 < (n:Int):=by omega
 go_enter Tryz.func65,Tryz.ntmps65
 go_wp2_with fail
 go_quiet (fail)
 go_wp2
 go_ret
 exact ⟨ret_int (by omega),_,rfl⟩
theorem number_int (g o n cap at':Nat) (a x y:Int) (ha:a=(at':Int)) (w:World) (hx:0≤x∧x≤255) (hy:0≤y∧y≤255) (hat:at' + 1 < n) (hn:n≤9223372036854775807)
  (c0:w.cell? ⟨g,o + at',none⟩=some (.int .u8 x)) (c1:w.cell? ⟨g,o + (at' + 1),none⟩=some (.int .u8 y)) :
  Calls Tryz.prog 65 #[.slice (some ⟨g,o,none⟩) n cap,.int .i64 a] w fun e w'=>e=.returned (.int .i64 (x * 256 + y))∧∃ m,w'=w.drewN m:=by
 subst ha
 exact number_any g o n cap at' x y w hx hy hat hn c0 c1
theorem sum_any (g o n cap:Nat) (h0 h1 h2 h3 h4 h5 h6 h7 h8 h9:Int) (r:List Int) (w:World) (hd:Has w (some ⟨g,o,none⟩) ([h0,h1,h2,h3,h4,h5,h6,h7,h8,h9] ++ r)) (hn10:10≤n) (hn:n≤9223372036854775807) (b0:0≤h0∧h0≤255) (b1:0≤h1∧h1≤255) (b2:0≤h2∧h2≤255) (b3:0≤h3∧h3≤255) (b4:0≤h4∧h4≤255) (b5:0≤h5∧h5≤255) (b6:0≤h6∧h6≤255) (b7:0≤h7∧h7≤255) (b8:0≤h8∧h8≤255) (b9:0≤h9∧h9≤255) :
  Calls Tryz.prog 63 #[.slice (some ⟨g,o,none⟩) n cap] w fun e w'=>e=.returned (.int .i64 (csum h0 h1 h2 h3 h4 h5 h6 h7 h8 h9))∧∃ m,w'=w.drewN m:=by
 obtain ⟨g',o',he,_,hc⟩:=hd.2 (by simp)
 simp only [Option.some.injEq,Addr.mk.injEq] at he
 obtain ⟨rfl,rfl,_⟩:=he
 have e0:Hid (∀ m,(w.drewN m).cell? ⟨g,o + 0,none⟩=some (.int .u8 h0)):=fun m=>by simpa using hc 0 (by simp)
 have e1:Hid (∀ m,(w.drewN m).cell? ⟨g,o + 1,none⟩=some (.int .u8 h1)):=fun m=>by simpa using hc 1 (by simp)
 have e2:Hid (∀ m,(w.drewN m).cell? ⟨g,o + 2,none⟩=some (.int .u8 h2)):=fun m=>by simpa using hc 2 (by simp)
 have e3:Hid (∀ m,(w.drewN m).cell? ⟨g,o + 3,none⟩=some (.int .u8 h3)):=fun m=>by simpa using hc 3 (by simp)
 have e4:Hid (∀ m,(w.drewN m).cell? ⟨g,o + 4,none⟩=some (.int .u8 h4)):=fun m=>by simpa using hc 4 (by simp)
 have e5:Hid (∀ m,(w.drewN m).cell? ⟨g,o + 5,none⟩=some (.int .u8 h5)):=fun m=>by simpa using hc 5 (by simp)
 have e6:Hid (∀ m,(w.drewN m).cell? ⟨g,o + 6,none⟩=some (.int .u8 h6)):=fun m=>by simpa using hc 6 (by simp)
 have e7:Hid (∀ m,(w.drewN m).cell? ⟨g,o + 7,none⟩=some (.int .u8 h7)):=fun m=>by simpa using hc 7 (by simp)
 have e8:Hid (∀ m,(w.drewN m).cell? ⟨g,o + 8,none⟩=some (.int .u8 h8)):=fun m=>by simpa using hc 8 (by simp)
 have e9:Hid (∀ m,(w.drewN m).cell? ⟨g,o + 9,none⟩=some (.int .u8 h9)):=fun m=>by simpa using hc 9 (by simp)
 clear hc hd
 go_enter Tryz.func63,Tryz.ntmps63
 go_wp2_with fail
 go_loopw [3,4,5] (fun s i _ wr=>∃ k:Nat,k≤5∧i=.int .i64 (2 * (k:Int))∧s=.int .i64 (tk h0 h1 h2 h3 h4 h5 h6 h7 h8 h9 k)∧∃ m,wr=w.drewN m)
  (fun _ i _ _=>10 - (intOf i).toNat)
 case atStart=>exact ⟨0,by omega,rfl,rfl,0,rfl⟩
 case round =>
  obtain ⟨k,hk,rfl,rfl,m,rfl⟩:=hrel
  by_cases hk5:k=5
  ·subst hk5
   have hb:0≤tk h0 h1 h2 h3 h4 h5 h6 h7 h8 h9 5∧tk h0 h1 h2 h3 h4 h5 h6 h7 h8 h9 5≤1000000:=by simp only [tk];omega
   have HC:Hid (csum h0 h1 h2 h3 h4 h5 h6 h7 h8 h9=65535 - norm (tk h0 h1 h2 h3 h4 h5 h6 h7 h8 h9 5)):=rfl
   generalize tk h0 h1 h2 h3 h4 h5 h6 h7 h8 h9 5=t at *
   by_cases ht:t=0
   ·subst ht
    go_wp2
    go_ret
    exact ⟨ret_int (by rw [HC.out];rfl),_,rfl⟩
   ·have ht':(t == 0)=false:=by simpa using ht
    go_wp2
    go_ret
    refine ⟨ret_int ?_,_,rfl⟩
    rw [HC.out,norm,if_neg ht]
  ·rcases (show k=0∨k=1∨k=2∨k=3∨k=4 by omega) with rfl | rfl | rfl | rfl | rfl
   ·have hb:0≤tk h0 h1 h2 h3 h4 h5 h6 h7 h8 h9 0∧tk h0 h1 h2 h3 h4 h5 h6 h7 h8 h9 0≤1000000:=by simp only [tk];omega
    have HT:Hid (tk h0 h1 h2 h3 h4 h5 h6 h7 h8 h9 0 + (h0 * 256 + h1)=tk h0 h1 h2 h3 h4 h5 h6 h7 h8 h9 1):=by show _=_;simp [tk]
    generalize tk h0 h1 h2 h3 h4 h5 h6 h7 h8 h9 0=t at *
    go_wp2_with (first | (go_at_call 65;refine (number_int g o n cap 0 _ h0 h1 (by omega) _ b0 b1 (by omega) hn (e0.out _) (e1.out _)).mono ?_;rintro e w' ⟨rfl,m',rfl⟩))
    go_roundw
    case rel=>exact ⟨1,by omega,by go_num,by rw [← HT.out],_,rfl⟩
    case measure=>simp [intOf]
   ·have hb:0≤tk h0 h1 h2 h3 h4 h5 h6 h7 h8 h9 1∧tk h0 h1 h2 h3 h4 h5 h6 h7 h8 h9 1≤1000000:=by simp only [tk];omega
    have HT:Hid (tk h0 h1 h2 h3 h4 h5 h6 h7 h8 h9 1 + (h2 * 256 + h3)=tk h0 h1 h2 h3 h4 h5 h6 h7 h8 h9 2):=by show _=_;simp [tk]
    generalize tk h0 h1 h2 h3 h4 h5 h6 h7 h8 h9 1=t at *
    go_wp2_with (first | (go_at_call 65;refine (number_int g o n cap 2 _ h2 h3 (by omega) _ b2 b3 (by omega) hn (e2.out _) (e3.out _)).mono ?_;rintro e w' ⟨rfl,m',rfl⟩))
    go_roundw
    case rel=>exact ⟨2,by omega,by go_num,by rw [← HT.out],_,rfl⟩
    case measure=>simp [intOf]
   ·have hb:0≤tk h0 h1 h2 h3 h4 h5 h6 h7 h8 h9 2∧tk h0 h1 h2 h3 h4 h5 h6 h7 h8 h9 2≤1000000:=by simp only [tk];omega
    have HT:Hid (tk h0 h1 h2 h3 h4 h5 h6 h7 h8 h9 2 + (h4 * 256 + h5)=tk h0 h1 h2 h3 h4 h5 h6 h7 h8 h9 3):=by show _=_;simp [tk]
    generalize tk h0 h1 h2 h3 h4 h5 h6 h7 h8 h9 2=t at *
    go_wp2_with (first | (go_at_call 65;refine (number_int g o n cap 4 _ h4 h5 (by omega) _ b4 b5 (by omega) hn (e4.out _) (e5.out _)).mono ?_;rintro e w' ⟨rfl,m',rfl⟩))
    go_roundw
    case rel=>exact ⟨3,by omega,by go_num,by rw [← HT.out],_,rfl⟩
    case measure=>simp [intOf]
   ·have hb:0≤tk h0 h1 h2 h3 h4 h5 h6 h7 h8 h9 3∧tk h0 h1 h2 h3 h4 h5 h6 h7 h8 h9 3≤1000000:=by simp only [tk];omega
    have HT:Hid (tk h0 h1 h2 h3 h4 h5 h6 h7 h8 h9 3 + (h6 * 256 + h7)=tk h0 h1 h2 h3 h4 h5 h6 h7 h8 h9 4):=by show _=_;simp [tk]
    generalize tk h0 h1 h2 h3 h4 h5 h6 h7 h8 h9 3=t at *
    go_wp2_with (first | (go_at_call 65;refine (number_int g o n cap 6 _ h6 h7 (by omega) _ b6 b7 (by omega) hn (e6.out _) (e7.out _)).mono ?_;rintro e w' ⟨rfl,m',rfl⟩))
    go_roundw
    case rel=>exact ⟨4,by omega,by go_num,by rw [← HT.out],_,rfl⟩
    case measure=>simp [intOf]
   ·have hb:0≤tk h0 h1 h2 h3 h4 h5 h6 h7 h8 h9 4∧tk h0 h1 h2 h3 h4 h5 h6 h7 h8 h9 4≤1000000:=by simp only [tk];omega
    have HT:Hid (tk h0 h1 h2 h3 h4 h5 h6 h7 h8 h9 4 + (h8 * 256 + h9)=tk h0 h1 h2 h3 h4 h5 h6 h7 h8 h9 5):=by show _=_;simp [tk]
    generalize tk h0 h1 h2 h3 h4 h5 h6 h7 h8 h9 4=t at *
    go_wp2_with (first | (go_at_call 65;refine (number_int g o n cap 8 _ h8 h9 (by omega) _ b8 b9 (by omega) hn (e8.out _) (e9.out _)).mono ?_;rintro e w' ⟨rfl,m',rfl⟩))
    go_roundw
    case rel=>exact ⟨5,by omega,by go_num,by rw [← HT.out],_,rfl⟩
    case measure=>simp [intOf]
end Go.Proofs.YtajphdppmdoalaaGreat
