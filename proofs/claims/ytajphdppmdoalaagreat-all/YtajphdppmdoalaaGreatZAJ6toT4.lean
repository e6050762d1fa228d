import Derived.Test.YtajphdppmdoalaaGreatZAMHtoJ5
import Derived.Test.YtajphdppmdoalaaGreatZANKtoC
import Derived.Test.YtajphdppmdoalaaGreatZAHtoT1
set_option maxRecDepth 100000
set_option maxHeartbeats 6400000
set_option linter.unusedVariables false
namespace Go.Proofs.YtajphdppmdoalaaGreat
open Go.RowKit
theorem drew_two (w:World) (m n:Nat):(w.drewN m).drewN n=w.drewN (m + n):=by simp
def alB (zs:List Int):Bool:=nd zs && decide (zs.length≤6)
theorem allowed_any (ao:Option Addr) (n cap:Nat) (zs:List Int) (w:World) (hl:zs.length=n) (hd:Has w ao zs) (hn:n≤9223372036854775807) :
  Calls Tryz.prog 69 #[.slice ao n cap] w fun e w'=>e=.returned (.bool (alB zs))∧∃ m,w'=w.drewN m:=by
 have HD:=hide hd
 have HL:=hide hl
 clear hd hl
 go_enter Tryz.func69,Tryz.ntmps69
 go_wp2_with fail
 go_loopw [3] (fun i wr=>∃ k:Nat,k≤n∧i=.int .i64 (k:Int)∧Hid (∀ a b,b < a→a < k→zs.getD a 0 ≠ zs.getD b 0)∧∃ m,wr=w.drewN m)
  (fun i _=>n - (intOf i).toNat)
 case atStart=>exact ⟨0,by omega,rfl,fun a b _ h=>by omega,0,rfl⟩
 case round =>
  obtain ⟨k,hk,rfl,HP,m,rfl⟩:=hrel
  by_cases hkn:k < n
  ·obtain ⟨g,o,rfl,_,hc⟩:=HD.out.2 (by intro h;have:=HL.out;subst h;simp at this;omega)
   have HC:Hid (∀ j,j < n→w.cell? ⟨g,o + j,none⟩=some (.int .u8 (zs.getD j 0))):=fun j hj=>hc j (by rw [HL.out];exact hj)
   clear hc
   go_wp2_with fail
   go_loopw [4] (fun i wi=>∃ j:Nat,j≤k∧i=.int .i64 (j:Int)∧Hid (∀ b,b < j→zs.getD k 0 ≠ zs.getD b 0)∧∃ m,wi=w.drewN m)
    (fun i _=>k - (intOf i).toNat)
   case atStart=>exact ⟨0,by omega,rfl,fun b h=>by omega,_,rfl⟩
   case round =>
    obtain ⟨j,hj,rfl,HQ,m',rfl⟩:=hrel
    by_cases hjk:j < k
    ·have c0:=HC.out k hkn
     have c1:=HC.out j (by omega)
     have i1:(k:Int) < (n:Int):=by omega
     have i2:(j:Int) < (n:Int):=by omega
     by_cases he:zs.getD k 0=zs.getD j 0
     ·have HF:Hid (alB zs=false):=by
       show _=_
       rw [alB,Bool.and_eq_false_iff]
       left
       rw [Bool.eq_false_iff]
       intro h
       exact (nd_get zs).1 h k j hjk (by rw [HL.out];exact hkn) he
      rw [← he] at c1
      clear he
      generalize zs.getD k 0=z at *
      go_wp2_with fail
      go_quiet (fail)
      go_wp2
      go_ret
      exact ⟨ret_bool HF.out.symm,_,drew_two _ _ _⟩
     ·have HN:Hid (∀ b,b < j + 1→zs.getD k 0 ≠ zs.getD b 0):=fun b hb=>by
       by_cases hb':b < j
       ·exact HQ.out b hb'
       ·obtain rfl:b=j:=by omega
        exact he
      have he':(zs.getD k 0 == zs.getD j 0)=false:=by rw [beq_eq_false_iff_ne];exact he
      clear he
      generalize zs.getD k 0=z at *
      generalize zs.getD j 0=y at *
      go_wp2_with fail
      go_quiet (fail)
      go_wp2
      go_roundw
      case rel=>exact ⟨j + 1,by omega,by go_num,HN.out,_,rfl⟩
      case measure=>simp [intOf];omega
    ·obtain rfl:j=k:=by omega
     have HN:Hid (∀ a b,b < a→a < j + 1→zs.getD a 0 ≠ zs.getD b 0):=fun a b hb ha=>by
      by_cases ha':a < j
      ·exact HP.out a b hb ha'
      ·obtain rfl:a=j:=by omega
       exact HQ.out b hb
     go_wp2
     go_roundw
     case rel=>exact ⟨j + 1,by omega,by go_num,HN.out,_,rfl⟩
     case measure=>simp [intOf];omega
  ·obtain rfl:k=n:=by omega
   have HF:Hid (alB zs=decide ((k:Int)≤6)):=by
    show _=_
    rw [alB,(nd_get zs).2 (fun i j hj hi=>HP.out i j hj (by rw [← HL.out];exact hi)),HL.out,Bool.true_and]
    exact decide_eq_decide.2 (by omega)
   go_wp2
   go_ret
   exact ⟨ret_bool HF.out.symm,_,rfl⟩
theorem rising_any (ao:Option Addr) (n cap:Nat) (zs:List Int) (w:World) (hl:zs.length=n) (hd:Has w ao zs) (h6:n≤6) (hnd:nd zs=true) (hz:∀ z ∈ zs,0≤z∧z≤255) :
  Calls Tryz.prog 93 #[.slice ao n cap] w fun e w'=>∃ v,e=.returned v∧w'.ownsRow w.heap.size 5 1 v (asc zs).length ((asc zs).map (Value.int .u8))∧Below w.heap.size w w':=by
 obtain ⟨i5,hi,hz5,hz6,hz7⟩:=info_parts info_u8
 have HD:=hide hd
 have HL:=hide hl
 have HZ:=hide hz
 have HND:=hide hnd
 clear hd hl hz hnd
 go_enter Tryz.func93,Tryz.ntmps93
 go_wp2_with fail
 go_loopw [3,4] (fun v i wr=>∃ k:Nat,k≤256∧i=.int .i64 k∧Hid (wr.ownsRow w.heap.size 5 1 v (ascK zs k).length ((ascK zs k).map (Value.int .u8)))∧Hid (Below w.heap.size w wr))
  (fun _ i _=>256 - (intOf i).toNat)
 case atStart=>exact ⟨0,Nat.zero_le _,rfl,World.ownsRow_nil _ _ _ _,Below.refl _ _⟩
 case round =>
  obtain ⟨k,hk,rfl,HO,HB⟩:=hrel
  by_cases hlt:k < 256
  ·have hal:=ascK_len zs k
   have HA:=hide (ascK_nd zs HND.out k)
   obtain ⟨L,hL⟩:∃ L:Nat→List Int,L=fun j=>ascK zs k ++ List.replicate ((zs.take j).count (k:Int)) (k:Int):=⟨_,rfl⟩
   have HL0:Hid (L 0=ascK zs k):=by show _=_;rw [hL];simp
   have HLS:Hid (∀ j,j < n→L (j + 1)=if zs.getD j 0=(k:Int) then L j ++ [(k:Int)] else L j):=fun j hj=>by
    rw [hL]
    show ascK zs k ++ List.replicate ((zs.take (j + 1)).count (k:Int)) (k:Int)=_
    rw [count_take_succ zs j k (by rw [HL.out];exact hj)]
    split
    ·rw [List.replicate_succ',List.append_assoc]
    ·rfl
   have HLN:Hid (L n=ascK zs (k + 1)):=by rw [hL,HA.out,← HL.out];show ascK zs k ++ List.replicate ((zs.take zs.length).count (k:Int)) (k:Int)=_;rw [List.take_length]
   have HLL:Hid (∀ j,(L j).length≤256 + j):=fun j=>by
    rw [hL]
    show (ascK zs k ++ List.replicate ((zs.take j).count (k:Int)) (k:Int)).length≤_
    rw [List.length_append,List.length_replicate]
    have:=List.count_le_length (a:=(k:Int)) (l:=zs.take j)
    rw [List.length_take] at this
    omega
   clear hL HA hal
   rw [← HL0.out] at HO
   go_wp2_with fail
   try generalize Value.bool (decide ((k:Int) < 256))=xb
   go_loopw [3,5] (fun v i wi=>∃ j:Nat,j≤n∧i=.int .i64 j∧Hid (wi.ownsRow w.heap.size 5 1 v (L j).length ((L j).map (Value.int .u8)))∧Hid (Below w.heap.size w wi))
    (fun _ i _=>n - (intOf i).toNat)
   case atStart=>exact ⟨0,Nat.zero_le _,rfl,HO.out,HB.out⟩
   case round =>
    obtain ⟨j,hj,rfl,HO2,HB2⟩:=hrel
    have hsz:w.heap.size≤wr.heap.size:=HB2.out.size
    by_cases hjn:j < n
    ·obtain ⟨g,o,rfl,hgb,hc⟩:=HD.out.2 (by intro h;have:=HL.out;subst h;simp at this;omega)
     have c0:wr.cell? ⟨g,o + j,none⟩=some (.int .u8 (zs.getD j 0)):=(HB2.out.cell (p:=⟨g,o + j,none⟩) hgb).trans (hc j (by rw [HL.out];exact hjn))
     have hb:=HZ.out (zs.getD j 0) (by rw [List.getD_eq_getElem?_getD,List.getElem?_eq_getElem (by rw [HL.out];exact hjn)];exact List.getElem_mem _)
     have HST:=hide (HLS.out j hjn)
     have hll:=HLL.out j
     clear hc
     generalize zs.getD j 0=z at *
     by_cases he:z=(k:Int)
     ·subst he
      rw [if_pos rfl] at HST
      go_wp2_with (at_builtin;refine wpList_append_own _ rfl (.tmp 23) (.tmp 28) 38 rfl w.heap.size 5 i5 (.int .u8 0) 1 1 Tryz.underlying38 hi hz5 hz6 hz7 rfl (by decide) _ _ _ rfl (HO2.out.alloc _) ⟨wr.heap.size,0,none⟩ 1 1 [_] rfl rfl (cell_one_new _ _ _) (by simp [Value.oneCell']) (by unfold maxLen;omega) (by omega) (by simp;omega) ?_)
      intro v5 w5 hown hgrow hiff
      have HO5:=hide hown
      have HB5:Hid (Below w.heap.size w w5):=(HB2.out.alloc hsz _).grown hgrow (by simp;omega) (fun q hq=>by have:=(HO2.out.lt q hq).1;omega)
      clear hown hiff hgrow
      go_wp2
      go_roundw
      case rel=>exact ⟨j + 1,by omega,by go_num,by rw [HST.out];simpa [Hid] using HO5,HB5⟩
      case measure=>simp [intOf];omega
     ·rw [if_neg he] at HST
      have he':(z == (k:Int))=false:=by rw [beq_eq_false_iff_ne];exact he
      clear he
      go_wp2
      go_roundw
      case rel=>exact ⟨j + 1,by omega,by go_num,by rw [HST.out];exact HO2,HB2⟩
      case measure=>simp [intOf];omega
    ·obtain rfl:j=n:=by omega
     rw [HLN.out] at HO2
     go_wp2
     go_roundw
     case rel=>exact ⟨k + 1,by omega,by go_num,HO2,HB2⟩
     case measure=>simp [intOf];omega
  ·obtain rfl:k=256:=by omega
   go_wp2
   go_ret
   exact ⟨_,rfl,HO.out,HB.out⟩
theorem byte_cell {w:World} {base g n cv:Nat} {zs:List Int} (h:w.ownsRow base 5 1 (.slice (some ⟨g,0,none⟩) n cv) n (zs.map (Value.int .u8))) (j:Nat) (hj:j < n):w.cell? ⟨g,j,none⟩=some (.int .u8 (zs.getD j 0)):=by
 obtain ⟨hh,hl,_⟩:=owns_has h
 obtain ⟨b,o,he,_,hc⟩:=hh.2 (by intro h0;subst h0;simp at hl;omega)
 simp only [Option.some.injEq,Addr.mk.injEq] at he
 obtain ⟨rfl,rfl,_⟩:=he
 have:=hc j (by omega)
 rwa [Nat.zero_add] at this
def frA (Z:List (Option Int)):Array Value:=(Z.map (fun o=>Value.bool (!o.isSome))).toArray
theorem frA_get (Z:List (Option Int)) (i:Nat) (hi:i < Z.length):(frA Z)[i]?=some (.bool (!tkd Z i)):=by
 rw [frA,List.getElem?_toArray,List.getElem?_map,List.getElem?_eq_getElem hi,tkd,List.getD_eq_getElem?_getD,List.getElem?_eq_getElem hi]
 rfl
theorem frA_set (Z:List (Option Int)) (i:Nat) (b:Int):(frA Z).setIfInBounds i (.bool false)=frA (Z.set i (some b)):=by
 rw [frA,frA,List.setIfInBounds_toArray,List.map_set]
 rfl
theorem fr_zero:frA (List.replicate 31 none)=(List.replicate 31 (Value.bool true)).toArray:=by rw [frA,List.map_replicate];rfl
theorem tb_more (zs:List Int):∃ TB:Nat→List (Option Int),Hid (tbl zs=(TB 31).map (·.getD 0))∧Hid (TB 0=List.replicate 31 none)∧Hid (∀ k,TB (k + 1)=(TB k).set (slotOf ((asc zs).getD (k % (asc zs).length) 0) (TB k)) (some ((asc zs).getD (k % (asc zs).length) 0)))∧Hid (∀ k,(TB k).length=31)∧Hid (∀ k,k < 31→tkd (TB k) (slotOf ((asc zs).getD (k % (asc zs).length) 0) (TB k))=false):=by
 refine ⟨tbK (asc zs),hide ?_,hide ?_,hide ?_,hide ?_,hide ?_⟩
 ·rw [tbl]
 ·rw [tbK]
 ·intro k;rw [tbK]
 ·exact tbK_len _
 ·exact tbK_free _
theorem info_bool:(Tryz.prog.info? 4).map (fun i=>(i.zero,i.size,i.bytes))=some (some (.bool false),1,1):=by kernel_rfl
theorem at_eq (ff j ss:Nat) (hff:ff < 31) (hj:j≤30) (hss:ss≤30):(wrap64 ((ff:Int) + wrap64 ((j:Int) * (ss:Int)))).tmod 31=(((ff + j * ss) % 31:Nat):Int):=by
 have hp:j * ss≤900:=Nat.mul_le_mul hj hss
 obtain ⟨p,hpe⟩:∃ p,p=j * ss:=⟨_,rfl⟩
 rw [← Int.natCast_mul,← hpe]
 rw [← hpe] at hp
 clear hpe
 have e1:wrap64 (p:Int)=p:=by unfold wrap64;omega
 rw [e1]
 have e2:wrap64 ((ff:Int) + (p:Int))=ff + p:=by unfold wrap64;omega
 rw [e2,Int.tmod_eq_emod_of_nonneg (by omega)]
 omega
theorem wan_here (tk:Nat→Bool) (s n at':Nat) (h:tk at'=false):wanF tk s n at'=at':=by
 cases n with
 | zero=>rfl
 | succ n=>rw [wanF,h];rfl
theorem at_facts (tk:Nat→Bool) (ff ss j so:Nat) (hff:ff < 31) (hss:ss≤30) (hj:j≤30) (hW:so=wanF tk ss (30 - j) ((ff + j * ss) % 31)) :
  ∃ at':Nat,at' < 31∧Value.int .i64 ((wrap64 ((ff:Int) + wrap64 ((j:Int) * (ss:Int)))).tmod 31)=Value.int .i64 (at':Int)∧(at':Int) < 31∧(tk at'=false→so=at')∧(tk at'=true→j < 30→so=wanF tk ss (30 - (j + 1)) ((ff + (j + 1) * ss) % 31))∧(j=30→so=at'):=by
 have hat:(ff + j * ss) % 31 < 31:=Nat.mod_lt _ (by decide)
 refine ⟨(ff + j * ss) % 31,hat,by rw [at_eq ff j ss hff hj hss],Int.ofNat_lt.2 hat,?_,?_,?_⟩
 ·intro h;exact hW.trans (wan_here _ _ _ _ h)
 ·intro h1 h2;exact hW.trans (wanF_step _ ff ss j h2 h1)
 ·intro h;subst h;exact hW
theorem row_set_true (q:Nat) (C:Array Value) (hs:C.size=31) (hC:∀ i,i < q→C[i]?=some (.bool true)) (hq:q < 31):(C.setIfInBounds q (.bool true)).size=31∧∀ i,i < q + 1→(C.setIfInBounds q (.bool true))[i]?=some (.bool true):=by
 refine ⟨by rw [Array.size_setIfInBounds];exact hs,?_⟩
 intro i hi
 rw [Array.getElem?_setIfInBounds]
 by_cases h:q=i
 ·rw [if_pos h,if_pos (by omega)]
 ·rw [if_neg h];exact hC i (by omega)
theorem all_true (C:Array Value) (hs:C.size=31) (hC:∀ i,i < 31→C[i]?=some (.bool true)):C=(List.replicate 31 (Value.bool true)).toArray:=by
 apply Array.ext
 ·rw [hs,List.size_toArray,List.length_replicate]
 ·intro i h1 h2
  have:=hC i (by omega)
  rw [Array.getElem?_eq_getElem h1,Option.some.injEq] at this
  rw [this,List.getElem_toArray,List.getElem_replicate]
theorem slots_none (ao:Option Addr) (cap:Nat) (w:World) (hd:Has w ao []) :
  Calls Tryz.prog 70 #[.slice ao 0 cap] w fun e w'=>e=.returned (.slice none 0 0)∧Below w.heap.size w w':=by
 have H:=hide (rising_any ao 0 cap [] w rfl hd (by omega) rfl (by simp))
 rw [(asc_nil [] (by simp)).2 rfl] at H
 go_enter Tryz.func70,Tryz.ntmps70
 go_wp2_with fail
 refine H.out.mono ?_
 rintro e w1 ⟨v,rfl,ho,hb⟩
 have HB:=hide hb
 rcases own_shape ho with rfl | ⟨g,cv,rfl⟩
 ·clear ho hb H
  go_wp2
  go_ret
  exact ⟨rfl,HB.out⟩
 ·clear ho hb H
  go_wp2
  go_ret
  exact ⟨rfl,HB.out⟩
theorem slots_ok (ao:Option Addr) (n cap:Nat) (zs:List Int) (w:World) (hl:zs.length=n) (hd:Has w ao zs) (h1:1≤n) (h6:n≤6) (hz:∀ z ∈ zs,0≤z∧z≤255) (hnd:nd zs=true) :
  Calls Tryz.prog 70 #[.slice ao n cap] w fun e w'=>∃ v,e=.returned v∧w'.ownsRow w.heap.size 5 1 v 31 ((tbl zs).map (Value.int .u8))∧v ≠ .slice none 0 0∧Below w.heap.size w w':=by
 have H:=hide (rising_any ao n cap zs w hl hd h6 hnd hz)
 have hal:(asc zs).length=n:=by rw [← hl];exact (asc_len zs hz).2.2 hnd
 rw [hal] at H
 obtain ⟨TB,HT,H0,HS,HLN,HFR⟩:=tb_more zs
 have HOB:Hid (∀ b ∈ asc zs,0≤b∧b < 256):=ascK_bd zs 256
 have HL:=hide hal
 generalize hord:asc zs=ord
 rw [hord] at H HS HOB HL HFR
 rw [HL.out] at HS HFR
 generalize hTT:tbl zs=TT
 rw [hTT] at HT
 clear hTT hd hl hz hord hnd hal
 go_enter Tryz.func70,Tryz.ntmps70
 go_wp2_with fail
 refine H.out.mono ?_
 rintro e w1 ⟨v,rfl,ho,hb⟩
 obtain ⟨g,cv,rfl⟩:=(own_shape ho).resolve_left (by rintro rfl;rcases ho.2 with ⟨_,h⟩ | ⟨_,_,_,h,_⟩;omega;simp at h)
 have HO:=hide ho
 have HB:=hide hb
 have hz1:w.heap.size≤w1.heap.size:=hb.size
 clear ho hb H
 have hmk:∀ w1,(Instr.makeSlice 38 (.int .i64 31) (.int .i64 31)).run Tryz.prog w1=.ok (.slice (some ⟨w1.heap.size,0,none⟩) 31 31) (w1.alloc (.cells (tbA (TB 0)) 5)):=by
  intro w1
  have h:=run_make_row' (P:=Tryz.prog) 38 5 (.int .u8 0) 1 Tryz.underlying38 info_u8 rfl .i64 .i64 31 (by omega) (by omega) w1
  rw [made_tb,← H0.out] at h
  exact h
 obtain ⟨Z0,hZ0⟩:∃ Z0,Z0=madeCells #[.bool false] 31:=⟨_,rfl⟩
 have HZ0:Hid (Z0.size=31):=by show _=_;rw [hZ0,size_madeCells]
 have hmb:∀ w1,(Instr.makeSlice 139 (.int .i64 31) (.int .i64 31)).run Tryz.prog w1=.ok (.slice (some ⟨w1.heap.size,0,none⟩) 31 31) (w1.alloc (.cells Z0 4)):=by
  intro w1
  have h:=run_make_row' (P:=Tryz.prog) 139 4 (.bool false) 1 Tryz.underlying139 info_bool rfl .i64 .i64 31 (by omega) (by omega) w1
  rw [← hZ0] at h
  exact h
 clear hZ0
 go_wp2_with fail
 generalize Value.bool ((n:Int) == 0)=x18
 have HST:Hid ((w1.alloc (.cells (tbA (TB 0)) 5)).heap[w1.heap.size]?=some (.cells (tbA (TB 0)) 5 (0,0))):=heap_alloc_new _ _
 go_loopw [6] (fun i wr=>∃ (q:Nat) (C:Array Value),q≤31∧i=.int .i64 q∧Hid (wr.heap[w1.heap.size + 1]?=some (.cells C 4 (0,0)))∧Hid (C.size=31∧∀ i,i < q→C[i]?=some (.bool true))∧Hid (Below (w1.heap.size + 1) (w1.alloc (.cells (tbA (TB 0)) 5)) wr))
  (fun i _=>31 - (intOf i).toNat)
 case atStart =>
  refine ⟨0,Z0,by omega,rfl,hide ?_,⟨HZ0.out,fun i hi=>by omega⟩,(Below.refl _ _).alloc (by simp) _⟩
  have h:=heap_alloc_new (w1.alloc (.cells (tbA (TB 0)) 5)) (.cells Z0 4)
  rw [World.size_alloc] at h
  exact h
 case round =>
  obtain ⟨q,C,hq,rfl,HC,HCT,HBR⟩:=hrel
  clear hmk hmb
  by_cases hlt:q < 31
  ·obtain ⟨o1,co1⟩:=arr_some HC.out (j:=q) (by rw [HCT.out.1];exact hlt)
   have f1:=arr_frozen HC.out q
   have HN:=hide (row_set_true q C HCT.out.1 HCT.out.2 hlt)
   go_wp2
   go_roundw
   case rel=>exact ⟨q + 1,_,by omega,by go_num,row_setCell HC.out _,HN.out,HBR.out.setCell (by simp) _⟩
   case measure=>simp [intOf];omega
  ·obtain rfl:q=31:=by omega
   have HCE:Hid (C=frA (TB 0)):=by show _=_;rw [H0.out,fr_zero];exact all_true C HCT.out.1 HCT.out.2
   rw [HCE.out] at HC
   have HA:Hid (wr.heap[w1.heap.size]?=some (.cells (tbA (TB 0)) 5 (0,0))):=(HBR.out.block _ (by omega)).trans HST.out
   have HR:Hid (Below w1.heap.size w1 wr):=below_old HBR.out
   clear HCT HBR HCE HST
   go_wp2_with fail
   rw [show ((31:Nat):Int)=31 from rfl]
   go_loopw [7] (fun i wq=>∃ k:Nat,k≤31∧i=.int .i64 k∧Hid (wq.heap[w1.heap.size]?=some (.cells (tbA (TB k)) 5 (0,0)))∧Hid (wq.heap[w1.heap.size + 1]?=some (.cells (frA (TB k)) 4 (0,0)))∧Hid (Below w1.heap.size w1 wq))
    (fun i _=>31 - (intOf i).toNat)
   case atStart=>exact ⟨0,by omega,rfl,HA.out,HC.out,HR.out⟩
   case round =>
    clear HA HC HR
    obtain ⟨k,hk,rfl,HA,HC,HR⟩:=hrel
    have hza:w1.heap.size < wr.heap.size:=lt_of_block HA.out
    have hzc:w1.heap.size + 1 < wr.heap.size:=lt_of_block HC.out
    by_cases hlt:k < 31
    ·have hr:(k:Int) % (n:Int)=((k % n:Nat):Int):=by omega
     have hrn:k % n < n:=Nat.mod_lt _ (by omega)
     have hgl:g < w1.heap.size:=(HO.out.lt g rfl).2
     have c0:wr.cell? ⟨g,k % n,none⟩=some (.int .u8 (ord.getD (k % n) 0)):=(HR.out.cell (p:=⟨g,k % n,none⟩) hgl).trans (byte_cell HO.out _ hrn)
     have hbb:0≤ord.getD (k % n) 0∧ord.getD (k % n) 0 < 256:=HOB.out _ (by rw [List.getD_eq_getElem?_getD,List.getElem?_eq_getElem (by rw [HL.out];exact hrn)];exact List.getElem_mem _)
     have HS1:=hide (HS.out k)
     have HF1:=hide (HFR.out k hlt)
     generalize ord.getD (k % n) 0=b at *
     generalize k % n=r at *
     have hb0:=hbb.1
     have hb1:b≤255:=by omega
     have HSL:=hide (show slotOf b (TB k)=wanF (tkd (TB k)) (sB b) 30 (fB b) from rfl)
     have HF:=hide (show fB b=(hsh [b,0]).toNat % 31 from rfl)
     have HSS:=hide (show sB b=(hsh [b,1]).toNat % 30 + 1 from rfl)
     have b1:=hsh_bd [b,0]
     have b2:=hsh_bd [b,1]
     have H1:=hide (fun (w:World)=>rhash_any (some ⟨w.heap.size,0,none⟩) 2 2 [b,0] (w.alloc (.cells #[.int .u8 b,.int .u8 0] 5)) rfl (has_two w b 0 _) (by decide) (by intro z hz;simp at hz;omega))
     have H2:=hide (fun (w:World)=>rhash_any (some ⟨w.heap.size,0,none⟩) 2 2 [b,1] (w.alloc (.cells #[.int .u8 b,.int .u8 1] 5)) rfl (has_two w b 1 _) (by decide) (by intro z hz;simp at hz;omega))
     generalize hsh [b,0]=f at *
     generalize hsh [b,1]=s at *
     generalize slotOf b (TB k)=so at *
     generalize fB b=ff at *
     generalize sB b=ss at *
     have hff:ff < 31:=by have:=HF.out;omega
     have hss:1≤ss∧ss≤30:=by have:=HSS.out;omega
     have e9:f % 31=(ff:Int):=by have:=HF.out;omega
     have e11:s % 30 + 1=(ss:Int):=by have:=HSS.out;omega
     go_wp2_with fail
     refine (H1.out wr).mono ?_
     rintro e w3 ⟨rfl,m1,rfl⟩
     clear H1
     have HB3:Hid (Below wr.heap.size wr ((wr.alloc (.cells #[.int .u8 b,.int .u8 0] 5)).drewN m1)):=below_drew ((Below.refl _ _).alloc (Nat.le_refl _) _) m1
     have hz3:wr.heap.size≤((wr.alloc (.cells #[.int .u8 b,.int .u8 0] 5)).drewN m1).heap.size:=by simp
     generalize hW3:((wr.alloc (.cells #[.int .u8 b,.int .u8 0] 5)).drewN m1)=w3
     rw [hW3] at HB3 hz3
     clear hW3
     go_wp2_with fail
     refine (H2.out w3).mono ?_
     rintro e w4 ⟨rfl,m2,rfl⟩
     clear H2
     have HB4:Hid (Below wr.heap.size wr ((w3.alloc (.cells #[.int .u8 b,.int .u8 1] 5)).drewN m2)):=below_drew (HB3.out.alloc hz3 _) m2
     have hz4:wr.heap.size≤((w3.alloc (.cells #[.int .u8 b,.int .u8 1] 5)).drewN m2).heap.size:=by simp;omega
     generalize hW4:((w3.alloc (.cells #[.int .u8 b,.int .u8 1] 5)).drewN m2)=w4
     rw [hW4] at HB4 hz4
     clear hW4 HB3 hz3
     have hA4:w4.heap[w1.heap.size]?=some (.cells (tbA (TB k)) 5 (0,0)):=(HB4.out.block _ hza).trans HA.out
     have hC4:w4.heap[w1.heap.size + 1]?=some (.cells (frA (TB k)) 4 (0,0)):=(HB4.out.block _ hzc).trans HC.out
     have HA4:=hide hA4
     have HC4:=hide hC4
     have fa:=arr_frozen hA4
     have fc:=arr_frozen hC4
     have HCO:Hid (∀ i,i < 31→∃ o,w4.cell? ⟨w1.heap.size,i,none⟩=some o):=fun i hi=>arr_some hA4 (by rw [tbA_size,HLN.out];exact hi)
     have HCF:Hid (∀ i,i < 31→w4.cell? ⟨w1.heap.size + 1,i,none⟩=some (.bool (!tkd (TB k) i))):=fun i hi=>(arr_cell hC4 i).trans (frA_get _ i (by rw [HLN.out];exact hi))
     have HR4:Hid (Below w1.heap.size w1 w4):=HR.out.trans (HB4.out.mono (by omega))
     clear hA4 hC4 c0 HA HC HR HB4 hza hzc hz4
     go_wp2_with fail
     clear b1 b2 e9 e11 HF HSS hbb hb0 hb1 hr hrn hgl
     have HFF:=hide hff
     have HS30:=hide hss
     clear hff hss
     go_loopw [12] (fun i wi=>∃ j:Nat,j≤30∧i=.int .i64 j∧Hid (so=wanF (tkd (TB k)) ss (30 - j) ((ff + j * ss) % 31))∧wi=w4)
      (fun i _=>31 - (intOf i).toNat)
     case atStart=>exact ⟨0,by omega,rfl,by rw [Nat.zero_mul,Nat.add_zero,Nat.mod_eq_of_lt HFF.out];exact HSL,rfl⟩
     case round =>
      obtain ⟨j,hj,rfl,HW,rfl⟩:=hrel
      obtain ⟨at',hat,ev,hat2,hw0,hws,hwe⟩:=at_facts (tkd (TB k)) ff ss j so HFF.out HS30.out.2 hj HW.out
      have HW0:=hide hw0
      have HWS:=hide hws
      have HWE:=hide hwe
      clear hw0 hws hwe HW
      have cf:=HCF.out at' hat
      obtain ⟨o1,co⟩:=HCO.out at' hat
      cases htk:tkd (TB k) at' with
      | false =>
       rw [htk] at cf
       have HE:=hide (HW0.out htk)
       clear htk HWS HW0 HWE
       go_wp2
       go_roundw
       case rel =>
        refine ⟨k + 1,by omega,by go_num,hide ?_,hide ?_,hide ?_⟩
        ·rw [HS1.out,HE.out,← tbA_set]
         exact row_setCell ((Below.heap_setCell _ _ _ _ (by simp)).trans HA4.out) _
        ·rw [HS1.out,HE.out,← frA_set]
         exact (Below.heap_setCell _ _ _ _ (by simp)).trans (row_setCell HC4.out _)
        ·exact (HR4.out.setCell (by simp) _).setCell (Nat.le_refl _) _
       case measure=>simp [intOf];omega
      | true =>
       rw [htk] at cf
       have hj30:j < 30:=by
        by_cases h:j=30
        ·exfalso
         have h2:=HF1.out
         rw [HWE.out h,htk] at h2
         exact absurd h2 (by decide)
        ·omega
       have HE:=hide (HWS.out htk hj30)
       clear htk HWS HW0 HWE
       go_wp2
       go_roundw
       case rel=>exact ⟨j + 1,by omega,by go_num,HE,by trivial⟩
       case measure=>simp [intOf];omega
    ·obtain rfl:k=31:=by omega
     have HW:Hid (Below w.heap.size w wr):=HB.out.trans (HR.out.mono hz1)
     have HLN31:=hide (HLN.out 31)
     go_wp2
     go_ret
     refine ⟨_,rfl,?_,by simp,HW.out⟩
     refine ⟨by simp [HT.out,HLN31.out],.inr ⟨w1.heap.size,31,tbA (TB 31),rfl,hz1,HA.out,by omega,by decide,by rw [tbA_size,HLN31.out],?_⟩⟩
     rw [HT.out,tbA]
     rw [List.toList_toArray,List.map_map,List.take_of_length_le (by rw [List.length_map,HLN31.out];omega)]
     rfl
theorem alB_tE (zs:List Int) (hz:∀ z ∈ zs,0≤z∧z≤255):(alB zs=false→tE zs=1)∧(alB zs=true→nd zs=true∧zs.length≤6∧tE zs=if zs.length=0 then 7 else 0):=by
 have h:=asc_len zs hz
 constructor
 ·intro ha
  rw [tE,if_pos]
  by_cases h6:6 < zs.length
  ·exact .inl h6
  ·right
   rw [alB,Bool.and_eq_false_iff] at ha
   rcases ha with ha | ha
   ·have hne:¬ (asc zs).length=zs.length:=fun he=>by rw [h.2.1 he] at ha;cases ha
    omega
   ·exfalso
    have:=of_decide_eq_false ha
    omega
 ·intro ha
  rw [alB,Bool.and_eq_true] at ha
  have h6:=of_decide_eq_true ha.2
  have he:=h.2.2 ha.1
  exact ⟨ha.1,h6,by rw [tE,if_neg (by omega)]⟩
def TabOk (w w':World) (zs:List Int) (v:Value):Prop:=w'.ownsRow w.heap.size 5 1 v 31 ((tbl zs).map (Value.int .u8))∧v ≠ .slice none 0 0
theorem slots_tab (ao:Option Addr) (n cap:Nat) (zs:List Int) (w:World) (hl:zs.length=n) (hd:Has w ao zs) (h1:1≤n) (h6:n≤6) (hz:∀ z ∈ zs,0≤z∧z≤255) (hnd:nd zs=true) (m:Nat) :
  Calls Tryz.prog 70 #[.slice ao n cap] (w.drewN m) fun e w'=>∃ v,e=.returned v∧TabOk w w' zs v∧Below w.heap.size w w':=by
 refine (slots_ok ao n cap zs (w.drewN m) hl (hd.below (below_drew (Below.refl _ _) m)) h1 h6 hz hnd).mono ?_
 rintro e w' ⟨v,a,b,c,d⟩
 exact ⟨v,a,⟨b,c⟩,(below_drew (Below.refl _ _) m).trans d⟩
theorem rtable_any (ao:Option Addr) (n cap:Nat) (zs:List Int) (w:World) (hl:zs.length=n) (hd:Has w ao zs) (hn:n≤9223372036854775807) (hz:∀ z ∈ zs,0≤z∧z≤255) :
  Calls Tryz.prog 37 #[.slice ao n cap] w (TabPost w zs):=by
 obtain ⟨hf,ht⟩:=alB_tE zs hz
 have HAL:=hide (allowed_any ao n cap zs w hl hd hn)
 cases hal:alB zs with
 | false =>
  rw [hal] at HAL
  have HT:=hide (hf hal)
  clear hf ht hal hd hl
  go_enter Tryz.func37,Tryz.ntmps37
  go_wp2_with fail
  refine HAL.out.mono ?_
  rintro e w1 ⟨rfl,m,rfl⟩
  clear HAL
  go_wp2
  go_ret2
  exact ⟨below_drew (Below.refl _ _) m,.inr ⟨by rw [HT.out];decide,HT.out ▸ rfl⟩⟩
 | true =>
  rw [hal] at HAL
  obtain ⟨hnd,h6,hte⟩:=ht hal
  rw [hl] at h6 hte
  have HTE:=hide hte
  have HD:=hide hd
  clear hf ht hal hte
  by_cases h0:n=0
  ·subst h0
   clear hnd hl
   go_enter Tryz.func37,Tryz.ntmps37
   go_wp2_with fail
   refine HAL.out.mono ?_
   rintro e w1 ⟨rfl,m,rfl⟩
   clear HAL
   go_wp2
   go_ret2
   have e7:tE zs=7:=HTE.out
   exact ⟨below_drew (Below.refl _ _) m,.inr ⟨by rw [e7];decide,e7 ▸ rfl⟩⟩
  ·have e0:tE zs=0:=by rw [HTE.out,if_neg h0]
   have HE:=hide e0
   have HS:=hide (slots_tab ao n cap zs w hl hd (by omega) h6 hz hnd)
   have hn0:((n:Int) == 0)=false:=by rw [beq_eq_false_iff_ne];omega
   clear hnd hl e0 HTE hd hz
   go_enter Tryz.func37,Tryz.ntmps37
   go_wp2_with fail
   refine HAL.out.mono ?_
   rintro e w1 ⟨rfl,m,rfl⟩
   clear HAL
   go_wp2_with fail
   refine (HS.out m).mono ?_
   rintro e w2 ⟨v,rfl,hk,hb⟩
   have HK:=hide hk
   have HB:=hide hb
   clear HS hk hb
   go_wp2
   go_ret2
   exact ⟨HB.out,.inl ⟨HE.out,v,rfl,HK.out.1,HK.out.2⟩⟩
theorem own_tag {w:World} {base g k:Nat} {e:TypeId} {u:Value} {ys:List Value} (h:w.ownsRow base e 1 u k ys) (hg:u.ownBlock=some g):∃ cur,w.heap[g]?=some (.cells cur e (0,0))∧base≤g:=by
 rcases h.2 with ⟨rfl,_⟩ | ⟨g',cap,cur,rfl,hb,hh,_⟩
 ·simp [Value.ownBlock] at hg
 ·simp only [Value.ownBlock,Option.some.injEq] at hg
  subst hg
  exact ⟨cur,hh,hb⟩
theorem own_below {w w':World} {B base k:Nat} {e:TypeId} {u:Value} {ys:List Value} (h:w.ownsRow base e 1 u k ys) (hu:∀ g,u.ownBlock=some g→g < B) (hb:Below B w w'):w'.ownsRow base e 1 u k ys:=by
 refine ⟨h.1,?_⟩
 rcases h.2 with h2 | ⟨g,cap,cur,hv,hbs,hh,r⟩
 ·exact .inl h2
 ·exact .inr ⟨g,cap,cur,hv,hbs,(hb.block g (hu g (by rw [hv];rfl))).trans hh,r⟩
theorem own_lt {w:World} {base k:Nat} {e:TypeId} {u:Value} {ys:List Value} (h:w.ownsRow base e 1 u k ys):∀ g,u.ownBlock=some g→g < w.heap.size:=fun g hg=>(h.lt g hg).2
theorem blk_stay {w w':World} {wb base n:Nat} {e t:TypeId} {v:Value} {xs:List Value} {cs:Array Value} (hw:w.heap[wb]?=some (.cells cs t (0,0))) (h':w.ownsRow base e 1 v n xs) (hne:e ≠ t) (hg:w.grownBy w' v.ownBlock):w'.heap[wb]?=some (.cells cs t (0,0)):=by
 refine (hg.block wb (lt_of_block hw) ?_).trans hw
 intro hv
 obtain ⟨c1,h1,_⟩:=own_tag h' hv.symm
 rw [h1] at hw
 simp at hw
 exact hne hw.2
theorem Tryz.info30:(Tryz.prog.info? 38).map (fun i=>(i.zero,i.size,i.bytes))=some (some (.slice none 0 0),1,24):=by kernel_rfl
theorem Tryz.info3:(Tryz.prog.info? 3).map (fun i=>(i.zero,i.size,i.bytes))=some (some (.int .i64 0),1,8):=by kernel_rfl
theorem grown_trans {a b c:World} {r:Option Nat} (h:a.grownBy b r) (k:b.grownBy c r):a.grownBy c r :=
 ⟨k.os.trans h.os,k.tape.trans h.tape,k.output.trans h.output,Nat.le_trans h.size k.size,fun i hi hne=>(k.block i (Nat.lt_of_lt_of_le hi h.size) hne).trans (h.block i hi hne)⟩
theorem sg_step (k:Int) (zs:List Int) (j:Nat) (h:j < zs.length):((sg k j ++ zs.drop j).map (Value.int .u8)).set j (.int .u8 (sgn k j))=(sg k (j + 1) ++ zs.drop (j + 1)).map (Value.int .u8):=by
 rw [List.drop_eq_getElem_cons h,List.map_append,List.map_cons,List.set_append_right _ _ (by simp [sg_length]),List.length_map,sg_length,Nat.sub_self,List.set_cons_zero,sg]
 simp
theorem sign_int (k i:Int) (w:World) (hk0:0≤k) (hk:k≤9223372036854775807) (hi0:0≤i) (hi:i≤9223372036854775807) :
  Calls Tryz.prog 23 #[.int .i64 k,.int .i64 i] w fun e w'=>e=.returned (.int .u8 (sgn k i.toNat))∧w'=w:=by
 obtain ⟨n,rfl⟩:=Int.eq_ofNat_of_zero_le hi0
 exact sign_any k n w hk0 hk (by omega)
end Go.Proofs.YtajphdppmdoalaaGreat
