import Derived.Test.YtajphdppmdoalaaGreatZANJtoNN
import Derived.Test.YtajphdppmdoalaaGreatZAAtoJ3
set_option maxRecDepth 100000
set_option maxHeartbeats 6400000
set_option linter.unusedVariables false
namespace Go.Proofs.YtajphdppmdoalaaGreat
open Go.RowKit
def youngP (life now:Int) (R:List PE):List PE:=R.filter (fun r=>!decide (life≤now + 1 - r.e.born))
def oldP (life now:Int) (R:List PE):List PE:=R.filter (fun r=>decide (life≤now + 1 - r.e.born))
def lateP (life now:Int) (R:List PE):List Ev:=outL (heldL (oldP life now R))
theorem young_snoc (life now:Int) (R:List PE) (r:PE) (h:now + 1 - r.e.born < life):youngP life now (R ++ [r])=youngP life now R ++ [r]∧lateP life now (R ++ [r])=lateP life now R:=by
 have hd:decide (life≤now + 1 - r.e.born)=false:=decide_eq_false (by omega)
 constructor
 ·simp [youngP,List.filter_append,hd]
 ·simp [lateP,oldP,List.filter_append,hd]
theorem old_snoc (life now:Int) (R:List PE) (r:PE) (h:life≤now + 1 - r.e.born):youngP life now (R ++ [r])=youngP life now R∧lateP life now (R ++ [r])=lateP life now R ++ outL (waitL r.e):=by
 have hd:decide (life≤now + 1 - r.e.born)=true:=decide_eq_true h
 constructor
 ·simp [youngP,List.filter_append,hd]
 ·simp [lateP,oldP,List.filter_append,hd,heldL,outL]
theorem late_len (life now:Int) (R:List PE) (h:∀ r ∈ R,PcB r.e.pcs):(lateP life now R).length≤1000 * R.length:=by
 induction R with
 | nil=>simp [lateP,oldP,heldL,outL]
 | cons r R ih =>
  have h1:=ih (fun x hx=>h x (List.mem_cons_of_mem _ hx))
  have h2:=(wait_few r.e (h r List.mem_cons_self)).1
  simp only [lateP,oldP,heldL,outL,List.filter_cons,List.length_cons,List.length_map] at *
  split
  ·simp only [List.map_cons,List.flatMap_cons,List.length_append]
   omega
  ·omega
theorem late_bd (life now:Int) (R:List PE) (h:PFew R) (j:Nat):(lateP life now (R.take j)).length≤1000000:=by
 have h1:=late_len life now (R.take j) (fun r hr=>h.2 r (List.mem_of_mem_take hr))
 have h2:(R.take j).length≤1000:=by rw [List.length_take];have:=h.1;omega
 omega
theorem stick_any (gS i:Nat) (cs:Array Value) (vE:Value) (R:List PE) (now life:Int) (F:Nat→Prop) (w:World) (hB:w.heap[gS]?=some (.cells cs 122 (0,0))) (c0:cs[i]?=some vE) (h:StIs w vE R now F) (hf:PFew R) (hag:∀ r ∈ R,0≤now - r.e.born∧now - r.e.born≤2000000000000) :
  Calls Tryz.prog 85 #[.pointer (some ⟨gS,i,none⟩),.int .i64 life] w fun e w'=>∃ v v2,e=.returned v∧w'.heap[gS]?=some (.cells (cs.setIfInBounds i v2) 122 (0,0))∧w'.ownsRow w.heap.size 152 11 v2 (youngP life now R).length ((youngP life now R).flatMap (PE.cells (now + 1)))∧w'.ownsRow w.heap.size 60 3 v (lateP life now R).length ((lateP life now R).flatMap Ev.cells)∧((lateP life now R).length=0→v=.slice none 0 0)∧Only (fun q=>q=gS) w w':=by
 obtain ⟨i0,hi,hq0,hq1,hq2⟩:=info_parts Tryz.infoPe
 have HI:=hide (And.intro hi (And.intro hq0 (And.intro hq1 hq2)))
 clear hi hq0 hq1 hq2
 obtain ⟨i1,hi1,hp0,hp1,hp2⟩:=info_parts Tryz.infoEv
 have HI1:=hide (And.intro hi1 (And.intro hp0 (And.intro hp1 hp2)))
 clear hi1 hp0 hp1 hp2
 have HH:=hide h
 have HFW:=hide hf
 have HAG:=hide hag
 have HBB:=hide hB
 have hn:R.length≤1000:=hf.1
 have hg:gS < w.heap.size:=lt_of_block hB
 have c0':w.cell? ⟨gS,i,none⟩=some vE:=(arr_cell hB i).trans c0
 obtain ⟨ao,cap,rfl⟩:=own_slice h.rE
 clear h hf hB c0 hag
 go_enter Tryz.func85,Tryz.ntmps85
 go_wp2_with fail
 go_loopw [15,6,5] (fun ii v2 v wr=>∃ j:Nat,j≤R.length∧ii=.int .i64 j∧Hid (wr.ownsRow w.heap.size 152 11 v2 (youngP life now (R.take j)).length ((youngP life now (R.take j)).flatMap (PE.cells (now + 1))))∧Hid (wr.ownsRow w.heap.size 60 3 v (lateP life now (R.take j)).length ((lateP life now (R.take j)).flatMap Ev.cells))∧Hid ((lateP life now (R.take j)).length=0→v=.slice none 0 0)∧Hid (Below w.heap.size w wr)) (fun ii _ _ _=>R.length - (intOf ii).toNat)
 case atStart=>exact ⟨0,Nat.zero_le _,rfl,World.ownsRow_nil _ _ _ _,World.ownsRow_nil _ _ _ _,fun _=>rfl,Below.refl _ _⟩
 case round =>
  obtain ⟨j,hj,rfl,HO,HV,HNI,HB⟩:=hrel
  have hsz:w.heap.size≤wr.heap.size:=HB.out.size
  by_cases hlt:j < R.length
  ·obtain ⟨r,hr⟩:∃ r,R[j]?=some r:=⟨_,List.getElem?_eq_getElem hlt⟩
   have HT:=hide (take_snoc R j r hr)
   have hle:(youngP life now (R.take j)).length≤1000:=Nat.le_trans (List.length_filter_le _ _) (by rw [List.length_take];omega)
   have hll:=late_bd life now R HFW.out j
   have hage:=HAG.out r (List.mem_of_getElem? hr)
   have hwf:=wait_few r.e (HFW.out.2 r (List.mem_of_getElem? hr))
   obtain ⟨g,q,hgq⟩:=own_some HH.out.rE (by omega)
   rw [Value.slice.injEq] at hgq
   obtain ⟨rfl,_,rfl⟩:=hgq
   have hN:=(HH.out.below HB.out).rE
   have hgz:g < wr.heap.size:=(hN.lt g rfl).2
   have r0:wr.cell? ⟨g,j * 11,none⟩=_:=row_get (PE.cells now) (PE.len now) hN j r hr 0 _ rfl
   have r1:=row_get (PE.cells now) (PE.len now) hN j r hr 1 _ rfl
   have r2:=row_get (PE.cells now) (PE.len now) hN j r hr 2 _ rfl
   have r3:=row_get (PE.cells now) (PE.len now) hN j r hr 3 _ rfl
   have r4:=row_get (PE.cells now) (PE.len now) hN j r hr 4 _ rfl
   have r5:=row_get (PE.cells now) (PE.len now) hN j r hr 5 _ rfl
   have r6:=row_get (PE.cells now) (PE.len now) hN j r hr 6 _ rfl
   have r7:=row_get (PE.cells now) (PE.len now) hN j r hr 7 _ rfl
   have r8:=row_get (PE.cells now) (PE.len now) hN j r hr 8 _ rfl
   have r9:=row_get (PE.cells now) (PE.len now) hN j r hr 9 _ rfl
   have r10:=row_get (PE.cells now) (PE.len now) hN j r hr 10 _ rfl
   obtain ⟨sa,sc,hsv⟩:=own_slice (HH.out.rs r (List.mem_of_getElem? hr))
   obtain ⟨ha,hc,hhv⟩:=own_slice (HH.out.rh r (List.mem_of_getElem? hr))
   have HRH:=hide ((HH.out.below HB.out).rh r (List.mem_of_getElem? hr))
   rw [hsv] at r5
   rw [hhv] at r10 HRH
   have hcl:(PE.cells (now + 1) r)=[.int .u16 r.e.src,.int .u16 r.e.dst,.int .u8 r.e.proto,.int .u16 r.e.id,.int .i64 (now - r.e.born + 1),r.sv,.bool (endO r.e.pcs).isSome,.int .i64 ((endO r.e.pcs).getD 0),.bool r.e.known,.int .u8 r.e.to,r.hv]:=by
    simp only [PE.cells]
    rw [show now + 1 - r.e.born=now - r.e.born + 1 from by omega]
   rw [hsv,hhv] at hcl
   have hyo:now - r.e.born + 1 < life→youngP life now (R.take (j + 1))=youngP life now (R.take j) ++ [r]∧lateP life now (R.take (j + 1))=lateP life now (R.take j):=fun hh=>by rw [HT.out];exact young_snoc life now _ r (by omega)
   have hol:life≤now - r.e.born + 1→youngP life now (R.take (j + 1))=youngP life now (R.take j)∧lateP life now (R.take (j + 1))=lateP life now (R.take j) ++ outL (waitL r.e):=fun hh=>by rw [HT.out];exact old_snoc life now _ r (by omega)
   have HYO:=hide hyo
   have HOL:=hide hol
   clear hyo hol
   generalize waitL r.e=WL at *
   generalize (endO r.e.pcs).isSome=E1 at *
   generalize (endO r.e.pcs).getD 0=E2 at *
   generalize now - r.e.born=AG at *
   generalize r.e.src=es at *
   generalize r.e.dst=ed at *
   generalize r.e.proto=ep at *
   generalize r.e.id=ei at *
   generalize r.e.known=ek at *
   generalize r.e.to=et at *
   generalize r.e.pcs.length=L1 at *
   have hwl:WL.length≤1000:=hwf.1
   generalize hL2:WL.length=L2 at *
   have HL2:=hide hL2
   have HCL:=hide hcl
   clear hN hr hsv hhv hcl hL2 hwf
   by_cases hyg:AG + 1 < life
   ·obtain ⟨hy1,hy2⟩:=HYO.out hyg
    have HY:=hide (And.intro hy1 hy2)
    clear hy1 hy2 HYO HOL
    generalize youngP life now (R.take j)=RL at *
    generalize lateP life now (R.take j)=LL at *
    obtain ⟨hi,hq0,hq1,hq2⟩:=HI.out
    go_wp2_with (at_builtin;refine wpList_append_own _ rfl (.tmp 27) (.tmp 29) 120 rfl w.heap.size 152 i0 _ 11 88 Tryz.underlying120 hi hq0 hq1 hq2 rfl (by decide) _ _ _ rfl ((HO.out.alloc _).alloc _) ⟨wr.heap.size + 1,0,none⟩ 1 1 [.int .u16 es,.int .u16 ed,.int .u8 ep,.int .u16 ei,.int .i64 (AG + 1),.slice sa L1 sc,.bool E1,.int .i64 E2,.bool ek,.int .u8 et,.slice ha L2 hc] rfl rfl (news2 _ _ _ _) (by simp [Value.oneCell']) (by unfold maxLen;omega) (by omega) (by simp;omega) ?_)
    intro v2 w2 hown hgrow hiff
    have HO2:Hid (w2.ownsRow w.heap.size 152 11 v2 (RL ++ [r]).length ((RL ++ [r]).flatMap (PE.cells (now + 1)))):=by
     show World.ownsRow _ _ _ _ _ _ _
     rw [List.flatMap_append,List.length_append,List.flatMap_cons,List.flatMap_nil,List.append_nil,HCL.out]
     exact hown
    have HV2:=hide (own_only ((HV.out.alloc _).alloc _) (Only.of_grown hgrow) (fun k hk hh=>own_apart' HO.out HV.out (by decide) hh hk))
    have HB2:Hid (Below w.heap.size w w2):=((HB.out.alloc hsz _).alloc (by simp;omega) _).grown hgrow (by simp;omega) (fun k hk=>(HO.out.lt k hk).1)
    clear hown hgrow hiff
    go_wp2
    go_roundw
    case rel=>exact ⟨j + 1,by omega,by go_num,by show World.ownsRow _ _ _ _ _ _ _;rw [HY.out.1];exact HO2.out,by show World.ownsRow _ _ _ _ _ _ _;rw [HY.out.2];exact HV2.out,by show _→_;rw [HY.out.2];exact HNI.out,HB2.out⟩
    case measure=>simp [intOf];omega
   ·obtain ⟨hy1,hy2⟩:=HOL.out (by omega)
    have HY:=hide (And.intro hy1 hy2)
    clear hy1 hy2 HYO HOL
    have hyg':life≤AG + 1:=by omega
    generalize youngP life now (R.take j)=RL at *
    generalize lateP life now (R.take j)=LL at *
    obtain ⟨hi1,hp0,hp1,hp2⟩:=HI1.out
    have HBX:=hide (box_cell (Below.refl (wr.heap.size + 1) (wr.alloc (.cells #[.int .u16 es,.int .u16 ed,.int .u8 ep,.int .u16 ei,.int .i64 (AG + 1),.slice sa L1 sc,.bool E1,.int .i64 E2,.bool ek,.int .u8 et,.slice ha L2 hc] 152))))
    have hzx:wr.heap.size < (wr.alloc (.cells #[.int .u16 es,.int .u16 ed,.int .u8 ep,.int .u16 ei,.int .i64 (AG + 1),.slice sa L1 sc,.bool E1,.int .i64 E2,.bool ek,.int .u8 et,.slice ha L2 hc] 152)).heap.size:=by simp
    have hR1:wr.ownsRow 0 154 2 (.slice ha L2 hc) WL.length (WL.flatMap Pc.wtg):=by rw [HL2.out];exact HRH.out
    have HTO:=hide (timeout_any wr.heap.size 0 WL (.slice ha L2 hc) (wr.alloc (.cells #[.int .u16 es,.int .u16 ed,.int .u8 ep,.int .u16 ei,.int .i64 (AG + 1),.slice sa L1 sc,.bool E1,.int .i64 E2,.bool ek,.int .u8 et,.slice ha L2 hc] 152)) hzx (HBX.out 10) (hR1.alloc _) (by rw [HL2.out];exact hwl))
    clear hR1
    go_wp2_with fail
    refine HTO.out.mono ?_
    rintro e w7 ⟨v7,rfl,hv7,hb7,hn7⟩
    have HB7:Hid (Below w.heap.size w w7):=(HB.out.alloc hsz _).trans (hb7.mono (by simp;omega))
    have HV7:=hide (own_zero (own_below' (HV.out.alloc (.cells #[.int .u16 es,.int .u16 ed,.int .u8 ep,.int .u16 ei,.int .i64 (AG + 1),.slice sa L1 sc,.bool E1,.int .i64 E2,.bool ek,.int .u8 et,.slice ha L2 hc] 152)) (fun k hk=>by have:=(HV.out.lt k hk).2;simp;omega) hb7))
    have HO7:=hide (own_below' (HO.out.alloc (.cells #[.int .u16 es,.int .u16 ed,.int .u8 ep,.int .u16 ei,.int .i64 (AG + 1),.slice sa L1 sc,.bool E1,.int .i64 E2,.bool ek,.int .u8 et,.slice ha L2 hc] 152)) (fun k hk=>by have:=(HO.out.lt k hk).2;simp;omega) hb7)
    have hol:(outL WL).length=WL.length:=by simp [outL]
    have HX7:Hid (w7.ownsRow 0 60 3 v7 (outL WL).length ((outL WL).flatMap Ev.cells)):=by show World.ownsRow _ _ _ _ _ _ _;rw [hol];exact own_zero hv7
    have HN7:Hid ((outL WL).length=0→v7=.slice none 0 0):=by rw [hol];exact hn7
    have hww:(outL WL).length≤1000:=by rw [hol,HL2.out];exact hwl
    have HLB:Hid (∀ k,(u5:Value).ownBlock=some k→w.heap.size≤k):=fun k hk=>(HV.out.lt k hk).1
    have hz7:w.heap.size≤w7.heap.size:=HB7.out.size
    clear hv7 hb7 hn7 hol HTO HBX
    go_wp2_with (at_builtin;refine wpList_append_row _ rfl (.tmp 32) (.tmp 33) 57 rfl 60 i1 _ 3 16 Tryz.underlying57 hi1 hp0 hp1 hp2 rfl (by decide) _ _ _ rfl HV7.out _ _ _ rfl HX7.out HN7.out (ev_one _) (by unfold maxLen;omega) (by omega) ?_)
    intro v8 w8 hown hgrow hwh hsame
    have HO8:=hide (own_only HO7.out (Only.of_grown hgrow) (fun k hk hh=>own_apart' HV7.out HO7.out (by decide) hh hk))
    have HB8:Hid (Below w.heap.size w w8):=HB7.out.grown hgrow hz7 HLB.out
    have HV8:Hid (w8.ownsRow w.heap.size 60 3 v8 (LL ++ outL WL).length ((LL ++ outL WL).flatMap Ev.cells)):=by
     show World.ownsRow _ _ _ _ _ _ _
     rw [List.length_append,List.flatMap_append]
     refine own_rebase hown (fun k hk=>?_)
     rcases hwh k hk with h | h
     ·exact HLB.out k h
     ·exact Nat.le_trans hz7 h
    have HN8:Hid ((LL ++ outL WL).length=0→v8=.slice none 0 0):=by
     intro h0
     rw [List.length_append] at h0
     have h1:(outL WL).length=0:=by omega
     have h2:LL.length=0:=by omega
     rw [hsame (List.eq_nil_of_length_eq_zero h1)]
     exact HNI.out h2
    clear hown hgrow hwh hsame
    go_wp2
    go_roundw
    case rel=>exact ⟨j + 1,by omega,by go_num,by show World.ownsRow _ _ _ _ _ _ _;rw [HY.out.1];exact HO8.out,by show World.ownsRow _ _ _ _ _ _ _;rw [HY.out.2];exact HV8.out,by show _→_;rw [HY.out.2];exact HN8.out,HB8.out⟩
    case measure=>simp [intOf];omega
  ·obtain rfl:j=R.length:=by omega
   rw [List.take_length] at HO HV HNI
   have hb:=(HB.out.block gS hg).trans HBB.out
   have f0:=arr_frozen hb i
   have e0:=(HB.out.cell (p:=⟨gS,i,none⟩) hg).trans c0'
   have hgr:gS < wr.heap.size:=by omega
   have HBR:=hide hb
   clear hb
   obtain ⟨ra,rc,rfl⟩:=own_slice HO.out
   obtain ⟨ra',rc',rfl⟩:=own_slice HV.out
   go_wp2
   go_ret
   exact ⟨_,_,rfl,row_setCell HBR.out _,own_set' HO.out HBR.out (by decide) _,own_set' HV.out HBR.out (by decide) _,HNI.out,(Only.of_below HB.out).setG⟩
def tE (zs:List Int):Int:=if 6 < zs.length∨(asc zs).length < zs.length then 1 else if zs.length=0 then 7 else 0
def TabPost (w:World) (zs:List Int) (e:Ending) (w':World):Prop :=
 Below w.heap.size w w'∧((tE zs=0∧∃ v,e=.returned (.tuple #[v,.int .i64 0])∧w'.ownsRow w.heap.size 5 1 v 31 ((tbl zs).map (Value.int .u8))∧v ≠ .slice none 0 0)∨(tE zs ≠ 0∧e=.returned (.tuple #[.slice none 0 0,.int .i64 (tE zs)])))
def tbA (Z:List (Option Int)):Array Value:=(Z.map (fun o=>Value.int .u8 (o.getD 0))).toArray
theorem tbA_set (Z:List (Option Int)) (i:Nat) (b:Int):(tbA Z).setIfInBounds i (.int .u8 b)=tbA (Z.set i (some b)):=by
 rw [tbA,tbA,List.setIfInBounds_toArray,List.map_set]
 rfl
theorem tbA_size (Z:List (Option Int)):(tbA Z).size=Z.length:=by simp [tbA]
theorem ctable_big (ao:Option Addr) (n cap:Nat) (w:World) (h6:6 < n) (hn:n≤9223372036854775807) :
  Calls Tryz.prog 68 #[.slice ao n cap] w fun e w'=>e=.returned (.tuple #[.slice none 0 0,.int .i64 1])∧w'=w:=by
 go_enter Tryz.func68,Tryz.ntmps68
 go_wp2
 go_ret2
 exact ⟨rfl,rfl⟩
theorem ctable_twice (ao:Option Addr) (n cap:Nat) (zs:List Int) (w:World) (hl:zs.length=n) (hd:Has w ao zs) (h6:n≤6) (hlt:(asc zs).length < n) :
  Calls Tryz.prog 68 #[.slice ao n cap] w fun e w'=>e=.returned (.tuple #[.slice none 0 0,.int .i64 1])∧Below w.heap.size w w':=by
 have H:=hide (ascending_any ao n cap zs w hl hd (by omega))
 go_enter Tryz.func68,Tryz.ntmps68
 go_wp2_with fail
 refine H.out.mono ?_
 rintro e w1 ⟨v,rfl,ho,hb⟩
 have hal:(asc zs).length≤256:=ascK_len zs 256
 have HB:=hide hb
 rcases own_shape ho with rfl | ⟨g,cv,rfl⟩
 ·have hn0:0 < n:=by omega
  clear ho hb H
  go_wp2
  go_ret2
  exact ⟨rfl,HB.out⟩
 ·clear ho hb H
  go_wp2
  go_ret2
  exact ⟨rfl,HB.out⟩
theorem ctable_none (ao:Option Addr) (cap:Nat) (w:World) (hd:Has w ao []) :
  Calls Tryz.prog 68 #[.slice ao 0 cap] w fun e w'=>e=.returned (.tuple #[.slice none 0 0,.int .i64 7])∧Below w.heap.size w w':=by
 have H:=hide (ascending_any ao 0 cap [] w rfl hd (by omega))
 rw [(asc_nil [] (by simp)).2 rfl] at H
 go_enter Tryz.func68,Tryz.ntmps68
 go_wp2_with fail
 refine H.out.mono ?_
 rintro e w1 ⟨v,rfl,ho,hb⟩
 have HB:=hide hb
 rcases own_shape ho with rfl | ⟨g,cv,rfl⟩
 ·clear ho hb H
  go_wp2
  go_ret2
  exact ⟨rfl,HB.out⟩
 ·clear ho hb H
  go_wp2
  go_ret2
  exact ⟨rfl,HB.out⟩
theorem made_const (z:Value) (n:Nat):madeCells #[z] n=(List.replicate n z).toArray:=by
 apply Array.ext
 ·simp [madeCells]
 ·intro i h1 h2
  simp [madeCells,Nat.mod_one]
theorem made_tb:madeCells #[.int .u8 0] 31=tbA (List.replicate 31 none):=by rw [made_const,tbA,List.map_replicate];rfl
theorem zero_tk:(List.replicate 31 (Value.bool false)).toArray=tkA (List.replicate 31 none):=by rw [tkA,List.map_replicate];rfl
theorem info_31b:(Tryz.prog.info? 137).map (·.size)=some 31:=by kernel_rfl
theorem arr_some {w:World} {g:Nat} {cs:Array Value} {t:TypeId} (h:w.heap[g]?=some (.cells cs t (0,0))) {j:Nat} (hj:j < cs.size):∃ o,w.cell? ⟨g,j,none⟩=some o :=
 ⟨cs[j],by rw [arr_cell h,Array.getElem?_eq_getElem hj]⟩
theorem tb_facts (zs:List Int):∃ TB:Nat→List (Option Int),Hid (tbl zs=(TB 31).map (·.getD 0))∧Hid (TB 0=List.replicate 31 none)∧Hid (∀ k,TB (k + 1)=(TB k).set (slotOf ((asc zs).getD (k % (asc zs).length) 0) (TB k)) (some ((asc zs).getD (k % (asc zs).length) 0)))∧Hid (∀ k,(TB k).length=31):=by
 refine ⟨tbK (asc zs),hide ?_,hide ?_,hide ?_,hide ?_⟩
 ·rw [tbl]
 ·rw [tbK]
 ·intro k;rw [tbK]
 ·exact tbK_len _
theorem ctable_ok (ao:Option Addr) (n cap:Nat) (zs:List Int) (w:World) (hl:zs.length=n) (hd:Has w ao zs) (h1:1≤n) (h6:n≤6) (hz:∀ z ∈ zs,0≤z∧z≤255) (hnd:(asc zs).length=n) :
  Calls Tryz.prog 68 #[.slice ao n cap] w fun e w'=>∃ v,e=.returned (.tuple #[v,.int .i64 0])∧w'.ownsRow w.heap.size 5 1 v 31 ((tbl zs).map (Value.int .u8))∧v ≠ .slice none 0 0∧Below w.heap.size w w':=by
 have H:=hide (ascending_any ao n cap zs w hl hd (by omega))
 rw [hnd] at H
 obtain ⟨TB,HT,H0,HS,HLN⟩:=tb_facts zs
 have HOB:Hid (∀ b ∈ asc zs,0≤b∧b < 256):=ascK_bd zs 256
 have HL:=hide hnd
 generalize hord:asc zs=ord
 rw [hord] at H HS HOB HL
 rw [HL.out] at HS
 generalize hTT:tbl zs=TT
 rw [hTT] at HT
 clear hTT
 clear hd hl hz hord hnd
 go_enter Tryz.func68,Tryz.ntmps68
 go_wp2_with fail
 refine H.out.mono ?_
 rintro e w1 ⟨v,rfl,ho,hb⟩
 obtain ⟨g,cv,rfl⟩:=(own_shape ho).resolve_left (by rintro rfl;rcases ho.2 with ⟨_,h⟩ | ⟨_,_,_,h,_⟩;omega;simp at h)
 have HO:=hide ho
 have HB:=hide hb
 have hz1:w.heap.size≤w1.heap.size:=hb.size
 clear ho hb H
 have hmk:(Instr.makeSlice 38 (.int .i64 31) (.int .i64 31)).run Tryz.prog w1=.ok (.slice (some ⟨w1.heap.size,0,none⟩) 31 31) (w1.alloc (.cells (tbA (TB 0)) 5)):=by
  have h:=run_make_row' (P:=Tryz.prog) 38 5 (.int .u8 0) 1 Tryz.underlying38 info_u8 rfl .i64 .i64 31 (by omega) (by omega) w1
  rw [made_tb,← H0.out] at h
  exact h
 go_wp2_with fail
 generalize Value.bool (decide (6 < (n:Int)))=x12
 generalize Value.bool ((n:Int) == 0)=x22
 go_loopw [7] (fun i wr=>∃ k:Nat,k≤31∧i=.int .i64 k∧Hid (wr.heap[w1.heap.size]?=some (.cells (tbA (TB k)) 5 (0,0)))∧Hid (wr.heap[w1.heap.size + 1]?=some (.cells (tkA (TB k)) 137 (0,0)))∧Hid (Below w1.heap.size w1 wr))
  (fun i _=>31 - (intOf i).toNat)
 case atStart =>
  refine ⟨0,by omega,rfl,hide ?_,hide ?_,hide ?_⟩
  ·exact (Below.heap_alloc _ _ _ (by simp)).trans (heap_alloc_new _ _)
  ·have h:=heap_alloc_new (w1.alloc (.cells (tbA (TB 0)) 5)) (.cells (List.replicate 31 (Value.bool false)).toArray 137)
   rw [World.size_alloc] at h
   rw [H0.out] at h ⊢
   rw [zero_tk] at h
   exact h
  ·exact ((Below.refl _ _).alloc (Nat.le_refl _) _).alloc (by simp) _
 case round =>
  obtain ⟨k,hk,rfl,HA,HK,HR⟩:=hrel
  clear hmk
  have hza:w1.heap.size < wr.heap.size:=lt_of_block HA.out
  have hzk:w1.heap.size + 1 < wr.heap.size:=lt_of_block HK.out
  by_cases hlt:k < 31
  ·have hr:(k:Int) % (n:Int)=((k % n:Nat):Int):=by omega
   have hrn:k % n < n:=Nat.mod_lt _ (by omega)
   have hgl:g < w1.heap.size:=(HO.out.lt g rfl).2
   have c0:wr.cell? ⟨g,k % n,none⟩=some (.int .u8 (ord.getD (k % n) 0)):=by
    rw [HR.out.cell (p:=⟨g,k % n,none⟩) hgl,HO.out.cellAt (k % n) (by omega),List.getElem?_map,List.getElem?_eq_getElem (by rw [HL.out];exact hrn),List.getD_eq_getElem?_getD,List.getElem?_eq_getElem (by rw [HL.out];exact hrn)]
    rfl
   have hbb:0≤ord.getD (k % n) 0∧ord.getD (k % n) 0 < 256:=HOB.out _ (by rw [List.getD_eq_getElem?_getD,List.getElem?_eq_getElem (by rw [HL.out];exact hrn)];exact List.getElem_mem _)
   have HS1:=hide (HS.out k)
   generalize ord.getD (k % n) 0=b at *
   generalize k % n=r at *
   have HW:=hide (wanted_any b (TB k) wr (by omega) (by omega) (HLN.out k))
   have hsl:=slotOf_lt b (TB k)
   generalize slotOf b (TB k)=sl at *
   have hsi:(Tryz.prog.info? 137).map (·.size)=some (tkA (TB k)).size:=by rw [info_31b,tkA_size,HLN.out]
   generalize hT:tkA (TB k)=T at HK HW hsi
   have HTT:=hide hT
   clear hT
   have hK:=HK.out
   go_wp2_with (refine wpList_load_row rfl 137 _ rfl (w1.heap.size + 1) rfl 137 T (0,0) _ hK Tryz.underlying137 rfl hsi ?_)
   refine HW.out.mono ?_
   rintro e w4 ⟨rfl,hb4⟩
   have HB4:=hide hb4
   have hz4:wr.heap.size≤w4.heap.size:=hb4.size
   clear hb4 c0 hK hsi
   have hA4:w4.heap[w1.heap.size]?=some (.cells (tbA (TB k)) 5 (0,0)):=(HB4.out.block _ hza).trans HA.out
   have hK4:w4.heap[w1.heap.size + 1]?=some (.cells T 137 (0,0)):=(HB4.out.block _ hzk).trans HK.out
   have HA4:=hide hA4
   have HK4:=hide hK4
   have fa:=arr_frozen hA4
   have fk:=arr_frozen hK4
   obtain ⟨o1,co1⟩:=arr_some hA4 (j:=sl) (by rw [tbA_size,HLN.out];exact hsl)
   obtain ⟨o2,co2⟩:=arr_some hK4 (j:=sl) (by rw [← HTT.out,tkA_size,HLN.out];exact hsl)
   clear hA4 hK4
   go_wp2
   go_roundw
   case rel =>
    refine ⟨k + 1,by omega,by go_num,hide ?_,hide ?_,hide ?_⟩
    ·rw [HS1.out,← tbA_set]
     exact (Below.heap_setCell _ _ _ _ (by simp)).trans (row_setCell HA4.out _)
    ·rw [HS1.out,← tkA_set,HTT.out]
     exact row_setCell ((Below.heap_setCell _ _ _ _ (by simp)).trans HK4.out) _
    ·exact ((HR.out.trans (HB4.out.mono (by omega))).setCell (Nat.le_refl _) _).setCell (by simp) _
   case measure=>simp [intOf];omega
  ·obtain rfl:k=31:=by omega
   have HW:Hid (Below w.heap.size w wr):=HB.out.trans (HR.out.mono hz1)
   have HLN31:=hide (HLN.out 31)
   go_wp2
   go_ret2
   refine ⟨_,rfl,?_,by simp,HW.out⟩
   refine ⟨by simp [HT.out,HLN31.out],.inr ⟨w1.heap.size,31,tbA (TB 31),rfl,hz1,HA.out,by omega,by decide,by rw [tbA_size,HLN31.out],?_⟩⟩
   rw [HT.out,tbA]
   rw [List.toList_toArray,List.map_map,List.take_of_length_le (by rw [List.length_map,HLN31.out];omega)]
   rfl
theorem ctable_any (ao:Option Addr) (n cap:Nat) (zs:List Int) (w:World) (hl:zs.length=n) (hd:Has w ao zs) (hn:n≤9223372036854775807) (hz:∀ z ∈ zs,0≤z∧z≤255) :
  Calls Tryz.prog 68 #[.slice ao n cap] w (TabPost w zs):=by
 by_cases h6:6 < n
 ·refine (ctable_big ao n cap w h6 hn).mono ?_
  rintro e w' ⟨rfl,rfl⟩
  have he:tE zs=1:=by rw [tE,if_pos (.inl (by omega))]
  exact ⟨Below.refl _ _,.inr ⟨by rw [he];decide,by rw [he]⟩⟩
 ·by_cases hlt:(asc zs).length < n
  ·refine (ctable_twice ao n cap zs w hl hd (by omega) hlt).mono ?_
   rintro e w' ⟨rfl,hb⟩
   have he:tE zs=1:=by rw [tE,if_pos (.inr (by omega))]
   exact ⟨hb,.inr ⟨by rw [he];decide,by rw [he]⟩⟩
  ·by_cases h0:n=0
   ·subst h0
    obtain rfl:zs=[]:=List.eq_nil_of_length_eq_zero hl
    refine (ctable_none ao cap w hd).mono ?_
    rintro e w' ⟨rfl,hb⟩
    have he:tE []=7:=by rw [tE,if_neg (by simp)];rfl
    exact ⟨hb,.inr ⟨by rw [he];decide,by rw [he]⟩⟩
   ·have hle:=(asc_len zs hz).1
    refine (ctable_ok ao n cap zs w hl hd (by omega) (by omega) hz (by omega)).mono ?_
    rintro e w' ⟨v,rfl,ho,hnn,hb⟩
    have he:tE zs=0:=by rw [tE,if_neg (by omega),if_neg (by omega)]
    exact ⟨hb,.inl ⟨he,v,rfl,ho,hnn⟩⟩
theorem ftable_any (ao:Option Addr) (n cap:Nat) (zs:List Int) (w:World) (hl:zs.length=n) (hd:Has w ao zs) (hn:n≤9223372036854775807) (hz:∀ z ∈ zs,0≤z∧z≤255) :
  Calls Tryz.prog 36 #[.slice ao n cap] w (TabPost w zs):=by
 have H:=hide (ctable_any ao n cap zs w hl hd hn hz)
 clear hl hd hn hz
 go_enter Tryz.func36,Tryz.ntmps36
 go_wp2_with fail
 refine H.out.mono ?_
 rintro e w1 ⟨hb,h⟩
 have HB:=hide hb
 clear hb H
 rcases h with ⟨hc,v,rfl,ho,hnn⟩ | ⟨hc,rfl⟩
 ·have HO:=hide ho
  have HC:=hide hc
  have HN:=hide hnn
  clear ho hc hnn
  go_wp2
  go_ret2
  exact ⟨HB.out,.inl ⟨HC.out,v,rfl,HO.out,HN.out⟩⟩
 ·have HC:=hide hc
  clear hc
  go_wp2
  go_ret2
  exact ⟨HB.out,.inr ⟨HC.out,rfl⟩⟩
theorem fhash_any (ao:Option Addr) (n cap:Nat) (zs:List Int) (w:World) (hl:zs.length=n) (hd:Has w ao zs) (hn:n≤9223372036854775807) (hz:∀ z ∈ zs,0≤z∧z≤255) :
  Calls Tryz.prog 34 #[.slice ao n cap] w fun e w'=>e=.returned (.int .u32 (hsh zs))∧∃ m,w'=w.drewN m:=by
 have H:=hide (hash_any ao n cap zs w hl hd hn hz)
 clear hl hd hn hz
 generalize hsh zs=h at *
 go_enter Tryz.func34,Tryz.ntmps34
 go_wp2_with fail
 refine H.out.mono ?_
 rintro e w1 ⟨rfl,m,rfl⟩
 clear H
 go_wp2
 go_ret
 exact ⟨rfl,_,rfl⟩
theorem ofHead_any (h0 h1 h2 h3 h4 h5 h6 h7 h8 h9 h10 h11:Int) (w:World) (b2:0≤h2∧h2≤255) (b3:0≤h3∧h3≤255) (b4:0≤h4∧h4≤255) (b5:0≤h5∧h5≤255) (b6:0≤h6∧h6≤255) (b7:0≤h7∧h7≤255) :
  Calls Tryz.prog 90 #[.agg #[.int .u8 h0,.int .u8 h1,.int .u8 h2,.int .u8 h3,.int .u8 h4,.int .u8 h5,.int .u8 h6,.int .u8 h7,.int .u8 h8,.int .u8 h9,.int .u8 h10,.int .u8 h11]] w fun e w'=>e=.returned (.agg #[.int .u16 (h2 * 256 + h3),.int .u16 (h4 * 256 + h5),.int .u8 h1,.int .u16 (h6 * 256 + h7),.int .u8 h8,.bool (h0 == 17),.int .u16 0,.int .u16 0,.slice none 0 0])∧Below w.heap.size w w':=by
 go_enter Tryz.func90,Tryz.ntmps90
 go_wp2_with (go_at_call 89;refine (word_any _ _ _ (by omega) (by omega) (by omega) (by omega)).mono ?_;rintro e w' ⟨rfl,rfl⟩)
 refine bodyPost_ret (v:=.agg #[.int .u16 (h2 * 256 + h3),.int .u16 (h4 * 256 + h5),.int .u8 h1,.int .u16 (h6 * 256 + h7),.int .u8 h8,.bool (h0 == 17),.int .u16 0,.int .u16 0,.slice none 0 0]) ?_ rfl ⟨rfl,?_⟩
 all_goals go_light
 ·simp [results,Tryz.results90,go_sem]
 ·repeat (first | exact Below.refl _ _ | refine Below.setCell ?_ (by simp;try omega) _ | refine below_drewN ?_ _ | refine Below.alloc ?_ (by simp;try omega) _)
end Go.Proofs.YtajphdppmdoalaaGreat
