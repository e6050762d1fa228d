import Derived.Test.YtajphdppmdoalaaGreatProg
import Derived.Test.YtajphdppmdoalaaGreatZAJ1toLM
import Derived.WalkKit
import Derived.WalkSpells
import Derived.WalkLawsBesides
import Derived.Deep.QuietTactic
import Derived.BigQuiet
import Derived.Deep.Light
import Derived.Deep.OwnRows
import Derived.Laws.AppendOwnNone
set_option maxRecDepth 100000
set_option maxHeartbeats 6400000
set_option linter.unusedVariables false
namespace Go.Proofs.YtajphdppmdoalaaGreat
open Go.RowKit
theorem word_any (a b:Int) (w:World) (ha0:0≤a) (ha:a≤255) (hb0:0≤b) (hb:b≤255) :
  Calls Tryz.prog 89 #[.int .u8 a,.int .u8 b] w fun e w'=>e=.returned (.int .u16 (a * 256 + b))∧w'=w:=by
 go_enter Tryz.func89,Tryz.ntmps89
 go_wp2
 go_ret
 exact ⟨ret_int (or_word a b ha0 ha hb0 hb),rfl⟩
theorem wf_any (src dst proto id off:Int) (more:Bool) (sport dport:Int) (ao:Option Addr) (n cap:Nat) (w:World) (hoff0:0≤off) (hn:n≤maxLen) :
  Calls Tryz.prog 86 #[.agg #[.int .u16 src,.int .u16 dst,.int .u8 proto,.int .u16 id,.int .u8 off,.bool more,.int .u16 sport,.int .u16 dport,.slice ao n cap]] w fun e w'=>e=.returned (.bool (wfB off more sport dport n))∧∃ o,w'=w.alloc o:=by
 unfold maxLen at hn
 go_enter Tryz.func86,Tryz.ntmps86
 go_wp2
 all_goals
  go_ret
  refine ⟨ret_bool ?_,_,rfl⟩
  go_light
  simp_all [wfB]
  try first | omega | (rw [Bool.eq_iff_iff];simp;omega) | (intros;omega)
theorem checksum_any (h0 h1 h2 h3 h4 h5 h6 h7 h8 h9 h10 h11:Int) (w:World) (b0:0≤h0∧h0≤255) (b1:0≤h1∧h1≤255) (b2:0≤h2∧h2≤255) (b3:0≤h3∧h3≤255) (b4:0≤h4∧h4≤255) (b5:0≤h5∧h5≤255) (b6:0≤h6∧h6≤255) (b7:0≤h7∧h7≤255) (b8:0≤h8∧h8≤255) (b9:0≤h9∧h9≤255) :
  Calls Tryz.prog 88 #[.agg #[.int .u8 h0,.int .u8 h1,.int .u8 h2,.int .u8 h3,.int .u8 h4,.int .u8 h5,.int .u8 h6,.int .u8 h7,.int .u8 h8,.int .u8 h9,.int .u8 h10,.int .u8 h11]] w fun e w'=>e=.returned (.int .u16 (csum h0 h1 h2 h3 h4 h5 h6 h7 h8 h9))∧∃ m,w'=(w.alloc (.cells #[.int .u8 h0,.int .u8 h1,.int .u8 h2,.int .u8 h3,.int .u8 h4,.int .u8 h5,.int .u8 h6,.int .u8 h7,.int .u8 h8,.int .u8 h9,.int .u8 h10,.int .u8 h11] 131)).drewN m:=by
 go_enter Tryz.func88,Tryz.ntmps88
 go_wp2
 go_loopw [3,4] (fun s i wr=>∃ k:Nat,k≤5∧i=.int .i64 (2 * (k:Int))∧s=.int .i64 (norm (tk h0 h1 h2 h3 h4 h5 h6 h7 h8 h9 k))∧∃ n,wr=(w.alloc (.cells #[.int .u8 h0,.int .u8 h1,.int .u8 h2,.int .u8 h3,.int .u8 h4,.int .u8 h5,.int .u8 h6,.int .u8 h7,.int .u8 h8,.int .u8 h9,.int .u8 h10,.int .u8 h11] 131)).drewN n)
  (fun _ i _=>10 - (intOf i).toNat)
 case atStart=>exact ⟨0,by omega,rfl,rfl,0,rfl⟩
 case round =>
  obtain ⟨k,hk,rfl,rfl,n,rfl⟩:=hrel
  by_cases hk5:k=5
  ·subst hk5
   have hb:=norm_bd (tk h0 h1 h2 h3 h4 h5 h6 h7 h8 h9 5) (by simp [tk];omega)
   generalize hs:norm (tk h0 h1 h2 h3 h4 h5 h6 h7 h8 h9 5)=s at *
   have HS:=hide hs
   clear hs
   go_wp2
   go_ret
   exact ⟨ret_int (by rw [csum,unhide HS]),_,rfl⟩
  ·rcases (show k=0∨k=1∨k=2∨k=3∨k=4 by omega) with rfl | rfl | rfl | rfl | rfl
   ·have hb:=norm_bd (tk h0 h1 h2 h3 h4 h5 h6 h7 h8 h9 0) (by simp [tk];try omega)
    have hlo:=norm_lo (tk h0 h1 h2 h3 h4 h5 h6 h7 h8 h9 0) (h0 * 256 + h1) (by simp [tk];try omega) (by omega) (by omega)
    have hhi:=norm_hi (tk h0 h1 h2 h3 h4 h5 h6 h7 h8 h9 0) (h0 * 256 + h1) (by simp [tk];try omega) (by omega) (by omega)
    rw [show tk h0 h1 h2 h3 h4 h5 h6 h7 h8 h9 0 + (h0 * 256 + h1)=tk h0 h1 h2 h3 h4 h5 h6 h7 h8 h9 1 by simp [tk]] at hlo hhi
    generalize norm (tk h0 h1 h2 h3 h4 h5 h6 h7 h8 h9 0)=s at *
    have HL:=hide hlo
    have HH:=hide hhi
    clear hlo hhi hk5
    go_wp2
    go_quiet (fail)
    go_wp2
    ·go_roundw
     case rel =>
      have hg:65535 < s + (h0 * 256 + h1):=by assumption
      exact ⟨1,by omega,by go_num,by rw [← unhide HH hg],_,rfl⟩
     case measure=>simp [intOf]
    ·go_roundw
     case rel =>
      have hg:s + (h0 * 256 + h1)≤65535:=by assumption
      exact ⟨1,by omega,by go_num,by rw [← unhide HL hg],_,rfl⟩
     case measure=>simp [intOf]
   ·have hb:=norm_bd (tk h0 h1 h2 h3 h4 h5 h6 h7 h8 h9 1) (by simp [tk];try omega)
    have hlo:=norm_lo (tk h0 h1 h2 h3 h4 h5 h6 h7 h8 h9 1) (h2 * 256 + h3) (by simp [tk];try omega) (by omega) (by omega)
    have hhi:=norm_hi (tk h0 h1 h2 h3 h4 h5 h6 h7 h8 h9 1) (h2 * 256 + h3) (by simp [tk];try omega) (by omega) (by omega)
    rw [show tk h0 h1 h2 h3 h4 h5 h6 h7 h8 h9 1 + (h2 * 256 + h3)=tk h0 h1 h2 h3 h4 h5 h6 h7 h8 h9 2 by simp [tk]] at hlo hhi
    generalize norm (tk h0 h1 h2 h3 h4 h5 h6 h7 h8 h9 1)=s at *
    have HL:=hide hlo
    have HH:=hide hhi
    clear hlo hhi hk5
    go_wp2
    go_quiet (fail)
    go_wp2
    ·go_roundw
     case rel =>
      have hg:65535 < s + (h2 * 256 + h3):=by assumption
      exact ⟨2,by omega,by go_num,by rw [← unhide HH hg],_,rfl⟩
     case measure=>simp [intOf]
    ·go_roundw
     case rel =>
      have hg:s + (h2 * 256 + h3)≤65535:=by assumption
      exact ⟨2,by omega,by go_num,by rw [← unhide HL hg],_,rfl⟩
     case measure=>simp [intOf]
   ·have hb:=norm_bd (tk h0 h1 h2 h3 h4 h5 h6 h7 h8 h9 2) (by simp [tk];try omega)
    have hlo:=norm_lo (tk h0 h1 h2 h3 h4 h5 h6 h7 h8 h9 2) (h4 * 256 + h5) (by simp [tk];try omega) (by omega) (by omega)
    have hhi:=norm_hi (tk h0 h1 h2 h3 h4 h5 h6 h7 h8 h9 2) (h4 * 256 + h5) (by simp [tk];try omega) (by omega) (by omega)
    rw [show tk h0 h1 h2 h3 h4 h5 h6 h7 h8 h9 2 + (h4 * 256 + h5)=tk h0 h1 h2 h3 h4 h5 h6 h7 h8 h9 3 by simp [tk]] at hlo hhi
    generalize norm (tk h0 h1 h2 h3 h4 h5 h6 h7 h8 h9 2)=s at *
    have HL:=hide hlo
    have HH:=hide hhi
    clear hlo hhi hk5
    go_wp2
    go_quiet (fail)
    go_wp2
    ·go_roundw
     case rel =>
      have hg:65535 < s + (h4 * 256 + h5):=by assumption
      exact ⟨3,by omega,by go_num,by rw [← unhide HH hg],_,rfl⟩
     case measure=>simp [intOf]
    ·go_roundw
     case rel =>
      have hg:s + (h4 * 256 + h5)≤65535:=by assumption
      exact ⟨3,by omega,by go_num,by rw [← unhide HL hg],_,rfl⟩
     case measure=>simp [intOf]
   ·have hb:=norm_bd (tk h0 h1 h2 h3 h4 h5 h6 h7 h8 h9 3) (by simp [tk];try omega)
    have hlo:=norm_lo (tk h0 h1 h2 h3 h4 h5 h6 h7 h8 h9 3) (h6 * 256 + h7) (by simp [tk];try omega) (by omega) (by omega)
    have hhi:=norm_hi (tk h0 h1 h2 h3 h4 h5 h6 h7 h8 h9 3) (h6 * 256 + h7) (by simp [tk];try omega) (by omega) (by omega)
    rw [show tk h0 h1 h2 h3 h4 h5 h6 h7 h8 h9 3 + (h6 * 256 + h7)=tk h0 h1 h2 h3 h4 h5 h6 h7 h8 h9 4 by simp [tk]] at hlo hhi
    generalize norm (tk h0 h1 h2 h3 h4 h5 h6 h7 h8 h9 3)=s at *
    have HL:=hide hlo
    have HH:=hide hhi
    clear hlo hhi hk5
    go_wp2
    go_quiet (fail)
    go_wp2
    ·go_roundw
     case rel =>
      have hg:65535 < s + (h6 * 256 + h7):=by assumption
      exact ⟨4,by omega,by go_num,by rw [← unhide HH hg],_,rfl⟩
     case measure=>simp [intOf]
    ·go_roundw
     case rel =>
      have hg:s + (h6 * 256 + h7)≤65535:=by assumption
      exact ⟨4,by omega,by go_num,by rw [← unhide HL hg],_,rfl⟩
     case measure=>simp [intOf]
   ·have hb:=norm_bd (tk h0 h1 h2 h3 h4 h5 h6 h7 h8 h9 4) (by simp [tk];try omega)
    have hlo:=norm_lo (tk h0 h1 h2 h3 h4 h5 h6 h7 h8 h9 4) (h8 * 256 + h9) (by simp [tk];try omega) (by omega) (by omega)
    have hhi:=norm_hi (tk h0 h1 h2 h3 h4 h5 h6 h7 h8 h9 4) (h8 * 256 + h9) (by simp [tk];try omega) (by omega) (by omega)
    rw [show tk h0 h1 h2 h3 h4 h5 h6 h7 h8 h9 4 + (h8 * 256 + h9)=tk h0 h1 h2 h3 h4 h5 h6 h7 h8 h9 5 by simp [tk]] at hlo hhi
    generalize norm (tk h0 h1 h2 h3 h4 h5 h6 h7 h8 h9 4)=s at *
    have HL:=hide hlo
    have HH:=hide hhi
    clear hlo hhi hk5
    go_wp2
    go_quiet (fail)
    go_wp2
    ·go_roundw
     case rel =>
      have hg:65535 < s + (h8 * 256 + h9):=by assumption
      exact ⟨5,by omega,by go_num,by rw [← unhide HH hg],_,rfl⟩
     case measure=>simp [intOf]
    ·go_roundw
     case rel =>
      have hg:s + (h8 * 256 + h9)≤65535:=by assumption
      exact ⟨5,by omega,by go_num,by rw [← unhide HL hg],_,rfl⟩
     case measure=>simp [intOf]
def inB (zs:List Int) (b:Int):Bool:=zs.contains b
theorem info_u8:(Tryz.prog.info? 5).map (fun i=>(i.zero,i.size,i.bytes))=some (some (.int .u8 0),1,1):=by kernel_rfl
theorem hash_any (ao:Option Addr) (n cap:Nat) (zs:List Int) (w:World) (hl:zs.length=n) (hd:Has w ao zs) (hn:n≤9223372036854775807) (hz:∀ z ∈ zs,0≤z∧z≤255) :
  Calls Tryz.prog 66 #[.slice ao n cap] w fun e w'=>e=.returned (.int .u32 (hsh zs))∧∃ m,w'=w.drewN m:=by
 have HD:=hide hd
 have HZ:=hide hz
 clear hd hz
 go_enter Tryz.func66,Tryz.ntmps66
 go_wp2_with fail
 go_loopw [3,4] (fun h i wr=>∃ k:Nat,k≤n∧i=.int .i64 (k:Int)∧h=.int .u32 (hshK zs k)∧∃ m,wr=w.drewN m)
  (fun _ i _=>n - (intOf i).toNat)
 case atStart=>exact ⟨0,by omega,rfl,rfl,0,rfl⟩
 case round =>
  obtain ⟨k,hk,rfl,rfl,m,rfl⟩:=hrel
  by_cases hkn:k < n
  ·obtain ⟨b,o,rfl,_,hc⟩:=HD.out.2 (by intro h;subst h;simp at hl;omega)
   have c0:w.cell? ⟨b,o + k,none⟩=some (.int .u8 (zs.getD k 0)):=hc k (by omega)
   have hb:=HZ.out (zs.getD k 0) (by rw [List.getD_eq_getElem?_getD,List.getElem?_eq_getElem (by omega)];exact List.getElem_mem _)
   have HS:=hide (hshK_succ zs k (by omega))
   have hhb:=hshK_bd zs k
   generalize zs.getD k 0=z at *
   generalize hshK zs k=h at *
   clear hc
   go_wp2
   go_roundw
   case rel =>
    refine ⟨k + 1,by omega,by go_num,?_,_,rfl⟩
    rw [HS.out,hshx,u32_xor h z (by omega) (by omega) (by omega) (by omega)]
   case measure=>simp [intOf];omega
  ·obtain rfl:k=n:=by omega
   go_wp2
   go_ret
   exact ⟨ret_int (by rw [← hl,hshK_all]),_,rfl⟩
theorem hasb_any (ao:Option Addr) (n cap:Nat) (zs:List Int) (b:Int) (w:World) (hl:zs.length=n) (hd:Has w ao zs) (hn:n≤9223372036854775807) :
  Calls Tryz.prog 102 #[.slice ao n cap,.int .u8 b] w fun e w'=>e=.returned (.bool (inB zs b))∧∃ m,w'=w.drewN m:=by
 have HD:=hide hd
 clear hd
 go_enter Tryz.func102,Tryz.ntmps102
 go_wp2_with fail
 go_loopw [5] (fun i wr=>∃ k:Nat,k≤n∧i=.int .i64 (k:Int)∧Hid (∀ j,j < k→zs.getD j 0 ≠ b)∧∃ m,wr=w.drewN m)
  (fun i _=>n - (intOf i).toNat)
 case atStart=>exact ⟨0,by omega,rfl,fun j hj=>by omega,0,rfl⟩
 case round =>
  obtain ⟨k,hk,rfl,HP,m,rfl⟩:=hrel
  by_cases hkn:k < n
  ·obtain ⟨g,o,rfl,_,hc⟩:=HD.out.2 (by intro h;subst h;simp at hl;omega)
   have c0:w.cell? ⟨g,o + k,none⟩=some (.int .u8 (zs.getD k 0)):=hc k (by omega)
   have HM:Hid (zs.getD k 0=b→inB zs b=true):=fun h=>by
    rw [inB,List.contains_iff_mem,← h,List.getD_eq_getElem?_getD,List.getElem?_eq_getElem (by omega)]
    exact List.getElem_mem _
   have HN:Hid (zs.getD k 0 ≠ b→∀ j,j < k + 1→zs.getD j 0 ≠ b):=fun h j hj=>by
    by_cases hj':j < k
    ·exact HP.out j hj'
    ·obtain rfl:j=k:=by omega
     exact h
   generalize zs.getD k 0=z at *
   clear hc
   by_cases hzb:z=b
   ·subst hzb
    go_wp2
    go_ret
    exact ⟨ret_bool (HM.out (by trivial)).symm,_,rfl⟩
   ·have hzb':(z == b)=false:=by simpa using hzb
    go_wp2
    go_roundw
    case rel=>exact ⟨k + 1,by omega,by go_num,HN.out hzb,_,rfl⟩
    case measure=>simp [intOf];omega
  ·obtain rfl:k=n:=by omega
   go_wp2
   go_ret
   refine ⟨ret_bool ?_,_,rfl⟩
   symm
   rw [Bool.eq_false_iff]
   intro h
   rw [inB,List.contains_iff_mem] at h
   obtain ⟨i,hi,he⟩:=List.getElem_of_mem h
   refine HP.out i (by omega) ?_
   rw [List.getD_eq_getElem?_getD,List.getElem?_eq_getElem hi,he]
   rfl
theorem ascending_any (ao:Option Addr) (n cap:Nat) (zs:List Int) (w:World) (hl:zs.length=n) (hd:Has w ao zs) (hn:n≤9223372036854775807) :
  Calls Tryz.prog 91 #[.slice ao n cap] w fun e w'=>∃ v,e=.returned v∧w'.ownsRow w.heap.size 5 1 v (asc zs).length ((asc zs).map (Value.int .u8))∧Below w.heap.size w w':=by
 obtain ⟨i5,hi,hz5,hz6,hz7⟩:=info_parts info_u8
 have HD:=hide hd
 clear hd
 go_enter Tryz.func91,Tryz.ntmps91
 go_wp2_with fail
 go_loopw [3,4] (fun v i wr=>∃ k:Nat,k≤256∧i=.int .i64 k∧Hid (wr.ownsRow w.heap.size 5 1 v (ascK zs k).length ((ascK zs k).map (Value.int .u8)))∧Hid (Below w.heap.size w wr))
  (fun _ i _=>256 - (intOf i).toNat)
 case atStart=>exact ⟨0,Nat.zero_le _,rfl,World.ownsRow_nil _ _ _ _,Below.refl _ _⟩
 case round =>
  obtain ⟨k,hk,rfl,HO,HB⟩:=hrel
  have hsz:w.heap.size≤wr.heap.size:=HB.out.size
  by_cases hlt:k < 256
  ·have e1:(k:Int) % 256=k:=by omega
   have HA:=hide (show ascK zs (k + 1)=if inB zs (k:Int) then ascK zs k ++ [(k:Int)] else ascK zs k from rfl)
   have hal:=ascK_len zs k
   go_wp2_with fail
   refine (hasb_any ao n cap zs _ _ hl (HD.out.below HB.out) hn).mono ?_
   rintro e w1 ⟨rfl,m,rfl⟩
   have HO1:Hid ((wr.drewN m).ownsRow w.heap.size 5 1 u3 (ascK zs k).length ((ascK zs k).map (Value.int .u8))):=HO.out
   have HB1:Hid (Below w.heap.size w (wr.drewN m)):=HB.out.trans ⟨rfl,rfl,rfl,Nat.le_refl _,fun _ _=>rfl⟩
   clear HO HB
   have hsz1:w.heap.size≤(wr.drewN m).heap.size:=HB1.out.size
   generalize wr.drewN m=w2 at *
   cases hcon:inB zs (k:Int) with
   | false =>
    rw [hcon] at HA
    go_wp2
    go_roundw
    case rel=>exact ⟨k + 1,by omega,by go_num,by rw [HA.out];exact HO1,HB1⟩
    case measure=>simp [intOf];omega
   | true =>
    rw [hcon] at HA
    go_wp2_with (at_builtin;refine wpList_append_own _ rfl (.tmp 15) (.tmp 17) 38 rfl w.heap.size 5 i5 (.int .u8 0) 1 1 Tryz.underlying38 hi hz5 hz6 hz7 rfl (by decide) _ _ _ rfl (HO1.out.alloc _) ⟨w2.heap.size,0,none⟩ 1 1 [_] rfl rfl (cell_one_new _ _ _) (by simp [Value.oneCell']) (by unfold maxLen;omega) (by omega) (by simp;omega) ?_)
    intro v5 w5 hown hgrow hiff
    have HO5:=hide hown
    have HB5:Hid (Below w.heap.size w w5):=(HB1.out.alloc hsz1 _).grown hgrow (by simp;omega) (fun q hq=>by have:=(HO1.out.lt q hq).1;omega)
    clear hown hiff hgrow
    go_wp2
    go_roundw
    case rel=>exact ⟨k + 1,by omega,by go_num,by rw [HA.out];simpa [Hid] using HO5,HB5⟩
    case measure=>simp [intOf];omega
  ·obtain rfl:k=256:=by omega
   go_wp2
   go_ret
   exact ⟨_,rfl,HO.out,HB.out⟩
theorem below_drew {n:Nat} {w w':World} (h:Below n w w') (m:Nat):Below n w (w'.drewN m):=h.trans ⟨rfl,rfl,rfl,Nat.le_refl _,fun _ _=>rfl⟩
theorem has_two (w:World) (x y:Int) (t:TypeId):Has (w.alloc (.cells #[.int .u8 x,.int .u8 y] t)) (some ⟨w.heap.size,0,none⟩) [x,y]:=by
 refine ⟨by simp,fun _=>⟨w.heap.size,0,rfl,by simp,?_⟩⟩
 intro j hj
 rw [World.cell?_alloc_at _ _ _ _ rfl]
 simp only [List.length_cons,List.length_nil] at hj
 rcases (show j=0∨j=1 by omega) with rfl | rfl <;> rfl
def tkA (Z:List (Option Int)):Array Value:=(Z.map (fun o=>Value.bool o.isSome)).toArray
theorem tkA_get (Z:List (Option Int)) (i:Nat) (hi:i < Z.length):(tkA Z)[i]?=some (.bool (tkd Z i)):=by
 rw [tkA,List.getElem?_toArray,List.getElem?_map,List.getElem?_eq_getElem hi,tkd,List.getD_eq_getElem?_getD,List.getElem?_eq_getElem hi]
 rfl
theorem tkA_size (Z:List (Option Int)):(tkA Z).size=Z.length:=by simp [tkA]
theorem tkA_set (Z:List (Option Int)) (i:Nat) (b:Int):(tkA Z).setIfInBounds i (.bool true)=tkA (Z.set i (some b)):=by
 rw [tkA,tkA,List.setIfInBounds_toArray,List.map_set]
 rfl
theorem wanted_any (b:Int) (Z:List (Option Int)) (w:World) (hb0:0≤b) (hb:b≤255) (hZ:Z.length=31) :
  Calls Tryz.prog 92 #[.int .u8 b,.agg (tkA Z)] w fun e w'=>e=.returned (.int .i64 (slotOf b Z:Nat))∧Below w.heap.size w w':=by
 have HT:Hid (∀ i,i < 31→(tkA Z)[i]?=some (.bool (tkd Z i))):=fun i hi=>tkA_get Z i (by omega)
 have hs:=tkA_size Z
 have HSL:=hide (show slotOf b Z=wanF (tkd Z) (sB b) 30 (fB b) from rfl)
 have HF:=hide (show fB b=(hsh [b,0]).toNat % 31 from rfl)
 have HS:=hide (show sB b=(hsh [b,1]).toNat % 30 + 1 from rfl)
 have b1:=hsh_bd [b,0]
 have b2:=hsh_bd [b,1]
 have H1:=hide (fun (w:World)=>hash_any (some ⟨w.heap.size,0,none⟩) 2 2 [b,0] (w.alloc (.cells #[.int .u8 b,.int .u8 0] 5)) rfl (has_two w b 0 _) (by decide) (by intro z hz;simp at hz;omega))
 have H2:=hide (fun (w:World)=>hash_any (some ⟨w.heap.size,0,none⟩) 2 2 [b,1] (w.alloc (.cells #[.int .u8 b,.int .u8 1] 5)) rfl (has_two w b 1 _) (by decide) (by intro z hz;simp at hz;omega))
 generalize hsh [b,0]=f at *
 generalize hsh [b,1]=s at *
 generalize tkA Z=T at *
 generalize slotOf b Z=so at *
 generalize fB b=ff at *
 generalize sB b=ss at *
 go_enter Tryz.func92,Tryz.ntmps92
 go_wp2_with fail
 have h1:=H1.out (w.alloc (.cells T 137))
 rw [World.size_alloc] at h1
 refine h1.mono ?_
 rintro e w1 ⟨rfl,m1,rfl⟩
 clear h1 H1
 have HB1:Hid (Below (w.heap.size + 1) (w.alloc (.cells T 137)) (((w.alloc (.cells T 137)).alloc (.cells #[.int .u8 b,.int .u8 0] 5)).drewN m1)):=below_drew ((Below.refl _ _).alloc (by simp) _) m1
 have hz1:(((w.alloc (.cells T 137)).alloc (.cells #[.int .u8 b,.int .u8 0] 5)).drewN m1).heap.size=w.heap.size + 2:=by simp
 generalize hW1:(((w.alloc (.cells T 137)).alloc (.cells #[.int .u8 b,.int .u8 0] 5)).drewN m1)=w1
 rw [hW1] at HB1 hz1
 clear hW1
 go_wp2_with fail
 have h2:=H2.out w1
 rw [hz1] at h2
 refine h2.mono ?_
 rintro e w2 ⟨rfl,m2,rfl⟩
 clear h2 H2
 have HB:Hid (Below (w.heap.size + 1) (w.alloc (.cells T 137)) ((w1.alloc (.cells #[.int .u8 b,.int .u8 1] 5)).drewN m2)):=below_drew (HB1.out.alloc (by omega) _) m2
 have hz2:w.heap.size < ((w1.alloc (.cells #[.int .u8 b,.int .u8 1] 5)).drewN m2).heap.size:=by simp;omega
 generalize hW3:((w1.alloc (.cells #[.int .u8 b,.int .u8 1] 5)).drewN m2)=w3
 rw [hW3] at HB hz2
 clear HB1 hz1 hW3
 have CT:=hide (box_cell HB.out)
 clear hs
 go_wp2_with fail
 go_loopw [7,9] (fun sl tr wr=>∃ (k:Nat) (at':Nat),k≤30∧tr=.int .i64 ((k:Int) + 1)∧sl=.int .i64 (at':Int)∧at' < 31∧Hid (so=wanF (tkd Z) ss (30 - k) at')∧∃ m,wr=w3.drewN m)
  (fun _ tr _=>31 - (intOf tr).toNat)
 case atStart =>
  refine ⟨0,ff,by omega,rfl,?_,?_,HSL.out,0,rfl⟩
  ·rw [HF.out];congr 1;omega
  ·rw [HF.out];omega
 case round =>
  obtain ⟨k,at',hk,rfl,rfl,hat,HW,m,rfl⟩:=hrel
  have c0:w3.cell? ⟨w.heap.size,at',none⟩=some (.bool (tkd Z at')):=(CT.out at').trans (HT.out at' hat)
  have hs2:(at':Int) < 31:=by omega
  have HW0:Hid (k=30→so=at'):=fun h=>by rw [HW.out,h];rfl
  have HW1:Hid (tkd Z at'=false→so=at'):=fun h=>by rw [HW.out];cases 30 - k with | zero=>rfl | succ n=>rw [wanF,h];rfl
  have HW2:Hid (k < 30→tkd Z at'=true→so=wanF (tkd Z) ss (30 - (k + 1)) ((at' + ss) % 31)):=fun h ht=>by
   rw [HW.out,show 30 - k=30 - (k + 1) + 1 from by omega,wanF,if_pos ht]
  have hss:1≤ss∧ss≤30:=by have:=HS.out;omega
  have HSI:Hid (s % 30 + 1=(ss:Int)):=by show _=_;have:=HS.out;omega
  generalize tkd Z at'=q at *
  by_cases hk30:k=30
  ·subst hk30
   go_wp2
   go_ret
   exact ⟨ret_int (by rw [HW0.out (by trivial)]),below_drew (below_old HB.out) _⟩
  ·have hk1:(k:Int) + 1 < 31:=by omega
   cases q with
   | false =>
    go_wp2
    go_ret
    exact ⟨ret_int (by rw [HW1.out (by trivial)]),below_drew (below_old HB.out) _⟩
   | true =>
    go_wp2_with fail
    go_roundw
    case rel =>
     refine ⟨k + 1,(at' + ss) % 31,by omega,by go_num,?_,Nat.mod_lt _ (by omega),HW2.out (by omega) (by trivial),_,rfl⟩
     have:=HSI.out
     congr 1
     omega
    case measure=>simp [intOf];omega
end Go.Proofs.YtajphdppmdoalaaGreat
