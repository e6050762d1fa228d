import Derived.Test.YtajphdppmdoalaaGreatZADEtoBD
import Derived.Test.YtajphdppmdoalaaGreatZABBtoBB
import Derived.Test.YtajphdppmdoalaaGreatZAJ6toT4
set_option maxRecDepth 100000
set_option maxHeartbeats 6400000
set_option linter.unusedVariables false
namespace Go.Proofs.YtajphdppmdoalaaGreat
open Go.RowKit
theorem two_rows0 {w7 w8 wy:World} {wb i j:Nat} {vr vk x y:Value} {o1 o2:Obj} (hwb:wb < w7.heap.size) (e1:(w7.alloc o1).grownBy w8 vr.ownBlock) (e2:((w8.setCell ⟨wb,i,none⟩ x).alloc o2).grownBy wy vk.ownBlock) :
  Only (fun k=>k=wb∨vr.ownBlock=some k∨vk.ownBlock=some k) w7 (wy.setCell ⟨wb,j,none⟩ y):=by
 have h1:Only (fun k=>k=wb∨vr.ownBlock=some k∨vk.ownBlock=some k) w7 w8:=((Only.refl _ w7).alloc o1).grown e1 (fun k _ hk=>.inr (.inl hk))
 have h2:Only (fun k=>k=wb∨vr.ownBlock=some k∨vk.ownBlock=some k) w7 (w8.setCell ⟨wb,i,none⟩ x):=h1.setCell (fun _=>.inl rfl) x
 exact ((h2.alloc o2).grown e2 (fun k _ hk=>.inr (.inr hk))).setCell (fun _=>.inl rfl) y
theorem by_done {w7 w8 wy:World} {wb c g8 c8 g10 c10 n0 n1 n2 n3:Nat} {vl ves vbs vfs vke vkb vkf v0 v1 v2 v3:Value} {G:Nat→Prop} {ES BS FS:List Value} {KE KB KF:List Int} {o1 o2:Obj}
  (hK:Book w7 wb vl c G vbs ves vfs vkb vke vkf BS ES FS KB KE KF) (hcn:(BS.length + 4) + ES.length + FS.length≤4 * c)
  (p0:w7.ownsRow 0 5 1 v0 n0 (pgB c n0)) (p1:w7.ownsRow 0 5 1 v1 n1 (pgB c n1)) (p2:w7.ownsRow 0 5 1 v2 n2 (pgB c n2)) (p3:w7.ownsRow 0 5 1 v3 n3 (pgB c n3))
  (a1:w8.ownsRow 0 38 1 (.slice (some ⟨g8,0,none⟩) (BS.length + 4) c8) (BS.length + 4) (BS ++ [v0,v1,v2,v3])) (e1:(w7.alloc o1).grownBy w8 vbs.ownBlock) (h8:vbs.ownBlock=some g8∨w7.heap.size≤g8)
  (a2:wy.ownsRow 0 3 1 (.slice (some ⟨g10,0,none⟩) (BS.length + 4) c10) (BS.length + 4) (KB.map (Value.int .i64) ++ [.int .i64 c,.int .i64 c,.int .i64 c,.int .i64 c])) (e2:((w8.setCell ⟨wb,1,none⟩ (.slice (some ⟨g8,0,none⟩) (BS.length + 4) c8)).alloc o2).grownBy wy vkb.ownBlock) (h10:vkb.ownBlock=some g10∨w8.heap.size≤g10) :
  ∃ G',Book (wy.setCell ⟨wb,4,none⟩ (.slice (some ⟨g10,0,none⟩) (BS.length + 4) c10)) wb vl c G' (.slice (some ⟨g8,0,none⟩) (BS.length + 4) c8) ves vfs (.slice (some ⟨g10,0,none⟩) (BS.length + 4) c10) vke vkf (BS ++ [v0,v1,v2,v3]) ES FS (KB ++ [(c:Int),c,c,c]) KE KF
   ∧ (∀ k,G' k→G k∨(∃ u,(u=v0∨u=v1∨u=v2∨u=v3)∧u.ownBlock=some k)∨w7.heap.size≤k)
   ∧ Only G w7 (wy.setCell ⟨wb,4,none⟩ (.slice (some ⟨g10,0,none⟩) (BS.length + 4) c10)):=by
 have hwb:wb < w7.heap.size:=lt_of_block hK.blk
 have hO:=two_rows0 (i:=1) (j:=4) (x:=.slice (some ⟨g8,0,none⟩) (BS.length + 4) c8) (y:=.slice (some ⟨g10,0,none⟩) (BS.length + 4) c10) hwb e1 e2
 have stay:∀ {u:Value} {e':TypeId} {s' k:Nat} {ys:List Value},w7.ownsRow 0 e' s' u k ys→e' ≠ 34→e' ≠ 38→(∀ g,u.ownBlock=some g→vkb.ownBlock ≠ some g)→(wy.setCell ⟨wb,4,none⟩ (.slice (some ⟨g10,0,none⟩) (BS.length + 4) c10)).ownsRow 0 e' s' u k ys:=by
  intro u e' s' k ys hu hn1 hn2 hd
  refine own_only hu hO (fun g hg hh=>?_)
  rcases hh with rfl | hh | hh
  ·exact own_apart_blk hu hK.blk hn1 hg
  ·exact own_apart' hu hK.cb.row hn2 hg hh
  ·exact hd g hg hh
 have tag:∀ {u:Value} {e':TypeId} {s' k:Nat} {ys:List Value},w7.ownsRow 0 e' s' u k ys→e' ≠ 3→∀ g,u.ownBlock=some g→vkb.ownBlock ≠ some g:=fun hu hne g hg=>own_apart' hu hK.cb.ks hne hg
 have hw7a:(w7.alloc o1).heap[wb]?=_:=(Below.heap_alloc _ _ _ hwb).trans hK.blk
 have hw8:w8.heap[wb]?=_:=(e1.block wb (lt_of_block hw7a) (fun hh=>own_apart_blk hK.cb.row hK.blk (by decide) hh.symm)).trans hw7a
 have hw9:=row_setCell (j:=1) hw8 (.slice (some ⟨g8,0,none⟩) (BS.length + 4) c8)
 have hw9b:((w8.setCell ⟨wb,1,none⟩ (.slice (some ⟨g8,0,none⟩) (BS.length + 4) c8)).alloc o2).heap[wb]?=_:=(Below.heap_alloc _ _ _ (lt_of_block hw9)).trans hw9
 have hwy:wy.heap[wb]?=_:=(e2.block wb (lt_of_block hw9b) (fun hh=>own_apart_blk hK.cb.ks hK.blk (by decide) hh.symm)).trans hw9b
 have hwz:=row_setCell (j:=4) hwy (.slice (some ⟨g10,0,none⟩) (BS.length + 4) c10)
 have h8lt:g8 < w8.heap.size:=(a1.lt g8 rfl).2
 have h10lt:g10 < wy.heap.size:=(a2.lt g10 rfl).2
 have hsz8:w7.heap.size≤w8.heap.size:=by have:=e1.size;simp at this;omega
 have a1':(wy.setCell ⟨wb,4,none⟩ (.slice (some ⟨g10,0,none⟩) (BS.length + 4) c10)).ownsRow 0 38 1 (.slice (some ⟨g8,0,none⟩) (BS.length + 4) c8) (BS.length + 4) (BS ++ [v0,v1,v2,v3]):=by
  have b1:=own_set' (j:=1) a1 hw8 (by decide) (.slice (some ⟨g8,0,none⟩) (BS.length + 4) c8)
  have b2:((w8.setCell ⟨wb,1,none⟩ (.slice (some ⟨g8,0,none⟩) (BS.length + 4) c8)).alloc o2).ownsRow 0 38 1 (.slice (some ⟨g8,0,none⟩) (BS.length + 4) c8) (BS.length + 4) (BS ++ [v0,v1,v2,v3]):=b1.alloc o2
  have b3:=own_only b2 (Only.of_grown e2) (fun g hg hh=>?_)
  ·exact own_set' (j:=4) b3 hwy (by decide) _
  ·simp only [Value.ownBlock,Option.some.injEq] at hg
   subst hg
   have h7:=own_tag' hK.cb.ks hh
   obtain ⟨cur,hcur⟩:=h7
   rcases h8 with h8 | h8
   ·exact own_apart' hK.cb.row hK.cb.ks (by decide) h8 hh
   ·have:=lt_of_block hcur
    omega
 have a2':=own_set' (j:=4) a2 hwy (by decide) (.slice (some ⟨g10,0,none⟩) (BS.length + 4) c10)
 refine ⟨fun k=>G k∨(∃ u,(u=v0∨u=v1∨u=v2∨u=v3)∧u.ownBlock=some k)∨k=g8∨k=g10,⟨?_,?_,?_,?_,?_,?_,hK.dfe,.inl hK.gw,?_,?_,?_⟩,?_,?_⟩
 ·simpa using hwz
 ·exact hK.cb.add hK.len.1 (fun k hk=>.inl hk) (fun u m ys h=>stay h (by decide) (by decide) (tag h (by decide))) v0 v1 v2 v3 n0 n1 n2 n3 c (by omega) (Int.le_refl _) p0 p1 p2 p3 (fun u hu g hg=>.inr (.inl ⟨u,hu,hg⟩)) a1' a2' (fun g hg=>by simp only [Value.ownBlock,Option.some.injEq] at hg;exact .inr (.inr (.inl hg.symm))) (fun g hg=>by simp only [Value.ownBlock,Option.some.injEq] at hg;exact .inr (.inr (.inr hg.symm)))
 ·exact hK.ce.keep (fun k hk=>.inl hk) (Nat.le_refl _) (fun h=>stay h (by decide) (by decide) (tag h (by decide))) (fun h=>stay h (by decide) (by decide) (fun g hg hh=>hK.dbe g hh hg)) (fun u m ys h=>stay h (by decide) (by decide) (tag h (by decide)))
 ·exact hK.cf.keep (fun k hk=>.inl hk) (Nat.le_refl _) (fun h=>stay h (by decide) (by decide) (tag h (by decide))) (fun h=>stay h (by decide) (by decide) (fun g hg hh=>hK.dbf g hh hg)) (fun u m ys h=>stay h (by decide) (by decide) (tag h (by decide)))
 ·intro g hg hh
  simp only [Value.ownBlock,Option.some.injEq] at hg
  subst hg
  rcases h10 with h10 | h10
  ·exact hK.dbe _ h10 hh
  ·have:=own_lt0 hK.ce.ks _ hh
   omega
 ·intro g hg hh
  simp only [Value.ownBlock,Option.some.injEq] at hg
  subst hg
  rcases h10 with h10 | h10
  ·exact hK.dbf _ h10 hh
  ·have:=own_lt0 hK.cf.ks _ hh
   omega
 ·have hsz:=hO.size
  have hszy:wy.heap.size≤(wy.setCell ⟨wb,4,none⟩ (.slice (some ⟨g10,0,none⟩) (BS.length + 4) c10)).heap.size:=by simp
  have hsz9:w8.heap.size≤wy.heap.size:=by have:=e2.size;simp at this;omega
  rintro k (hk | ⟨u,hu,hk⟩ | rfl | rfl)
  ·exact Nat.lt_of_lt_of_le (hK.flt k hk) hsz
  ·rcases hu with rfl | rfl | rfl | rfl
   ·exact Nat.lt_of_lt_of_le (own_lt0 p0 k hk) hsz
   ·exact Nat.lt_of_lt_of_le (own_lt0 p1 k hk) hsz
   ·exact Nat.lt_of_lt_of_le (own_lt0 p2 k hk) hsz
   ·exact Nat.lt_of_lt_of_le (own_lt0 p3 k hk) hsz
  ·omega
  ·omega
 ·refine ⟨?_,hK.len.2.1,hK.len.2.2⟩
  have:=hK.len.1
  simp
  omega
 ·simp
  omega
 ·rintro k (hk | hk | rfl | rfl)
  ·exact .inl hk
  ·exact .inr (.inl hk)
  ·rcases h8 with h8 | h8
   ·exact .inl (hK.cb.gr _ h8)
   ·exact .inr (.inr h8)
  ·rcases h10 with h10 | h10
   ·exact .inl (hK.cb.gk _ h10)
   ·exact .inr (.inr (by omega))
 ·exact hO.mono (fun k _ hk=>by
   rcases hk with rfl | hk | hk
   ·exact hK.gw
   ·exact hK.cb.gr k hk
   ·exact hK.cb.gk k hk)
theorem bytes_all (wb:Nat) (vl:Value) (c:Nat) (G:Nat→Prop) (vbs ves vfs vkb vke vkf:Value) (BS ES FS:List Value) (KB KE KF:List Int) (lv:Value) (n:Nat) (zs:List Int) (w:World) (h:Book w wb vl c G vbs ves vfs vkb vke vkf BS ES FS KB KE KF) (hl:w.ownsRow 0 5 1 lv n (zs.map (Value.int .u8))) (hG:∀ g,lv.ownBlock=some g→¬ G g) (hn:n≤2000000000000) (hc:c≤1466015503700) :
  Calls Tryz.prog 30 #[.pointer (some ⟨wb,1,none⟩),lv] w fun e w'=>e=.returned (.tuple #[])∧∃ G' vbs' vkb' BS' KB',Book w' wb vl (c + 1) G' vbs' ves vfs vkb' vke vkf BS' ES FS KB' KE KF∧(∀ k,G' k→G k∨lv.ownBlock=some k∨w.heap.size≤k)∧Only (fun k=>G k∨lv.ownBlock=some k) w w':=by
 obtain ⟨i5,hi5,hz5,hz6,hz7⟩:=info_parts Tryz.info5
 obtain ⟨i30,hi30,hy5,hy6,hy7⟩:=info_parts Tryz.info30
 obtain ⟨i3,hi3,hx5,hx6,hx7⟩:=info_parts Tryz.info3
 have HI:=hide (And.intro hi5 (And.intro hz5 (And.intro hz6 hz7)))
 have HI30:=hide (And.intro hi30 (And.intro hy5 (And.intro hy6 hy7)))
 have HI3:=hide (And.intro hi3 (And.intro hx5 (And.intro hx6 hx7)))
 clear hi5 hz5 hz6 hz7 hi30 hy5 hy6 hy7 hi3 hx5 hx6 hx7
 have HH:=hide h
 have hzl:zs.length=n:=by simpa using hl.1
 have HZL:=hide hzl
 have hwb:wb < w.heap.size:=lt_of_block h.blk
 have cw:=arr_cell h.blk
 have fw:=arr_frozen h.blk
 have hw1:=row_setCell (j:=7) h.blk (.int .i64 ((c:Int) + 1))
 have HW1:Hid ((w.setCell ⟨wb,7,none⟩ (.int .i64 ((c:Int) + 1))).heap[wb]?=some (.cells #[vl,vbs,ves,vfs,vkb,vke,vkf,.int .i64 ((c:Int) + 1)] 34 (0,0))):=by show _=_;simpa using hw1
 have HB1:Hid ((w.setCell ⟨wb,7,none⟩ (.int .i64 ((c:Int) + 1))).ownsRow 0 5 1 lv n ((sg ((c:Int) + 1) 0 ++ zs.drop 0).map (Value.int .u8))):=by
  have h1:=own_set' (j:=7) hl h.blk (by decide) (.int .i64 ((c:Int) + 1))
  show World.ownsRow _ _ _ _ _ _ _
  simpa [sg] using h1
 have HW1x:Hid (∀ k,k ≠ wb→(w.setCell ⟨wb,7,none⟩ (.int .i64 ((c:Int) + 1))).heap[k]?=w.heap[k]?):=fun k hk=>Below.heap_setCell _ _ _ _ hk
 have HOS:Hid ((w.setCell ⟨wb,7,none⟩ (.int .i64 ((c:Int) + 1))).os=w.os∧(w.setCell ⟨wb,7,none⟩ (.int .i64 ((c:Int) + 1))).tape=w.tape∧(w.setCell ⟨wb,7,none⟩ (.int .i64 ((c:Int) + 1))).output=w.output):=⟨rfl,rfl,rfl⟩
 have hsz1:w.heap.size≤(w.setCell ⟨wb,7,none⟩ (.int .i64 ((c:Int) + 1))).heap.size:=by simp
 have cw1:=arr_cell HW1.out
 obtain ⟨la,lc,hlv⟩:=own_slice hl
 subst hlv
 clear h hl hw1 hzl
 go_enter Tryz.func30,Tryz.ntmps30
 go_wp2_with fail
 generalize w.setCell ⟨wb,7,none⟩ (.int .i64 ((c:Int) + 1))=w1 at *
 clear cw fw
 go_loopw [6] (fun i wr=>∃ j:Nat,j≤n∧i=.int .i64 j∧Hid (wr.ownsRow 0 5 1 (.slice la n lc) n ((sg ((c:Int) + 1) j ++ zs.drop j).map (Value.int .u8)))∧Hid (Only (fun k=>Value.ownBlock (.slice la n lc)=some k) w1 wr))
  (fun i _=>n - (intOf i).toNat)
 case atStart=>exact ⟨0,Nat.zero_le _,rfl,HB1.out,Only.refl _ _⟩
 case round =>
  obtain ⟨j,hj,rfl,HO,HN⟩:=hrel
  by_cases hlt:j < n
  ·obtain ⟨g,q0,hgq⟩:=own_some HO.out (by omega)
   rw [Value.slice.injEq] at hgq
   obtain ⟨rfl,_,rfl⟩:=hgq
   have hcell:=HO.out.cellAt j (by omega)
   have hfro:=HO.out.frozenAt j
   rw [List.getElem?_eq_getElem (by have:=HO.out.1;omega)] at hcell
   go_wp2_with (first | (go_at_call 23;refine (sign_any ((c:Int) + 1) j _ (by omega) (by omega) (by omega)).mono ?_;rintro e w' ⟨rfl,rfl⟩))
   go_roundw
   case rel =>
    have h:=HO.out.stored j (.int .u8 (sgn ((c:Int) + 1) j))
    rw [sg_step _ _ _ (by have:=HZL.out;omega)] at h
    exact ⟨j + 1,by omega,by go_num,h.1,HN.out.trans (Only.of_grown h.2) (fun k _ hk=>hk)⟩
   case measure=>simp [intOf];omega
  ·obtain rfl:j=n:=by omega
   have hdr:zs.drop j=[]:=List.drop_eq_nil_of_le (by have:=HZL.out;omega)
   rw [hdr,List.append_nil] at HO
   obtain ⟨hi5,hz5,hz6,hz7⟩:=HI.out
   clear hdr cw1 HB1
   go_wp2_with fail
   refine (sign_int ((c:Int) + 1) ((j:Int)) _ (by omega) (by omega) (by omega) (by omega)).mono ?_
   rintro e w' ⟨rfl,rfl⟩
   rw [show ((j:Int)).toNat=j from by omega]
   go_wp2_with (at_builtin;refine wpList_append_at _ rfl (.tmp 34) (.tmp 38) 38 rfl 5 i5 _ 1 1 Tryz.underlying38 hi5 hz5 hz6 hz7 rfl (by decide) _ _ _ rfl (HO.out.alloc _) ⟨w'.heap.size,0,none⟩ 1 1 (by decide) [.int .u8 (sgn ((c:Int) + 1) (j))] rfl rfl (cell_one_new _ _ _) (by simp [Value.oneCell']) (by unfold maxLen;omega) (by omega) ?_)
   intro g1 c1 w5 hown hgrow hwh hkeep
   have LS:Hid (Only (fun k=>Value.ownBlock (.slice la j lc)=some k∨w1.heap.size≤k) w1 w5):=((HN.out.mono (fun k _ hk=>.inl hk)).alloc _).grown hgrow (fun k _ hk=>.inl hk)
   have HP0:=hide (hkeep _ _ _ _ _ (HO.out.alloc _) (fun _=>⟨by omega,rfl,rfl⟩))
   have HP1:Hid (w5.ownsRow 0 5 1 (.slice (some ⟨g1,0,none⟩) (j + 1) c1) (j + 1) ((sg ((c:Int) + 1) (j + 1)).map (Value.int .u8))):=by show World.ownsRow _ _ _ _ _ _ _;simpa [sg] using hown
   have HG1:Hid (Value.ownBlock (.slice la j lc)=some g1∨w1.heap.size≤g1):=hwh.imp id (fun h1=>by have:=HN.out.size;first | omega | (simp at h1;omega))
   clear hown hgrow hwh hkeep HO HN
   go_wp2_with fail
   refine (sign_int ((c:Int) + 1) ((j:Int) + 1) _ (by omega) (by omega) (by omega) (by omega)).mono ?_
   rintro e w' ⟨rfl,rfl⟩
   rw [show ((j:Int) + 1).toNat=j + 1 from by omega]
   go_wp2_with (at_builtin;refine wpList_append_at _ rfl (.tmp 40) (.tmp 45) 38 rfl 5 i5 _ 1 1 Tryz.underlying38 hi5 hz5 hz6 hz7 rfl (by decide) _ _ _ rfl (HP1.out.alloc _) ⟨w'.heap.size,0,none⟩ 1 1 (by decide) [.int .u8 (sgn ((c:Int) + 1) (j + 1))] rfl rfl (cell_one_new _ _ _) (by simp [Value.oneCell']) (by unfold maxLen;omega) (by omega) ?_)
   intro g2 c2 w6 hown hgrow hwh hkeep
   have LS6:Hid (Only (fun k=>Value.ownBlock (.slice la j lc)=some k∨w1.heap.size≤k) w1 w6):=(LS.out.alloc _).grown hgrow (fun k _ hk=>by simp only [Value.ownBlock,Option.some.injEq] at hk;rw [← hk];exact HG1.out)
   have HQ0:=hide (hkeep _ _ _ _ _ (HP0.out.alloc _) (fun _=>⟨by omega,rfl,rfl⟩))
   have HQ1:=hide (hkeep _ _ _ _ _ (HP1.out.alloc _) (fun _=>⟨by omega,rfl,rfl⟩))
   have HQ2:Hid (w6.ownsRow 0 5 1 (.slice (some ⟨g2,0,none⟩) (j + 2) c2) (j + 2) ((sg ((c:Int) + 1) (j + 2)).map (Value.int .u8))):=by show World.ownsRow _ _ _ _ _ _ _;simpa [sg] using hown
   have HG2:Hid (Value.ownBlock (.slice la j lc)=some g2∨w1.heap.size≤g2):=by
    rcases hwh with h1 | h1
    ·simp only [Value.ownBlock,Option.some.injEq] at h1
     rw [← h1];exact HG1.out
    ·exact .inr (by have:=LS.out.size;first | omega | (simp at h1;omega))
   clear hown hgrow hwh hkeep HP0 HP1 LS
   go_wp2_with fail
   refine (sign_int ((c:Int) + 1) ((j:Int) + 2) _ (by omega) (by omega) (by omega) (by omega)).mono ?_
   rintro e w' ⟨rfl,rfl⟩
   rw [show ((j:Int) + 2).toNat=j + 2 from by omega]
   go_wp2_with (at_builtin;refine wpList_append_at _ rfl (.tmp 47) (.tmp 52) 38 rfl 5 i5 _ 1 1 Tryz.underlying38 hi5 hz5 hz6 hz7 rfl (by decide) _ _ _ rfl (HQ2.out.alloc _) ⟨w'.heap.size,0,none⟩ 1 1 (by decide) [.int .u8 (sgn ((c:Int) + 1) (j + 2))] rfl rfl (cell_one_new _ _ _) (by simp [Value.oneCell']) (by unfold maxLen;omega) (by omega) ?_)
   intro g3 c3 w7 hown hgrow hwh hkeep
   have LS7:Hid (Only (fun k=>Value.ownBlock (.slice la j lc)=some k∨w1.heap.size≤k) w1 w7):=(LS6.out.alloc _).grown hgrow (fun k _ hk=>by simp only [Value.ownBlock,Option.some.injEq] at hk;rw [← hk];exact HG2.out)
   have HR0:=hide (hkeep _ _ _ _ _ (HQ0.out.alloc _) (fun _=>⟨by omega,rfl,rfl⟩))
   have HR1:=hide (hkeep _ _ _ _ _ (HQ1.out.alloc _) (fun _=>⟨by omega,rfl,rfl⟩))
   have HR2:=hide (hkeep _ _ _ _ _ (HQ2.out.alloc _) (fun _=>⟨by omega,rfl,rfl⟩))
   have HR3:Hid (w7.ownsRow 0 5 1 (.slice (some ⟨g3,0,none⟩) (j + 3) c3) (j + 3) ((sg ((c:Int) + 1) (j + 3)).map (Value.int .u8))):=by show World.ownsRow _ _ _ _ _ _ _;simpa [sg] using hown
   have HG3:Hid (Value.ownBlock (.slice la j lc)=some g3∨w1.heap.size≤g3):=by
    rcases hwh with h1 | h1
    ·simp only [Value.ownBlock,Option.some.injEq] at h1
     rw [← h1];exact HG2.out
    ·exact .inr (by have:=LS6.out.size;first | omega | (simp at h1;omega))
   have hwl:¬ (Value.ownBlock (.slice la j lc)=some wb∨w1.heap.size≤wb):=fun hh=>hh.elim (fun h1=>hG wb h1 HH.out.gw) (fun h1=>by omega)
   have HW7:Hid (w7.heap[wb]?=some (.cells #[vl,vbs,ves,vfs,vkb,vke,vkf,.int .i64 ((c + 1:Nat):Int)] 34 (0,0))):=(LS7.out.block wb (by omega) hwl).trans HW1.out
   have HK7:Hid (Book w7 wb vl (c + 1) G vbs ves vfs vkb vke vkf BS ES FS KB KE KF):=HH.out.move (Nat.le_trans hsz1 LS7.out.size) (fun k hk hne=>by
    have h1:=HH.out.flt k hk
    exact (LS7.out.block k (by omega) (fun hh=>hh.elim (fun h2=>hG k h2 hk) (fun h2=>by omega))).trans (HW1x.out k hne)) vl (c + 1) (by omega) HW7.out
   have HW70:Hid (Only (fun k=>G k∨Value.ownBlock (.slice la j lc)=some k) w w7):=by
    refine ⟨LS7.out.os.trans HOS.out.1,LS7.out.tape.trans HOS.out.2.1,LS7.out.output.trans HOS.out.2.2,by have:=LS7.out.size;omega,fun k hk hn=>?_⟩
    exact (LS7.out.block k (by omega) (fun hh=>hh.elim (fun h2=>hn (.inr h2)) (fun h2=>by omega))).trans (HW1x.out k (fun e=>hn (.inl (by rw [e];exact HH.out.gw))))
   clear hown hgrow hwh hkeep HQ0 HQ1 HQ2 LS6 hi5 hz5 hz6 hz7 HI
   have cw:=arr_cell HW7.out
   have hwb7:wb < w7.heap.size:=lt_of_block HW7.out
   obtain ⟨hi30,hy5,hy6,hy7⟩:=HI30.out
   have hcn:=HH.out.cnt
   obtain ⟨xa,xc,hvx⟩:=own_slice HK7.out.cb.row
   subst hvx
   go_wp2_with (at_builtin;refine wpList_append_at _ rfl (.tmp 58) (.tmp 63) 28 rfl 38 i30 _ 1 24 Tryz.underlying28 hi30 hy5 hy6 hy7 rfl (by decide) _ _ _ rfl (HK7.out.cb.row.alloc _) _ 4 4 (by decide) [.slice la j lc,.slice (some ⟨g1,0,none⟩) (j + 1) c1,.slice (some ⟨g2,0,none⟩) (j + 2) c2,.slice (some ⟨g3,0,none⟩) (j + 3) c3] rfl rfl (cells_new _ _ _) (by simp [Value.oneCell']) (by unfold maxLen;omega) (by omega) ?_)
   intro g8 c8 w8 hown8 hgrow8 hwh8 hkeep8
   have hne8:some wb ≠ Value.ownBlock (.slice xa BS.length xc):=fun hh=>own_apart_blk HK7.out.cb.row HW7.out (by decide) hh.symm
   have HW8:Hid (w8.heap[wb]?=some (.cells #[vl,.slice xa BS.length xc,ves,vfs,vkb,vke,vkf,.int .i64 ((c + 1:Nat):Int)] 34 (0,0))):=(hgrow8.block wb (by simp;omega) hne8).trans ((Below.heap_alloc _ _ _ hwb7).trans HW7.out)
   have HKB8:Hid (w8.ownsRow 0 3 1 vkb BS.length (KB.map (Value.int .i64))):=own_only (HK7.out.cb.ks.alloc _) (Only.of_grown hgrow8) (fun g hg hv=>own_apart' HK7.out.cb.ks HK7.out.cb.row (by decide) hg hv)
   clear cw hi30 hy5 hy6 hy7 HI30
   have cw:=arr_cell HW8.out
   have fw:=arr_frozen HW8.out
   have hwb8:wb < w8.heap.size:=lt_of_block HW8.out
   obtain ⟨hi3,hx5,hx6,hx7⟩:=HI3.out
   have HKB9:=hide (own_set' (j:=1) HKB8.out HW8.out (by decide) (.slice (some ⟨g8,0,none⟩) (BS.length + 4) c8))
   have H8:=hide (And.intro hown8 (And.intro hgrow8 hwh8))
   clear hown8 hgrow8 hwh8 hkeep8
   have HCN:Hid (∀ (q:Nat) (u:Value),[Value.int .i64 ((c:Int) + 1),.int .i64 ((c:Int) + 1),.int .i64 ((c:Int) + 1),.int .i64 ((c:Int) + 1)][q]?=some u→((w8.setCell ⟨wb,1,none⟩ (.slice (some ⟨g8,0,none⟩) (BS.length + 4) c8)).alloc (.cells #[.int .i64 ((c:Int) + 1),.int .i64 ((c:Int) + 1),.int .i64 ((c:Int) + 1),.int .i64 ((c:Int) + 1)] 3 (0,0))).cell? ((⟨w8.heap.size,0,none⟩:Addr).add q)=some u):=by
    have h:=cells_new (w8.setCell ⟨wb,1,none⟩ (.slice (some ⟨g8,0,none⟩) (BS.length + 4) c8)) [Value.int .i64 ((c:Int) + 1),.int .i64 ((c:Int) + 1),.int .i64 ((c:Int) + 1),.int .i64 ((c:Int) + 1)] 3
    rw [World.size_setCell] at h
    exact h
   obtain ⟨ka,kc,hvk⟩:=own_slice HKB9.out
   subst hvk
   go_wp2_with (at_builtin;refine wpList_append_at _ rfl (.tmp 71) (.tmp 76) 24 rfl 3 i3 (.int .i64 0) 1 8 Tryz.underlying24 hi3 hx5 hx6 hx7 rfl (by decide) _ _ _ rfl (HKB9.out.alloc _) ⟨w8.heap.size,0,none⟩ 4 4 (by decide) [.int .i64 ((c:Int) + 1),.int .i64 ((c:Int) + 1),.int .i64 ((c:Int) + 1),.int .i64 ((c:Int) + 1)] rfl rfl HCN.out (by simp [Value.oneCell']) (by unfold maxLen;omega) (by omega) ?_)
   intro g10 c10 wy hown10 hgrow10 hwh10 hkeep10
   have HW9:=hide (row_setCell (j:=1) HW8.out (.slice (some ⟨g8,0,none⟩) (BS.length + 4) c8))
   have HWY:=hide (blk_stay ((Below.heap_alloc _ _ _ (lt_of_block HW9.out)).trans HW9.out) (HKB9.out.alloc _) (by decide) hgrow10)
   have HD:=hide (And.intro hown10 (And.intro hgrow10 (And.intro hwh10 HH.out.flt)))
   clear cw fw hown10 hgrow10 hwh10 hkeep10 hi3 hx5 hx6 hx7 HI3 HCN
   have cw:=arr_cell HWY.out
   have fw:=arr_frozen HWY.out
   have hwby:wb < wy.heap.size:=lt_of_block HWY.out
   go_wp2
   go_end0
   obtain ⟨x1,x2,x3⟩:=H8.out
   obtain ⟨b1,b2,b3,_⟩:=HD.out
   have hd:=by_done HK7.out (by omega) HR0.out HR1.out HR2.out HR3.out x1 x2 (x3.imp id (fun h=>by first | omega | (simp at h;omega))) b1 b2 (b3.imp id (fun h=>by first | omega | (simp at h;omega)))
   obtain ⟨G',d1,d2,d3⟩:=hd
   refine ⟨rfl,G',_,_,_,_,d1,fun k hk=>?_,?_⟩
   ·rcases d2 k hk with d2 | ⟨u,hu,hk'⟩ | d2
    ·exact .inl d2
    ·rcases hu with rfl | rfl | rfl | rfl
     ·exact .inr (.inl hk')
     ·simp only [Value.ownBlock,Option.some.injEq] at hk'
      subst hk'
      exact .inr (HG1.out.imp id (fun h=>by omega))
     ·simp only [Value.ownBlock,Option.some.injEq] at hk'
      subst hk'
      exact .inr (HG2.out.imp id (fun h=>by omega))
     ·simp only [Value.ownBlock,Option.some.injEq] at hk'
      subst hk'
      exact .inr (HG3.out.imp id (fun h=>by omega))
    ·exact .inr (.inr (by have:=LS7.out.size;omega))
   ·exact HW70.out.trans d3 (fun k _ hk=>.inl hk)
theorem fl_done {w7 w8 wy:World} {wb c g8 c8 g10 c10 n0 n1 n2 n3:Nat} {vl vbs vfs ves vkb vkf vke v0 v1 v2 v3:Value} {G:Nat→Prop} {BS FS ES:List Value} {KB KF KE:List Int} {o1 o2:Obj}
  (hK:Book w7 wb vl c G vbs ves vfs vkb vke vkf BS ES FS KB KE KF) (hcn:BS.length + ES.length + (FS.length + 4)≤4 * c)
  (p0:w7.ownsRow 0 64 3 v0 n0 (pgF c n0)) (p1:w7.ownsRow 0 64 3 v1 n1 (pgF c n1)) (p2:w7.ownsRow 0 64 3 v2 n2 (pgF c n2)) (p3:w7.ownsRow 0 64 3 v3 n3 (pgF c n3))
  (a1:w8.ownsRow 0 62 1 (.slice (some ⟨g8,0,none⟩) (FS.length + 4) c8) (FS.length + 4) (FS ++ [v0,v1,v2,v3])) (e1:(w7.alloc o1).grownBy w8 vfs.ownBlock) (h8:vfs.ownBlock=some g8∨w7.heap.size≤g8)
  (a2:wy.ownsRow 0 3 1 (.slice (some ⟨g10,0,none⟩) (FS.length + 4) c10) (FS.length + 4) (KF.map (Value.int .i64) ++ [.int .i64 c,.int .i64 c,.int .i64 c,.int .i64 c])) (e2:((w8.setCell ⟨wb,3,none⟩ (.slice (some ⟨g8,0,none⟩) (FS.length + 4) c8)).drew.alloc o2).grownBy wy vkf.ownBlock) (h10:vkf.ownBlock=some g10∨w8.heap.size≤g10) :
  ∃ G',Book (wy.setCell ⟨wb,6,none⟩ (.slice (some ⟨g10,0,none⟩) (FS.length + 4) c10)) wb vl c G' vbs ves (.slice (some ⟨g8,0,none⟩) (FS.length + 4) c8) vkb vke (.slice (some ⟨g10,0,none⟩) (FS.length + 4) c10) BS ES (FS ++ [v0,v1,v2,v3]) KB KE (KF ++ [(c:Int),c,c,c])
   ∧ (∀ k,G' k→G k∨(∃ u,(u=v0∨u=v1∨u=v2∨u=v3)∧u.ownBlock=some k)∨w7.heap.size≤k)
   ∧ Only G w7 (wy.setCell ⟨wb,6,none⟩ (.slice (some ⟨g10,0,none⟩) (FS.length + 4) c10)):=by
 have hwb:wb < w7.heap.size:=lt_of_block hK.blk
 have hO:=two_rows (i:=3) (j:=6) (x:=.slice (some ⟨g8,0,none⟩) (FS.length + 4) c8) (y:=.slice (some ⟨g10,0,none⟩) (FS.length + 4) c10) hwb e1 e2
 have stay:∀ {u:Value} {e':TypeId} {s' k:Nat} {ys:List Value},w7.ownsRow 0 e' s' u k ys→e' ≠ 34→e' ≠ 62→(∀ g,u.ownBlock=some g→vkf.ownBlock ≠ some g)→(wy.setCell ⟨wb,6,none⟩ (.slice (some ⟨g10,0,none⟩) (FS.length + 4) c10)).ownsRow 0 e' s' u k ys:=by
  intro u e' s' k ys hu hn1 hn2 hd
  refine own_only hu hO (fun g hg hh=>?_)
  rcases hh with rfl | hh | hh
  ·exact own_apart_blk hu hK.blk hn1 hg
  ·exact own_apart' hu hK.cf.row hn2 hg hh
  ·exact hd g hg hh
 have tag:∀ {u:Value} {e':TypeId} {s' k:Nat} {ys:List Value},w7.ownsRow 0 e' s' u k ys→e' ≠ 3→∀ g,u.ownBlock=some g→vkf.ownBlock ≠ some g:=fun hu hne g hg=>own_apart' hu hK.cf.ks hne hg
 have hw7a:(w7.alloc o1).heap[wb]?=_:=(Below.heap_alloc _ _ _ hwb).trans hK.blk
 have hw8:w8.heap[wb]?=_:=(e1.block wb (lt_of_block hw7a) (fun hh=>own_apart_blk hK.cf.row hK.blk (by decide) hh.symm)).trans hw7a
 have hw9:=row_setCell (j:=3) hw8 (.slice (some ⟨g8,0,none⟩) (FS.length + 4) c8)
 have hw9b:((w8.setCell ⟨wb,3,none⟩ (.slice (some ⟨g8,0,none⟩) (FS.length + 4) c8)).drew.alloc o2).heap[wb]?=_:=(Below.heap_alloc _ _ _ (lt_of_block hw9)).trans hw9
 have hwy:wy.heap[wb]?=_:=(e2.block wb (lt_of_block hw9b) (fun hh=>own_apart_blk hK.cf.ks hK.blk (by decide) hh.symm)).trans hw9b
 have hwz:=row_setCell (j:=6) hwy (.slice (some ⟨g10,0,none⟩) (FS.length + 4) c10)
 have h8lt:g8 < w8.heap.size:=(a1.lt g8 rfl).2
 have h10lt:g10 < wy.heap.size:=(a2.lt g10 rfl).2
 have hsz8:w7.heap.size≤w8.heap.size:=by have:=e1.size;simp at this;omega
 have a1':(wy.setCell ⟨wb,6,none⟩ (.slice (some ⟨g10,0,none⟩) (FS.length + 4) c10)).ownsRow 0 62 1 (.slice (some ⟨g8,0,none⟩) (FS.length + 4) c8) (FS.length + 4) (FS ++ [v0,v1,v2,v3]):=by
  have b1:=own_set' (j:=3) a1 hw8 (by decide) (.slice (some ⟨g8,0,none⟩) (FS.length + 4) c8)
  have b2:((w8.setCell ⟨wb,3,none⟩ (.slice (some ⟨g8,0,none⟩) (FS.length + 4) c8)).drew.alloc o2).ownsRow 0 62 1 (.slice (some ⟨g8,0,none⟩) (FS.length + 4) c8) (FS.length + 4) (FS ++ [v0,v1,v2,v3]):=World.ownsRow.alloc (w:=(w8.setCell ⟨wb,3,none⟩ (.slice (some ⟨g8,0,none⟩) (FS.length + 4) c8)).drew) b1 o2
  have b3:=own_only b2 (Only.of_grown e2) (fun g hg hh=>?_)
  ·exact own_set' (j:=6) b3 hwy (by decide) _
  ·simp only [Value.ownBlock,Option.some.injEq] at hg
   subst hg
   have h7:=own_tag' hK.cf.ks hh
   obtain ⟨cur,hcur⟩:=h7
   rcases h8 with h8 | h8
   ·exact own_apart' hK.cf.row hK.cf.ks (by decide) h8 hh
   ·have:=lt_of_block hcur
    omega
 have a2':=own_set' (j:=6) a2 hwy (by decide) (.slice (some ⟨g10,0,none⟩) (FS.length + 4) c10)
 refine ⟨fun k=>G k∨(∃ u,(u=v0∨u=v1∨u=v2∨u=v3)∧u.ownBlock=some k)∨k=g8∨k=g10,⟨?_,?_,?_,?_,hK.dbe,?_,?_,.inl hK.gw,?_,?_,?_⟩,?_,?_⟩
 ·simpa using hwz
 ·exact hK.cb.keep (fun k hk=>.inl hk) (Nat.le_refl _) (fun h=>stay h (by decide) (by decide) (tag h (by decide))) (fun h=>stay h (by decide) (by decide) hK.dbf) (fun u m ys h=>stay h (by decide) (by decide) (tag h (by decide)))
 ·exact hK.ce.keep (fun k hk=>.inl hk) (Nat.le_refl _) (fun h=>stay h (by decide) (by decide) (tag h (by decide))) (fun h=>stay h (by decide) (by decide) hK.dfe) (fun u m ys h=>stay h (by decide) (by decide) (tag h (by decide)))
 ·exact hK.cf.add hK.len.2.2 (fun k hk=>.inl hk) (fun u m ys h=>stay h (by decide) (by decide) (tag h (by decide))) v0 v1 v2 v3 n0 n1 n2 n3 c (by omega) (Int.le_refl _) p0 p1 p2 p3 (fun u hu g hg=>.inr (.inl ⟨u,hu,hg⟩)) a1' a2' (fun g hg=>by simp only [Value.ownBlock,Option.some.injEq] at hg;exact .inr (.inr (.inl hg.symm))) (fun g hg=>by simp only [Value.ownBlock,Option.some.injEq] at hg;exact .inr (.inr (.inr hg.symm)))
 ·intro g hg hh
  simp only [Value.ownBlock,Option.some.injEq] at hh
  subst hh
  rcases h10 with h10 | h10
  ·exact hK.dbf _ hg h10
  ·have:=own_lt0 hK.cb.ks _ hg
   omega
 ·intro g hg hh
  simp only [Value.ownBlock,Option.some.injEq] at hh
  subst hh
  rcases h10 with h10 | h10
  ·exact hK.dfe _ hg h10
  ·have:=own_lt0 hK.ce.ks _ hg
   omega
 ·have hsz:=hO.size
  have hszy:wy.heap.size≤(wy.setCell ⟨wb,6,none⟩ (.slice (some ⟨g10,0,none⟩) (FS.length + 4) c10)).heap.size:=by simp
  have hsz9:w8.heap.size≤wy.heap.size:=by have:=e2.size;simp [World.drew] at this;omega
  rintro k (hk | ⟨u,hu,hk⟩ | rfl | rfl)
  ·exact Nat.lt_of_lt_of_le (hK.flt k hk) hsz
  ·rcases hu with rfl | rfl | rfl | rfl
   ·exact Nat.lt_of_lt_of_le (own_lt0 p0 k hk) hsz
   ·exact Nat.lt_of_lt_of_le (own_lt0 p1 k hk) hsz
   ·exact Nat.lt_of_lt_of_le (own_lt0 p2 k hk) hsz
   ·exact Nat.lt_of_lt_of_le (own_lt0 p3 k hk) hsz
  ·omega
  ·omega
 ·refine ⟨hK.len.1,hK.len.2.1,?_⟩
  have:=hK.len.2.2
  simp
  omega
 ·simp
  omega
 ·rintro k (hk | hk | rfl | rfl)
  ·exact .inl hk
  ·exact .inr (.inl hk)
  ·rcases h8 with h8 | h8
   ·exact .inl (hK.cf.gr _ h8)
   ·exact .inr (.inr h8)
  ·rcases h10 with h10 | h10
   ·exact .inl (hK.cf.gk _ h10)
   ·exact .inr (.inr (by omega))
 ·exact hO.mono (fun k _ hk=>by
   rcases hk with rfl | hk | hk
   ·exact hK.gw
   ·exact hK.cf.gr k hk
   ·exact hK.cf.gk k hk)
end Go.Proofs.YtajphdppmdoalaaGreat
