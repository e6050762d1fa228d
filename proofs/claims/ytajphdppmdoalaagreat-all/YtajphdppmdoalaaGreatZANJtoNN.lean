import Derived.Test.YtajphdppmdoalaaGreatZAMDtoND
import Derived.Test.YtajphdppmdoalaaGreatZANGtoNC
import Derived.Laws.AppendOwnNone
import Derived.Test.YtajphdppmdoalaaGreatZANFtoNM
import Derived.Test.YtajphdppmdoalaaGreatZANHtoNI
set_option maxRecDepth 100000
set_option maxHeartbeats 6400000
set_option linter.unusedVariables false
namespace Go.Proofs.YtajphdppmdoalaaGreat
open Go.RowKit
theorem own_rebase {w:World} {base n s:Nat} {e:TypeId} {v:Value} {xs:List Value} (h:w.ownsRow 0 e s v n xs) (hb:∀ g,v.ownBlock=some g→base≤g):w.ownsRow base e s v n xs:=by
 refine ⟨h.1,?_⟩
 rcases h.2 with h2 | ⟨g,cap,cur,hv,hbs,r⟩
 ·exact .inl h2
 ·exact .inr ⟨g,cap,cur,hv,hb g (by rw [hv];rfl),r⟩
theorem wpList_append_row {P:Program} (w:World) {ops:Array Oper} {rest:List Oper} {o:Oper} {a:Act} {Q:Exit→Act→World→Prop} (hgd:o.guard=none) (s x:Operand) (t:TypeId)
  (ho:o.op=.call { callee:=.builtin .append,args:=#[s,x],argTypes:=#[t,t] })
  (e:TypeId) (i:TypeInfo) (z:Value) (size bytes:Nat) (ht:P.underlying t=some (.slice e)) (hi:P.info? e=some i) (hz:i.zero=some z)
  (hsize:i.size=size) (hby:i.bytes=bytes) (hzs:z.cells.size=size) (hs0:0 < size)
  (v:Value) (n:Nat) (xs:List Value) (hs:a.eval s=v) (hown:w.ownsRow 0 e size v n xs)
  (vx:Value) (m:Nat) (news:List Value) (hx:a.eval x=vx) (hrow:w.ownsRow 0 e size vx m news) (hnil:m=0→vx=.slice none 0 0) (h1:∀ u ∈ news,u.oneCell'=true)
  (h63:n + m≤maxLen) (hbytes:(n + m) * bytes≤140737488355328)
  (h:∀ v' w',w'.ownsRow 0 e size v' (n + m) (xs ++ news)→w.grownBy w' v.ownBlock→(∀ g,v'.ownBlock=some g→v.ownBlock=some g∨w.heap.size≤g)→(m=0→v'=v)→wpList P ops Q rest (a.put o.dst v') w'):wpList P ops Q (o :: rest) a w:=by
 by_cases hm:m=0
 ·subst hm
  have hne:news=[]:=List.eq_nil_of_length_eq_zero (by rw [hrow.1];simp)
  subst hne
  refine wpList_append_own_none hgd s x t ho 0 e i size ht hi v n xs hs hown (hx.trans (hnil rfl)) ?_
  exact h v w (by simpa using hown) ⟨rfl,rfl,rfl,Nat.le_refl _,fun _ _ _=>rfl⟩ (fun g hg=>.inl hg) (fun _=>rfl)
 ·obtain ⟨gx,c,hvx⟩:=own_some hrow (by omega)
  rw [hvx] at hx hrow
  refine wpList_append_at w hgd s x t ho e i z size bytes ht hi hz hsize hby hzs hs0 v n xs hs hown ⟨gx,0,none⟩ m c (by omega) news hx hrow.1 (hrow.cells (g:=gx) rfl) h1 h63 hbytes ?_
  intro g cap w' ho' hg' hwh _
  exact h _ w' ho' hg' (fun g' hg''=>by simp only [Value.ownBlock,Option.some.injEq] at hg'';subst hg'';exact hwh) (fun h0=>absurd h0 hm)
theorem ev_one (l:List Ev):∀ u ∈ l.flatMap Ev.cells,u.oneCell'=true:=by
 intro u hu
 obtain ⟨v,_,hv⟩:=List.mem_flatMap.1 hu
 simp only [Ev.cells,List.mem_cons,List.not_mem_nil,or_false] at hv
 rcases hv with rfl | rfl | rfl <;> rfl
theorem StIs.less {w:World} {vE vE':Value} {R R':List PE} {now:Int} {F:Nat→Prop} (h:StIs w vE R now F) (hs:R'.Sublist R) (hrow:w.ownsRow 0 152 11 vE' R'.length (R'.flatMap (PE.cells now))) (hF:∀ g,vE'.ownBlock=some g→F g):StIs w vE' R' now F :=
 ⟨hrow,fun r hr=>h.rs r (hs.subset hr),fun r hr=>h.rh r (hs.subset hr),h.apS.sublist hs,h.apH.sublist hs,hF,fun r hr=>h.fS r (hs.subset hr),fun r hr=>h.fH r (hs.subset hr),h.flt⟩
theorem StIs.grow {w w':World} {vE vE':Value} {R:List PE} {now:Int} {F G:Nat→Prop} (h:StIs w vE R now F) (e:Ent) (he:e.pcs=[]) (ho:Only G w w') (hG:∀ k,F k→G k→vE.ownBlock=some k)
  (hrow:w'.ownsRow 0 152 11 vE' (R.length + 1) ((R ++ [(⟨e,.slice none 0 0,.slice none 0 0⟩:PE)]).flatMap (PE.cells now))) (hF:∀ g,vE'.ownBlock=some g→vE.ownBlock=some g∨w.heap.size≤g) :
  StIs w' vE' (R ++ [(⟨e,.slice none 0 0,.slice none 0 0⟩:PE)]) now (Grew F w w'):=by
 have hw:waitL e=[]:=by rw [waitL,he];rfl
 have mem:∀ x ∈ R ++ [(⟨e,.slice none 0 0,.slice none 0 0⟩:PE)],x ∈ R∨x=⟨e,.slice none 0 0,.slice none 0 0⟩:=by
  intro x hx
  rcases List.mem_append.1 hx with h | h
  ·exact .inl h
  ·exact .inr (by simpa using h)
 refine ⟨by rw [List.length_append];exact hrow,?_,?_,?_,?_,?_,?_,?_,?_⟩
 ·intro x hx
  rcases mem x hx with hx | rfl
  ·exact own_only (h.rs x hx) ho (fun q hq hh=>own_apart' (h.rs x hx) h.rE (by decide) hq (hG q (h.fS x hx q hq) hh))
  ·simp only [he]
   exact World.ownsRow_nil _ _ _ _
 ·intro x hx
  rcases mem x hx with hx | rfl
  ·exact own_only (h.rh x hx) ho (fun q hq hh=>own_apart' (h.rh x hx) h.rE (by decide) hq (hG q (h.fH x hx q hq) hh))
  ·simp only [hw]
   exact World.ownsRow_nil _ _ _ _
 ·refine List.pairwise_append.2 ⟨h.apS,by simp,?_⟩
  intro a _ b hb q _ hq
  rw [List.mem_singleton.1 hb] at hq
  simp [Value.ownBlock] at hq
 ·refine List.pairwise_append.2 ⟨h.apH,by simp,?_⟩
  intro a _ b hb q _ hq
  rw [List.mem_singleton.1 hb] at hq
  simp [Value.ownBlock] at hq
 ·intro q hq
  rcases hF q hq with h1 | h1
  ·exact .inl (h.fE q h1)
  ·exact .inr ⟨h1,(hrow.lt q hq).2⟩
 ·intro x hx q hq
  rcases mem x hx with hx | rfl
  ·exact .inl (h.fS x hx q hq)
  ·simp [Value.ownBlock] at hq
 ·intro x hx q hq
  rcases mem x hx with hx | rfl
  ·exact .inl (h.fH x hx q hq)
  ·simp [Value.ownBlock] at hq
 ·intro q hq
  rcases hq with hq | hq
  ·exact Nat.lt_of_lt_of_le (h.flt q hq) ho.size
  ·exact hq.2
theorem StIs.wide {w:World} {vE:Value} {R:List PE} {now:Int} {F G:Nat→Prop} (h:StIs w vE R now F) (hG:∀ k,F k→G k) (hlt:∀ k,G k→k < w.heap.size):StIs w vE R now G :=
 ⟨h.rE,h.rs,h.rh,h.apS,h.apH,fun g hg=>hG g (h.fE g hg),fun r hr g hg=>hG g (h.fS r hr g hg),fun r hr g hg=>hG g (h.fH r hr g hg),hlt⟩
theorem arr_same {cs:Array Value} {i:Nat} {v:Value} (h:cs[i]?=some v):cs.setIfInBounds i v=cs:=by
 obtain ⟨hi1,hi2⟩:=Array.getElem?_eq_some_iff.1 h
 rw [Array.setIfInBounds,dif_pos hi1,← hi2,Array.set_getElem_self]
structure StPost (w w':World) (gS i:Nat) (cs:Array Value) (now:Int) (F:Nat→Prop) (L:List Ent) (E:List Ev) (v v2:Value) (R':List PE):Prop where
 cell:w'.heap[gS]?=some (.cells (cs.setIfInBounds i v2) 122 (0,0))
 is:StIs w' v2 R' now (Grew F w w')
 ents:R'.map PE.e=L
 ev:w'.ownsRow w.heap.size 60 3 v E.length (E.flatMap Ev.cells)
 nil:E.length=0→v=.slice none 0 0
 only:Only (fun q=>q=gS∨F q) w w'
theorem come_any (gS i:Nat) (cs:Array Value) (vE:Value) (R:List PE) (now:Int) (F:Nat→Prop) (own:Int) (seq:Nat) (p:Pk) (b:Int) (ok:Bool) (w:World) (hB:w.heap[gS]?=some (.cells cs 122 (0,0))) (c0:cs[i]?=some vE) (h:StIs w vE R now F) (hgF:¬ F gS) (hf:PFew R) (hE:∀ r ∈ R,EOK r.e) (hR:R.length≤3)
  (ho0:0≤p.off) (ho1:p.off≤255) (hd:p.dlen≤1000) (hpb:p.off * 4 + p.dlen≤92) (h9:∀ r ∈ R,r.e.pcs.length≤900) :
  Calls Tryz.prog 100 #[.pointer (some ⟨gS,i,none⟩),.int .i64 seq,p.pc,.int .u8 b,.int .i64 (if ok then 0 else 7)] w fun e w'=>∃ v v2 R',e=.returned v∧StPost w w' gS i cs now F (comeS (R.map PE.e) own now seq p b ok).1 (comeS (R.map PE.e) own now seq p b ok).2 v v2 R':=by
 obtain ⟨ao,cap,hvE⟩:=own_slice h.rE
 subst hvE
 have HH:=hide h
 have HFW:=hide hf
 have HEK:=hide hE
 have H9:=hide h9
 have HBB:=hide hB
 have HC0:=hide c0
 have HGF:=hide hgF
 have hgw:gS < w.heap.size:=lt_of_block hB
 have cw:w.cell? ⟨gS,i,none⟩=some (.slice ao R.length cap):=(arr_cell hB i).trans c0
 have HCW:=hide cw
 have HDG:=hide (fun w=>pdatagram_any p w)
 have hlike:(fun e:Ent=>likeM e p)=(fun e:Ent=>e.src == p.src && e.dst == p.dst && e.proto == p.proto && e.id == p.id):=by funext e;rfl
 have HFD:=hide (fun wz (hb:Below w.heap.size w wz) (hz:w.heap.size≤wz.heap.size)=>find_any gS i _ R now F p.src p.dst p.proto p.id wz (Nat.lt_of_lt_of_le hgw hz) ((hb.cell (p:=⟨gS,i,none⟩) hgw).trans cw) (h.below hb) hf)
 have hK:(R.map PE.e).findIdx (fun e=>e.src == p.src && e.dst == p.dst && e.proto == p.proto && e.id == p.id)=(R.map PE.e).findIdx (fun e=>likeM e p):=by rw [hlike]
 rw [hK] at HFD
 have hKle:(R.map PE.e).findIdx (fun e=>likeM e p)≤R.length:=by have:=List.findIdx_le_length (xs:=R.map PE.e) (p:=fun e=>likeM e p);rw [List.length_map] at this;exact this
 have hcs:comeS (R.map PE.e) own now seq p b ok=if refS (R.map PE.e) ((R.map PE.e).findIdx (fun e=>likeM e p)) (pcM seq p) ok ≠ 0 then (R.map PE.e,[⟨seq,refS (R.map PE.e) ((R.map PE.e).findIdx (fun e=>likeM e p)) (pcM seq p) ok,0⟩]) else (match (begS (R.map PE.e) own now p ((R.map PE.e).findIdx (fun e=>likeM e p)))[(R.map PE.e).findIdx (fun e=>likeM e p)]? with | none=>(R.map PE.e,[]) | some e=>(if wholeM (takenB b e (pcM seq p)).1 then goneM (begS (R.map PE.e) own now p ((R.map PE.e).findIdx (fun e=>likeM e p))) ((R.map PE.e).findIdx (fun e=>likeM e p)) else (begS (R.map PE.e) own now p ((R.map PE.e).findIdx (fun e=>likeM e p))).set ((R.map PE.e).findIdx (fun e=>likeM e p)) (takenB b e (pcM seq p)).1,(takenB b e (pcM seq p)).2)):=rfl
 generalize (R.map PE.e).findIdx (fun e=>likeM e p)=K at *
 have HRF:=hide (fun wz (hb:Below w.heap.size w wz) (hz:w.heap.size≤wz.heap.size)=>refuse_any gS i _ R now F K seq p ok wz (Nat.lt_of_lt_of_le hgw hz) ((hb.cell (p:=⟨gS,i,none⟩) hgw).trans cw) (h.below hb) hf hKle (fun r hr=>(hE r hr).apart) ho0 ho1 hd)
 generalize refS (R.map PE.e) K (pcM seq p) ok=f at *
 have HCS:=hide hcs
 clear hcs hlike hK
 have HAC:=hide (fun (g N cap o:Nat) (xs:List Value) (l wl:List Pc) (sv hv:Value) (known:Bool) (tb:Int) (w:World)=>accept_any g N cap o xs l wl sv hv known tb b seq p w)
 have HP:=hide (And.intro ho0 (And.intro ho1 hd))
 clear h hf hE hB c0 hgF h9
 unfold Pk.pc at *
 generalize (if ok=true then (0:Int) else 7)=ec at *
 have HW0:Hid (FxW w.heap.size w #[.int .u16 p.src,.int .u16 p.dst,.int .u8 p.proto,.int .u16 p.id,.int .u8 p.off,.bool p.more,.int .u16 p.sport,.int .u16 p.dport,.slice none 0 0,.int .i64 p.dlen] (w.alloc (.cells #[.int .u16 p.src,.int .u16 p.dst,.int .u8 p.proto,.int .u16 p.id,.int .u8 p.off,.bool p.more,.int .u16 p.sport,.int .u16 p.dport,.slice none 0 0,.int .i64 p.dlen] 112))):=⟨(Below.refl _ _).alloc (Nat.le_refl _) _,by simp,box_cell (Below.refl _ _)⟩
 generalize hX:w.heap.size=X at *
 go_enter Tryz.func100,Tryz.ntmps100
 go_wp2_with fail
 refine (HDG.out _).mono ?_
 rintro e w1 ⟨rfl,hb1⟩
 have HW1:=hide (HW0.out.below hb1)
 have HWd:=hide (HW1.out.alloc (.cells #[.int .u16 p.src,.int .u16 p.dst,.int .u8 p.proto,.int .u16 p.id] 148))
 have cX:=HW1.out.2.2
 have hX1:=HW1.out.2.1
 clear hb1 HW0 HDG
 go_wp2_with fail
 refine (HFD.out _ HWd.out.1 (Nat.le_of_lt HWd.out.2.1)).mono ?_
 rintro e w3 ⟨rfl,hb3⟩
 have HW3:=hide (HWd.out.below hb3)
 have hz3:w1.heap.size + 1≤w3.heap.size:=by have:=hb3.size;simpa using this
 have hD3':Below (w1.heap.size + 1) (w1.alloc (.cells #[.int .u16 p.src,.int .u16 p.dst,.int .u8 p.proto,.int .u16 p.id] 148)) w3:=hb3.mono (by simp)
 have cD:=box_cell hD3'
 clear hD3'
 have cX3:=HW3.out.2.2
 have hX3:=HW3.out.2.1
 have hDX:X < w1.heap.size:=hX1
 generalize w1.heap.size=D at *
 clear hb3 HWd cX hX1 HFD HW1
 go_wp2_with fail
 refine (HRF.out _ HW3.out.1 (Nat.le_of_lt HW3.out.2.1)).mono ?_
 rintro e w4 ⟨rfl,hb4⟩
 have HW4:=hide (HW3.out.below hb4)
 have hD3:D < w3.heap.size:=by omega
 have cD4:=fun j=>(hb4.cell (p:=⟨D,j,none⟩) hD3).trans (cD j)
 have cX4:=HW4.out.2.2
 have hX4:=HW4.out.2.1
 have hD4:D < w4.heap.size:=Nat.lt_of_lt_of_le hD3 hb4.size
 clear hb4 cD cX3 hX3 HW3 HRF hD3 hz3
 have hg4:gS < w4.heap.size:=by omega
 have e4:=(HW4.out.1.cell (p:=⟨gS,i,none⟩) hgw).trans cw
 by_cases hf0:f=0
 ·subst hf0
  have hcs:=HCS.out
  rw [if_neg (by simp)] at hcs
  obtain ⟨E1,hE1⟩:∃ E1,(begS (R.map PE.e) own now p K)[K]?=some E1:=by
   unfold begS
   by_cases hKl:K < (R.map PE.e).length
   ·rw [if_pos hKl]
    exact ⟨_,List.getElem?_eq_getElem hKl⟩
   ·rw [if_neg hKl]
    have:K=(R.map PE.e).length:=by rw [List.length_map] at *;omega
    rw [this]
    exact ⟨_,get_mid _ [] _⟩
  rw [hE1] at hcs
  simp only at hcs
  have HCR:=hide hcs
  have HE1:=hide hE1
  clear hcs hE1 HCS
  go_upto_if 40 with (fail)
  go_cut [12] (fun a12 wc=>∃ (v1:Value) (R1:List PE),a12=.int .i64 K∧Hid (wc.heap[gS]?=some (.cells (cs.setIfInBounds i v1) 122 (0,0)))∧Hid (StIs wc v1 R1 now (Grew F w wc))∧Hid (R1.map PE.e=begS (R.map PE.e) own now p K)∧Hid ((∀ r ∈ R1,EOK r.e)∧PFew R1∧∀ r ∈ R1,r.e.pcs.length≤900)∧Hid (Only (fun q=>q=gS∨F q) w wc)∧Hid (∀ j,wc.cell? ⟨X,j,none⟩=#[.int .u16 p.src,.int .u16 p.dst,.int .u8 p.proto,.int .u16 p.id,.int .u8 p.off,.bool p.more,.int .u16 p.sport,.int .u16 p.dport,.slice none 0 0,.int .i64 p.dlen][j]?)∧X < wc.heap.size)
  case first =>
   by_cases hKl:K < R.length
   ·have hKi:(K:Int) < (R.length:Int):=by omega
    go_wp2_with fail
    go_meet
    case rel =>
     go_light
     refine ⟨.slice ao R.length cap,R,rfl,?_,?_,?_,⟨HEK.out,HFW.out,H9.out⟩,?_,cX4,hX4⟩
     ·rw [arr_same HC0.out]
      exact (HW4.out.1.block gS hgw).trans HBB.out
     ·exact (HH.out.below (hX ▸ HW4.out.1)).wide (fun k hk=>.inl hk) (fun k hk=>hk.elim (fun hk=>by have:=HH.out.flt k hk;omega) (fun hk=>hk.2))
     ·show _=_
      rw [begS,if_pos (by rw [List.length_map];exact hKl)]
     ·exact Only.of_below (hX ▸ HW4.out.1)
   ·have hKe:K=R.length:=by omega
    subst hKe
    obtain ⟨i0,hi,hq0,hq1,hq2⟩:=info_parts Tryz.infoPe
    have HE4:=hide ((HH.out.below (hX ▸ HW4.out.1)).rE)
    have HB4:=hide ((HW4.out.1.block gS hgw).trans HBB.out)
    have HAP:Hid ((Value.slice ao R.length cap).ownBlock ≠ some gS):=own_apart_blk HE4.out HB4.out (by decide)
    go_wp2_with fail
    go_region_law (refine step_append_lies _ rfl (.tmp 50) (.tmp 53) 120 rfl 0 152 i0 _ 11 88 Tryz.underlying120 hi hq0 hq1 hq2 rfl (by decide) _ R.length _ rfl (World.ownsRow.alloc HE4.out _) ⟨w4.heap.size,0,none⟩ 1 1 [.int .u16 p.src,.int .u16 p.dst,.int .u8 p.proto,.int .u16 p.id,.int .i64 0,.slice none 0 0,.bool false,.int .i64 0,.bool false,.int .u8 0,.slice none 0 0] rfl rfl (cells_new _ _ _) (by simp [Value.oneCell']) (by decide) (by unfold maxLen;omega) (by omega) (Nat.zero_le _) _ rfl ?_;intro g10 cp10 wy hown10 hgrow10 hwh10 hlt10;have yb:wy.heap[gS]?=some (.cells cs 122 (0,0)):=(hgrow10.block gS (by simp;omega) (fun hh=>HAP.out hh.symm)).trans ((Below.heap_alloc _ _ _ hg4).trans HB4.out);have y5:wy.cell? ⟨gS,i,none⟩=some (.slice ao R.length cap):=(arr_cell yb _).trans HC0.out;have yf:=arr_frozen yb i;have yz:gS < wy.heap.size:=lt_of_block yb)
    all_goals (go_wp2_with fail;go_meet)
    all_goals (case rel =>
     go_light
     have ho2:Only (fun k=>(Value.slice ao R.length cap).ownBlock=some k) w4 wy:=(((Only.refl _ w4).alloc (.cells #[.int .u16 p.src,.int .u16 p.dst,.int .u8 p.proto,.int .u16 p.id,.int .i64 0,.slice none 0 0,.bool false,.int .i64 0,.bool false,.int .u8 0,.slice none 0 0] 152)).drewN 1).grown hgrow10 (fun k _ hk=>hk)
     have ho3:Only (fun k=>k=gS∨(Value.slice ao R.length cap).ownBlock=some k) w4 (wy.setCell ⟨gS,i,none⟩ (.slice (some ⟨g10,0,none⟩) (R.length + 1) cp10)):=(ho2.mono (fun k _ hk=>.inr hk)).setCell (fun _=>.inl rfl) _
     have hw4:=(HH.out.below (hX ▸ HW4.out.1))
     have hrow:(wy.setCell ⟨gS,i,none⟩ (.slice (some ⟨g10,0,none⟩) (R.length + 1) cp10)).ownsRow 0 152 11 (.slice (some ⟨g10,0,none⟩) (R.length + 1) cp10) (R.length + 1) ((R ++ [(⟨newS own now p,.slice none 0 0,.slice none 0 0⟩:PE)]).flatMap (PE.cells now)):=by
      have h1:=own_set' (j:=i) hown10 yb (by decide) (.slice (some ⟨g10,0,none⟩) (R.length + 1) cp10)
      have h2:(R ++ [(⟨newS own now p,.slice none 0 0,.slice none 0 0⟩:PE)]).flatMap (PE.cells now)=R.flatMap (PE.cells now) ++ [.int .u16 p.src,.int .u16 p.dst,.int .u8 p.proto,.int .u16 p.id,.int .i64 0,.slice none 0 0,.bool false,.int .i64 0,.bool false,.int .u8 0,.slice none 0 0]:=by
       rw [List.flatMap_append]
       simp [PE.cells,newS,endO]
      rw [h2]
      exact h1
     have hst:=hw4.grow (newS own now p) rfl ho3 (fun k hk hh=>hh.elim (fun hh=>absurd (hh ▸ hk) HGF.out) id) hrow (fun q hq=>by
      simp only [Value.ownBlock,Option.some.injEq] at hq
      subst hq
      rcases hwh10 with hh | hh
      ·exact .inl hh
      ·right
       have:g10=w4.heap.size + 1:=by rw [hh];simp
       omega)
     have hsz:w.heap.size≤w4.heap.size:=by rw [hX];exact Nat.le_of_lt hX4
     refine ⟨.slice (some ⟨g10,0,none⟩) (R.length + 1) cp10,R ++ [⟨newS own now p,.slice none 0 0,.slice none 0 0⟩],rfl,row_setCell yb _,?_,?_,?_,?_,?_,?_⟩
     ·exact hst.wide (fun k hk=>hk.elim .inl (fun hk=>.inr ⟨Nat.le_trans hsz hk.1,hk.2⟩)) (fun k hk=>hk.elim (fun hk=>by have h1:=HH.out.flt k hk;have h2:=ho3.size;omega) (fun hk=>hk.2))
     ·show _=_
      rw [begS,if_neg (by rw [List.length_map];omega),List.map_append]
      rfl
     ·refine ⟨?_,⟨by rw [List.length_append];simp;omega,?_⟩,?_⟩
      ·intro r hr
       rcases List.mem_append.1 hr with hr | hr
       ·exact HEK.out r hr
       ·rw [List.mem_singleton.1 hr]
        exact eok_new _ _ _ _ _ _
      ·intro r hr
       rcases List.mem_append.1 hr with hr | hr
       ·exact HFW.out.2 r hr
       ·rw [List.mem_singleton.1 hr]
        exact ⟨by simp [newS],by simp [newS]⟩
      ·intro r hr
       rcases List.mem_append.1 hr with hr | hr
       ·exact H9.out r hr
       ·rw [List.mem_singleton.1 hr]
        simp [newS]
     ·exact (Only.of_below (hX ▸ HW4.out.1)).trans ho3 (fun k _ hh=>hh.elim .inl (fun hh=>.inr (HH.out.fE k hh)))
     ·intro j
      refine (ho3.cell (p:=⟨X,j,none⟩) hX4 (fun hh=>hh.elim (fun hh=>by simp only at hh;omega) (fun hh=>?_))).trans (cX4 j)
      have:=(HH.out.rE.lt X hh).2
      omega
     ·have:=ho3.size;omega)
  case rest =>
   obtain ⟨v1,R1,rfl,HS1,HI1,HM1,HEF,HO1,HX1,hX1⟩:=hcut
   obtain ⟨w5,hw5⟩:∃ w5,w5=wc:=⟨_,rfl⟩
   subst hw5
   have hz5:w.heap.size≤w5.heap.size:=HO1.out.size
   have hr1:∃ r,R1[K]?=some r∧r.e=E1:=by
    have he:=HE1.out
    rw [← HM1.out,List.getElem?_map] at he
    cases hr:R1[K]? with
    | none=>rw [hr] at he;simp at he
    | some r=>rw [hr] at he;exact ⟨r,rfl,by simpa using he⟩
   obtain ⟨r1,hk1,hre⟩:=hr1
   have hKl1:K < R1.length:=(List.getElem?_eq_some_iff.1 hk1).1
   have hrm:=List.mem_of_getElem? hk1
   obtain ⟨g1,c1,hv1⟩:=own_some HI1.out.rE (by omega)
   subst hv1
   have hl1:R1.length≤1000:=HEF.out.2.1.1
   have hi1:i < cs.size:=(Array.getElem?_eq_some_iff.1 HC0.out).1
   have f5:w5.cell? ⟨gS,i,none⟩=some (.slice (some ⟨g1,0,none⟩) R1.length c1):=(arr_cell HS1.out i).trans (by simp [hi1])
   have hg5:gS < w5.heap.size:=by omega
   have x5:=HX1.out
   have hwl1:=wait_few r1.e (HEF.out.2.1.2 r1 hrm)
   have HACw:=hide (HAC.out g1 R1.length c1 (K * 11) (R1.flatMap (PE.cells now)) r1.e.pcs (waitL r1.e) r1.sv r1.hv r1.e.known r1.e.to w5.drew HI1.out.rE
    (flat_get (PE.cells now) 11 (PE.len now) R1 K r1 hk1 5 _ rfl) (flat_get (PE.cells now) 11 (PE.len now) R1 K r1 hk1 6 _ rfl) (flat_get (PE.cells now) 11 (PE.len now) R1 K r1 hk1 7 _ rfl) (flat_get (PE.cells now) 11 (PE.len now) R1 K r1 hk1 8 _ rfl) (flat_get (PE.cells now) 11 (PE.len now) R1 K r1 hk1 9 _ rfl) (flat_get (PE.cells now) 11 (PE.len now) R1 K r1 hk1 10 _ rfl)
    (HI1.out.rs r1 hrm) (HI1.out.rh r1 hrm) (HEF.out.2.1.2 r1 hrm).1 hwl1.1 HP.out.1 HP.out.2.1 HP.out.2.2)
   have HKR:=hide (And.intro hk1 (And.intro hrm hre))
   have hKi:(K:Int) < (R1.length:Int):=by omega
   clear hwl1 hk1 hrm hre cX4 cD4 e4 HX1 HAC
   go_upto_region 9 with (fail)
   go_cut [15] (fun a15 wc=>∃ (v sv hv:Value),v=a15∧Hid (AccPost w5 g1 R1.length c1 (K * 11) (R1.flatMap (PE.cells now)) r1.e.pcs (waitL r1.e) r1.sv r1.hv r1.e.known r1.e.to b seq p v sv hv wc))
   case first =>
    go_region_with (go_at_call 107;refine HACw.out.mono ?_;rintro e w6 ⟨v,sv',hv',rfl,hacc⟩)
    all_goals (go_wp2_with fail;go_meet)
    all_goals (case rel =>
     go_light
     exact ⟨_,sv',hv',rfl,⟨hacc.ev,hacc.row,hacc.rs,hacc.rh,((Only.refl _ w5).drewN 1).trans hacc.only (fun _ _ hh=>hh),hacc.fs,hacc.fh,hacc.nil⟩⟩)
   case rest =>
    obtain ⟨a15,sv',hv',h15,HACC⟩:=hcut
    subst h15
    obtain ⟨w6,hw6⟩:∃ w6,w6=wc:=⟨_,rfl⟩
    subst hw6
    have hput:=HI1.out.put K r1 HKR.out.1 b seq p a15 sv' hv' HP.out.1 HACC.out
    have HPUT:=hide hput
    clear hput HACw
    generalize hr2:(⟨(takenB b r1.e (pcM seq p)).1,sv',hv'⟩:PE)=r2 at *
    have hnG:¬ Grew F w w5 gS:=fun hh=>hh.elim HGF.out (fun hh=>by omega)
    have HS6:Hid (w6.heap[gS]?=some (.cells (cs.setIfInBounds i (.slice (some ⟨g1,0,none⟩) R1.length c1)) 122 (0,0))):=(HPUT.out.2.block gS hg5 hnG).trans HS1.out
    have HO6:Hid (Only (fun q=>q=gS∨F q) w w6):=HO1.out.trans HPUT.out.2 (fun k hk hh=>hh.elim .inr (fun hh=>by omega))
    have hz6:w5.heap.size≤w6.heap.size:=HPUT.out.2.size
    have hK2:(R1.set K r2)[K]?=some r2:=List.getElem?_set_self hKl1
    have hR2l:(R1.set K r2).length=R1.length:=List.length_set
    have HI6:Hid (StIs w6 (.slice (some ⟨g1,0,none⟩) R1.length c1) (R1.set K r2) now (Grew F w w6)):=HPUT.out.1.wide (fun k hk=>hk.elim (fun hk=>hk.elim .inl (fun hk=>.inr ⟨hk.1,by omega⟩)) (fun hk=>.inr ⟨by omega,hk.2⟩)) (fun k hk=>hk.elim (fun hk=>by have:=HH.out.flt k hk;omega) (fun hk=>hk.2))
    have hE1':r1.e=E1:=HKR.out.2.2
    have tf:=taken_facts b E1 seq p HP.out.1
    have hEK1:EOK E1:=hE1' ▸ HEF.out.1 r1 HKR.out.2.1
    have hwp:=whole_prog b E1 seq p HP.out.1 (bytes_pos _ hEK1.pos)
    have hr2e:r2.e=(takenB b E1 (pcM seq p)).1:=by rw [← hr2,hE1']
    have hr2s:r2.sv=sv':=by rw [← hr2]
    have hpcb:PcB r2.e.pcs:=by
     rw [hr2e]
     refine ⟨by rw [tf.2.2.1];have:=HEF.out.2.2 r1 HKR.out.2.1;rw [hE1'] at this;omega,?_⟩
     intro q hq
     have hold:=(HEF.out.2.1.2 r1 HKR.out.2.1).2
     rw [hE1'] at hold
     unfold takenB at hq
     simp only at hq
     rcases List.mem_append.1 hq with hq | hq
     ·obtain ⟨q',hq',rfl⟩:=List.mem_map.1 hq
      have:=hold q' hq'
      split <;> exact this
     ·rw [List.mem_singleton.1 hq]
      have h0:=HP.out.1
      simp only [pcM]
      omega
    have HPB:=hide hpcb
    have hrowE:=HI6.out.rE
    rw [hR2l] at hrowE
    have HCO:=hide (complete_any g1 (K * 11) r2.e.pcs r2.sv w6 (hrowE.lt g1 rfl).2 (row_get (PE.cells now) (PE.len now) hrowE K r2 hK2 5 _ rfl) (row_get (PE.cells now) (PE.len now) hrowE K r2 hK2 6 _ rfl) (row_get (PE.cells now) (PE.len now) hrowE K r2 hK2 7 _ rfl) (HI6.out.rs r2 (List.mem_of_getElem? hK2)) hpcb)
    rw [hr2e,← hwp] at HCO
    have f6:w6.cell? ⟨gS,i,none⟩=some (.slice (some ⟨g1,0,none⟩) R1.length c1):=(arr_cell HS6.out i).trans (by simp [hi1])
    have hg6:gS < w6.heap.size:=by omega
    have hmap2:(R1.set K r2).map PE.e=(begS (R.map PE.e) own now p K).set K (takenB b E1 (pcM seq p)).1:=by rw [List.map_set,HM1.out,hr2e]
    have HM2:=hide hmap2
    have hev2:(takenB b E1 (pcM seq p)).2=accEv seq (waitL r1.e) (r1.e.known || p.off == 0) (if p.off=0 then b else r1.e.to):=by rw [hE1'];exact tf.2.2.2.2.2.2.2.2.1
    have HEV2:=hide hev2
    have HNIL:Hid ((takenB b E1 (pcM seq p)).2.length=0→a15=.slice none 0 0):=by
     intro h0
     rw [hev2] at h0
     refine HACC.out.nil ?_
     cases hkk:(r1.e.known || p.off == 0) with
     | false=>rfl
     | true=>rw [hkk] at h0;simp [accEv] at h0
    have hevr:=HACC.out.ev
    rw [← hev2] at hevr
    have HEVR:=hide (ownsRow_base hevr (show X≤w5.heap.size by omega))
    clear hevr hev2 hmap2 hrowE hr2s hr2e hwp hEK1 tf hpcb hE1' hr2 HACC f5 x5
    obtain ⟨ea,ec',hae⟩:=own_slice HEVR.out
    subst hae
    cases hwh:wholeM (takenB b E1 (pcM seq p)).1 with
    | false =>
     rw [hwh] at HCO
     have HWH:=hide hwh
     clear hwh
     go_wp2_with (go_at_call 108;refine HCO.out.mono ?_;rintro e w7 ⟨rfl,hb7⟩)
     go_ret
     have hcr:=HCR.out
     rw [HWH.out] at hcr
     simp only [Bool.false_eq_true,if_false] at hcr
     rw [hcr]
     refine ⟨_,.slice (some ⟨g1,0,none⟩) R1.length c1,R1.set K r2,rfl,⟨?_,?_,HM2.out,?_,HNIL.out,?_⟩⟩
     ·exact (hb7.block gS hg6).trans HS6.out
     ·exact (HI6.out.below hb7).wide (fun k hk=>hk.elim .inl (fun hk=>.inr ⟨hk.1,Nat.lt_of_lt_of_le hk.2 hb7.size⟩)) (fun k hk=>hk.elim (fun hk=>by have h1:=HH.out.flt k hk;have h2:=hb7.size;omega) (fun hk=>hk.2))
     ·rw [hX]
      exact own_below' HEVR.out (fun k hk=>(HEVR.out.lt k hk).2) hb7
     ·exact HO6.out.below hb7
    | true =>
     rw [hwh] at HCO
     have HWH:=hide hwh
     clear hwh
     have HDR:=hide (fun w7 (hb7:Below w6.heap.size w6 w7)=>drop_any gS i K (cs.setIfInBounds i (.slice (some ⟨g1,0,none⟩) R1.length c1)) (.slice (some ⟨g1,0,none⟩) R1.length c1) (R1.set K r2) now (Grew F w w6) w7 ((hb7.block gS hg6).trans HS6.out) (by simp [hi1]) (HI6.out.below hb7) ⟨by rw [hR2l];exact hl1,fun r hr=>(List.mem_or_eq_of_mem_set hr).elim (fun hr=>HEF.out.2.1.2 r hr) (fun hr=>hr ▸ HPB.out)⟩ (by omega))
     go_wp2_with (first | (go_at_call 108;refine HCO.out.mono ?_;rintro e w7 ⟨rfl,hb7⟩) | (go_at_call 109;refine (HDR.out _ hb7).mono ?_;rintro e w8 ⟨rfl,v8,hs8,hr8,ho8⟩))
     go_ret
     have hcr:=HCR.out
     rw [HWH.out] at hcr
     simp only [if_true] at hcr
     rw [hcr]
     have hz7:=hb7.size
     have hz8:=ho8.size
     have hst7:=HI6.out.below hb7
     have hst8:=hst7.only ho8 (fun k hk hh=>hk.elim (fun hk=>HGF.out (hh ▸ hk)) (fun hk=>by omega))
     have hera:((R1.set K r2).eraseIdx K).map PE.e=goneM (begS (R.map PE.e) own now p K) K:=by
      have h1:(R1.set K r2).eraseIdx K=R1.eraseIdx K:=by
       rw [List.eraseIdx_eq_take_drop_succ,List.eraseIdx_eq_take_drop_succ,List.take_set_of_le (Nat.le_refl _),List.drop_set_of_lt (by omega)]
      rw [h1,← HM1.out,goneM,List.eraseIdx_eq_take_drop_succ,List.map_append,List.map_take,List.map_drop]
     refine ⟨_,v8,(R1.set K r2).eraseIdx K,rfl,⟨?_,?_,hera,?_,HNIL.out,?_⟩⟩
     ·rw [hs8,Array.setIfInBounds_setIfInBounds]
     ·refine (hst8.wide (G:=Grew F w w8) (fun k hk=>hk.elim .inl (fun hk=>.inr ⟨hk.1,by omega⟩)) (fun k hk=>hk.elim (fun hk=>by have h1:=HH.out.flt k hk;omega) (fun hk=>hk.2))).less (List.eraseIdx_sublist _ _) (own_zero hr8) (fun q hq=>.inr ⟨by have:=(hr8.lt q hq).1;omega,(hr8.lt q hq).2⟩)
     ·rw [hX]
      refine own_only (own_below' HEVR.out (fun k hk=>(HEVR.out.lt k hk).2) hb7) ho8 (fun k hk hh=>?_)
      have:=(HEVR.out.lt k hk).1
      omega
     ·exact (HO6.out.below hb7).trans ho8 (fun k _ hh=>.inl hh)
 ·have hb0:(f != 0)=true:=by simpa using hf0
  have hcs:=HCS.out
  rw [if_pos hf0] at hcs
  have HCR:=hide hcs
  clear hcs
  go_wp2
  go_ret
  rw [HCR.out]
  have hsame:cs.setIfInBounds i (.slice ao R.length cap)=cs:=arr_same HC0.out
  refine ⟨_,.slice ao R.length cap,R,rfl,⟨?_,?_,rfl,?_,?_,?_⟩⟩
  ·rw [hsame]
   exact (Below.heap_alloc _ _ _ hg4).trans ((HW4.out.1.block gS hgw).trans HBB.out)
  ·exact ((HH.out.below (hX ▸ HW4.out.1)).below ((Below.refl _ _).alloc (Nat.le_refl _) _)).wide (fun k hk=>.inl hk) (fun k hk=>hk.elim (fun hk=>by have:=HH.out.flt k hk;simp;omega) (fun hk=>hk.2))
  ·exact ⟨rfl,.inr ⟨w4.heap.size,1,#[.int .i64 seq,.int .u8 f,.int .u8 0],rfl,by omega,heap_alloc_new _ _,Nat.le_refl _,by decide,rfl,rfl⟩⟩
  ·intro h0
   simp at h0
  ·exact Only.of_below (hX ▸ (HW4.out.1.alloc (Nat.le_of_lt HW4.out.2.1) _))
end Go.Proofs.YtajphdppmdoalaaGreat
