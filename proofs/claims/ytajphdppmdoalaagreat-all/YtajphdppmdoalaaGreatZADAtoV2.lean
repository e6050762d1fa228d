import Derived.Test.YtajphdppmdoalaaGreatZAZ4toCA
import Derived.Test.YtajphdppmdoalaaGreatZAJ6toT4
import Derived.Test.YtajphdppmdoalaaGreatZAHtoT1
import Derived.Test.YtajphdppmdoalaaGreatZANtoZ1
import Derived.Deep.RegionHeld3
set_option maxRecDepth 100000
set_option maxHeartbeats 6400000
set_option linter.unusedVariables false
namespace Go.Proofs.YtajphdppmdoalaaGreat
open Go.RowKit
def RfIs (w:World) (yb:Nat) (S:Cl) (F:Nat→Prop):Prop:=∃ vS vE vN vV ES NS,RefIs w yb S F vS vE vN vV ES NS
theorem RfIs.only {w w':World} {yb:Nat} {S:Cl} {F G:Nat→Prop} (h:RfIs w yb S F) (ho:Only G w w') (hG:∀ k,F k→¬ G k):RfIs w' yb S F:=by
 obtain ⟨vS,vE,vN,vV,ES,NS,h⟩:=h
 exact ⟨vS,vE,vN,vV,ES,NS,h.only ho hG⟩
theorem RfIs.flt {w:World} {yb:Nat} {S:Cl} {F:Nat→Prop} (h:RfIs w yb S F):∀ k,F k→k < w.heap.size:=by
 obtain ⟨_,_,_,_,_,_,h⟩:=h
 exact h.flt
theorem PrIs.flt {w:World} {xb:Nat} {S:Cl} {F:Nat→Prop} (h:PrIs w xb S F):∀ k,F k→k < w.heap.size:=by
 obtain ⟨_,_,_,_,_,_,_,h,_⟩:=h
 exact h.flt
structure Tw (w:World) (xb yb:Nat) (S1 S2:Cl) (F1 F2:Nat→Prop):Prop where
 x:PrIs w xb S1 F1
 y:RfIs w yb S2 F2
 dis:∀ k,F1 k→¬ F2 k
theorem Tw.flt {w:World} {xb yb:Nat} {S1 S2:Cl} {F1 F2:Nat→Prop} (h:Tw w xb yb S1 S2 F1 F2):∀ k,F1 k∨F2 k→k < w.heap.size
 | k,.inl hk=>h.x.flt k hk
 | k,.inr hk=>h.y.flt k hk
theorem Tw.only {w w':World} {xb yb:Nat} {S1 S2:Cl} {F1 F2 G:Nat→Prop} (h:Tw w xb yb S1 S2 F1 F2) (ho:Only G w w') (hG:∀ k,F1 k∨F2 k→¬ G k):Tw w' xb yb S1 S2 F1 F2 :=
 ⟨h.x.only ho (fun k hk=>hG k (.inl hk)),h.y.only ho (fun k hk=>hG k (.inr hk)),h.dis⟩
theorem Tw.below {w w':World} {xb yb:Nat} {S1 S2:Cl} {F1 F2:Nat→Prop} (h:Tw w xb yb S1 S2 F1 F2) (hb:Below w.heap.size w w'):Tw w' xb yb S1 S2 F1 F2 :=
 h.only (G:=fun _=>False) (Only.of_below hb) (fun _ _ f=>f)
theorem Tw.stepX {w w':World} {xb yb:Nat} {S1 S2 S1':Cl} {F1 F2 F1':Nat→Prop} (h:Tw w xb yb S1 S2 F1 F2) (hx:PrIs w' xb S1' F1') (hs:Stp w w' F1 F1'):Tw w' xb yb S1' S2 F1' F2∧Stp w w' (fun k=>F1 k∨F2 k) (fun k=>F1' k∨F2 k):=by
 refine ⟨⟨hx,h.y.only hs.only (fun k hk hk'=>h.dis k hk' hk),fun k hk hk'=>?_⟩,hs.only.mono (fun k _ hk=>.inl hk),fun k hk=>?_⟩
 ·rcases hs.own k hk with h1 | h1
  ·exact h.dis k h1 hk'
  ·have:=h.y.flt k hk'
   omega
 ·rcases hk with hk | hk
  ·rcases hs.own k hk with h1 | h1
   ·exact .inl (.inl h1)
   ·exact .inr h1
  ·exact .inl (.inr hk)
theorem Tw.stepY {w w':World} {xb yb:Nat} {S1 S2 S2':Cl} {F1 F2 F2':Nat→Prop} (h:Tw w xb yb S1 S2 F1 F2) (hy:RfIs w' yb S2' F2') (hs:Stp w w' F2 F2'):Tw w' xb yb S1 S2' F1 F2'∧Stp w w' (fun k=>F1 k∨F2 k) (fun k=>F1 k∨F2' k):=by
 refine ⟨⟨h.x.only hs.only (fun k hk hk'=>h.dis k hk hk'),hy,fun k hk hk'=>?_⟩,hs.only.mono (fun k _ hk=>.inr hk),fun k hk=>?_⟩
 ·rcases hs.own k hk' with h1 | h1
  ·exact h.dis k hk h1
  ·have:=h.x.flt k hk
   omega
 ·rcases hk with hk | hk
  ·exact .inl (.inl hk)
  ·rcases hs.own k hk with h1 | h1
   ·exact .inl (.inr h1)
   ·exact .inr h1
def Aft (w:World) (xb yb:Nat) (F1 F2:Nat→Prop) (S1 S2:Cl) (w':World):Prop:=∃ F1' F2',Tw w' xb yb S1 S2 F1' F2'∧Stp w w' (fun k=>F1 k∨F2 k) (fun k=>F1' k∨F2' k)
theorem Aft.start {w:World} {xb yb:Nat} {S1 S2:Cl} {F1 F2:Nat→Prop} (h:Tw w xb yb S1 S2 F1 F2):Aft w xb yb F1 F2 S1 S2 w:=⟨F1,F2,h,Stp.refl _ _⟩
theorem Aft.below {w wz w':World} {xb yb:Nat} {S1 S2:Cl} {F1 F2:Nat→Prop} (h:Aft w xb yb F1 F2 S1 S2 wz) (hb:Below wz.heap.size wz w'):Aft w xb yb F1 F2 S1 S2 w':=by
 obtain ⟨G1,G2,ht,hs⟩:=h
 exact ⟨G1,G2,ht.below hb,hs.trans (Stp.below hb)⟩
theorem Aft.pre {w0 w wz:World} {xb yb:Nat} {S1 S2:Cl} {F1 F2:Nat→Prop} (h:Aft w xb yb F1 F2 S1 S2 wz) (hb:Below w0.heap.size w0 w):Aft w0 xb yb F1 F2 S1 S2 wz:=by
 obtain ⟨G1,G2,ht,hs⟩:=h
 exact ⟨G1,G2,ht,(Stp.below hb).trans hs⟩
theorem Aft.X {w wz:World} {xb yb:Nat} {S1 S2 S1':Cl} {F1 F2:Nat→Prop} {f:FuncId} {args:Array Value} {r:Ending} (h:Aft w xb yb F1 F2 S1 S2 wz)
  (hc:∀ G,PrIs wz xb S1 G→(∀ k,G k→(F1 k∨F2 k)∨w.heap.size≤k)→Calls Tryz.prog f args wz fun e w'=>e=r∧∃ G',PrIs w' xb S1' G'∧Stp wz w' G G'):Calls Tryz.prog f args wz fun e w'=>e=r∧Aft w xb yb F1 F2 S1' S2 w':=by
 obtain ⟨G1,G2,ht,hs⟩:=h
 refine (hc G1 ht.x (fun k hk=>hs.own k (.inl hk))).mono ?_
 rintro e w' ⟨he,G',hp,hs'⟩
 obtain ⟨h1,h2⟩:=ht.stepX hp hs'
 exact ⟨he,G',G2,h1,hs.trans h2⟩
theorem Aft.Y {w wz:World} {xb yb:Nat} {S1 S2 S2':Cl} {F1 F2:Nat→Prop} {f:FuncId} {args:Array Value} {r:Ending} (h:Aft w xb yb F1 F2 S1 S2 wz)
  (hc:∀ G,RfIs wz yb S2 G→(∀ k,G k→(F1 k∨F2 k)∨w.heap.size≤k)→Calls Tryz.prog f args wz fun e w'=>e=r∧∃ G',RfIs w' yb S2' G'∧Stp wz w' G G'):Calls Tryz.prog f args wz fun e w'=>e=r∧Aft w xb yb F1 F2 S1 S2' w':=by
 obtain ⟨G1,G2,ht,hs⟩:=h
 refine (hc G2 ht.y (fun k hk=>hs.own k (.inr hk))).mono ?_
 rintro e w' ⟨he,G',hp,hs'⟩
 obtain ⟨h1,h2⟩:=ht.stepY hp hs'
 exact ⟨he,G1,G',h1,hs.trans h2⟩
theorem Aft.BX {w wz:World} {xb yb:Nat} {S1 S2:Cl} {F1 F2:Nat→Prop} {f:FuncId} {args:Array Value} {r:Ending} (h:Aft w xb yb F1 F2 S1 S2 wz)
  (hc:∀ G,PrIs wz xb S1 G→Calls Tryz.prog f args wz fun e w'=>e=r∧Below wz.heap.size wz w'):Calls Tryz.prog f args wz fun e w'=>e=r∧Aft w xb yb F1 F2 S1 S2 w':=by
 have h':=h
 obtain ⟨G1,G2,ht,hs⟩:=h
 exact (hc G1 ht.x).mono fun e w' ⟨he,hb⟩=>⟨he,h'.below hb⟩
theorem Aft.BY {w wz:World} {xb yb:Nat} {S1 S2:Cl} {F1 F2:Nat→Prop} {f:FuncId} {args:Array Value} {r:Ending} (h:Aft w xb yb F1 F2 S1 S2 wz)
  (hc:∀ G,RfIs wz yb S2 G→Calls Tryz.prog f args wz fun e w'=>e=r∧Below wz.heap.size wz w'):Calls Tryz.prog f args wz fun e w'=>e=r∧Aft w xb yb F1 F2 S1 S2 w':=by
 have h':=h
 obtain ⟨G1,G2,ht,hs⟩:=h
 exact (hc G2 ht.y).mono fun e w' ⟨he,hb⟩=>⟨he,h'.below hb⟩
theorem Aft.bx {w wz:World} {xb yb:Nat} {S1 S2:Cl} {F1 F2:Nat→Prop} {A B:Array Value} {s t:TypeId} (h:Aft ((w.alloc (.cells A s)).alloc (.cells B t)) xb yb F1 F2 S1 S2 wz) (hlt:∀ k,F1 k∨F2 k→k < w.heap.size):Bx w A B wz:=by
 obtain ⟨G1,G2,_,hs⟩:=h
 exact (bx_start w A B s t).only hs.only (fun hk=>by have:=hlt _ hk;omega) (fun hk=>by have:=hlt _ hk;omega)
theorem boxes_below (w:World) (A B:Obj):Below w.heap.size w ((w.alloc A).alloc B):=((Below.refl _ _).alloc (Nat.le_refl _) _).alloc (by simp) _
def Nxt (S S':Cl):Prop:=Good S'∧S'.next≤S.next + 1∧S'.now≤S.now + 1
theorem Nxt.same {S:Cl} (h:Good S):Nxt S S:=⟨h,by omega,by omega⟩
theorem nxt_deliver (S:Cl) (k:Nat) (h:Good S):Nxt S (deliverM S k):=by
 refine ⟨good_deliver S k h,?_,?_⟩ <;> (unfold deliverM;split)
 ·rw [(piece_same _ _ _).2.2.2.1];simp [landM]
 ·omega
 ·rw [(piece_same _ _ _).2.2.1];simp [landM];omega
 ·omega
theorem nxt_lose (S:Cl) (k:Nat) (h:Good S):Nxt S (loseM S k):=by
 refine ⟨good_lose S k h,?_,?_⟩ <;> (unfold loseM;split)
 ·simp [toldM,landM]
 ·omega
 ·simp [toldM,landM];omega
 ·omega
theorem nxt_tick (S:Cl) (h:Good S) (hn:S.now + 1≤2000000000000):Nxt S (tickM S):=⟨good_tick S h hn,by show S.next≤_;omega,by show S.now + 1≤_;omega⟩
theorem nxt_take (S:Cl) (h:Good S):Nxt S (takeM S):=⟨good_take S h,by show S.next≤_;omega,by show S.now≤_;omega⟩
theorem nxt_back (S:Cl) (T:List Int) (h:Good S) (h1:T=[]∨T.length=31) (h2:∀ z ∈ T,0≤z∧z≤255):Nxt S (backM S T):=⟨good_back S T h h1 h2,by show S.next≤_;omega,by show S.now≤_;omega⟩
theorem nxt_arrive (S:Cl) (rep:Int) (u:Option Pk) (h:Good S) (hn:S.next + 1≤2000000000000) (hu:∀ p,u=some p→PkB p∧(wholePk p=false→PkOK p)):Nxt S (arriveM S rep u):=by
 refine ⟨good_arrive S rep u h hn hu,?_,?_⟩ <;> (unfold arriveM;simp only;split)
 ·exact Nat.le_refl _
 ·split
  ·split <;> exact Nat.le_refl _
  ·split
   ·rw [(piece_same _ _ _).2.2.2.1];exact Nat.le_refl _
   ·exact Nat.le_refl _
 ·show S.now≤_;omega
 ·split
  ·split <;> (show S.now≤_;omega)
  ·split
   ·rw [(piece_same _ _ _).2.2.1];show S.now≤_;omega
   ·show S.now≤_;omega
theorem pair_lose (xb yb:Nat) (ee aa bb src dst proto id off:Int) (more:Bool) (sport dport:Int) (dso:Option Addr) (dsn dsc:Nat) (ao:Option Addr) (n cap:Nat) (w:World) (S:Cl) (F1 F2:Nat→Prop) (h:Tw w xb yb S S F1 F2) (hg:Good S) (hn:S.next≤1900000000000) :
  Calls Tryz.prog 22 #[.agg #[.pointer (some ⟨xb,0,none⟩),.pointer (some ⟨yb,0,none⟩)],.agg #[.int .i64 12,.int .i64 ee,.int .i64 aa,.int .i64 bb,.int .u16 src,.int .u16 dst,.int .u8 proto,.int .u16 id,.int .u8 off,.bool more,.int .u16 sport,.int .u16 dport,.slice dso dsn dsc,.slice ao n cap]] w fun e w'=>e=.returned (.bool true)∧∃ S',Aft w xb yb F1 F2 S' S' w'∧Nxt S S':=by
 have hA:=Aft.start (h.below (boxes_below w (.cells #[.pointer (some ⟨xb,0,none⟩),.pointer (some ⟨yb,0,none⟩)] 52) (.cells #[.int .i64 12,.int .i64 ee,.int .i64 aa,.int .i64 bb,.int .u16 src,.int .u16 dst,.int .u8 proto,.int .u16 id,.int .u8 off,.bool more,.int .u16 sport,.int .u16 dport,.slice dso dsn dsc,.slice ao n cap] 42)))
 by_cases hk:aa < 0∨(S.sent.length:Int)≤aa
 ·refine (small_lose xb yb ee aa bb src dst proto id off more sport dport dso dsn dsc ao n cap w (Aft ((w.alloc (.cells #[.pointer (some ⟨xb,0,none⟩),.pointer (some ⟨yb,0,none⟩)] 52)).alloc (.cells #[.int .i64 12,.int .i64 ee,.int .i64 aa,.int .i64 bb,.int .u16 src,.int .u16 dst,.int .u8 proto,.int .u16 id,.int .u8 off,.bool more,.int .u16 sport,.int .u16 dport,.slice dso dsn dsc,.slice ao n cap] 42)) xb yb F1 F2 S S) (Aft ((w.alloc (.cells #[.pointer (some ⟨xb,0,none⟩),.pointer (some ⟨yb,0,none⟩)] 52)).alloc (.cells #[.int .i64 12,.int .i64 ee,.int .i64 aa,.int .i64 bb,.int .u16 src,.int .u16 dst,.int .u8 proto,.int .u16 id,.int .u8 off,.bool more,.int .u16 sport,.int .u16 dport,.slice dso dsn dsc,.slice ao n cap] 42)) xb yb F1 F2 S S) (Aft ((w.alloc (.cells #[.pointer (some ⟨xb,0,none⟩),.pointer (some ⟨yb,0,none⟩)] 52)).alloc (.cells #[.int .i64 12,.int .i64 ee,.int .i64 aa,.int .i64 bb,.int .u16 src,.int .u16 dst,.int .u8 proto,.int .u16 id,.int .u8 off,.bool more,.int .u16 sport,.int .u16 dport,.slice dso dsn dsc,.slice ao n cap] 42)) xb yb F1 F2 S S) 1 (hide ?_) (hide ?_) (hide fun wz hz=>hz.bx h.flt) (hide fun wz hz=>hz.bx h.flt) (hide hA)).mono ?_
  ·intro wz hz
   exact hz.BX fun G hp=>lose_no xb aa S G wz hp hk
  ·intro wz hz
   refine hz.BY fun G hp=>?_
   obtain ⟨vS,vE,vN,vV,ES,NS,hp⟩:=hp
   have hl:NS.length=S.sent.length:=by rw [← hp.hns,List.length_map]
   exact (rlose_no yb aa S G vS vE vN vV ES NS wz hp (by rw [hl];exact hk)).mono fun e w' ⟨he,hw⟩=>⟨he,by rw [hw];exact Below.refl _ _⟩
  ·rintro e w' ⟨rfl,hz⟩
   exact ⟨rfl,S,hz.pre (boxes_below w _ _),Nxt.same hg⟩
 ·obtain ⟨k,rfl⟩:=Int.eq_ofNat_of_zero_le (show 0≤aa by omega)
  have hkl:k < S.sent.length:=by omega
  have hks:=List.getElem?_eq_getElem hkl
  refine (small_lose xb yb ee (k:Int) bb src dst proto id off more sport dport dso dsn dsc ao n cap w (Aft ((w.alloc (.cells #[.pointer (some ⟨xb,0,none⟩),.pointer (some ⟨yb,0,none⟩)] 52)).alloc (.cells #[.int .i64 12,.int .i64 ee,.int .i64 (k:Int),.int .i64 bb,.int .u16 src,.int .u16 dst,.int .u8 proto,.int .u16 id,.int .u8 off,.bool more,.int .u16 sport,.int .u16 dport,.slice dso dsn dsc,.slice ao n cap] 42)) xb yb F1 F2 S S) (Aft ((w.alloc (.cells #[.pointer (some ⟨xb,0,none⟩),.pointer (some ⟨yb,0,none⟩)] 52)).alloc (.cells #[.int .i64 12,.int .i64 ee,.int .i64 (k:Int),.int .i64 bb,.int .u16 src,.int .u16 dst,.int .u8 proto,.int .u16 id,.int .u8 off,.bool more,.int .u16 sport,.int .u16 dport,.slice dso dsn dsc,.slice ao n cap] 42)) xb yb F1 F2 (loseM S k) S) (Aft ((w.alloc (.cells #[.pointer (some ⟨xb,0,none⟩),.pointer (some ⟨yb,0,none⟩)] 52)).alloc (.cells #[.int .i64 12,.int .i64 ee,.int .i64 (k:Int),.int .i64 bb,.int .u16 src,.int .u16 dst,.int .u8 proto,.int .u16 id,.int .u8 off,.bool more,.int .u16 sport,.int .u16 dport,.slice dso dsn dsc,.slice ao n cap] 42)) xb yb F1 F2 (loseM S k) (loseM S k)) 0 (hide ?_) (hide ?_) (hide fun wz hz=>hz.bx h.flt) (hide fun wz hz=>hz.bx h.flt) (hide hA)).mono ?_
  ·intro wz hz
   exact hz.X fun G hp _=>lose_yes xb k S G _ wz hp hg.sml hks
  ·intro wz hz
   refine hz.Y fun G hp _=>?_
   obtain ⟨vS,vE,vN,vV,ES,NS,hp⟩:=hp
   have hl:NS.length=S.sent.length:=by rw [← hp.hns,List.length_map]
   refine (rlose_yes yb k S G vS vE vN vV ES NS wz hp hg.sml (by omega)).mono ?_
   rintro e w' ⟨he,F',vN',vV',hR,hS⟩
   exact ⟨he,F',⟨_,_,_,_,_,_,hR⟩,hS⟩
  ·rintro e w' ⟨rfl,hz⟩
   exact ⟨rfl,loseM S k,hz.pre (boxes_below w _ _),nxt_lose S k hg⟩
theorem pair_tick (xb yb:Nat) (ee aa bb src dst proto id off:Int) (more:Bool) (sport dport:Int) (dso:Option Addr) (dsn dsc:Nat) (ao:Option Addr) (n cap:Nat) (w:World) (S:Cl) (F1 F2:Nat→Prop) (h:Tw w xb yb S S F1 F2) (hg:Good S) (hn:S.next≤1900000000000) (hnow:S.now + 1≤2000000000000) :
  Calls Tryz.prog 22 #[.agg #[.pointer (some ⟨xb,0,none⟩),.pointer (some ⟨yb,0,none⟩)],.agg #[.int .i64 14,.int .i64 ee,.int .i64 aa,.int .i64 bb,.int .u16 src,.int .u16 dst,.int .u8 proto,.int .u16 id,.int .u8 off,.bool more,.int .u16 sport,.int .u16 dport,.slice dso dsn dsc,.slice ao n cap]] w fun e w'=>e=.returned (.bool true)∧∃ S',Aft w xb yb F1 F2 S' S' w'∧Nxt S S':=by
 have hA:=Aft.start (h.below (boxes_below w (.cells #[.pointer (some ⟨xb,0,none⟩),.pointer (some ⟨yb,0,none⟩)] 52) (.cells #[.int .i64 14,.int .i64 ee,.int .i64 aa,.int .i64 bb,.int .u16 src,.int .u16 dst,.int .u8 proto,.int .u16 id,.int .u8 off,.bool more,.int .u16 sport,.int .u16 dport,.slice dso dsn dsc,.slice ao n cap] 42)))
 refine (small_tick xb yb ee aa bb src dst proto id off more sport dport dso dsn dsc ao n cap w (Aft ((w.alloc (.cells #[.pointer (some ⟨xb,0,none⟩),.pointer (some ⟨yb,0,none⟩)] 52)).alloc (.cells #[.int .i64 14,.int .i64 ee,.int .i64 aa,.int .i64 bb,.int .u16 src,.int .u16 dst,.int .u8 proto,.int .u16 id,.int .u8 off,.bool more,.int .u16 sport,.int .u16 dport,.slice dso dsn dsc,.slice ao n cap] 42)) xb yb F1 F2 S S) (Aft ((w.alloc (.cells #[.pointer (some ⟨xb,0,none⟩),.pointer (some ⟨yb,0,none⟩)] 52)).alloc (.cells #[.int .i64 14,.int .i64 ee,.int .i64 aa,.int .i64 bb,.int .u16 src,.int .u16 dst,.int .u8 proto,.int .u16 id,.int .u8 off,.bool more,.int .u16 sport,.int .u16 dport,.slice dso dsn dsc,.slice ao n cap] 42)) xb yb F1 F2 (tickM S) S) (Aft ((w.alloc (.cells #[.pointer (some ⟨xb,0,none⟩),.pointer (some ⟨yb,0,none⟩)] 52)).alloc (.cells #[.int .i64 14,.int .i64 ee,.int .i64 aa,.int .i64 bb,.int .u16 src,.int .u16 dst,.int .u8 proto,.int .u16 id,.int .u8 off,.bool more,.int .u16 sport,.int .u16 dport,.slice dso dsn dsc,.slice ao n cap] 42)) xb yb F1 F2 (tickM S) (tickM S)) (hide ?_) (hide ?_) (hide fun wz hz=>hz.bx h.flt) (hide fun wz hz=>hz.bx h.flt) (hide hA)).mono ?_
 ·intro wz hz
  exact hz.X fun G hp _=>ctick_any xb S G wz hp hg.sml
 ·intro wz hz
  refine hz.Y fun G hp _=>?_
  obtain ⟨vS,vE,vN,vV,ES,NS,hp⟩:=hp
  refine (rtick_any yb S G vS vE vN vV ES NS wz hp hg.sml hn hnow).mono ?_
  rintro e w' ⟨he,F',vE',vV',ES',hR,hS⟩
  exact ⟨he,F',⟨_,_,_,_,_,_,hR⟩,hS⟩
 ·rintro e w' ⟨rfl,hz⟩
  exact ⟨rfl,tickM S,hz.pre (boxes_below w _ _),nxt_tick S hg hnow⟩
theorem pair_held (xb yb:Nat) (ee aa bb src dst proto id off:Int) (more:Bool) (sport dport:Int) (dso:Option Addr) (dsn dsc:Nat) (ao:Option Addr) (n cap:Nat) (w:World) (S:Cl) (F1 F2:Nat→Prop) (h:Tw w xb yb S S F1 F2) (hg:Good S) :
  Calls Tryz.prog 22 #[.agg #[.pointer (some ⟨xb,0,none⟩),.pointer (some ⟨yb,0,none⟩)],.agg #[.int .i64 13,.int .i64 ee,.int .i64 aa,.int .i64 bb,.int .u16 src,.int .u16 dst,.int .u8 proto,.int .u16 id,.int .u8 off,.bool more,.int .u16 sport,.int .u16 dport,.slice dso dsn dsc,.slice ao n cap]] w fun e w'=>e=.returned (.bool true)∧∃ S',Aft w xb yb F1 F2 S' S' w'∧Nxt S S':=by
 have hA:=Aft.start (h.below (boxes_below w (.cells #[.pointer (some ⟨xb,0,none⟩),.pointer (some ⟨yb,0,none⟩)] 52) (.cells #[.int .i64 13,.int .i64 ee,.int .i64 aa,.int .i64 bb,.int .u16 src,.int .u16 dst,.int .u8 proto,.int .u16 id,.int .u8 off,.bool more,.int .u16 sport,.int .u16 dport,.slice dso dsn dsc,.slice ao n cap] 42)))
 by_cases hk:aa < 0∨S.reps≤aa
 ·refine (small_held xb yb ee aa bb src dst proto id off more sport dport dso dsn dsc ao n cap w (Aft ((w.alloc (.cells #[.pointer (some ⟨xb,0,none⟩),.pointer (some ⟨yb,0,none⟩)] 52)).alloc (.cells #[.int .i64 13,.int .i64 ee,.int .i64 aa,.int .i64 bb,.int .u16 src,.int .u16 dst,.int .u8 proto,.int .u16 id,.int .u8 off,.bool more,.int .u16 sport,.int .u16 dport,.slice dso dsn dsc,.slice ao n cap] 42)) xb yb F1 F2 S S) (Aft ((w.alloc (.cells #[.pointer (some ⟨xb,0,none⟩),.pointer (some ⟨yb,0,none⟩)] 52)).alloc (.cells #[.int .i64 13,.int .i64 ee,.int .i64 aa,.int .i64 bb,.int .u16 src,.int .u16 dst,.int .u8 proto,.int .u16 id,.int .u8 off,.bool more,.int .u16 sport,.int .u16 dport,.slice dso dsn dsc,.slice ao n cap] 42)) xb yb F1 F2 S S) (Aft ((w.alloc (.cells #[.pointer (some ⟨xb,0,none⟩),.pointer (some ⟨yb,0,none⟩)] 52)).alloc (.cells #[.int .i64 13,.int .i64 ee,.int .i64 aa,.int .i64 bb,.int .u16 src,.int .u16 dst,.int .u8 proto,.int .u16 id,.int .u8 off,.bool more,.int .u16 sport,.int .u16 dport,.slice dso dsn dsc,.slice ao n cap] 42)) xb yb F1 F2 S S) 0 0 0 1 (hide ?_) (hide fun wz w' hz hb=>hz.below hb) (hide fun wz w' hz hb=>hz.below hb) (hide ?_) (hide fun wz hz=>hz.bx h.flt) (hide fun wz hz=>hz.bx h.flt) (hide hA)).mono ?_
  ·intro wz hz
   exact hz.BX fun G hp=>held_no xb aa S G wz hp hk
  ·intro wz hz
   obtain ⟨G1,G2,ht,hs⟩:=hz
   obtain ⟨vS,vE,vN,vV,ES,NS,hp⟩:=ht.y
   exact (rheld_no yb aa S G2 vS vE vN vV ES NS wz hp hk).mono fun e w' ⟨he,hb⟩=>⟨he,Aft.below ⟨G1,G2,ht,hs⟩ hb,hb⟩
  ·rintro e w' ⟨rfl,hz⟩
   exact ⟨rfl,S,hz.pre (boxes_below w _ _),Nxt.same hg⟩
 ·obtain ⟨k,rfl⟩:=Int.eq_ofNat_of_zero_le (show 0≤aa by omega)
  have hk2:(k:Int) < S.reps:=by omega
  refine (small_held xb yb ee (k:Int) bb src dst proto id off more sport dport dso dsn dsc ao n cap w (Aft ((w.alloc (.cells #[.pointer (some ⟨xb,0,none⟩),.pointer (some ⟨yb,0,none⟩)] 52)).alloc (.cells #[.int .i64 13,.int .i64 ee,.int .i64 (k:Int),.int .i64 bb,.int .u16 src,.int .u16 dst,.int .u8 proto,.int .u16 id,.int .u8 off,.bool more,.int .u16 sport,.int .u16 dport,.slice dso dsn dsc,.slice ao n cap] 42)) xb yb F1 F2 S S) (Aft ((w.alloc (.cells #[.pointer (some ⟨xb,0,none⟩),.pointer (some ⟨yb,0,none⟩)] 52)).alloc (.cells #[.int .i64 13,.int .i64 ee,.int .i64 (k:Int),.int .i64 bb,.int .u16 src,.int .u16 dst,.int .u8 proto,.int .u16 id,.int .u8 off,.bool more,.int .u16 sport,.int .u16 dport,.slice dso dsn dsc,.slice ao n cap] 42)) xb yb F1 F2 S S) (Aft ((w.alloc (.cells #[.pointer (some ⟨xb,0,none⟩),.pointer (some ⟨yb,0,none⟩)] 52)).alloc (.cells #[.int .i64 13,.int .i64 ee,.int .i64 (k:Int),.int .i64 bb,.int .u16 src,.int .u16 dst,.int .u8 proto,.int .u16 id,.int .u8 off,.bool more,.int .u16 sport,.int .u16 dport,.slice dso dsn dsc,.slice ao n cap] 42)) xb yb F1 F2 S S) ((entsM S k).length:Int) (heldN S k:Int) (heldB S k) 0 (hide ?_) (hide fun wz w' hz hb=>hz.below hb) (hide fun wz w' hz hb=>hz.below hb) (hide ?_) (hide fun wz hz=>hz.bx h.flt) (hide fun wz hz=>hz.bx h.flt) (hide hA)).mono ?_
  ·intro wz hz
   exact hz.BX fun G hp=>held_yes xb k S G wz hp hg.sml hk2
  ·intro wz hz
   obtain ⟨G1,G2,ht,hs⟩:=hz
   obtain ⟨vS,vE,vN,vV,ES,NS,hp⟩:=ht.y
   exact (rheld_yes yb k S G2 vS vE vN vV ES NS wz hp (few_of_sml S hg.sml) ⟨Int.natCast_nonneg k,hk2⟩).mono fun e w' ⟨he,hb⟩=>⟨he,Aft.below ⟨G1,G2,ht,hs⟩ hb,hb⟩
  ·rintro e w' ⟨rfl,hz⟩
   exact ⟨rfl,S,hz.pre (boxes_below w _ _),Nxt.same hg⟩
theorem pair_choose (xb yb:Nat) (ee aa bb src dst proto id off:Int) (more:Bool) (sport dport:Int) (dso:Option Addr) (dsn dsc:Nat) (ao:Option Addr) (n cap:Nat) (w:World) (S:Cl) (F1 F2:Nat→Prop) (h:Tw w xb yb S S F1 F2) (hg:Good S) (hsrc:0≤src∧src≤65535) (hdst:0≤dst∧dst≤65535) (hproto:0≤proto∧proto≤255) (hid:0≤id∧id≤65535) (hoff:0≤off∧off≤255) (hsport:0≤sport∧sport≤65535) (hdport:0≤dport∧dport≤65535) :
  Calls Tryz.prog 22 #[.agg #[.pointer (some ⟨xb,0,none⟩),.pointer (some ⟨yb,0,none⟩)],.agg #[.int .i64 7,.int .i64 ee,.int .i64 aa,.int .i64 bb,.int .u16 src,.int .u16 dst,.int .u8 proto,.int .u16 id,.int .u8 off,.bool more,.int .u16 sport,.int .u16 dport,.slice dso dsn dsc,.slice ao n cap]] w fun e w'=>e=.returned (.bool true)∧∃ S',Aft w xb yb F1 F2 S' S' w'∧Nxt S S':=by
 have hA:=Aft.start (h.below (boxes_below w (.cells #[.pointer (some ⟨xb,0,none⟩),.pointer (some ⟨yb,0,none⟩)] 52) (.cells #[.int .i64 7,.int .i64 ee,.int .i64 aa,.int .i64 bb,.int .u16 src,.int .u16 dst,.int .u8 proto,.int .u16 id,.int .u8 off,.bool more,.int .u16 sport,.int .u16 dport,.slice dso dsn dsc,.slice ao n cap] 42)))
 have hR:=And.intro hg.sml.cok.reps hg.sml.reps
 refine (small_choose xb yb ee aa bb src dst proto id off more sport dport dso dsn dsc ao n cap w (Aft ((w.alloc (.cells #[.pointer (some ⟨xb,0,none⟩),.pointer (some ⟨yb,0,none⟩)] 52)).alloc (.cells #[.int .i64 7,.int .i64 ee,.int .i64 aa,.int .i64 bb,.int .u16 src,.int .u16 dst,.int .u8 proto,.int .u16 id,.int .u8 off,.bool more,.int .u16 sport,.int .u16 dport,.slice dso dsn dsc,.slice ao n cap] 42)) xb yb F1 F2 S S) (Aft ((w.alloc (.cells #[.pointer (some ⟨xb,0,none⟩),.pointer (some ⟨yb,0,none⟩)] 52)).alloc (.cells #[.int .i64 7,.int .i64 ee,.int .i64 aa,.int .i64 bb,.int .u16 src,.int .u16 dst,.int .u8 proto,.int .u16 id,.int .u8 off,.bool more,.int .u16 sport,.int .u16 dport,.slice dso dsn dsc,.slice ao n cap] 42)) xb yb F1 F2 S S) (Aft ((w.alloc (.cells #[.pointer (some ⟨xb,0,none⟩),.pointer (some ⟨yb,0,none⟩)] 52)).alloc (.cells #[.int .i64 7,.int .i64 ee,.int .i64 aa,.int .i64 bb,.int .u16 src,.int .u16 dst,.int .u8 proto,.int .u16 id,.int .u8 off,.bool more,.int .u16 sport,.int .u16 dport,.slice dso dsn dsc,.slice ao n cap] 42)) xb yb F1 F2 S S) (S.slots.getD ((flH src dst proto sport dport).toNat % 31) 0) (if (!S.slots.isEmpty)=true then 0 else 7) (dgH src dst proto id % S.reps) (hide ?_) (hide ?_) (hide ?_) (hide ?_) (hide fun wz hz=>hz.bx h.flt) (hide fun wz hz=>hz.bx h.flt) (hide hA)).mono ?_
 ·intro wz hz
  refine hz.BX fun G hp=>?_
  obtain ⟨gS,cs,vT,vV,vN,RR,Fs,hp,hr,he⟩:=hp
  exact choose_any xb S G gS cs vT vV vN RR Fs _ src dst proto id off more sport dport dso dsn dsc wz hp hg.sml.slots hsrc.1 hsrc.2 hdst.1 hdst.2 hproto.1 hproto.2 hid.1 hid.2 hoff.1 hoff.2 hsport.1 hsport.2 hdport.1 hdport.2
 ·intro wz hz
  refine hz.BY fun G hp=>?_
  obtain ⟨vS,vE,vN,vV,ES,NS,hp⟩:=hp
  rcases hg.sml.slots with hs | hs
  ·rw [hs]
   exact rchoose_no yb S G vS vE vN vV ES NS src dst proto id off more sport dport dso dsn dsc wz hp hs
  ·have hne:S.slots.isEmpty=false:=by cases hss:S.slots with | nil=>rw [hss] at hs;simp at hs | cons a b=>rfl
   rw [hne]
   exact rchoose_yes yb S G vS vE vN vV ES NS src dst proto id off more sport dport dso dsn dsc wz hp hs hsrc hdst hproto hid hsport hdport
 ·intro wz hz
  refine hz.BX fun G hp=>?_
  obtain ⟨gS,cs,vT,vV,vN,RR,Fs,hp,hr,he⟩:=hp
  rw [hr]
  rw [hr] at hR
  exact owner_any xb S G gS cs vT vV vN RR Fs _ src dst proto id off more sport dport dso dsn dsc wz hp (by omega) (by omega) hsrc.1 hsrc.2 hdst.1 hdst.2 hproto.1 hproto.2 hid.1 hid.2 hoff.1 hoff.2 hsport.1 hsport.2 hdport.1 hdport.2
 ·intro wz hz
  refine hz.BY fun G hp=>?_
  obtain ⟨vS,vE,vN,vV,ES,NS,hp⟩:=hp
  exact rowner_any yb src dst proto id off more sport dport dso dsn dsc S.reps wz hsrc hdst hproto hid hsport hdport hR (arr_cell hp.blk 0) hp.lt
 ·rintro e w' ⟨rfl,hz⟩
  exact ⟨rfl,S,hz.pre (boxes_below w _ _),Nxt.same hg⟩
theorem samePacket_true (src dst proto id off:Int) (more:Bool) (sport dport:Int) (zs:List Int) (ao ao':Option Addr) (n cap cap':Nat) (w:World) (hn:zs.length=n) (h1:Has w ao zs) (h2:Has w ao' zs) :
  Calls Tryz.prog 33 #[.agg #[.int .u16 src,.int .u16 dst,.int .u8 proto,.int .u16 id,.int .u8 off,.bool more,.int .u16 sport,.int .u16 dport,.slice ao n cap],.agg #[.int .u16 src,.int .u16 dst,.int .u8 proto,.int .u16 id,.int .u8 off,.bool more,.int .u16 sport,.int .u16 dport,.slice ao' n cap']] w fun e w'=>e=.returned (.bool true)∧Below w.heap.size w w':=by
 subst hn
 have hc1:∀ o o',(convert 38 9 (.slice ao zs.length cap)).run Tryz.prog ((w.alloc o).alloc o')=.ok (.string (strOfNums zs)) ((w.alloc o).alloc o'):=fun o o'=>conv_has (h1.below (((Below.refl _ _).alloc (Nat.le_refl _) _).alloc (by simp) _)) cap
 have hc2:∀ o o',(convert 38 9 (.slice ao' zs.length cap')).run Tryz.prog ((w.alloc o).alloc o')=.ok (.string (strOfNums zs)) ((w.alloc o).alloc o'):=fun o o'=>conv_has (h2.below (((Below.refl _ _).alloc (Nat.le_refl _) _).alloc (by simp) _)) cap'
 clear h1 h2
 go_enter Tryz.func33,Tryz.ntmps33
 go_wp2
 go_ret
 exact ⟨by simp,(((Below.refl _ _).alloc (Nat.le_refl _) _).alloc (by simp) _)⟩
end Go.Proofs.YtajphdppmdoalaaGreat
