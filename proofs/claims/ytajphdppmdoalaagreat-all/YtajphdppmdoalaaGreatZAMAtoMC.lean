import Derived.Test.YtajphdppmdoalaaGreatZAAtoJ3
import Derived.Test.YtajphdppmdoalaaGreatZAJ1toLM
import Derived.ArgAppend
set_option maxRecDepth 100000
set_option maxHeartbeats 6400000
set_option linter.unusedVariables false
namespace Go.Proofs.YtajphdppmdoalaaGreat
open Go.RowKit
structure Only (F:Nat→Prop) (w w':World):Prop where
 os:w'.os=w.os
 tape:w'.tape=w.tape
 output:w'.output=w.output
 size:w.heap.size≤w'.heap.size
 block:∀ k,k < w.heap.size→¬ F k→w'.heap[k]?=w.heap[k]?
theorem Only.refl (F:Nat→Prop) (w:World):Only F w w:=⟨rfl,rfl,rfl,Nat.le_refl _,fun _ _ _=>rfl⟩
theorem Only.trans {F G:Nat→Prop} {a b c:World} (h:Only F a b) (k:Only G b c) (hG:∀ i,i < a.heap.size→G i→F i):Only F a c :=
 ⟨k.os.trans h.os,k.tape.trans h.tape,k.output.trans h.output,Nat.le_trans h.size k.size,fun i hi hn=>(k.block i (Nat.lt_of_lt_of_le hi h.size) (fun g=>hn (hG i hi g))).trans (h.block i hi hn)⟩
theorem Only.mono {F G:Nat→Prop} {w w':World} (h:Only F w w') (hG:∀ i,i < w.heap.size→F i→G i):Only G w w' :=
 ⟨h.os,h.tape,h.output,h.size,fun k hk hn=>h.block k hk (fun f=>hn (hG k hk f))⟩
theorem Only.of_below {F:Nat→Prop} {w w':World} (h:Below w.heap.size w w'):Only F w w' :=
 ⟨h.os,h.tape,h.output,h.size,fun k hk _=>h.block k hk⟩
theorem Only.to_below {F:Nat→Prop} {B:Nat} {w w':World} (h:Only F w w') (hB:B≤w.heap.size) (hF:∀ k,F k→B≤k):Below B w w' :=
 ⟨h.os,h.tape,h.output,h.size,fun k hk=>h.block k (by omega) (fun f=>by have:=hF k f;omega)⟩
theorem Only.of_grown {w w':World} {row:Option Nat} (h:w.grownBy w' row):Only (fun k=>row=some k) w w' :=
 ⟨h.os,h.tape,h.output,h.size,fun k hk hn=>h.block k hk (fun e=>hn e.symm)⟩
theorem Only.grown {F:Nat→Prop} {a w w':World} {row:Option Nat} (h:Only F a w) (hg:w.grownBy w' row) (hr:∀ k,k < a.heap.size→row=some k→F k):Only F a w' :=
 h.trans (Only.of_grown hg) hr
theorem Only.alloc {F:Nat→Prop} {a w:World} (h:Only F a w) (o:Obj):Only F a (w.alloc o) :=
 h.trans (G:=fun _=>False) ⟨rfl,rfl,rfl,by simp,fun k hk _=>Below.heap_alloc _ _ _ hk⟩ (fun _ _ f=>f.elim)
theorem Only.setCell {F:Nat→Prop} {a w:World} (h:Only F a w) {p:Addr} (hp:p.block < a.heap.size→F p.block) (u:Value):Only F a (w.setCell p u) :=
 h.trans (G:=fun k=>k=p.block) ⟨rfl,rfl,rfl,by simp [World.setCell],fun k hk hn=>Below.heap_setCell _ _ _ _ hn⟩ (fun i hi e=>by subst e;exact hp hi)
theorem Only.below {F:Nat→Prop} {a w w':World} (h:Only F a w) (hb:Below w.heap.size w w'):Only F a w' :=
 h.trans (G:=fun _=>False) (Only.of_below hb) (fun _ _ f=>f.elim)
theorem Only.drewN {F:Nat→Prop} {a w:World} (h:Only F a w) (m:Nat):Only F a (w.drewN m) :=
 h.below (below_drew (Below.refl _ _) m)
theorem Only.cell {F:Nat→Prop} {w w':World} (h:Only F w w') {p:Addr} (hp:p.block < w.heap.size) (hn:¬ F p.block):w'.cell? p=w.cell? p:=World.cell?_of_block (w:=w) (h.block p.block hp hn)
theorem own_only {F:Nat→Prop} {w w':World} {base k s:Nat} {e:TypeId} {u:Value} {ys:List Value} (h:w.ownsRow base e s u k ys) (ho:Only F w w') (hn:∀ g,u.ownBlock=some g→¬ F g):w'.ownsRow base e s u k ys:=by
 refine ⟨h.1,?_⟩
 rcases h.2 with h2 | ⟨g,cap,cur,hv,hbs,hh,r⟩
 ·exact .inl h2
 ·exact .inr ⟨g,cap,cur,hv,hbs,(ho.block g (lt_of_block hh) (hn g (by rw [hv];rfl))).trans hh,r⟩
theorem own_tag' {w:World} {base g k s:Nat} {e:TypeId} {u:Value} {ys:List Value} (h:w.ownsRow base e s u k ys) (hg:u.ownBlock=some g):∃ cur,w.heap[g]?=some (.cells cur e (0,0)):=by
 rcases h.2 with ⟨rfl,_⟩ | ⟨g',cap,cur,rfl,hb,hh,_⟩
 ·simp [Value.ownBlock] at hg
 ·simp only [Value.ownBlock,Option.some.injEq] at hg
  subst hg
  exact ⟨cur,hh⟩
theorem own_apart' {w:World} {base base' k n s s':Nat} {e e':TypeId} {u v:Value} {ys xs:List Value} (h:w.ownsRow base e s u k ys) (h':w.ownsRow base' e' s' v n xs) (hne:e ≠ e') {g:Nat} (hg:u.ownBlock=some g):v.ownBlock ≠ some g:=by
 intro hv
 obtain ⟨c1,h1⟩:=own_tag' h hg
 obtain ⟨c2,h2⟩:=own_tag' h' hv
 rw [h1] at h2
 simp at h2
 exact hne h2.2
theorem own_apart_blk {w:World} {base k s wb:Nat} {e t:TypeId} {u:Value} {ys:List Value} {cs:Array Value} (h:w.ownsRow base e s u k ys) (hw:w.heap[wb]?=some (.cells cs t (0,0))) (hne:e ≠ t):u.ownBlock ≠ some wb:=by
 intro hu
 obtain ⟨c1,h1⟩:=own_tag' h hu
 rw [h1] at hw
 simp at hw
 exact hne hw.2
theorem own_zero {w:World} {base k s:Nat} {e:TypeId} {u:Value} {ys:List Value} (h:w.ownsRow base e s u k ys):w.ownsRow 0 e s u k ys:=by
 refine ⟨h.1,?_⟩
 rcases h.2 with h2 | ⟨g,cap,cur,hv,hbs,r⟩
 ·exact .inl h2
 ·exact .inr ⟨g,cap,cur,hv,Nat.zero_le _,r⟩
theorem own_some {w:World} {base k s:Nat} {e:TypeId} {u:Value} {ys:List Value} (h:w.ownsRow base e s u k ys) (hk:0 < k):∃ g cap,u=.slice (some ⟨g,0,none⟩) k cap:=by
 rcases h.2 with ⟨_,h2⟩ | ⟨g,cap,cur,hv,hbs,r⟩
 ·omega
 ·exact ⟨g,cap,hv⟩
theorem own_slice {w:World} {base k s:Nat} {e:TypeId} {u:Value} {ys:List Value} (h:w.ownsRow base e s u k ys):∃ ao cap,u=.slice ao k cap:=by
 rcases h.2 with ⟨h1,h2⟩ | ⟨g,cap,cur,hv,hbs,r⟩
 ·exact ⟨none,0,by rw [h1,h2]⟩
 ·exact ⟨_,cap,hv⟩
theorem flat_get {α:Type} (f:α→List Value) (s:Nat) (hs:∀ a,(f a).length=s) (l:List α) (i:Nat) (a:α) (h:l[i]?=some a) (j:Nat) (v:Value) (hj:(f a)[j]?=some v):(l.flatMap f)[i * s + j]?=some v:=by
 have hjs:j < s:=by
  have:=(List.getElem?_eq_some_iff.1 hj).1
  rw [hs] at this;exact this
 induction l generalizing i with
 | nil=>simp at h
 | cons b l ih =>
  rw [List.flatMap_cons]
  cases i with
  | zero =>
   simp only [List.getElem?_cons_zero,Option.some.injEq] at h
   subst h
   rw [List.getElem?_append_left (by rw [hs];omega),Nat.zero_mul,Nat.zero_add]
   exact hj
  | succ i =>
   rw [List.getElem?_cons_succ] at h
   rw [List.getElem?_append_right (by rw [hs,Nat.succ_mul];omega),hs,show (i + 1) * s + j - s=i * s + j from by rw [Nat.succ_mul];omega]
   exact ih i h
theorem flat_length {α:Type} (f:α→List Value) (s:Nat) (hs:∀ a,(f a).length=s) (l:List α):(l.flatMap f).length=l.length * s:=by
 induction l with
 | nil=>simp
 | cons b l ih=>rw [List.flatMap_cons,List.length_append,ih,hs,List.length_cons,Nat.succ_mul];omega
theorem row_get {w:World} {base k s g cap:Nat} {e:TypeId} {α:Type} (f:α→List Value) (hs:∀ a,(f a).length=s) {l:List α} (h:w.ownsRow base e s (.slice (some ⟨g,0,none⟩) k cap) k (l.flatMap f)) (i:Nat) (a:α) (hi:l[i]?=some a) (j:Nat) (v:Value) (hj:(f a)[j]?=some v):w.cell? ⟨g,i * s + j,none⟩=some v:=by
 have h1:=flat_get f s hs l i a hi j v hj
 rw [h.cellAt (i * s + j) (by have:=(List.getElem?_eq_some_iff.1 h1).1;rw [h.1] at this;exact this)]
 exact h1
theorem flat_set_cells {α:Type} (f:α→List Value) (s:Nat) (hs:∀ a,(f a).length=s) (l:List α) (i:Nat) (a b:α) (h:l[i]?=some a):(l.set i b).flatMap f=(l.flatMap f).take (i * s) ++ f b ++ (l.flatMap f).drop (i * s + s):=by
 induction l generalizing i with
 | nil=>simp at h
 | cons c l ih =>
  cases i with
  | zero =>
   rw [List.set_cons_zero,List.flatMap_cons,List.flatMap_cons,Nat.zero_mul,List.take_zero,Nat.zero_add,List.drop_append_of_le_length (by rw [hs];omega),List.drop_eq_nil_of_le (by rw [hs];omega)]
   simp
  | succ i =>
   rw [List.getElem?_cons_succ] at h
   rw [List.set_cons_succ,List.flatMap_cons,ih i h,List.flatMap_cons,show (i + 1) * s=s + i * s from by rw [Nat.succ_mul];omega]
   have h1:(f c).take (s + i * s)=f c:=List.take_of_length_le (by rw [hs];omega)
   have h2:(f c).drop (s + i * s + s)=[]:=List.drop_eq_nil_of_le (by rw [hs];omega)
   rw [List.take_append,List.drop_append,h1,h2,hs,show s + i * s - s=i * s from by omega,show s + i * s + s - s=i * s + s from by omega]
   simp
theorem grown_more {w w':World} (h:w.grownBy w' none) (row:Option Nat):w.grownBy w' row :=
 ⟨h.os,h.tape,h.output,h.size,fun k hk _=>h.block k hk (by simp)⟩
theorem wpList_append_at {P:Program} (w:World) {ops:Array Oper} {rest:List Oper} {o:Oper} {a:Act} {Q:Exit→Act→World→Prop} (hgd:o.guard=none) (s x:Operand) (t:TypeId)
  (ho:o.op=.call { callee:=.builtin .append,args:=#[s,x],argTypes:=#[t,t] })
  (e:TypeId) (i:TypeInfo) (z:Value) (size bytes:Nat) (ht:P.underlying t=some (.slice e)) (hi:P.info? e=some i) (hz:i.zero=some z)
  (hsize:i.size=size) (hby:i.bytes=bytes) (hzs:z.cells.size=size) (hs0:0 < size)
  (v:Value) (n:Nat) (xs:List Value) (hs:a.eval s=v) (hown:w.ownsRow 0 e size v n xs)
  (ad:Addr) (m c:Nat) (hm:0 < m) (news:List Value) (hx:a.eval x=.slice (some ad) m c) (hl:news.length=m * size) (hnews:∀ j u,news[j]?=some u→w.cell? (ad.add j)=some u) (h1:∀ u ∈ news,u.oneCell'=true)
  (h63:n + m≤maxLen) (hbytes:(n + m) * bytes≤140737488355328)
  (h:∀ g cap w',w'.ownsRow 0 e size (.slice (some ⟨g,0,none⟩) (n + m) cap) (n + m) (xs ++ news)→w.grownBy w' v.ownBlock→(v.ownBlock=some g∨w.heap.size≤g) →
   (∀ e' s' u k ys,w.ownsRow 0 e' s' u k ys→(u.ownBlock=v.ownBlock→k * s'≤n * size∧e'=e∧s'=size)→w'.ownsRow 0 e' s' u k ys)→wpList P ops Q rest (a.put o.dst (.slice (some ⟨g,0,none⟩) (n + m) cap)) w'):wpList P ops Q (o :: rest) a w:=by
 have grow:∀ (ao:Option Addr) (cap:Nat),v=.slice ao n cap→(ao=none→n=0∧cap=0)→(∀ b,ao=some b→∀ j u,xs[j]?=some u→w.cell? (b.add j)=some u)→cap < n + m→wpList P ops Q (o :: rest) a w:=by
  intro ao cap hv hnone holds hfull
  refine wpList_append_grows w hgd s x t ho e i z size bytes ht hi hz hsize hby hzs hs0 ao n cap xs (hs.trans hv) hnone hown.1 holds ad m c news hx hl hnews h1 hfull h63 hbytes ?_
  intro v' w' hown' hg'
  obtain ⟨g,cv,rfl⟩:=own_some hown' (by omega)
  refine h g cv w' (own_zero hown') (grown_more hg' _) (.inr (hown'.lt g rfl).1) ?_
  intro e' s' u k ys hu _
  refine ⟨hu.1,?_⟩
  rcases hu.2 with h2 | ⟨gu,cu,curu,hv2,hb2,hh2,r⟩
  ·exact .inl h2
  ·exact .inr ⟨gu,cu,curu,hv2,hb2,(hg'.block gu (lt_of_block hh2) (by simp)).trans hh2,r⟩
 rcases hown.2 with ⟨hv,hn0⟩ | ⟨g,cap,cur,hv,hb,hh,hle,hmx,hsz,htk⟩
 ·exact grow none 0 (by rw [hv,hn0]) (fun _=>⟨hn0,rfl⟩) (by simp) (by omega)
 ·by_cases hfit:n + m≤cap
  ·have hown2:=hown
   rw [hv] at hown2
   refine wpList_append_fits w hgd s x t ho 0 e i size ht hi hsize g n cap xs (hs.trans hv) hown2 ad m c news hx hl hnews h1 hfit ?_
   intro w' hown' hg'
   refine h g cap w' hown' (by rw [hv];exact hg') (.inl (by rw [hv];rfl)) ?_
   intro e' s' u k ys hu hk
   refine ⟨hu.1,?_⟩
   rcases hu.2 with h2 | ⟨gu,cu,curu,hv2,hb2,hh2,hleu,hmu,hsu,htu⟩
   ·exact .inl h2
   ·by_cases hgg:gu=g
    ·subst hgg
     obtain ⟨hkn,he',hs'⟩:=hk (by rw [hv2,hv];rfl)
     subst he' hs'
     rw [hh] at hh2
     simp only [Option.some.injEq,Obj.cells.injEq] at hh2
     obtain ⟨rfl,_⟩:=hh2
     rcases hown'.2 with ⟨h0,_⟩ | ⟨g',cap',cur',hv',hb',hh',hle',hmx',hsz',htk'⟩
     ·simp at h0
     ·simp only [Value.slice.injEq,Option.some.injEq,Addr.mk.injEq] at hv'
      obtain ⟨⟨rfl,_,_⟩,_,rfl⟩:=hv'
      have hmul:k * s'≤(n + m) * s':=Nat.le_trans hkn (Nat.mul_le_mul_right _ (by omega))
      refine .inr ⟨gu,cu,cur',hv2,hb2,hh',hleu,hmu,?_,?_⟩
      ·rw [hsz',← hsz,hsu]
      ·rw [← htu,← show ((cur'.toList.take ((n + m) * s')).take (k * s'))=cur'.toList.take (k * s') from by rw [List.take_take];congr 1;omega,htk',← htk,List.take_append_of_le_length (by rw [List.length_take,Array.length_toList,hsz];have:=Nat.mul_le_mul_right s' hle;omega),List.take_take]
       congr 1
       omega
    ·exact .inr ⟨gu,cu,curu,hv2,hb2,(hg'.block gu (lt_of_block hh2) (by simpa using hgg)).trans hh2,hleu,hmu,hsu,htu⟩
  ·refine grow (some ⟨g,0,none⟩) cap hv (by simp) ?_ (by omega)
   intro b hb' j u hj
   simp only [Option.some.injEq] at hb'
   subst hb'
   exact hown.cells (g:=g) (by rw [hv];rfl) j u hj
def Pc.cells (q:Pc):List Value:=[.int .i64 q.seq,.int .i64 q.a,.int .i64 q.b,.bool q.ends,.bool q.waits]
def Ev.cells (v:Ev):List Value:=[.int .i64 v.seq,.int .u8 v.fate,.int .u8 v.whr]
def Snt.fly (s:Snt):List Value:=[.int .i64 s.seq,.int .i64 s.frm,.int .i64 s.to]
structure RE where
 e:Ent
 off:Int
 more:Bool
 sport:Int
 dport:Int
 dv:Value
 pv:Value
def RE.cells (r:RE):List Value:=[.int .i64 r.e.owner,.int .u16 r.e.src,.int .u16 r.e.dst,.int .u8 r.e.proto,.int .u16 r.e.id,.int .u8 r.off,.bool r.more,.int .u16 r.sport,.int .u16 r.dport,r.dv,.int .i64 r.e.born,r.pv,.bool r.e.known,.int .u8 r.e.to]
structure RN where
 s:Snt
 dv:Value
def RN.cells (r:RN):List Value:=[.int .i64 r.s.seq,.int .i64 r.s.frm,.int .i64 r.s.to,.int .u16 r.s.p.src,.int .u16 r.s.p.dst,.int .u8 r.s.p.proto,.int .u16 r.s.p.id,.int .u8 r.s.p.off,.bool r.s.p.more,.int .u16 r.s.p.sport,.int .u16 r.s.p.dport,r.dv]
theorem Pc.len (q:Pc):q.cells.length=5:=rfl
theorem RE.len (q:RE):q.cells.length=14:=rfl
theorem RN.len (q:RN):q.cells.length=12:=rfl
structure Stp (w w':World) (F F':Nat→Prop):Prop where
 only:Only F w w'
 own:∀ k,F' k→F k∨w.heap.size≤k
theorem Stp.refl (w:World) (F:Nat→Prop):Stp w w F F:=⟨Only.refl _ _,fun _ h=>.inl h⟩
theorem Stp.trans {a b c:World} {F G H:Nat→Prop} (h:Stp a b F G) (k:Stp b c G H):Stp a c F H:=by
 refine ⟨h.only.trans k.only ?_,?_⟩
 ·intro i hi hg
  rcases h.own i hg with h1 | h1
  ·exact h1
  ·omega
 ·intro i hi
  rcases k.own i hi with h1 | h1
  ·exact h.own i h1
  ·exact .inr (Nat.le_trans h.only.size h1)
theorem Stp.below {w w':World} {F:Nat→Prop} (h:Below w.heap.size w w'):Stp w w' F F:=⟨Only.of_below h,fun _ h=>.inl h⟩
structure RefIs (w:World) (yb:Nat) (S:Cl) (F:Nat→Prop) (vS vE vN vV:Value) (ES:List RE) (NS:List RN):Prop where
 blk:w.heap[yb]?=some (.cells #[.int .i64 S.reps,.int .i64 S.life,.int .i64 S.now,.int .i64 S.next,vS,vE,vN,vV] 73 (0,0))
 hes:ES.map RE.e=S.ents
 hns:NS.map RN.s=S.sent
 rS:w.ownsRow 0 5 1 vS S.slots.length (S.slots.map (Value.int .u8))
 rE:w.ownsRow 0 128 14 vE ES.length (ES.flatMap RE.cells)
 rN:w.ownsRow 0 110 12 vN NS.length (NS.flatMap RN.cells)
 rV:w.ownsRow 0 60 3 vV S.evs.length (S.evs.flatMap Ev.cells)
 rP:∀ r ∈ ES,w.ownsRow 0 130 5 r.pv r.e.pcs.length (r.e.pcs.flatMap Pc.cells)
 fy:F yb
 fS:∀ g,vS.ownBlock=some g→F g
 fE:∀ g,vE.ownBlock=some g→F g
 fN:∀ g,vN.ownBlock=some g→F g
 fV:∀ g,vV.ownBlock=some g→F g
 fP:∀ r ∈ ES,∀ g,r.pv.ownBlock=some g→F g
 flt:∀ k,F k→k < w.heap.size
 raw:∀ r ∈ ES,∃ ao n cap,r.dv=.slice ao n cap
 rawN:∀ r ∈ NS,∃ ao cap,r.dv=.slice ao r.s.p.dlen cap
theorem RefIs.only {w w':World} {yb:Nat} {S:Cl} {F G:Nat→Prop} {vS vE vN vV:Value} {ES:List RE} {NS:List RN} (h:RefIs w yb S F vS vE vN vV ES NS) (ho:Only G w w') (hG:∀ k,F k→¬ G k):RefIs w' yb S F vS vE vN vV ES NS :=
 ⟨(ho.block yb (h.flt yb h.fy) (hG yb h.fy)).trans h.blk,h.hes,h.hns,own_only h.rS ho (fun g hg=>hG g (h.fS g hg)),own_only h.rE ho (fun g hg=>hG g (h.fE g hg)),own_only h.rN ho (fun g hg=>hG g (h.fN g hg)),own_only h.rV ho (fun g hg=>hG g (h.fV g hg)),fun r hr=>own_only (h.rP r hr) ho (fun g hg=>hG g (h.fP r hr g hg)),
 h.fy,h.fS,h.fE,h.fN,h.fV,h.fP,fun k hk=>Nat.lt_of_lt_of_le (h.flt k hk) ho.size,h.raw,h.rawN⟩
theorem RefIs.below {w w':World} {yb:Nat} {S:Cl} {F:Nat→Prop} {vS vE vN vV:Value} {ES:List RE} {NS:List RN} (h:RefIs w yb S F vS vE vN vV ES NS) (hb:Below w.heap.size w w'):RefIs w' yb S F vS vE vN vV ES NS :=
 h.only (G:=fun _=>False) (Only.of_below hb) (fun _ _ f=>f)
theorem RefIs.lt {w:World} {yb:Nat} {S:Cl} {F:Nat→Prop} {vS vE vN vV:Value} {ES:List RE} {NS:List RN} (h:RefIs w yb S F vS vE vN vV ES NS):yb < w.heap.size:=lt_of_block h.blk
theorem Tryz.infoEv:(Tryz.prog.info? 60).map (fun i=>(i.zero,i.size,i.bytes))=some (some (.agg #[.int .i64 0,.int .u8 0,.int .u8 0]),3,16):=by kernel_rfl
theorem Tryz.infoFl:(Tryz.prog.info? 64).map (fun i=>(i.zero,i.size,i.bytes))=some (some (.agg #[.int .i64 0,.int .i64 0,.int .i64 0]),3,24):=by kernel_rfl
theorem own_set' {w:World} {base k s wb j:Nat} {e t:TypeId} {u:Value} {ys:List Value} {cs:Array Value} (h:w.ownsRow base e s u k ys) (hw:w.heap[wb]?=some (.cells cs t (0,0))) (hne:e ≠ t) (x:Value):(w.setCell ⟨wb,j,none⟩ x).ownsRow base e s u k ys :=
 ownsRow_setCell_other h (own_apart_blk h hw hne) x
theorem RefIs.setV {w w2:World} {yb:Nat} {S:Cl} {F:Nat→Prop} {vS vE vN vV:Value} {ES:List RE} {NS:List RN} (h:RefIs w yb S F vS vE vN vV ES NS) (ho:Only (fun k=>vV.ownBlock=some k) w w2) (evs:List Ev) (v':Value) (hv:w2.ownsRow 0 60 3 v' evs.length (evs.flatMap Ev.cells)) (hf:∀ g,v'.ownBlock=some g→vV.ownBlock=some g∨w.heap.size≤g) :
  RefIs (w2.setCell ⟨yb,7,none⟩ v') yb { S with evs:=evs } (fun k=>F k∨v'.ownBlock=some k) vS vE vN v' ES NS∧Stp w (w2.setCell ⟨yb,7,none⟩ v') F (fun k=>F k∨v'.ownBlock=some k):=by
 have hb2:w2.heap[yb]?=_:=(ho.block yb h.lt (own_apart_blk h.rV h.blk (by decide))).trans h.blk
 have hw3:=row_setCell (j:=7) hb2 v'
 have rS:=own_set' (j:=7) (own_only h.rS ho (fun g hg=>own_apart' h.rS h.rV (by decide) hg)) hb2 (by decide) v'
 have rE:=own_set' (j:=7) (own_only h.rE ho (fun g hg=>own_apart' h.rE h.rV (by decide) hg)) hb2 (by decide) v'
 have rN:=own_set' (j:=7) (own_only h.rN ho (fun g hg=>own_apart' h.rN h.rV (by decide) hg)) hb2 (by decide) v'
 have rV:=own_set' (j:=7) hv hb2 (by decide) v'
 have rP:∀ r ∈ ES,(w2.setCell ⟨yb,7,none⟩ v').ownsRow 0 130 5 r.pv r.e.pcs.length (r.e.pcs.flatMap Pc.cells):=fun r hr=>own_set' (j:=7) (own_only (h.rP r hr) ho (fun g hg=>own_apart' (h.rP r hr) h.rV (by decide) hg)) hb2 (by decide) v'
 have hsz:(w2.setCell ⟨yb,7,none⟩ v').heap.size=w2.heap.size:=by simp
 refine ⟨⟨by simpa using hw3,h.hes,h.hns,rS,rE,rN,rV,rP,.inl h.fy,fun g hg=>.inl (h.fS g hg),fun g hg=>.inl (h.fE g hg),fun g hg=>.inl (h.fN g hg),fun g hg=>.inr hg,fun r hr g hg=>.inl (h.fP r hr g hg),?_,h.raw,h.rawN⟩,⟨(ho.mono (fun k _ hk=>h.fV k hk)).setCell (fun _=>h.fy) _,?_⟩⟩
 ·intro k hk
  rw [hsz]
  exact by
   rcases hk with hk | hk
   ·exact Nat.lt_of_lt_of_le (h.flt k hk) ho.size
   ·exact (hv.lt k hk).2
 ·intro k hk
  exact by
   rcases hk with hk | hk
   ·exact .inl hk
   ·rcases hf k hk with h1 | h1
    ·exact .inl (h.fV k h1)
    ·exact .inr h1
theorem RefIs.setN {w w2:World} {yb:Nat} {S:Cl} {F:Nat→Prop} {vS vE vN vV:Value} {ES:List RE} {NS:List RN} (h:RefIs w yb S F vS vE vN vV ES NS) (ho:Only (fun k=>vN.ownBlock=some k) w w2) (NS':List RN) (v':Value) (hv:w2.ownsRow 0 110 12 v' NS'.length (NS'.flatMap RN.cells)) (hraw:∀ r ∈ NS',∃ ao cap,r.dv=.slice ao r.s.p.dlen cap) (hf:∀ g,v'.ownBlock=some g→vN.ownBlock=some g∨w.heap.size≤g) :
  RefIs (w2.setCell ⟨yb,6,none⟩ v') yb { S with sent:=NS'.map RN.s } (fun k=>F k∨v'.ownBlock=some k) vS vE v' vV ES NS'∧Stp w (w2.setCell ⟨yb,6,none⟩ v') F (fun k=>F k∨v'.ownBlock=some k):=by
 have hb2:w2.heap[yb]?=_:=(ho.block yb h.lt (own_apart_blk h.rN h.blk (by decide))).trans h.blk
 have hw3:=row_setCell (j:=6) hb2 v'
 have rS:=own_set' (j:=6) (own_only h.rS ho (fun g hg=>own_apart' h.rS h.rN (by decide) hg)) hb2 (by decide) v'
 have rE:=own_set' (j:=6) (own_only h.rE ho (fun g hg=>own_apart' h.rE h.rN (by decide) hg)) hb2 (by decide) v'
 have rN:=own_set' (j:=6) hv hb2 (by decide) v'
 have rV:=own_set' (j:=6) (own_only h.rV ho (fun g hg=>own_apart' h.rV h.rN (by decide) hg)) hb2 (by decide) v'
 have rP:∀ r ∈ ES,(w2.setCell ⟨yb,6,none⟩ v').ownsRow 0 130 5 r.pv r.e.pcs.length (r.e.pcs.flatMap Pc.cells):=fun r hr=>own_set' (j:=6) (own_only (h.rP r hr) ho (fun g hg=>own_apart' (h.rP r hr) h.rN (by decide) hg)) hb2 (by decide) v'
 have hsz:(w2.setCell ⟨yb,6,none⟩ v').heap.size=w2.heap.size:=by simp
 refine ⟨⟨by simpa using hw3,h.hes,rfl,rS,rE,rN,rV,rP,.inl h.fy,fun g hg=>.inl (h.fS g hg),fun g hg=>.inl (h.fE g hg),fun g hg=>.inr hg,fun g hg=>.inl (h.fV g hg),fun r hr g hg=>.inl (h.fP r hr g hg),?_,h.raw,hraw⟩,⟨(ho.mono (fun k _ hk=>h.fN k hk)).setCell (fun _=>h.fy) _,?_⟩⟩
 ·intro k hk
  rw [hsz]
  exact by
   rcases hk with hk | hk
   ·exact Nat.lt_of_lt_of_le (h.flt k hk) ho.size
   ·exact (hv.lt k hk).2
 ·intro k hk
  exact by
   rcases hk with hk | hk
   ·exact .inl hk
   ·rcases hf k hk with h1 | h1
    ·exact .inl (h.fN k h1)
    ·exact .inr h1
theorem RefIs.setS {w w2:World} {yb:Nat} {S:Cl} {F:Nat→Prop} {vS vE vN vV:Value} {ES:List RE} {NS:List RN} (h:RefIs w yb S F vS vE vN vV ES NS) (ho:Only (fun k=>vS.ownBlock=some k) w w2) (T:List Int) (v':Value) (hv:w2.ownsRow 0 5 1 v' T.length (T.map (Value.int .u8))) (hf:∀ g,v'.ownBlock=some g→vS.ownBlock=some g∨w.heap.size≤g) :
  RefIs (w2.setCell ⟨yb,4,none⟩ v') yb { S with slots:=T } (fun k=>F k∨v'.ownBlock=some k) v' vE vN vV ES NS∧Stp w (w2.setCell ⟨yb,4,none⟩ v') F (fun k=>F k∨v'.ownBlock=some k):=by
 have hb2:w2.heap[yb]?=_:=(ho.block yb h.lt (own_apart_blk h.rS h.blk (by decide))).trans h.blk
 have hw3:=row_setCell (j:=4) hb2 v'
 have rS:=own_set' (j:=4) hv hb2 (by decide) v'
 have rE:=own_set' (j:=4) (own_only h.rE ho (fun g hg=>own_apart' h.rE h.rS (by decide) hg)) hb2 (by decide) v'
 have rN:=own_set' (j:=4) (own_only h.rN ho (fun g hg=>own_apart' h.rN h.rS (by decide) hg)) hb2 (by decide) v'
 have rV:=own_set' (j:=4) (own_only h.rV ho (fun g hg=>own_apart' h.rV h.rS (by decide) hg)) hb2 (by decide) v'
 have rP:∀ r ∈ ES,(w2.setCell ⟨yb,4,none⟩ v').ownsRow 0 130 5 r.pv r.e.pcs.length (r.e.pcs.flatMap Pc.cells):=fun r hr=>own_set' (j:=4) (own_only (h.rP r hr) ho (fun g hg=>own_apart' (h.rP r hr) h.rS (by decide) hg)) hb2 (by decide) v'
 have hsz:(w2.setCell ⟨yb,4,none⟩ v').heap.size=w2.heap.size:=by simp
 refine ⟨⟨by simpa using hw3,h.hes,h.hns,rS,rE,rN,rV,rP,.inl h.fy,fun g hg=>.inr hg,fun g hg=>.inl (h.fE g hg),fun g hg=>.inl (h.fN g hg),fun g hg=>.inl (h.fV g hg),fun r hr g hg=>.inl (h.fP r hr g hg),?_,h.raw,h.rawN⟩,⟨(ho.mono (fun k _ hk=>h.fS k hk)).setCell (fun _=>h.fy) _,?_⟩⟩
 ·intro k hk
  rw [hsz]
  exact by
   rcases hk with hk | hk
   ·exact Nat.lt_of_lt_of_le (h.flt k hk) ho.size
   ·exact (hv.lt k hk).2
 ·intro k hk
  exact by
   rcases hk with hk | hk
   ·exact .inl hk
   ·rcases hf k hk with h1 | h1
    ·exact .inl (h.fS k h1)
    ·exact .inr h1
theorem RefIs.setE {w w2:World} {yb:Nat} {S:Cl} {F:Nat→Prop} {vS vE vN vV:Value} {ES:List RE} {NS:List RN} (h:RefIs w yb S F vS vE vN vV ES NS) (ho:Only (fun k=>vE.ownBlock=some k) w w2) (ES':List RE) (v':Value) (hv:w2.ownsRow 0 128 14 v' ES'.length (ES'.flatMap RE.cells)) (hraw:∀ r ∈ ES',∃ ao n cap,r.dv=.slice ao n cap) (hp:∀ r ∈ ES',r ∈ ES∨w2.ownsRow 0 130 5 r.pv r.e.pcs.length (r.e.pcs.flatMap Pc.cells)) (hpf:∀ r ∈ ES',∀ g,r.pv.ownBlock=some g→F g∨w.heap.size≤g∧g < w2.heap.size) (hf:∀ g,v'.ownBlock=some g→vE.ownBlock=some g∨w.heap.size≤g) :
  RefIs (w2.setCell ⟨yb,5,none⟩ v') yb { S with ents:=ES'.map RE.e } (fun k=>F k∨v'.ownBlock=some k∨∃ r ∈ ES',r.pv.ownBlock=some k) vS v' vN vV ES' NS∧Stp w (w2.setCell ⟨yb,5,none⟩ v') F (fun k=>F k∨v'.ownBlock=some k∨∃ r ∈ ES',r.pv.ownBlock=some k):=by
 have hb2:w2.heap[yb]?=_:=(ho.block yb h.lt (own_apart_blk h.rE h.blk (by decide))).trans h.blk
 have hw3:=row_setCell (j:=5) hb2 v'
 have rS:=own_set' (j:=5) (own_only h.rS ho (fun g hg=>own_apart' h.rS h.rE (by decide) hg)) hb2 (by decide) v'
 have rE:=own_set' (j:=5) hv hb2 (by decide) v'
 have rN:=own_set' (j:=5) (own_only h.rN ho (fun g hg=>own_apart' h.rN h.rE (by decide) hg)) hb2 (by decide) v'
 have rV:=own_set' (j:=5) (own_only h.rV ho (fun g hg=>own_apart' h.rV h.rE (by decide) hg)) hb2 (by decide) v'
 have rP:∀ r ∈ ES,(w2.setCell ⟨yb,5,none⟩ v').ownsRow 0 130 5 r.pv r.e.pcs.length (r.e.pcs.flatMap Pc.cells):=fun r hr=>own_set' (j:=5) (own_only (h.rP r hr) ho (fun g hg=>own_apart' (h.rP r hr) h.rE (by decide) hg)) hb2 (by decide) v'
 have rP':∀ r ∈ ES',(w2.setCell ⟨yb,5,none⟩ v').ownsRow 0 130 5 r.pv r.e.pcs.length (r.e.pcs.flatMap Pc.cells):=fun r hr=>(hp r hr).elim (rP r) (fun hq=>own_set' (j:=5) hq hb2 (by decide) v')
 have hsz:(w2.setCell ⟨yb,5,none⟩ v').heap.size=w2.heap.size:=by simp
 refine ⟨⟨by simpa using hw3,rfl,h.hns,rS,rE,rN,rV,rP',.inl h.fy,fun g hg=>.inl (h.fS g hg),fun g hg=>.inr (.inl hg),fun g hg=>.inl (h.fN g hg),fun g hg=>.inl (h.fV g hg),fun r hr g hg=>.inr (.inr ⟨r,hr,hg⟩),?_,hraw,h.rawN⟩,⟨(ho.mono (fun k _ hk=>h.fE k hk)).setCell (fun _=>h.fy) _,?_⟩⟩
 ·intro k hk
  rw [hsz]
  exact by
   rcases hk with hk | hk | ⟨r,hr,hk⟩
   ·exact Nat.lt_of_lt_of_le (h.flt k hk) ho.size
   ·exact (hv.lt k hk).2
   ·rcases hpf r hr k hk with h1 | h1
    ·exact Nat.lt_of_lt_of_le (h.flt k h1) ho.size
    ·exact h1.2
 ·intro k hk
  exact by
   rcases hk with hk | hk | ⟨r,hr,hk⟩
   ·exact .inl hk
   ·rcases hf k hk with h1 | h1
    ·exact .inl (h.fE k h1)
    ·exact .inr h1
   ·rcases hpf r hr k hk with h1 | h1
    ·exact .inl h1
    ·exact .inr h1.1
theorem RefIs.set_next {w:World} {yb:Nat} {S:Cl} {F:Nat→Prop} {vS vE vN vV:Value} {ES:List RE} {NS:List RN} (h:RefIs w yb S F vS vE vN vV ES NS) (n:Nat):RefIs (w.setCell ⟨yb,3,none⟩ (.int .i64 n)) yb { S with next:=n } F vS vE vN vV ES NS∧Stp w (w.setCell ⟨yb,3,none⟩ (.int .i64 n)) F F:=by
 have hw3:=row_setCell (j:=3) h.blk (.int .i64 n)
 have hsz:(w.setCell ⟨yb,3,none⟩ (.int .i64 (n:Int))).heap.size=w.heap.size:=by simp
 refine ⟨⟨by simpa using hw3,h.hes,h.hns,own_set' h.rS h.blk (by decide) _,own_set' h.rE h.blk (by decide) _,own_set' h.rN h.blk (by decide) _,own_set' h.rV h.blk (by decide) _,fun r hr=>own_set' (h.rP r hr) h.blk (by decide) _,h.fy,h.fS,h.fE,h.fN,h.fV,h.fP,fun k hk=>by rw [hsz];exact h.flt k hk,h.raw,h.rawN⟩,⟨(Only.refl _ _).setCell (fun _=>h.fy) _,fun k hk=>.inl hk⟩⟩
theorem RefIs.set_now {w:World} {yb:Nat} {S:Cl} {F:Nat→Prop} {vS vE vN vV:Value} {ES:List RE} {NS:List RN} (h:RefIs w yb S F vS vE vN vV ES NS) (n:Int):RefIs (w.setCell ⟨yb,2,none⟩ (.int .i64 n)) yb { S with now:=n } F vS vE vN vV ES NS∧Stp w (w.setCell ⟨yb,2,none⟩ (.int .i64 n)) F F:=by
 have hw3:=row_setCell (j:=2) h.blk (.int .i64 n)
 have hsz:(w.setCell ⟨yb,2,none⟩ (.int .i64 (n:Int))).heap.size=w.heap.size:=by simp
 refine ⟨⟨by simpa using hw3,h.hes,h.hns,own_set' h.rS h.blk (by decide) _,own_set' h.rE h.blk (by decide) _,own_set' h.rN h.blk (by decide) _,own_set' h.rV h.blk (by decide) _,fun r hr=>own_set' (h.rP r hr) h.blk (by decide) _,h.fy,h.fS,h.fE,h.fN,h.fV,h.fP,fun k hk=>by rw [hsz];exact h.flt k hk,h.raw,h.rawN⟩,⟨(Only.refl _ _).setCell (fun _=>h.fy) _,fun k hk=>.inl hk⟩⟩
end Go.Proofs.YtajphdppmdoalaaGreat
