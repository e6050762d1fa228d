import Derived.Test.YtajphdppmdoalaaGreatZAFtoF
import Derived.Test.YtajphdppmdoalaaGreatZAG16ptoG16p
import Derived.Test.YtajphdppmdoalaaGreatZAG17ptoG17p
import Derived.Test.YtajphdppmdoalaaGreatZAG16qtoG16q
import Derived.Test.YtajphdppmdoalaaGreatZAG17qtoG17q
import Derived.Laws.BytesArg
import Derived.ArgAppend
set_option maxRecDepth 100000
set_option maxHeartbeats 6400000
set_option linter.unusedVariables false
namespace Go.Proofs.YtajphdppmdoalaaGreat
open Go.RowKit
theorem split12:∀ (zs:List Int),12≤zs.length→∃ h0 h1 h2 h3 h4 h5 h6 h7 h8 h9 h10 h11 r,zs=[h0,h1,h2,h3,h4,h5,h6,h7,h8,h9,h10,h11] ++ r
 | h0 :: h1 :: h2 :: h3 :: h4 :: h5 :: h6 :: h7 :: h8 :: h9 :: h10 :: h11 :: r,_=>⟨h0,h1,h2,h3,h4,h5,h6,h7,h8,h9,h10,h11,r,rfl⟩
 | [],h=>absurd h (by simp)
 | [_],h=>absurd h (by simp)
 | [_,_],h=>absurd h (by simp)
 | [_,_,_],h=>absurd h (by simp)
 | [_,_,_,_],h=>absurd h (by simp)
 | [_,_,_,_,_],h=>absurd h (by simp)
 | [_,_,_,_,_,_],h=>absurd h (by simp)
 | [_,_,_,_,_,_,_],h=>absurd h (by simp)
 | [_,_,_,_,_,_,_,_],h=>absurd h (by simp)
 | [_,_,_,_,_,_,_,_,_],h=>absurd h (by simp)
 | [_,_,_,_,_,_,_,_,_,_],h=>absurd h (by simp)
 | [_,_,_,_,_,_,_,_,_,_,_],h=>absurd h (by simp)
theorem split4:∀ (zs:List Int),4≤zs.length→∃ p0 p1 p2 p3 r,zs=[p0,p1,p2,p3] ++ r
 | p0 :: p1 :: p2 :: p3 :: r,_=>⟨p0,p1,p2,p3,r,rfl⟩
 | [],h=>absurd h (by simp)
 | [_],h=>absurd h (by simp)
 | [_,_],h=>absurd h (by simp)
 | [_,_,_],h=>absurd h (by simp)
def spOf (h8:Int):List Int→Int
 | p0 :: p1 :: _=>if h8=0 then p0 * 256 + p1 else 0
 | _=>0
def dpOf (h8:Int):List Int→Int
 | _ :: _ :: p2 :: p3 :: _=>if h8=0 then p2 * 256 + p3 else 0
 | _=>0
def dtOf (h8:Int) (r:List Int):List Int:=if h8=0 then r.drop 4 else r
def upC:List Int→Int
 | h0 :: h1 :: h2 :: h3 :: h4 :: h5 :: h6 :: h7 :: h8 :: h9 :: h10 :: h11 :: r =>
  if h0 ≠ 16∧h0 ≠ 17 then 3 else if (r.length:Int) ≠ h9∨(h8=0∧r.length < 4) then 4
  else if h10 * 256 + h11 ≠ csum h0 h1 h2 h3 h4 h5 h6 h7 h8 h9 then 5
  else if wfB h8 (h0 == 17) (spOf h8 r) (dpOf h8 r) (dtOf h8 r).length=false then 6 else 0
 | _=>2
structure Up where
 src:Int
 dst:Int
 proto:Int
 id:Int
 off:Int
 more:Bool
 sport:Int
 dport:Int
 data:List Int
def upP:List Int→Up
 | h0 :: h1 :: h2 :: h3 :: h4 :: h5 :: h6 :: h7 :: h8 :: _ :: _ :: _ :: r=>⟨h2 * 256 + h3,h4 * 256 + h5,h1,h6 * 256 + h7,h8,h0 == 17,spOf h8 r,dpOf h8 r,dtOf h8 r⟩
 | _=>⟨0,0,0,0,0,false,0,0,[]⟩
def UpPost (w:World) (zs:List Int) (e:Ending) (w':World):Prop :=
 Below w.heap.size w w' ∧
  ((upC zs=0∧∃ v,e=.returned (.tuple #[.agg #[.int .u16 (upP zs).src,.int .u16 (upP zs).dst,.int .u8 (upP zs).proto,.int .u16 (upP zs).id,.int .u8 (upP zs).off,.bool (upP zs).more,.int .u16 (upP zs).sport,.int .u16 (upP zs).dport,v],.int .i64 0])
    ∧ w'.ownsRow w.heap.size 5 1 v (upP zs).data.length ((upP zs).data.map (Value.int .u8)))
   ∨ (upC zs ≠ 0∧e=.returned (.tuple #[.agg #[.int .u16 0,.int .u16 0,.int .u8 0,.int .u16 0,.int .u8 0,.bool false,.int .u16 0,.int .u16 0,.slice none 0 0],.int .i64 (upC zs)])))
theorem up_err {w:World} {zs:List Int} {args:Array Value} {c:Int} (hc:upC zs=c) (h0:c ≠ 0)
  (h:Calls Tryz.prog 64 args w fun e w'=>e=.returned (.tuple #[.agg #[.int .u16 0,.int .u16 0,.int .u8 0,.int .u16 0,.int .u8 0,.bool false,.int .u16 0,.int .u16 0,.slice none 0 0],.int .i64 c])∧Below w.heap.size w w') :
  Calls Tryz.prog 64 args w (UpPost w zs):=by
 refine h.mono ?_
 rintro e w' ⟨rfl,hb⟩
 exact ⟨hb,.inr ⟨by rw [hc];exact h0,by rw [hc]⟩⟩
theorem unpack_any (ao:Option Addr) (n cap:Nat) (zs:List Int) (w:World) (hl:zs.length=n) (hcap:n≤cap) (hm:cap≤maxLen) (hd:Has w ao zs) (hz:∀ z ∈ zs,0≤z∧z≤255) :
  Calls Tryz.prog 64 #[.slice ao n cap] w (UpPost w zs):=by
 by_cases h12:n < 12
 ·refine up_err (c:=2) ?_ (by decide) (unpack_short ao n cap w h12)
  unfold upC
  split
  ·simp at hl;omega
  ·rfl
 obtain ⟨h0,h1,h2,h3,h4,h5,h6,h7,h8,h9,h10,h11,r,rfl⟩:=split12 zs (by omega)
 obtain ⟨b,o,rfl,_,_⟩:=hd.2 (by simp)
 simp only [List.length_append,List.length_cons,List.length_nil] at hl
 have b0:=hz h0 (by simp)
 have b1:=hz h1 (by simp)
 have b2:=hz h2 (by simp)
 have b3:=hz h3 (by simp)
 have b4:=hz h4 (by simp)
 have b5:=hz h5 (by simp)
 have b6:=hz h6 (by simp)
 have b7:=hz h7 (by simp)
 have b8:=hz h8 (by simp)
 have b9:=hz h9 (by simp)
 have b10:=hz h10 (by simp)
 have b11:=hz h11 (by simp)
 have hr:∀ z ∈ r,0≤z∧z≤255:=fun z hz'=>hz z (by simp [hz'])
 clear hz
 by_cases hmk:h0 ≠ 16∧h0 ≠ 17
 ·exact up_err (c:=3) (by simp [upC,hmk]) (by decide) (unpack_mark b o n cap h0 h1 h2 h3 h4 h5 h6 h7 h8 h9 h10 h11 r w hl hd (by simpa using hmk.1) (by simpa using hmk.2))
 have hmk':h0=16∨h0=17:=by omega
 have hU:upC ([h0,h1,h2,h3,h4,h5,h6,h7,h8,h9,h10,h11] ++ r)=if (r.length:Int) ≠ h9∨(h8=0∧r.length < 4) then 4
  else if h10 * 256 + h11 ≠ csum h0 h1 h2 h3 h4 h5 h6 h7 h8 h9 then 5
  else if wfB h8 (h0 == 17) (spOf h8 r) (dpOf h8 r) (dtOf h8 r).length=false then 6 else 0:=by
  show (if _ then _ else _)=_
  rw [if_neg hmk]
  rfl
 clear hmk
 by_cases h9r:(r.length:Int) ≠ h9
 ·have hc:upC ([h0,h1,h2,h3,h4,h5,h6,h7,h8,h9,h10,h11] ++ r)=4:=by rw [hU,if_pos (.inl h9r)]
  refine up_err hc (by decide) ?_
  by_cases hre:r=[]
  ·subst hre
   obtain rfl:n=12:=by simpa using hl.symm
   by_cases hce:cap=12
   ·subst hce
    rcases hmk' with rfl | rfl
    ·exact unpack_lenAe_16 b o h1 h2 h3 h4 h5 h6 h7 h8 h9 h10 h11 w hd b9 (by simpa using h9r)
    ·exact unpack_lenAe_17 b o h1 h2 h3 h4 h5 h6 h7 h8 h9 h10 h11 w hd b9 (by simpa using h9r)
   ·rcases hmk' with rfl | rfl
    ·exact unpack_lenA_16 b o 12 cap h1 h2 h3 h4 h5 h6 h7 h8 h9 h10 h11 [] w rfl (by omega) hm hd b9 (by simpa using h9r)
    ·exact unpack_lenA_17 b o 12 cap h1 h2 h3 h4 h5 h6 h7 h8 h9 h10 h11 [] w rfl (by omega) hm hd b9 (by simpa using h9r)
  ·have:0 < r.length:=by cases r with | nil=>exact absurd rfl hre | cons _ _=>simp
   rcases hmk' with rfl | rfl
   ·exact unpack_lenA_16 b o n cap h1 h2 h3 h4 h5 h6 h7 h8 h9 h10 h11 r w hl (by omega) hm hd b9 (by simpa using h9r)
   ·exact unpack_lenA_17 b o n cap h1 h2 h3 h4 h5 h6 h7 h8 h9 h10 h11 r w hl (by omega) hm hd b9 (by simpa using h9r)
 have h9r':(r.length:Int)=h9:=by omega
 clear h9r
 by_cases h8r:h8=0∧r.length < 4
 ·have hc:upC ([h0,h1,h2,h3,h4,h5,h6,h7,h8,h9,h10,h11] ++ r)=4:=by rw [hU,if_pos (.inr h8r)]
  refine up_err hc (by decide) ?_
  obtain ⟨rfl,hr4⟩:=h8r
  by_cases hce:cap=12
  ·subst hce
   obtain rfl:r=[]:=List.eq_nil_of_length_eq_zero (by omega)
   obtain rfl:n=12:=by simpa using hl.symm
   have h90:h9=0:=by simpa using h9r'.symm
   rcases hmk' with rfl | rfl
   ·exact unpack_lenBe_16 b o h1 h2 h3 h4 h5 h6 h7 h9 h10 h11 w hd b9 h90
   ·exact unpack_lenBe_17 b o h1 h2 h3 h4 h5 h6 h7 h9 h10 h11 w hd b9 h90
  ·rcases hmk' with rfl | rfl
   ·exact unpack_lenB_16 b o n cap h1 h2 h3 h4 h5 h6 h7 h9 h10 h11 r w hl (by omega) hm hd b9 h9r' hr4
   ·exact unpack_lenB_17 b o n cap h1 h2 h3 h4 h5 h6 h7 h9 h10 h11 r w hl (by omega) hm hd b9 h9r' hr4
 rw [if_neg (by intro h;rcases h with h | h;exact h h9r';exact h8r h)] at hU
 by_cases hsum:h10 * 256 + h11 ≠ csum h0 h1 h2 h3 h4 h5 h6 h7 h8 h9
 ·have hc:upC ([h0,h1,h2,h3,h4,h5,h6,h7,h8,h9,h10,h11] ++ r)=5:=by rw [hU,if_pos hsum]
  refine up_err hc (by decide) ?_
  by_cases h80:h8=0
  ·subst h80
   have hr4:4≤r.length:=by omega
   rcases hmk' with rfl | rfl
   ·exact unpack_sum_16p b o n cap h1 h2 h3 h4 h5 h6 h7 h9 h10 h11 r w hl (by omega) hm hd b1 b2 b3 b4 b5 b6 b7 b9 b10 b11 h9r' hr4 (by simpa using hsum)
   ·exact unpack_sum_17p b o n cap h1 h2 h3 h4 h5 h6 h7 h9 h10 h11 r w hl (by omega) hm hd b1 b2 b3 b4 b5 b6 b7 b9 b10 b11 h9r' hr4 (by simpa using hsum)
  ·have h80':(h8 == 0)=false:=by simpa using h80
   by_cases hce:cap=12
   ·subst hce
    obtain rfl:r=[]:=List.eq_nil_of_length_eq_zero (by omega)
    obtain rfl:n=12:=by simpa using hl.symm
    have h90:h9=0:=by simpa using h9r'.symm
    rcases hmk' with rfl | rfl
    ·exact unpack_sume_16q b o h1 h2 h3 h4 h5 h6 h7 h8 h9 h10 h11 w hd b1 b2 b3 b4 b5 b6 b7 b8 b9 b10 b11 h80' h90 (by simpa using hsum)
    ·exact unpack_sume_17q b o h1 h2 h3 h4 h5 h6 h7 h8 h9 h10 h11 w hd b1 b2 b3 b4 b5 b6 b7 b8 b9 b10 b11 h80' h90 (by simpa using hsum)
   ·rcases hmk' with rfl | rfl
    ·exact unpack_sum_16q b o n cap h1 h2 h3 h4 h5 h6 h7 h8 h9 h10 h11 r w hl (by omega) hm hd b1 b2 b3 b4 b5 b6 b7 b8 b9 b10 b11 h80' h9r' (by simpa using hsum)
    ·exact unpack_sum_17q b o n cap h1 h2 h3 h4 h5 h6 h7 h8 h9 h10 h11 r w hl (by omega) hm hd b1 b2 b3 b4 b5 b6 b7 b8 b9 b10 b11 h80' h9r' (by simpa using hsum)
 rw [if_neg hsum] at hU
 have hsum':h10 * 256 + h11=csum h0 h1 h2 h3 h4 h5 h6 h7 h8 h9:=by simpa using hsum
 clear hsum
 have fin:∀ (m:Bool) (sp dp:Int) (d:List Int),(h0 == 17)=m→spOf h8 r=sp→dpOf h8 r=dp→dtOf h8 r=d→∀ (e:Ending) (w':World),Below w.heap.size w w' ∧
   ((wfB h8 m sp dp d.length=true∧∃ v,e=.returned (.tuple #[.agg #[.int .u16 (h2 * 256 + h3),.int .u16 (h4 * 256 + h5),.int .u8 h1,.int .u16 (h6 * 256 + h7),.int .u8 h8,.bool m,.int .u16 sp,.int .u16 dp,v],.int .i64 0])∧w'.ownsRow w.heap.size 5 1 v d.length (d.map (Value.int .u8)))
   ∨ (wfB h8 m sp dp d.length=false∧e=.returned (.tuple #[.agg #[.int .u16 0,.int .u16 0,.int .u8 0,.int .u16 0,.int .u8 0,.bool false,.int .u16 0,.int .u16 0,.slice none 0 0],.int .i64 6])))→UpPost w ([h0,h1,h2,h3,h4,h5,h6,h7,h8,h9,h10,h11] ++ r) e w':=by
  rintro m sp dp d rfl rfl rfl rfl e w' ⟨hb,h⟩
  refine ⟨hb,?_⟩
  rcases h with ⟨hw,v,he,ho⟩ | ⟨hw,he⟩
  ·exact .inl ⟨by rw [hU,if_neg (by rw [hw];decide)],v,he,ho⟩
  ·have hc:upC ([h0,h1,h2,h3,h4,h5,h6,h7,h8,h9,h10,h11] ++ r)=6:=by rw [hU,if_pos hw]
   exact .inr ⟨by rw [hc];decide,by rw [hc];exact he⟩
 clear hU
 by_cases h80:h8=0
 ·subst h80
  obtain ⟨p0,p1,p2,p3,d,rfl⟩:=split4 r (by omega)
  have bp0:=hr p0 (by simp)
  have bp1:=hr p1 (by simp)
  have bp2:=hr p2 (by simp)
  have bp3:=hr p3 (by simp)
  simp only [List.length_append,List.length_cons,List.length_nil] at hl h9r'
  by_cases hde:d=[]
  ·subst hde
   obtain rfl:n=16:=by simpa using hl.symm
   have h94:h9=4:=by simpa using h9r'.symm
   by_cases hce:cap=16
   ·subst hce
    rcases hmk' with rfl | rfl
    ·exact (unpack_16p_e0 b o h1 h2 h3 h4 h5 h6 h7 h9 h10 h11 p0 p1 p2 p3 w hd b1 b2 b3 b4 b5 b6 b7 b9 b10 b11 bp0 bp1 bp2 bp3 h94 hsum').mono (fin false _ _ [] rfl rfl rfl rfl)
    ·exact (unpack_17p_e0 b o h1 h2 h3 h4 h5 h6 h7 h9 h10 h11 p0 p1 p2 p3 w hd b1 b2 b3 b4 b5 b6 b7 b9 b10 b11 bp0 bp1 bp2 bp3 h94 hsum').mono (fin true _ _ [] rfl rfl rfl rfl)
   ·rcases hmk' with rfl | rfl
    ·exact (unpack_16p_e1 b o cap h1 h2 h3 h4 h5 h6 h7 h9 h10 h11 p0 p1 p2 p3 w (by omega) hm hd b1 b2 b3 b4 b5 b6 b7 b9 b10 b11 bp0 bp1 bp2 bp3 h94 hsum').mono (fin false _ _ [] rfl rfl rfl rfl)
    ·exact (unpack_17p_e1 b o cap h1 h2 h3 h4 h5 h6 h7 h9 h10 h11 p0 p1 p2 p3 w (by omega) hm hd b1 b2 b3 b4 b5 b6 b7 b9 b10 b11 bp0 bp1 bp2 bp3 h94 hsum').mono (fin true _ _ [] rfl rfl rfl rfl)
  ·have hd0:0 < d.length:=by cases d with | nil=>exact absurd rfl hde | cons _ _=>simp
   rcases hmk' with rfl | rfl
   ·exact (unpack_16p_ne b o n cap h1 h2 h3 h4 h5 h6 h7 h9 h10 h11 p0 p1 p2 p3 d w (by omega) hd0 hcap hm hd b1 b2 b3 b4 b5 b6 b7 b9 b10 b11 bp0 bp1 bp2 bp3 (by omega) hsum').mono (fin false _ _ d rfl rfl rfl rfl)
   ·exact (unpack_17p_ne b o n cap h1 h2 h3 h4 h5 h6 h7 h9 h10 h11 p0 p1 p2 p3 d w (by omega) hd0 hcap hm hd b1 b2 b3 b4 b5 b6 b7 b9 b10 b11 bp0 bp1 bp2 bp3 (by omega) hsum').mono (fin true _ _ d rfl rfl rfl rfl)
 ·have h80':(h8 == 0)=false:=by simpa using h80
  have esp:spOf h8 r=0:=by unfold spOf;split;exact if_neg h80;rfl
  have edp:dpOf h8 r=0:=by unfold dpOf;split;exact if_neg h80;rfl
  have edt:dtOf h8 r=r:=if_neg h80
  by_cases hde:r=[]
  ·subst hde
   obtain rfl:n=12:=by simpa using hl.symm
   have h94:h9=0:=by simpa using h9r'.symm
   by_cases hce:cap=12
   ·subst hce
    rcases hmk' with rfl | rfl
    ·exact (unpack_16q_e0 b o h1 h2 h3 h4 h5 h6 h7 h8 h9 h10 h11 w hd b1 b2 b3 b4 b5 b6 b7 b8 b9 b10 b11 h80' h94 hsum').mono (fin false _ _ [] rfl esp edp edt)
    ·exact (unpack_17q_e0 b o h1 h2 h3 h4 h5 h6 h7 h8 h9 h10 h11 w hd b1 b2 b3 b4 b5 b6 b7 b8 b9 b10 b11 h80' h94 hsum').mono (fin true _ _ [] rfl esp edp edt)
   ·rcases hmk' with rfl | rfl
    ·exact (unpack_16q_e1 b o cap h1 h2 h3 h4 h5 h6 h7 h8 h9 h10 h11 w (by omega) hm hd b1 b2 b3 b4 b5 b6 b7 b8 b9 b10 b11 h80' h94 hsum').mono (fin false _ _ [] rfl esp edp edt)
    ·exact (unpack_17q_e1 b o cap h1 h2 h3 h4 h5 h6 h7 h8 h9 h10 h11 w (by omega) hm hd b1 b2 b3 b4 b5 b6 b7 b8 b9 b10 b11 h80' h94 hsum').mono (fin true _ _ [] rfl esp edp edt)
  ·have hd0:0 < r.length:=by cases r with | nil=>exact absurd rfl hde | cons _ _=>simp
   rcases hmk' with rfl | rfl
   ·exact (unpack_16q_ne b o n cap h1 h2 h3 h4 h5 h6 h7 h8 h9 h10 h11 r w (by omega) hd0 hcap hm hd b1 b2 b3 b4 b5 b6 b7 b8 b9 b10 b11 h80' (by omega) hsum').mono (fin false _ _ r rfl esp edp edt)
   ·exact (unpack_17q_ne b o n cap h1 h2 h3 h4 h5 h6 h7 h8 h9 h10 h11 r w (by omega) hd0 hcap hm hd b1 b2 b3 b4 b5 b6 b7 b8 b9 b10 b11 h80' (by omega) hsum').mono (fin true _ _ r rfl esp edp edt)
theorem fpack_no (src dst proto id off:Int) (more:Bool) (sport dport:Int) (ao:Option Addr) (n cap:Nat) (w:World) (hoff0:0≤off) (hn:n≤maxLen) (hwf:wfB off more sport dport n=false) :
  Calls Tryz.prog 27 #[.agg #[.int .u16 src,.int .u16 dst,.int .u8 proto,.int .u16 id,.int .u8 off,.bool more,.int .u16 sport,.int .u16 dport,.slice ao n cap]] w fun e w'=>e=.returned (.tuple #[.slice none 0 0,.int .i64 6])∧Below w.heap.size w w':=by
 have H:=hide (fun w=>pack_no src dst proto id off more sport dport ao n cap w hoff0 hn hwf)
 clear hwf
 go_enter Tryz.func27,Tryz.ntmps27
 go_wp2_with fail
 refine (unhide H _).mono ?_
 rintro e w1 ⟨rfl,hb⟩
 go_wp2
 go_ret2
 exact ⟨rfl,((Below.refl _ _).alloc (Nat.le_refl _) _).trans (hb.mono (by simp))⟩
theorem fpack_yes (src dst proto id off:Int) (more:Bool) (sport dport:Int) (ao:Option Addr) (n cap:Nat) (zs:List Int) (w:World) (hsrc0:0≤src) (hsrc:src≤65535) (hdst0:0≤dst) (hdst:dst≤65535) (hproto0:0≤proto) (hproto:proto≤255) (hid0:0≤id) (hid:id≤65535) (hoff0:0≤off) (hoff:off≤255) (hsport0:0≤sport) (hsport:sport≤65535) (hdport0:0≤dport) (hdport:dport≤65535) (hzs:zs.length=n) (hnil:ao=none→cap=0) (hd:Has w ao zs) (hwf:wfB off more sport dport n=true) :
  Calls Tryz.prog 27 #[.agg #[.int .u16 src,.int .u16 dst,.int .u8 proto,.int .u16 id,.int .u8 off,.bool more,.int .u16 sport,.int .u16 dport,.slice ao n cap]] w fun e w'=>∃ v,e=.returned (.tuple #[v,.int .i64 0])∧w'.ownsRow w.heap.size 5 1 v (pkL src dst proto id off more sport dport zs).length ((pkL src dst proto id off more sport dport zs).map (Value.int .u8))∧v ≠ .slice none 0 0∧Below w.heap.size w w':=by
 have H:=hide (fun w hd=>pack_yes src dst proto id off more sport dport ao n cap zs w hsrc0 hsrc hdst0 hdst hproto0 hproto hid0 hid hoff0 hoff hsport0 hsport hdport0 hdport hzs hnil hd hwf)
 have HD:=hide hd
 clear hwf hzs hnil hd
 go_enter Tryz.func27,Tryz.ntmps27
 go_wp2_with fail
 refine (unhide H _ (HD.out.below ((Below.refl _ _).alloc (Nat.le_refl _) _))).mono ?_
 rintro e w1 ⟨v,rfl,ho,hnn,hb⟩
 have HO:=hide ho
 have HN:=hide hnn
 clear ho hnn H
 go_wp2
 go_ret2
 exact ⟨_,rfl,ownsRow_base HO.out (by simp),HN.out,((Below.refl _ _).alloc (Nat.le_refl _) _).trans (hb.mono (by simp))⟩
theorem funpack_any (ao:Option Addr) (n cap:Nat) (zs:List Int) (w:World) (hl:zs.length=n) (hcap:n≤cap) (hm:cap≤maxLen) (hd:Has w ao zs) (hz:∀ z ∈ zs,0≤z∧z≤255) :
  Calls Tryz.prog 31 #[.slice ao n cap] w (UpPost w zs):=by
 have H:=hide (fun w hd=>unpack_any ao n cap zs w hl hcap hm hd hz)
 have HD:=hide hd
 clear hl hcap hm hd hz
 go_enter Tryz.func31,Tryz.ntmps31
 go_wp2_with fail
 refine (unhide H _ (HD.out.below ((Below.refl _ _).alloc (Nat.le_refl _) _))).mono ?_
 rintro e w1 ⟨hb,h⟩
 have HW:Hid (Below w.heap.size w w1):=((Below.refl _ _).alloc (Nat.le_refl _) _).trans (hb.mono (by simp))
 have cr:∀ j,w1.cell? ⟨w.heap.size,j,none⟩=#[.int .u16 0,.int .u16 0,.int .u8 0,.int .u16 0,.int .u8 0,.bool false,.int .u16 0,.int .u16 0,.slice none 0 0][j]?:=fun j=>(hb.cell (p:=⟨w.heap.size,j,none⟩) (by simp)).trans (by simp)
 have fr:∀ j,w1.frozen? ⟨w.heap.size,j,none⟩=false:=fun j=>(hb.frozen (p:=⟨w.heap.size,j,none⟩) (by simp)).trans (by simp)
 clear hb H HD
 rcases h with ⟨hc,v,rfl,ho⟩ | ⟨hc,rfl⟩
 ·have HC:=hide hc
  rw [World.size_alloc] at ho
  have HO:=hide ho
  clear hc
  rcases ho.2 with ⟨rfl,_⟩ | ⟨g,cv,cur,rfl,_,_⟩
  ·clear ho
   go_wp2
   refine bodyPost_ret (v:=.tuple #[.agg #[.int .u16 (upP zs).src,.int .u16 (upP zs).dst,.int .u8 (upP zs).proto,.int .u16 (upP zs).id,.int .u8 (upP zs).off,.bool (upP zs).more,.int .u16 (upP zs).sport,.int .u16 (upP zs).dport,.slice none 0 0],.int .i64 0]) ?_ rfl ⟨?_,.inl ⟨HC.out,_,rfl,?_⟩⟩
   all_goals go_light
   ·simp [results,Tryz.results31,go_sem,cr]
   ·repeat' first | with_reducible exact HW.out | with_reducible refine Below.setCell ?_ ?_ _
    all_goals simp
   ·refine ownsRow_base (base:=w.heap.size + 1) ?_ (by omega)
    repeat' first | with_reducible exact HO.out | with_reducible refine ownsRow_setCell_below ?_ ?_ _
    all_goals simp
  ·clear ho
   go_wp2
   refine bodyPost_ret (v:=.tuple #[.agg #[.int .u16 (upP zs).src,.int .u16 (upP zs).dst,.int .u8 (upP zs).proto,.int .u16 (upP zs).id,.int .u8 (upP zs).off,.bool (upP zs).more,.int .u16 (upP zs).sport,.int .u16 (upP zs).dport,.slice (some ⟨g,0,none⟩) (upP zs).data.length cv],.int .i64 0]) ?_ rfl ⟨?_,.inl ⟨HC.out,_,rfl,?_⟩⟩
   all_goals go_light
   ·simp [results,Tryz.results31,go_sem,cr]
   ·repeat' first | with_reducible exact HW.out | with_reducible refine Below.setCell ?_ ?_ _
    all_goals simp
   ·refine ownsRow_base (base:=w.heap.size + 1) ?_ (by omega)
    repeat' first | with_reducible exact HO.out | with_reducible refine ownsRow_setCell_below ?_ ?_ _
    all_goals simp
 ·have HC:=hide hc
  clear hc
  ·go_wp2
   refine bodyPost_ret (v:=.tuple #[.agg #[.int .u16 0,.int .u16 0,.int .u8 0,.int .u16 0,.int .u8 0,.bool false,.int .u16 0,.int .u16 0,.slice none 0 0],.int .i64 (upC zs)]) ?_ rfl ⟨?_,.inr ⟨HC.out,rfl⟩⟩
   all_goals go_light
   ·simp [results,Tryz.results31,go_sem,cr]
   ·repeat' first | with_reducible exact HW.out | with_reducible refine Below.setCell ?_ ?_ _
    all_goals simp
theorem conv_has {w:World} {ao:Option Addr} {zs:List Int} (h:Has w ao zs) (cap:Nat):(convert 38 9 (.slice ao zs.length cap)).run Tryz.prog w=.ok (.string (strOfNums zs)) w:=by
 cases ao with
 | none =>
  obtain rfl:=h.1 rfl
  exact run_convert_bytes_nil (P:=Tryz.prog) w 38 5 Tryz.underlying38 Tryz.underlying5 _ _ 9 Tryz.underlying9
 | some a =>
  by_cases hz:zs=[]
  ·subst hz
   rw [run_convert_bytes_string w 38 9 5 _ _ _ Tryz.underlying38 Tryz.underlying5 Tryz.underlying9]
   exact run_bytesToString w a 0 cap [] (by simpa using run_loadCells_list (P:=Tryz.prog) w a [] (by simp))
  ·obtain ⟨b,o,he,_,hc⟩:=h.2 hz
   obtain rfl:a=⟨b,o,none⟩:=by simpa using he
   exact run_convert_bytes_arg (P:=Tryz.prog) w 38 5 Tryz.underlying38 Tryz.underlying5 b o _ cap zs rfl hc 9 Tryz.underlying9
theorem owns_has {w:World} {base g n cv:Nat} {zs:List Int} (h:w.ownsRow base 5 1 (.slice (some ⟨g,0,none⟩) n cv) n (zs.map (Value.int .u8))):Has w (some ⟨g,0,none⟩) zs∧zs.length=n∧n≤cv∧cv≤maxLen:=by
 obtain ⟨hl,h2⟩:=h
 have hl':zs.length=n:=by simpa using hl
 rcases h2 with ⟨h,_⟩ | ⟨g',cap',cur,he,hb,hh,h3,h4,h5,h6⟩
 ·simp at h
 ·simp only [Value.slice.injEq,Option.some.injEq,Addr.mk.injEq] at he
  obtain ⟨⟨rfl,_,_⟩,_,rfl⟩:=he
  refine ⟨⟨by simp,fun _=>⟨g,0,rfl,lt_of_block hh,fun j hj=>?_⟩⟩,hl',h3,h4⟩
  rw [arr_cell hh,Nat.zero_add]
  have h7:(zs.map (Value.int .u8))[j]?=cur[j]?:=by
   rw [← h6]
   rw [List.getElem?_take_of_lt (by omega),Array.getElem?_toList]
  rw [← h7,List.getElem?_map,List.getElem?_eq_getElem hj,List.getD_eq_getElem?_getD,List.getElem?_eq_getElem hj]
  rfl
theorem owns_nil_has {w:World} {base n:Nat} {zs:List Int} (h:w.ownsRow base 5 1 (.slice none 0 0) n (zs.map (Value.int .u8))):zs=[]∧n=0:=by
 obtain ⟨hl,h2⟩:=h
 rcases h2 with ⟨_,h⟩ | ⟨g',cap',cur,he,_⟩
 ·subst h;simpa using hl
 ·simp at he
theorem owns_any {w:World} {base n:Nat} {v:Value} {zs:List Int} (h:w.ownsRow base 5 1 v n (zs.map (Value.int .u8))):∃ ao cv,v=.slice ao n cv∧Has w ao zs∧zs.length=n∧n≤cv∧cv≤maxLen∧(ao=none→cv=0):=by
 rcases own_shape h with rfl | ⟨g,cv,rfl⟩
 ·obtain ⟨rfl,rfl⟩:=owns_nil_has h
  exact ⟨none,0,rfl,⟨fun _=>rfl,fun h=>absurd rfl h⟩,rfl,Nat.le_refl _,by decide,fun _=>rfl⟩
 ·obtain ⟨h1,h2,h3,h4⟩:=owns_has h
  exact ⟨_,cv,rfl,h1,h2,h3,h4,by simp⟩
theorem own_build (w:World) (e:TypeId) (xs:List Value) (hm:xs.length≤maxLen):(w.alloc (.cells xs.toArray e)).ownsRow w.heap.size e 1 (.slice (some ⟨w.heap.size,0,none⟩) xs.length xs.length) xs.length xs:=by
 refine ⟨by simp,.inr ⟨w.heap.size,xs.length,xs.toArray,rfl,Nat.le_refl _,heap_alloc_new _ _,Nat.le_refl _,hm,by simp,by simp⟩⟩
def sgn (k:Int) (i:Nat):Int:=if i % 2=0 then k % 256 else k / 256 % 256
def sg (k:Int):Nat→List Int
 | 0=>[]
 | m + 1=>sg k m ++ [sgn k m]
theorem sg_length (k:Int) (m:Nat):(sg k m).length=m:=by
 induction m with
 | zero=>rfl
 | succ m ih=>simp [sg,ih]
theorem sg_get (k:Int) (m j:Nat) (h:j < m):(sg k m)[j]?=some (sgn k j):=by
 induction m with
 | zero=>omega
 | succ m ih =>
  rw [sg]
  by_cases hj:j < m
  ·rw [List.getElem?_append_left (by rw [sg_length];exact hj)];exact ih hj
  ·obtain rfl:j=m:=by omega
   rw [List.getElem?_append_right (by rw [sg_length];omega),sg_length];simp
theorem sign_any (k:Int) (i:Nat) (w:World) (hk0:0≤k) (hk:k≤9223372036854775807) (hi:i≤9223372036854775807) :
  Calls Tryz.prog 23 #[.int .i64 k,.int .i64 i] w fun e w'=>e=.returned (.int .u8 (sgn k i))∧w'=w:=by
 by_cases h:i % 2=0
 ·have h1:((i:Int) % 2 == 0)=true:=by simp;omega
  go_enter Tryz.func23,Tryz.ntmps23
  go_wp2
  go_ret
  exact ⟨ret_int (by simp [sgn,h]),rfl⟩
 ·have h1:((i:Int) % 2 == 0)=false:=by simp;omega
  go_enter Tryz.func23,Tryz.ntmps23
  go_wp2
  go_ret
  exact ⟨ret_int (by simp [sgn,h]),rfl⟩
end Go.Proofs.YtajphdppmdoalaaGreat
