import Derived.Test.YtajphdppmdoalaaGreatZABtoE
import Derived.Deep.RegionHeld3
set_option maxRecDepth 100000
set_option maxHeartbeats 6400000
set_option linter.unusedVariables false
namespace Go.Proofs.YtajphdppmdoalaaGreat
open Go.RowKit
theorem unpack_16q_e0 (b o:Nat) (h1 h2 h3 h4 h5 h6 h7 h8 h9 h10 h11:Int) (w:World)  (hd:Has w (some ⟨b,o,none⟩) ([16,h1,h2,h3,h4,h5,h6,h7,h8,h9,h10,h11] ++ ([])))
  (b1:0≤h1∧h1≤255) (b2:0≤h2∧h2≤255) (b3:0≤h3∧h3≤255) (b4:0≤h4∧h4≤255) (b5:0≤h5∧h5≤255) (b6:0≤h6∧h6≤255) (b7:0≤h7∧h7≤255) (b8:0≤h8∧h8≤255) (b9:0≤h9∧h9≤255) (b10:0≤h10∧h10≤255) (b11:0≤h11∧h11≤255) (q8:(h8 == 0)=false) 
  (q9:h9=0) (qs:h10 * 256 + h11=csum 16 h1 h2 h3 h4 h5 h6 h7 h8 h9) :
  Calls Tryz.prog 64 #[.slice (some ⟨b,o,none⟩) 12 12] w fun e w'=>Below w.heap.size w w' ∧
   ((wfB h8 false 0 0 0=true∧∃ v,e=.returned (.tuple #[.agg #[.int .u16 (h2 * 256 + h3),.int .u16 (h4 * 256 + h5),.int .u8 h1,.int .u16 (h6 * 256 + h7),.int .u8 h8,.bool false,.int .u16 0,.int .u16 0,v],.int .i64 0])∧w'.ownsRow w.heap.size 5 1 v 0 ([]))
   ∨ (wfB h8 false 0 0 0=false∧e=.returned (.tuple #[.agg #[.int .u16 0,.int .u16 0,.int .u8 0,.int .u16 0,.int .u8 0,.bool false,.int .u16 0,.int .u16 0,.slice none 0 0],.int .i64 6]))):=by
 subst q9
 have hcp:=copy_head b o 12 12 16 h1 h2 h3 h4 h5 h6 h7 h8 0 h10 h11 ([]) w (by simp) hd
 have HD:=hide hd
 have HS:=hide qs
 clear hd qs
 obtain ⟨i5,hi,hz5,hz6,hz7⟩:=info_parts Tryz.info5
 go_enter Tryz.func64,Tryz.ntmps64
 go_wp2_with fail
 refine (checksum_any 16 h1 h2 h3 h4 h5 h6 h7 h8 0 h10 h11 _ (by omega) (by omega) (by omega) (by omega) (by omega) (by omega) (by omega) (by omega) (by omega) (by omega)).mono ?_
 rintro e w1 ⟨rfl,m,rfl⟩
 rw [← HS.out]
 have q7:((h10 * 256 + h11) != (h10 * 256 + h11))=false:=by simp
 go_wp2_with (go_at_call 89;refine (word_any _ _ _ (by omega) (by omega) (by omega) (by omega)).mono ?_;rintro e w' ⟨rfl,rfl⟩)
 refine (ofHead_any 16 h1 h2 h3 h4 h5 h6 h7 h8 0 h10 h11 _ (by omega) (by omega) (by omega) (by omega) (by omega) (by omega)).mono ?_
 rintro e w4 ⟨rfl,hb⟩
 have HB:Hid (Below (w.heap.size + 2) ((w.alloc (.cells #[.int .u16 0,.int .u16 0,.int .u8 0,.int .u16 0,.int .u8 0,.bool false,.int .u16 0,.int .u16 0,.slice none 0 0] 40)).alloc (.cells #[.int .u8 16,.int .u8 h1,.int .u8 h2,.int .u8 h3,.int .u8 h4,.int .u8 h5,.int .u8 h6,.int .u8 h7,.int .u8 h8,.int .u8 0,.int .u8 h10,.int .u8 h11] 131)) w4):=by
  refine Below.trans ?_ (hb.mono (by simp))
  exact below_drewN ((Below.refl _ _).alloc (by simp) _) _
 clear hb hcp
 have hz1:w.heap.size + 1 < w4.heap.size:=by have:=HB.out.size;simp at this;omega
 have HZ0:Hid (w.heap.size < w4.heap.size):=by have:=HB.out.size;simp at this;show w.heap.size < w4.heap.size;omega
 have c8:w4.cell? ⟨w.heap.size + 1,8,none⟩=some (.int .u8 h8):=by rw [HB.out.cell (p:=⟨w.heap.size + 1,8,none⟩) (by simp)];simp
 have CR:Hid (∀ j,w4.cell? ⟨w.heap.size,j,none⟩=#[.int .u16 0,.int .u16 0,.int .u8 0,.int .u16 0,.int .u8 0,.bool false,.int .u16 0,.int .u16 0,.slice none 0 0][j]?):=by intro j;rw [HB.out.cell (p:=⟨w.heap.size,j,none⟩) (by simp)];simp
 have FR:Hid (∀ j,w4.frozen? ⟨w.heap.size,j,none⟩=false):=by intro j;rw [HB.out.frozen (p:=⟨w.heap.size,j,none⟩) (by simp)];simp
 have HB4:Hid (Below w.heap.size w w4):=((Below.refl _ _).alloc (Nat.le_refl _) _).trans ((((Below.refl _ _).alloc (by simp) _).trans (HB.out.mono (by simp))))
 have HD4:=HD.out.below HB4.out
 obtain ⟨b',o',he,hlt,hc⟩:=HD4.2 (by simp)
 simp only [Option.some.injEq,Addr.mk.injEq] at he
 obtain ⟨rfl,rfl,_⟩:=he
 have HLT:=hide hlt
 have HC:=hide hc
 clear HB HD HD4 hc hlt b1 b2 b3 b4 b5 b6 b7 b10 b11
 go_wp2_with (at_builtin;refine wpList_append_own _ rfl (.tmp 77) (.tmp 78) 38 rfl (w4.heap.size + 1) 5 i5 (.int .u8 0) 1 1 Tryz.underlying38 hi hz5 hz6 hz7 rfl (by decide) _ _ _ rfl (World.ownsRow_nil _ _ _ _) ⟨b,o,none⟩ 0 0 [] rfl rfl (by simp) (by simp) (by decide) (by decide) (by simp) ?_)
 intro v5 w5 hown hgrow hiff
 obtain rfl:v5=.slice none 0 0:=by first | exact hiff | exact hiff.2 ⟨rfl,rfl⟩
 have HO:=hide hown
 clear hown hiff
 have HB5:Hid (Below (w4.heap.size + 1) (w4.alloc (.cells #[.int .u16 (h2 * 256 + h3),.int .u16 (h4 * 256 + h5),.int .u8 h1,.int .u16 (h6 * 256 + h7),.int .u8 h8,.bool false,.int .u16 0,.int .u16 0,.slice none 0 0] 40)) w5):=(Below.refl _ _).grown hgrow (by simp) (by simp [Value.ownBlock])
 have hz5a:w4.heap.size < w5.heap.size:=by have:=HB5.out.size;simp at this;omega
 have hz5b:w.heap.size < w5.heap.size:=by have:=HZ0.out;omega
 have hz0:w.heap.size < w4.heap.size:=HZ0.out
 have cp:∀ j,w5.cell? ⟨w4.heap.size,j,none⟩=#[.int .u16 (h2 * 256 + h3),.int .u16 (h4 * 256 + h5),.int .u8 h1,.int .u16 (h6 * 256 + h7),.int .u8 h8,.bool false,.int .u16 0,.int .u16 0,.slice none 0 0][j]?:=fun j=>(HB5.out.cell (p:=⟨w4.heap.size,j,none⟩) (by simp)).trans (by simp)
 have fp:∀ j,w5.frozen? ⟨w4.heap.size,j,none⟩=false:=fun j=>(HB5.out.frozen (p:=⟨w4.heap.size,j,none⟩) (by simp)).trans (by simp)
 have cr:∀ j,w5.cell? ⟨w.heap.size,j,none⟩=#[.int .u16 0,.int .u16 0,.int .u8 0,.int .u16 0,.int .u8 0,.bool false,.int .u16 0,.int .u16 0,.slice none 0 0][j]?:=fun j=>(HB5.out.cell (p:=⟨w.heap.size,j,none⟩) (by show w.heap.size < _;omega)).trans ((World.cell?_alloc_past _ _ _ hz0).trans (CR.out j))
 have fr:∀ j,w5.frozen? ⟨w.heap.size,j,none⟩=false:=fun j=>(HB5.out.frozen (p:=⟨w.heap.size,j,none⟩) (by show w.heap.size < _;omega)).trans ((World.frozen?_alloc_past _ _ _ hz0).trans (FR.out j))
 have HW5:Hid (Below w.heap.size w w5):=((HB4.out.alloc (by omega) _)).trans (HB5.out.mono (by omega))
 have hne0:¬ w4.heap.size=w.heap.size:=by omega
 have hne1:¬ w.heap.size=w4.heap.size:=by omega
 clear hgrow CR FR HZ0 HLT HC c8 hz1 q7
 go_wp2_with fail
 refine (wf_any (h2 * 256 + h3) (h4 * 256 + h5) h1 (h6 * 256 + h7) h8 false 0 0 none 0 0 _ (by omega) (by decide)).mono ?_
 rintro e w6 ⟨rfl,o6,rfl⟩
 cases hw:wfB h8 false 0 0 0
 ·have HW:=hide hw
  clear hw
  go_wp2
  refine bodyPost_ret (v:=.tuple #[.agg #[.int .u16 0,.int .u16 0,.int .u8 0,.int .u16 0,.int .u8 0,.bool false,.int .u16 0,.int .u16 0,.slice none 0 0],.int .i64 6]) ?_ rfl ⟨?_,.inr ⟨HW.out,rfl⟩⟩
  all_goals go_light
  ·simp [results,Tryz.results64,go_sem,cr,hz5b]
  ·refine ?_
   repeat' first | with_reducible exact HW5.out | with_reducible refine Below.setCell ?_ ?_ _ | with_reducible refine Below.alloc ?_ ?_ _
   all_goals (simp;try omega)
 ·have HW:=hide hw
  clear hw
  go_wp2
  refine bodyPost_ret (v:=.tuple #[.agg #[.int .u16 (h2 * 256 + h3),.int .u16 (h4 * 256 + h5),.int .u8 h1,.int .u16 (h6 * 256 + h7),.int .u8 h8,.bool false,.int .u16 0,.int .u16 0,.slice none 0 0],.int .i64 0]) ?_ rfl ⟨?_,.inl ⟨HW.out,_,rfl,?_⟩⟩
  all_goals go_light
  ·simp [results,Tryz.results64,go_sem,cr,hz5b]
  ·refine ?_
   repeat' first | with_reducible exact HW5.out | with_reducible refine Below.setCell ?_ ?_ _ | with_reducible refine Below.alloc ?_ ?_ _
   all_goals (simp;try omega)
  ·refine ownsRow_base (base:=w4.heap.size + 1) ?_ (by omega)
   repeat' first | with_reducible exact HO.out | with_reducible refine ownsRow_setCell_below ?_ ?_ _ | with_reducible refine World.ownsRow.alloc ?_ _
   all_goals (simp;try omega)
theorem unpack_16q_e1 (b o cap:Nat) (h1 h2 h3 h4 h5 h6 h7 h8 h9 h10 h11:Int) (w:World) (hcap:12 < cap) (hm:cap≤maxLen) (hd:Has w (some ⟨b,o,none⟩) ([16,h1,h2,h3,h4,h5,h6,h7,h8,h9,h10,h11] ++ ([])))
  (b1:0≤h1∧h1≤255) (b2:0≤h2∧h2≤255) (b3:0≤h3∧h3≤255) (b4:0≤h4∧h4≤255) (b5:0≤h5∧h5≤255) (b6:0≤h6∧h6≤255) (b7:0≤h7∧h7≤255) (b8:0≤h8∧h8≤255) (b9:0≤h9∧h9≤255) (b10:0≤h10∧h10≤255) (b11:0≤h11∧h11≤255) (q8:(h8 == 0)=false) 
  (q9:h9=0) (qs:h10 * 256 + h11=csum 16 h1 h2 h3 h4 h5 h6 h7 h8 h9) :
  Calls Tryz.prog 64 #[.slice (some ⟨b,o,none⟩) 12 cap] w fun e w'=>Below w.heap.size w w' ∧
   ((wfB h8 false 0 0 0=true∧∃ v,e=.returned (.tuple #[.agg #[.int .u16 (h2 * 256 + h3),.int .u16 (h4 * 256 + h5),.int .u8 h1,.int .u16 (h6 * 256 + h7),.int .u8 h8,.bool false,.int .u16 0,.int .u16 0,v],.int .i64 0])∧w'.ownsRow w.heap.size 5 1 v 0 ([]))
   ∨ (wfB h8 false 0 0 0=false∧e=.returned (.tuple #[.agg #[.int .u16 0,.int .u16 0,.int .u8 0,.int .u16 0,.int .u8 0,.bool false,.int .u16 0,.int .u16 0,.slice none 0 0],.int .i64 6]))):=by
 unfold maxLen at hm
 subst q9
 have hcp:=copy_head b o 12 cap 16 h1 h2 h3 h4 h5 h6 h7 h8 0 h10 h11 ([]) w (by simp) hd
 have HD:=hide hd
 have HS:=hide qs
 clear hd qs
 obtain ⟨i5,hi,hz5,hz6,hz7⟩:=info_parts Tryz.info5
 go_enter Tryz.func64,Tryz.ntmps64
 go_wp2_with fail
 refine (checksum_any 16 h1 h2 h3 h4 h5 h6 h7 h8 0 h10 h11 _ (by omega) (by omega) (by omega) (by omega) (by omega) (by omega) (by omega) (by omega) (by omega) (by omega)).mono ?_
 rintro e w1 ⟨rfl,m,rfl⟩
 rw [← HS.out]
 have q7:((h10 * 256 + h11) != (h10 * 256 + h11))=false:=by simp
 go_wp2_with (go_at_call 89;refine (word_any _ _ _ (by omega) (by omega) (by omega) (by omega)).mono ?_;rintro e w' ⟨rfl,rfl⟩)
 refine (ofHead_any 16 h1 h2 h3 h4 h5 h6 h7 h8 0 h10 h11 _ (by omega) (by omega) (by omega) (by omega) (by omega) (by omega)).mono ?_
 rintro e w4 ⟨rfl,hb⟩
 have HB:Hid (Below (w.heap.size + 2) ((w.alloc (.cells #[.int .u16 0,.int .u16 0,.int .u8 0,.int .u16 0,.int .u8 0,.bool false,.int .u16 0,.int .u16 0,.slice none 0 0] 40)).alloc (.cells #[.int .u8 16,.int .u8 h1,.int .u8 h2,.int .u8 h3,.int .u8 h4,.int .u8 h5,.int .u8 h6,.int .u8 h7,.int .u8 h8,.int .u8 0,.int .u8 h10,.int .u8 h11] 131)) w4):=by
  refine Below.trans ?_ (hb.mono (by simp))
  exact below_drewN ((Below.refl _ _).alloc (by simp) _) _
 clear hb hcp
 have hz1:w.heap.size + 1 < w4.heap.size:=by have:=HB.out.size;simp at this;omega
 have HZ0:Hid (w.heap.size < w4.heap.size):=by have:=HB.out.size;simp at this;show w.heap.size < w4.heap.size;omega
 have c8:w4.cell? ⟨w.heap.size + 1,8,none⟩=some (.int .u8 h8):=by rw [HB.out.cell (p:=⟨w.heap.size + 1,8,none⟩) (by simp)];simp
 have CR:Hid (∀ j,w4.cell? ⟨w.heap.size,j,none⟩=#[.int .u16 0,.int .u16 0,.int .u8 0,.int .u16 0,.int .u8 0,.bool false,.int .u16 0,.int .u16 0,.slice none 0 0][j]?):=by intro j;rw [HB.out.cell (p:=⟨w.heap.size,j,none⟩) (by simp)];simp
 have FR:Hid (∀ j,w4.frozen? ⟨w.heap.size,j,none⟩=false):=by intro j;rw [HB.out.frozen (p:=⟨w.heap.size,j,none⟩) (by simp)];simp
 have HB4:Hid (Below w.heap.size w w4):=((Below.refl _ _).alloc (Nat.le_refl _) _).trans ((((Below.refl _ _).alloc (by simp) _).trans (HB.out.mono (by simp))))
 have HD4:=HD.out.below HB4.out
 obtain ⟨b',o',he,hlt,hc⟩:=HD4.2 (by simp)
 simp only [Option.some.injEq,Addr.mk.injEq] at he
 obtain ⟨rfl,rfl,_⟩:=he
 have HLT:=hide hlt
 have HC:=hide hc
 clear HB HD HD4 hc hlt b1 b2 b3 b4 b5 b6 b7 b10 b11
 go_wp2_with (at_builtin;refine wpList_append_own _ rfl (.tmp 77) (.tmp 78) 38 rfl (w4.heap.size + 1) 5 i5 (.int .u8 0) 1 1 Tryz.underlying38 hi hz5 hz6 hz7 rfl (by decide) _ _ _ rfl (World.ownsRow_nil _ _ _ _) ⟨b,o + 12,none⟩ 0 (cap - 12) [] rfl rfl (by simp) (by simp) (by decide) (by decide) (by simp) ?_)
 intro v5 w5 hown hgrow hiff
 obtain rfl:v5=.slice none 0 0:=by first | exact hiff | exact hiff.2 ⟨rfl,rfl⟩
 have HO:=hide hown
 clear hown hiff
 have HB5:Hid (Below (w4.heap.size + 1) (w4.alloc (.cells #[.int .u16 (h2 * 256 + h3),.int .u16 (h4 * 256 + h5),.int .u8 h1,.int .u16 (h6 * 256 + h7),.int .u8 h8,.bool false,.int .u16 0,.int .u16 0,.slice none 0 0] 40)) w5):=(Below.refl _ _).grown hgrow (by simp) (by simp [Value.ownBlock])
 have hz5a:w4.heap.size < w5.heap.size:=by have:=HB5.out.size;simp at this;omega
 have hz5b:w.heap.size < w5.heap.size:=by have:=HZ0.out;omega
 have hz0:w.heap.size < w4.heap.size:=HZ0.out
 have cp:∀ j,w5.cell? ⟨w4.heap.size,j,none⟩=#[.int .u16 (h2 * 256 + h3),.int .u16 (h4 * 256 + h5),.int .u8 h1,.int .u16 (h6 * 256 + h7),.int .u8 h8,.bool false,.int .u16 0,.int .u16 0,.slice none 0 0][j]?:=fun j=>(HB5.out.cell (p:=⟨w4.heap.size,j,none⟩) (by simp)).trans (by simp)
 have fp:∀ j,w5.frozen? ⟨w4.heap.size,j,none⟩=false:=fun j=>(HB5.out.frozen (p:=⟨w4.heap.size,j,none⟩) (by simp)).trans (by simp)
 have cr:∀ j,w5.cell? ⟨w.heap.size,j,none⟩=#[.int .u16 0,.int .u16 0,.int .u8 0,.int .u16 0,.int .u8 0,.bool false,.int .u16 0,.int .u16 0,.slice none 0 0][j]?:=fun j=>(HB5.out.cell (p:=⟨w.heap.size,j,none⟩) (by show w.heap.size < _;omega)).trans ((World.cell?_alloc_past _ _ _ hz0).trans (CR.out j))
 have fr:∀ j,w5.frozen? ⟨w.heap.size,j,none⟩=false:=fun j=>(HB5.out.frozen (p:=⟨w.heap.size,j,none⟩) (by show w.heap.size < _;omega)).trans ((World.frozen?_alloc_past _ _ _ hz0).trans (FR.out j))
 have HW5:Hid (Below w.heap.size w w5):=((HB4.out.alloc (by omega) _)).trans (HB5.out.mono (by omega))
 have hne0:¬ w4.heap.size=w.heap.size:=by omega
 have hne1:¬ w.heap.size=w4.heap.size:=by omega
 clear hgrow CR FR HZ0 HLT HC c8 hz1 q7
 go_wp2_with fail
 refine (wf_any (h2 * 256 + h3) (h4 * 256 + h5) h1 (h6 * 256 + h7) h8 false 0 0 none 0 0 _ (by omega) (by decide)).mono ?_
 rintro e w6 ⟨rfl,o6,rfl⟩
 cases hw:wfB h8 false 0 0 0
 ·have HW:=hide hw
  clear hw
  go_wp2
  refine bodyPost_ret (v:=.tuple #[.agg #[.int .u16 0,.int .u16 0,.int .u8 0,.int .u16 0,.int .u8 0,.bool false,.int .u16 0,.int .u16 0,.slice none 0 0],.int .i64 6]) ?_ rfl ⟨?_,.inr ⟨HW.out,rfl⟩⟩
  all_goals go_light
  ·simp [results,Tryz.results64,go_sem,cr,hz5b]
  ·refine ?_
   repeat' first | with_reducible exact HW5.out | with_reducible refine Below.setCell ?_ ?_ _ | with_reducible refine Below.alloc ?_ ?_ _
   all_goals (simp;try omega)
 ·have HW:=hide hw
  clear hw
  go_wp2
  refine bodyPost_ret (v:=.tuple #[.agg #[.int .u16 (h2 * 256 + h3),.int .u16 (h4 * 256 + h5),.int .u8 h1,.int .u16 (h6 * 256 + h7),.int .u8 h8,.bool false,.int .u16 0,.int .u16 0,.slice none 0 0],.int .i64 0]) ?_ rfl ⟨?_,.inl ⟨HW.out,_,rfl,?_⟩⟩
  all_goals go_light
  ·simp [results,Tryz.results64,go_sem,cr,hz5b]
  ·refine ?_
   repeat' first | with_reducible exact HW5.out | with_reducible refine Below.setCell ?_ ?_ _ | with_reducible refine Below.alloc ?_ ?_ _
   all_goals (simp;try omega)
  ·refine ownsRow_base (base:=w4.heap.size + 1) ?_ (by omega)
   repeat' first | with_reducible exact HO.out | with_reducible refine ownsRow_setCell_below ?_ ?_ _ | with_reducible refine World.ownsRow.alloc ?_ _
   all_goals (simp;try omega)
theorem unpack_16q_ne (b o n cap:Nat) (h1 h2 h3 h4 h5 h6 h7 h8 h9 h10 h11:Int) (d:List Int) (w:World) (hn:12 + d.length=n) (hd0:0 < d.length) (hnm:n≤cap) (hm:cap≤maxLen) (hd:Has w (some ⟨b,o,none⟩) ([16,h1,h2,h3,h4,h5,h6,h7,h8,h9,h10,h11] ++ (d)))
  (b1:0≤h1∧h1≤255) (b2:0≤h2∧h2≤255) (b3:0≤h3∧h3≤255) (b4:0≤h4∧h4≤255) (b5:0≤h5∧h5≤255) (b6:0≤h6∧h6≤255) (b7:0≤h7∧h7≤255) (b8:0≤h8∧h8≤255) (b9:0≤h9∧h9≤255) (b10:0≤h10∧h10≤255) (b11:0≤h11∧h11≤255) (q8:(h8 == 0)=false) 
  (q9:(d.length:Int) + 0=h9) (qs:h10 * 256 + h11=csum 16 h1 h2 h3 h4 h5 h6 h7 h8 h9) :
  Calls Tryz.prog 64 #[.slice (some ⟨b,o,none⟩) n cap] w fun e w'=>Below w.heap.size w w' ∧
   ((wfB h8 false 0 0 d.length=true∧∃ v,e=.returned (.tuple #[.agg #[.int .u16 (h2 * 256 + h3),.int .u16 (h4 * 256 + h5),.int .u8 h1,.int .u16 (h6 * 256 + h7),.int .u8 h8,.bool false,.int .u16 0,.int .u16 0,v],.int .i64 0])∧w'.ownsRow w.heap.size 5 1 v d.length (d.map (Value.int .u8)))
   ∨ (wfB h8 false 0 0 d.length=false∧e=.returned (.tuple #[.agg #[.int .u16 0,.int .u16 0,.int .u8 0,.int .u16 0,.int .u8 0,.bool false,.int .u16 0,.int .u16 0,.slice none 0 0],.int .i64 6]))):=by
 unfold maxLen at hm
 have hcp:=copy_head b o n cap 16 h1 h2 h3 h4 h5 h6 h7 h8 h9 h10 h11 (d) w hn hd
 have HD:=hide hd
 have HS:=hide qs
 have HB9:Hid (d.length≤255):=by show d.length≤255;omega
 have q4:((((n - 12:Nat):Int)) != h9)=false:=by simp;omega
 have q5:0 < n - 12:=by omega
 have q6:12 < cap:=by omega
 have HN:=hide hn
 have HD0:=hide hd0
 clear q9 hn hd0
 clear hd qs
 obtain ⟨i5,hi,hz5,hz6,hz7⟩:=info_parts Tryz.info5
 go_enter Tryz.func64,Tryz.ntmps64
 go_wp2_with fail
 refine (checksum_any 16 h1 h2 h3 h4 h5 h6 h7 h8 h9 h10 h11 _ (by omega) (by omega) (by omega) (by omega) (by omega) (by omega) (by omega) (by omega) (by omega) (by omega)).mono ?_
 rintro e w1 ⟨rfl,m,rfl⟩
 rw [← HS.out]
 have q7:((h10 * 256 + h11) != (h10 * 256 + h11))=false:=by simp
 go_wp2_with (go_at_call 89;refine (word_any _ _ _ (by omega) (by omega) (by omega) (by omega)).mono ?_;rintro e w' ⟨rfl,rfl⟩)
 refine (ofHead_any 16 h1 h2 h3 h4 h5 h6 h7 h8 h9 h10 h11 _ (by omega) (by omega) (by omega) (by omega) (by omega) (by omega)).mono ?_
 rintro e w4 ⟨rfl,hb⟩
 have HB:Hid (Below (w.heap.size + 2) ((w.alloc (.cells #[.int .u16 0,.int .u16 0,.int .u8 0,.int .u16 0,.int .u8 0,.bool false,.int .u16 0,.int .u16 0,.slice none 0 0] 40)).alloc (.cells #[.int .u8 16,.int .u8 h1,.int .u8 h2,.int .u8 h3,.int .u8 h4,.int .u8 h5,.int .u8 h6,.int .u8 h7,.int .u8 h8,.int .u8 h9,.int .u8 h10,.int .u8 h11] 131)) w4):=by
  refine Below.trans ?_ (hb.mono (by simp))
  exact below_drewN ((Below.refl _ _).alloc (by simp) _) _
 clear hb hcp
 have hz1:w.heap.size + 1 < w4.heap.size:=by have:=HB.out.size;simp at this;omega
 have HZ0:Hid (w.heap.size < w4.heap.size):=by have:=HB.out.size;simp at this;show w.heap.size < w4.heap.size;omega
 have c8:w4.cell? ⟨w.heap.size + 1,8,none⟩=some (.int .u8 h8):=by rw [HB.out.cell (p:=⟨w.heap.size + 1,8,none⟩) (by simp)];simp
 have CR:Hid (∀ j,w4.cell? ⟨w.heap.size,j,none⟩=#[.int .u16 0,.int .u16 0,.int .u8 0,.int .u16 0,.int .u8 0,.bool false,.int .u16 0,.int .u16 0,.slice none 0 0][j]?):=by intro j;rw [HB.out.cell (p:=⟨w.heap.size,j,none⟩) (by simp)];simp
 have FR:Hid (∀ j,w4.frozen? ⟨w.heap.size,j,none⟩=false):=by intro j;rw [HB.out.frozen (p:=⟨w.heap.size,j,none⟩) (by simp)];simp
 have HB4:Hid (Below w.heap.size w w4):=((Below.refl _ _).alloc (Nat.le_refl _) _).trans ((((Below.refl _ _).alloc (by simp) _).trans (HB.out.mono (by simp))))
 have HD4:=HD.out.below HB4.out
 obtain ⟨b',o',he,hlt,hc⟩:=HD4.2 (by simp)
 simp only [Option.some.injEq,Addr.mk.injEq] at he
 obtain ⟨rfl,rfl,_⟩:=he
 have HLT:=hide hlt
 have HC:=hide hc
 clear HB HD HD4 hc hlt b1 b2 b3 b4 b5 b6 b7 b9 b10 b11
 have EN:Hid (∀ j u,(d.map (Value.int .u8))[j]?=some u→(w4.alloc (.cells #[.int .u16 (h2 * 256 + h3),.int .u16 (h4 * 256 + h5),.int .u8 h1,.int .u16 (h6 * 256 + h7),.int .u8 h8,.bool false,.int .u16 0,.int .u16 0,.slice none 0 0] 40)).cell? ((⟨b,o + 12,none⟩:Addr).add j)=some u):=by
  intro j u hu
  have hj:j < d.length:=by
   by_cases hj:j < d.length
   ·exact hj
   ·rw [List.getElem?_eq_none (by simp;omega)] at hu;exact absurd hu (by simp)
  rw [List.getElem?_map,List.getElem?_eq_getElem hj] at hu
  simp only [Option.map_some,Option.some.injEq] at hu
  subst hu
  rw [show (⟨b,o + 12,none⟩:Addr).add j=⟨b,o + (12 + j),none⟩ from by cases j <;> simp [Addr.add] <;> omega]
  have h:=HC.out (12 + j) (by simp;omega)
  refine Eq.trans (World.cell?_alloc_past _ _ _ HLT.out) (h.trans ?_)
  rw [List.getD_eq_getElem?_getD,List.getElem?_append_right (by simp),show 12 + j - ([16,h1,h2,h3,h4,h5,h6,h7,h8,h9,h10,h11]:List Int).length=j from by simp,List.getElem?_eq_getElem hj]
  rfl
 have hl:d.length=(n - 12):=by have:=HN.out;omega
 have HLn:=hide hl
 go_wp2_with (at_builtin;refine wpList_append_own _ rfl (.tmp 77) (.tmp 78) 38 rfl (w4.heap.size + 1) 5 i5 (.int .u8 0) 1 1 Tryz.underlying38 hi hz5 hz6 hz7 rfl (by decide) _ _ _ rfl (World.ownsRow_nil _ _ _ _) ⟨b,o + 12,none⟩ (n - 12) (cap - 12) (d.map (Value.int .u8)) rfl (by simp [HLn.out]) EN.out (ints_oneCell _ _) (by have:=HLn.out;have:=HB9.out;unfold maxLen;omega) (by have:=HLn.out;have:=HB9.out;omega) (by simp) ?_)
 intro v5 w5 hown hgrow hiff
 have hnn:v5 ≠ .slice none 0 0:=by
  intro h
  have hmm:=by first | exact hiff.1 h | exact (hiff.1 h).2
  have:=HLn.out
  have:=HD0.out
  omega
 have HO:=hide hown
 rcases hown.2 with ⟨h,_⟩ | ⟨g,cv,cur,rfl,hbase,hheap,hle,hmx,_,_⟩
 ·exact absurd h hnn
 clear hown hiff hnn hheap hmx hle
 have HB5:Hid (Below (w4.heap.size + 1) (w4.alloc (.cells #[.int .u16 (h2 * 256 + h3),.int .u16 (h4 * 256 + h5),.int .u8 h1,.int .u16 (h6 * 256 + h7),.int .u8 h8,.bool false,.int .u16 0,.int .u16 0,.slice none 0 0] 40)) w5):=(Below.refl _ _).grown hgrow (by simp) (by simp [Value.ownBlock])
 have hz5a:w4.heap.size < w5.heap.size:=by have:=HB5.out.size;simp at this;omega
 have hz5b:w.heap.size < w5.heap.size:=by have:=HZ0.out;omega
 have hz0:w.heap.size < w4.heap.size:=HZ0.out
 have cp:∀ j,w5.cell? ⟨w4.heap.size,j,none⟩=#[.int .u16 (h2 * 256 + h3),.int .u16 (h4 * 256 + h5),.int .u8 h1,.int .u16 (h6 * 256 + h7),.int .u8 h8,.bool false,.int .u16 0,.int .u16 0,.slice none 0 0][j]?:=fun j=>(HB5.out.cell (p:=⟨w4.heap.size,j,none⟩) (by simp)).trans (by simp)
 have fp:∀ j,w5.frozen? ⟨w4.heap.size,j,none⟩=false:=fun j=>(HB5.out.frozen (p:=⟨w4.heap.size,j,none⟩) (by simp)).trans (by simp)
 have cr:∀ j,w5.cell? ⟨w.heap.size,j,none⟩=#[.int .u16 0,.int .u16 0,.int .u8 0,.int .u16 0,.int .u8 0,.bool false,.int .u16 0,.int .u16 0,.slice none 0 0][j]?:=fun j=>(HB5.out.cell (p:=⟨w.heap.size,j,none⟩) (by show w.heap.size < _;omega)).trans ((World.cell?_alloc_past _ _ _ hz0).trans (CR.out j))
 have fr:∀ j,w5.frozen? ⟨w.heap.size,j,none⟩=false:=fun j=>(HB5.out.frozen (p:=⟨w.heap.size,j,none⟩) (by show w.heap.size < _;omega)).trans ((World.frozen?_alloc_past _ _ _ hz0).trans (FR.out j))
 have HW5:Hid (Below w.heap.size w w5):=((HB4.out.alloc (by omega) _)).trans (HB5.out.mono (by omega))
 have hne0:¬ w4.heap.size=w.heap.size:=by omega
 have hne1:¬ w.heap.size=w4.heap.size:=by omega
 clear hgrow CR FR HZ0 HLT HC EN c8 hz1 q7
 go_wp2_with fail
 refine (wf_any (h2 * 256 + h3) (h4 * 256 + h5) h1 (h6 * 256 + h7) h8 false 0 0 (some ⟨g,0,none⟩) (n - 12) cv _ (by omega) (by have:=HLn.out;have:=HB9.out;unfold maxLen;omega)).mono ?_
 rintro e w6 ⟨rfl,o6,rfl⟩
 cases hw:wfB h8 false 0 0 (n - 12)
 ·have HW:=hide hw
  clear hw
  go_wp2
  refine bodyPost_ret (v:=.tuple #[.agg #[.int .u16 0,.int .u16 0,.int .u8 0,.int .u16 0,.int .u8 0,.bool false,.int .u16 0,.int .u16 0,.slice none 0 0],.int .i64 6]) ?_ rfl ⟨?_,.inr ⟨by rw [HLn.out];exact HW.out,rfl⟩⟩
  all_goals go_light
  ·simp [results,Tryz.results64,go_sem,cr,hz5b]
  ·refine ?_
   repeat' first | with_reducible exact HW5.out | with_reducible refine Below.setCell ?_ ?_ _ | with_reducible refine Below.alloc ?_ ?_ _
   all_goals (simp;try omega)
 ·have HW:=hide hw
  clear hw
  go_wp2
  refine bodyPost_ret (v:=.tuple #[.agg #[.int .u16 (h2 * 256 + h3),.int .u16 (h4 * 256 + h5),.int .u8 h1,.int .u16 (h6 * 256 + h7),.int .u8 h8,.bool false,.int .u16 0,.int .u16 0,.slice (some ⟨g,0,none⟩) (n - 12) cv],.int .i64 0]) ?_ rfl ⟨?_,.inl ⟨by rw [HLn.out];exact HW.out,_,rfl,?_⟩⟩
  all_goals go_light
  ·simp [results,Tryz.results64,go_sem,cr,hz5b]
  ·refine ?_
   repeat' first | with_reducible exact HW5.out | with_reducible refine Below.setCell ?_ ?_ _ | with_reducible refine Below.alloc ?_ ?_ _
   all_goals (simp;try omega)
  ·rw [HLn.out]
   refine ownsRow_base (base:=w4.heap.size + 1) ?_ (by omega)
   repeat' first | with_reducible exact HO.out | with_reducible refine ownsRow_setCell_below ?_ ?_ _ | with_reducible refine World.ownsRow.alloc ?_ _
   all_goals (simp;try omega)
end Go.Proofs.YtajphdppmdoalaaGreat
