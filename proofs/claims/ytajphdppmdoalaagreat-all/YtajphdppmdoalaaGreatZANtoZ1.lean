import Derived.Test.YtajphdppmdoalaaGreatZAHtoT1
import Derived.Deep.RegionHeld3
import Derived.Deep.DeepCutAuto
import Derived.Test.YtajphdppmdoalaaGreatZAU4toU4
set_option maxRecDepth 100000
set_option maxHeartbeats 6400000
set_option linter.unusedVariables false
namespace Go.Proofs.YtajphdppmdoalaaGreat
open Go.RowKit
theorem owns_has2 {w:World} {base n cv:Nat} {ao:Option Addr} {zs:List Int} (h:w.ownsRow base 5 1 (.slice ao n cv) n (zs.map (Value.int .u8))):Has w ao zs∧zs.length=n∧(ao=none→cv=0):=by
 obtain ⟨ao',cv',he,h1,h2,_,_,h3⟩:=owns_any h
 simp only [Value.slice.injEq] at he
 obtain ⟨rfl,_,rfl⟩:=he
 exact ⟨h1,h2,h3⟩
theorem has_of_row {w:World} {g:Nat} {cur:Array Value} {t:TypeId} {zs:List Int} (h:w.heap[g]?=some (.cells cur t (0,0))) (hc:∀ j,j < zs.length→cur[j]?=some (.int .u8 (zs.getD j 0))):Has w (some ⟨g,0,none⟩) zs :=
 ⟨by simp,fun _=>⟨g,0,rfl,lt_of_block h,fun j hj=>by rw [arr_cell h,Nat.zero_add];exact hc j hj⟩⟩
theorem UpPost.err {w w':World} {zs:List Int} {e:Ending} {c:Int} (h:UpPost w zs e w') (hc:upC zs=c) (h0:c ≠ 0):e=.returned (.tuple #[.agg #[.int .u16 0,.int .u16 0,.int .u8 0,.int .u16 0,.int .u8 0,.bool false,.int .u16 0,.int .u16 0,.slice none 0 0],.int .i64 c])∧Below w.heap.size w w':=by
 obtain ⟨hb,h⟩:=h
 rcases h with ⟨h,_⟩ | ⟨_,h⟩
 ·exact absurd (hc.symm.trans h) h0
 ·rw [hc] at h;exact ⟨h,hb⟩
theorem runpack_short (ao:Option Addr) (n cap:Nat) (w:World) (hn:n < 12) :
  Calls Tryz.prog 32 #[.slice ao n cap] w fun e w'=>e=.returned (.tuple #[.agg #[.int .u16 0,.int .u16 0,.int .u8 0,.int .u16 0,.int .u8 0,.bool false,.int .u16 0,.int .u16 0,.slice none 0 0],.int .i64 2])∧Below w.heap.size w w':=by
 go_enter Tryz.func32,Tryz.ntmps32
 go_wp2
 refine bodyPost_ret (v:=.tuple #[.agg #[.int .u16 0,.int .u16 0,.int .u8 0,.int .u16 0,.int .u8 0,.bool false,.int .u16 0,.int .u16 0,.slice none 0 0],.int .i64 2]) ?_ rfl ⟨rfl,?_⟩
 all_goals go_light
 ·simp [results,Tryz.results32,go_sem]
 ·repeat' first | with_reducible exact Below.refl _ _ | with_reducible refine Below.setCell ?_ ?_ _ | with_reducible refine below_drewN ?_ _ | with_reducible refine Below.drew ?_ | with_reducible refine Below.alloc ?_ ?_ _
  all_goals (simp;try omega)
theorem runpack_mark (b o n cap:Nat) (h0 h1 h2 h3 h4 h5 h6 h7 h8 h9 h10 h11:Int) (r:List Int) (w:World) (hn:12 + r.length=n) (hnm:n≤9223372036854775807) (hd:Has w (some ⟨b,o,none⟩) ([h0,h1,h2,h3,h4,h5,h6,h7,h8,h9,h10,h11] ++ r)) (b0:0≤h0∧h0≤255) (b1:0≤h1∧h1≤255) (b2:0≤h2∧h2≤255) (b3:0≤h3∧h3≤255) (b4:0≤h4∧h4≤255) (b5:0≤h5∧h5≤255) (b6:0≤h6∧h6≤255) (b7:0≤h7∧h7≤255) (b8:0≤h8∧h8≤255) (b9:0≤h9∧h9≤255) (b10:0≤h10∧h10≤255) (b11:0≤h11∧h11≤255) (q0:(h0 / 2 != 8)=true) :
  Calls Tryz.prog 32 #[.slice (some ⟨b,o,none⟩) n cap] w fun e w'=>e=.returned (.tuple #[.agg #[.int .u16 0,.int .u16 0,.int .u8 0,.int .u16 0,.int .u8 0,.bool false,.int .u16 0,.int .u16 0,.slice none 0 0],.int .i64 3])∧Below w.heap.size w w':=by
 have i0:12≤n:=by omega
 have j0:(0:Int) < (n:Int):=by omega
 have j8:(8:Int) < (n:Int):=by omega
 have j9:(9:Int) < (n:Int):=by omega
 have HD:=hide hd
 obtain ⟨b',o',he,hlt,hc⟩:=hd.2 (by simp)
 simp only [Option.some.injEq,Addr.mk.injEq] at he
 obtain ⟨rfl,rfl,_⟩:=he
 have e0:∀ O,(w.alloc O).cell? ⟨b,o,none⟩=some (.int .u8 h0):=fun O=>(World.cell?_alloc_past O _ _ hlt).trans (by simpa using hc 0 (by simp))
 have e8:∀ O,(w.alloc O).cell? ⟨b,o + 8,none⟩=some (.int .u8 h8):=fun O=>(World.cell?_alloc_past O _ _ hlt).trans (by simpa using hc 8 (by simp))
 have e9:∀ O,(w.alloc O).cell? ⟨b,o + 9,none⟩=some (.int .u8 h9):=fun O=>(World.cell?_alloc_past O _ _ hlt).trans (by simpa using hc 9 (by simp))
 have HC:=hide hc
 clear hc hd
 go_enter Tryz.func32,Tryz.ntmps32
 go_wp2
 refine bodyPost_ret (v:=.tuple #[.agg #[.int .u16 0,.int .u16 0,.int .u8 0,.int .u16 0,.int .u8 0,.bool false,.int .u16 0,.int .u16 0,.slice none 0 0],.int .i64 3]) ?_ rfl ⟨rfl,?_⟩
 all_goals go_light
 ·simp [results,Tryz.results32,go_sem]
 ·repeat' first | with_reducible exact Below.refl _ _ | with_reducible refine Below.setCell ?_ ?_ _ | with_reducible refine below_drewN ?_ _ | with_reducible refine Below.drew ?_ | with_reducible refine Below.alloc ?_ ?_ _
  all_goals (simp;try omega)
theorem runpack_lenA (b o n cap:Nat) (h0 h1 h2 h3 h4 h5 h6 h7 h8 h9 h10 h11:Int) (r:List Int) (w:World) (hn:12 + r.length=n) (hnm:n≤9223372036854775807) (hd:Has w (some ⟨b,o,none⟩) ([h0,h1,h2,h3,h4,h5,h6,h7,h8,h9,h10,h11] ++ r)) (b0:0≤h0∧h0≤255) (b1:0≤h1∧h1≤255) (b2:0≤h2∧h2≤255) (b3:0≤h3∧h3≤255) (b4:0≤h4∧h4≤255) (b5:0≤h5∧h5≤255) (b6:0≤h6∧h6≤255) (b7:0≤h7∧h7≤255) (b8:0≤h8∧h8≤255) (b9:0≤h9∧h9≤255) (b10:0≤h10∧h10≤255) (b11:0≤h11∧h11≤255) (q0:(h0 / 2 != 8)=false) (q9:(h9 + 12 != (n:Int))=true) :
  Calls Tryz.prog 32 #[.slice (some ⟨b,o,none⟩) n cap] w fun e w'=>e=.returned (.tuple #[.agg #[.int .u16 0,.int .u16 0,.int .u8 0,.int .u16 0,.int .u8 0,.bool false,.int .u16 0,.int .u16 0,.slice none 0 0],.int .i64 4])∧Below w.heap.size w w':=by
 have i0:12≤n:=by omega
 have j0:(0:Int) < (n:Int):=by omega
 have j8:(8:Int) < (n:Int):=by omega
 have j9:(9:Int) < (n:Int):=by omega
 have HD:=hide hd
 obtain ⟨b',o',he,hlt,hc⟩:=hd.2 (by simp)
 simp only [Option.some.injEq,Addr.mk.injEq] at he
 obtain ⟨rfl,rfl,_⟩:=he
 have e0:∀ O,(w.alloc O).cell? ⟨b,o,none⟩=some (.int .u8 h0):=fun O=>(World.cell?_alloc_past O _ _ hlt).trans (by simpa using hc 0 (by simp))
 have e8:∀ O,(w.alloc O).cell? ⟨b,o + 8,none⟩=some (.int .u8 h8):=fun O=>(World.cell?_alloc_past O _ _ hlt).trans (by simpa using hc 8 (by simp))
 have e9:∀ O,(w.alloc O).cell? ⟨b,o + 9,none⟩=some (.int .u8 h9):=fun O=>(World.cell?_alloc_past O _ _ hlt).trans (by simpa using hc 9 (by simp))
 have HC:=hide hc
 clear hc hd
 go_enter Tryz.func32,Tryz.ntmps32
 go_wp2
 refine bodyPost_ret (v:=.tuple #[.agg #[.int .u16 0,.int .u16 0,.int .u8 0,.int .u16 0,.int .u8 0,.bool false,.int .u16 0,.int .u16 0,.slice none 0 0],.int .i64 4]) ?_ rfl ⟨rfl,?_⟩
 all_goals go_light
 ·simp [results,Tryz.results32,go_sem]
 ·repeat' first | with_reducible exact Below.refl _ _ | with_reducible refine Below.setCell ?_ ?_ _ | with_reducible refine below_drewN ?_ _ | with_reducible refine Below.drew ?_ | with_reducible refine Below.alloc ?_ ?_ _
  all_goals (simp;try omega)
theorem runpack_lenB (b o n cap:Nat) (h0 h1 h2 h3 h4 h5 h6 h7 h9 h10 h11:Int) (r:List Int) (w:World) (hn:12 + r.length=n) (hnm:n≤9223372036854775807) (hd:Has w (some ⟨b,o,none⟩) ([h0,h1,h2,h3,h4,h5,h6,h7,0,h9,h10,h11] ++ r)) (b0:0≤h0∧h0≤255) (b1:0≤h1∧h1≤255) (b2:0≤h2∧h2≤255) (b3:0≤h3∧h3≤255) (b4:0≤h4∧h4≤255) (b5:0≤h5∧h5≤255) (b6:0≤h6∧h6≤255) (b7:0≤h7∧h7≤255) (b9:0≤h9∧h9≤255) (b10:0≤h10∧h10≤255) (b11:0≤h11∧h11≤255) (q0:(h0 / 2 != 8)=false) (q9:(h9 + 12 != (n:Int))=false) (q4:h9 < 4) :
  Calls Tryz.prog 32 #[.slice (some ⟨b,o,none⟩) n cap] w fun e w'=>e=.returned (.tuple #[.agg #[.int .u16 0,.int .u16 0,.int .u8 0,.int .u16 0,.int .u8 0,.bool false,.int .u16 0,.int .u16 0,.slice none 0 0],.int .i64 4])∧Below w.heap.size w w':=by
 have i0:12≤n:=by omega
 have j0:(0:Int) < (n:Int):=by omega
 have j8:(8:Int) < (n:Int):=by omega
 have j9:(9:Int) < (n:Int):=by omega
 have HD:=hide hd
 obtain ⟨b',o',he,hlt,hc⟩:=hd.2 (by simp)
 simp only [Option.some.injEq,Addr.mk.injEq] at he
 obtain ⟨rfl,rfl,_⟩:=he
 have e0:∀ O,(w.alloc O).cell? ⟨b,o,none⟩=some (.int .u8 h0):=fun O=>(World.cell?_alloc_past O _ _ hlt).trans (by simpa using hc 0 (by simp))
 have e8:∀ O,(w.alloc O).cell? ⟨b,o + 8,none⟩=some (.int .u8 0):=fun O=>(World.cell?_alloc_past O _ _ hlt).trans (by simpa using hc 8 (by simp))
 have e9:∀ O,(w.alloc O).cell? ⟨b,o + 9,none⟩=some (.int .u8 h9):=fun O=>(World.cell?_alloc_past O _ _ hlt).trans (by simpa using hc 9 (by simp))
 have HC:=hide hc
 clear hc hd
 go_enter Tryz.func32,Tryz.ntmps32
 go_wp2
 refine bodyPost_ret (v:=.tuple #[.agg #[.int .u16 0,.int .u16 0,.int .u8 0,.int .u16 0,.int .u8 0,.bool false,.int .u16 0,.int .u16 0,.slice none 0 0],.int .i64 4]) ?_ rfl ⟨rfl,?_⟩
 all_goals go_light
 ·simp [results,Tryz.results32,go_sem]
 ·repeat' first | with_reducible exact Below.refl _ _ | with_reducible refine Below.setCell ?_ ?_ _ | with_reducible refine below_drewN ?_ _ | with_reducible refine Below.drew ?_ | with_reducible refine Below.alloc ?_ ?_ _
  all_goals (simp;try omega)
theorem runpack_sumP (b o n cap:Nat) (h0 h1 h2 h3 h4 h5 h6 h7 h9 h10 h11:Int) (r:List Int) (w:World) (hn:12 + r.length=n) (hnm:n≤9223372036854775807) (hd:Has w (some ⟨b,o,none⟩) ([h0,h1,h2,h3,h4,h5,h6,h7,0,h9,h10,h11] ++ r)) (b0:0≤h0∧h0≤255) (b1:0≤h1∧h1≤255) (b2:0≤h2∧h2≤255) (b3:0≤h3∧h3≤255) (b4:0≤h4∧h4≤255) (b5:0≤h5∧h5≤255) (b6:0≤h6∧h6≤255) (b7:0≤h7∧h7≤255) (b9:0≤h9∧h9≤255) (b10:0≤h10∧h10≤255) (b11:0≤h11∧h11≤255) (q0:(h0 / 2 != 8)=false) (q9:(h9 + 12 != (n:Int))=false) (q4:4≤h9) (qs:(csum h0 h1 h2 h3 h4 h5 h6 h7 0 h9 != h10 * 256 + h11)=true) :
  Calls Tryz.prog 32 #[.slice (some ⟨b,o,none⟩) n cap] w fun e w'=>e=.returned (.tuple #[.agg #[.int .u16 0,.int .u16 0,.int .u8 0,.int .u16 0,.int .u8 0,.bool false,.int .u16 0,.int .u16 0,.slice none 0 0],.int .i64 5])∧Below w.heap.size w w':=by
 have i0:12≤n:=by omega
 have j0:(0:Int) < (n:Int):=by omega
 have j8:(8:Int) < (n:Int):=by omega
 have j9:(9:Int) < (n:Int):=by omega
 have HD:=hide hd
 obtain ⟨b',o',he,hlt,hc⟩:=hd.2 (by simp)
 simp only [Option.some.injEq,Addr.mk.injEq] at he
 obtain ⟨rfl,rfl,_⟩:=he
 have e0:∀ O,(w.alloc O).cell? ⟨b,o,none⟩=some (.int .u8 h0):=fun O=>(World.cell?_alloc_past O _ _ hlt).trans (by simpa using hc 0 (by simp))
 have e8:∀ O,(w.alloc O).cell? ⟨b,o + 8,none⟩=some (.int .u8 0):=fun O=>(World.cell?_alloc_past O _ _ hlt).trans (by simpa using hc 8 (by simp))
 have e9:∀ O,(w.alloc O).cell? ⟨b,o + 9,none⟩=some (.int .u8 h9):=fun O=>(World.cell?_alloc_past O _ _ hlt).trans (by simpa using hc 9 (by simp))
 have HC:=hide hc
 clear hc hd
 go_enter Tryz.func32,Tryz.ntmps32
 go_wp2_with fail
 generalize hW1:w.alloc _=w1
 have HB1:Hid (Below w.heap.size w w1):=by rw [← hW1];exact (Below.refl _ _).alloc (Nat.le_refl _) _
 have HZ1:Hid (∀ j,w1.cell? ⟨w.heap.size,j,none⟩=#[.int .u16 0,.int .u16 0,.int .u8 0,.int .u16 0,.int .u8 0,.bool false,.int .u16 0,.int .u16 0,.slice none 0 0][j]?):=by intro j;rw [← hW1];simp
 have HF1:Hid (∀ j,w1.frozen? ⟨w.heap.size,j,none⟩=false):=by intro j;rw [← hW1];simp
 have HD1:Hid (Has w1 (some ⟨b,o,none⟩) ([h0,h1,h2,h3,h4,h5,h6,h7,0,h9] ++ ([h10,h11] ++ r))):=HD.out.below HB1.out
 clear hW1 e0 e8 e9
 refine (sum_any b o n cap h0 h1 h2 h3 h4 h5 h6 h7 0 h9 ([h10,h11] ++ r) w1 HD1.out (by omega) hnm (by omega) (by omega) (by omega) (by omega) (by omega) (by omega) (by omega) (by omega) (by omega) (by omega)).mono ?_
 rintro e wx ⟨rfl,m1,rfl⟩
 go_wp2_with fail
 refine (number_int b o n cap 10 10 h10 h11 (by rfl) _ b10 b11 (by omega) hnm (by exact (HB1.out.cell (p:=⟨b,o + 10,none⟩) hlt).trans (by simpa using HC.out 10 (by simp))) (by exact (HB1.out.cell (p:=⟨b,o + 11,none⟩) hlt).trans (by simpa using HC.out 11 (by simp)))).mono ?_
 rintro e wx ⟨rfl,m2,rfl⟩
 have cr:=HZ1.out
 have fr:=HF1.out
 go_wp2
 refine bodyPost_ret (v:=.tuple #[.agg #[.int .u16 0,.int .u16 0,.int .u8 0,.int .u16 0,.int .u8 0,.bool false,.int .u16 0,.int .u16 0,.slice none 0 0],.int .i64 5]) ?_ rfl ⟨rfl,?_⟩
 all_goals go_light
 ·simp [results,Tryz.results32,go_sem,cr]
 ·repeat' first | with_reducible exact HB1.out | with_reducible refine Below.setCell ?_ ?_ _ | with_reducible refine below_drewN ?_ _
  all_goals (simp;try omega)
theorem runpack_sumQ (b o n cap:Nat) (h0 h1 h2 h3 h4 h5 h6 h7 h8 h9 h10 h11:Int) (r:List Int) (w:World) (hn:12 + r.length=n) (hnm:n≤9223372036854775807) (hd:Has w (some ⟨b,o,none⟩) ([h0,h1,h2,h3,h4,h5,h6,h7,h8,h9,h10,h11] ++ r)) (b0:0≤h0∧h0≤255) (b1:0≤h1∧h1≤255) (b2:0≤h2∧h2≤255) (b3:0≤h3∧h3≤255) (b4:0≤h4∧h4≤255) (b5:0≤h5∧h5≤255) (b6:0≤h6∧h6≤255) (b7:0≤h7∧h7≤255) (b8:0≤h8∧h8≤255) (b9:0≤h9∧h9≤255) (b10:0≤h10∧h10≤255) (b11:0≤h11∧h11≤255) (q0:(h0 / 2 != 8)=false) (q9:(h9 + 12 != (n:Int))=false) (q8:(h8 == 0)=false) (qs:(csum h0 h1 h2 h3 h4 h5 h6 h7 h8 h9 != h10 * 256 + h11)=true) :
  Calls Tryz.prog 32 #[.slice (some ⟨b,o,none⟩) n cap] w fun e w'=>e=.returned (.tuple #[.agg #[.int .u16 0,.int .u16 0,.int .u8 0,.int .u16 0,.int .u8 0,.bool false,.int .u16 0,.int .u16 0,.slice none 0 0],.int .i64 5])∧Below w.heap.size w w':=by
 have i0:12≤n:=by omega
 have j0:(0:Int) < (n:Int):=by omega
 have j8:(8:Int) < (n:Int):=by omega
 have j9:(9:Int) < (n:Int):=by omega
 have HD:=hide hd
 obtain ⟨b',o',he,hlt,hc⟩:=hd.2 (by simp)
 simp only [Option.some.injEq,Addr.mk.injEq] at he
 obtain ⟨rfl,rfl,_⟩:=he
 have e0:∀ O,(w.alloc O).cell? ⟨b,o,none⟩=some (.int .u8 h0):=fun O=>(World.cell?_alloc_past O _ _ hlt).trans (by simpa using hc 0 (by simp))
 have e8:∀ O,(w.alloc O).cell? ⟨b,o + 8,none⟩=some (.int .u8 h8):=fun O=>(World.cell?_alloc_past O _ _ hlt).trans (by simpa using hc 8 (by simp))
 have e9:∀ O,(w.alloc O).cell? ⟨b,o + 9,none⟩=some (.int .u8 h9):=fun O=>(World.cell?_alloc_past O _ _ hlt).trans (by simpa using hc 9 (by simp))
 have HC:=hide hc
 clear hc hd
 go_enter Tryz.func32,Tryz.ntmps32
 go_wp2_with fail
 generalize hW1:w.alloc _=w1
 have HB1:Hid (Below w.heap.size w w1):=by rw [← hW1];exact (Below.refl _ _).alloc (Nat.le_refl _) _
 have HZ1:Hid (∀ j,w1.cell? ⟨w.heap.size,j,none⟩=#[.int .u16 0,.int .u16 0,.int .u8 0,.int .u16 0,.int .u8 0,.bool false,.int .u16 0,.int .u16 0,.slice none 0 0][j]?):=by intro j;rw [← hW1];simp
 have HF1:Hid (∀ j,w1.frozen? ⟨w.heap.size,j,none⟩=false):=by intro j;rw [← hW1];simp
 have HD1:Hid (Has w1 (some ⟨b,o,none⟩) ([h0,h1,h2,h3,h4,h5,h6,h7,h8,h9] ++ ([h10,h11] ++ r))):=HD.out.below HB1.out
 clear hW1 e0 e8 e9
 refine (sum_any b o n cap h0 h1 h2 h3 h4 h5 h6 h7 h8 h9 ([h10,h11] ++ r) w1 HD1.out (by omega) hnm (by omega) (by omega) (by omega) (by omega) (by omega) (by omega) (by omega) (by omega) (by omega) (by omega)).mono ?_
 rintro e wx ⟨rfl,m1,rfl⟩
 go_wp2_with fail
 refine (number_int b o n cap 10 10 h10 h11 (by rfl) _ b10 b11 (by omega) hnm (by exact (HB1.out.cell (p:=⟨b,o + 10,none⟩) hlt).trans (by simpa using HC.out 10 (by simp))) (by exact (HB1.out.cell (p:=⟨b,o + 11,none⟩) hlt).trans (by simpa using HC.out 11 (by simp)))).mono ?_
 rintro e wx ⟨rfl,m2,rfl⟩
 have cr:=HZ1.out
 have fr:=HF1.out
 go_wp2
 refine bodyPost_ret (v:=.tuple #[.agg #[.int .u16 0,.int .u16 0,.int .u8 0,.int .u16 0,.int .u8 0,.bool false,.int .u16 0,.int .u16 0,.slice none 0 0],.int .i64 5]) ?_ rfl ⟨rfl,?_⟩
 all_goals go_light
 ·simp [results,Tryz.results32,go_sem,cr]
 ·repeat' first | with_reducible exact HB1.out | with_reducible refine Below.setCell ?_ ?_ _ | with_reducible refine below_drewN ?_ _
  all_goals (simp;try omega)
end Go.Proofs.YtajphdppmdoalaaGreat
