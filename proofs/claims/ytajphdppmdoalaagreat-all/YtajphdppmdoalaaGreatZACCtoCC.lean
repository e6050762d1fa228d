import Derived.Test.YtajphdppmdoalaaGreatZAZ4toCA
import Derived.Test.YtajphdppmdoalaaGreatZAT5toU2
import Derived.Test.YtajphdppmdoalaaGreatZADAtoV2
set_option maxRecDepth 100000
set_option maxHeartbeats 6400000
set_option linter.unusedVariables false
namespace Go.Proofs.YtajphdppmdoalaaGreat
open Go.RowKit
theorem brings_backends_some (xb yb:Nat) (ee aa bb src dst proto id off:Int) (more:Bool) (sport dport:Int) (dso:Option Addr) (dsn dsc:Nat) (aa1:Addr) (n cap:Nat) (w:World) (ga:Nat) (rr er:Int) (Q0 Q1 Q2 Q3 Q4:World→Prop)
  (HG:Hid (∀ wz,Q0 wz→Calls Tryz.prog 26 #[.slice (some aa1) n cap] wz fun e w'=>e=.returned (.slice (some ⟨ga,0,none⟩) (n + 8) (n + 8))∧Q1 w'))
  (HX:Hid (∀ wz,Q1 wz→Calls Tryz.prog 38 #[.pointer (some ⟨xb,0,none⟩),.slice (some ⟨ga,0,none⟩) n (n + 8)] wz fun e w'=>e=.returned (.int .i64 er)∧Q2 w'))
  (HY:Hid (∀ wz,Q2 wz→Calls Tryz.prog 39 #[.pointer (some ⟨yb,0,none⟩),.slice (some aa1) n cap] wz fun e w'=>e=.returned (.int .i64 er)∧Q3 w'))
  (HC:Hid (∀ wz,Q3 wz→Calls Tryz.prog 29 #[.slice (some ⟨ga,0,none⟩) (n + 8) (n + 8),.slice (some aa1) n cap] wz fun e w'=>e=.returned (.bool true)∧Q4 w'))
  (HB0:Hid (∀ wz,Q0 wz→Bx w #[.pointer (some ⟨xb,0,none⟩),.pointer (some ⟨yb,0,none⟩)] #[.int .i64 6,.int .i64 ee,.int .i64 aa,.int .i64 bb,.int .u16 src,.int .u16 dst,.int .u8 proto,.int .u16 id,.int .u8 off,.bool more,.int .u16 sport,.int .u16 dport,.slice dso dsn dsc,.slice (some aa1) n cap] wz)) (HB1:Hid (∀ wz,Q1 wz→Bx w #[.pointer (some ⟨xb,0,none⟩),.pointer (some ⟨yb,0,none⟩)] #[.int .i64 6,.int .i64 ee,.int .i64 aa,.int .i64 bb,.int .u16 src,.int .u16 dst,.int .u8 proto,.int .u16 id,.int .u8 off,.bool more,.int .u16 sport,.int .u16 dport,.slice dso dsn dsc,.slice (some aa1) n cap] wz)) (HB2:Hid (∀ wz,Q2 wz→Bx w #[.pointer (some ⟨xb,0,none⟩),.pointer (some ⟨yb,0,none⟩)] #[.int .i64 6,.int .i64 ee,.int .i64 aa,.int .i64 bb,.int .u16 src,.int .u16 dst,.int .u8 proto,.int .u16 id,.int .u8 off,.bool more,.int .u16 sport,.int .u16 dport,.slice dso dsn dsc,.slice (some aa1) n cap] wz)) (HB3:Hid (∀ wz,Q3 wz→Bx w #[.pointer (some ⟨xb,0,none⟩),.pointer (some ⟨yb,0,none⟩)] #[.int .i64 6,.int .i64 ee,.int .i64 aa,.int .i64 bb,.int .u16 src,.int .u16 dst,.int .u8 proto,.int .u16 id,.int .u8 off,.bool more,.int .u16 sport,.int .u16 dport,.slice dso dsn dsc,.slice (some aa1) n cap] wz))
  (H0:Hid (Q0 ((w.alloc (.cells #[.pointer (some ⟨xb,0,none⟩),.pointer (some ⟨yb,0,none⟩)] 52)).alloc (.cells #[.int .i64 6,.int .i64 ee,.int .i64 aa,.int .i64 bb,.int .u16 src,.int .u16 dst,.int .u8 proto,.int .u16 id,.int .u8 off,.bool more,.int .u16 sport,.int .u16 dport,.slice dso dsn dsc,.slice (some aa1) n cap] 42)))) (hn:n≤140737488351232) :
  Calls Tryz.prog 20 #[.agg #[.pointer (some ⟨xb,0,none⟩),.pointer (some ⟨yb,0,none⟩)],.agg #[.int .i64 6,.int .i64 ee,.int .i64 aa,.int .i64 bb,.int .u16 src,.int .u16 dst,.int .u8 proto,.int .u16 id,.int .u8 off,.bool more,.int .u16 sport,.int .u16 dport,.slice dso dsn dsc,.slice (some aa1) n cap]] w fun e w'=>e=.returned (.bool true)∧Q4 w':=by
 have heq:=fun wx=>Lib.run_eql_slice_nil (P:=Tryz.prog) wx 38 5 (some aa1) n cap 0 0 Tryz.underlying38
 go_enter Tryz.func20,Tryz.ntmps20
 go_wp2_with fail
 generalize ((w.alloc (.cells #[.pointer (some ⟨xb,0,none⟩),.pointer (some ⟨yb,0,none⟩)] 52)).alloc (.cells #[.int .i64 6,.int .i64 ee,.int .i64 aa,.int .i64 bb,.int .u16 src,.int .u16 dst,.int .u8 proto,.int .u16 id,.int .u8 off,.bool more,.int .u16 sport,.int .u16 dport,.slice dso dsn dsc,.slice (some aa1) n cap] 42))=w2 at *
 obtain ⟨c1,h2,c2⟩:=HB0.out w2 H0.out
 have hh:w.heap.size < w2.heap.size:=by omega
 go_wp2_with fail
 refine (HG.out w2 H0.out).mono ?_
 rintro e w3 ⟨rfl,q1⟩
 clear c1 c2 h2 hh
 obtain ⟨c1,h2,c2⟩:=HB1.out w3 q1
 go_wp2_with fail
 refine (HX.out w3 q1).mono ?_
 rintro e w4 ⟨rfl,q2⟩
 clear c1 c2 h2 q1
 obtain ⟨c1,h2,c2⟩:=HB2.out w4 q2
 go_wp2_with fail
 refine (HY.out w4 q2).mono ?_
 rintro e w5 ⟨rfl,q3⟩
 clear c1 c2 h2 q2
 obtain ⟨c1,h2,c2⟩:=HB3.out w5 q3
 go_wp2_with fail
 refine (HC.out w5 q3).mono ?_
 rintro e w6 ⟨rfl,q4⟩
 clear c1 c2 h2 q3
 go_wp2
 go_ret
 exact ⟨by simp,q4⟩
theorem brings_arrive_some (xb yb:Nat) (ee aa bb src dst proto id off:Int) (more:Bool) (sport dport:Int) (dso:Option Addr) (dsn dsc:Nat) (aa1:Addr) (n cap:Nat) (w:World) (ga:Nat) (rr er:Int) (Q0 Q1 Q2 Q3 Q4:World→Prop)
  (HG:Hid (∀ wz,Q0 wz→Calls Tryz.prog 26 #[.slice (some aa1) n cap] wz fun e w'=>e=.returned (.slice (some ⟨ga,0,none⟩) (n + 8) (n + 8))∧Q1 w'))
  (HX:Hid (∀ wz,Q1 wz→Calls Tryz.prog 40 #[.pointer (some ⟨xb,0,none⟩),.int .i64 aa,.slice (some ⟨ga,0,none⟩) n (n + 8)] wz fun e w'=>e=.returned (.tuple #[.int .i64 rr,.int .i64 er])∧Q2 w'))
  (HY:Hid (∀ wz,Q2 wz→Calls Tryz.prog 41 #[.pointer (some ⟨yb,0,none⟩),.int .i64 aa,.slice (some aa1) n cap] wz fun e w'=>e=.returned (.tuple #[.int .i64 rr,.int .i64 er])∧Q3 w'))
  (HC:Hid (∀ wz,Q3 wz→Calls Tryz.prog 29 #[.slice (some ⟨ga,0,none⟩) (n + 8) (n + 8),.slice (some aa1) n cap] wz fun e w'=>e=.returned (.bool true)∧Q4 w'))
  (HB0:Hid (∀ wz,Q0 wz→Bx w #[.pointer (some ⟨xb,0,none⟩),.pointer (some ⟨yb,0,none⟩)] #[.int .i64 8,.int .i64 ee,.int .i64 aa,.int .i64 bb,.int .u16 src,.int .u16 dst,.int .u8 proto,.int .u16 id,.int .u8 off,.bool more,.int .u16 sport,.int .u16 dport,.slice dso dsn dsc,.slice (some aa1) n cap] wz)) (HB1:Hid (∀ wz,Q1 wz→Bx w #[.pointer (some ⟨xb,0,none⟩),.pointer (some ⟨yb,0,none⟩)] #[.int .i64 8,.int .i64 ee,.int .i64 aa,.int .i64 bb,.int .u16 src,.int .u16 dst,.int .u8 proto,.int .u16 id,.int .u8 off,.bool more,.int .u16 sport,.int .u16 dport,.slice dso dsn dsc,.slice (some aa1) n cap] wz)) (HB2:Hid (∀ wz,Q2 wz→Bx w #[.pointer (some ⟨xb,0,none⟩),.pointer (some ⟨yb,0,none⟩)] #[.int .i64 8,.int .i64 ee,.int .i64 aa,.int .i64 bb,.int .u16 src,.int .u16 dst,.int .u8 proto,.int .u16 id,.int .u8 off,.bool more,.int .u16 sport,.int .u16 dport,.slice dso dsn dsc,.slice (some aa1) n cap] wz)) (HB3:Hid (∀ wz,Q3 wz→Bx w #[.pointer (some ⟨xb,0,none⟩),.pointer (some ⟨yb,0,none⟩)] #[.int .i64 8,.int .i64 ee,.int .i64 aa,.int .i64 bb,.int .u16 src,.int .u16 dst,.int .u8 proto,.int .u16 id,.int .u8 off,.bool more,.int .u16 sport,.int .u16 dport,.slice dso dsn dsc,.slice (some aa1) n cap] wz))
  (H0:Hid (Q0 ((w.alloc (.cells #[.pointer (some ⟨xb,0,none⟩),.pointer (some ⟨yb,0,none⟩)] 52)).alloc (.cells #[.int .i64 8,.int .i64 ee,.int .i64 aa,.int .i64 bb,.int .u16 src,.int .u16 dst,.int .u8 proto,.int .u16 id,.int .u8 off,.bool more,.int .u16 sport,.int .u16 dport,.slice dso dsn dsc,.slice (some aa1) n cap] 42)))) (hn:n≤140737488351232) :
  Calls Tryz.prog 20 #[.agg #[.pointer (some ⟨xb,0,none⟩),.pointer (some ⟨yb,0,none⟩)],.agg #[.int .i64 8,.int .i64 ee,.int .i64 aa,.int .i64 bb,.int .u16 src,.int .u16 dst,.int .u8 proto,.int .u16 id,.int .u8 off,.bool more,.int .u16 sport,.int .u16 dport,.slice dso dsn dsc,.slice (some aa1) n cap]] w fun e w'=>e=.returned (.bool true)∧Q4 w':=by
 have heq:=fun wx=>Lib.run_eql_slice_nil (P:=Tryz.prog) wx 38 5 (some aa1) n cap 0 0 Tryz.underlying38
 go_enter Tryz.func20,Tryz.ntmps20
 go_wp2_with fail
 generalize ((w.alloc (.cells #[.pointer (some ⟨xb,0,none⟩),.pointer (some ⟨yb,0,none⟩)] 52)).alloc (.cells #[.int .i64 8,.int .i64 ee,.int .i64 aa,.int .i64 bb,.int .u16 src,.int .u16 dst,.int .u8 proto,.int .u16 id,.int .u8 off,.bool more,.int .u16 sport,.int .u16 dport,.slice dso dsn dsc,.slice (some aa1) n cap] 42))=w2 at *
 obtain ⟨c1,h2,c2⟩:=HB0.out w2 H0.out
 have hh:w.heap.size < w2.heap.size:=by omega
 go_wp2_with fail
 refine (HG.out w2 H0.out).mono ?_
 rintro e w3 ⟨rfl,q1⟩
 clear c1 c2 h2 hh
 obtain ⟨c1,h2,c2⟩:=HB1.out w3 q1
 go_wp2_with fail
 refine (HX.out w3 q1).mono ?_
 rintro e w4 ⟨rfl,q2⟩
 clear c1 c2 h2 q1
 obtain ⟨c1,h2,c2⟩:=HB2.out w4 q2
 go_wp2_with fail
 refine (HY.out w4 q2).mono ?_
 rintro e w5 ⟨rfl,q3⟩
 clear c1 c2 h2 q2
 obtain ⟨c1,h2,c2⟩:=HB3.out w5 q3
 go_wp2_with fail
 refine (HC.out w5 q3).mono ?_
 rintro e w6 ⟨rfl,q4⟩
 clear c1 c2 h2 q3
 go_wp2
 go_ret
 exact ⟨by simp,q4⟩
theorem brings_backends_nil (xb yb:Nat) (ee aa bb src dst proto id off:Int) (more:Bool) (sport dport:Int) (dso:Option Addr) (dsn dsc:Nat) (w:World) (ga:Nat) (rr er:Int) (Q0 Q1 Q2 Q3 Q4:World→Prop)
  (HG:Hid (∀ wz,Q0 wz→Calls Tryz.prog 26 #[.slice none 0 0] wz fun e w'=>e=.returned (.slice (some ⟨ga,0,none⟩) (0 + 8) (0 + 8))∧Q1 w'))
  (HX:Hid (∀ wz,Q1 wz→Calls Tryz.prog 38 #[.pointer (some ⟨xb,0,none⟩),.slice none 0 0] wz fun e w'=>e=.returned (.int .i64 er)∧Q2 w'))
  (HY:Hid (∀ wz,Q2 wz→Calls Tryz.prog 39 #[.pointer (some ⟨yb,0,none⟩),.slice none 0 0] wz fun e w'=>e=.returned (.int .i64 er)∧Q3 w'))
  (HC:Hid (∀ wz,Q3 wz→Calls Tryz.prog 29 #[.slice (some ⟨ga,0,none⟩) (0 + 8) (0 + 8),.slice none 0 0] wz fun e w'=>e=.returned (.bool true)∧Q4 w'))
  (HB0:Hid (∀ wz,Q0 wz→Bx w #[.pointer (some ⟨xb,0,none⟩),.pointer (some ⟨yb,0,none⟩)] #[.int .i64 6,.int .i64 ee,.int .i64 aa,.int .i64 bb,.int .u16 src,.int .u16 dst,.int .u8 proto,.int .u16 id,.int .u8 off,.bool more,.int .u16 sport,.int .u16 dport,.slice dso dsn dsc,.slice none 0 0] wz)) (HB1:Hid (∀ wz,Q1 wz→Bx w #[.pointer (some ⟨xb,0,none⟩),.pointer (some ⟨yb,0,none⟩)] #[.int .i64 6,.int .i64 ee,.int .i64 aa,.int .i64 bb,.int .u16 src,.int .u16 dst,.int .u8 proto,.int .u16 id,.int .u8 off,.bool more,.int .u16 sport,.int .u16 dport,.slice dso dsn dsc,.slice none 0 0] wz)) (HB2:Hid (∀ wz,Q2 wz→Bx w #[.pointer (some ⟨xb,0,none⟩),.pointer (some ⟨yb,0,none⟩)] #[.int .i64 6,.int .i64 ee,.int .i64 aa,.int .i64 bb,.int .u16 src,.int .u16 dst,.int .u8 proto,.int .u16 id,.int .u8 off,.bool more,.int .u16 sport,.int .u16 dport,.slice dso dsn dsc,.slice none 0 0] wz)) (HB3:Hid (∀ wz,Q3 wz→Bx w #[.pointer (some ⟨xb,0,none⟩),.pointer (some ⟨yb,0,none⟩)] #[.int .i64 6,.int .i64 ee,.int .i64 aa,.int .i64 bb,.int .u16 src,.int .u16 dst,.int .u8 proto,.int .u16 id,.int .u8 off,.bool more,.int .u16 sport,.int .u16 dport,.slice dso dsn dsc,.slice none 0 0] wz))
  (H0:Hid (Q0 ((w.alloc (.cells #[.pointer (some ⟨xb,0,none⟩),.pointer (some ⟨yb,0,none⟩)] 52)).alloc (.cells #[.int .i64 6,.int .i64 ee,.int .i64 aa,.int .i64 bb,.int .u16 src,.int .u16 dst,.int .u8 proto,.int .u16 id,.int .u8 off,.bool more,.int .u16 sport,.int .u16 dport,.slice dso dsn dsc,.slice none 0 0] 42)))) (hn:0≤140737488351232) :
  Calls Tryz.prog 20 #[.agg #[.pointer (some ⟨xb,0,none⟩),.pointer (some ⟨yb,0,none⟩)],.agg #[.int .i64 6,.int .i64 ee,.int .i64 aa,.int .i64 bb,.int .u16 src,.int .u16 dst,.int .u8 proto,.int .u16 id,.int .u8 off,.bool more,.int .u16 sport,.int .u16 dport,.slice dso dsn dsc,.slice none 0 0]] w fun e w'=>e=.returned (.bool true)∧Q4 w':=by
 have heq:=fun wx=>Lib.run_eql_slice_nil (P:=Tryz.prog) wx 38 5 none 0 0 0 0 Tryz.underlying38
 go_enter Tryz.func20,Tryz.ntmps20
 go_wp2_with fail
 generalize ((w.alloc (.cells #[.pointer (some ⟨xb,0,none⟩),.pointer (some ⟨yb,0,none⟩)] 52)).alloc (.cells #[.int .i64 6,.int .i64 ee,.int .i64 aa,.int .i64 bb,.int .u16 src,.int .u16 dst,.int .u8 proto,.int .u16 id,.int .u8 off,.bool more,.int .u16 sport,.int .u16 dport,.slice dso dsn dsc,.slice none 0 0] 42))=w2 at *
 obtain ⟨c1,h2,c2⟩:=HB0.out w2 H0.out
 have hh:w.heap.size < w2.heap.size:=by omega
 go_wp2_with fail
 refine (HG.out w2 H0.out).mono ?_
 rintro e w3 ⟨rfl,q1⟩
 clear c1 c2 h2 hh
 obtain ⟨c1,h2,c2⟩:=HB1.out w3 q1
 go_wp2_with fail
 refine (HX.out w3 q1).mono ?_
 rintro e w4 ⟨rfl,q2⟩
 clear c1 c2 h2 q1
 obtain ⟨c1,h2,c2⟩:=HB2.out w4 q2
 go_wp2_with fail
 refine (HY.out w4 q2).mono ?_
 rintro e w5 ⟨rfl,q3⟩
 clear c1 c2 h2 q2
 obtain ⟨c1,h2,c2⟩:=HB3.out w5 q3
 go_wp2_with fail
 refine (HC.out w5 q3).mono ?_
 rintro e w6 ⟨rfl,q4⟩
 clear c1 c2 h2 q3
 go_wp2
 go_ret
 exact ⟨by simp,q4⟩
theorem brings_arrive_nil (xb yb:Nat) (ee aa bb src dst proto id off:Int) (more:Bool) (sport dport:Int) (dso:Option Addr) (dsn dsc:Nat) (w:World) (ga:Nat) (rr er:Int) (Q0 Q1 Q2 Q3 Q4:World→Prop)
  (HG:Hid (∀ wz,Q0 wz→Calls Tryz.prog 26 #[.slice none 0 0] wz fun e w'=>e=.returned (.slice (some ⟨ga,0,none⟩) (0 + 8) (0 + 8))∧Q1 w'))
  (HX:Hid (∀ wz,Q1 wz→Calls Tryz.prog 40 #[.pointer (some ⟨xb,0,none⟩),.int .i64 aa,.slice none 0 0] wz fun e w'=>e=.returned (.tuple #[.int .i64 rr,.int .i64 er])∧Q2 w'))
  (HY:Hid (∀ wz,Q2 wz→Calls Tryz.prog 41 #[.pointer (some ⟨yb,0,none⟩),.int .i64 aa,.slice none 0 0] wz fun e w'=>e=.returned (.tuple #[.int .i64 rr,.int .i64 er])∧Q3 w'))
  (HC:Hid (∀ wz,Q3 wz→Calls Tryz.prog 29 #[.slice (some ⟨ga,0,none⟩) (0 + 8) (0 + 8),.slice none 0 0] wz fun e w'=>e=.returned (.bool true)∧Q4 w'))
  (HB0:Hid (∀ wz,Q0 wz→Bx w #[.pointer (some ⟨xb,0,none⟩),.pointer (some ⟨yb,0,none⟩)] #[.int .i64 8,.int .i64 ee,.int .i64 aa,.int .i64 bb,.int .u16 src,.int .u16 dst,.int .u8 proto,.int .u16 id,.int .u8 off,.bool more,.int .u16 sport,.int .u16 dport,.slice dso dsn dsc,.slice none 0 0] wz)) (HB1:Hid (∀ wz,Q1 wz→Bx w #[.pointer (some ⟨xb,0,none⟩),.pointer (some ⟨yb,0,none⟩)] #[.int .i64 8,.int .i64 ee,.int .i64 aa,.int .i64 bb,.int .u16 src,.int .u16 dst,.int .u8 proto,.int .u16 id,.int .u8 off,.bool more,.int .u16 sport,.int .u16 dport,.slice dso dsn dsc,.slice none 0 0] wz)) (HB2:Hid (∀ wz,Q2 wz→Bx w #[.pointer (some ⟨xb,0,none⟩),.pointer (some ⟨yb,0,none⟩)] #[.int .i64 8,.int .i64 ee,.int .i64 aa,.int .i64 bb,.int .u16 src,.int .u16 dst,.int .u8 proto,.int .u16 id,.int .u8 off,.bool more,.int .u16 sport,.int .u16 dport,.slice dso dsn dsc,.slice none 0 0] wz)) (HB3:Hid (∀ wz,Q3 wz→Bx w #[.pointer (some ⟨xb,0,none⟩),.pointer (some ⟨yb,0,none⟩)] #[.int .i64 8,.int .i64 ee,.int .i64 aa,.int .i64 bb,.int .u16 src,.int .u16 dst,.int .u8 proto,.int .u16 id,.int .u8 off,.bool more,.int .u16 sport,.int .u16 dport,.slice dso dsn dsc,.slice none 0 0] wz))
  (H0:Hid (Q0 ((w.alloc (.cells #[.pointer (some ⟨xb,0,none⟩),.pointer (some ⟨yb,0,none⟩)] 52)).alloc (.cells #[.int .i64 8,.int .i64 ee,.int .i64 aa,.int .i64 bb,.int .u16 src,.int .u16 dst,.int .u8 proto,.int .u16 id,.int .u8 off,.bool more,.int .u16 sport,.int .u16 dport,.slice dso dsn dsc,.slice none 0 0] 42)))) (hn:0≤140737488351232) :
  Calls Tryz.prog 20 #[.agg #[.pointer (some ⟨xb,0,none⟩),.pointer (some ⟨yb,0,none⟩)],.agg #[.int .i64 8,.int .i64 ee,.int .i64 aa,.int .i64 bb,.int .u16 src,.int .u16 dst,.int .u8 proto,.int .u16 id,.int .u8 off,.bool more,.int .u16 sport,.int .u16 dport,.slice dso dsn dsc,.slice none 0 0]] w fun e w'=>e=.returned (.bool true)∧Q4 w':=by
 have heq:=fun wx=>Lib.run_eql_slice_nil (P:=Tryz.prog) wx 38 5 none 0 0 0 0 Tryz.underlying38
 go_enter Tryz.func20,Tryz.ntmps20
 go_wp2_with fail
 generalize ((w.alloc (.cells #[.pointer (some ⟨xb,0,none⟩),.pointer (some ⟨yb,0,none⟩)] 52)).alloc (.cells #[.int .i64 8,.int .i64 ee,.int .i64 aa,.int .i64 bb,.int .u16 src,.int .u16 dst,.int .u8 proto,.int .u16 id,.int .u8 off,.bool more,.int .u16 sport,.int .u16 dport,.slice dso dsn dsc,.slice none 0 0] 42))=w2 at *
 obtain ⟨c1,h2,c2⟩:=HB0.out w2 H0.out
 have hh:w.heap.size < w2.heap.size:=by omega
 go_wp2_with fail
 refine (HG.out w2 H0.out).mono ?_
 rintro e w3 ⟨rfl,q1⟩
 clear c1 c2 h2 hh
 obtain ⟨c1,h2,c2⟩:=HB1.out w3 q1
 go_wp2_with fail
 refine (HX.out w3 q1).mono ?_
 rintro e w4 ⟨rfl,q2⟩
 clear c1 c2 h2 q1
 obtain ⟨c1,h2,c2⟩:=HB2.out w4 q2
 go_wp2_with fail
 refine (HY.out w4 q2).mono ?_
 rintro e w5 ⟨rfl,q3⟩
 clear c1 c2 h2 q2
 obtain ⟨c1,h2,c2⟩:=HB3.out w5 q3
 go_wp2_with fail
 refine (HC.out w5 q3).mono ?_
 rintro e w6 ⟨rfl,q4⟩
 clear c1 c2 h2 q3
 go_wp2
 go_ret
 exact ⟨by simp,q4⟩
end Go.Proofs.YtajphdppmdoalaaGreat
