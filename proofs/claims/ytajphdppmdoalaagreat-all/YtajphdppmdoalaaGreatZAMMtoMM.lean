import Derived.Test.YtajphdppmdoalaaGreatZAMItoML
set_option maxRecDepth 100000
set_option maxHeartbeats 6400000
set_option linter.unusedVariables false
namespace Go.Proofs.YtajphdppmdoalaaGreat
open Go.RowKit
theorem rheld_no (yb:Nat) (k:Int) (S:Cl) (F:Nat→Prop) (vS vE vN vV:Value) (ES:List RE) (NS:List RN) (w:World) (h:RefIs w yb S F vS vE vN vV ES NS) (hk:k < 0∨S.reps≤k) :
  Calls Tryz.prog 57 #[.pointer (some ⟨yb,0,none⟩),.int .i64 k] w fun e w'=>e=.returned (.tuple #[.agg #[.int .i64 0,.int .i64 0,.int .i64 0],.int .i64 1])∧Below w.heap.size w w':=by
 have HH:=hide h
 have hyb:=h.lt
 have dY:=arr_cell h.blk
 clear h
 by_cases h0:k < 0
 ·clear hk
  go_enter Tryz.func57,Tryz.ntmps57
  go_wp2
  refine bodyPost_ret (v:=.tuple #[.agg #[.int .i64 0,.int .i64 0,.int .i64 0],.int .i64 1]) ?_ rfl ⟨rfl,?_⟩
  all_goals go_light
  ·simp [results,Tryz.results57,go_sem]
  ·repeat' first | with_reducible exact Below.refl _ _ | with_reducible refine Below.setCell ?_ ?_ _ | with_reducible refine Below.alloc ?_ ?_ _
   all_goals (simp;try omega)
 ·have h1:k ≥ S.reps:=by omega
  clear hk
  go_enter Tryz.func57,Tryz.ntmps57
  go_wp2
  refine bodyPost_ret (v:=.tuple #[.agg #[.int .i64 0,.int .i64 0,.int .i64 0],.int .i64 1]) ?_ rfl ⟨rfl,?_⟩
  all_goals go_light
  ·simp [results,Tryz.results57,go_sem]
  ·repeat' first | with_reducible exact Below.refl _ _ | with_reducible refine Below.setCell ?_ ?_ _ | with_reducible refine Below.alloc ?_ ?_ _
   all_goals (simp;try omega)
theorem rheld_yes (yb:Nat) (k:Int) (S:Cl) (F:Nat→Prop) (vS vE vN vV:Value) (ES:List RE) (NS:List RN) (w:World) (h:RefIs w yb S F vS vE vN vV ES NS) (hf:FewP S.ents) (hk:0≤k∧k < S.reps) :
  Calls Tryz.prog 57 #[.pointer (some ⟨yb,0,none⟩),.int .i64 k] w fun e w'=>e=.returned (.tuple #[.agg #[.int .i64 (nE S.ents k),.int .i64 (nP S.ents k),.int .i64 (nB S.ents k)],.int .i64 0])∧Below w.heap.size w w':=by
 have HH:=hide h
 have hyb:=h.lt
 have dY:=arr_cell h.blk
 have h0:¬ k < 0:=by omega
 have h1:¬ k ≥ S.reps:=by omega
 have HB0:Hid (Below w.heap.size w (w.alloc (.cells #[.int .i64 0,.int .i64 0,.int .i64 0] 98))):=(Below.refl _ _).alloc (Nat.le_refl _) _
 have HL:=hide (rload_any yb k S F vS vE vN vV ES NS _ (h.below HB0.out) hf)
 generalize nE S.ents k=E at *
 generalize nP S.ents k=P0 at *
 generalize nB S.ents k=B at *
 clear h
 go_enter Tryz.func57,Tryz.ntmps57
 go_wp2_with fail
 refine HL.out.mono ?_
 rintro e w2 ⟨rfl,hb2⟩
 have HX:Hid (w2.heap[w.heap.size]?=some (.cells #[.int .i64 0,.int .i64 0,.int .i64 0] 98 (0,0))):=(hb2.block _ (by simp)).trans (heap_alloc_new _ _)
 have HB2:Hid (Below w.heap.size w w2):=HB0.out.trans (hb2.mono (by simp))
 have dX:=arr_cell HX.out
 have fX:=arr_frozen HX.out
 have hz2:w.heap.size < w2.heap.size:=lt_of_block HX.out
 clear hb2 HL dY
 go_wp2
 have h3:=store3 (t:=98) HX.out (.int .i64 E) (.int .i64 P0) (.int .i64 B)
 generalize ((w2.setCell ⟨w.heap.size,0,none⟩ _).setCell ⟨w.heap.size,1,none⟩ _).setCell ⟨w.heap.size,2,none⟩ _=wF at h3 ⊢
 have dF:=arr_cell h3.1
 have hzF:w.heap.size < wF.heap.size:=lt_of_block h3.1
 have HBF:Hid (Below w.heap.size w wF):=HB2.out.trans (h3.2.to_below (by omega) (fun k hk=>by omega))
 clear dX fX
 refine bodyPost_ret (v:=.tuple #[.agg #[.int .i64 E,.int .i64 P0,.int .i64 B],.int .i64 0]) ?_ rfl ⟨rfl,HBF.out.alloc (by omega) _⟩
 go_light
 simp [results,Tryz.results57,go_sem,dF,hzF]
theorem rchoose_no (yb:Nat) (S:Cl) (F:Nat→Prop) (vS vE vN vV:Value) (ES:List RE) (NS:List RN) (src dst proto id off:Int) (more:Bool) (sport dport:Int) (ao:Option Addr) (n cap:Nat) (w:World) (h:RefIs w yb S F vS vE vN vV ES NS) (hs:S.slots=[]) :
  Calls Tryz.prog 49 #[.pointer (some ⟨yb,0,none⟩),.agg #[.int .u16 src,.int .u16 dst,.int .u8 proto,.int .u16 id,.int .u8 off,.bool more,.int .u16 sport,.int .u16 dport,.slice ao n cap]] w fun e w'=>e=.returned (.tuple #[.int .u8 0,.int .i64 7])∧Below w.heap.size w w':=by
 have hyb:=h.lt
 obtain ⟨sa,sc,hvS⟩:=own_slice h.rS
 subst hvS
 have dY:=arr_cell h.blk
 rw [hs] at dY
 have HB0:Hid (∀ O,Below w.heap.size w (w.alloc O)):=fun O=>(Below.refl _ _).alloc (Nat.le_refl _) _
 clear h hs
 go_enter Tryz.func49,Tryz.ntmps49
 go_wp2
 go_ret2
 exact ⟨rfl,HB0.out _⟩
theorem rchoose_yes (yb:Nat) (S:Cl) (F:Nat→Prop) (vS vE vN vV:Value) (ES:List RE) (NS:List RN) (src dst proto id off:Int) (more:Bool) (sport dport:Int) (ao:Option Addr) (n cap:Nat) (w:World) (h:RefIs w yb S F vS vE vN vV ES NS) (hs:S.slots.length=31) (hsrc:0≤src∧src≤65535) (hdst:0≤dst∧dst≤65535) (hproto:0≤proto∧proto≤255) (hid:0≤id∧id≤65535) (hsport:0≤sport∧sport≤65535) (hdport:0≤dport∧dport≤65535) :
  Calls Tryz.prog 49 #[.pointer (some ⟨yb,0,none⟩),.agg #[.int .u16 src,.int .u16 dst,.int .u8 proto,.int .u16 id,.int .u8 off,.bool more,.int .u16 sport,.int .u16 dport,.slice ao n cap]] w fun e w'=>e=.returned (.tuple #[.int .u8 (S.slots.getD ((flH src dst proto sport dport).toNat % 31) 0),.int .i64 0])∧Below w.heap.size w w':=by
 have hyb:=h.lt
 have HB0:Hid (∀ O,Below w.heap.size w (w.alloc O)):=fun O=>(Below.refl _ _).alloc (Nat.le_refl _) _
 obtain ⟨gs,cs,hvS,hgs,hT⟩:=own_cells31 h.rS hs
 subst hvS
 have dY:=arr_cell h.blk
 have HC:Hid (∀ O,Calls Tryz.prog 76 #[.pointer (some ⟨yb,0,none⟩),.agg #[.int .u16 src,.int .u16 dst,.int .u8 proto,.int .u16 id,.int .u8 off,.bool more,.int .u16 sport,.int .u16 dport,.slice ao n cap]] (w.alloc O) fun e w'=>e=.returned (.int .u8 (S.slots.getD ((flH src dst proto sport dport).toNat % 31) 0))∧Below (w.alloc O).heap.size (w.alloc O) w'):=by
  intro O
  refine rchosen_any yb gs cs S.slots src dst proto id off more sport dport ao n cap (w.alloc O) hsrc hdst hproto hid hsport hdport ?_ ?_ ?_ ?_
  ·rw [World.cell?_alloc_past O _ _ hyb];exact dY 4
  ·simp;omega
  ·intro j hj;rw [World.cell?_alloc_past O _ _ hgs];exact hT j hj
  ·simp;omega
 generalize S.slots.getD ((flH src dst proto sport dport).toNat % 31) 0=R at *
 clear h hs hT
 go_enter Tryz.func49,Tryz.ntmps49
 go_wp2_with fail
 refine (HC.out _).mono ?_
 rintro e w2 ⟨rfl,hb2⟩
 have HB2:Hid (Below w.heap.size w w2):=(HB0.out _).trans (hb2.mono (by simp))
 clear hb2 HC dY
 go_wp2
 go_ret2
 exact ⟨rfl,HB2.out⟩
theorem rnew_no (a b:Int) (w:World) (h:¬ ((1≤a∧a≤5)∧(1≤b∧b≤20))) :
  Calls Tryz.prog 15 #[.int .i64 a,.int .i64 b] w fun e w'=>e=.returned (.tuple #[.pointer none,.int .i64 1])∧w'=w:=by
 by_cases h1:a ≥ 1
 ·by_cases h2:a≤5
  ·by_cases h3:b ≥ 1
   ·have h4:¬ b≤20:=fun h4=>h ⟨⟨h1,h2⟩,h3,h4⟩
    clear h
    go_enter Tryz.func15,Tryz.ntmps15
    go_wp2
    all_goals (go_ret2;exact ⟨rfl,rfl⟩)
   ·clear h
    go_enter Tryz.func15,Tryz.ntmps15
    go_wp2
    all_goals (go_ret2;exact ⟨rfl,rfl⟩)
  ·clear h
   go_enter Tryz.func15,Tryz.ntmps15
   go_wp2
   all_goals (go_ret2;exact ⟨rfl,rfl⟩)
 ·clear h
  go_enter Tryz.func15,Tryz.ntmps15
  go_wp2
  all_goals (go_ret2;exact ⟨rfl,rfl⟩)
theorem ref_new (w:World) (a b:Int):RefIs (w.alloc (.cells #[.int .i64 a,.int .i64 b,.int .i64 0,.int .i64 0,.slice none 0 0,.slice none 0 0,.slice none 0 0,.slice none 0 0] 73)) w.heap.size (Cl.new a b) (fun k=>k=w.heap.size) (.slice none 0 0) (.slice none 0 0) (.slice none 0 0) (.slice none 0 0) [] [] :=
 ⟨heap_alloc_new _ _,rfl,rfl,World.ownsRow_nil _ _ _ _,World.ownsRow_nil _ _ _ _,World.ownsRow_nil _ _ _ _,World.ownsRow_nil _ _ _ _,by simp,rfl,by simp [Value.ownBlock],by simp [Value.ownBlock],by simp [Value.ownBlock],by simp [Value.ownBlock],by simp,fun k hk=>by rw [hk];simp,by simp,by simp⟩
theorem rnew_yes (a b:Int) (w:World) (ha:1≤a∧a≤5) (hb:1≤b∧b≤20) :
  Calls Tryz.prog 15 #[.int .i64 a,.int .i64 b] w fun e w'=>e=.returned (.tuple #[.pointer (some ⟨w.heap.size,0,none⟩),.int .i64 0])∧RefIs w' w.heap.size (Cl.new a b) (fun k=>k=w.heap.size) (.slice none 0 0) (.slice none 0 0) (.slice none 0 0) (.slice none 0 0) [] []∧Below w.heap.size w w':=by
 have h1:a ≥ 1:=ha.1
 have h2:a≤5:=ha.2
 have h3:b ≥ 1:=hb.1
 have h4:b≤20:=hb.2
 have HR:=hide (ref_new w a b)
 clear ha hb
 go_enter Tryz.func15,Tryz.ntmps15
 go_wp2
 go_ret2
 exact ⟨rfl,HR.out,(Below.refl _ _).alloc (Nat.le_refl _) _⟩
theorem rlose_no (yb:Nat) (k:Int) (S:Cl) (F:Nat→Prop) (vS vE vN vV:Value) (ES:List RE) (NS:List RN) (w:World) (h:RefIs w yb S F vS vE vN vV ES NS) (hk:k < 0∨(NS.length:Int)≤k) :
  Calls Tryz.prog 55 #[.pointer (some ⟨yb,0,none⟩),.int .i64 k] w fun e w'=>e=.returned (.int .i64 1)∧w'=w:=by
 have hyb:=h.lt
 obtain ⟨na,nc,hvN⟩:=own_slice h.rN
 subst hvN
 have dY:=arr_cell h.blk
 clear h
 by_cases h0:k < 0
 ·clear hk
  go_enter Tryz.func55,Tryz.ntmps55
  go_wp2
  go_ret
  exact ⟨rfl,rfl⟩
 ·have h1:k ≥ (NS.length:Int):=by omega
  clear hk
  go_enter Tryz.func55,Tryz.ntmps55
  go_wp2
  go_ret
  exact ⟨rfl,rfl⟩
theorem rlose_yes (yb k:Nat) (S:Cl) (F:Nat→Prop) (vS vE vN vV:Value) (ES:List RE) (NS:List RN) (w:World) (h:RefIs w yb S F vS vE vN vV ES NS) (hs:Sml S) (hk:k < NS.length) :
  Calls Tryz.prog 55 #[.pointer (some ⟨yb,0,none⟩),.int .i64 k] w fun e w'=>e=.returned (.int .i64 0)∧∃ F' vN' vV',RefIs w' yb (loseM S k) F' vS vE vN' vV' ES (goneL NS k)∧Stp w w' F F':=by
 obtain ⟨r,hr⟩:∃ r,NS[k]?=some r:=⟨_,List.getElem?_eq_getElem hk⟩
 have hsk:S.sent[k]?=some r.s:=by rw [← h.hns,List.getElem?_map,hr];rfl
 have hlm:loseM S k=toldM (landM S k) r.s.seq 5 0:=by unfold loseM;rw [hsk]
 rw [hlm]
 have hnl:NS.length≤2000000000000:=by
  have h1:=congrArg List.length h.hns
  rw [List.length_map] at h1
  have h2:=hs.cnt
  have h3:=hs.next
  unfold seqsM at h2
  simp only [List.length_append,List.length_map] at h2
  omega
 have hev:(landM S k).evs.length≤2000000000000:=by
  have h2:=hs.cnt
  have h3:=hs.next
  unfold seqsM at h2
  simp only [List.length_append,List.length_map] at h2
  simp only [landM]
  omega
 have hyb:=h.lt
 obtain ⟨na,nc,hvN⟩:=own_slice h.rN
 subst hvN
 have dY:=arr_cell h.blk
 have HL:=hide (rlanded_any yb k S F vS vE _ vV ES NS r w h hnl hr)
 have HEV:=hide hev
 obtain ⟨ra,rc,hdv⟩:=h.rawN r (List.mem_of_getElem? hr)
 have HFL:=hide h.flt
 obtain ⟨rs,rdv⟩:=r
 simp only at hdv
 subst hdv
 have h0:¬ (k:Int) < 0:=by omega
 have h1:¬ (k:Int) ≥ (NS.length:Int):=by omega
 clear h hr hsk hlm hev
 go_enter Tryz.func55,Tryz.ntmps55
 go_wp2_with fail
 refine HL.out.mono ?_
 rintro e w2 ⟨rfl,F2,vN2,hR2,hS2⟩
 have HR2:=hide hR2
 have HS2:=hide hS2
 clear hR2 hS2 HL dY
 go_wp2_with fail
 refine (rtold_any yb (landM S k) F2 vS vE vN2 vV ES (goneL NS k) rs.seq 5 0 _ (HR2.out.below ((Below.refl _ _).alloc (Nat.le_refl _) _)) HEV.out).mono ?_
 rintro e w3 ⟨rfl,F3,vV3,hR3,hS3⟩
 have HR3:=hide hR3
 have HS3:Hid (Stp w w3 F F3):=(HS2.out.trans (Stp.below ((Below.refl _ _).alloc (Nat.le_refl _) _))).trans hS3
 clear hR3 hS3
 go_wp2
 go_ret
 exact ⟨rfl,F3,vN2,vV3,HR3.out,HS3.out⟩
end Go.Proofs.YtajphdppmdoalaaGreat
