import Derived.Test.YtajphdppmdoalaaGreatZABGtoBE
import Derived.Test.YtajphdppmdoalaaGreatZABFtoBF
import Derived.Test.YtajphdppmdoalaaGreatZAZ4toCA
set_option maxRecDepth 100000
set_option maxHeartbeats 6400000
set_option linter.unusedVariables false
namespace Go.Proofs.YtajphdppmdoalaaGreat
open Go.RowKit
theorem pgE_get (k:Int) (n i:Nat) (h:i < n):(pgE k n)[i * 3]?=some (.int .i64 (-k))∧(pgE k n)[i * 3 + 1]?=some (.int .u8 99)∧(pgE k n)[i * 3 + 2]?=some (.int .u8 (k % 256)):=by
 have hg:=flat_get evP 3 evP_len (List.replicate n k) i k (by rw [List.getElem?_replicate,if_pos h])
 exact ⟨hg 0 _ rfl,hg 1 _ rfl,hg 2 _ rfl⟩
theorem pgF_get (k:Int) (n i:Nat) (h:i < n):(pgF k n)[i * 3]?=some (.int .i64 (-k))∧(pgF k n)[i * 3 + 1]?=some (.int .i64 k)∧(pgF k n)[i * 3 + 2]?=some (.int .i64 k):=by
 have hg:=flat_get flP 3 flP_len (List.replicate n k) i k (by rw [List.getElem?_replicate,if_pos h])
 exact ⟨hg 0 _ rfl,hg 1 _ rfl,hg 2 _ rfl⟩
theorem own_max {w:World} {base n s:Nat} {e:TypeId} {u:Value} {ys:List Value} (h:w.ownsRow base e s u n ys):n≤9223372036854775807:=by
 rcases h.2 with ⟨_,h⟩ | ⟨g,cap,cur,_,_,_,h3,h4,_⟩
 ·omega
 ·unfold maxLen at h4
  omega
theorem kept_all (wb c:Nat) (vl vbs ves vfs vkb vke vkf:Value) (G:Nat→Prop) (BS ES FS:List Value) (KB KE KF:List Int) (w:World)
  (h:Book w wb vl c G vbs ves vfs vkb vke vkf BS ES FS KB KE KF) (hc:c≤1466015503700) :
  Calls Tryz.prog 13 #[.pointer (some ⟨wb,1,none⟩)] w fun e w'=>e=.returned (.bool true)∧Below w.heap.size w w':=by
 obtain ⟨eaB,ecB,h1⟩:=own_slice h.cb.row
 subst h1
 obtain ⟨eaE,ecE,h1⟩:=own_slice h.ce.row
 subst h1
 obtain ⟨eaF,ecF,h1⟩:=own_slice h.cf.row
 subst h1
 obtain ⟨kaB,kcB,h1⟩:=own_slice h.cb.ks
 subst h1
 obtain ⟨kaE,kcE,h1⟩:=own_slice h.ce.ks
 subst h1
 obtain ⟨kaF,kcF,h1⟩:=own_slice h.cf.ks
 subst h1
 have HH:=hide h
 have hwb:wb < w.heap.size:=lt_of_block h.blk
 have hcn:=h.cnt
 have hnb:BS.length≤5864062014800:=by omega
 have hne:ES.length≤5864062014800:=by omega
 have hnf:FS.length≤5864062014800:=by omega
 clear h hcn
 go_enter Tryz.func13,Tryz.ntmps13
 have cw:=arr_cell HH.out.blk
 go_wp2_with fail
 clear cw
 have HBo:Hid (Below w.heap.size w w):=Below.refl _ _
 go_loopw [3,4,5] (fun s k5 s5 wr=>∃ k:Nat,k≤BS.length∧k5=.int .i64 k∧s=.bool true∧Hid (Below w.heap.size w wr)) (fun _ k5 _ _=>BS.length - (intOf k5).toNat)
 case atStart=>exact ⟨0,Nat.zero_le _,rfl,rfl,HBo⟩
 case round =>
  clear HBo
  obtain ⟨k,hk,rfl,rfl,HB⟩:=hrel
  have HW:Hid (wr.heap[wb]?=_):=(HB.out.block wb hwb).trans HH.out.blk
  have cw:=arr_cell HW.out
  by_cases hlt:k < BS.length
  ·obtain ⟨u,hu⟩:∃ u,BS[k]?=some u:=⟨_,List.getElem?_eq_getElem hlt⟩
   obtain ⟨kk,hkk⟩:∃ u,KB[k]?=some u:=⟨_,List.getElem?_eq_getElem (by rw [HH.out.len.1];exact hlt)⟩
   obtain ⟨hk0,hkc,n,hpg,hpG⟩:=HH.out.cb.page k u kk hu hkk
   obtain ⟨ge,q0,hgq⟩:=own_some HH.out.cb.row (by omega)
   rw [Value.slice.injEq] at hgq
   obtain ⟨rfl,_,rfl⟩:=hgq
   obtain ⟨gke,q1,hgq1⟩:=own_some HH.out.cb.ks (by omega)
   rw [Value.slice.injEq] at hgq1
   obtain ⟨rfl,_,rfl⟩:=hgq1
   have HE1:Hid (wr.ownsRow 0 38 1 _ _ _):=own_below' HH.out.cb.row (fun g hg=>HH.out.flt _ (HH.out.cb.gr g hg)) HB.out
   have cb:wr.cell? ⟨ge,k,none⟩=some u:=(HE1.out.cellAt k (by have:=HE1.out.1;omega)).trans hu
   obtain ⟨ua,uc,hu2⟩:=own_slice hpg
   subst hu2
   have hnn:=own_max hpg
   have HPG:=hide hpg
   have HU:=hide (And.intro hu hkk)
   clear hpg hu hkk
   go_wp2_with fail
   clear cw cb HW HE1
   have HBi:=HB
   clear HB
   go_loopw [3,5] (fun s5 i5 wi=>∃ i:Nat,i≤n∧i5=.int .i64 i∧s5=.bool true∧Hid (Below w.heap.size w wi)) (fun _ i5 _=>n - (intOf i5).toNat)
   case atStart=>exact ⟨0,Nat.zero_le _,rfl,rfl,HBi⟩
   case round =>
    clear HBi
    obtain ⟨i,hi',rfl,rfl,HB⟩:=hrel
    have HW:Hid (wr.heap[wb]?=_):=(HB.out.block wb hwb).trans HH.out.blk
    have cw:=arr_cell HW.out
    have HE1:Hid (wr.ownsRow 0 38 1 _ _ _):=own_below' HH.out.cb.row (fun g hg=>HH.out.flt _ (HH.out.cb.gr g hg)) HB.out
    have cb:wr.cell? ⟨ge,k,none⟩=some _:=(HE1.out.cellAt k (by have:=HE1.out.1;omega)).trans HU.out.1
    by_cases hil:i < n
    ·obtain ⟨gu,q2,hgq⟩:=own_some HPG.out (by omega)
     rw [Value.slice.injEq] at hgq
     obtain ⟨rfl,_,rfl⟩:=hgq
     have HSS:Hid (∀ w',Below w.heap.size w w'→w'.cell? ⟨wb,1,none⟩=some (.slice (some ⟨ge,0,none⟩) BS.length ecB)∧w'.cell? ⟨wb,4,none⟩=some (.slice (some ⟨gke,0,none⟩) BS.length kcB)∧w'.cell? ⟨ge,k,none⟩=some (.slice (some ⟨gu,0,none⟩) n uc)∧w'.cell? ⟨gke,k,none⟩=some (.int .i64 kk)∧w'.cell? ⟨gu,i,none⟩=some (.int .u8 (sgn kk i))):=by
      intro w' hb
      have r1:=own_below' HH.out.cb.row (fun g hg=>HH.out.flt _ (HH.out.cb.gr g hg)) hb
      have r2:=own_below' HH.out.cb.ks (fun g hg=>HH.out.flt _ (HH.out.cb.gk g hg)) hb
      have r3:=own_below' HPG.out (fun g hg=>HH.out.flt _ (hpG g hg)) hb
      have c1:=arr_cell ((hb.block wb hwb).trans HH.out.blk)
      have l3:=r3.1
      exact ⟨c1 1,c1 4,(r1.cellAt k (by have:=r1.1;omega)).trans HU.out.1,(r2.cellAt k (by have:=r2.1;omega)).trans (by rw [List.getElem?_map,HU.out.2];rfl),(r3.cellAt i (by omega)).trans (by rw [pgB,List.getElem?_map,sg_get kk n i hil];rfl)⟩
     have hs0:=HSS.out wr HB.out
     obtain ⟨s2,s5,sg,sk,s0⟩:=hs0
     have i3:(i:Int) < (n:Int):=by omega
     have i4:(k:Int) < (BS.length:Int):=by omega
     go_upto_region 8 with (fail)
     go_region_held3 (fun w'=>w'.cell? ⟨wb,1,none⟩=some (.slice (some ⟨ge,0,none⟩) BS.length ecB)∧w'.cell? ⟨wb,4,none⟩=some (.slice (some ⟨gke,0,none⟩) BS.length kcB)∧w'.cell? ⟨ge,k,none⟩=some (.slice (some ⟨gu,0,none⟩) n uc)∧w'.cell? ⟨gke,k,none⟩=some (.int .i64 kk)∧w'.cell? ⟨gu,i,none⟩=some (.int .u8 (sgn kk i))) (first | go_keep | assumption) (first | (go_at_call 23;refine (sign_any kk i _ (by omega) (by omega) (by omega)).mono ?_;rintro e w3 ⟨rfl,rfl⟩;have HB3:=hide HB.out.drew;have hS3:=HSS.out _ HB3.out))
     clear hS3 s2 s5 sg sk s0 cw cb HE1 HW
     go_wp2
     go_roundw
     case rel=>exact ⟨i + 1,by omega,by go_num,rfl,HB3⟩
     case measure=>simp [intOf];omega
    ·obtain rfl:i=n:=by omega
     go_wp2
     go_roundw
     case rel=>exact ⟨k + 1,by omega,by go_num,rfl,HB⟩
     case measure=>simp [intOf];omega
  ·obtain rfl:k=BS.length:=by omega
   go_wp2_with fail
   clear cw HW
   have HBo:=HB
   clear HB
   go_loopw [3,6,7] (fun s k5 s5 wr=>∃ k:Nat,k≤ES.length∧k5=.int .i64 k∧s=.bool true∧Hid (Below w.heap.size w wr)) (fun _ k5 _ _=>ES.length - (intOf k5).toNat)
   case atStart=>exact ⟨0,Nat.zero_le _,rfl,rfl,HBo⟩
   case round =>
    clear HBo
    obtain ⟨k,hk,rfl,rfl,HB⟩:=hrel
    have HW:Hid (wr.heap[wb]?=_):=(HB.out.block wb hwb).trans HH.out.blk
    have cw:=arr_cell HW.out
    by_cases hlt:k < ES.length
    ·obtain ⟨u,hu⟩:∃ u,ES[k]?=some u:=⟨_,List.getElem?_eq_getElem hlt⟩
     obtain ⟨kk,hkk⟩:∃ u,KE[k]?=some u:=⟨_,List.getElem?_eq_getElem (by rw [HH.out.len.2.1];exact hlt)⟩
     obtain ⟨hk0,hkc,n,hpg,hpG⟩:=HH.out.ce.page k u kk hu hkk
     obtain ⟨ge,q0,hgq⟩:=own_some HH.out.ce.row (by omega)
     rw [Value.slice.injEq] at hgq
     obtain ⟨rfl,_,rfl⟩:=hgq
     obtain ⟨gke,q1,hgq1⟩:=own_some HH.out.ce.ks (by omega)
     rw [Value.slice.injEq] at hgq1
     obtain ⟨rfl,_,rfl⟩:=hgq1
     have HE1:Hid (wr.ownsRow 0 57 1 _ _ _):=own_below' HH.out.ce.row (fun g hg=>HH.out.flt _ (HH.out.ce.gr g hg)) HB.out
     have cb:wr.cell? ⟨ge,k,none⟩=some u:=(HE1.out.cellAt k (by have:=HE1.out.1;omega)).trans hu
     obtain ⟨ua,uc,hu2⟩:=own_slice hpg
     subst hu2
     have hnn:=own_max hpg
     have HPG:=hide hpg
     have HU:=hide (And.intro hu hkk)
     clear hpg hu hkk
     go_wp2_with fail
     clear cw cb HW HE1
     have HBi:=HB
     clear HB
     go_loopw [3,7] (fun s5 i5 wi=>∃ i:Nat,i≤n∧i5=.int .i64 i∧s5=.bool true∧Hid (Below w.heap.size w wi)) (fun _ i5 _=>n - (intOf i5).toNat)
     case atStart=>exact ⟨0,Nat.zero_le _,rfl,rfl,HBi⟩
     case round =>
      clear HBi
      obtain ⟨i,hi',rfl,rfl,HB⟩:=hrel
      have HW:Hid (wr.heap[wb]?=_):=(HB.out.block wb hwb).trans HH.out.blk
      have cw:=arr_cell HW.out
      have HE1:Hid (wr.ownsRow 0 57 1 _ _ _):=own_below' HH.out.ce.row (fun g hg=>HH.out.flt _ (HH.out.ce.gr g hg)) HB.out
      have cb:wr.cell? ⟨ge,k,none⟩=some _:=(HE1.out.cellAt k (by have:=HE1.out.1;omega)).trans HU.out.1
      by_cases hil:i < n
      ·obtain ⟨gu,q2,hgq⟩:=own_some HPG.out (by omega)
       rw [Value.slice.injEq] at hgq
       obtain ⟨rfl,_,rfl⟩:=hgq
       have HSS:Hid (∀ w',Below w.heap.size w w'→w'.cell? ⟨wb,2,none⟩=some (.slice (some ⟨ge,0,none⟩) ES.length ecE)∧w'.cell? ⟨wb,5,none⟩=some (.slice (some ⟨gke,0,none⟩) ES.length kcE)∧w'.cell? ⟨ge,k,none⟩=some (.slice (some ⟨gu,0,none⟩) n uc)∧w'.cell? ⟨gke,k,none⟩=some (.int .i64 kk)∧w'.cell? ⟨gu,i * 3,none⟩=some (.int .i64 (-kk))∧w'.cell? ⟨gu,i * 3 + 1,none⟩=some (.int .u8 99)∧w'.cell? ⟨gu,i * 3 + 2,none⟩=some (.int .u8 (kk % 256))):=by
        intro w' hb
        have r1:=own_below' HH.out.ce.row (fun g hg=>HH.out.flt _ (HH.out.ce.gr g hg)) hb
        have r2:=own_below' HH.out.ce.ks (fun g hg=>HH.out.flt _ (HH.out.ce.gk g hg)) hb
        have r3:=own_below' HPG.out (fun g hg=>HH.out.flt _ (hpG g hg)) hb
        have c1:=arr_cell ((hb.block wb hwb).trans HH.out.blk)
        have pl:=pgE_get kk n i hil
        have l3:=r3.1
        exact ⟨c1 2,c1 5,(r1.cellAt k (by have:=r1.1;omega)).trans HU.out.1,(r2.cellAt k (by have:=r2.1;omega)).trans (by rw [List.getElem?_map,HU.out.2];rfl),(r3.cellAt (i * 3) (by omega)).trans pl.1,(r3.cellAt (i * 3 + 1) (by omega)).trans pl.2.1,(r3.cellAt (i * 3 + 2) (by omega)).trans pl.2.2⟩
       have hs0:=HSS.out wr HB.out
       obtain ⟨s2,s5,sg,sk,s0,s1,s3⟩:=hs0
       have i3:(i:Int) < (n:Int):=by omega
       have i4:(k:Int) < (ES.length:Int):=by omega
       go_upto_region 15 with (fail)
       go_region_held3 (fun w'=>w'.cell? ⟨wb,2,none⟩=some (.slice (some ⟨ge,0,none⟩) ES.length ecE)∧w'.cell? ⟨wb,5,none⟩=some (.slice (some ⟨gke,0,none⟩) ES.length kcE)∧w'.cell? ⟨ge,k,none⟩=some (.slice (some ⟨gu,0,none⟩) n uc)∧w'.cell? ⟨gke,k,none⟩=some (.int .i64 kk)∧w'.cell? ⟨gu,i * 3,none⟩=some (.int .i64 (-kk))∧w'.cell? ⟨gu,i * 3 + 1,none⟩=some (.int .u8 99)∧w'.cell? ⟨gu,i * 3 + 2,none⟩=some (.int .u8 (kk % 256))) (first | go_keep | assumption) (first | (go_at_call 24;refine (event_any kk _ (by omega) (by omega)).mono ?_;rintro e w3 ⟨rfl,hb3⟩;have HB3:=hide (HB.out.drew.trans (hb3.mono HB.out.size));have hS3:=HSS.out w3 HB3.out))
       clear hS3 s2 s5 sg sk s0 s1 s3 cw cb HE1 HW
       go_wp2
       go_roundw
       case rel=>exact ⟨i + 1,by omega,by go_num,rfl,HB3⟩
       case measure=>simp [intOf];omega
      ·obtain rfl:i=n:=by omega
       go_wp2
       go_roundw
       case rel=>exact ⟨k + 1,by omega,by go_num,rfl,HB⟩
       case measure=>simp [intOf];omega
    ·obtain rfl:k=ES.length:=by omega
     go_wp2_with fail
     clear cw HW
     have HBo:=HB
     clear HB
     go_loopw [3,8,9] (fun s k5 s5 wr=>∃ k:Nat,k≤FS.length∧k5=.int .i64 k∧s=.bool true∧Hid (Below w.heap.size w wr)) (fun _ k5 _ _=>FS.length - (intOf k5).toNat)
     case atStart=>exact ⟨0,Nat.zero_le _,rfl,rfl,HBo⟩
     case round =>
      clear HBo
      obtain ⟨k,hk,rfl,rfl,HB⟩:=hrel
      have HW:Hid (wr.heap[wb]?=_):=(HB.out.block wb hwb).trans HH.out.blk
      have cw:=arr_cell HW.out
      by_cases hlt:k < FS.length
      ·obtain ⟨u,hu⟩:∃ u,FS[k]?=some u:=⟨_,List.getElem?_eq_getElem hlt⟩
       obtain ⟨kk,hkk⟩:∃ u,KF[k]?=some u:=⟨_,List.getElem?_eq_getElem (by rw [HH.out.len.2.2];exact hlt)⟩
       obtain ⟨hk0,hkc,n,hpg,hpG⟩:=HH.out.cf.page k u kk hu hkk
       obtain ⟨ge,q0,hgq⟩:=own_some HH.out.cf.row (by omega)
       rw [Value.slice.injEq] at hgq
       obtain ⟨rfl,_,rfl⟩:=hgq
       obtain ⟨gke,q1,hgq1⟩:=own_some HH.out.cf.ks (by omega)
       rw [Value.slice.injEq] at hgq1
       obtain ⟨rfl,_,rfl⟩:=hgq1
       have HE1:Hid (wr.ownsRow 0 62 1 _ _ _):=own_below' HH.out.cf.row (fun g hg=>HH.out.flt _ (HH.out.cf.gr g hg)) HB.out
       have cb:wr.cell? ⟨ge,k,none⟩=some u:=(HE1.out.cellAt k (by have:=HE1.out.1;omega)).trans hu
       obtain ⟨ua,uc,hu2⟩:=own_slice hpg
       subst hu2
       have hnn:=own_max hpg
       have HPG:=hide hpg
       have HU:=hide (And.intro hu hkk)
       clear hpg hu hkk
       go_wp2_with fail
       clear cw cb HW HE1
       have HBi:=HB
       clear HB
       go_loopw [3,9] (fun s5 i5 wi=>∃ i:Nat,i≤n∧i5=.int .i64 i∧s5=.bool true∧Hid (Below w.heap.size w wi)) (fun _ i5 _=>n - (intOf i5).toNat)
       case atStart=>exact ⟨0,Nat.zero_le _,rfl,rfl,HBi⟩
       case round =>
        clear HBi
        obtain ⟨i,hi',rfl,rfl,HB⟩:=hrel
        have HW:Hid (wr.heap[wb]?=_):=(HB.out.block wb hwb).trans HH.out.blk
        have cw:=arr_cell HW.out
        have HE1:Hid (wr.ownsRow 0 62 1 _ _ _):=own_below' HH.out.cf.row (fun g hg=>HH.out.flt _ (HH.out.cf.gr g hg)) HB.out
        have cb:wr.cell? ⟨ge,k,none⟩=some _:=(HE1.out.cellAt k (by have:=HE1.out.1;omega)).trans HU.out.1
        by_cases hil:i < n
        ·obtain ⟨gu,q2,hgq⟩:=own_some HPG.out (by omega)
         rw [Value.slice.injEq] at hgq
         obtain ⟨rfl,_,rfl⟩:=hgq
         have HSS:Hid (∀ w',Below w.heap.size w w'→w'.cell? ⟨wb,3,none⟩=some (.slice (some ⟨ge,0,none⟩) FS.length ecF)∧w'.cell? ⟨wb,6,none⟩=some (.slice (some ⟨gke,0,none⟩) FS.length kcF)∧w'.cell? ⟨ge,k,none⟩=some (.slice (some ⟨gu,0,none⟩) n uc)∧w'.cell? ⟨gke,k,none⟩=some (.int .i64 kk)∧w'.cell? ⟨gu,i * 3,none⟩=some (.int .i64 (-kk))∧w'.cell? ⟨gu,i * 3 + 1,none⟩=some (.int .i64 kk)∧w'.cell? ⟨gu,i * 3 + 2,none⟩=some (.int .i64 kk)):=by
          intro w' hb
          have r1:=own_below' HH.out.cf.row (fun g hg=>HH.out.flt _ (HH.out.cf.gr g hg)) hb
          have r2:=own_below' HH.out.cf.ks (fun g hg=>HH.out.flt _ (HH.out.cf.gk g hg)) hb
          have r3:=own_below' HPG.out (fun g hg=>HH.out.flt _ (hpG g hg)) hb
          have c1:=arr_cell ((hb.block wb hwb).trans HH.out.blk)
          have pl:=pgF_get kk n i hil
          have l3:=r3.1
          exact ⟨c1 3,c1 6,(r1.cellAt k (by have:=r1.1;omega)).trans HU.out.1,(r2.cellAt k (by have:=r2.1;omega)).trans (by rw [List.getElem?_map,HU.out.2];rfl),(r3.cellAt (i * 3) (by omega)).trans pl.1,(r3.cellAt (i * 3 + 1) (by omega)).trans pl.2.1,(r3.cellAt (i * 3 + 2) (by omega)).trans pl.2.2⟩
         have hs0:=HSS.out wr HB.out
         obtain ⟨s2,s5,sg,sk,s0,s1,s3⟩:=hs0
         have i3:(i:Int) < (n:Int):=by omega
         have i4:(k:Int) < (FS.length:Int):=by omega
         go_upto_region 22 with (fail)
         go_region_held3 (fun w'=>w'.cell? ⟨wb,3,none⟩=some (.slice (some ⟨ge,0,none⟩) FS.length ecF)∧w'.cell? ⟨wb,6,none⟩=some (.slice (some ⟨gke,0,none⟩) FS.length kcF)∧w'.cell? ⟨ge,k,none⟩=some (.slice (some ⟨gu,0,none⟩) n uc)∧w'.cell? ⟨gke,k,none⟩=some (.int .i64 kk)∧w'.cell? ⟨gu,i * 3,none⟩=some (.int .i64 (-kk))∧w'.cell? ⟨gu,i * 3 + 1,none⟩=some (.int .i64 kk)∧w'.cell? ⟨gu,i * 3 + 2,none⟩=some (.int .i64 kk)) (first | go_keep | assumption) (first | (go_at_call 25;refine (flight_any kk _ (by omega) (by omega)).mono ?_;rintro e w3 ⟨rfl,hb3⟩;have HB3:=hide (HB.out.drew.trans (hb3.mono HB.out.size));have hS3:=HSS.out w3 HB3.out))
         clear hS3 s2 s5 sg sk s0 s1 s3 cw cb HE1 HW
         go_wp2
         go_roundw
         case rel=>exact ⟨i + 1,by omega,by go_num,rfl,HB3⟩
         case measure=>simp [intOf];omega
        ·obtain rfl:i=n:=by omega
         go_wp2
         go_roundw
         case rel=>exact ⟨k + 1,by omega,by go_num,rfl,HB⟩
         case measure=>simp [intOf];omega
      ·obtain rfl:k=FS.length:=by omega
       go_wp2
       go_ret
       exact ⟨rfl,HB.out⟩
theorem lists_take (wb m:Nat) (xb yb:Nat) (ee aa bb src dst proto id off:Int) (more:Bool) (sport dport:Int) (dso:Option Addr) (dsn dsc:Nat) (ao:Option Addr) (n cap:Nat) (w:World) (L:List Ev) (Q0:World→Prop) (Q1 Q2:Option Addr→Nat→World→Prop) (Q3:World→Prop)
  (HX:Hid (∀ wz,Q0 wz→Calls Tryz.prog 42 #[.pointer (some ⟨xb,0,none⟩)] wz fun e w'=>∃ la lc,e=.returned (.slice la m lc)∧Q1 la lc w'))
  (HY:Hid (∀ la lc wz,Q1 la lc wz→Calls Tryz.prog 43 #[.pointer (some ⟨yb,0,none⟩)] wz fun e w'=>∃ ma mc,e=.returned (.slice ma m mc)∧Q2 la lc w'∧w'.ownsRow 0 60 3 (.slice la m lc) m (L.flatMap Ev.cells)∧w'.ownsRow 0 60 3 (.slice ma m mc) m (L.flatMap Ev.cells)))
  (HD:Hid (∀ la lc wz j,Q2 la lc wz→Q2 la lc (wz.drewN j)))
  (HE:Hid (∀ la lc wz,Q2 la lc wz→Calls Tryz.prog 44 #[.pointer (some ⟨wb,1,none⟩),.slice la m lc] wz fun e w'=>e=.returned (.tuple #[])∧Q3 w'))
  (HB0:Hid (∀ wz,Q0 wz→Bx w #[.pointer (some ⟨xb,0,none⟩),.pointer (some ⟨yb,0,none⟩)] #[.int .i64 9,.int .i64 ee,.int .i64 aa,.int .i64 bb,.int .u16 src,.int .u16 dst,.int .u8 proto,.int .u16 id,.int .u8 off,.bool more,.int .u16 sport,.int .u16 dport,.slice dso dsn dsc,.slice ao n cap] wz)) (HB1:Hid (∀ la lc wz,Q1 la lc wz→Bx w #[.pointer (some ⟨xb,0,none⟩),.pointer (some ⟨yb,0,none⟩)] #[.int .i64 9,.int .i64 ee,.int .i64 aa,.int .i64 bb,.int .u16 src,.int .u16 dst,.int .u8 proto,.int .u16 id,.int .u8 off,.bool more,.int .u16 sport,.int .u16 dport,.slice dso dsn dsc,.slice ao n cap] wz))
  (H0:Hid (Q0 ((w.alloc (.cells #[.pointer (some ⟨xb,0,none⟩),.pointer (some ⟨yb,0,none⟩)] 52)).alloc (.cells #[.int .i64 9,.int .i64 ee,.int .i64 aa,.int .i64 bb,.int .u16 src,.int .u16 dst,.int .u8 proto,.int .u16 id,.int .u8 off,.bool more,.int .u16 sport,.int .u16 dport,.slice dso dsn dsc,.slice ao n cap] 42)))) (hm:m≤2000000000000) :
  Calls Tryz.prog 21 #[.pointer (some ⟨wb,0,none⟩),.agg #[.pointer (some ⟨xb,0,none⟩),.pointer (some ⟨yb,0,none⟩)],.agg #[.int .i64 9,.int .i64 ee,.int .i64 aa,.int .i64 bb,.int .u16 src,.int .u16 dst,.int .u8 proto,.int .u16 id,.int .u8 off,.bool more,.int .u16 sport,.int .u16 dport,.slice dso dsn dsc,.slice ao n cap]] w fun e w'=>e=.returned (.bool true)∧Q3 w':=by
 go_enter Tryz.func21,Tryz.ntmps21
 go_wp2_with fail
 generalize ((w.alloc (.cells #[.pointer (some ⟨xb,0,none⟩),.pointer (some ⟨yb,0,none⟩)] 52)).alloc (.cells #[.int .i64 9,.int .i64 ee,.int .i64 aa,.int .i64 bb,.int .u16 src,.int .u16 dst,.int .u8 proto,.int .u16 id,.int .u8 off,.bool more,.int .u16 sport,.int .u16 dport,.slice dso dsn dsc,.slice ao n cap] 42))=w2 at *
 obtain ⟨c1,h2,c2⟩:=HB0.out w2 H0.out
 have hh:w.heap.size < w2.heap.size:=by omega
 go_wp2_with fail
 refine (HX.out w2 H0.out).mono ?_
 rintro e w3 ⟨la,lc,rfl,q1⟩
 clear c1 c2 h2 hh
 obtain ⟨c1,h2,c2⟩:=HB1.out la lc w3 q1
 go_wp2_with fail
 refine (HY.out la lc w3 q1).mono ?_
 rintro e w4 ⟨ma,mc,rfl,q2,r1,r2⟩
 have HQ:=hide q2
 have HR:=hide (And.intro r1 r2)
 clear c1 c2 h2 q1 q2 r1 r2
 have hlm:L.length=m:=by
  have h1:=HR.out.1.1
  rw [flat_length Ev.cells 3 (fun _=>rfl)] at h1
  omega
 go_wp2_with fail
 go_loopw [9,10] (fun s i5 wr=>∃ i:Nat,i≤m∧i5=.int .i64 i∧s=.bool true∧∃ j,wr=w4.drewN j) (fun _ i5 _=>m - (intOf i5).toNat)
 case atStart=>exact ⟨0,Nat.zero_le _,rfl,by simp,0,rfl⟩
 case round =>
  obtain ⟨i,hi,rfl,rfl,j,rfl⟩:=hrel
  by_cases hlt:i < m
  ·obtain ⟨v,hv⟩:∃ v,L[i]?=some v:=⟨_,List.getElem?_eq_getElem (by omega)⟩
   obtain ⟨gl,q0,hgq⟩:=own_some HR.out.1 (by omega)
   rw [Value.slice.injEq] at hgq
   obtain ⟨rfl,_,rfl⟩:=hgq
   obtain ⟨gm,q1,hgq1⟩:=own_some HR.out.2 (by omega)
   rw [Value.slice.injEq] at hgq1
   obtain ⟨rfl,_,rfl⟩:=hgq1
   have a0:w4.cell? ⟨gl,i * 3,none⟩=_:=row_get Ev.cells (fun _=>rfl) HR.out.1 i v hv 0 _ rfl
   have a1:w4.cell? ⟨gl,i * 3 + 1,none⟩=_:=row_get Ev.cells (fun _=>rfl) HR.out.1 i v hv 1 _ rfl
   have a2:w4.cell? ⟨gl,i * 3 + 2,none⟩=_:=row_get Ev.cells (fun _=>rfl) HR.out.1 i v hv 2 _ rfl
   have b0:w4.cell? ⟨gm,i * 3,none⟩=_:=row_get Ev.cells (fun _=>rfl) HR.out.2 i v hv 0 _ rfl
   have b1:w4.cell? ⟨gm,i * 3 + 1,none⟩=_:=row_get Ev.cells (fun _=>rfl) HR.out.2 i v hv 1 _ rfl
   have b2:w4.cell? ⟨gm,i * 3 + 2,none⟩=_:=row_get Ev.cells (fun _=>rfl) HR.out.2 i v hv 2 _ rfl
   have i3:(i:Int) < (m:Int):=by omega
   clear hv
   go_wp2_with fail
   go_quiet (fail)
   go_wp2
   go_roundw
   case rel=>exact ⟨i + 1,by omega,by go_num,by simp,_,rfl⟩
   case measure=>simp [intOf];omega
  ·obtain rfl:i=m:=by omega
   go_wp2_with fail
   refine (HE.out la lc _ (HD.out la lc _ j HQ.out)).mono ?_
   rintro e w5 ⟨rfl,q3⟩
   go_wp2
   go_ret
   exact ⟨rfl,q3⟩
theorem lists_flying (wb m:Nat) (xb yb:Nat) (ee aa bb src dst proto id off:Int) (more:Bool) (sport dport:Int) (dso:Option Addr) (dsn dsc:Nat) (ao:Option Addr) (n cap:Nat) (w:World) (L:List Snt) (Q0:World→Prop) (Q1 Q2:Option Addr→Nat→World→Prop) (Q3:World→Prop)
  (HX:Hid (∀ wz,Q0 wz→Calls Tryz.prog 45 #[.pointer (some ⟨xb,0,none⟩)] wz fun e w'=>∃ la lc,e=.returned (.slice la m lc)∧Q1 la lc w'))
  (HY:Hid (∀ la lc wz,Q1 la lc wz→Calls Tryz.prog 46 #[.pointer (some ⟨yb,0,none⟩)] wz fun e w'=>∃ ma mc,e=.returned (.slice ma m mc)∧Q2 la lc w'∧w'.ownsRow 0 64 3 (.slice la m lc) m (L.flatMap Snt.fly)∧w'.ownsRow 0 64 3 (.slice ma m mc) m (L.flatMap Snt.fly)))
  (HD:Hid (∀ la lc wz j,Q2 la lc wz→Q2 la lc (wz.drewN j)))
  (HE:Hid (∀ la lc wz,Q2 la lc wz→Calls Tryz.prog 47 #[.pointer (some ⟨wb,1,none⟩),.slice la m lc] wz fun e w'=>e=.returned (.tuple #[])∧Q3 w'))
  (HB0:Hid (∀ wz,Q0 wz→Bx w #[.pointer (some ⟨xb,0,none⟩),.pointer (some ⟨yb,0,none⟩)] #[.int .i64 10,.int .i64 ee,.int .i64 aa,.int .i64 bb,.int .u16 src,.int .u16 dst,.int .u8 proto,.int .u16 id,.int .u8 off,.bool more,.int .u16 sport,.int .u16 dport,.slice dso dsn dsc,.slice ao n cap] wz)) (HB1:Hid (∀ la lc wz,Q1 la lc wz→Bx w #[.pointer (some ⟨xb,0,none⟩),.pointer (some ⟨yb,0,none⟩)] #[.int .i64 10,.int .i64 ee,.int .i64 aa,.int .i64 bb,.int .u16 src,.int .u16 dst,.int .u8 proto,.int .u16 id,.int .u8 off,.bool more,.int .u16 sport,.int .u16 dport,.slice dso dsn dsc,.slice ao n cap] wz))
  (H0:Hid (Q0 ((w.alloc (.cells #[.pointer (some ⟨xb,0,none⟩),.pointer (some ⟨yb,0,none⟩)] 52)).alloc (.cells #[.int .i64 10,.int .i64 ee,.int .i64 aa,.int .i64 bb,.int .u16 src,.int .u16 dst,.int .u8 proto,.int .u16 id,.int .u8 off,.bool more,.int .u16 sport,.int .u16 dport,.slice dso dsn dsc,.slice ao n cap] 42)))) (hm:m≤2000000000000) :
  Calls Tryz.prog 21 #[.pointer (some ⟨wb,0,none⟩),.agg #[.pointer (some ⟨xb,0,none⟩),.pointer (some ⟨yb,0,none⟩)],.agg #[.int .i64 10,.int .i64 ee,.int .i64 aa,.int .i64 bb,.int .u16 src,.int .u16 dst,.int .u8 proto,.int .u16 id,.int .u8 off,.bool more,.int .u16 sport,.int .u16 dport,.slice dso dsn dsc,.slice ao n cap]] w fun e w'=>e=.returned (.bool true)∧Q3 w':=by
 go_enter Tryz.func21,Tryz.ntmps21
 go_wp2_with fail
 generalize ((w.alloc (.cells #[.pointer (some ⟨xb,0,none⟩),.pointer (some ⟨yb,0,none⟩)] 52)).alloc (.cells #[.int .i64 10,.int .i64 ee,.int .i64 aa,.int .i64 bb,.int .u16 src,.int .u16 dst,.int .u8 proto,.int .u16 id,.int .u8 off,.bool more,.int .u16 sport,.int .u16 dport,.slice dso dsn dsc,.slice ao n cap] 42))=w2 at *
 obtain ⟨c1,h2,c2⟩:=HB0.out w2 H0.out
 have hh:w.heap.size < w2.heap.size:=by omega
 go_wp2_with fail
 refine (HX.out w2 H0.out).mono ?_
 rintro e w3 ⟨la,lc,rfl,q1⟩
 clear c1 c2 h2 hh
 obtain ⟨c1,h2,c2⟩:=HB1.out la lc w3 q1
 go_wp2_with fail
 refine (HY.out la lc w3 q1).mono ?_
 rintro e w4 ⟨ma,mc,rfl,q2,r1,r2⟩
 have HQ:=hide q2
 have HR:=hide (And.intro r1 r2)
 clear c1 c2 h2 q1 q2 r1 r2
 have hlm:L.length=m:=by
  have h1:=HR.out.1.1
  rw [flat_length Snt.fly 3 (fun _=>rfl)] at h1
  omega
 go_wp2_with fail
 go_loopw [13,14] (fun s i5 wr=>∃ i:Nat,i≤m∧i5=.int .i64 i∧s=.bool true∧∃ j,wr=w4.drewN j) (fun _ i5 _=>m - (intOf i5).toNat)
 case atStart=>exact ⟨0,Nat.zero_le _,rfl,by simp,0,rfl⟩
 case round =>
  obtain ⟨i,hi,rfl,rfl,j,rfl⟩:=hrel
  by_cases hlt:i < m
  ·obtain ⟨v,hv⟩:∃ v,L[i]?=some v:=⟨_,List.getElem?_eq_getElem (by omega)⟩
   obtain ⟨gl,q0,hgq⟩:=own_some HR.out.1 (by omega)
   rw [Value.slice.injEq] at hgq
   obtain ⟨rfl,_,rfl⟩:=hgq
   obtain ⟨gm,q1,hgq1⟩:=own_some HR.out.2 (by omega)
   rw [Value.slice.injEq] at hgq1
   obtain ⟨rfl,_,rfl⟩:=hgq1
   have a0:w4.cell? ⟨gl,i * 3,none⟩=_:=row_get Snt.fly (fun _=>rfl) HR.out.1 i v hv 0 _ rfl
   have a1:w4.cell? ⟨gl,i * 3 + 1,none⟩=_:=row_get Snt.fly (fun _=>rfl) HR.out.1 i v hv 1 _ rfl
   have a2:w4.cell? ⟨gl,i * 3 + 2,none⟩=_:=row_get Snt.fly (fun _=>rfl) HR.out.1 i v hv 2 _ rfl
   have b0:w4.cell? ⟨gm,i * 3,none⟩=_:=row_get Snt.fly (fun _=>rfl) HR.out.2 i v hv 0 _ rfl
   have b1:w4.cell? ⟨gm,i * 3 + 1,none⟩=_:=row_get Snt.fly (fun _=>rfl) HR.out.2 i v hv 1 _ rfl
   have b2:w4.cell? ⟨gm,i * 3 + 2,none⟩=_:=row_get Snt.fly (fun _=>rfl) HR.out.2 i v hv 2 _ rfl
   have i3:(i:Int) < (m:Int):=by omega
   clear hv
   go_wp2_with fail
   go_quiet (fail)
   go_wp2
   go_roundw
   case rel=>exact ⟨i + 1,by omega,by go_num,by simp,_,rfl⟩
   case measure=>simp [intOf];omega
  ·obtain rfl:i=m:=by omega
   go_wp2_with fail
   refine (HE.out la lc _ (HD.out la lc _ j HQ.out)).mono ?_
   rintro e w5 ⟨rfl,q3⟩
   go_wp2
   go_ret
   exact ⟨rfl,q3⟩
end Go.Proofs.YtajphdppmdoalaaGreat
