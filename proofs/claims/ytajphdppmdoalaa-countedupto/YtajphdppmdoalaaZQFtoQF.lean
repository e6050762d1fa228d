import Derived.Test.YtajphdppmdoalaaZPCtoQE
namespace Go.Proofs.Ytajphdppmdoalaa
open Go.RowKit
set_option linter.unusedVariables false

def sumN (f : Nat → Nat) : Nat → Nat
  | 0 => 0
  | k + 1 => sumN f k + f k
theorem sumN_le (f : Nat → Nat) (k n : Nat) (h : k ≤ n) : sumN f k ≤ sumN f n := by
  induction n with
  | zero => obtain rfl : k = 0 := by omega
            exact Nat.le_refl _
  | succ n ih =>
    by_cases hk : k = n + 1
    · subst hk; exact Nat.le_refl _
    · have := ih (by omega); simp only [sumN]; omega

/-- Events, as they lie behind an address, in a block that is not tb. -/
def EvC (w : World) (tb : Nat) (ad : Option Addr) (vs : List Ev) : Prop := ∀ (q : Nat) (v : Ev), vs[q]? = some v → ∃ g, ad = some ⟨g, 0, none⟩ ∧ g ≠ tb ∧ g < w.heap.size ∧ w.cell? ⟨g, q * 3, none⟩ = some (.int .i64 v.seq) ∧ w.cell? ⟨g, q * 3 + 1, none⟩ = some (.int .u8 v.fate) ∧ w.cell? ⟨g, q * 3 + 2, none⟩ = some (.int .u8 v.whr)
theorem ev_row {w : World} {base tb cp : Nat} {ad : Option Addr} {vs : List Ev} (h : w.ownsRow base 56 3 (.slice ad vs.length cp) vs.length (vs.flatMap Ev.cells)) (hv : (Value.slice ad vs.length cp).ownBlock ≠ some tb) : EvC w tb ad vs := by
  intro q v hq
  rcases own_shaped h with ⟨_, h0⟩ | ⟨g, cv, he⟩
  · have := (List.getElem?_eq_some_iff.1 hq).1
    omega
  · simp only [Value.slice.injEq] at he
    obtain ⟨rfl, _, rfl⟩ := he
    exact ⟨g, rfl, fun e => hv (by rw [← e]; rfl), (h.lt g rfl).2, row_get Ev.cells Ev.len h q v hq 0 _ rfl, row_get Ev.cells Ev.len h q v hq 1 _ rfl, row_get Ev.cells Ev.len h q v hq 2 _ rfl⟩
theorem EvC.set {w : World} {tb : Nat} {ad : Option Addr} {vs : List Ev} (h : EvC w tb ad vs) (j : Nat) (u : Value) : EvC (w.setCell ⟨tb, j, none⟩ u) tb ad vs := by
  intro q v hq
  obtain ⟨g, h1, h2, h3, h4, h5, h6⟩ := h q v hq
  have ho : Only (fun k => k = tb) w (w.setCell ⟨tb, j, none⟩ u) := (Only.refl (fun k => k = tb) w).setCell (fun _ => rfl) u
  exact ⟨g, h1, h2, Nat.lt_of_lt_of_le h3 ho.size, (ho.cell (p := ⟨g, q * 3, none⟩) h3 h2).trans h4, (ho.cell (p := ⟨g, q * 3 + 1, none⟩) h3 h2).trans h5, (ho.cell (p := ⟨g, q * 3 + 2, none⟩) h3 h2).trans h6⟩
theorem take_snoc_seq (vs : List Ev) (q : Nat) (v : Ev) (h : vs[q]? = some v) (told : List Nat) : told ++ (vs.take (q + 1)).map Ev.seq = told ++ (vs.take q).map Ev.seq ++ [v.seq] := by
  have hq := (List.getElem?_eq_some_iff.1 h)
  rw [List.take_add_one, h]
  simp
theorem fresh_seq (vs : List Ev) (q : Nat) (v : Ev) (h : vs[q]? = some v) (told : List Nat) (hnd : (told ++ vs.map Ev.seq).Nodup) : v.seq ∉ told ++ (vs.take q).map Ev.seq := by
  intro hm
  have hs := split_at vs q v h
  rw [hs, List.map_append, ← List.append_assoc, List.map_cons] at hnd
  rw [List.nodup_append] at hnd
  exact hnd.2.2 _ hm _ (List.mem_cons_self ..) rfl
theorem slice_of {w : World} {base : Nat} {v : Value} {vs : List Ev} (h : w.ownsRow base 56 3 v vs.length (vs.flatMap Ev.cells)) : ∃ ad cp, v = .slice ad vs.length cp := by
  rcases own_shaped h with ⟨rfl, h0⟩ | ⟨g, cv, he⟩
  · exact ⟨none, 0, by rw [h0]⟩
  · exact ⟨_, _, he⟩

set_option maxRecDepth 100000 in
set_option maxHeartbeats 3200000 in
theorem counted_core (N T n cap : Nat) (replicas life : Int) (ao : Option Addr) (os : List Opp) (w : World) (hr : -9223372036854775808 ≤ replicas ∧ replicas ≤ 9223372036854775807) (hf : -9223372036854775808 ≤ life ∧ life ≤ 9223372036854775807) (hN : 1 + pk replicas 5 = (N : Int)) (hT : 1 + pk life 20 = (T : Int)) (hl : os.length = n) (hn : n ≤ 1048576) (hos : HasO w ao os) (hok : ∀ o ∈ os, o.ok)
    (I0 : Nat → World → Prop) (I : Nat → Nat → Nat → Nat → List Nat → World → Prop) (K : Nat → Nat → Nat → Nat → Nat → (Nat → Nat) → List Nat → World → Prop)
    (HB : Hid (∀ wz g cv, Below w.heap.size w wz → Has wz (some ⟨g, 0, none⟩) [1, 2, 3] → Calls Try.prog 16 #[.int .i64 N, .int .i64 T, .slice (some ⟨g, 0, none⟩) 3 cv] wz fun e w' => ∃ xb, e = .returned (.pointer (some ⟨xb, 0, none⟩)) ∧ I0 xb w'))
    (HIM : Hid (∀ xb wz w' tb, I0 xb wz → Below wz.heap.size wz w' → wz.heap.size ≤ tb → tb < w'.heap.size → I xb tb 0 0 [] w'))
    (HIB : Hid (∀ xb tb i A told wz, I xb tb i A told wz → Below w.heap.size w wz ∧ w.heap.size ≤ tb ∧ A ≤ i))
    (HP : Hid (∀ xb tb i A told p wz, os[i]? = some p → I xb tb i A told wz → Calls Try.prog 23 #[.pointer (some ⟨xb, 0, none⟩), .int .i64 N, .agg #[.int .i64 p.kind, .int .i64 p.a, .int .i64 p.b, .int .i64 p.c]] wz fun e w' => ∃ r : Nat, e = .returned (.int .i64 r) ∧ r ≤ 1 ∧ I xb tb (i + 1) (A + r) told w' ∧ w'.heap[tb]? = wz.heap[tb]?))
    (HTA : Hid (∀ xb tb i A told wz, i ≤ n → I xb tb i A told wz → Calls Try.prog 21 #[.pointer (some ⟨xb, 0, none⟩)] wz fun e w' => ∃ (v : Value) (vs : List Ev) (FL : Nat) (hn : Nat → Nat), e = .returned v ∧ K xb tb i A FL hn (told ++ vs.map Ev.seq) w' ∧ w'.heap[tb]? = wz.heap[tb]? ∧ w'.ownsRow w.heap.size 56 3 v vs.length (vs.flatMap Ev.cells) ∧ v.ownBlock ≠ some tb ∧ (told ++ vs.map Ev.seq).Nodup ∧ (∀ v ∈ vs, v.seq < A ∧ (v.fate = 0 ∨ v.whr = 0)) ∧ A = (told ++ vs.map Ev.seq).length + FL + sumN hn N))
    (HKS : Hid (∀ xb tb i A FL hn told wz j u, K xb tb i A FL hn told wz → K xb tb i A FL hn told (wz.setCell ⟨tb, j, none⟩ u)))
    (HKD : Hid (∀ xb tb i A FL hn told wz w', K xb tb i A FL hn told wz → Below wz.heap.size wz w' → K xb tb i A FL hn told w'))
    (HKI : Hid (∀ xb tb i A FL hn told wz, K xb tb i A FL hn told wz → I xb tb i A told wz))
    (HFL : Hid (∀ xb tb i A FL hn told wz, K xb tb i A FL hn told wz → Calls Try.prog 24 #[.pointer (some ⟨xb, 0, none⟩)] wz fun e w' => ∃ ad cp, e = .returned (.slice ad FL cp) ∧ Below wz.heap.size wz w'))
    (HH : Hid (∀ xb tb i A FL hn told r wz, r < N → K xb tb i A FL hn told wz → Calls Try.prog 22 #[.pointer (some ⟨xb, 0, none⟩), .int .i64 r] wz fun e w' => ∃ en hb : Int, e = .returned (.tuple #[.agg #[.int .i64 en, .int .i64 (hn r : Nat), .int .i64 hb], .int .i64 0]) ∧ 0 ≤ en ∧ en ≤ 3 ∧ hb ≤ 48 ∧ (hn r : Int) ≤ hb ∧ Below wz.heap.size wz w'))
    (HAR : Hid (∀ xb tb A told g ln cv wz w1, I xb tb n A told wz → Below wz.heap.size wz w1 → w1.ownsRow wz.heap.size 5 1 (.slice (some ⟨g, 0, none⟩) ln cv) ln ((pkL 0 0 0 0 0 false 0 0 (fl 0 4)).map (Value.int .u8)) → Calls Try.prog 19 #[.pointer (some ⟨xb, 0, none⟩), .int .i64 0, .slice (some ⟨g, 0, none⟩) ln cv] w1 fun e w' => e = .returned (.tuple #[.int .i64 A, .int .i64 0]) ∧ Below w.heap.size w w')) :
    Calls Try.prog 7 #[.slice ao n cap, .int .i64 replicas, .int .i64 life] w fun e w' => e = .returned (.bool true) ∧ Below w.heap.size w w' := by
  have hN1 : 1 ≤ N ∧ N ≤ 5 := by have := pk_bd replicas 5 (by decide); omega
  have hT1 : 1 ≤ T ∧ T ≤ 20 := by have := pk_bd life 20 (by decide); omega
  have HPN := hide (fun w => pick_any replicas 5 w hr.1 hr.2 (by decide) (by decide))
  have HPT := hide (fun w => pick_any life 20 w hf.1 hf.2 (by decide) (by decide))
  have hmk := make_bool n (by omega)
  go_enter Try.func7, Try.ntmps7
  go_wp2_with fail
  refine (HPN.out _).mono ?_
  rintro e w1 ⟨rfl, rfl⟩
  have hNw : IntKind.i64.wrap (1 + pk replicas 5) = (N : Int) := by rw [hN, IntKind.wrap_i64]; omega
  have hTw : IntKind.i64.wrap (1 + pk life 20) = (T : Int) := by rw [hT, IntKind.wrap_i64]; omega
  generalize pk replicas 5 = rp at *
  go_wp2_with fail
  refine (HPT.out _).mono ?_
  rintro e w1 ⟨rfl, rfl⟩
  generalize pk life 20 = lp at *
  go_wp2_with fail
  refine (HB.out _ _ _ ((Below.refl _ _).alloc (Nat.le_refl _) _) ⟨by simp, fun _ => ⟨_, _, rfl, by simp, fun j hj => by
    rw [arr_cell (heap_alloc_new _ _)]
    have hj3 : j < 3 := by simpa using hj
    match j, hj3 with
    | 0, _ => rfl
    | 1, _ => rfl
    | 2, _ => rfl⟩⟩).mono ?_
  rintro e w2 ⟨xb, rfl, hI⟩
  have HI := hide hI
  clear hI HB HPN HPT
  go_wp2_with fail
  have HIS := hide (HIM.out xb w2 _ w2.heap.size HI.out ((Below.refl _ _).alloc (Nat.le_refl _) (.cells (Array.replicate n (.bool false)) 4)) (Nat.le_refl _) (by simp))
  have HT0 : Hid ((w2.alloc (.cells (Array.replicate n (.bool false)) 4)).heap[w2.heap.size]? = some (.cells (Array.replicate n (.bool false)) 4 (0, 0))) := heap_alloc_new _ _
  have htb2 : w2.heap.size < (w2.alloc (.cells (Array.replicate n (.bool false)) 4)).heap.size := by simp
  generalize hw3 : w2.alloc (.cells (Array.replicate n (.bool false)) 4) = w3 at *
  generalize w2.heap.size = tb at *
  clear hw3 HI hmk
  go_loopw [9, 10, 12] (fun a9 a10 a12 wr => ∃ (i A : Nat) (told : List Nat) (C : Array Value), i ≤ n ∧ A ≤ i ∧ told.length ≤ i ∧ a12 = .int .i64 i ∧ a9 = .int .i64 A ∧ a10 = .int .i64 told.length ∧ Hid (I xb tb i A told wr) ∧ Hid (Told C n told) ∧ Hid (wr.heap[tb]? = some (.cells C 4 (0, 0)))) (fun _ _ a12 _ => n - (intOf a12).toNat)
  case atStart => exact ⟨0, 0, [], _, by omega, by omega, by simp, rfl, rfl, rfl, HIS.out, told_start n, HT0.out⟩
  case round =>
    obtain ⟨i, A, told, C, hi, hA, htl, rfl, rfl, rfl, HI, HTD, HTB⟩ := hrel
    clear HT0 HIS htb2
    by_cases hlt : i < n
    · have hol : i < os.length := by omega
      obtain ⟨p, hp⟩ : ∃ p, os[i]? = some p := ⟨_, List.getElem?_eq_getElem hol⟩
      obtain ⟨b, f, rfl, hbl, hcs⟩ := hos.2 (by rintro rfl; simp at hol)
      obtain ⟨q0, q1, q2, q3⟩ := hcs i p hp
      have hbw := (HIB.out xb tb i A told wr HI.out).1
      have s0 := (hbw.cell (p := ⟨b, f + i * 4, none⟩) hbl).trans q0
      have s1 := (hbw.cell (p := ⟨b, f + i * 4 + 1, none⟩) hbl).trans q1
      have s2 := (hbw.cell (p := ⟨b, f + i * 4 + 2, none⟩) hbl).trans q2
      have s3 := (hbw.cell (p := ⟨b, f + i * 4 + 3, none⟩) hbl).trans q3
      have HPL := hide (HP.out xb tb i A told p wr hp HI.out)
      have hcb := (hok p (List.mem_of_getElem? hp)).2.2.2
      have HQ3 := hide q3
      generalize p.kind = pk0 at *
      generalize p.a = pk1 at *
      generalize p.b = pk2 at *
      generalize p.c = pk3 at *
      clear q0 q1 q2 q3 hbw hcs
      have i1 : (i : Int) < (n : Int) := by omega
      go_wp2_with fail
      refine HPL.out.mono ?_
      rintro e w4 ⟨r, rfl, hr1, hI4, hT4⟩
      have HI4 := hide hI4
      have HTB4 : Hid (w4.heap[tb]? = some (.cells C 4 (0, 0))) := hT4.trans HTB.out
      have s3' := ((HIB.out _ _ _ _ _ _ hI4).1.cell (p := ⟨b, f + i * 4 + 3, none⟩) hbl).trans HQ3.out
      have HTK := hide (HTA.out xb tb (i + 1) (A + r) told w4 (by omega) hI4)
      clear hI4 hT4 s0 s1 s2 s3 HPL HI HTB HQ3
      generalize hcc : (bits BinOp.and IntKind.i64 pk3 1 == 1) = cc at *
      cases cc with
      | true =>
        by_cases hl2 : i + 1 < n
        · have i2 : (i : Int) + 1 < (n : Int) := by omega
          go_wp2
          go_roundw
          case rel => exact ⟨i + 1, A + r, told, C, by omega, by omega, by omega, by go_num, by go_num, rfl, HI4.out, HTD.out, HTB4.out⟩
          case measure => simp [intOf]; omega
        · have i2 : ¬ ((i : Int) + 1 < (n : Int)) := by omega
          go_wp2_with fail
          refine HTK.out.mono ?_
          rintro e w5 ⟨v, vs, FL, hn', rfl, hK5, hT5, hrow, hvt, hnd, hvs, hcount⟩
          obtain ⟨ad, cp, rfl⟩ := slice_of hrow
          have HK5 := hide hK5
          have HTB5 : Hid (w5.heap[tb]? = some (.cells C 4 (0, 0))) := hT5.trans HTB4.out
          have HEV := hide (ev_row hrow hvt)
          have HND := hide hnd
          have HVS := hide hvs
          have hlen : A + r = told.length + vs.length + FL + sumN hn' N := by simpa using hcount
          have hsN := sumN_le hn' 0 N (by omega)
          clear hK5 hT5 hrow hvt hnd hvs hcount HTK HTB4 HI4 s3'
          have hs48 : sumN hn' N ≤ A + r := by omega
          go_wp2_with fail
          go_loopw [10, 14] (fun a10 a14 wr => ∃ (q : Nat) (C' : Array Value), q ≤ vs.length ∧ a14 = .int .i64 q ∧ a10 = .int .i64 ((told.length + q : Nat) : Int) ∧ Hid (K xb tb (i + 1) (A + r) FL hn' (told ++ vs.map Ev.seq) wr) ∧ Hid (Told C' n (told ++ (vs.take q).map Ev.seq)) ∧ Hid (wr.heap[tb]? = some (.cells C' 4 (0, 0))) ∧ Hid (EvC wr tb ad vs)) (fun _ a14 _ => vs.length - (intOf a14).toNat)
          case atStart => exact ⟨0, C, by omega, rfl, rfl, HK5.out, by simpa [Hid] using HTD.out, HTB5.out, HEV.out⟩
          case round =>
            obtain ⟨q, C', hq, rfl, rfl, HKq, HTq, HTBq, HEq⟩ := hrel
            by_cases hql : q < vs.length
            · obtain ⟨ve, hve⟩ : ∃ ve, vs[q]? = some ve := ⟨_, List.getElem?_eq_getElem hql⟩
              obtain ⟨g, rfl, hgt, hgl, e0, e1, e2⟩ := HEq.out q ve hve
              obtain ⟨hsA, hfw⟩ := HVS.out ve (List.mem_of_getElem? hve)
              have hsn : ve.seq < n := by omega
              have hfresh := fresh_seq vs q ve hve told HND.out
              have ct : wr.cell? ⟨tb, ve.seq, none⟩ = some (.bool false) := by
                rw [arr_cell HTBq.out, HTq.out.2 _ hsn, decide_eq_false hfresh]
              have ft : wr.frozen? ⟨tb, ve.seq, none⟩ = false := arr_frozen HTBq.out _
              have HTN : Hid (Told (C'.set! ve.seq (.bool true)) n (told ++ (vs.take (q + 1)).map Ev.seq)) := by
                show Told _ _ _
                rw [take_snoc_seq vs q ve hve]
                exact told_more HTq.out ve.seq hsn
              have HEn := hide (HEq.out.set ve.seq (.bool true))
              have HKn := hide (HKS.out _ _ _ _ _ _ _ _ ve.seq (.bool true) HKq.out)
              generalize ve.seq = sq at *
              generalize ve.fate = ft' at *
              generalize ve.whr = wh' at *
              clear hve hfresh
              have j1 : (q : Int) < (vs.length : Int) := by omega
              have j2 : (sq : Int) < (A : Int) + (r : Int) := by omega
              have j3 : (sq : Int) < (n : Int) := by omega
              by_cases hf0 : ft' = 0
              · subst hf0
                go_wp2
                go_roundw
                case rel => exact ⟨q + 1, _, by omega, by go_num, by go_num, HKn.out, HTN.out, row_setCell HTBq.out _, HEn.out⟩
                case measure => simp [intOf]; omega
              · obtain rfl : wh' = 0 := by omega
                have hf1 : (ft' == 0) = false := by simpa using hf0
                clear hfw
                go_wp2
                go_roundw
                case rel => exact ⟨q + 1, _, by omega, by go_num, by go_num, HKn.out, HTN.out, row_setCell HTBq.out _, HEn.out⟩
                case measure => simp [intOf]; omega
            · obtain rfl : q = vs.length := by omega
              have HTV : Hid (Told C' n (told ++ vs.map Ev.seq)) := by
                have := HTq.out
                rw [List.take_length] at this
                exact this
              have HFY := hide (HFL.out xb tb (i + 1) (A + r) FL hn' _ wr HKq.out)
              clear HTq HEq HEV HVS HND HTD HTB5 HK5
              go_wp2_with fail
              refine HFY.out.mono ?_
              rintro e w6 ⟨ad6, cp6, rfl, hb6⟩
              have HK6 := hide (HKD.out _ _ _ _ _ _ _ _ _ HKq.out hb6)
              have HTB6 : Hid (w6.heap[tb]? = some (.cells C' 4 (0, 0))) := (hb6.block tb (lt_of_block HTBq.out)).trans HTBq.out
              clear hb6 HFY HKq HTBq
              go_wp2_with fail
              go_loopw [17, 18] (fun a17 a18 wr => ∃ (z : Nat), z ≤ N ∧ a18 = .int .i64 z ∧ a17 = .int .i64 (sumN hn' z : Nat) ∧ Hid (K xb tb (i + 1) (A + r) FL hn' (told ++ vs.map Ev.seq) wr) ∧ Hid (wr.heap[tb]? = some (.cells C' 4 (0, 0)))) (fun _ a18 _ => N - (intOf a18).toNat)
              case atStart => exact ⟨0, by omega, rfl, rfl, HK6.out, HTB6.out⟩
              case round =>
                obtain ⟨z, hz, rfl, rfl, HKz, HTBz⟩ := hrel
                by_cases hzN : z < N
                · have HHz := hide (HH.out xb tb (i + 1) (A + r) FL hn' _ z wr hzN HKz.out)
                  have hzs := sumN_le hn' (z + 1) N (by omega)
                  have hsz : sumN hn' (z + 1) = sumN hn' z + hn' z := rfl
                  have HSZ := hide hsz
                  have j1 : (z : Int) < (N : Int) := by omega
                  rw [hsz] at hzs
                  clear hsz
                  generalize sumN hn' z = s0 at *
                  generalize hn' z = hz0 at *
                  go_wp2_with fail
                  refine HHz.out.mono ?_
                  rintro e w7 ⟨en, hb, rfl, k0, k1, k2, k3, hb7⟩
                  have HK7 := hide (HKD.out _ _ _ _ _ _ _ _ _ HKz.out (hb7.trans ((Below.refl wr.heap.size w7).alloc hb7.size (.cells #[.int .i64 en, .int .i64 hz0, .int .i64 hb] 58))))
                  have HTB7 : Hid ((w7.alloc (.cells #[.int .i64 en, .int .i64 hz0, .int .i64 hb] 58)).heap[tb]? = some (.cells C' 4 (0, 0))) := ((hb7.trans ((Below.refl wr.heap.size w7).alloc hb7.size (.cells #[.int .i64 en, .int .i64 hz0, .int .i64 hb] 58))).block tb (lt_of_block HTBz.out)).trans HTBz.out
                  clear hb7 HHz
                  go_wp2
                  go_roundw
                  case rel => exact ⟨z + 1, by omega, by go_num, by rw [HSZ.out]; go_num, HK7.out, HTB7.out⟩
                  case measure => simp [intOf]; omega
                · obtain rfl : z = N := by omega
                  have HIz := hide (HKI.out _ _ _ _ _ _ _ _ HKz.out)
                  generalize sumN hn' z = sN at *
                  go_wp2
                  go_roundw
                  case rel => exact ⟨i + 1, A + r, told ++ vs.map Ev.seq, C', by omega, by omega, by simp; omega, by go_num, by go_num, by simp, HIz.out, HTV.out, HTBz.out⟩
                  case measure => simp [intOf]; omega
      | false =>
        go_wp2_with fail
        refine HTK.out.mono ?_
        rintro e w5 ⟨v, vs, FL, hn', rfl, hK5, hT5, hrow, hvt, hnd, hvs, hcount⟩
        obtain ⟨ad, cp, rfl⟩ := slice_of hrow
        have HK5 := hide hK5
        have HTB5 : Hid (w5.heap[tb]? = some (.cells C 4 (0, 0))) := hT5.trans HTB4.out
        have HEV := hide (ev_row hrow hvt)
        have HND := hide hnd
        have HVS := hide hvs
        have hlen : A + r = told.length + vs.length + FL + sumN hn' N := by simpa using hcount
        have hsN := sumN_le hn' 0 N (by omega)
        clear hK5 hT5 hrow hvt hnd hvs hcount HTK HTB4 HI4 s3'
        have hs48 : sumN hn' N ≤ A + r := by omega
        go_wp2_with fail
        go_loopw [10, 14] (fun a10 a14 wr => ∃ (q : Nat) (C' : Array Value), q ≤ vs.length ∧ a14 = .int .i64 q ∧ a10 = .int .i64 ((told.length + q : Nat) : Int) ∧ Hid (K xb tb (i + 1) (A + r) FL hn' (told ++ vs.map Ev.seq) wr) ∧ Hid (Told C' n (told ++ (vs.take q).map Ev.seq)) ∧ Hid (wr.heap[tb]? = some (.cells C' 4 (0, 0))) ∧ Hid (EvC wr tb ad vs)) (fun _ a14 _ => vs.length - (intOf a14).toNat)
        case atStart => exact ⟨0, C, by omega, rfl, rfl, HK5.out, by simpa [Hid] using HTD.out, HTB5.out, HEV.out⟩
        case round =>
          obtain ⟨q, C', hq, rfl, rfl, HKq, HTq, HTBq, HEq⟩ := hrel
          by_cases hql : q < vs.length
          · obtain ⟨ve, hve⟩ : ∃ ve, vs[q]? = some ve := ⟨_, List.getElem?_eq_getElem hql⟩
            obtain ⟨g, rfl, hgt, hgl, e0, e1, e2⟩ := HEq.out q ve hve
            obtain ⟨hsA, hfw⟩ := HVS.out ve (List.mem_of_getElem? hve)
            have hsn : ve.seq < n := by omega
            have hfresh := fresh_seq vs q ve hve told HND.out
            have ct : wr.cell? ⟨tb, ve.seq, none⟩ = some (.bool false) := by
              rw [arr_cell HTBq.out, HTq.out.2 _ hsn, decide_eq_false hfresh]
            have ft : wr.frozen? ⟨tb, ve.seq, none⟩ = false := arr_frozen HTBq.out _
            have HTN : Hid (Told (C'.set! ve.seq (.bool true)) n (told ++ (vs.take (q + 1)).map Ev.seq)) := by
              show Told _ _ _
              rw [take_snoc_seq vs q ve hve]
              exact told_more HTq.out ve.seq hsn
            have HEn := hide (HEq.out.set ve.seq (.bool true))
            have HKn := hide (HKS.out _ _ _ _ _ _ _ _ ve.seq (.bool true) HKq.out)
            generalize ve.seq = sq at *
            generalize ve.fate = ft' at *
            generalize ve.whr = wh' at *
            clear hve hfresh
            have j1 : (q : Int) < (vs.length : Int) := by omega
            have j2 : (sq : Int) < (A : Int) + (r : Int) := by omega
            have j3 : (sq : Int) < (n : Int) := by omega
            by_cases hf0 : ft' = 0
            · subst hf0
              go_wp2
              go_roundw
              case rel => exact ⟨q + 1, _, by omega, by go_num, by go_num, HKn.out, HTN.out, row_setCell HTBq.out _, HEn.out⟩
              case measure => simp [intOf]; omega
            · obtain rfl : wh' = 0 := by omega
              have hf1 : (ft' == 0) = false := by simpa using hf0
              clear hfw
              go_wp2
              go_roundw
              case rel => exact ⟨q + 1, _, by omega, by go_num, by go_num, HKn.out, HTN.out, row_setCell HTBq.out _, HEn.out⟩
              case measure => simp [intOf]; omega
          · obtain rfl : q = vs.length := by omega
            have HTV : Hid (Told C' n (told ++ vs.map Ev.seq)) := by
              have := HTq.out
              rw [List.take_length] at this
              exact this
            have HFY := hide (HFL.out xb tb (i + 1) (A + r) FL hn' _ wr HKq.out)
            clear HTq HEq HEV HVS HND HTD HTB5 HK5
            go_wp2_with fail
            refine HFY.out.mono ?_
            rintro e w6 ⟨ad6, cp6, rfl, hb6⟩
            have HK6 := hide (HKD.out _ _ _ _ _ _ _ _ _ HKq.out hb6)
            have HTB6 : Hid (w6.heap[tb]? = some (.cells C' 4 (0, 0))) := (hb6.block tb (lt_of_block HTBq.out)).trans HTBq.out
            clear hb6 HFY HKq HTBq
            go_wp2_with fail
            go_loopw [17, 18] (fun a17 a18 wr => ∃ (z : Nat), z ≤ N ∧ a18 = .int .i64 z ∧ a17 = .int .i64 (sumN hn' z : Nat) ∧ Hid (K xb tb (i + 1) (A + r) FL hn' (told ++ vs.map Ev.seq) wr) ∧ Hid (wr.heap[tb]? = some (.cells C' 4 (0, 0)))) (fun _ a18 _ => N - (intOf a18).toNat)
            case atStart => exact ⟨0, by omega, rfl, rfl, HK6.out, HTB6.out⟩
            case round =>
              obtain ⟨z, hz, rfl, rfl, HKz, HTBz⟩ := hrel
              by_cases hzN : z < N
              · have HHz := hide (HH.out xb tb (i + 1) (A + r) FL hn' _ z wr hzN HKz.out)
                have hzs := sumN_le hn' (z + 1) N (by omega)
                have hsz : sumN hn' (z + 1) = sumN hn' z + hn' z := rfl
                have HSZ := hide hsz
                have j1 : (z : Int) < (N : Int) := by omega
                rw [hsz] at hzs
                clear hsz
                generalize sumN hn' z = s0 at *
                generalize hn' z = hz0 at *
                go_wp2_with fail
                refine HHz.out.mono ?_
                rintro e w7 ⟨en, hb, rfl, k0, k1, k2, k3, hb7⟩
                have HK7 := hide (HKD.out _ _ _ _ _ _ _ _ _ HKz.out (hb7.trans ((Below.refl wr.heap.size w7).alloc hb7.size (.cells #[.int .i64 en, .int .i64 hz0, .int .i64 hb] 58))))
                have HTB7 : Hid ((w7.alloc (.cells #[.int .i64 en, .int .i64 hz0, .int .i64 hb] 58)).heap[tb]? = some (.cells C' 4 (0, 0))) := ((hb7.trans ((Below.refl wr.heap.size w7).alloc hb7.size (.cells #[.int .i64 en, .int .i64 hz0, .int .i64 hb] 58))).block tb (lt_of_block HTBz.out)).trans HTBz.out
                clear hb7 HHz
                go_wp2
                go_roundw
                case rel => exact ⟨z + 1, by omega, by go_num, by rw [HSZ.out]; go_num, HK7.out, HTB7.out⟩
                case measure => simp [intOf]; omega
              · obtain rfl : z = N := by omega
                have HIz := hide (HKI.out _ _ _ _ _ _ _ _ HKz.out)
                generalize sumN hn' z = sN at *
                go_wp2
                go_roundw
                case rel => exact ⟨i + 1, A + r, told ++ vs.map Ev.seq, C', by omega, by omega, by simp; omega, by go_num, by go_num, by simp, HIz.out, HTV.out, HTBz.out⟩
                case measure => simp [intOf]; omega
    · obtain rfl : i = n := by omega
      go_wp2_with fail
      refine (packet_z 0 0 0 0 0 0 4 false 0 _ (by omega)).mono ?_
      rintro e w5 ⟨ad, cp, rfl, hh5, hn5, hb5⟩
      have HB5 := hide hb5
      have HH5 := hide (And.intro hh5 hn5)
      clear hh5 hn5 hb5
      go_wp2_with fail
      refine (packed_yes 0 0 0 0 0 false 0 0 ad 4 cp (fl 0 4) _ (by omega) (by omega) (by omega) (by omega) (by omega) (by omega) (by omega) (by omega) (by omega) (by omega) (by omega) (by omega) (by omega) (by omega) (fl_length 0 4) HH5.out.2 HH5.out.1 (by simp [wfB])).mono ?_
      rintro e w7 ⟨g, cv, rfl, hrow, hb7⟩
      have HARR := hide (HAR.out xb tb A told g _ cv wr w7 HI.out (HB5.out.trans (hb7.mono HB5.out.size)) (ownsRow_base hrow HB5.out.size))
      generalize (pkL 0 0 0 0 0 false 0 0 (fl 0 4)).length = ln at *
      clear hrow hb7 HH5
      go_wp2_with fail
      refine HARR.out.mono ?_
      rintro e w8 ⟨rfl, hb8⟩
      have HB8 := hide hb8
      clear hb8 HARR
      go_wp2
      go_ret
      exact ⟨by simp, HB8.out⟩

end Go.Proofs.Ytajphdppmdoalaa
