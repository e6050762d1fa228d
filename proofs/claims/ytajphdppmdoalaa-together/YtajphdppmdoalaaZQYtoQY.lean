import Derived.Test.YtajphdppmdoalaaZQKtoQE
namespace Go.Proofs.Ytajphdppmdoalaa
open Go.RowKit
set_option linter.unusedVariables false

/-- Events, asm they lie in a block that is not tb. -/
def EvD (w : World) (tb ge : Nat) (vs : List Ev) : Prop := ge ≠ tb ∧ ge < w.heap.size ∧ ∀ (q : Nat) (v : Ev), vs[q]? = some v → w.cell? ⟨ge, q * 3, none⟩ = some (.int .i64 v.seq) ∧ w.cell? ⟨ge, q * 3 + 1, none⟩ = some (.int .u8 v.fate) ∧ w.cell? ⟨ge, q * 3 + 2, none⟩ = some (.int .u8 v.whr)
theorem EvD.set {w : World} {tb ge : Nat} {vs : List Ev} (h : EvD w tb ge vs) (j : Nat) (u : Value) : EvD (w.setCell ⟨tb, j, none⟩ u) tb ge vs := by
  have ho : Only (fun k => k = tb) w (w.setCell ⟨tb, j, none⟩ u) := (Only.refl (fun k => k = tb) w).setCell (fun _ => rfl) u
  refine ⟨h.1, Nat.lt_of_lt_of_le h.2.1 ho.size, fun q v hq => ?_⟩
  obtain ⟨h4, h5, h6⟩ := h.2.2 q v hq
  exact ⟨(ho.cell (p := ⟨ge, q * 3, none⟩) h.2.1 h.1).trans h4, (ho.cell (p := ⟨ge, q * 3 + 1, none⟩) h.2.1 h.1).trans h5, (ho.cell (p := ⟨ge, q * 3 + 2, none⟩) h.2.1 h.1).trans h6⟩
theorem EvD.below {w w' : World} {tb ge : Nat} {vs : List Ev} (h : EvD w tb ge vs) (hb : Below w.heap.size w w') : EvD w' tb ge vs := by
  refine ⟨h.1, Nat.lt_of_lt_of_le h.2.1 hb.size, fun q v hq => ?_⟩
  obtain ⟨h4, h5, h6⟩ := h.2.2 q v hq
  exact ⟨(hb.cell (p := ⟨ge, q * 3, none⟩) h.2.1).trans h4, (hb.cell (p := ⟨ge, q * 3 + 1, none⟩) h.2.1).trans h5, (hb.cell (p := ⟨ge, q * 3 + 2, none⟩) h.2.1).trans h6⟩
theorem take_snoc2 (vs : List Ev) (q : Nat) (v : Ev) (h : vs[q]? = some v) : (vs.take (q + 1)).map Ev.seq = (vs.take q).map Ev.seq ++ [v.seq] := by
  rw [List.take_add_one, h]
  simp
theorem fresh_seq2 (vs : List Ev) (q : Nat) (v : Ev) (h : vs[q]? = some v) (hnd : (vs.map Ev.seq).Nodup) : v.seq ∉ (vs.take q).map Ev.seq := by
  intro hm
  have hs := split_at vs q v h
  rw [hs, List.map_append, List.map_cons] at hnd
  rw [List.nodup_append] at hnd
  exact hnd.2.2 _ hm _ (List.mem_cons_self ..) rfl
theorem pk_small (z : Int) (h : 0 ≤ z ∧ z ≤ 2) : -9223372036854775808 ≤ z ∧ z ≤ 9223372036854775807 ∧ pk z 8 ≤ (2 : Nat) := by
  refine ⟨by omega, by omega, ?_⟩
  unfold pk
  rw [if_neg (by omega)]
  omega

def dU (u m k : Nat) : Nat := if k ≤ u then u - k else u + m - k
theorem dU_step (u m k : Nat) (hu : u < m) (hk : k < m) (hne : k ≠ u) : dU u m ((k + 1) % m) < dU u m k := by
  unfold dU
  by_cases h1 : k + 1 = m
  · rw [h1, Nat.mod_self, if_pos (Nat.zero_le _), if_neg (by omega)]
    omega
  · rw [Nat.mod_eq_of_lt (by omega)]
    split <;> split <;> omega
theorem free_one (arr : List Nat) (m : Nat) (h : ∀ k ∈ arr, k < m) (hl : arr.length < m) : ∃ u, u < m ∧ u ∉ arr := by
  by_cases hh : ∃ u, u < m ∧ u ∉ arr
  · exact hh
  · exfalso
    have hall : ∀ u ∈ List.range m, u ∈ arr := by
      intro u hu
      by_cases hu' : u ∈ arr
      · exact hu'
      · exact absurd ⟨u, List.mem_range.1 hu, hu'⟩ hh
    have := (List.nodup_range (n := m)).length_le_of_subset hall
    rw [List.length_range] at this
    omega
theorem hasz_row {w : World} {base n cv : Nat} {asm : Option Addr} {us : List Int} (h : w.ownsRow base 3 1 (.slice asm n cv) n (us.map (Value.int .i64))) : HasZ w asm us := by
  have hl : us.length = n := by simpa using h.1
  refine ⟨fun hn => ?_, fun hne => ?_⟩
  · subst hn
    rcases h.2 with ⟨hh, _⟩ | ⟨_, _, _, hh, _⟩
    · simp only [Value.slice.injEq] at hh
      exact List.eq_nil_of_length_eq_zero (by omega)
    · simp at hh
  · rcases own_shape h with hh | ⟨g, c, hh⟩
    · simp only [Value.slice.injEq] at hh
      exact absurd (List.eq_nil_of_length_eq_zero (by omega)) hne
    · simp only [Value.slice.injEq] at hh
      obtain ⟨rfl, _, rfl⟩ := hh
      refine ⟨g, 0, rfl, (h.lt g rfl).2, fun j hj => ?_⟩
      rw [Nat.zero_add, h.cellAt j (by omega), List.getElem?_map, List.getD_eq_getElem?_getD, List.getElem?_eq_getElem hj]
      rfl

set_option maxRecDepth 100000 in
set_option maxHeartbeats 1600000 in
theorem together_core (src dst id proto sport dport tail replicas backends : Int) (zs os : List Int) (n cap no capo N : Nat) (ao ad : Option Addr) (w : World) (hl : zs.length = n) (hz : ∀ z ∈ zs, -9223372036854775808 ≤ z ∧ z ≤ 9223372036854775807) (hd : HasZ w ao zs) (hn : n ≤ 9223372036854775807) (hlo : os.length = no) (hzo : ∀ z ∈ os, -9223372036854775808 ≤ z ∧ z ≤ 9223372036854775807) (hdo : HasZ w ad os) (hno : no ≤ 9223372036854775807) (hcap : n ≤ cap) (hcm : cap ≤ maxLen) (ht : -9223372036854775808 ≤ tail ∧ tail ≤ 9223372036854775807) (hbk : -9223372036854775808 ≤ backends ∧ backends ≤ 9223372036854775807) (hrp : -9223372036854775808 ≤ replicas ∧ replicas ≤ 9223372036854775807) (hN : 1 + pk replicas 5 = (N : Int)) (w0 : World) (hw0 : w.alloc (.cells #[.int .u16 src, .int .u16 dst, .int .u16 id, .int .u8 proto, .int .u16 sport, .int .u16 dport] 24) = w0)
    (tof : List Int → Int) (Z : List Int → Nat → World → Prop) (I0 : List Int → Nat → Nat → Nat → List PV → Nat → World → Prop) (I : List Int → Nat → Nat → Nat → List PV → Nat → Nat → List Nat → World → Prop) (Q : List Int → Nat → Nat → Nat → World → Prop) (R : Nat → World → Prop) (R2 : Nat → Nat → World → Prop)
    (HB : Hid (∀ l va vc wz, Below w0.heap.size w0 wz → BkOK l → Has wz va l → Calls Try.prog 16 #[.int .i64 N, .int .i64 1, .slice va l.length vc] wz fun e w' => ∃ xb, e = .returned (.pointer (some ⟨xb, 0, none⟩)) ∧ Z l xb w' ∧ Below wz.heap.size wz w'))
    (HZD : Hid (∀ l xb wz w', Z l xb wz → Below wz.heap.size wz w' → Z l xb w'))
    (HZ : Hid (∀ l xb wz w1 g cv L, Z l xb wz → Below wz.heap.size wz w1 → PkL w1 wz.heap.size (.slice (some ⟨g, 0, none⟩) L.length cv) L → DgOK src dst id proto sport dport 2 (pk tail 20) L → L.length ≤ 4 → I0 l wz.heap.size g cv L xb w1))
    (HCH : Hid (∀ l base g cv L xb aq cq wz w1, I0 l base g cv L xb wz → Below wz.heap.size wz w1 → Calls Try.prog 18 #[.pointer (some ⟨xb, 0, none⟩), .agg #[.int .u16 src, .int .u16 dst, .int .u8 proto, .int .u16 id, .int .u8 0, .bool false, .int .u16 sport, .int .u16 dport, .slice aq 0 cq]] w1 fun e w' => e = .returned (.tuple #[.int .u8 (tof l), .int .i64 0]) ∧ I0 l base g cv L xb w'))
    (HIU : Hid (∀ l base g cv L xb wz w1 ub, I0 l base g cv L xb wz → Below wz.heap.size wz w1 → wz.heap.size ≤ ub → ub < w1.heap.size → I l base g cv L xb ub [] w1))
    (HIP : Hid (∀ l base g cv L xb ub arr wz, I l base g cv L xb ub arr wz → PkL wz base (.slice (some ⟨g, 0, none⟩) L.length cv) L ∧ g < wz.heap.size ∧ Below w0.heap.size w0 wz))
    (HIS : Hid (∀ l base g cv L xb ub arr wz j u, I l base g cv L xb ub arr wz → I l base g cv L xb ub arr (wz.setCell ⟨ub, j, none⟩ u)))
    (HID : Hid (∀ l base g cv L xb ub arr wz w', I l base g cv L xb ub arr wz → Below wz.heap.size wz w' → I l base g cv L xb ub arr w'))
    (HPD : Hid (∀ L x base wz, DgOK src dst id proto sport dport 2 (pk tail 20) L → x ∈ L → PVok wz base x → Calls Try.prog 11 #[.agg #[.int .u16 x.p.src, .int .u16 x.p.dst, .int .u8 x.p.proto, .int .u16 x.p.id, .int .u8 x.p.off, .bool x.p.more, .int .u16 x.p.sport, .int .u16 x.p.dport, .slice x.ao x.p.dlen x.cap]] wz fun e w' => ∃ g cv, e = .returned (.slice (some ⟨g, 0, none⟩) x.bytes.length cv) ∧ w'.ownsRow wz.heap.size 5 1 (.slice (some ⟨g, 0, none⟩) x.bytes.length cv) x.bytes.length (x.bytes.map (Value.int .u8)) ∧ Below wz.heap.size wz w'))
    (HPW : Hid (∀ aq cq wz, Has wz aq (fl 0 0) → (aq = none → cq = 0) → Calls Try.prog 11 #[.agg #[.int .u16 src, .int .u16 dst, .int .u8 proto, .int .u16 id, .int .u8 0, .bool false, .int .u16 sport, .int .u16 dport, .slice aq 0 cq]] wz fun e w' => ∃ g cv, e = .returned (.slice (some ⟨g, 0, none⟩) (pkL src dst proto id 0 false sport dport (fl 0 0)).length cv) ∧ w'.ownsRow wz.heap.size 5 1 (.slice (some ⟨g, 0, none⟩) (pkL src dst proto id 0 false sport dport (fl 0 0)).length cv) (pkL src dst proto id 0 false sport dport (fl 0 0)).length ((pkL src dst proto id 0 false sport dport (fl 0 0)).map (Value.int .u8)) ∧ Below wz.heap.size wz w'))
    (HA : Hid (∀ l base g cv L xb ub arr k x (rep : Int) gb ln cb wz w1, L[k]? = some x → k ∉ arr → 0 ≤ rep → rep < N → I l base g cv L xb ub arr wz → Below wz.heap.size wz w1 → w1.ownsRow wz.heap.size 5 1 (.slice (some ⟨gb, 0, none⟩) ln cb) ln (x.bytes.map (Value.int .u8)) → Calls Try.prog 19 #[.pointer (some ⟨xb, 0, none⟩), .int .i64 rep, .slice (some ⟨gb, 0, none⟩) ln cb] w1 fun e w' => e = .returned (.tuple #[.int .i64 arr.length, .int .i64 0]) ∧ I l base g cv L xb ub (arr ++ [k]) w' ∧ w'.heap[ub]? = wz.heap[ub]?))
    (HW : Hid (∀ l base g cv L xb ub arr (rep : Int) gb ln cb wz w1, rep = (N : Int) - 1 → arr.length = L.length → I l base g cv L xb ub arr wz → Below wz.heap.size wz w1 → w1.ownsRow wz.heap.size 5 1 (.slice (some ⟨gb, 0, none⟩) ln cb) ln ((pkL src dst proto id 0 false sport dport (fl 0 0)).map (Value.int .u8)) → Calls Try.prog 19 #[.pointer (some ⟨xb, 0, none⟩), .int .i64 rep, .slice (some ⟨gb, 0, none⟩) ln cb] w1 fun e w' => e = .returned (.tuple #[.int .i64 L.length, .int .i64 0]) ∧ ∃ j, j ≤ 8 ∧ Q l L.length xb j w'))
    (HS : Hid (∀ l m xb j wz, j ≤ 8 → Q l m xb j wz → Calls Try.prog 20 #[.pointer (some ⟨xb, 0, none⟩), .slice ad no capo] wz fun e w' => e = .returned (.bool true) ∧ Q l m xb 0 w'))
    (HT : Hid (∀ l m xb wz, Q l m xb 0 wz → Calls Try.prog 21 #[.pointer (some ⟨xb, 0, none⟩)] wz fun e w' => ∃ ge ce, ∃ vs : List Ev, e = .returned (.slice (some ⟨ge, 0, none⟩) (m + 1) ce) ∧ vs.length = m + 1 ∧ ge < w'.heap.size ∧ (∀ (q : Nat) (v : Ev), vs[q]? = some v → (w'.cell? ⟨ge, q * 3, none⟩ = some (.int .i64 v.seq) ∧ w'.cell? ⟨ge, q * 3 + 1, none⟩ = some (.int .u8 0) ∧ w'.cell? ⟨ge, q * 3 + 2, none⟩ = some (.int .u8 (tof l))) ∧ v.seq ≤ m ∧ v.fate = 0 ∧ v.whr = tof l) ∧ (vs.map Ev.seq).Nodup ∧ R xb w'))
    (HRR : Hid (∀ xb wz w1 tb, R xb wz → Below wz.heap.size wz w1 → wz.heap.size ≤ tb → tb < w1.heap.size → R2 xb tb w1))
    (HRS : Hid (∀ xb tb wz j u, R2 xb tb wz → R2 xb tb (wz.setCell ⟨tb, j, none⟩ u)))
    (HRB : Hid (∀ xb tb wz, R2 xb tb wz → Below w0.heap.size w0 wz))
    (HRD : Hid (∀ xb tb wz w', R2 xb tb wz → Below wz.heap.size wz w' → R2 xb tb w'))
    (HH : Hid (∀ xb tb r wz, r < N → R2 xb tb wz → Calls Try.prog 22 #[.pointer (some ⟨xb, 0, none⟩), .int .i64 r] wz fun e w' => e = .returned (.tuple #[.agg #[.int .i64 0, .int .i64 0, .int .i64 0], .int .i64 0]) ∧ R2 xb tb w')) :
    Calls Try.prog 6 #[.agg #[.int .u16 src, .int .u16 dst, .int .u16 id, .int .u8 proto, .int .u16 sport, .int .u16 dport], .slice ao n cap, .int .i64 tail, .int .i64 replicas, .int .i64 backends, .slice ad no capo] w fun e w' => e = .returned (.bool true) ∧ Below w.heap.size w w' := by
  have HPN := hide (fun w => pick_any replicas 5 w hrp.1 hrp.2 (by decide) (by decide))
  have hN1 : 1 ≤ N ∧ N ≤ 5 := by have := pk_bd replicas 5 (by decide); omega
  have hNw : IntKind.i64.wrap (1 + pk replicas 5) = (N : Int) := by rw [hN, IntKind.wrap_i64]; omega
  have HBX : Hid (Below w.heap.size w (w.alloc (.cells #[.int .u16 src, .int .u16 dst, .int .u16 id, .int .u8 proto, .int .u16 sport, .int .u16 dport] 24))) := (Below.refl _ _).alloc (Nat.le_refl _) _
  have HX : Hid (∀ j, (w.alloc (.cells #[.int .u16 src, .int .u16 dst, .int .u16 id, .int .u8 proto, .int .u16 sport, .int .u16 dport] 24)).cell? ⟨w.heap.size, j, none⟩ = #[.int .u16 src, .int .u16 dst, .int .u16 id, .int .u8 proto, .int .u16 sport, .int .u16 dport][j]?) := box_cell (Below.refl _ _)
  have hY : w.heap.size < (w.alloc (.cells #[.int .u16 src, .int .u16 dst, .int .u16 id, .int .u8 proto, .int .u16 sport, .int .u16 dport] 24)).heap.size := by simp
  have HD := hide hd
  have HDO := hide hdo
  have HZZ := hide hz
  have HZO := hide hzo
  clear hd hz hdo hzo
  go_enter Try.func6, Try.ntmps6
  go_wp2_with fail
  rw [hw0] at HBX HX hY
  clear hw0
  refine (HPN.out _).mono ?_
  rintro e w00 ⟨rfl, rfl⟩
  generalize pk replicas 5 = rp at *
  go_wp2_with fail
  refine (some_any backends _ hbk.1 hbk.2).mono ?_
  rintro e w1 ⟨l, v, rfl, hrow, hnd, hl1, hl6, hlb, hb1⟩
  obtain ⟨va, vc, rfl, hhas, _, _, _, _⟩ := owns_any hrow
  have HB1 : Hid (Below w.heap.size w w1) := HBX.out.trans (hb1.mono (Nat.le_of_lt hY))
  have HBG := hide (HB.out l va vc w1 hb1 ⟨hnd, hl1, hl6, hlb⟩ hhas)
  have HX1 : Hid (∀ j, w1.cell? ⟨w.heap.size, j, none⟩ = #[.int .u16 src, .int .u16 dst, .int .u16 id, .int .u8 proto, .int .u16 sport, .int .u16 dport][j]?) := fun j => (hb1.cell (p := ⟨w.heap.size, j, none⟩) hY).trans (HX.out j)
  have hY1 : w.heap.size < w1.heap.size := Nat.lt_of_lt_of_le hY hb1.size
  have HXK := hide HX.out
  have HBXK := hide HBX.out
  have hYK := hY
  clear hrow hnd hl1 hl6 hlb hhas hb1 HB HBX HX hY
  go_wp2_with fail
  refine HBG.out.mono ?_
  rintro e w2 ⟨xb, rfl, hZ, hb2⟩
  have HZ2 := hide hZ
  have HB2 : Hid (Below w.heap.size w w2) := HB1.out.trans (hb2.mono (Nat.le_of_lt hY1))
  have HX2 : Hid (∀ j, w2.cell? ⟨w.heap.size, j, none⟩ = #[.int .u16 src, .int .u16 dst, .int .u16 id, .int .u8 proto, .int .u16 sport, .int .u16 dport][j]?) := fun j => (hb2.cell (p := ⟨w.heap.size, j, none⟩) hY1).trans (HX1.out j)
  have hY2 : w.heap.size < w2.heap.size := Nat.lt_of_lt_of_le hY1 hb2.size
  clear hZ hb2 HBG HB1 HX1 hY1
  generalize hXX : w.heap.size = X at *
  go_upto_if 53 with (fail)
  go_cut [16] (fun a16 wc => ∃ n3 : Nat, a16 = .slice ao n3 cap ∧ n3 ≤ 3 ∧ n3 ≤ n ∧ wc = w2)
  case first =>
    by_cases hn3 : 3 < n
    · have i1 : (3 : Int) < (n : Int) := by omega
      have i2 : (3 : Int) ≤ (cap : Int) := by omega
      have i3 : 3 ≤ cap := by omega
      go_wp2
      go_meet
      case rel => exact ⟨3, rfl, Nat.le_refl _, by omega, rfl⟩
    · have i1 : ¬ (3 : Int) < (n : Int) := by omega
      go_wp2
      go_meet
      case rel => exact ⟨n, rfl, by omega, Nat.le_refl _, rfl⟩
  case rest =>
    obtain ⟨n3, rfl, hn3, hnn, rfl⟩ := hcut
    obtain ⟨w2, hw2⟩ : ∃ w2, w2 = wc := ⟨_, rfl⟩
    subst hw2
    obtain ⟨i5, hi5, hz5, hz6, hz7⟩ := info_parts Try.infoInt
    have HI5 := hide (And.intro hi5 (And.intro hz5 (And.intro hz6 hz7)))
    go_wp2_with fail
    go_loopw [17, 18] (fun a17 a18 wr => ∃ (i : Nat) (us : List Int), i ≤ n3 ∧ us.length = i ∧ a18 = .int .i64 i ∧ Hid (wr.ownsRow w2.heap.size 3 1 a17 i (us.map (Value.int .i64))) ∧ Hid (∀ u ∈ us, 0 ≤ u ∧ u ≤ 2) ∧ Hid (Below w2.heap.size w2 wr)) (fun _ a18 _ => n3 - (intOf a18).toNat)
    case atStart => exact ⟨0, [], by omega, rfl, rfl, World.ownsRow_nil _ _ _ _, by simp [Hid], Below.refl _ _⟩
    case round =>
      obtain ⟨i, us, hi, hus, rfl, HO, HU, HB⟩ := hrel
      have hsz : w2.heap.size ≤ wr.heap.size := HB.out.size
      by_cases hlt : i < n3
      · have hzi : i < zs.length := by omega
        obtain ⟨b, f, rfl, hbl, hcs⟩ := HD.out.2 (by rintro rfl; simp at hzi)
        have hbw : b < w2.heap.size := Nat.lt_of_lt_of_le hbl HB2.out.size
        have s0 := (HB.out.cell (p := ⟨b, f + i, none⟩) hbw).trans ((HB2.out.cell (p := ⟨b, f + i, none⟩) (by rw [← hXX]; exact hbl)).trans (hcs i hzi))
        have hzb := HZZ.out (zs.getD i 0) (by rw [List.getD_eq_getElem?_getD, List.getElem?_eq_getElem hzi]; exact List.getElem_mem hzi)
        clear hcs
        generalize zs.getD i 0 = z at *
        have i1 : (i : Int) < (n3 : Int) := by omega
        go_wp2_with fail
        refine (pick_any z 3 _ hzb.1 hzb.2 (by decide) (by decide)).mono ?_
        rintro e w3 ⟨rfl, rfl⟩
        have hpb := pk_bd z 3 (by decide)
        generalize pk z 3 = pz at *
        go_wp2_with (at_builtin; refine wpList_append_own _ rfl (.tmp 62) (.tmp 68) 41 rfl w2.heap.size 3 i5 (.int .i64 0) 1 8 Try.underlying41 hi5 hz5 hz6 hz7 rfl (by decide) _ _ _ rfl (HO.out.alloc _) ⟨w3.heap.size, 0, none⟩ 1 1 [_] rfl rfl (cell_one_new _ _ _) (by simp [Value.oneCell']) (by unfold maxLen; omega) (by omega) (by simp; omega) ?_)
        intro v5 w5 hown hgrow hiff
        have HO5 : Hid (w5.ownsRow w2.heap.size 3 1 v5 (i + 1) ((us ++ [pz]).map (Value.int .i64))) := by
          show w5.ownsRow w2.heap.size 3 1 v5 (i + 1) ((us ++ [pz]).map (Value.int .i64))
          rw [List.map_append]
          exact hown
        have HB5 : Hid (Below w2.heap.size w2 w5) := (HB.out.alloc hsz _).grown hgrow (by simp; omega) (fun q hq => by have := (HO.out.lt q hq).1; omega)
        have HU5 : Hid (∀ u ∈ us ++ [pz], 0 ≤ u ∧ u ≤ 2) := fun u hu => by
          rcases List.mem_append.1 hu with hu | hu
          · exact HU.out u hu
          · rw [List.mem_singleton.1 hu]; omega
        clear hown hiff hgrow s0
        go_wp2
        go_roundw
        case rel => exact ⟨i + 1, us ++ [pz], by omega, by simp; omega, by go_num, HO5.out, HU5.out, HB5.out⟩
        case measure => simp [intOf]; omega
      · obtain rfl : i = n3 := by omega
        obtain ⟨asm, cs, rfl⟩ : ∃ asm cs, u17 = .slice asm i cs := by
          rcases own_shape HO.out with rfl | ⟨g, cv, rfl⟩
          · rcases HO.out.2 with ⟨_, h⟩ | ⟨_, _, _, h, _⟩
            · exact ⟨none, 0, by rw [h]⟩
            · simp at h
          · exact ⟨_, _, rfl⟩
        have HSM : Hid (HasZ wr asm us) := hasz_row HO.out
        have hpt := pk_bd tail 20 (by decide)
        have HPT := hide (fun w => pick_any tail 20 w ht.1 ht.2 (by decide) (by decide))
        have HB3 : Hid (Below X w wr) := HB2.out.trans (HB.out.mono (by omega))
        have x3 : ∀ j, wr.cell? ⟨X, j, none⟩ = #[.int .u16 src, .int .u16 dst, .int .u16 id, .int .u8 proto, .int .u16 sport, .int .u16 dport][j]? := fun j => (HB.out.cell (p := ⟨X, j, none⟩) hY2).trans (HX2.out j)
        have hY3 : X < wr.heap.size := by omega
        have HZ3 := hide (HZD.out l xb w2 wr HZ2.out HB.out)
        have HBD : Hid (Below wr.heap.size wr wr.drew) := (Below.refl _ _).drew
        have HPI := hide (pieces_any src dst id proto sport dport us 2 i cs asm (pk tail 20) wr.drew hus (by omega) (fun u hu => pk_small u (HU.out u hu)) (HSM.out.below HBD.out) (by omega) (by omega))
        have HSS : Hid (∀ w', Below wr.drew.heap.size wr.drew w' → w'.cell? ⟨X, 0, none⟩ = some (.int .u16 src) ∧ w'.cell? ⟨X, 1, none⟩ = some (.int .u16 dst) ∧ w'.cell? ⟨X, 2, none⟩ = some (.int .u16 id) ∧ w'.cell? ⟨X, 3, none⟩ = some (.int .u8 proto) ∧ w'.cell? ⟨X, 4, none⟩ = some (.int .u16 sport) ∧ w'.cell? ⟨X, 5, none⟩ = some (.int .u16 dport)) := by
          intro w' hb'
          have xq : ∀ j, w'.cell? ⟨X, j, none⟩ = #[.int .u16 src, .int .u16 dst, .int .u16 id, .int .u8 proto, .int .u16 sport, .int .u16 dport][j]? := fun j => (hb'.cell (p := ⟨X, j, none⟩) hY3).trans (x3 j)
          exact ⟨xq 0, xq 1, xq 2, xq 3, xq 4, xq 5⟩
        go_upto_region 14 with (fail)
        go_region_held3 (fun w' => w'.cell? ⟨X, 0, none⟩ = some (.int .u16 src) ∧ w'.cell? ⟨X, 1, none⟩ = some (.int .u16 dst) ∧ w'.cell? ⟨X, 2, none⟩ = some (.int .u16 id) ∧ w'.cell? ⟨X, 3, none⟩ = some (.int .u8 proto) ∧ w'.cell? ⟨X, 4, none⟩ = some (.int .u16 sport) ∧ w'.cell? ⟨X, 5, none⟩ = some (.int .u16 dport)) (first | go_keep | assumption) (first | (go_at_call 9; refine (HPT.out _).mono ?_; rintro e wq ⟨rfl, rfl⟩) | (go_at_call 17; refine HPI.out.mono ?_; rintro e w4 ⟨v4, L, r, t, rfl, hrow4, hpv4, hmp, hr1, hr2, hr3, hr4, hr5, htt, hb4⟩; have hS4 := HSS.out w4 hb4))
        have hdg : DgOK src dst id proto sport dport 2 (pk tail 20) L := ⟨r, t, hmp, hr1, hr2, hr3, hr4, hr5.1, htt⟩
        have hLl := hdg.len
        have hL4 : L.length ≤ 4 := by
          have := congrArg List.length hmp
          rw [List.length_map, cut_length] at this
          omega
        obtain ⟨g, cv, rfl⟩ : ∃ g cv, v4 = .slice (some ⟨g, 0, none⟩) L.length cv := by
          rcases own_shaped hrow4 with ⟨_, h0⟩ | h0
          · omega
          · exact h0
        have hI0 := HZ.out l xb wr w4 g cv L HZ3.out (HBD.out.trans hb4) ⟨hrow4, hpv4⟩ hdg hL4
        have HI0 := hide hI0
        have HDG := hide hdg
        have HB4 : Hid (Below X w w4) := HB3.out.trans ((HBD.out.trans hb4).mono (by omega))
        have x4 := hS4
        generalize wr.heap.size = base at *
        clear hrow4 hpv4 hmp hr1 hr2 hr3 hr4 hr5 htt hb4 hdg hI0 hS4 HPI HZ HZ2 HZ3 x3 hY3 HBD HSS HSM HO HU HB HB2 HB3 HD HZZ HX2 HZD HPT
        have HPKZ := hide (fun wz => packet_z src dst id proto sport dport 0 false 0 wz (by omega))
        have hz4 : X < w4.heap.size := by have := World.block_lt_of_cell? w4 _ x4.1; exact this
        go_wp2_with fail
        refine (HPKZ.out _).mono ?_
        rintro e w5 ⟨aq, cq, rfl, hhq, hnq, hb5⟩
        have HC := hide (HCH.out l base g cv L xb aq cq w4 w5 HI0.out hb5)
        clear hhq hnq hb5
        go_wp2_with fail
        refine HC.out.mono ?_
        rintro e w6 ⟨rfl, hI6⟩
        generalize htof : tof l = tb at *
        have HIU6 := hide (HIU.out l base g cv L xb w6 _ w6.heap.size hI6 ((Below.refl _ _).alloc (Nat.le_refl _) (.cells (Array.replicate L.length (.bool false)) 4)) (Nat.le_refl _) (by simp))
        have HUB : Hid ((w6.alloc (.cells (Array.replicate L.length (.bool false)) 4)).heap[w6.heap.size]? = some (.cells (Array.replicate L.length (.bool false)) 4 (0, 0))) := heap_alloc_new _ _
        have hmk := make_bool L.length (by omega)
        clear hI6 HC HI0 x4
        go_wp2_with fail
        generalize w6.alloc (.cells (Array.replicate L.length (.bool false)) 4) = w7 at *
        generalize w6.heap.size = ub at *
        clear hmk
        go_loopw [22, 24] (fun a22 a24 wr => ∃ (arr : List Nat) (C : Array Value), arr.length ≤ L.length ∧ arr.Nodup ∧ Hid (∀ k ∈ arr, k < L.length) ∧ a22 = .int .i64 (L.length - arr.length : Nat) ∧ a24 = .int .i64 arr.length ∧ Hid (I l base g cv L xb ub arr wr) ∧ Hid (Told C L.length arr) ∧ Hid (wr.heap[ub]? = some (.cells C 4 (0, 0)))) (fun a22 _ _ => (intOf a22).toNat)
        case atStart => exact ⟨[], _, by simp, List.nodup_nil, by simp [Hid], rfl, rfl, HIU6.out, told_start _, HUB.out⟩
        case round =>
          obtain ⟨arr, C, harr, hnod, HAL, rfl, rfl, HI, HTD, HUBr⟩ := hrel
          obtain ⟨wo, hwo⟩ : ∃ wo, wo = wr := ⟨_, rfl⟩
          subst hwo
          clear HIU6 HUB
          have hBw := (HIP.out _ _ _ _ _ _ _ _ _ HI.out).2.2
          by_cases hleft : arr.length < L.length
          · have i1 : (0 : Int) < ((L.length - arr.length : Nat) : Int) := by omega
            have HNOD := hide hnod
            obtain ⟨u, huL, hua⟩ := free_one arr L.length HAL.out hleft
            have HTK := hide (fun (k : Nat) (hk : k < L.length) => (show wo.cell? ⟨ub, k, none⟩ = some (.bool (decide (k ∈ arr))) ∧ wo.frozen? ⟨ub, k, none⟩ = false from ⟨(arr_cell HUBr.out k).trans (HTD.out.2 k hk), arr_frozen HUBr.out k⟩))
            generalize hnl : L.length - arr.length = nl at *
            by_cases hno0 : 0 < no
            · have HOO := hide (HDO.out.2 (by rintro rfl; simp at hlo; omega))
              obtain ⟨b, f, hado, hbl, hcs⟩ := HOO.out
              subst hado
              have hmod : arr.length % no < no := Nat.mod_lt _ hno0
              have hml : arr.length % no < os.length := by omega
              have hbw : b < w00.heap.size := Nat.lt_of_lt_of_le hbl HBXK.out.size
              have c0 := (hBw.cell (p := ⟨b, f + arr.length % no, none⟩) hbw).trans ((HBXK.out.cell (p := ⟨b, f + arr.length % no, none⟩) (by rw [← hXX]; exact hbl)).trans (hcs _ hml))
              have hzb := HZO.out (os.getD (arr.length % no) 0) (by rw [List.getD_eq_getElem?_getD, List.getElem?_eq_getElem hml]; exact List.getElem_mem hml)
              have hidx : Int.tmod (arr.length : Int) (no : Int) = ((arr.length % no : Nat) : Int) := by rw [Int.tmod_eq_emod_of_nonneg (by omega)]; simp
              have hidx2 : (arr.length : Int) % (no : Int) = ((arr.length % no : Nat) : Int) := by simp
              clear hcs HOO hBw
              generalize os.getD (arr.length % no) 0 = z at *
              generalize arr.length % no = q at *
              have i2 : (0 : Int) < (no : Int) := by omega
              have i3 : (q : Int) < (no : Int) := by omega
              have i4 : ((no : Int) == 0) = false := by rw [beq_eq_false_iff_ne]; omega
              go_wp2_with fail
              refine (pick_any z (L.length : Int) _ hzb.1 hzb.2 (by omega) (by omega)).mono ?_
              rintro e w8 ⟨rfl, hw8⟩
              have hw8' := hw8.symm
              subst hw8'
              have hpb := pk_bd z (L.length : Int) (by omega)
              obtain ⟨k0, hk0⟩ := Int.eq_ofNat_of_zero_le hpb.1
              rw [hk0] at hpb ⊢
              have hk0L : k0 < L.length := by omega
              clear hk0 hpb c0 hidx hidx2
              go_wp2_with fail
              go_loopw [25] (fun a25 wi => ∃ k : Nat, k < L.length ∧ a25 = .int .i64 k ∧ wi = wo) (fun a25 _ => dU u L.length (intOf a25).toNat)
              case atStart => exact ⟨k0, hk0L, rfl, rfl⟩
              case round =>
                obtain ⟨k, hk, rfl, hwr⟩ := hrel
                have hwr' := hwr.symm
                subst hwr'
                obtain ⟨ck, fk⟩ := HTK.out k hk
                have i5 : (k : Int) < (L.length : Int) := by omega
                by_cases hka : k ∈ arr
                · rw [decide_eq_true hka] at ck
                  have hne : k ≠ u := by rintro rfl; exact hua hka
                  have hm1 : Int.tmod ((k : Int) + 1) (L.length : Int) = (((k + 1) % L.length : Nat) : Int) := by rw [Int.tmod_eq_emod_of_nonneg (by omega)]; simp
                  have hm2 : ((k : Int) + 1) % (L.length : Int) = (((k + 1) % L.length : Nat) : Int) := by simp
                  have hm3 : ((L.length : Int) == 0) = false := by rw [beq_eq_false_iff_ne]; omega
                  have hm4 : ¬ (L.length : Int) = 0 := by omega
                  have hm5 : IntKind.i64.wrap ((k : Int) + 1) = (k : Int) + 1 := by rw [IntKind.wrap_i64]; omega
                  have HMS := hide (dU_step u L.length k huL hk hne)
                  have hlt2 : (k + 1) % L.length < L.length := Nat.mod_lt _ (by omega)
                  generalize (k + 1) % L.length = k2 at *
                  go_wp2
                  go_roundw
                  case rel => exact ⟨k2, hlt2, rfl, trivial⟩
                  case measure => simpa [intOf] using HMS.out
                · rw [decide_eq_false hka] at ck
                  have HIk := hide (HIS.out l base g cv L xb ub arr wo k (.bool true) HI.out)
                  have HTk := hide (told_more HTD.out k hk)
                  have HUk : Hid ((wo.setCell ⟨ub, k, none⟩ (.bool true)).heap[ub]? = some (.cells (C.set! k (.bool true)) 4 (0, 0))) := row_setCell HUBr.out _
                  obtain ⟨x, hx⟩ : ∃ x, L[k]? = some x := ⟨_, List.getElem?_eq_getElem hk⟩
                  obtain ⟨d0, d1, d2, d3, d4, d5, d6, d7, d8⟩ := (HIP.out _ _ _ _ _ _ _ _ _ HIk.out).1.cells k x hx
                  have hgI := (HIP.out _ _ _ _ _ _ _ _ _ HIk.out).2.1
                  have HPX := hide (HPD.out L x base _ HDG.out (List.mem_of_getElem? hx) ((HIP.out _ _ _ _ _ _ _ _ _ HIk.out).1.2 x (List.mem_of_getElem? hx)))
                  have HAR := hide (fun rep gb cb w1 h1 h2 h3 h4 => HA.out l base g cv L xb ub arr k x rep gb x.bytes.length cb _ w1 hx hka h1 h2 HIk.out h3 h4)
                  generalize x.bytes.length = ln at *
                  have HND2 : Hid ((arr ++ [k]).Nodup) := by
                    show (arr ++ [k]).Nodup
                    rw [List.nodup_append]
                    exact ⟨HNOD.out, by simp, fun a ha b hb => by rw [List.mem_singleton.1 hb]; rintro rfl; exact hka ha⟩
                  have HAL2 : Hid (∀ j ∈ arr ++ [k], j < L.length) := fun j hj => by
                    rcases List.mem_append.1 hj with hj | hj
                    · exact HAL.out j hj
                    · rw [List.mem_singleton.1 hj]; exact hk
                  clear HTK
                  go_wp2_with fail
                  generalize wo.setCell ⟨ub, k, none⟩ (.bool true) = wp at *
                  clear ck fk HI HTD HUBr
                  refine HPX.out.mono ?_
                  rintro e w9 ⟨gb, cb, rfl, hrow9, hb9⟩
                  have hgb := hide (And.intro hrow9 hb9)
                  clear hrow9 hb9 HPX d0 d1 d2 d3 d4 d5 d6 d7 d8 hgI
                  have hwb : ∀ y : Int, -9223372036854775808 ≤ wrap64 y ∧ wrap64 y ≤ 9223372036854775807 := fun y => by unfold wrap64; omega
                  go_wp2_with fail
                  refine (pick_any _ (N : Int) _ (hwb _).1 (hwb _).2 (by omega) (by omega)).mono ?_
                  rintro e w10 ⟨rfl, hw10⟩
                  have hw10' := hw10.symm
                  subst hw10'
                  have hpr := pk_bd (wrap64 ((k : Int) + (arr.length : Int) + tail)) (N : Int) (by omega)
                  generalize pk (wrap64 ((k : Int) + (arr.length : Int) + tail)) (N : Int) = rep at *
                  have HAK := hide (HAR.out rep gb cb w9 hpr.1 hpr.2 hgb.out.2 hgb.out.1)
                  clear HAR hgb
                  go_wp2_with fail
                  refine HAK.out.mono ?_
                  rintro e w11 ⟨rfl, hI11, hub11⟩
                  have HI11 := hide hI11
                  have HUB11 : Hid (w11.heap[ub]? = some (.cells (C.set! k (.bool true)) 4 (0, 0))) := hub11.trans HUk.out
                  clear hI11 hub11 HAK
                  have HNL := hide hnl
                  go_wp2
                  go_roundw
                  case rel => exact ⟨arr ++ [k], _, by simp; omega, HND2.out, HAL2.out, by rw [List.length_append]; have := HNL.out; simp; omega, by simp, HI11.out, HTk.out, HUB11.out⟩
                  case measure => simp [intOf]; omega
            · obtain rfl : no = 0 := by omega
              clear hBw
              go_wp2_with fail
              go_loopw [25] (fun a25 wi => ∃ k : Nat, k < L.length ∧ a25 = .int .i64 k ∧ wi = wo) (fun a25 _ => dU u L.length (intOf a25).toNat)
              case atStart => exact ⟨0, by omega, rfl, rfl⟩
              case round =>
                obtain ⟨k, hk, rfl, hwr⟩ := hrel
                have hwr' := hwr.symm
                subst hwr'
                obtain ⟨ck, fk⟩ := HTK.out k hk
                have i5 : (k : Int) < (L.length : Int) := by omega
                by_cases hka : k ∈ arr
                · rw [decide_eq_true hka] at ck
                  have hne : k ≠ u := by rintro rfl; exact hua hka
                  have hm1 : Int.tmod ((k : Int) + 1) (L.length : Int) = (((k + 1) % L.length : Nat) : Int) := by rw [Int.tmod_eq_emod_of_nonneg (by omega)]; simp
                  have hm2 : ((k : Int) + 1) % (L.length : Int) = (((k + 1) % L.length : Nat) : Int) := by simp
                  have hm3 : ((L.length : Int) == 0) = false := by rw [beq_eq_false_iff_ne]; omega
                  have hm4 : ¬ (L.length : Int) = 0 := by omega
                  have hm5 : IntKind.i64.wrap ((k : Int) + 1) = (k : Int) + 1 := by rw [IntKind.wrap_i64]; omega
                  have HMS := hide (dU_step u L.length k huL hk hne)
                  have hlt2 : (k + 1) % L.length < L.length := Nat.mod_lt _ (by omega)
                  generalize (k + 1) % L.length = k2 at *
                  go_wp2
                  go_roundw
                  case rel => exact ⟨k2, hlt2, rfl, trivial⟩
                  case measure => simpa [intOf] using HMS.out
                · rw [decide_eq_false hka] at ck
                  have HIk := hide (HIS.out l base g cv L xb ub arr wo k (.bool true) HI.out)
                  have HTk := hide (told_more HTD.out k hk)
                  have HUk : Hid ((wo.setCell ⟨ub, k, none⟩ (.bool true)).heap[ub]? = some (.cells (C.set! k (.bool true)) 4 (0, 0))) := row_setCell HUBr.out _
                  obtain ⟨x, hx⟩ : ∃ x, L[k]? = some x := ⟨_, List.getElem?_eq_getElem hk⟩
                  obtain ⟨d0, d1, d2, d3, d4, d5, d6, d7, d8⟩ := (HIP.out _ _ _ _ _ _ _ _ _ HIk.out).1.cells k x hx
                  have hgI := (HIP.out _ _ _ _ _ _ _ _ _ HIk.out).2.1
                  have HPX := hide (HPD.out L x base _ HDG.out (List.mem_of_getElem? hx) ((HIP.out _ _ _ _ _ _ _ _ _ HIk.out).1.2 x (List.mem_of_getElem? hx)))
                  have HAR := hide (fun rep gb cb w1 h1 h2 h3 h4 => HA.out l base g cv L xb ub arr k x rep gb x.bytes.length cb _ w1 hx hka h1 h2 HIk.out h3 h4)
                  generalize x.bytes.length = ln at *
                  have HND2 : Hid ((arr ++ [k]).Nodup) := by
                    show (arr ++ [k]).Nodup
                    rw [List.nodup_append]
                    exact ⟨HNOD.out, by simp, fun a ha b hb => by rw [List.mem_singleton.1 hb]; rintro rfl; exact hka ha⟩
                  have HAL2 : Hid (∀ j ∈ arr ++ [k], j < L.length) := fun j hj => by
                    rcases List.mem_append.1 hj with hj | hj
                    · exact HAL.out j hj
                    · rw [List.mem_singleton.1 hj]; exact hk
                  clear HTK
                  go_wp2_with fail
                  generalize wo.setCell ⟨ub, k, none⟩ (.bool true) = wp at *
                  clear ck fk HI HTD HUBr
                  refine HPX.out.mono ?_
                  rintro e w9 ⟨gb, cb, rfl, hrow9, hb9⟩
                  have hgb := hide (And.intro hrow9 hb9)
                  clear hrow9 hb9 HPX d0 d1 d2 d3 d4 d5 d6 d7 d8 hgI
                  have hwb : ∀ y : Int, -9223372036854775808 ≤ wrap64 y ∧ wrap64 y ≤ 9223372036854775807 := fun y => by unfold wrap64; omega
                  go_wp2_with fail
                  refine (pick_any _ (N : Int) _ (hwb _).1 (hwb _).2 (by omega) (by omega)).mono ?_
                  rintro e w10 ⟨rfl, hw10⟩
                  have hw10' := hw10.symm
                  subst hw10'
                  have hpr := pk_bd (wrap64 ((k : Int) + (arr.length : Int) + tail)) (N : Int) (by omega)
                  generalize pk (wrap64 ((k : Int) + (arr.length : Int) + tail)) (N : Int) = rep at *
                  have HAK := hide (HAR.out rep gb cb w9 hpr.1 hpr.2 hgb.out.2 hgb.out.1)
                  clear HAR hgb
                  go_wp2_with fail
                  refine HAK.out.mono ?_
                  rintro e w11 ⟨rfl, hI11, hub11⟩
                  have HI11 := hide hI11
                  have HUB11 : Hid (w11.heap[ub]? = some (.cells (C.set! k (.bool true)) 4 (0, 0))) := hub11.trans HUk.out
                  clear hI11 hub11 HAK
                  have HNL := hide hnl
                  go_wp2
                  go_roundw
                  case rel => exact ⟨arr ++ [k], _, by simp; omega, HND2.out, HAL2.out, by rw [List.length_append]; have := HNL.out; simp; omega, by simp, HI11.out, HTk.out, HUB11.out⟩
                  case measure => simp [intOf]; omega
          · have hal : arr.length = L.length := by omega
            have i1 : ¬ ((0 : Int) < ((L.length - arr.length : Nat) : Int)) := by omega
            have hnl0 : L.length - arr.length = 0 := by omega
            rw [hnl0, hal]
            have x9 : ∀ j, wo.cell? ⟨X, j, none⟩ = #[.int .u16 src, .int .u16 dst, .int .u16 id, .int .u8 proto, .int .u16 sport, .int .u16 dport][j]? := fun j => (hBw.cell (p := ⟨X, j, none⟩) hYK).trans (HXK.out j)
            have hYo : X < wo.heap.size := Nat.lt_of_lt_of_le hYK hBw.size
            have HWW := hide (fun rep gb ln cb w1 h1 h2 h3 => HW.out l base g cv L xb ub arr rep gb ln cb wo w1 h1 hal HI.out h2 h3)
            clear i1 hnl0
            go_wp2_with fail
            refine (HPKZ.out _).mono ?_
            rintro e w12 ⟨aq2, cq2, rfl, hhq, hnq, hb12⟩
            have HPP := hide (HPW.out aq2 cq2 w12 hhq hnq)
            have HB12 := hide hb12
            clear hhq hnq hb12
            go_wp2_with fail
            refine HPP.out.mono ?_
            rintro e w13 ⟨gw, cw, rfl, hrow13, hb13⟩
            have HAW := hide (fun rep h1 => HWW.out rep gw _ cw w13 h1 (HB12.out.trans (hb13.mono HB12.out.size)) (ownsRow_base hrow13 HB12.out.size))
            generalize (pkL src dst proto id 0 false sport dport (fl 0 0)).length = lw at *
            clear hrow13 hb13 HWW HPP x9 hYo
            go_wp2_with fail
            refine (HAW.out _ (by omega)).mono ?_
            rintro e w14 ⟨rfl, j, hj8, hQ⟩
            have HSS := hide (HS.out l L.length xb j w14 hj8 hQ)
            clear hQ HAW
            go_wp2_with fail
            refine HSS.out.mono ?_
            rintro e w15 ⟨rfl, hQ0⟩
            have HTT := hide (HT.out l L.length xb w15 hQ0)
            clear hQ0 HSS
            go_wp2_with fail
            refine HTT.out.mono ?_
            rintro e w16 ⟨ge, ce, vs, rfl, hvl, hge, hcell, hvnd, hR⟩
            rw [htof] at hcell
            have HVND := hide hvnd
            have HR2 := hide (HRR.out xb w16 _ w16.heap.size hR ((Below.refl _ _).alloc (Nat.le_refl _) (.cells (Array.replicate (L.length + 1) (.bool false)) 4)) (Nat.le_refl _) (by simp))
            have HTB : Hid ((w16.alloc (.cells (Array.replicate (L.length + 1) (.bool false)) 4)).heap[w16.heap.size]? = some (.cells (Array.replicate (L.length + 1) (.bool false)) 4 (0, 0))) := heap_alloc_new _ _
            have HEV : Hid (EvD (w16.alloc (.cells (Array.replicate (L.length + 1) (.bool false)) 4)) w16.heap.size ge vs) := by
              have hB := (Below.refl w16.heap.size w16).alloc (Nat.le_refl _) (.cells (Array.replicate (L.length + 1) (.bool false)) 4)
              refine ⟨by omega, Nat.lt_of_lt_of_le hge hB.size, fun q v hq => ?_⟩
              obtain ⟨⟨a0, a1, a2⟩, a3, a4, a5⟩ := hcell q v hq
              rw [a4, a5]
              exact ⟨(hB.cell (p := ⟨ge, q * 3, none⟩) hge).trans a0, (hB.cell (p := ⟨ge, q * 3 + 1, none⟩) hge).trans a1, (hB.cell (p := ⟨ge, q * 3 + 2, none⟩) hge).trans a2⟩
            have HVV : Hid (∀ (q : Nat) (v : Ev), vs[q]? = some v → v.seq ≤ L.length ∧ v.fate = 0 ∧ v.whr = tb) := fun q v hq => (hcell q v hq).2
            have hmk2 := make_bool (L.length + 1) (by omega)
            have hmk3 : ((L.length + 1 : Nat) : Int) = (L.length : Int) + 1 := by omega
            rw [hmk3] at hmk2
            clear hcell hvnd hR HTT HI HTD HUBr
            go_wp2_with fail
            generalize w16.alloc (.cells (Array.replicate (L.length + 1) (.bool false)) 4) = w17 at *
            generalize w16.heap.size = tbb at *
            go_loopw [35] (fun a35 wr => ∃ (q : Nat) (C' : Array Value), q ≤ L.length + 1 ∧ a35 = .int .i64 q ∧ Hid (R2 xb tbb wr) ∧ Hid (Told C' (L.length + 1) ((vs.take q).map Ev.seq)) ∧ Hid (wr.heap[tbb]? = some (.cells C' 4 (0, 0))) ∧ Hid (EvD wr tbb ge vs)) (fun a35 _ => L.length + 1 - (intOf a35).toNat)
            case atStart => exact ⟨0, _, by omega, rfl, HR2.out, told_start _, HTB.out, HEV.out⟩
            case round =>
              obtain ⟨q, C', hq, rfl, HR, HTq, HTBq, HEq⟩ := hrel
              clear HR2 HTB HEV hmk2 hmk3
              by_cases hql : q < L.length + 1
              · obtain ⟨ve, hve⟩ : ∃ ve, vs[q]? = some ve := ⟨_, List.getElem?_eq_getElem (by omega)⟩
                obtain ⟨hsA, hf0, hw0'⟩ := HVV.out q ve hve
                obtain ⟨e0, e1, e2⟩ := HEq.out.2.2 q ve hve
                rw [hf0] at e1
                rw [hw0'] at e2
                have hgr := HEq.out.2.1
                have htr : tbb < wr.heap.size := lt_of_block HTBq.out
                have hsn : ve.seq < L.length + 1 := by omega
                have hfresh := fresh_seq2 vs q ve hve HVND.out
                have ct : wr.cell? ⟨tbb, ve.seq, none⟩ = some (.bool false) := by
                  rw [arr_cell HTBq.out, HTq.out.2 _ hsn, decide_eq_false hfresh]
                have ft : wr.frozen? ⟨tbb, ve.seq, none⟩ = false := arr_frozen HTBq.out _
                have HTN : Hid (Told (C'.set! ve.seq (.bool true)) (L.length + 1) ((vs.take (q + 1)).map Ev.seq)) := by
                  show Told _ _ _
                  rw [take_snoc2 vs q ve hve]
                  exact told_more HTq.out ve.seq hsn
                have HNX : Hid (∀ O, R2 xb tbb ((wr.setCell ⟨tbb, ve.seq, none⟩ (.bool true)).alloc O) ∧ EvD ((wr.setCell ⟨tbb, ve.seq, none⟩ (.bool true)).alloc O) tbb ge vs ∧ ((wr.setCell ⟨tbb, ve.seq, none⟩ (.bool true)).alloc O).heap[tbb]? = some (.cells (C'.set! ve.seq (.bool true)) 4 (0, 0))) := by
                  intro O
                  have hrs := row_setCell (j := ve.seq) HTBq.out (.bool true)
                  have hB : Below (wr.setCell ⟨tbb, ve.seq, none⟩ (.bool true)).heap.size (wr.setCell ⟨tbb, ve.seq, none⟩ (.bool true)) ((wr.setCell ⟨tbb, ve.seq, none⟩ (.bool true)).alloc O) := (Below.refl _ _).alloc (Nat.le_refl _) O
                  exact ⟨HRD.out _ _ _ _ (HRS.out _ _ _ _ _ HR.out) hB, (HEq.out.set _ _).below hB, (hB.block tbb (lt_of_block hrs)).trans hrs⟩
                generalize ve.seq = sq at *
                clear hve hfresh hf0 hw0'
                have j1 : (q : Int) < (L.length : Int) + 1 := by omega
                have j2 : ¬ ((L.length : Int) < (sq : Int)) := by omega
                have j3 : (sq : Int) < (L.length : Int) + 1 := by omega
                go_wp2
                go_roundw
                case rel => exact ⟨q + 1, _, by omega, by go_num, (HNX.out _).1, HTN.out, (HNX.out _).2.2, (HNX.out _).2.1⟩
                case measure => simp [intOf]; omega
              · clear HTq HTBq HEq HVV HVND
                go_wp2_with fail
                go_loopw [37] (fun a37 wr => ∃ (z : Nat), z ≤ N ∧ a37 = .int .i64 z ∧ Hid (R2 xb tbb wr)) (fun a37 _ => N - (intOf a37).toNat)
                case atStart => exact ⟨0, by omega, rfl, HR.out⟩
                case round =>
                  obtain ⟨z, hz, rfl, HRz⟩ := hrel
                  by_cases hzN : z < N
                  · have HHz := hide (HH.out xb tbb z wr hzN HRz.out)
                    have j1 : (z : Int) < (N : Int) := by omega
                    go_wp2_with fail
                    refine HHz.out.mono ?_
                    rintro e w18 ⟨rfl, hR18⟩
                    have HR18 := hide hR18
                    clear hR18 HHz
                    go_wp2
                    go_roundw
                    case rel => exact ⟨z + 1, by omega, by go_num, HRD.out _ _ _ _ HR18.out ((Below.refl _ _).alloc (Nat.le_refl _) _)⟩
                    case measure => simp [intOf]; omega
                  · have HBE := hide (HBXK.out.trans ((HRB.out _ _ _ HRz.out).mono (Nat.le_of_lt hYK)))
                    go_wp2
                    go_ret
                    exact ⟨rfl, by rw [hXX]; exact HBE.out⟩

end Go.Proofs.Ytajphdppmdoalaa
