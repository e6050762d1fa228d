import Derived.Test.YtajphdppmdoalaaZQItoQI
namespace Go.Proofs.Ytajphdppmdoalaa
open Go.RowKit
set_option linter.unusedVariables false

/-- A packet as it lies in memory: what its bytes are filled with, and where they lie. -/
structure PV where
  p : Pk
  fill : Int
  ao : Option Addr
  cap : Nat
def PV.cells (x : PV) : List Value := x.p.cells (.slice x.ao x.p.dlen x.cap)
theorem PV.len (x : PV) : x.cells.length = 9 := rfl
/-- Its bytes lie in a row of their own, behind base. -/
def PVok (w : World) (base : Nat) (x : PV) : Prop := w.ownsRow base 5 1 (.slice x.ao x.p.dlen x.cap) x.p.dlen ((fl x.fill x.p.dlen).map (Value.int .u8))
theorem PVok.has {w : World} {base : Nat} {x : PV} (h : PVok w base x) : Has w x.ao (fl x.fill x.p.dlen) ∧ (x.ao = none → x.cap = 0) := by
  obtain ⟨ao, cv, he, h1, h2, h3, h4, h5⟩ := owns_any h
  simp only [Value.slice.injEq] at he
  obtain ⟨e1, _, e2⟩ := he
  subst e1 e2
  exact ⟨h1, h5⟩
theorem PVok.only {w w' : World} {base : Nat} {F : Nat → Prop} {x : PV} (h : PVok w base x) (ho : Only F w w') (hF : ∀ k, base ≤ k → k < w.heap.size → (Value.slice x.ao x.p.dlen x.cap).ownBlock = some k → ¬ F k) : PVok w' base x :=
  own_only h ho (fun g hg => hF g (h.lt g hg).1 (h.lt g hg).2 hg)
theorem PVok.below {w w' : World} {base : Nat} {x : PV} (h : PVok w base x) (hb : Below w.heap.size w w') : PVok w' base x := PVok.only (F := fun _ => False) h (Only.of_below hb) (fun _ _ _ _ hh => hh)
theorem PVok.kept {w w' : World} {base : Nat} {G : Nat → Prop} {x : PV} (h : PVok w base x) (ho : Kp G w w') (hG : ∀ k, base ≤ k → k < w.heap.size → G k) : PVok w' base x := PVok.only h ho (fun k h1 h2 _ hh => hh (hG k h1 h2))
theorem PVok.less {w : World} {base base' : Nat} {x : PV} (h : PVok w base x) (hb : base' ≤ base) : PVok w base' x := ownsRow_base h hb
/-- A row of packets in the making: of another tag than bytes and ints. -/
theorem PVok.grown {w w' : World} {base n : Nat} {v : Value} {ys : List Value} {x : PV} (h : PVok w base x) (hr : w.ownsRow base 28 9 v n ys) (hg : w.grownBy w' v.ownBlock) : PVok w' base x :=
  PVok.only h (Only.of_grown hg) (fun k _ _ hk hv => own_apart' h hr (by decide) hk hv)

theorem packet_own (src dst id proto sport dport : Int) (u : Nat) (n : Nat) (more : Bool) (fill ni : Int) (w : World) (hoff : u ≤ 15) (hn : n ≤ 32) (hni : ni = (n : Int)) :
    Calls Try.prog 10 #[.agg #[.int .u16 src, .int .u16 dst, .int .u16 id, .int .u8 proto, .int .u16 sport, .int .u16 dport], .int .i64 (u : Int), .int .i64 ni, .bool more, .int .i64 fill] w fun e w' => ∃ ao cap sp dp, e = .returned (.agg #[.int .u16 src, .int .u16 dst, .int .u8 proto, .int .u16 id, .int .u8 (u : Int), .bool more, .int .u16 sp, .int .u16 dp, .slice ao n cap]) ∧ pkAt src dst proto id sport dport u more n = ⟨src, dst, proto, id, u, more, sp, dp, n⟩ ∧ PVok w' w.heap.size ⟨⟨src, dst, proto, id, u, more, sp, dp, n⟩, fill, ao, cap⟩ ∧ Below w.heap.size w w' := by
  subst hni
  by_cases h0 : (u : Int) = 0
  · obtain rfl : u = 0 := by omega
    refine (packet_0 src dst id proto sport dport n more fill w hn).mono ?_
    rintro e w' ⟨v, rfl, hrow, hb⟩
    obtain ⟨ao, cv, rfl, h1, h2, h3, h4, h5⟩ := owns_any hrow
    exact ⟨ao, cv, sport, dport, rfl, rfl, hrow, hb⟩
  · refine (packet_1 src dst id proto sport dport u n more fill w (by omega) (by omega) (by simpa using h0) hn).mono ?_
    rintro e w' ⟨v, rfl, hrow, hb⟩
    obtain ⟨ao, cv, rfl, h1, h2, h3, h4, h5⟩ := owns_any hrow
    exact ⟨ao, cv, 0, 0, rfl, by simp only [pkAt, h0, if_false], hrow, hb⟩
theorem cut_get (src dst proto id sport dport : Int) (u : Nat) (r : List Nat) (t i : Nat) (h : i < r.length) : (cutD src dst proto id sport dport u r t)[i]? = some (pkAt src dst proto id sport dport ((u :: r).getD i 0 : Nat) true (4 * ((u :: r).getD (i + 1) 0 - (u :: r).getD i 0))) := by
  induction r generalizing u i with
  | nil => simp at h
  | cons v r ih =>
    cases i with
    | zero => rfl
    | succ i =>
      rw [cutD, List.getElem?_cons_succ, ih v i (by simpa using h)]
      rfl
theorem cut_end (src dst proto id sport dport : Int) (u : Nat) (r : List Nat) (t : Nat) : (cutD src dst proto id sport dport u r t)[r.length]? = some (pkAt src dst proto id sport dport ((u :: r).getD r.length 0 : Nat) false t) := by
  induction r generalizing u with
  | nil => rfl
  | cons v r ih =>
    rw [cutD, List.length_cons, List.getElem?_cons_succ, ih v]
    rfl
theorem cut_length (src dst proto id sport dport : Int) (u : Nat) (r : List Nat) (t : Nat) : (cutD src dst proto id sport dport u r t).length = r.length + 1 := by
  induction r generalizing u with
  | nil => rfl
  | cons v r ih => rw [cutD, List.length_cons, ih v, List.length_cons]
theorem at_bd (m u : Nat) (r : List Nat) (i : Nat) (hr : rises u r) (hg : gapsLe m u r) (h : i < r.length) : (u :: r).getD i 0 < (u :: r).getD (i + 1) 0 ∧ (u :: r).getD (i + 1) 0 ≤ (u :: r).getD i 0 + m ∧ (u :: r).getD (i + 1) 0 ≤ lastU u r := by
  induction r generalizing u i with
  | nil => simp at h
  | cons v r ih =>
    cases i with
    | zero => exact ⟨hr.1, hg.1, last_ge v r hr.2⟩
    | succ i => exact ih v i hr.2 hg.2 (by simpa using h)
theorem at_last (u : Nat) (r : List Nat) : (u :: r).getD r.length 0 = lastU u r := by
  induction r generalizing u with
  | nil => rfl
  | cons v r ih => exact ih v

theorem Try.infoPk : (Try.prog.info? 28).map (fun i => (i.zero, i.size, i.bytes)) = some (some (.agg #[.int .u16 0, .int .u16 0, .int .u8 0, .int .u16 0, .int .u8 0, .bool false, .int .u16 0, .int .u16 0, .slice none 0 0]), 9, 40) := by kernel_rfl

set_option maxRecDepth 100000 in
set_option maxHeartbeats 1600000 in
theorem pieces_any (src dst id proto sport dport : Int) (zs : List Int) (m n cap : Nat) (ao : Option Addr) (tail : Int) (w : World) (hl : zs.length = n) (hm : m ≤ 7) (hz : ∀ z ∈ zs, -9223372036854775808 ≤ z ∧ z ≤ 9223372036854775807 ∧ pk z 8 ≤ m) (hd : HasZ w ao zs) (hn : n ≤ 9223372036854775807) (ht : -9223372036854775808 ≤ tail ∧ tail ≤ 9223372036854775807) :
    Calls Try.prog 17 #[.agg #[.int .u16 src, .int .u16 dst, .int .u16 id, .int .u8 proto, .int .u16 sport, .int .u16 dport], .slice ao n cap, .int .i64 tail] w fun e w' => ∃ (v : Value) (L : List PV) (r : List Nat) (t : Nat), e = .returned v ∧ w'.ownsRow w.heap.size 28 9 v L.length (L.flatMap PV.cells) ∧ (∀ x ∈ L, PVok w' w.heap.size x) ∧ L.map PV.p = cutD src dst proto id sport dport 0 r t ∧ rises 0 r ∧ gapsLe (m + 1) 0 r ∧ lastU 0 r ≤ 15 ∧ 1 ≤ r.length ∧ (r.length ≤ 7 ∧ (r.length ≤ n ∨ r.length = 1)) ∧ (t : Int) = 1 + pk tail 32 ∧ Below w.heap.size w w' := by
  obtain ⟨i0, hi, hz0, hz1, hz2⟩ := info_parts Try.infoPk
  have HW0 : Hid (FxW w.heap.size w #[.int .u16 src, .int .u16 dst, .int .u16 id, .int .u8 proto, .int .u16 sport, .int .u16 dport] (w.alloc (.cells #[.int .u16 src, .int .u16 dst, .int .u16 id, .int .u8 proto, .int .u16 sport, .int .u16 dport] 24))) := ⟨(Below.refl _ _).alloc (Nat.le_refl _) _, by simp, box_cell (Below.refl _ _)⟩
  have HCUT := hide (cut_any zs m n cap ao (w.alloc (.cells #[.int .u16 src, .int .u16 dst, .int .u16 id, .int .u8 proto, .int .u16 sport, .int .u16 dport] 24)) hl hm hz (hd.below ((Below.refl _ _).alloc (Nat.le_refl _) _)) hn)
  have HX : Hid (∀ j, (w.alloc (.cells #[.int .u16 src, .int .u16 dst, .int .u16 id, .int .u8 proto, .int .u16 sport, .int .u16 dport] 24)).cell? ⟨w.heap.size, j, none⟩ = #[.int .u16 src, .int .u16 dst, .int .u16 id, .int .u8 proto, .int .u16 sport, .int .u16 dport][j]?) := HW0.out.2.2
  have HBW := hide HW0.out.1
  have hY : (w.alloc (.cells #[.int .u16 src, .int .u16 dst, .int .u16 id, .int .u8 proto, .int .u16 sport, .int .u16 dport] 24)).heap.size = w.heap.size + 1 := by simp
  have hpt := pk_bd tail 32 (by decide)
  obtain ⟨t, htt⟩ : ∃ t : Nat, (t : Int) = 1 + pk tail 32 := ⟨(1 + pk tail 32).toNat, by omega⟩
  have HPT := hide (fun w => pick_any tail 32 w ht.1 ht.2 (by decide) (by decide))
  have hTw : IntKind.i64.wrap (1 + pk tail 32) = (t : Int) := by rw [← htt, IntKind.wrap_i64]; omega
  have ht32 : 1 ≤ t ∧ t ≤ 32 := by omega
  have HTT := hide htt
  generalize pk tail 32 = pt at HPT hTw HTT ⊢
  clear HW0 htt hpt
  generalize hX : w.heap.size = X at *
  go_enter Try.func17, Try.ntmps17
  go_wp2_with fail
  generalize w.alloc (.cells #[.int .u16 src, .int .u16 dst, .int .u16 id, .int .u8 proto, .int .u16 sport, .int .u16 dport] 24) = w0 at *
  refine HCUT.out.mono ?_
  rintro e w1 ⟨v, r, rfl, hrow, h1, h2, h3, ⟨h4, h4n⟩, hb⟩
  obtain ⟨g, cv, rfl⟩ := (own_shape hrow).resolve_left (by
    rintro rfl
    rcases hrow.2 with ⟨_, h⟩ | ⟨_, _, _, h, _⟩
    · omega
    · simp at h)
  rw [hY] at hrow hb
  have HROW := hide hrow
  have HB1 := hide hb
  have HRG := hide (And.intro h1 (And.intro h2 h3))
  clear hrow hb HCUT h1 h2 h3
  by_cases hr0 : r.length = 0
  · obtain rfl : r = [] := List.eq_nil_of_length_eq_zero hr0
    go_wp2_with fail
    have HROW2 : Hid ((w1.alloc (.cells #[.int .i64 0, .int .i64 1] 3)).ownsRow (X + 1) 3 1 (.slice (some ⟨w1.heap.size, 0, none⟩) (([1] : List Nat).length + 1) 2) (([1] : List Nat).length + 1) ((0 :: [1]).map iv)) := ownsRow_base (own_build w1 3 [.int .i64 0, .int .i64 1] (by decide)) (by have := HB1.out.size; omega)
    have HB2 : Hid (Below (X + 1) w0 (w1.alloc (.cells #[.int .i64 0, .int .i64 1] 3))) := HB1.out.alloc (by have := HB1.out.size; omega) _
    have HRG2 : Hid (rises 0 [1] ∧ gapsLe (m + 1) 0 [1] ∧ lastU 0 [1] ≤ 15) := ⟨⟨by decide, trivial⟩, ⟨by omega, trivial⟩, by decide⟩
    clear HROW HB1 HRG hr0 h4
    generalize w1.alloc (.cells #[.int .i64 0, .int .i64 1] 3) = w2 at *
    have hsl : ∃ (r : List Nat) (cv g2 : Nat), Value.slice (some ⟨w1.heap.size, 0, none⟩) 2 2 = Value.slice (some ⟨g2, 0, none⟩) (r.length + 1) cv ∧ 1 ≤ r.length ∧ r.length ≤ 7 ∧ r.length = 1 ∧ (rises 0 r ∧ gapsLe (m + 1) 0 r ∧ lastU 0 r ≤ 15) ∧ w2.ownsRow (X + 1) 3 1 (.slice (some ⟨g2, 0, none⟩) (r.length + 1) cv) (r.length + 1) ((0 :: r).map iv) := ⟨[1], 2, w1.heap.size, rfl, by decide, by decide, rfl, HRG2.out, HROW2.out⟩
    clear HRG2 HROW2
    obtain ⟨r, cv', g2, hsl, hr1, h4, hr11, hrg, hrow⟩ := hsl
    have HRN : Hid (r.length ≤ n ∨ r.length = 1) := .inr hr11
    clear hr11
    have HRG := hide hrg
    have HROW := hide hrow
    have HB1 := hide HB2.out
    clear hrg hrow HB2
    rw [hsl]
    clear hsl
    go_loopw [8, 9] (fun a8 a9 wr => ∃ (i : Nat) (L : List PV), i ≤ r.length ∧ L.length = i ∧ a9 = .int .i64 i ∧ Hid (wr.ownsRow (X + 1) 28 9 a8 L.length (L.flatMap PV.cells)) ∧ Hid (∀ x ∈ L, PVok wr (X + 1) x) ∧ Hid (L.map PV.p = (cutD src dst proto id sport dport 0 r t).take i) ∧ Hid (wr.ownsRow (X + 1) 3 1 (.slice (some ⟨g2, 0, none⟩) (r.length + 1) cv') (r.length + 1) ((0 :: r).map iv)) ∧ Hid (Below (X + 1) w0 wr)) (fun _ a9 _ => r.length - (intOf a9).toNat)
    case atStart => exact ⟨0, [], by omega, rfl, rfl, World.ownsRow_nil _ _ _ _, by simp [Hid], by simp [Hid], HROW.out, HB1.out⟩
    case round =>
      obtain ⟨i, L, hir, hLi, rfl, HL, HPV, HLP, HAT, HB⟩ := hrel
      have hXw : X + 1 ≤ wr.heap.size := by have := HB.out.size; omega
      have hgw := HAT.out.lt g2 rfl
      have xf : ∀ j, wr.cell? ⟨X, j, none⟩ = #[.int .u16 src, .int .u16 dst, .int .u16 id, .int .u8 proto, .int .u16 sport, .int .u16 dport][j]? := fun j => (HB.out.cell (p := ⟨X, j, none⟩) (by show X < X + 1; omega)).trans (HX.out j)
      by_cases hlt : i < r.length
      · have hbd := at_bd (m + 1) 0 r i HRG.out.1 HRG.out.2.1 hlt
        have hla := HRG.out.2.2
        have c0 : wr.cell? ⟨g2, i, none⟩ = some (.int .i64 ((0 :: r).getD i 0 : Nat)) := by
          rw [HAT.out.cellAt i (by omega), List.getElem?_map, List.getD_eq_getElem?_getD, List.getElem?_eq_getElem (by simp; omega)]
          rfl
        have c1 : wr.cell? ⟨g2, i + 1, none⟩ = some (.int .i64 ((0 :: r).getD (i + 1) 0 : Nat)) := by
          rw [HAT.out.cellAt (i + 1) (by omega), List.getElem?_map, List.getD_eq_getElem?_getD, List.getElem?_eq_getElem (by simp; omega)]
          rfl
        have HCG := hide (cut_get src dst proto id sport dport 0 r t i hlt)
        generalize (0 :: r).getD i 0 = u0 at *
        generalize (0 :: r).getD (i + 1) 0 = u1 at *
        obtain ⟨nn, hnn⟩ : ∃ nn : Nat, nn = 4 * (u1 - u0) := ⟨_, rfl⟩
        rw [← hnn] at HCG
        have hnn2 : 4 * u0 + nn = 4 * u1 := by omega
        have hnn3 : nn ≤ 32 := by omega
        clear hnn
        have HPO := hide (fun (ni : Int) wz (hni : ni = (nn : Int)) => packet_own src dst id proto sport dport u0 nn true i ni wz (by omega) hnn3 hni)
        have i1 : (i : Int) + 1 < (r.length : Int) + 1 := by omega
        have i2 : (i : Int) < (r.length : Int) + 1 := by omega
        go_wp2_with fail
        go_quiet (fail)
        go_upto_region 9 with (fail)
        have HSS : Hid (∀ w', Below (X + 1) w0 w' → w'.ownsRow (X + 1) 3 1 (.slice (some ⟨g2, 0, none⟩) (r.length + 1) cv') (r.length + 1) ((0 :: r).map iv) → w'.cell? ⟨X, 0, none⟩ = some (.int .u16 src) ∧ w'.cell? ⟨X, 1, none⟩ = some (.int .u16 dst) ∧ w'.cell? ⟨X, 2, none⟩ = some (.int .u16 id) ∧ w'.cell? ⟨X, 3, none⟩ = some (.int .u8 proto) ∧ w'.cell? ⟨X, 4, none⟩ = some (.int .u16 sport) ∧ w'.cell? ⟨X, 5, none⟩ = some (.int .u16 dport) ∧ w'.cell? ⟨g2, i, none⟩ = some (.int .i64 (u0 : Nat))) := by
          intro w' hb' hat'
          have xq : ∀ j, w'.cell? ⟨X, j, none⟩ = #[.int .u16 src, .int .u16 dst, .int .u16 id, .int .u8 proto, .int .u16 sport, .int .u16 dport][j]? := fun j => (hb'.cell (p := ⟨X, j, none⟩) (by show X < X + 1; omega)).trans (HX.out j)
          exact ⟨xq 0, xq 1, xq 2, xq 3, xq 4, xq 5, (hat'.cellAt i (by omega)).trans ((HAT.out.cellAt i (by omega)).symm.trans c0)⟩
        have HS5 : Hid (∀ w3 O w', Below wr.heap.size wr w3 → World.grownBy (w3.alloc O) w' u8.ownBlock → (w'.cell? ⟨X, 0, none⟩ = some (.int .u16 src) ∧ w'.cell? ⟨X, 1, none⟩ = some (.int .u16 dst) ∧ w'.cell? ⟨X, 2, none⟩ = some (.int .u16 id) ∧ w'.cell? ⟨X, 3, none⟩ = some (.int .u8 proto) ∧ w'.cell? ⟨X, 4, none⟩ = some (.int .u16 sport) ∧ w'.cell? ⟨X, 5, none⟩ = some (.int .u16 dport) ∧ w'.cell? ⟨g2, i, none⟩ = some (.int .i64 (u0 : Nat))) ∧ Below (X + 1) w0 w' ∧ w'.ownsRow (X + 1) 3 1 (.slice (some ⟨g2, 0, none⟩) (r.length + 1) cv') (r.length + 1) ((0 :: r).map iv) ∧ (∀ x, PVok w3 (X + 1) x → PVok w' (X + 1) x) ∧ (∀ x ∈ L, PVok w' (X + 1) x)) := by
          intro w3 O w5 hb3 hg5
          have hsz3 := hb3.size
          have hL3 : (w3.alloc O).ownsRow (X + 1) 28 9 u8 L.length (L.flatMap PV.cells) := (own_only (F := fun _ => False) HL.out (Only.of_below hb3) (fun _ _ hh => hh)).alloc _
          have hA3 : (w3.alloc O).ownsRow (X + 1) 3 1 (.slice (some ⟨g2, 0, none⟩) (r.length + 1) cv') (r.length + 1) ((0 :: r).map iv) := (own_only (F := fun _ => False) HAT.out (Only.of_below hb3) (fun _ _ hh => hh)).alloc _
          have hA5 := own_only hA3 (Only.of_grown hg5) (fun k hk hv => own_apart' hA3 hL3 (by decide) hk hv)
          have hB5 : Below (X + 1) w0 w5 := ((HB.out.trans (hb3.mono hXw)).alloc (by omega) _).grown hg5 (by simp; omega) (fun q hq => by have := (HL.out.lt q hq).1; omega)
          have hP : ∀ x, PVok w3 (X + 1) x → PVok w5 (X + 1) x := fun x hx => PVok.grown (PVok.below hx ((Below.refl _ _).alloc (Nat.le_refl _) O)) hL3 hg5
          exact ⟨HSS.out w5 hB5 hA5, hB5, hA5, hP, fun x hx => hP x (PVok.below (HPV.out x hx) hb3)⟩
        have HBZ : Hid (∀ m w3, Below (wr.drewN m).heap.size (wr.drewN m) w3 → Below wr.heap.size wr w3 ∧ X + 1 ≤ w3.heap.size) := fun m w3 h => ⟨(below_drewN (Below.refl _ _) m).trans h, Nat.le_trans hXw h.size⟩
        have hmx : L.length + 1 ≤ maxLen := by unfold maxLen; omega
        have hby : (L.length + 1) * 40 ≤ 140737488355328 := by omega
        have HBS : Hid (∀ (w3 : World) O, X + 1 ≤ w3.heap.size → X + 1 ≤ (w3.alloc O).heap.size) := fun w3 O h => by rw [World.size_alloc]; omega
        have HON : Hid (∀ (sp dp : Int) (ad : Option Addr) (cp : Nat), ∀ u ∈ [Value.int .u16 src, .int .u16 dst, .int .u8 proto, .int .u16 id, .int .u8 (u0 : Nat), .bool true, .int .u16 sp, .int .u16 dp, .slice ad nn cp], u.oneCell' = true) := by intro sp dp ad cp; simp [Value.oneCell']
        go_region_held3 (fun w' => w'.cell? ⟨X, 0, none⟩ = some (.int .u16 src) ∧ w'.cell? ⟨X, 1, none⟩ = some (.int .u16 dst) ∧ w'.cell? ⟨X, 2, none⟩ = some (.int .u16 id) ∧ w'.cell? ⟨X, 3, none⟩ = some (.int .u8 proto) ∧ w'.cell? ⟨X, 4, none⟩ = some (.int .u16 sport) ∧ w'.cell? ⟨X, 5, none⟩ = some (.int .u16 dport) ∧ w'.cell? ⟨g2, i, none⟩ = some (.int .i64 (u0 : Nat))) (first | go_keep | assumption) (first | (go_at_call 10; refine (HPO.out _ _ (by omega)).mono ?_; rintro e w3 ⟨ad, cp, sp, dp, rfl, hpk, hpv, hb3⟩; have hbz := HBZ.out _ w3 hb3; have hx3 := hbz.2; have hS3 := HSS.out w3 (HB.out.trans (hbz.1.mono hXw)) (own_only (F := fun _ => False) HAT.out (Only.of_below hbz.1) (fun _ _ hh => hh))) | (refine step_append_lies _ (by rfl) (.tmp 35) (.tmp 44) 44 (by rfl) (X + 1) 28 i0 _ 9 40 Try.underlying44 hi hz0 hz1 hz2 rfl (by decide) _ L.length _ (by rfl) ((own_only (F := fun _ => False) HL.out (Only.of_below hbz.1) (fun _ _ hh => hh)).alloc _) ⟨w3.heap.size, 0, none⟩ 1 1 [.int .u16 src, .int .u16 dst, .int .u8 proto, .int .u16 id, .int .u8 u0, .bool true, .int .u16 sp, .int .u16 dp, .slice ad nn cp] (by rfl) (by rfl) (cells_new _ _ _) (HON.out _ _ _ _) (Nat.zero_lt_one) hmx hby (HBS.out w3 _ hx3) _ rfl ?_; intro g5 c5 w5 hown5 hgrow5 hat5 hlt5; have hq5 := HS5.out w3 _ w5 hbz.1 hgrow5; have hS5 := hq5.1))
        have HFIN : Hid (∃ x : PV, w5.ownsRow (X + 1) 28 9 (.slice (some ⟨g5, 0, none⟩) (i + 1) c5) (L ++ [x]).length ((L ++ [x]).flatMap PV.cells) ∧ (∀ y ∈ L ++ [x], PVok w5 (X + 1) y) ∧ (L ++ [x]).map PV.p = (cutD src dst proto id sport dport 0 r t).take (i + 1)) := by
          refine ⟨⟨⟨src, dst, proto, id, u0, true, sp, dp, nn⟩, i, ad, cp⟩, ?_, ?_, ?_⟩
          · rw [List.flatMap_append, List.length_append, ← hLi]
            exact hown5
          · intro y hy
            rcases List.mem_append.1 hy with hy | hy
            · exact hq5.2.2.2.2 y hy
            · rw [List.mem_singleton.1 hy]
              exact hq5.2.2.2.1 _ (PVok.less hpv (by simpa using hXw))
          · rw [List.map_append, HLP.out, List.take_add_one, HCG.out, hpk]
            rfl
        have HB5 := hide hq5.2.1
        have HA5 := hide hq5.2.2.1
        clear hS3 hS5 hq5 hown5 hgrow5 hat5 hpk hpv hb3 hbz HS5 HBZ HSS HPO HCG c0 c1 xf
        go_wp2
        go_roundw
        case rel =>
          obtain ⟨x, k1, k2, k3⟩ := HFIN.out
          exact ⟨i + 1, L ++ [x], by omega, by simp; omega, by go_num, k1, k2, k3, HA5.out, HB5.out⟩
        case measure => simp [intOf]; omega
      · obtain rfl : i = r.length := by omega
        have hla := HRG.out.2.2
        have hal := at_last 0 r
        have c0 : wr.cell? ⟨g2, r.length, none⟩ = some (.int .i64 ((0 :: r).getD r.length 0 : Nat)) := by
          rw [HAT.out.cellAt r.length (by omega), List.getElem?_map, List.getD_eq_getElem?_getD, List.getElem?_eq_getElem (by simp)]
          rfl
        have HCG := hide (cut_end src dst proto id sport dport 0 r t)
        rw [← hal] at hla
        generalize (0 :: r).getD r.length 0 = u0 at *
        clear hal
        have HPO := hide (fun (ni : Int) wz (hni : ni = (t : Int)) => packet_own src dst id proto sport dport u0 t false 100 ni wz (by omega) (by omega) hni)
        have i1 : ¬ ((r.length : Int) + 1 < (r.length : Int) + 1) := by omega
        have HSS : Hid (∀ w', Below (X + 1) w0 w' → w'.ownsRow (X + 1) 3 1 (.slice (some ⟨g2, 0, none⟩) (r.length + 1) cv') (r.length + 1) ((0 :: r).map iv) → w'.cell? ⟨X, 0, none⟩ = some (.int .u16 src) ∧ w'.cell? ⟨X, 1, none⟩ = some (.int .u16 dst) ∧ w'.cell? ⟨X, 2, none⟩ = some (.int .u16 id) ∧ w'.cell? ⟨X, 3, none⟩ = some (.int .u8 proto) ∧ w'.cell? ⟨X, 4, none⟩ = some (.int .u16 sport) ∧ w'.cell? ⟨X, 5, none⟩ = some (.int .u16 dport) ∧ w'.cell? ⟨g2, r.length, none⟩ = some (.int .i64 (u0 : Nat))) := by
          intro w' hb' hat'
          have xq : ∀ j, w'.cell? ⟨X, j, none⟩ = #[.int .u16 src, .int .u16 dst, .int .u16 id, .int .u8 proto, .int .u16 sport, .int .u16 dport][j]? := fun j => (hb'.cell (p := ⟨X, j, none⟩) (by show X < X + 1; omega)).trans (HX.out j)
          exact ⟨xq 0, xq 1, xq 2, xq 3, xq 4, xq 5, (hat'.cellAt r.length (by omega)).trans ((HAT.out.cellAt r.length (by omega)).symm.trans c0)⟩
        have HS5 : Hid (∀ w3 O w', Below wr.heap.size wr w3 → World.grownBy (w3.alloc O) w' u8.ownBlock → (w'.cell? ⟨X, 0, none⟩ = some (.int .u16 src) ∧ w'.cell? ⟨X, 1, none⟩ = some (.int .u16 dst) ∧ w'.cell? ⟨X, 2, none⟩ = some (.int .u16 id) ∧ w'.cell? ⟨X, 3, none⟩ = some (.int .u8 proto) ∧ w'.cell? ⟨X, 4, none⟩ = some (.int .u16 sport) ∧ w'.cell? ⟨X, 5, none⟩ = some (.int .u16 dport) ∧ w'.cell? ⟨g2, r.length, none⟩ = some (.int .i64 (u0 : Nat))) ∧ Below (X + 1) w0 w' ∧ (∀ x, PVok w3 (X + 1) x → PVok w' (X + 1) x) ∧ (∀ x ∈ L, PVok w' (X + 1) x)) := by
          intro w3 O w5 hb3 hg5
          have hsz3 := hb3.size
          have hL3 : (w3.alloc O).ownsRow (X + 1) 28 9 u8 L.length (L.flatMap PV.cells) := (own_only (F := fun _ => False) HL.out (Only.of_below hb3) (fun _ _ hh => hh)).alloc _
          have hA3 : (w3.alloc O).ownsRow (X + 1) 3 1 (.slice (some ⟨g2, 0, none⟩) (r.length + 1) cv') (r.length + 1) ((0 :: r).map iv) := (own_only (F := fun _ => False) HAT.out (Only.of_below hb3) (fun _ _ hh => hh)).alloc _
          have hA5 := own_only hA3 (Only.of_grown hg5) (fun k hk hv => own_apart' hA3 hL3 (by decide) hk hv)
          have hB5 : Below (X + 1) w0 w5 := ((HB.out.trans (hb3.mono hXw)).alloc (by omega) _).grown hg5 (by simp; omega) (fun q hq => by have := (HL.out.lt q hq).1; omega)
          have hP : ∀ x, PVok w3 (X + 1) x → PVok w5 (X + 1) x := fun x hx => PVok.grown (PVok.below hx ((Below.refl _ _).alloc (Nat.le_refl _) O)) hL3 hg5
          exact ⟨HSS.out w5 hB5 hA5, hB5, hP, fun x hx => hP x (PVok.below (HPV.out x hx) hb3)⟩
        have HBZ : Hid (∀ w3, Below wr.drew.heap.size wr.drew w3 → Below wr.heap.size wr w3 ∧ X + 1 ≤ w3.heap.size) := fun w3 h => ⟨((Below.refl _ _).drew).trans h, Nat.le_trans hXw h.size⟩
        have i2 : (r.length : Int) < (r.length : Int) + 1 := by omega
        have i3 : IntKind.i64.wrap (r.length : Int) = (r.length : Int) := by rw [IntKind.wrap_i64]; omega
        go_upto_region 10 with (fail)
        have hmx : L.length + 1 ≤ maxLen := by unfold maxLen; omega
        have hby : (L.length + 1) * 40 ≤ 140737488355328 := by omega
        have HBS : Hid (∀ (w3 : World) O, X + 1 ≤ w3.heap.size → X + 1 ≤ (w3.alloc O).heap.size) := fun w3 O h => by rw [World.size_alloc]; omega
        have HON : Hid (∀ (sp dp : Int) (ad : Option Addr) (cp : Nat), ∀ u ∈ [Value.int .u16 src, .int .u16 dst, .int .u8 proto, .int .u16 id, .int .u8 (u0 : Nat), .bool false, .int .u16 sp, .int .u16 dp, .slice ad t cp], u.oneCell' = true) := by intro sp dp ad cp; simp [Value.oneCell']
        go_region_held3 (fun w' => w'.cell? ⟨X, 0, none⟩ = some (.int .u16 src) ∧ w'.cell? ⟨X, 1, none⟩ = some (.int .u16 dst) ∧ w'.cell? ⟨X, 2, none⟩ = some (.int .u16 id) ∧ w'.cell? ⟨X, 3, none⟩ = some (.int .u8 proto) ∧ w'.cell? ⟨X, 4, none⟩ = some (.int .u16 sport) ∧ w'.cell? ⟨X, 5, none⟩ = some (.int .u16 dport) ∧ w'.cell? ⟨g2, r.length, none⟩ = some (.int .i64 (u0 : Nat))) (first | go_keep | assumption) (first | (go_at_call 9; refine (HPT.out _).mono ?_; rintro e w2 ⟨rfl, rfl⟩) | (go_at_call 10; refine (HPO.out _ _ (by omega)).mono ?_; rintro e w3 ⟨ad, cp, sp, dp, rfl, hpk, hpv, hb3⟩; have hbz := HBZ.out w3 hb3; have hx3 := hbz.2; have hS3 := HSS.out w3 (HB.out.trans (hbz.1.mono hXw)) (own_only (F := fun _ => False) HAT.out (Only.of_below hbz.1) (fun _ _ hh => hh))) | (refine step_append_lies _ (by rfl) (.tmp 46) (.tmp 58) 44 (by rfl) (X + 1) 28 i0 _ 9 40 Try.underlying44 hi hz0 hz1 hz2 rfl (by decide) _ L.length _ (by rfl) ((own_only (F := fun _ => False) HL.out (Only.of_below hbz.1) (fun _ _ hh => hh)).alloc _) ⟨w3.heap.size, 0, none⟩ 1 1 [.int .u16 src, .int .u16 dst, .int .u8 proto, .int .u16 id, .int .u8 u0, .bool false, .int .u16 sp, .int .u16 dp, .slice ad t cp] (by rfl) (by rfl) (cells_new _ _ _) (HON.out _ _ _ _) (Nat.zero_lt_one) hmx hby (HBS.out w3 _ hx3) _ rfl ?_; intro g5 c5 w5 hown5 hgrow5 hat5 hlt5; have hq5 := HS5.out w3 _ w5 hbz.1 hgrow5; have hS5 := hq5.1))
        have HFIN : Hid (∃ x : PV, w5.ownsRow (X + 1) 28 9 (.slice (some ⟨g5, 0, none⟩) (r.length + 1) c5) (L ++ [x]).length ((L ++ [x]).flatMap PV.cells) ∧ (∀ y ∈ L ++ [x], PVok w5 (X + 1) y) ∧ (L ++ [x]).map PV.p = cutD src dst proto id sport dport 0 r t) := by
          refine ⟨⟨⟨src, dst, proto, id, u0, false, sp, dp, t⟩, 100, ad, cp⟩, ?_, ?_, ?_⟩
          · rw [List.flatMap_append, List.length_append, ← hLi]
            exact hown5
          · intro y hy
            rcases List.mem_append.1 hy with hy | hy
            · exact hq5.2.2.2 y hy
            · rw [List.mem_singleton.1 hy]
              exact hq5.2.2.1 _ (PVok.less hpv (by simpa using hXw))
          · have h1 : (cutD src dst proto id sport dport 0 r t).take (r.length + 1) = cutD src dst proto id sport dport 0 r t := List.take_of_length_le (by rw [cut_length]; omega)
            rw [List.map_append, HLP.out, ← h1, List.take_take, Nat.min_eq_left (by omega), List.take_add_one, HCG.out, hpk]
            rfl
        have HB5 := hide hq5.2.1
        clear hS3 hS5 hq5 hown5 hgrow5 hat5 hpk hpv hb3 hbz HS5 HBZ HSS HPO HCG c0 xf
        go_wp2
        go_ret
        obtain ⟨x, k1, k2, k3⟩ := HFIN.out
        exact ⟨_, L ++ [x], r, t, rfl, ownsRow_base k1 (Nat.le_succ X), fun y hy => PVok.less (k2 y hy) (Nat.le_succ X), k3, HRG.out.1, HRG.out.2.1, HRG.out.2.2, hr1, ⟨h4, HRN.out⟩, HTT.out, HBW.out.trans (HB5.out.mono (Nat.le_succ X))⟩
  · have j1 : ¬ ((r.length : Int) + 1 < 2) := by omega
    have hr1 : 1 ≤ r.length := by omega
    have HRN : Hid (r.length ≤ n ∨ r.length = 1) := .inl h4n
    clear hr0 h4n
    go_wp2_with fail
    go_loopw [8, 9] (fun a8 a9 wr => ∃ (i : Nat) (L : List PV), i ≤ r.length ∧ L.length = i ∧ a9 = .int .i64 i ∧ Hid (wr.ownsRow (X + 1) 28 9 a8 L.length (L.flatMap PV.cells)) ∧ Hid (∀ x ∈ L, PVok wr (X + 1) x) ∧ Hid (L.map PV.p = (cutD src dst proto id sport dport 0 r t).take i) ∧ Hid (wr.ownsRow (X + 1) 3 1 (.slice (some ⟨g, 0, none⟩) (r.length + 1) cv) (r.length + 1) ((0 :: r).map iv)) ∧ Hid (Below (X + 1) w0 wr)) (fun _ a9 _ => r.length - (intOf a9).toNat)
    case atStart => exact ⟨0, [], by omega, rfl, rfl, World.ownsRow_nil _ _ _ _, by simp [Hid], by simp [Hid], HROW.out, HB1.out⟩
    case round =>
      obtain ⟨i, L, hir, hLi, rfl, HL, HPV, HLP, HAT, HB⟩ := hrel
      have hXw : X + 1 ≤ wr.heap.size := by have := HB.out.size; omega
      have hgw := HAT.out.lt g rfl
      have xf : ∀ j, wr.cell? ⟨X, j, none⟩ = #[.int .u16 src, .int .u16 dst, .int .u16 id, .int .u8 proto, .int .u16 sport, .int .u16 dport][j]? := fun j => (HB.out.cell (p := ⟨X, j, none⟩) (by show X < X + 1; omega)).trans (HX.out j)
      by_cases hlt : i < r.length
      · have hbd := at_bd (m + 1) 0 r i HRG.out.1 HRG.out.2.1 hlt
        have hla := HRG.out.2.2
        have c0 : wr.cell? ⟨g, i, none⟩ = some (.int .i64 ((0 :: r).getD i 0 : Nat)) := by
          rw [HAT.out.cellAt i (by omega), List.getElem?_map, List.getD_eq_getElem?_getD, List.getElem?_eq_getElem (by simp; omega)]
          rfl
        have c1 : wr.cell? ⟨g, i + 1, none⟩ = some (.int .i64 ((0 :: r).getD (i + 1) 0 : Nat)) := by
          rw [HAT.out.cellAt (i + 1) (by omega), List.getElem?_map, List.getD_eq_getElem?_getD, List.getElem?_eq_getElem (by simp; omega)]
          rfl
        have HCG := hide (cut_get src dst proto id sport dport 0 r t i hlt)
        generalize (0 :: r).getD i 0 = u0 at *
        generalize (0 :: r).getD (i + 1) 0 = u1 at *
        obtain ⟨nn, hnn⟩ : ∃ nn : Nat, nn = 4 * (u1 - u0) := ⟨_, rfl⟩
        rw [← hnn] at HCG
        have hnn2 : 4 * u0 + nn = 4 * u1 := by omega
        have hnn3 : nn ≤ 32 := by omega
        clear hnn
        have HPO := hide (fun (ni : Int) wz (hni : ni = (nn : Int)) => packet_own src dst id proto sport dport u0 nn true i ni wz (by omega) hnn3 hni)
        have i1 : (i : Int) + 1 < (r.length : Int) + 1 := by omega
        have i2 : (i : Int) < (r.length : Int) + 1 := by omega
        go_wp2_with fail
        go_quiet (fail)
        go_upto_region 9 with (fail)
        have HSS : Hid (∀ w', Below (X + 1) w0 w' → w'.ownsRow (X + 1) 3 1 (.slice (some ⟨g, 0, none⟩) (r.length + 1) cv) (r.length + 1) ((0 :: r).map iv) → w'.cell? ⟨X, 0, none⟩ = some (.int .u16 src) ∧ w'.cell? ⟨X, 1, none⟩ = some (.int .u16 dst) ∧ w'.cell? ⟨X, 2, none⟩ = some (.int .u16 id) ∧ w'.cell? ⟨X, 3, none⟩ = some (.int .u8 proto) ∧ w'.cell? ⟨X, 4, none⟩ = some (.int .u16 sport) ∧ w'.cell? ⟨X, 5, none⟩ = some (.int .u16 dport) ∧ w'.cell? ⟨g, i, none⟩ = some (.int .i64 (u0 : Nat))) := by
          intro w' hb' hat'
          have xq : ∀ j, w'.cell? ⟨X, j, none⟩ = #[.int .u16 src, .int .u16 dst, .int .u16 id, .int .u8 proto, .int .u16 sport, .int .u16 dport][j]? := fun j => (hb'.cell (p := ⟨X, j, none⟩) (by show X < X + 1; omega)).trans (HX.out j)
          exact ⟨xq 0, xq 1, xq 2, xq 3, xq 4, xq 5, (hat'.cellAt i (by omega)).trans ((HAT.out.cellAt i (by omega)).symm.trans c0)⟩
        have HS5 : Hid (∀ w3 O w', Below wr.heap.size wr w3 → World.grownBy (w3.alloc O) w' u8.ownBlock → (w'.cell? ⟨X, 0, none⟩ = some (.int .u16 src) ∧ w'.cell? ⟨X, 1, none⟩ = some (.int .u16 dst) ∧ w'.cell? ⟨X, 2, none⟩ = some (.int .u16 id) ∧ w'.cell? ⟨X, 3, none⟩ = some (.int .u8 proto) ∧ w'.cell? ⟨X, 4, none⟩ = some (.int .u16 sport) ∧ w'.cell? ⟨X, 5, none⟩ = some (.int .u16 dport) ∧ w'.cell? ⟨g, i, none⟩ = some (.int .i64 (u0 : Nat))) ∧ Below (X + 1) w0 w' ∧ w'.ownsRow (X + 1) 3 1 (.slice (some ⟨g, 0, none⟩) (r.length + 1) cv) (r.length + 1) ((0 :: r).map iv) ∧ (∀ x, PVok w3 (X + 1) x → PVok w' (X + 1) x) ∧ (∀ x ∈ L, PVok w' (X + 1) x)) := by
          intro w3 O w5 hb3 hg5
          have hsz3 := hb3.size
          have hL3 : (w3.alloc O).ownsRow (X + 1) 28 9 u8 L.length (L.flatMap PV.cells) := (own_only (F := fun _ => False) HL.out (Only.of_below hb3) (fun _ _ hh => hh)).alloc _
          have hA3 : (w3.alloc O).ownsRow (X + 1) 3 1 (.slice (some ⟨g, 0, none⟩) (r.length + 1) cv) (r.length + 1) ((0 :: r).map iv) := (own_only (F := fun _ => False) HAT.out (Only.of_below hb3) (fun _ _ hh => hh)).alloc _
          have hA5 := own_only hA3 (Only.of_grown hg5) (fun k hk hv => own_apart' hA3 hL3 (by decide) hk hv)
          have hB5 : Below (X + 1) w0 w5 := ((HB.out.trans (hb3.mono hXw)).alloc (by omega) _).grown hg5 (by simp; omega) (fun q hq => by have := (HL.out.lt q hq).1; omega)
          have hP : ∀ x, PVok w3 (X + 1) x → PVok w5 (X + 1) x := fun x hx => PVok.grown (PVok.below hx ((Below.refl _ _).alloc (Nat.le_refl _) O)) hL3 hg5
          exact ⟨HSS.out w5 hB5 hA5, hB5, hA5, hP, fun x hx => hP x (PVok.below (HPV.out x hx) hb3)⟩
        have HBZ : Hid (∀ m w3, Below (wr.drewN m).heap.size (wr.drewN m) w3 → Below wr.heap.size wr w3 ∧ X + 1 ≤ w3.heap.size) := fun m w3 h => ⟨(below_drewN (Below.refl _ _) m).trans h, Nat.le_trans hXw h.size⟩
        have hmx : L.length + 1 ≤ maxLen := by unfold maxLen; omega
        have hby : (L.length + 1) * 40 ≤ 140737488355328 := by omega
        have HBS : Hid (∀ (w3 : World) O, X + 1 ≤ w3.heap.size → X + 1 ≤ (w3.alloc O).heap.size) := fun w3 O h => by rw [World.size_alloc]; omega
        have HON : Hid (∀ (sp dp : Int) (ad : Option Addr) (cp : Nat), ∀ u ∈ [Value.int .u16 src, .int .u16 dst, .int .u8 proto, .int .u16 id, .int .u8 (u0 : Nat), .bool true, .int .u16 sp, .int .u16 dp, .slice ad nn cp], u.oneCell' = true) := by intro sp dp ad cp; simp [Value.oneCell']
        go_region_held3 (fun w' => w'.cell? ⟨X, 0, none⟩ = some (.int .u16 src) ∧ w'.cell? ⟨X, 1, none⟩ = some (.int .u16 dst) ∧ w'.cell? ⟨X, 2, none⟩ = some (.int .u16 id) ∧ w'.cell? ⟨X, 3, none⟩ = some (.int .u8 proto) ∧ w'.cell? ⟨X, 4, none⟩ = some (.int .u16 sport) ∧ w'.cell? ⟨X, 5, none⟩ = some (.int .u16 dport) ∧ w'.cell? ⟨g, i, none⟩ = some (.int .i64 (u0 : Nat))) (first | go_keep | assumption) (first | (go_at_call 10; refine (HPO.out _ _ (by omega)).mono ?_; rintro e w3 ⟨ad, cp, sp, dp, rfl, hpk, hpv, hb3⟩; have hbz := HBZ.out _ w3 hb3; have hx3 := hbz.2; have hS3 := HSS.out w3 (HB.out.trans (hbz.1.mono hXw)) (own_only (F := fun _ => False) HAT.out (Only.of_below hbz.1) (fun _ _ hh => hh))) | (refine step_append_lies _ (by rfl) (.tmp 35) (.tmp 44) 44 (by rfl) (X + 1) 28 i0 _ 9 40 Try.underlying44 hi hz0 hz1 hz2 rfl (by decide) _ L.length _ (by rfl) ((own_only (F := fun _ => False) HL.out (Only.of_below hbz.1) (fun _ _ hh => hh)).alloc _) ⟨w3.heap.size, 0, none⟩ 1 1 [.int .u16 src, .int .u16 dst, .int .u8 proto, .int .u16 id, .int .u8 u0, .bool true, .int .u16 sp, .int .u16 dp, .slice ad nn cp] (by rfl) (by rfl) (cells_new _ _ _) (HON.out _ _ _ _) (Nat.zero_lt_one) hmx hby (HBS.out w3 _ hx3) _ rfl ?_; intro g5 c5 w5 hown5 hgrow5 hat5 hlt5; have hq5 := HS5.out w3 _ w5 hbz.1 hgrow5; have hS5 := hq5.1))
        have HFIN : Hid (∃ x : PV, w5.ownsRow (X + 1) 28 9 (.slice (some ⟨g5, 0, none⟩) (i + 1) c5) (L ++ [x]).length ((L ++ [x]).flatMap PV.cells) ∧ (∀ y ∈ L ++ [x], PVok w5 (X + 1) y) ∧ (L ++ [x]).map PV.p = (cutD src dst proto id sport dport 0 r t).take (i + 1)) := by
          refine ⟨⟨⟨src, dst, proto, id, u0, true, sp, dp, nn⟩, i, ad, cp⟩, ?_, ?_, ?_⟩
          · rw [List.flatMap_append, List.length_append, ← hLi]
            exact hown5
          · intro y hy
            rcases List.mem_append.1 hy with hy | hy
            · exact hq5.2.2.2.2 y hy
            · rw [List.mem_singleton.1 hy]
              exact hq5.2.2.2.1 _ (PVok.less hpv (by simpa using hXw))
          · rw [List.map_append, HLP.out, List.take_add_one, HCG.out, hpk]
            rfl
        have HB5 := hide hq5.2.1
        have HA5 := hide hq5.2.2.1
        clear hS3 hS5 hq5 hown5 hgrow5 hat5 hpk hpv hb3 hbz HS5 HBZ HSS HPO HCG c0 c1 xf
        go_wp2
        go_roundw
        case rel =>
          obtain ⟨x, k1, k2, k3⟩ := HFIN.out
          exact ⟨i + 1, L ++ [x], by omega, by simp; omega, by go_num, k1, k2, k3, HA5.out, HB5.out⟩
        case measure => simp [intOf]; omega
      · obtain rfl : i = r.length := by omega
        have hla := HRG.out.2.2
        have hal := at_last 0 r
        have c0 : wr.cell? ⟨g, r.length, none⟩ = some (.int .i64 ((0 :: r).getD r.length 0 : Nat)) := by
          rw [HAT.out.cellAt r.length (by omega), List.getElem?_map, List.getD_eq_getElem?_getD, List.getElem?_eq_getElem (by simp)]
          rfl
        have HCG := hide (cut_end src dst proto id sport dport 0 r t)
        rw [← hal] at hla
        generalize (0 :: r).getD r.length 0 = u0 at *
        clear hal
        have HPO := hide (fun (ni : Int) wz (hni : ni = (t : Int)) => packet_own src dst id proto sport dport u0 t false 100 ni wz (by omega) (by omega) hni)
        have i1 : ¬ ((r.length : Int) + 1 < (r.length : Int) + 1) := by omega
        have HSS : Hid (∀ w', Below (X + 1) w0 w' → w'.ownsRow (X + 1) 3 1 (.slice (some ⟨g, 0, none⟩) (r.length + 1) cv) (r.length + 1) ((0 :: r).map iv) → w'.cell? ⟨X, 0, none⟩ = some (.int .u16 src) ∧ w'.cell? ⟨X, 1, none⟩ = some (.int .u16 dst) ∧ w'.cell? ⟨X, 2, none⟩ = some (.int .u16 id) ∧ w'.cell? ⟨X, 3, none⟩ = some (.int .u8 proto) ∧ w'.cell? ⟨X, 4, none⟩ = some (.int .u16 sport) ∧ w'.cell? ⟨X, 5, none⟩ = some (.int .u16 dport) ∧ w'.cell? ⟨g, r.length, none⟩ = some (.int .i64 (u0 : Nat))) := by
          intro w' hb' hat'
          have xq : ∀ j, w'.cell? ⟨X, j, none⟩ = #[.int .u16 src, .int .u16 dst, .int .u16 id, .int .u8 proto, .int .u16 sport, .int .u16 dport][j]? := fun j => (hb'.cell (p := ⟨X, j, none⟩) (by show X < X + 1; omega)).trans (HX.out j)
          exact ⟨xq 0, xq 1, xq 2, xq 3, xq 4, xq 5, (hat'.cellAt r.length (by omega)).trans ((HAT.out.cellAt r.length (by omega)).symm.trans c0)⟩
        have HS5 : Hid (∀ w3 O w', Below wr.heap.size wr w3 → World.grownBy (w3.alloc O) w' u8.ownBlock → (w'.cell? ⟨X, 0, none⟩ = some (.int .u16 src) ∧ w'.cell? ⟨X, 1, none⟩ = some (.int .u16 dst) ∧ w'.cell? ⟨X, 2, none⟩ = some (.int .u16 id) ∧ w'.cell? ⟨X, 3, none⟩ = some (.int .u8 proto) ∧ w'.cell? ⟨X, 4, none⟩ = some (.int .u16 sport) ∧ w'.cell? ⟨X, 5, none⟩ = some (.int .u16 dport) ∧ w'.cell? ⟨g, r.length, none⟩ = some (.int .i64 (u0 : Nat))) ∧ Below (X + 1) w0 w' ∧ (∀ x, PVok w3 (X + 1) x → PVok w' (X + 1) x) ∧ (∀ x ∈ L, PVok w' (X + 1) x)) := by
          intro w3 O w5 hb3 hg5
          have hsz3 := hb3.size
          have hL3 : (w3.alloc O).ownsRow (X + 1) 28 9 u8 L.length (L.flatMap PV.cells) := (own_only (F := fun _ => False) HL.out (Only.of_below hb3) (fun _ _ hh => hh)).alloc _
          have hA3 : (w3.alloc O).ownsRow (X + 1) 3 1 (.slice (some ⟨g, 0, none⟩) (r.length + 1) cv) (r.length + 1) ((0 :: r).map iv) := (own_only (F := fun _ => False) HAT.out (Only.of_below hb3) (fun _ _ hh => hh)).alloc _
          have hA5 := own_only hA3 (Only.of_grown hg5) (fun k hk hv => own_apart' hA3 hL3 (by decide) hk hv)
          have hB5 : Below (X + 1) w0 w5 := ((HB.out.trans (hb3.mono hXw)).alloc (by omega) _).grown hg5 (by simp; omega) (fun q hq => by have := (HL.out.lt q hq).1; omega)
          have hP : ∀ x, PVok w3 (X + 1) x → PVok w5 (X + 1) x := fun x hx => PVok.grown (PVok.below hx ((Below.refl _ _).alloc (Nat.le_refl _) O)) hL3 hg5
          exact ⟨HSS.out w5 hB5 hA5, hB5, hP, fun x hx => hP x (PVok.below (HPV.out x hx) hb3)⟩
        have HBZ : Hid (∀ w3, Below wr.drew.heap.size wr.drew w3 → Below wr.heap.size wr w3 ∧ X + 1 ≤ w3.heap.size) := fun w3 h => ⟨((Below.refl _ _).drew).trans h, Nat.le_trans hXw h.size⟩
        have i2 : (r.length : Int) < (r.length : Int) + 1 := by omega
        have i3 : IntKind.i64.wrap (r.length : Int) = (r.length : Int) := by rw [IntKind.wrap_i64]; omega
        go_upto_region 10 with (fail)
        have hmx : L.length + 1 ≤ maxLen := by unfold maxLen; omega
        have hby : (L.length + 1) * 40 ≤ 140737488355328 := by omega
        have HBS : Hid (∀ (w3 : World) O, X + 1 ≤ w3.heap.size → X + 1 ≤ (w3.alloc O).heap.size) := fun w3 O h => by rw [World.size_alloc]; omega
        have HON : Hid (∀ (sp dp : Int) (ad : Option Addr) (cp : Nat), ∀ u ∈ [Value.int .u16 src, .int .u16 dst, .int .u8 proto, .int .u16 id, .int .u8 (u0 : Nat), .bool false, .int .u16 sp, .int .u16 dp, .slice ad t cp], u.oneCell' = true) := by intro sp dp ad cp; simp [Value.oneCell']
        go_region_held3 (fun w' => w'.cell? ⟨X, 0, none⟩ = some (.int .u16 src) ∧ w'.cell? ⟨X, 1, none⟩ = some (.int .u16 dst) ∧ w'.cell? ⟨X, 2, none⟩ = some (.int .u16 id) ∧ w'.cell? ⟨X, 3, none⟩ = some (.int .u8 proto) ∧ w'.cell? ⟨X, 4, none⟩ = some (.int .u16 sport) ∧ w'.cell? ⟨X, 5, none⟩ = some (.int .u16 dport) ∧ w'.cell? ⟨g, r.length, none⟩ = some (.int .i64 (u0 : Nat))) (first | go_keep | assumption) (first | (go_at_call 9; refine (HPT.out _).mono ?_; rintro e w2 ⟨rfl, rfl⟩) | (go_at_call 10; refine (HPO.out _ _ (by omega)).mono ?_; rintro e w3 ⟨ad, cp, sp, dp, rfl, hpk, hpv, hb3⟩; have hbz := HBZ.out w3 hb3; have hx3 := hbz.2; have hS3 := HSS.out w3 (HB.out.trans (hbz.1.mono hXw)) (own_only (F := fun _ => False) HAT.out (Only.of_below hbz.1) (fun _ _ hh => hh))) | (refine step_append_lies _ (by rfl) (.tmp 46) (.tmp 58) 44 (by rfl) (X + 1) 28 i0 _ 9 40 Try.underlying44 hi hz0 hz1 hz2 rfl (by decide) _ L.length _ (by rfl) ((own_only (F := fun _ => False) HL.out (Only.of_below hbz.1) (fun _ _ hh => hh)).alloc _) ⟨w3.heap.size, 0, none⟩ 1 1 [.int .u16 src, .int .u16 dst, .int .u8 proto, .int .u16 id, .int .u8 u0, .bool false, .int .u16 sp, .int .u16 dp, .slice ad t cp] (by rfl) (by rfl) (cells_new _ _ _) (HON.out _ _ _ _) (Nat.zero_lt_one) hmx hby (HBS.out w3 _ hx3) _ rfl ?_; intro g5 c5 w5 hown5 hgrow5 hat5 hlt5; have hq5 := HS5.out w3 _ w5 hbz.1 hgrow5; have hS5 := hq5.1))
        have HFIN : Hid (∃ x : PV, w5.ownsRow (X + 1) 28 9 (.slice (some ⟨g5, 0, none⟩) (r.length + 1) c5) (L ++ [x]).length ((L ++ [x]).flatMap PV.cells) ∧ (∀ y ∈ L ++ [x], PVok w5 (X + 1) y) ∧ (L ++ [x]).map PV.p = cutD src dst proto id sport dport 0 r t) := by
          refine ⟨⟨⟨src, dst, proto, id, u0, false, sp, dp, t⟩, 100, ad, cp⟩, ?_, ?_, ?_⟩
          · rw [List.flatMap_append, List.length_append, ← hLi]
            exact hown5
          · intro y hy
            rcases List.mem_append.1 hy with hy | hy
            · exact hq5.2.2.2 y hy
            · rw [List.mem_singleton.1 hy]
              exact hq5.2.2.1 _ (PVok.less hpv (by simpa using hXw))
          · have h1 : (cutD src dst proto id sport dport 0 r t).take (r.length + 1) = cutD src dst proto id sport dport 0 r t := List.take_of_length_le (by rw [cut_length]; omega)
            rw [List.map_append, HLP.out, ← h1, List.take_take, Nat.min_eq_left (by omega), List.take_add_one, HCG.out, hpk]
            rfl
        have HB5 := hide hq5.2.1
        clear hS3 hS5 hq5 hown5 hgrow5 hat5 hpk hpv hb3 hbz HS5 HBZ HSS HPO HCG c0 xf
        go_wp2
        go_ret
        obtain ⟨x, k1, k2, k3⟩ := HFIN.out
        exact ⟨_, L ++ [x], r, t, rfl, ownsRow_base k1 (Nat.le_succ X), fun y hy => PVok.less (k2 y hy) (Nat.le_succ X), k3, HRG.out.1, HRG.out.2.1, HRG.out.2.2, hr1, ⟨h4, HRN.out⟩, HTT.out, HBW.out.trans (HB5.out.mono (Nat.le_succ X))⟩

end Go.Proofs.Ytajphdppmdoalaa
