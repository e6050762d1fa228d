import Derived.Test.YtajphdppmdoalaaGreatW1
namespace Go.Proofs.YtajphdppmdoalaaGreat
open Go.RowKit
set_option linter.unusedVariables false

/-- A step of a script, as it lies in memory. -/
structure StepIs (w : World) (b o : Nat) (kind ee aa bb src dst proto id off : Int) (more : Bool) (sport dport : Int) (ao : Option Addr) (n cap : Nat) (zs : List Int) (so : Option Addr) (sn sc : Nat) (ys : List Int) : Prop where
  cell : ∀ j v, [.int .i64 kind, .int .i64 ee, .int .i64 aa, .int .i64 bb, .int .u16 src, .int .u16 dst, .int .u8 proto, .int .u16 id, .int .u8 off, .bool more, .int .u16 sport, .int .u16 dport, .slice ao n cap, .slice so sn sc][j]? = some v → w.cell? ⟨b, o + j, none⟩ = some v
  lt : b < w.heap.size
  src0 : 0 ≤ src ∧ src ≤ 65535
  dst0 : 0 ≤ dst ∧ dst ≤ 65535
  proto0 : 0 ≤ proto ∧ proto ≤ 255
  id0 : 0 ≤ id ∧ id ≤ 65535
  off0 : 0 ≤ off ∧ off ≤ 255
  sport0 : 0 ≤ sport ∧ sport ≤ 65535
  dport0 : 0 ≤ dport ∧ dport ≤ 65535
  kind0 : -9223372036854775808 ≤ kind ∧ kind ≤ 9223372036854775807
  data : Lst w ao n cap zs
  bytes : Lst w so sn sc ys
/-- A script, as it lies in memory. -/
def Script (w : World) (b o N : Nat) : Prop := ∀ i, i < N → ∃ kind ee aa bb src dst proto id off more sport dport ao n cap zs so sn sc ys, StepIs w b (o + i * 14) kind ee aa bb src dst proto id off more sport dport ao n cap zs so sn sc ys

theorem StepIs.below {w w' : World} {b o : Nat} {kind ee aa bb src dst proto id off : Int} {more : Bool} {sport dport : Int} {ao : Option Addr} {n cap : Nat} {zs : List Int} {so : Option Addr} {sn sc : Nat} {ys : List Int} (h : StepIs w b o kind ee aa bb src dst proto id off more sport dport ao n cap zs so sn sc ys) (hb : Below w.heap.size w w') : StepIs w' b o kind ee aa bb src dst proto id off more sport dport ao n cap zs so sn sc ys :=
  ⟨fun j v hv => (hb.cell (p := ⟨b, o + j, none⟩) h.lt).trans (h.cell j v hv), Nat.lt_of_lt_of_le h.lt hb.size, h.src0, h.dst0, h.proto0, h.id0, h.off0, h.sport0, h.dport0, h.kind0, h.data.below hb, h.bytes.below hb⟩

/-- What a step of kind K does to the book. -/
def StepDoes (K : Int) : Prop := ∀ (lo hi wb c : Nat) (vl : Value) (w : World) (b o : Nat) (ee aa bb src dst proto id off : Int) (more : Bool) (sport dport : Int) (ao : Option Addr) (n cap : Nat) (zs : List Int) (so : Option Addr) (sn sc : Nat) (ys : List Int),
  StepIs w b o K ee aa bb src dst proto id off more sport dport ao n cap zs so sn sc ys → Bk w lo hi wb vl c → lo ≤ hi → (4 * c + 4) * 24 ≤ 140737488355328 →
  Calls Tryz.prog 12 #[.pointer (some ⟨wb, 0, none⟩), .agg #[.int .i64 K, .int .i64 ee, .int .i64 aa, .int .i64 bb, .int .u16 src, .int .u16 dst, .int .u8 proto, .int .u16 id, .int .u8 off, .bool more, .int .u16 sport, .int .u16 dport, .slice ao n cap, .slice so sn sc]] w fun e w' => e = .returned (.bool true) ∧ Bk w' lo w'.heap.size wb vl (c + 1) ∧ Below lo w w'
theorem step_pack_does : StepDoes 1 := by
  intro lo hi wb c vl w b o ee aa bb src dst proto id off more sport dport ao n cap zs so sn sc ys h hB hlh hc
  exact step_pack lo hi wb c vl ee aa bb src dst proto id off more sport dport ao n cap zs so sn sc w hB h.src0.1 h.src0.2 h.dst0.1 h.dst0.2 h.proto0.1 h.proto0.2 h.id0.1 h.id0.2 h.off0.1 h.off0.2 h.sport0.1 h.sport0.2 h.dport0.1 h.dport0.2 h.data hlh hc

theorem bk_start (w : World) : Bk (w.alloc (.cells #[.slice none 0 0, .slice none 0 0, .slice none 0 0, .slice none 0 0, .slice none 0 0, .slice none 0 0, .slice none 0 0, .int .i64 0] 34)) w.heap.size (w.alloc (.cells #[.slice none 0 0, .slice none 0 0, .slice none 0 0, .slice none 0 0, .slice none 0 0, .slice none 0 0, .slice none 0 0, .int .i64 0] 34)).heap.size w.heap.size (.slice none 0 0) 0 :=
  ⟨.slice none 0 0, .slice none 0 0, [], [], Nat.le_refl _, by simp, Nat.le_refl _, heap_alloc_new _ _, rfl, rfl, World.ownsRow_nil _ _ _ _, World.ownsRow_nil _ _ _ _, by simp [Value.ownBlock], by simp [Value.ownBlock], by simp⟩

set_option maxRecDepth 100000 in
set_option maxHeartbeats 3200000 in
theorem plays_one (K : Int) (hK5 : (K == 5) = false) (hdoes : StepDoes K) (b o N cap gk : Nat) (w : World) (hS : Script w b o N) (hN : N * 96 ≤ 140737488351232) (hk : w.cell? ⟨gk, 0, none⟩ = some (.int .i64 K)) (hgk : gk < w.heap.size) :
    Calls Tryz.prog 9 #[.slice (some ⟨b, o, none⟩) N cap, .slice (some ⟨gk, 0, none⟩) 1 1] w fun e w' => e = .returned (.bool true) ∧ Below w.heap.size w w' := by
  have HS := hide hS
  have HD := hide hdoes
  have HK := hide hk
  clear hS hdoes
  have hk1 : ∀ O, (w.alloc O).cell? ⟨gk, 0, none⟩ = some (.int .i64 K) := fun O => (World.cell?_alloc_past O _ _ hgk).trans hk
  clear hk
  go_enter Tryz.func9, Tryz.ntmps9
  go_wp2_with fail
  refine (needs_one gk K _ hK5 (hk1 _)).mono ?_
  rintro e w1 ⟨rfl, rfl⟩
  clear hk1
  go_wp2_with fail
  go_loopw [8] (fun i8 wr => ∃ i c : Nat, i ≤ N ∧ c ≤ i ∧ i8 = .int .i64 i ∧ Hid (Bk wr w.heap.size wr.heap.size w.heap.size (.slice none 0 0) c) ∧ Hid (Below w.heap.size w wr)) (fun i8 _ => N - (intOf i8).toNat)
  case atStart => exact ⟨0, 0, by omega, by omega, rfl, bk_start w, (Below.refl _ _).alloc (Nat.le_refl _) _⟩
  case round =>
    obtain ⟨i, c, hi, hci, rfl, HB, HW⟩ := hrel
    by_cases hlt : i < N
    · obtain ⟨kind, ee, aa, bb, src, dst, proto, id, off, more, sport, dport, ao, n, dcap, zs, so, sn, sc, ys, hst⟩ := HS.out i hlt
      have hst' := hst.below HW.out
      have HST := hide hst'
      have ck : wr.cell? ⟨gk, 0, none⟩ = some (.int .i64 K) := (HW.out.cell (p := ⟨gk, 0, none⟩) hgk).trans HK.out
      have s0 : wr.cell? ⟨b, o + i * 14, none⟩ = some (.int .i64 kind) := hst'.cell 0 _ rfl
      have s1 := hst'.cell 1 _ rfl
      have s2 := hst'.cell 2 _ rfl
      have s3 := hst'.cell 3 _ rfl
      have s4 := hst'.cell 4 _ rfl
      have s5 := hst'.cell 5 _ rfl
      have s6 := hst'.cell 6 _ rfl
      have s7 := hst'.cell 7 _ rfl
      have s8 := hst'.cell 8 _ rfl
      have s9 := hst'.cell 9 _ rfl
      have s10 := hst'.cell 10 _ rfl
      have s11 := hst'.cell 11 _ rfl
      have s12 := hst'.cell 12 _ rfl
      have s13 := hst'.cell 13 _ rfl
      clear hst hst'
      go_wp2_with fail
      go_loopw [9, 10] (fun in9 k10 wi => ((k10 = .int .i64 0 ∧ in9 = .bool false) ∨ (k10 = .int .i64 1 ∧ in9 = .bool (kind == K))) ∧ ∃ m, wi = wr.drewN m) (fun _ k10 _ => 1 - (intOf k10).toNat)
      case atStart => exact ⟨.inl ⟨rfl, rfl⟩, 0, rfl⟩
      case round =>
        obtain ⟨h | h, m, rfl⟩ := hrel
        · obtain ⟨rfl, rfl⟩ := h
          have i1 : (i : Int) < (N : Int) := by omega
          go_wp2_with fail
          go_quiet (fail)
          go_wp2
          go_roundw
          case rel => exact ⟨.inr ⟨by go_num, by simp⟩, _, rfl⟩
          case measure => simp [intOf]
        · obtain ⟨rfl, rfl⟩ := h
          cases hkk : (kind == K)
          · go_wp2
            go_roundw
            case rel => exact ⟨i + 1, c, by omega, by omega, by go_num, HB.out.below (below_drewN (Below.refl _ _) m), below_drewN HW.out m⟩
            case measure => simp [intOf]; omega
          · obtain rfl : kind = K := by simpa using hkk
            clear hkk
            have i1 : (i : Int) < (N : Int) := by omega
            go_wp2_with fail
            refine (HD.out w.heap.size wr.heap.size w.heap.size c (.slice none 0 0) (wr.drewN m) b (o + i * 14) ee aa bb src dst proto id off more sport dport ao n dcap zs so sn sc ys (HST.out.below (below_drewN (Below.refl _ _) m)) (HB.out.below (below_drewN (Below.refl _ _) m)) HW.out.size (by omega)).mono ?_
            rintro e w2 ⟨rfl, hB2, hb2⟩
            have HB2 := hide hB2
            have HW2 : Hid (Below w.heap.size w w2) := (below_drewN HW.out m).trans hb2
            clear hB2 hb2 s0 s1 s2 s3 s4 s5 s6 s7 s8 s9 s10 s11 s12 s13 ck HST HB HW
            go_wp2_with fail
            refine (kept_any _ _ _ (c + 1) _ w2 HB2.out (by omega)).mono ?_
            rintro e w3 ⟨rfl, m3, rfl⟩
            go_wp2
            go_roundw
            case rel => exact ⟨i + 1, c + 1, by omega, by omega, by go_num, HB2.out.below (below_drewN (Below.refl _ _) m3), below_drewN HW2.out m3⟩
            case measure => simp [intOf]; omega
    · go_wp2
      go_ret
      exact ⟨rfl, HW.out⟩

end Go.Proofs.YtajphdppmdoalaaGreat
