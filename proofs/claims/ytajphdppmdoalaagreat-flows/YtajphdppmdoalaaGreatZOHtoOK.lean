import Derived.Test.YtajphdppmdoalaaGreatZOEtoOG
namespace Go.Proofs.YtajphdppmdoalaaGreat
open Go.RowKit
set_option linter.unusedVariables false

set_option maxRecDepth 100000 in
set_option maxHeartbeats 3200000 in
theorem arrive_bad (xb gS N nx : Nat) (rep : Int) (ao : Option Addr) (n cap : Nat) (src dst proto id off : Int) (more : Bool) (sport dport : Int) (da : Option Addr) (dn dc : Nat) (ec : Int) (hec : ec ≠ 0) (Q : World → World → Prop) (cur : Array Value) (w : World) (hblk : w.heap[xb]? = some (.cells cur 69 (0, 0))) (c0 : w.cell? ⟨xb, 0, none⟩ = some (.slice (some ⟨gS, 0, none⟩) N N)) (c3 : w.cell? ⟨xb, 3, none⟩ = some (.int .i64 nx)) (hnx : nx ≤ 2000000000000) (hr0 : 0 ≤ rep) (hr1 : rep < (N : Int))
    (HU : Hid (Calls Tryz.prog 64 #[.slice ao n cap] (w.setCell ⟨xb, 3, none⟩ (.int .i64 ((nx : Int) + 1))) fun e w2 => e = .returned (.tuple #[.agg #[.int .u16 src, .int .u16 dst, .int .u8 proto, .int .u16 id, .int .u8 off, .bool more, .int .u16 sport, .int .u16 dport, .slice da dn dc], .int .i64 ec]) ∧ Below (w.setCell ⟨xb, 3, none⟩ (.int .i64 ((nx : Int) + 1))).heap.size (w.setCell ⟨xb, 3, none⟩ (.int .i64 ((nx : Int) + 1))) w2))
    (HC : Hid (∀ wz, Below (w.setCell ⟨xb, 3, none⟩ (.int .i64 ((nx : Int) + 1))).heap.size (w.setCell ⟨xb, 3, none⟩ (.int .i64 ((nx : Int) + 1))) wz → Calls Tryz.prog 71 #[.pointer (some ⟨xb, 0, none⟩), .int .i64 nx, .int .u8 1, .int .u8 0] wz fun e w' => e = .returned (.tuple #[]) ∧ Q wz w')) :
    Calls Tryz.prog 40 #[.pointer (some ⟨xb, 0, none⟩), .int .i64 rep, .slice ao n cap] w fun e w' => e = .returned (.tuple #[.int .i64 nx, .int .i64 0]) ∧ ∃ wz, Below (w.setCell ⟨xb, 3, none⟩ (.int .i64 ((nx : Int) + 1))).heap.size (w.setCell ⟨xb, 3, none⟩ (.int .i64 ((nx : Int) + 1))) wz ∧ Q wz w' := by
  have hxb := lt_of_block hblk
  have f3 := arr_frozen hblk 3
  have hb0 : (ec != 0) = true := by simpa using hec
  clear hblk
  go_enter Tryz.func40, Tryz.ntmps40
  go_wp2_with fail
  refine HU.out.mono ?_
  rintro e w2 ⟨rfl, hb2⟩
  have HB3 : Hid (Below (w.setCell ⟨xb, 3, none⟩ (.int .i64 ((nx : Int) + 1))).heap.size (w.setCell ⟨xb, 3, none⟩ (.int .i64 ((nx : Int) + 1))) (w2.alloc (.cells #[.int .u16 src, .int .u16 dst, .int .u8 proto, .int .u16 id, .int .u8 off, .bool more, .int .u16 sport, .int .u16 dport, .slice da dn dc] 40))) := hb2.alloc hb2.size _
  have cB := box_cell (Below.refl (w2.heap.size + 1) (w2.alloc (.cells #[.int .u16 src, .int .u16 dst, .int .u8 proto, .int .u16 id, .int .u8 off, .bool more, .int .u16 sport, .int .u16 dport, .slice da dn dc] 40)))
  have hz3 : (w2.alloc (.cells #[.int .u16 src, .int .u16 dst, .int .u8 proto, .int .u16 id, .int .u8 off, .bool more, .int .u16 sport, .int .u16 dport, .slice da dn dc] 40)).heap.size = w2.heap.size + 1 := by simp
  clear hb2 HU
  go_wp2_with fail
  refine (HC.out _ HB3.out).mono ?_
  rintro e w5 ⟨rfl, hq⟩
  have HQ := hide hq
  clear hq
  go_wp2
  go_ret2
  exact ⟨rfl, _, HB3.out, HQ.out⟩

set_option maxRecDepth 100000 in
set_option maxHeartbeats 3200000 in
theorem arrive_whole (xb gS N nx : Nat) (rep : Int) (ao : Option Addr) (n cap : Nat) (src dst proto id off : Int) (more : Bool) (sport dport : Int) (dn : Nat) (Q : World → World → Prop) (cur : Array Value) (w : World) (hblk : w.heap[xb]? = some (.cells cur 69 (0, 0))) (c0 : w.cell? ⟨xb, 0, none⟩ = some (.slice (some ⟨gS, 0, none⟩) N N)) (c3 : w.cell? ⟨xb, 3, none⟩ = some (.int .i64 nx)) (hnx : nx ≤ 2000000000000) (hr0 : 0 ≤ rep) (hr1 : rep < (N : Int))
    (HU : Hid (Calls Tryz.prog 64 #[.slice ao n cap] (w.setCell ⟨xb, 3, none⟩ (.int .i64 ((nx : Int) + 1))) fun e w2 => ∃ da dc, e = .returned (.tuple #[.agg #[.int .u16 src, .int .u16 dst, .int .u8 proto, .int .u16 id, .int .u8 off, .bool more, .int .u16 sport, .int .u16 dport, .slice da dn dc], .int .i64 0]) ∧ Below (w.setCell ⟨xb, 3, none⟩ (.int .i64 ((nx : Int) + 1))).heap.size (w.setCell ⟨xb, 3, none⟩ (.int .i64 ((nx : Int) + 1))) w2))
    (HWH : (decide (off = 0) && !more) = true)
    (HC : Hid (∀ (da : Option Addr) (dc : Nat) wz, Below (w.setCell ⟨xb, 3, none⟩ (.int .i64 ((nx : Int) + 1))).heap.size (w.setCell ⟨xb, 3, none⟩ (.int .i64 ((nx : Int) + 1))) wz → Calls Tryz.prog 73 #[.pointer (some ⟨xb, 0, none⟩), .int .i64 nx, .agg #[.int .u16 src, .int .u16 dst, .int .u8 proto, .int .u16 id, .int .u8 off, .bool more, .int .u16 sport, .int .u16 dport, .slice da dn dc]] wz fun e w' => e = .returned (.tuple #[]) ∧ Q wz w')) :
    Calls Tryz.prog 40 #[.pointer (some ⟨xb, 0, none⟩), .int .i64 rep, .slice ao n cap] w fun e w' => e = .returned (.tuple #[.int .i64 nx, .int .i64 0]) ∧ ∃ wz, Below (w.setCell ⟨xb, 3, none⟩ (.int .i64 ((nx : Int) + 1))).heap.size (w.setCell ⟨xb, 3, none⟩ (.int .i64 ((nx : Int) + 1))) wz ∧ Q wz w' := by
  have hxb := lt_of_block hblk
  have f3 := arr_frozen hblk 3
  have HWA := hide (fun da dc w => whole_any src dst proto id off more sport dport da dn dc w)
  rw [HWH] at HWA
  clear HWH
  clear hblk
  go_enter Tryz.func40, Tryz.ntmps40
  go_wp2_with fail
  refine HU.out.mono ?_
  rintro e w2 ⟨da, dc, rfl, hb2⟩
  have HB3 : Hid (Below (w.setCell ⟨xb, 3, none⟩ (.int .i64 ((nx : Int) + 1))).heap.size (w.setCell ⟨xb, 3, none⟩ (.int .i64 ((nx : Int) + 1))) (w2.alloc (.cells #[.int .u16 src, .int .u16 dst, .int .u8 proto, .int .u16 id, .int .u8 off, .bool more, .int .u16 sport, .int .u16 dport, .slice da dn dc] 40))) := hb2.alloc hb2.size _
  have cB := box_cell (Below.refl (w2.heap.size + 1) (w2.alloc (.cells #[.int .u16 src, .int .u16 dst, .int .u8 proto, .int .u16 id, .int .u8 off, .bool more, .int .u16 sport, .int .u16 dport, .slice da dn dc] 40)))
  have hz3 : (w2.alloc (.cells #[.int .u16 src, .int .u16 dst, .int .u8 proto, .int .u16 id, .int .u8 off, .bool more, .int .u16 sport, .int .u16 dport, .slice da dn dc] 40)).heap.size = w2.heap.size + 1 := by simp
  clear hb2 HU
  go_wp2_with fail
  refine (HWA.out da dc _).mono ?_
  rintro e w4 ⟨rfl, hb4⟩
  have HB4 : Hid (Below (w.setCell ⟨xb, 3, none⟩ (.int .i64 ((nx : Int) + 1))).heap.size (w.setCell ⟨xb, 3, none⟩ (.int .i64 ((nx : Int) + 1))) w4) := HB3.out.trans (hb4.mono (by have := HB3.out.size; omega))
  have hz4 : w2.heap.size < w4.heap.size := by have := hb4.size; omega
  have cB4 := fun j => (hb4.cell (p := ⟨w2.heap.size, j, none⟩) (by simp)).trans (cB j)
  clear hb4 cB HB3 HWA
  go_wp2_with fail
  refine (HC.out da dc _ HB4.out).mono ?_
  rintro e w5 ⟨rfl, hq⟩
  have HQ := hide hq
  clear hq
  go_wp2
  go_ret2
  exact ⟨rfl, _, HB4.out, HQ.out⟩

set_option maxRecDepth 100000 in
set_option maxHeartbeats 3200000 in
theorem arrive_piece (xb gS N nx : Nat) (rep : Int) (ao : Option Addr) (n cap : Nat) (src dst proto id off : Int) (more : Bool) (sport dport : Int) (dn : Nat) (Q : World → World → Prop) (cur : Array Value) (w : World) (hblk : w.heap[xb]? = some (.cells cur 69 (0, 0))) (c0 : w.cell? ⟨xb, 0, none⟩ = some (.slice (some ⟨gS, 0, none⟩) N N)) (c3 : w.cell? ⟨xb, 3, none⟩ = some (.int .i64 nx)) (hnx : nx ≤ 2000000000000) (hr0 : 0 ≤ rep) (hr1 : rep < (N : Int))
    (HU : Hid (Calls Tryz.prog 64 #[.slice ao n cap] (w.setCell ⟨xb, 3, none⟩ (.int .i64 ((nx : Int) + 1))) fun e w2 => ∃ da dc, e = .returned (.tuple #[.agg #[.int .u16 src, .int .u16 dst, .int .u8 proto, .int .u16 id, .int .u8 off, .bool more, .int .u16 sport, .int .u16 dport, .slice da dn dc], .int .i64 0]) ∧ Below (w.setCell ⟨xb, 3, none⟩ (.int .i64 ((nx : Int) + 1))).heap.size (w.setCell ⟨xb, 3, none⟩ (.int .i64 ((nx : Int) + 1))) w2))
    (HWH : (decide (off = 0) && !more) = false)
    (HC : Hid (∀ (da : Option Addr) (dc : Nat) wz, Below (w.setCell ⟨xb, 3, none⟩ (.int .i64 ((nx : Int) + 1))).heap.size (w.setCell ⟨xb, 3, none⟩ (.int .i64 ((nx : Int) + 1))) wz → Calls Tryz.prog 74 #[.pointer (some ⟨xb, 0, none⟩), .int .i64 nx, .int .i64 rep, .agg #[.int .u16 src, .int .u16 dst, .int .u8 proto, .int .u16 id, .int .u8 off, .bool more, .int .u16 sport, .int .u16 dport, .slice da dn dc]] wz fun e w' => e = .returned (.tuple #[]) ∧ Q wz w')) :
    Calls Tryz.prog 40 #[.pointer (some ⟨xb, 0, none⟩), .int .i64 rep, .slice ao n cap] w fun e w' => e = .returned (.tuple #[.int .i64 nx, .int .i64 0]) ∧ ∃ wz, Below (w.setCell ⟨xb, 3, none⟩ (.int .i64 ((nx : Int) + 1))).heap.size (w.setCell ⟨xb, 3, none⟩ (.int .i64 ((nx : Int) + 1))) wz ∧ Q wz w' := by
  have hxb := lt_of_block hblk
  have f3 := arr_frozen hblk 3
  have HWA := hide (fun da dc w => whole_any src dst proto id off more sport dport da dn dc w)
  rw [HWH] at HWA
  clear HWH
  clear hblk
  go_enter Tryz.func40, Tryz.ntmps40
  go_wp2_with fail
  refine HU.out.mono ?_
  rintro e w2 ⟨da, dc, rfl, hb2⟩
  have HB3 : Hid (Below (w.setCell ⟨xb, 3, none⟩ (.int .i64 ((nx : Int) + 1))).heap.size (w.setCell ⟨xb, 3, none⟩ (.int .i64 ((nx : Int) + 1))) (w2.alloc (.cells #[.int .u16 src, .int .u16 dst, .int .u8 proto, .int .u16 id, .int .u8 off, .bool more, .int .u16 sport, .int .u16 dport, .slice da dn dc] 40))) := hb2.alloc hb2.size _
  have cB := box_cell (Below.refl (w2.heap.size + 1) (w2.alloc (.cells #[.int .u16 src, .int .u16 dst, .int .u8 proto, .int .u16 id, .int .u8 off, .bool more, .int .u16 sport, .int .u16 dport, .slice da dn dc] 40)))
  have hz3 : (w2.alloc (.cells #[.int .u16 src, .int .u16 dst, .int .u8 proto, .int .u16 id, .int .u8 off, .bool more, .int .u16 sport, .int .u16 dport, .slice da dn dc] 40)).heap.size = w2.heap.size + 1 := by simp
  clear hb2 HU
  go_wp2_with fail
  refine (HWA.out da dc _).mono ?_
  rintro e w4 ⟨rfl, hb4⟩
  have HB4 : Hid (Below (w.setCell ⟨xb, 3, none⟩ (.int .i64 ((nx : Int) + 1))).heap.size (w.setCell ⟨xb, 3, none⟩ (.int .i64 ((nx : Int) + 1))) w4) := HB3.out.trans (hb4.mono (by have := HB3.out.size; omega))
  have hz4 : w2.heap.size < w4.heap.size := by have := hb4.size; omega
  have cB4 := fun j => (hb4.cell (p := ⟨w2.heap.size, j, none⟩) (by simp)).trans (cB j)
  clear hb4 cB HB3 HWA
  go_wp2_with fail
  refine (HC.out da dc _ HB4.out).mono ?_
  rintro e w5 ⟨rfl, hq⟩
  have HQ := hide hq
  clear hq
  go_wp2
  go_ret2
  exact ⟨rfl, _, HB4.out, HQ.out⟩

end Go.Proofs.YtajphdppmdoalaaGreat

namespace Go.Proofs.YtajphdppmdoalaaGreat
open Go.RowKit
set_option linter.unusedVariables false

theorem has_keep {w w' : World} {G : Nat → Prop} {ao : Option Addr} {zs : List Int} (h : Has w ao zs) (ho : Only G w w') (hG : ∀ a, ao = some a → ¬ G a.block) : Has w' ao zs := by
  refine ⟨h.1, fun hz => ?_⟩
  obtain ⟨b, o, rfl, hlt, hc⟩ := h.2 hz
  exact ⟨b, o, rfl, Nat.lt_of_lt_of_le hlt ho.size, fun j hj => (ho.cell (p := ⟨b, o + j, none⟩) hlt (hG ⟨b, o, none⟩ rfl)).trans (hc j hj)⟩
/-- One more arrival. -/
theorem PrC.more {w : World} {xb : Nat} {S : Cl} {F : Nat → Prop} {gS : Nat} {cs : Array Value} {vT vV vN : Value} {RR : Nat → List PE} {Fs : Nat → Nat → Prop} {T : Nat → Int} (h : PrC w xb S F gS cs vT vV vN RR Fs T) :
    ∃ F', PrC (w.setCell ⟨xb, 3, none⟩ (.int .i64 ((S.next : Int) + 1))) xb { S with next := S.next + 1 } F' gS cs vT vV vN RR Fs T ∧ Stp w (w.setCell ⟨xb, 3, none⟩ (.int .i64 ((S.next : Int) + 1))) F F' := by
  have hb3 := row_setCell (j := 3) h.blk (.int .i64 ((S.next : Int) + 1))
  have ho : Only (fun k => k = xb) w (w.setCell ⟨xb, 3, none⟩ (.int .i64 ((S.next : Int) + 1))) := (Only.refl (fun k => k = xb) w).setG
  obtain ⟨h1, h2⟩ := h.upd ho (fun k hk => .inl hk) { S with next := S.next + 1 } vT vV vN (by simpa using hb3) (own_set' h.rT h.blk (by decide) _) (own_set' h.rV h.blk (by decide) _) (own_set' h.rN h.blk (by decide) _) (fun g hg => .inl hg) (fun g hg => .inl hg) (fun g hg => .inl hg)
  exact ⟨_, h1, h2⟩
theorem evs_few (S : Cl) (hs : Sml S) : S.evs.length ≤ S.next ∧ S.sent.length ≤ S.next := by
  have h1 := hs.cnt
  simp only [seqsM, List.length_append, List.length_map] at h1
  omega

set_option maxRecDepth 100000 in
set_option maxHeartbeats 800000 in
theorem arrive_any (xb : Nat) (S : Cl) (F : Nat → Prop) (rep : Int) (zs : List Int) (ao : Option Addr) (n cap : Nat) (w : World) (h : PrIs w xb S F) (hs : Sml S) (hu : Uq S.ents) (hnx : S.next ≤ 1900000000000) (hr0 : 0 ≤ rep) (hr1 : rep < S.reps)
    (hl : zs.length = n) (hcap : n ≤ cap) (hcm : cap ≤ maxLen) (hd : Has w ao zs) (hz : ∀ z ∈ zs, 0 ≤ z ∧ z ≤ 255) (hap : ∀ a, ao = some a → ¬ F a.block) :
    Calls Tryz.prog 40 #[.pointer (some ⟨xb, 0, none⟩), .int .i64 rep, .slice ao n cap] w fun e w' => e = .returned (.tuple #[.int .i64 S.next, .int .i64 0]) ∧ ∃ F', PrIs w' xb (arriveM S rep (upK zs)) F' ∧ Stp w w' F F' := by
  obtain ⟨gS, cs, vT, vV, vN, RR, Fs, h, hr, he⟩ := h
  have hel := evs_few S hs
  have hN1 : 1 ≤ cs.size := by have := hs.cok.reps; omega
  have hN5 : cs.size ≤ 5 := by have := hs.reps; omega
  have hs1 := sml_next S hs (by omega)
  obtain ⟨F1, h1, hS1⟩ := h.more
  have hU := unpack_any ao n cap zs (w.setCell ⟨xb, 3, none⟩ (.int .i64 ((S.next : Int) + 1))) hl hcap hcm (has_keep hd hS1.only hap) hz
  have c0 : w.cell? ⟨xb, 0, none⟩ = some (.slice (some ⟨gS, 0, none⟩) cs.size cs.size) := arr_cell h.blk 0
  have c3 : w.cell? ⟨xb, 3, none⟩ = some (.int .i64 S.next) := arr_cell h.blk 3
  rw [hr] at hr1
  by_cases hc : upC zs = 0
  · obtain ⟨p, hup⟩ : ∃ p, upK zs = some p := by unfold upK; rw [if_pos hc]; exact ⟨_, rfl⟩
    obtain ⟨hpb, hpo⟩ := upK_ok zs hz p hup
    have hU2 : Calls Tryz.prog 64 #[.slice ao n cap] (w.setCell ⟨xb, 3, none⟩ (.int .i64 ((S.next : Int) + 1))) fun e w2 => ∃ da dc, e = .returned (.tuple #[.agg #[.int .u16 p.src, .int .u16 p.dst, .int .u8 p.proto, .int .u16 p.id, .int .u8 p.off, .bool p.more, .int .u16 p.sport, .int .u16 p.dport, .slice da p.dlen dc], .int .i64 0]) ∧ Below (w.setCell ⟨xb, 3, none⟩ (.int .i64 ((S.next : Int) + 1))).heap.size (w.setCell ⟨xb, 3, none⟩ (.int .i64 ((S.next : Int) + 1))) w2 := by
      refine hU.mono ?_
      rintro e w2 ⟨hb, ⟨_, v, rfl, hrow⟩ | ⟨hne, _⟩⟩
      · obtain ⟨da, dc, rfl⟩ := own_slice hrow
        unfold upK at hup
        rw [if_pos hc, Option.some.injEq] at hup
        subst hup
        exact ⟨da, dc, rfl, hb⟩
      · exact absurd hc hne
    have hch : ∀ (da : Option Addr) (dc : Nat) wz, PrC wz xb { S with next := S.next + 1 } F1 gS cs vT vV vN RR Fs (fun _ => S.now) → Calls Tryz.prog 48 #[.pointer (some ⟨xb, 0, none⟩), .agg #[.int .u16 p.src, .int .u16 p.dst, .int .u8 p.proto, .int .u16 p.id, .int .u8 p.off, .bool p.more, .int .u16 p.sport, .int .u16 p.dport, .slice da p.dlen dc]] wz fun e w' => e = .returned (.tuple #[.int .u8 (chosenM S p), .int .i64 (if (!S.slots.isEmpty) = true then 0 else 7)]) ∧ Below wz.heap.size wz w' :=
      fun da dc wz hz' => choose_any xb { S with next := S.next + 1 } F1 gS cs vT vV vN RR Fs _ p.src p.dst p.proto p.id p.off p.more p.sport p.dport da p.dlen dc wz hz' hs.slots hpb.src.1 hpb.src.2 hpb.dst.1 hpb.dst.2 hpb.proto.1 hpb.proto.2 hpb.id.1 hpb.id.2 hpb.off.1 (by have := hpb.off.2; omega) hpb.sport.1 hpb.sport.2 hpb.dport.1 hpb.dport.2
    rw [hup]
    cases hwp : (decide (p.off = 0) && !p.more) with
    | true =>
      have hwk : wholePk p = true := hwp
      refine (arrive_whole xb gS cs.size S.next rep ao n cap p.src p.dst p.proto p.id p.off p.more p.sport p.dport p.dlen (fun wz w' => ∃ F' vV', PrC w' xb (if (if (!S.slots.isEmpty) = true then (0 : Int) else 7) = 0 then toldM { S with next := S.next + 1 } S.next 0 (chosenM S p) else toldM { S with next := S.next + 1 } S.next 2 0) F' gS cs vT vV' vN RR Fs (fun _ => S.now) ∧ Stp wz w' F1 F') _ w h.blk c0 c3 (by omega) hr0 hr1 (hide hU2) hwp (hide (fun da dc wz hb => pass_core xb { S with next := S.next + 1 } F1 gS cs vT vV vN RR Fs _ S.next p.src p.dst p.proto p.id p.off p.more p.sport p.dport da p.dlen dc (chosenM S p) _ wz (h1.below hb) (by simp only; omega) (hide (fun wy hy => hch da dc wy ((h1.below hb).below hy)))))).mono ?_
      rintro e w' ⟨rfl, wz, hb, F', vV', h2, hS2⟩
      have hal : (if (if (!S.slots.isEmpty) = true then (0 : Int) else 7) = 0 then toldM { S with next := S.next + 1 } S.next 0 (chosenM S p) else toldM { S with next := S.next + 1 } S.next 2 0) = arriveM S rep (some p) := by
        unfold arriveM
        simp only [hwk, if_true]
        cases hsl : S.slots with
        | nil => simp
        | cons a t => simp
      rw [hal] at h2
      have hents : (arriveM S rep (some p)).reps = S.reps ∧ (arriveM S rep (some p)).now = S.now ∧ ∀ o, entsM (arriveM S rep (some p)) o = entsM S o := by
        unfold arriveM
        simp only [hwk, if_true]
        split <;> exact ⟨rfl, rfl, fun _ => rfl⟩
      exact ⟨rfl, F', ⟨gS, cs, vT, vV', vN, RR, Fs, by rw [hents.2.1]; exact h2, by rw [hents.1]; exact hr, fun o ho => by rw [hents.2.2]; exact he o ho⟩, (hS1.trans (Stp.below hb)).trans hS2⟩
    | false =>
      have hwk : wholePk p = false := hwp
      have hpok := hpo hwk
      have hown : 0 ≤ ownerM S p := Int.emod_nonneg _ (by have := hs.cok.reps; omega)
      obtain ⟨o, ho⟩ : ∃ o : Nat, ownerM S p = (o : Int) := Int.eq_ofNat_of_zero_le hown
      have hdg : dgH p.src p.dst p.proto p.id % (cs.size : Int) = (o : Int) := by rw [← hr]; exact ho
      have hOW : ∀ (da : Option Addr) (dc : Nat) wz, PrC wz xb { S with next := S.next + 1 } F1 gS cs vT vV vN RR Fs (fun _ => S.now) → Calls Tryz.prog 50 #[.pointer (some ⟨xb, 0, none⟩), .agg #[.int .u16 p.src, .int .u16 p.dst, .int .u8 p.proto, .int .u16 p.id, .int .u8 p.off, .bool p.more, .int .u16 p.sport, .int .u16 p.dport, .slice da p.dlen dc]] wz fun e w' => e = .returned (.int .i64 o) ∧ Below wz.heap.size wz w' := by
        intro da dc wz hz'
        have := owner_any xb { S with next := S.next + 1 } F1 gS cs vT vV vN RR Fs _ p.src p.dst p.proto p.id p.off p.more p.sport p.dport da p.dlen dc wz hz' hN1 hN5 hpb.src.1 hpb.src.2 hpb.dst.1 hpb.dst.2 hpb.proto.1 hpb.proto.2 hpb.id.1 hpb.id.2 hpb.off.1 (by have := hpb.off.2; omega) hpb.sport.1 hpb.sport.2 hpb.dport.1 hpb.dport.2
        rw [hdg] at this
        exact this
      by_cases hfo : rep = (o : Int)
      · have harr : arriveM S rep (some p) = pieceM { S with next := S.next + 1 } S.next p := by
          unfold arriveM
          simp only [hwk, Bool.false_eq_true, if_false]
          rw [if_pos (by rw [ho, hfo])]
        have hPI : ∀ wz, PrC wz xb { S with next := S.next + 1 } F1 gS cs vT vV vN RR Fs (fun _ => S.now) → PrIs wz xb { S with next := S.next + 1 } F1 := fun wz hz' => ⟨gS, cs, vT, vV, vN, RR, Fs, hz', hr, he⟩
        have hown1 : ownerM { S with next := S.next + 1 } p = (o : Int) := ho
        refine (arrive_piece xb gS cs.size S.next rep ao n cap p.src p.dst p.proto p.id p.off p.more p.sport p.dport p.dlen (fun wz w' => ∃ wy, Below wz.heap.size wz wy ∧ ∃ F', PrIs w' xb (pieceM { S with next := S.next + 1 } S.next p) F' ∧ Stp wy w' F1 F') _ w h.blk c0 c3 (by omega) hr0 hr1 (hide hU2) hwp (hide (fun da dc wz hb => send_here xb S.next o rep p.src p.dst p.proto p.id p.off p.more p.sport p.dport da p.dlen dc (fun wy w' => ∃ F', PrIs w' xb (pieceM { S with next := S.next + 1 } S.next p) F' ∧ Stp wy w' F1 F') wz (by have := hpb.dlen; omega) hfo (hide (fun wy hy => hOW da dc wy ((h1.below hb).below hy))) (hide (fun wy hy => ?_))))).mono ?_
        · have := ccome_any xb { S with next := S.next + 1 } F1 S.next rep p wy (hPI wy ((h1.below hb).below hy)) hs1.1 hu hpb
          rw [hown1] at this
          exact this
        · rintro e w' ⟨rfl, wz, hb, wy, hy, F', h2, hS2⟩
          rw [harr]
          exact ⟨rfl, F', h2, ((hS1.trans (Stp.below hb)).trans (Stp.below hy)).trans hS2⟩
      · have harr : arriveM S rep (some p) = { S with next := S.next + 1, sent := S.sent ++ [⟨S.next, rep, o, p⟩] } := by
          unfold arriveM
          simp only [hwk, Bool.false_eq_true, if_false]
          rw [if_neg (by rw [ho]; exact fun hh => hfo hh.symm), ho]
        refine (arrive_piece xb gS cs.size S.next rep ao n cap p.src p.dst p.proto p.id p.off p.more p.sport p.dport p.dlen (fun wz w' => ∃ F' vN', PrC w' xb { S with next := S.next + 1, sent := S.sent ++ [⟨S.next, rep, o, p⟩] } F' gS cs vT vV vN' RR Fs (fun _ => S.now) ∧ Stp wz w' F1 F') _ w h.blk c0 c3 (by omega) hr0 hr1 (hide hU2) hwp (hide (fun da dc wz hb => send_away xb { S with next := S.next + 1 } F1 gS cs vT vV vN RR Fs _ S.next o rep p.src p.dst p.proto p.id p.off p.more p.sport p.dport da p.dlen dc wz (h1.below hb) (by have := hpb.dlen; omega) hfo (by simp only; omega) (hide (fun wy hy => hOW da dc wy ((h1.below hb).below hy)))))).mono ?_
        rintro e w' ⟨rfl, wz, hb, F', vN', h2, hS2⟩
        rw [harr]
        exact ⟨rfl, F', ⟨gS, cs, vT, vV, vN', RR, Fs, h2, hr, he⟩, (hS1.trans (Stp.below hb)).trans hS2⟩
  · have hup : upK zs = none := by unfold upK; rw [if_neg hc]
    have hU2 : Calls Tryz.prog 64 #[.slice ao n cap] (w.setCell ⟨xb, 3, none⟩ (.int .i64 ((S.next : Int) + 1))) fun e w2 => e = .returned (.tuple #[.agg #[.int .u16 0, .int .u16 0, .int .u8 0, .int .u16 0, .int .u8 0, .bool false, .int .u16 0, .int .u16 0, .slice none 0 0], .int .i64 (upC zs)]) ∧ Below (w.setCell ⟨xb, 3, none⟩ (.int .i64 ((S.next : Int) + 1))).heap.size (w.setCell ⟨xb, 3, none⟩ (.int .i64 ((S.next : Int) + 1))) w2 := by
      refine hU.mono ?_
      rintro e w2 ⟨hb, ⟨h0, _⟩ | ⟨_, rfl⟩⟩
      · exact absurd h0 hc
      · exact ⟨rfl, hb⟩
    refine (arrive_bad xb gS cs.size S.next rep ao n cap 0 0 0 0 0 false 0 0 none 0 0 (upC zs) hc (fun wz w' => ∃ F' vV', PrC w' xb (toldM { S with next := S.next + 1 } S.next 1 0) F' gS cs vT vV' vN RR Fs (fun _ => S.now) ∧ Stp wz w' F1 F') _ w h.blk c0 c3 (by omega) hr0 hr1 (hide hU2) (hide (fun wz hb => (tell_any xb { S with next := S.next + 1 } F1 gS cs vT vV vN RR Fs _ S.next 1 0 wz (h1.below hb) (by simp only; omega)).mono (fun e w' he => he)))).mono ?_
    rintro e w' ⟨rfl, wz, hb, F', vV', h2, hS2⟩
    rw [hup]
    exact ⟨rfl, F', ⟨gS, cs, vT, vV', vN, RR, Fs, h2, hr, he⟩, (hS1.trans (Stp.below hb)).trans hS2⟩

end Go.Proofs.YtajphdppmdoalaaGreat

namespace Go.Proofs.YtajphdppmdoalaaGreat
open Go.RowKit
set_option linter.unusedVariables false

end Go.Proofs.YtajphdppmdoalaaGreat

namespace Go.Proofs.YtajphdppmdoalaaGreat
open Go.RowKit
set_option linter.unusedVariables false

end Go.Proofs.YtajphdppmdoalaaGreat
