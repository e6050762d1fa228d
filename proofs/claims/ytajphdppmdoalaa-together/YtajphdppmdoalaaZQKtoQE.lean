import Derived.Test.YtajphdppmdoalaaZQJtoQJ
import Derived.Test.YtajphdppmdoalaaZPCtoQA
import Derived.Laws.MakeOwn
namespace Go.Proofs.Ytajphdppmdoalaa
open Go.RowKit
set_option linter.unusedVariables false

/-- The bytes of a packet. -/
def PV.bytes (x : PV) : List Int := pkL x.p.src x.p.dst x.p.proto x.p.id x.p.off x.p.more x.p.sport x.p.dport (fl x.fill x.p.dlen)
/-- A packet that may be packed. -/
structure PkG (p : Pk) : Prop where
  src : 0 ≤ p.src ∧ p.src ≤ 65535
  dst : 0 ≤ p.dst ∧ p.dst ≤ 65535
  proto : 0 ≤ p.proto ∧ p.proto ≤ 255
  id : 0 ≤ p.id ∧ p.id ≤ 65535
  off : 0 ≤ p.off ∧ p.off ≤ 255
  sport : 0 ≤ p.sport ∧ p.sport ≤ 65535
  dport : 0 ≤ p.dport ∧ p.dport ≤ 65535
  wf : wfB p.off p.more p.sport p.dport p.dlen = true
theorem PkG.dlen {p : Pk} (h : PkG p) : p.dlen ≤ 32 := by
  have := h.wf
  simp only [wfB, Bool.and_eq_true, Bool.or_eq_true, decide_eq_true_eq, Bool.not_eq_true'] at this
  exact this.1.1.2
theorem packed_pv (x : PV) (base : Nat) (w : World) (hg : PkG x.p) (h : PVok w base x) :
    Calls Try.prog 11 #[.agg #[.int .u16 x.p.src, .int .u16 x.p.dst, .int .u8 x.p.proto, .int .u16 x.p.id, .int .u8 x.p.off, .bool x.p.more, .int .u16 x.p.sport, .int .u16 x.p.dport, .slice x.ao x.p.dlen x.cap]] w fun e w' => ∃ g cv, e = .returned (.slice (some ⟨g, 0, none⟩) x.bytes.length cv) ∧ w'.ownsRow w.heap.size 5 1 (.slice (some ⟨g, 0, none⟩) x.bytes.length cv) x.bytes.length (x.bytes.map (Value.int .u8)) ∧ Below w.heap.size w w' :=
  packed_yes x.p.src x.p.dst x.p.proto x.p.id x.p.off x.p.more x.p.sport x.p.dport x.ao x.p.dlen x.cap (fl x.fill x.p.dlen) w hg.src.1 hg.src.2 hg.dst.1 hg.dst.2 hg.proto.1 hg.proto.2 hg.id.1 hg.id.2 hg.off.1 hg.off.2 hg.sport.1 hg.sport.2 hg.dport.1 hg.dport.2 (fl_length _ _) (PVok.has h).2 (PVok.has h).1 hg.wf
theorem bytes_up (x : PV) (hg : PkG x.p) : upK x.bytes = some x.p := by
  have := upK_pk x.p.src x.p.dst x.p.proto x.p.id x.p.off x.p.more x.p.sport x.p.dport (fl x.fill x.p.dlen) hg.src.1 hg.src.2 hg.dst.1 hg.dst.2 hg.proto.1 hg.proto.2 hg.id.1 hg.id.2 hg.off.1 hg.off.2 hg.sport.1 hg.sport.2 hg.dport.1 hg.dport.2 (by rw [fl_length]; exact hg.wf)
  rw [fl_length] at this
  exact this
theorem bytes_bd (x : PV) (hg : PkG x.p) : ∀ z ∈ x.bytes, 0 ≤ z ∧ z ≤ 255 :=
  pk_bytes x.p.src x.p.dst x.p.proto x.p.id x.p.off x.p.more x.p.sport x.p.dport (fl x.fill x.p.dlen) hg.src.1 hg.src.2 hg.dst.1 hg.dst.2 hg.proto.1 hg.proto.2 hg.id.1 hg.id.2 hg.off.1 hg.off.2 hg.sport.1 hg.sport.2 hg.dport.1 hg.dport.2 (by rw [fl_length]; exact hg.dlen) (fl_bd _ _)
/-- A row of packets, and their bytes. -/
def PkL (w : World) (base : Nat) (v : Value) (L : List PV) : Prop := w.ownsRow base 28 9 v L.length (L.flatMap PV.cells) ∧ ∀ x ∈ L, PVok w base x
theorem PkL.kept {w w' : World} {base : Nat} {v : Value} {L : List PV} {G : Nat → Prop} (h : PkL w base v L) (ho : Kp G w w') (hG : ∀ k, base ≤ k → k < w.heap.size → G k) : PkL w' base v L :=
  ⟨own_only h.1 ho (fun g hg hn => hn (hG g (h.1.lt g hg).1 (h.1.lt g hg).2)), fun x hx => PVok.kept (h.2 x hx) ho hG⟩
theorem PkL.below {w w' : World} {base : Nat} {v : Value} {L : List PV} (h : PkL w base v L) (hb : Below w.heap.size w w') : PkL w' base v L :=
  ⟨own_only (F := fun _ => False) h.1 (Only.of_below hb) (fun _ _ hh => hh), fun x hx => PVok.below (h.2 x hx) hb⟩
theorem PkL.cells {w : World} {base g cv : Nat} {L : List PV} (h : PkL w base (.slice (some ⟨g, 0, none⟩) L.length cv) L) (j : Nat) (x : PV) (hj : L[j]? = some x) :
    w.cell? ⟨g, j * 9, none⟩ = some (.int .u16 x.p.src) ∧ w.cell? ⟨g, j * 9 + 1, none⟩ = some (.int .u16 x.p.dst) ∧ w.cell? ⟨g, j * 9 + 2, none⟩ = some (.int .u8 x.p.proto) ∧ w.cell? ⟨g, j * 9 + 3, none⟩ = some (.int .u16 x.p.id) ∧ w.cell? ⟨g, j * 9 + 4, none⟩ = some (.int .u8 x.p.off) ∧ w.cell? ⟨g, j * 9 + 5, none⟩ = some (.bool x.p.more) ∧ w.cell? ⟨g, j * 9 + 6, none⟩ = some (.int .u16 x.p.sport) ∧ w.cell? ⟨g, j * 9 + 7, none⟩ = some (.int .u16 x.p.dport) ∧ w.cell? ⟨g, j * 9 + 8, none⟩ = some (.slice x.ao x.p.dlen x.cap) :=
  ⟨row_get PV.cells PV.len h.1 j x hj 0 _ rfl, row_get PV.cells PV.len h.1 j x hj 1 _ rfl, row_get PV.cells PV.len h.1 j x hj 2 _ rfl, row_get PV.cells PV.len h.1 j x hj 3 _ rfl, row_get PV.cells PV.len h.1 j x hj 4 _ rfl, row_get PV.cells PV.len h.1 j x hj 5 _ rfl, row_get PV.cells PV.len h.1 j x hj 6 _ rfl, row_get PV.cells PV.len h.1 j x hj 7 _ rfl, row_get PV.cells PV.len h.1 j x hj 8 _ rfl⟩
/-- Blocks that came about since some world are none of the cluster's. -/
theorem At.plusAll {w0 w w' : World} {G : Nat → Prop} {xb : Nat} {S : Cl} (h : At w0 G xb S w) (hb : Below w.heap.size w w') : At w0 (fun k => G k ∨ (w.heap.size ≤ k ∧ k < w'.heap.size)) xb S w' := by
  obtain ⟨F, hp, hF⟩ := h.cl
  have hflt : ∀ k, F k → k < w.heap.size := by
    obtain ⟨gS, cs, vT, vV, vN, RR, Fs, h1, _⟩ := hp
    exact h1.flt
  refine ⟨⟨F, hp.below hb, fun k hk => ⟨(hF k hk).1, fun hg => ?_⟩⟩, fun k hk => ?_, h.bel.trans (hb.mono h.bel.size)⟩
  · rcases hg with hg | hg
    · exact (hF k hk).2 hg
    · have := hflt k hk
      omega
  · rcases hk with hk | hk
    · exact Nat.lt_of_lt_of_le (h.lt k hk) hb.size
    · exact hk.2
/-- The pieces of a flow's datagram may be packed. -/
theorem cut_good (src dst proto id sport dport : Int) (u : Nat) (r : List Nat) (t : Nat) (m : Nat) (hm : m ≤ 8) (h : rises u r) (hg : gapsLe m u r) (hl : lastU u r ≤ 15) (ht : 1 ≤ t ∧ t ≤ 32) (hs : 0 ≤ src ∧ src ≤ 65535) (hd : 0 ≤ dst ∧ dst ≤ 65535) (hp : 0 ≤ proto ∧ proto ≤ 255) (hi : 0 ≤ id ∧ id ≤ 65535) (hsp : 0 ≤ sport ∧ sport ≤ 65535) (hdp : 0 ≤ dport ∧ dport ≤ 65535) :
    ∀ p ∈ cutD src dst proto id sport dport u r t, PkG p := by
  have key : ∀ (v : Nat) (more : Bool) (n : Nat), v ≤ 15 → 1 ≤ n → n ≤ 32 → (more = true → n % 4 = 0) → PkG (pkAt src dst proto id sport dport v more n) := by
    intro v more n hv h1 h2 h3
    have hpo : ∀ z : Int, 0 ≤ z ∧ z ≤ 65535 → 0 ≤ (if (v : Int) = 0 then z else 0) ∧ (if (v : Int) = 0 then z else 0) ≤ 65535 := by
      intro z hz
      split <;> omega
    refine ⟨hs, hd, hp, hi, ⟨by simp only [pkAt]; omega, by simp only [pkAt]; omega⟩, hpo sport hsp, hpo dport hdp, ?_⟩
    show wfB (v : Int) more (if (v : Int) = 0 then sport else 0) (if (v : Int) = 0 then dport else 0) n = true
    unfold wfB
    have a1 : decide ((v : Int) ≤ 15) = true := decide_eq_true (by omega)
    have a2 : decide (n ≤ 32) = true := decide_eq_true h2
    have a3 : decide (n ≠ 0) = true := decide_eq_true (by omega)
    have a4 : (!more || (decide (n ≠ 0) && decide (n % 4 = 0))) = true := by
      cases more with
      | false => rfl
      | true => rw [a3, decide_eq_true (h3 rfl)]; rfl
    rw [a1, a2, a4, a3]
    by_cases hv0 : (v : Int) = 0
    · rw [decide_eq_true hv0]; rfl
    · rw [if_neg hv0, if_neg hv0, decide_eq_false hv0]; rfl
  induction r generalizing u with
  | nil =>
    intro p hp'
    simp only [cutD, List.mem_singleton] at hp'
    subst hp'
    exact key u false t hl ht.1 ht.2 (by simp)
  | cons v r ih =>
    intro p hp'
    simp only [cutD, List.mem_cons] at hp'
    rcases hp' with rfl | hp'
    · have h1 := h.1
      have h2 := hg.1
      have h3 := last_ge v r h.2
      simp only [lastU] at hl
      exact key u true (4 * (v - u)) (by omega) (by omega) (by omega) (fun _ => by omega)
    · exact ih v h.2 hg.2 hl p hp'

end Go.Proofs.Ytajphdppmdoalaa

namespace Go.Proofs.Ytajphdppmdoalaa
open Go.RowKit
set_option linter.unusedVariables false

/-- Backends that are let in. -/
def BkOK (l : List Int) : Prop := nd l = true ∧ 1 ≤ l.length ∧ l.length ≤ 6 ∧ ∀ z ∈ l, 0 ≤ z ∧ z ≤ 255
/-- A datagram in pieces, as ferrykeep makes it. -/
def DgOK (src dst id proto sport dport : Int) (m : Nat) (tail : Int) (L : List PV) : Prop := ∃ (r : List Nat) (t : Nat), L.map PV.p = cutD src dst proto id sport dport 0 r t ∧ rises 0 r ∧ gapsLe (m + 1) 0 r ∧ lastU 0 r ≤ 15 ∧ 1 ≤ r.length ∧ r.length ≤ 7 ∧ (t : Int) = 1 + pk tail 32
theorem DgOK.len {src dst id proto sport dport : Int} {m : Nat} {tail : Int} {L : List PV} (h : DgOK src dst id proto sport dport m tail L) : 2 ≤ L.length ∧ L.length ≤ 8 := by
  obtain ⟨r, t, h1, _, _, _, h2, h3, _⟩ := h
  have := congrArg List.length h1
  rw [List.length_map, cut_length] at this
  omega

end Go.Proofs.Ytajphdppmdoalaa

namespace Go.Proofs.Ytajphdppmdoalaa
open Go.RowKit
set_option linter.unusedVariables false

set_option maxRecDepth 100000 in
set_option maxHeartbeats 1600000 in
theorem sent_core (xb m n cap : Nat) (zs : List Int) (ao : Option Addr) (w : World) (P : Nat → World → Prop) (hl : zs.length = n) (hn : n ≤ 9223372036854775807) (hm : m ≤ 100) (hz : ∀ z ∈ zs, -9223372036854775808 ≤ z ∧ z ≤ 9223372036854775807) (h0 : P m w)
    (HZ : Hid (∀ j wz, P j wz → HasZ wz ao zs))
    (HF : Hid (∀ j wz, P j wz → Calls Try.prog 24 #[.pointer (some ⟨xb, 0, none⟩)] wz fun e w' => ∃ ad cp, e = .returned (.slice ad j cp) ∧ P j w'))
    (HD : Hid (∀ (j k : Nat) wz, k ≤ j → P (j + 1) wz → Calls Try.prog 38 #[.pointer (some ⟨xb, 0, none⟩), .int .i64 k] wz fun e w' => e = .returned (.int .i64 0) ∧ P j w')) :
    Calls Try.prog 20 #[.pointer (some ⟨xb, 0, none⟩), .slice ao n cap] w fun e w' => e = .returned (.bool true) ∧ P 0 w' := by
  have HF1 := hide (HF.out m w h0)
  have HZB := hide hz
  clear hz h0
  go_enter Try.func20, Try.ntmps20
  go_wp2_with fail
  refine HF1.out.mono ?_
  rintro e w1 ⟨ad, cp, rfl, hP⟩
  have HP1 := hide hP
  clear hP HF1
  go_wp2_with fail
  go_loopw [6] (fun a6 wr => ∃ j : Nat, j ≤ m ∧ a6 = .int .i64 j ∧ Hid (P j wr)) (fun a6 _ => (intOf a6).toNat)
  case atStart => exact ⟨m, Nat.le_refl _, rfl, HP1.out⟩
  case round =>
    obtain ⟨j, hj, rfl, HP⟩ := hrel
    clear HP1
    by_cases hj0 : 0 < j
    · obtain ⟨i, rfl⟩ : ∃ i, j = i + 1 := ⟨j - 1, by omega⟩
      have i1 : (0 : Int) < (i : Int) + 1 := by omega
      have HDD := hide (fun k hk => HD.out i k wr hk HP.out)
      by_cases hn0 : 0 < n
      · obtain ⟨b, f, rfl, hbl, hcs⟩ := (HZ.out _ _ HP.out).2 (by rintro rfl; simp at hl; omega)
        have hmod : (i + 1) % n < n := Nat.mod_lt _ hn0
        have hml : (i + 1) % n < zs.length := by omega
        have c0 := hcs _ hml
        have hzb := HZB.out (zs.getD ((i + 1) % n) 0) (by rw [List.getD_eq_getElem?_getD, List.getElem?_eq_getElem hml]; exact List.getElem_mem hml)
        have hidx : Int.tmod ((i : Int) + 1) (n : Int) = ((i + 1) % n : Nat) := by rw [Int.tmod_eq_emod_of_nonneg (by omega)]; simp
        have hidx2 : ((i : Int) + 1) % (n : Int) = ((i + 1) % n : Nat) := by simp
        clear hcs
        generalize zs.getD ((i + 1) % n) 0 = z at *
        generalize (i + 1) % n = q at *
        have i2 : (0 : Int) < (n : Int) := by omega
        have i3 : (q : Int) < (n : Int) := by omega
        have i4 : ((n : Int) == 0) = false := by rw [beq_eq_false_iff_ne]; omega
        go_wp2_with fail
        refine (pick_any z ((i : Int) + 1) _ hzb.1 hzb.2 (by omega) (by omega)).mono ?_
        rintro e w2 ⟨rfl, rfl⟩
        have hpb := pk_bd z ((i : Int) + 1) (by omega)
        obtain ⟨k, hk⟩ := Int.eq_ofNat_of_zero_le hpb.1
        rw [hk] at hpb ⊢
        have HDK := hide (HDD.out k (by omega))
        clear hk c0 hidx hidx2
        go_wp2_with fail
        refine HDK.out.mono ?_
        rintro e w3 ⟨rfl, hP3⟩
        have HP3 := hide hP3
        clear hP3 HDK HDD
        go_wp2
        go_roundw
        case rel => exact ⟨i, by omega, by go_num, HP3.out⟩
        case measure => simp [intOf]
      · obtain rfl : n = 0 := by omega
        have HDK := hide (HDD.out i (Nat.le_refl _))
        go_wp2_with fail
        refine HDK.out.mono ?_
        rintro e w3 ⟨rfl, hP3⟩
        have HP3 := hide hP3
        clear hP3 HDK HDD
        go_wp2
        go_roundw
        case rel => exact ⟨i, by omega, by go_num, HP3.out⟩
        case measure => simp [intOf]
    · obtain rfl : j = 0 := by omega
      have HFF := hide (HF.out 0 wr HP.out)
      go_wp2_with fail
      refine HFF.out.mono ?_
      rintro e w2 ⟨ad2, cp2, rfl, hP2⟩
      have HP2 := hide hP2
      clear hP2 HFF
      go_wp2
      go_ret
      exact ⟨rfl, HP2.out⟩

end Go.Proofs.Ytajphdppmdoalaa

namespace Go.Proofs.Ytajphdppmdoalaa
open Go.RowKit
set_option linter.unusedVariables false

theorem Try.infoBool : (Try.prog.info? 4).map (fun i => (i.zero, i.size, i.bytes)) = some (some (.bool false), 1, 1) := by kernel_rfl
theorem made_bool (n : Nat) : madeCells (Value.bool false).cells n = Array.replicate n (.bool false) := by
  apply Array.ext
  · simp [madeCells]
  · intro i h1 h2
    simp [madeCells, Value.cells, Nat.mod_one]
theorem make_bool (n : Nat) (hn : n ≤ 2000000000000) (w : World) : (Instr.makeSlice 48 (.int .i64 (n : Int)) (.int .i64 (n : Int))).run Try.prog w = .ok (.slice (some ⟨w.heap.size, 0, none⟩) n n) (w.alloc (.cells (Array.replicate n (.bool false)) 4)) := by
  obtain ⟨i0, hi, hq0, hq1, hq2⟩ := info_parts Try.infoBool
  have h := run_make (P := Try.prog) w 48 4 i0 _ Try.underlying48 hi hq0 .i64 .i64 (n : Int) (n : Int) (by omega) (Int.le_refl _) (by rw [hq2]; omega) (by omega)
  rw [Int.toNat_natCast, hq1, Nat.mul_one, made_bool] at h
  exact h
/-- The row of what was told: at each place, was the arrival with its number told? -/
def Told (C : Array Value) (n : Nat) (told : List Nat) : Prop := C.size = n ∧ ∀ j, j < n → C[j]? = some (.bool (decide (j ∈ told)))
theorem told_start (n : Nat) : Told (Array.replicate n (.bool false)) n [] := ⟨by simp, fun j hj => by simp [hj]⟩
theorem told_more {C : Array Value} {n : Nat} {told : List Nat} (h : Told C n told) (s : Nat) (hs : s < n) : Told (C.set! s (.bool true)) n (told ++ [s]) := by
  refine ⟨by simpa using h.1, fun j hj => ?_⟩
  rw [Array.set!_eq_setIfInBounds, Array.getElem?_setIfInBounds]
  by_cases hjs : s = j
  · subst hjs
    rw [if_pos rfl, if_pos (by rw [h.1]; exact hs)]
    simp
  · rw [if_neg hjs, h.2 j hj]
    have : (j ∈ told ++ [s]) ↔ j ∈ told := by
      rw [List.mem_append, List.mem_singleton]
      constructor
      · rintro (h | h)
        · exact h
        · exact absurd h.symm hjs
      · exact .inl
    rw [decide_eq_decide.2 this]
end Go.Proofs.Ytajphdppmdoalaa
