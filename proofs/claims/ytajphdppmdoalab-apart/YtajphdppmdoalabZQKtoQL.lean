import Derived.Test.YtajphdppmdoalabZQJtoQJ
namespace Go.Proofs.Ytajphdppmdoalab
open Go.RowKit
set_option linter.unusedVariables false

/-- The bytes of a packet. -/
def PV.bytes (x : PV) : List Int := pkL x.p.src x.p.dst x.p.proto x.p.id x.p.off x.p.more x.p.sport x.p.dport (fl x.fill x.p.dlen)
/-- A packet that may be packed. -/
structure PkG (p : Pk) : Prop where
  src : 0 ≤ p.src ∧ p.src ≤ 65535
  dst : 0 ≤ p.dst ∧ p.dst ≤ 65535
  proto : 0 ≤ p.proto ∧ p.proto ≤ 255
  id : 0 ≤ p.id ∧ p.id ≤ 65535
  off : 0 ≤ p.off ∧ p.off ≤ 255
  sport : 0 ≤ p.sport ∧ p.sport ≤ 65535
  dport : 0 ≤ p.dport ∧ p.dport ≤ 65535
  wf : wfB p.off p.more p.sport p.dport p.dlen = true
theorem PkG.dlen {p : Pk} (h : PkG p) : p.dlen ≤ 32 := by
  have := h.wf
  simp only [wfB, Bool.and_eq_true, Bool.or_eq_true, decide_eq_true_eq, Bool.not_eq_true'] at this
  exact this.1.1.2
theorem packed_pv (x : PV) (base : Nat) (w : World) (hg : PkG x.p) (h : PVok w base x) :
    Calls Try.prog 10 #[.agg #[.int .u16 x.p.src, .int .u16 x.p.dst, .int .u8 x.p.proto, .int .u16 x.p.id, .int .u8 x.p.off, .bool x.p.more, .int .u16 x.p.sport, .int .u16 x.p.dport, .slice x.ao x.p.dlen x.cap]] w fun e w' => ∃ g cv, e = .returned (.slice (some ⟨g, 0, none⟩) x.bytes.length cv) ∧ w'.ownsRow w.heap.size 5 1 (.slice (some ⟨g, 0, none⟩) x.bytes.length cv) x.bytes.length (x.bytes.map (Value.int .u8)) ∧ Below w.heap.size w w' :=
  packed_yes x.p.src x.p.dst x.p.proto x.p.id x.p.off x.p.more x.p.sport x.p.dport x.ao x.p.dlen x.cap (fl x.fill x.p.dlen) w hg.src.1 hg.src.2 hg.dst.1 hg.dst.2 hg.proto.1 hg.proto.2 hg.id.1 hg.id.2 hg.off.1 hg.off.2 hg.sport.1 hg.sport.2 hg.dport.1 hg.dport.2 (fl_length _ _) (PVok.has h).2 (PVok.has h).1 hg.wf
theorem bytes_up (x : PV) (hg : PkG x.p) : upK x.bytes = some x.p := by
  have := upK_pk x.p.src x.p.dst x.p.proto x.p.id x.p.off x.p.more x.p.sport x.p.dport (fl x.fill x.p.dlen) hg.src.1 hg.src.2 hg.dst.1 hg.dst.2 hg.proto.1 hg.proto.2 hg.id.1 hg.id.2 hg.off.1 hg.off.2 hg.sport.1 hg.sport.2 hg.dport.1 hg.dport.2 (by rw [fl_length]; exact hg.wf)
  rw [fl_length] at this
  exact this
theorem bytes_bd (x : PV) (hg : PkG x.p) : ∀ z ∈ x.bytes, 0 ≤ z ∧ z ≤ 255 :=
  pk_bytes x.p.src x.p.dst x.p.proto x.p.id x.p.off x.p.more x.p.sport x.p.dport (fl x.fill x.p.dlen) hg.src.1 hg.src.2 hg.dst.1 hg.dst.2 hg.proto.1 hg.proto.2 hg.id.1 hg.id.2 hg.off.1 hg.off.2 hg.sport.1 hg.sport.2 hg.dport.1 hg.dport.2 (by rw [fl_length]; exact hg.dlen) (fl_bd _ _)
/-- A row of packets, and their bytes. -/
def PkL (w : World) (base : Nat) (v : Value) (L : List PV) : Prop := w.ownsRow base 36 9 v L.length (L.flatMap PV.cells) ∧ ∀ x ∈ L, PVok w base x
theorem PkL.kept {w w' : World} {base : Nat} {v : Value} {L : List PV} {G : Nat → Prop} (h : PkL w base v L) (ho : Kp G w w') (hG : ∀ k, base ≤ k → k < w.heap.size → G k) : PkL w' base v L :=
  ⟨own_only h.1 ho (fun g hg hn => hn (hG g (h.1.lt g hg).1 (h.1.lt g hg).2)), fun x hx => PVok.kept (h.2 x hx) ho hG⟩
theorem PkL.below {w w' : World} {base : Nat} {v : Value} {L : List PV} (h : PkL w base v L) (hb : Below w.heap.size w w') : PkL w' base v L :=
  ⟨own_only (F := fun _ => False) h.1 (Only.of_below hb) (fun _ _ hh => hh), fun x hx => PVok.below (h.2 x hx) hb⟩
theorem PkL.cells {w : World} {base g cv : Nat} {L : List PV} (h : PkL w base (.slice (some ⟨g, 0, none⟩) L.length cv) L) (j : Nat) (x : PV) (hj : L[j]? = some x) :
    w.cell? ⟨g, j * 9, none⟩ = some (.int .u16 x.p.src) ∧ w.cell? ⟨g, j * 9 + 1, none⟩ = some (.int .u16 x.p.dst) ∧ w.cell? ⟨g, j * 9 + 2, none⟩ = some (.int .u8 x.p.proto) ∧ w.cell? ⟨g, j * 9 + 3, none⟩ = some (.int .u16 x.p.id) ∧ w.cell? ⟨g, j * 9 + 4, none⟩ = some (.int .u8 x.p.off) ∧ w.cell? ⟨g, j * 9 + 5, none⟩ = some (.bool x.p.more) ∧ w.cell? ⟨g, j * 9 + 6, none⟩ = some (.int .u16 x.p.sport) ∧ w.cell? ⟨g, j * 9 + 7, none⟩ = some (.int .u16 x.p.dport) ∧ w.cell? ⟨g, j * 9 + 8, none⟩ = some (.slice x.ao x.p.dlen x.cap) :=
  ⟨row_get PV.cells PV.len h.1 j x hj 0 _ rfl, row_get PV.cells PV.len h.1 j x hj 1 _ rfl, row_get PV.cells PV.len h.1 j x hj 2 _ rfl, row_get PV.cells PV.len h.1 j x hj 3 _ rfl, row_get PV.cells PV.len h.1 j x hj 4 _ rfl, row_get PV.cells PV.len h.1 j x hj 5 _ rfl, row_get PV.cells PV.len h.1 j x hj 6 _ rfl, row_get PV.cells PV.len h.1 j x hj 7 _ rfl, row_get PV.cells PV.len h.1 j x hj 8 _ rfl⟩
/-- Blocks that came about since some world are none of the cluster's. -/
theorem At.plusAll {w0 w w' : World} {G : Nat → Prop} {xb : Nat} {S : Cl} (h : At w0 G xb S w) (hb : Below w.heap.size w w') : At w0 (fun k => G k ∨ (w.heap.size ≤ k ∧ k < w'.heap.size)) xb S w' := by
  obtain ⟨F, hp, hF⟩ := h.cl
  have hflt : ∀ k, F k → k < w.heap.size := by
    obtain ⟨gS, cs, vT, vV, vN, RR, Fs, h1, _⟩ := hp
    exact h1.flt
  refine ⟨⟨F, hp.below hb, fun k hk => ⟨(hF k hk).1, fun hg => ?_⟩⟩, fun k hk => ?_, h.bel.trans (hb.mono h.bel.size)⟩
  · rcases hg with hg | hg
    · exact (hF k hk).2 hg
    · have := hflt k hk
      omega
  · rcases hk with hk | hk
    · exact Nat.lt_of_lt_of_le (h.lt k hk) hb.size
    · exact hk.2
/-- The pieces of a flow's datagram may be packed. -/
theorem cut_good (src dst proto id sport dport : Int) (u : Nat) (r : List Nat) (t : Nat) (m : Nat) (hm : m ≤ 8) (h : rises u r) (hg : gapsLe m u r) (hl : lastU u r ≤ 15) (ht : 1 ≤ t ∧ t ≤ 32) (hs : 0 ≤ src ∧ src ≤ 65535) (hd : 0 ≤ dst ∧ dst ≤ 65535) (hp : 0 ≤ proto ∧ proto ≤ 255) (hi : 0 ≤ id ∧ id ≤ 65535) (hsp : 0 ≤ sport ∧ sport ≤ 65535) (hdp : 0 ≤ dport ∧ dport ≤ 65535) :
    ∀ p ∈ cutD src dst proto id sport dport u r t, PkG p := by
  have key : ∀ (v : Nat) (more : Bool) (n : Nat), v ≤ 15 → 1 ≤ n → n ≤ 32 → (more = true → n % 4 = 0) → PkG (pkAt src dst proto id sport dport v more n) := by
    intro v more n hv h1 h2 h3
    have hpo : ∀ z : Int, 0 ≤ z ∧ z ≤ 65535 → 0 ≤ (if (v : Int) = 0 then z else 0) ∧ (if (v : Int) = 0 then z else 0) ≤ 65535 := by
      intro z hz
      split <;> omega
    refine ⟨hs, hd, hp, hi, ⟨by simp only [pkAt]; omega, by simp only [pkAt]; omega⟩, hpo sport hsp, hpo dport hdp, ?_⟩
    show wfB (v : Int) more (if (v : Int) = 0 then sport else 0) (if (v : Int) = 0 then dport else 0) n = true
    unfold wfB
    have a1 : decide ((v : Int) ≤ 15) = true := decide_eq_true (by omega)
    have a2 : decide (n ≤ 32) = true := decide_eq_true h2
    have a3 : decide (n ≠ 0) = true := decide_eq_true (by omega)
    have a4 : (!more || (decide (n ≠ 0) && decide (n % 4 = 0))) = true := by
      cases more with
      | false => rfl
      | true => rw [a3, decide_eq_true (h3 rfl)]; rfl
    rw [a1, a2, a4, a3]
    by_cases hv0 : (v : Int) = 0
    · rw [decide_eq_true hv0]; rfl
    · rw [if_neg hv0, if_neg hv0, decide_eq_false hv0]; rfl
  induction r generalizing u with
  | nil =>
    intro p hp'
    simp only [cutD, List.mem_singleton] at hp'
    subst hp'
    exact key u false t hl ht.1 ht.2 (by simp)
  | cons v r ih =>
    intro p hp'
    simp only [cutD, List.mem_cons] at hp'
    rcases hp' with rfl | hp'
    · have h1 := h.1
      have h2 := hg.1
      have h3 := last_ge v r h.2
      simp only [lastU] at hl
      exact key u true (4 * (v - u)) (by omega) (by omega) (by omega) (fun _ => by omega)
    · exact ih v h.2 hg.2 hl p hp'

end Go.Proofs.Ytajphdppmdoalab

namespace Go.Proofs.Ytajphdppmdoalab
open Go.RowKit
set_option linter.unusedVariables false

/-- Backends that are let in. -/
def BkOK (l : List Int) : Prop := nd l = true ∧ 1 ≤ l.length ∧ l.length ≤ 6 ∧ ∀ z ∈ l, 0 ≤ z ∧ z ≤ 255
/-- A datagram in pieces, as ferrykeep makes it. -/
def DgOK (src dst id proto sport dport : Int) (m : Nat) (tail : Int) (L : List PV) : Prop := ∃ (r : List Nat) (t : Nat), L.map PV.p = cutD src dst proto id sport dport 0 r t ∧ rises 0 r ∧ gapsLe (m + 1) 0 r ∧ lastU 0 r ≤ 15 ∧ 1 ≤ r.length ∧ r.length ≤ 7 ∧ (t : Int) = 1 + pk tail 32
theorem DgOK.len {src dst id proto sport dport : Int} {m : Nat} {tail : Int} {L : List PV} (h : DgOK src dst id proto sport dport m tail L) : 2 ≤ L.length ∧ L.length ≤ 8 := by
  obtain ⟨r, t, h1, _, _, _, h2, h3, _⟩ := h
  have := congrArg List.length h1
  rw [List.length_map, cut_length] at this
  omega

set_option maxRecDepth 100000 in
set_option maxHeartbeats 1600000 in
theorem pinned_core (src dst id proto sport dport tail backends other ob : Int) (zs : List Int) (n cap : Nat) (ao : Option Addr) (w : World) (hl : zs.length = n) (hz : ∀ z ∈ zs, -9223372036854775808 ≤ z ∧ z ≤ 9223372036854775807) (hd : HasZ w ao zs) (hn : n ≤ 9223372036854775807) (ht : -9223372036854775808 ≤ tail ∧ tail ≤ 9223372036854775807) (hbk : -9223372036854775808 ≤ backends ∧ backends ≤ 9223372036854775807) (hob : IntKind.u8.wrap other = ob)
    (tof : List Int → Int) (Z : List Int → Nat → World → Prop) (I J : List Int → Nat → Nat → Nat → List PV → Nat → Nat → World → Prop) (K : List Int → Nat → Nat → Nat → List PV → Nat → Nat → Nat → Nat → World → Prop) (M M2 : List Int → Nat → Nat → Nat → List PV → Nat → Nat → World → Prop)
    (HB : Hid (∀ l va vc wz, Below w.heap.size w wz → BkOK l → Has wz va l → Calls Try.prog 6 #[.int .i64 1, .int .i64 5, .slice va l.length vc] wz fun e w' => ∃ xb, e = .returned (.pointer (some ⟨xb, 0, none⟩)) ∧ Z l xb w' ∧ Below wz.heap.size wz w'))
    (HZ : Hid (∀ l xb wz w1 g cv L, Z l xb wz → Below wz.heap.size wz w1 → PkL w1 wz.heap.size (.slice (some ⟨g, 0, none⟩) L.length cv) L → DgOK src dst id proto sport dport 7 tail L → I l wz.heap.size g cv L xb 0 w1))
    (HIP : Hid (∀ l base g cv L xb i wz, I l base g cv L xb i wz → PkL wz base (.slice (some ⟨g, 0, none⟩) L.length cv) L ∧ g < wz.heap.size))
    (HJP : Hid (∀ l base g cv L xb i wz, J l base g cv L xb i wz → PkL wz base (.slice (some ⟨g, 0, none⟩) L.length cv) L ∧ g < wz.heap.size))
    (HMP : Hid (∀ l base g cv L xb gb wz, M l base g cv L xb gb wz → PkL wz base (.slice (some ⟨g, 0, none⟩) L.length cv) L ∧ g < wz.heap.size))
    (HPD : Hid (∀ L x base wz, DgOK src dst id proto sport dport 7 tail L → x ∈ L → PVok wz base x → Calls Try.prog 10 #[.agg #[.int .u16 x.p.src, .int .u16 x.p.dst, .int .u8 x.p.proto, .int .u16 x.p.id, .int .u8 x.p.off, .bool x.p.more, .int .u16 x.p.sport, .int .u16 x.p.dport, .slice x.ao x.p.dlen x.cap]] wz fun e w' => ∃ g cv, e = .returned (.slice (some ⟨g, 0, none⟩) x.bytes.length cv) ∧ w'.ownsRow wz.heap.size 5 1 (.slice (some ⟨g, 0, none⟩) x.bytes.length cv) x.bytes.length (x.bytes.map (Value.int .u8)) ∧ Below wz.heap.size wz w'))
    (HCH : Hid (∀ l base g cv L xb x wz, L[0]? = some x → I l base g cv L xb 0 wz → Calls Try.prog 8 #[.pointer (some ⟨xb, 0, none⟩), .agg #[.int .u16 x.p.src, .int .u16 x.p.dst, .int .u8 x.p.proto, .int .u16 x.p.id, .int .u8 x.p.off, .bool x.p.more, .int .u16 x.p.sport, .int .u16 x.p.dport, .slice x.ao x.p.dlen x.cap]] wz fun e w' => e = .returned (.tuple #[.int .u8 (tof l), .int .i64 0]) ∧ I l base g cv L xb 0 w'))
    (HBK : Hid (∀ l base g cv L xb wz w1 gn, I l base g cv L xb 1 wz → Below wz.heap.size wz w1 → Has w1 (some ⟨gn, 0, none⟩) [ob] → Calls Try.prog 9 #[.pointer (some ⟨xb, 0, none⟩), .slice (some ⟨gn, 0, none⟩) 1 1] w1 fun e w' => e = .returned (.int .i64 0) ∧ J l base g cv L xb 1 w'))
    (HIJ : Hid (∀ l base g cv L xb i wz, i ≠ 1 → I l base g cv L xb i wz → J l base g cv L xb i wz))
    (HA1 : Hid (∀ l base g cv L xb i x gb ln cb wz w1, L[i]? = some x → J l base g cv L xb i wz → Below wz.heap.size wz w1 → w1.ownsRow wz.heap.size 5 1 (.slice (some ⟨gb, 0, none⟩) ln cb) ln (x.bytes.map (Value.int .u8)) → Calls Try.prog 11 #[.pointer (some ⟨xb, 0, none⟩), .int .i64 0, .slice (some ⟨gb, 0, none⟩) ln cb] w1 fun e w' => ∃ seq : Nat, e = .returned (.tuple #[.int .i64 seq, .int .i64 0]) ∧ K l base g cv L xb i gb cb w'))
    (HA2 : Hid (∀ l base g cv L xb i x gb cb wz, L[i]? = some x → i + 1 < L.length → K l base g cv L xb i gb cb wz → Calls Try.prog 11 #[.pointer (some ⟨xb, 0, none⟩), .int .i64 0, .slice (some ⟨gb, 0, none⟩) x.bytes.length cb] wz fun e w' => ∃ seq : Nat, e = .returned (.tuple #[.int .i64 seq, .int .i64 0]) ∧ I l base g cv L xb (i + 1) w'))
    (HKI : Hid (∀ l base g cv L xb i gb cb wz, i + 1 = L.length → K l base g cv L xb i gb cb wz → I l base g cv L xb (i + 1) wz))
    (HHD : Hid (∀ l base g cv L xb wz, I l base g cv L xb L.length wz → Calls Try.prog 12 #[.pointer (some ⟨xb, 0, none⟩), .int .i64 0] wz fun e w' => e = .returned (.tuple #[.agg #[.int .i64 0, .int .i64 0, .int .i64 0], .int .i64 0]) ∧ I l base g cv L xb L.length w'))
    (HIM : Hid (∀ l base g cv L xb wz w1 gb, I l base g cv L xb L.length wz → Below wz.heap.size wz w1 → wz.heap.size ≤ gb → gb < w1.heap.size → M l base g cv L xb gb w1))
    (HA3 : Hid (∀ l base g cv L xb gh x gb ln cb wz w1, L[0]? = some x → M l base g cv L xb gh wz → Below wz.heap.size wz w1 → w1.ownsRow wz.heap.size 5 1 (.slice (some ⟨gb, 0, none⟩) ln cb) ln (x.bytes.map (Value.int .u8)) → Calls Try.prog 11 #[.pointer (some ⟨xb, 0, none⟩), .int .i64 0, .slice (some ⟨gb, 0, none⟩) ln cb] w1 fun e w' => ∃ seq : Nat, e = .returned (.tuple #[.int .i64 seq, .int .i64 0]) ∧ M2 l base g cv L xb gh w' ∧ ∀ j, w'.cell? ⟨gh, j, none⟩ = wz.cell? ⟨gh, j, none⟩))
    (HTK : Hid (∀ l base g cv L xb gh wz, M2 l base g cv L xb gh wz → Calls Try.prog 13 #[.pointer (some ⟨xb, 0, none⟩)] wz fun e w' => ∃ ge ce, e = .returned (.slice (some ⟨ge, 0, none⟩) (2 * L.length) ce) ∧ ge < w'.heap.size ∧ (∀ q, q + 1 < 2 * L.length → w'.cell? ⟨ge, q * 3, none⟩ = some (.int .i64 q) ∧ w'.cell? ⟨ge, q * 3 + 1, none⟩ = some (.int .u8 (if q % 2 = 1 then 3 else 0)) ∧ w'.cell? ⟨ge, q * 3 + 2, none⟩ = some (.int .u8 (if q % 2 = 1 then 0 else tof l))) ∧ (w'.cell? ⟨ge, (2 * L.length - 1) * 3, none⟩ = some (.int .i64 (2 * L.length - 1 : Nat)) ∧ w'.cell? ⟨ge, (2 * L.length - 1) * 3 + 1, none⟩ = some (.int .u8 0) ∧ w'.cell? ⟨ge, (2 * L.length - 1) * 3 + 2, none⟩ = some (.int .u8 ob)) ∧ Below w.heap.size w w' ∧ ∀ j, w'.cell? ⟨gh, j, none⟩ = wz.cell? ⟨gh, j, none⟩)) :
    Calls Try.prog 3 #[.agg #[.int .u16 src, .int .u16 dst, .int .u16 id, .int .u8 proto, .int .u16 sport, .int .u16 dport], .slice ao n cap, .int .i64 tail, .int .i64 backends, .int .i64 other] w fun e w' => e = .returned (.bool true) ∧ Below w.heap.size w w' := by
  have HBX : Hid (Below w.heap.size w (w.alloc (.cells #[.int .u16 src, .int .u16 dst, .int .u16 id, .int .u8 proto, .int .u16 sport, .int .u16 dport] 24))) := (Below.refl _ _).alloc (Nat.le_refl _) _
  have HX : Hid (∀ j, (w.alloc (.cells #[.int .u16 src, .int .u16 dst, .int .u16 id, .int .u8 proto, .int .u16 sport, .int .u16 dport] 24)).cell? ⟨w.heap.size, j, none⟩ = #[.int .u16 src, .int .u16 dst, .int .u16 id, .int .u8 proto, .int .u16 sport, .int .u16 dport][j]?) := box_cell (Below.refl _ _)
  have hY : w.heap.size < (w.alloc (.cells #[.int .u16 src, .int .u16 dst, .int .u16 id, .int .u8 proto, .int .u16 sport, .int .u16 dport] 24)).heap.size := by simp
  have HD := hide hd
  have HZZ := hide (fun z hh => (show -9223372036854775808 ≤ z ∧ z ≤ 9223372036854775807 ∧ pk z 8 ≤ (7 : Nat) from ⟨(hz z hh).1, (hz z hh).2, by have := (pk_bd z 8 (by decide)).2; omega⟩))
  clear hd hz
  go_enter Try.func3, Try.ntmps3
  go_wp2_with fail
  generalize w.alloc (.cells #[.int .u16 src, .int .u16 dst, .int .u16 id, .int .u8 proto, .int .u16 sport, .int .u16 dport] 24) = w0 at *
  refine (some_any backends _ hbk.1 hbk.2).mono ?_
  rintro e w1 ⟨l, v, rfl, hrow, hnd, hl1, hl6, hlb, hb1⟩
  obtain ⟨va, vc, rfl, hhas, _, _, _, _⟩ := owns_any hrow
  have HB1 : Hid (Below w.heap.size w w1) := HBX.out.trans (hb1.mono (Nat.le_of_lt hY))
  have HBG := hide (HB.out l va vc w1 HB1.out ⟨hnd, hl1, hl6, hlb⟩ hhas)
  have HX1 : Hid (∀ j, w1.cell? ⟨w.heap.size, j, none⟩ = #[.int .u16 src, .int .u16 dst, .int .u16 id, .int .u8 proto, .int .u16 sport, .int .u16 dport][j]?) := fun j => (hb1.cell (p := ⟨w.heap.size, j, none⟩) hY).trans (HX.out j)
  have hY1 : w.heap.size < w1.heap.size := Nat.lt_of_lt_of_le hY hb1.size
  clear hrow hnd hl1 hl6 hlb hhas hb1 HB HBX HX hY
  go_wp2_with fail
  refine HBG.out.mono ?_
  rintro e w2 ⟨xb, rfl, hZ, hb2⟩
  have HZ2 := hide hZ
  have HB2 : Hid (Below w.heap.size w w2) := HB1.out.trans (hb2.mono (Nat.le_of_lt hY1))
  have x2 : ∀ j, w2.cell? ⟨w.heap.size, j, none⟩ = #[.int .u16 src, .int .u16 dst, .int .u16 id, .int .u8 proto, .int .u16 sport, .int .u16 dport][j]? := fun j => (hb2.cell (p := ⟨w.heap.size, j, none⟩) hY1).trans (HX1.out j)
  have hY2 : w.heap.size < w2.heap.size := Nat.lt_of_lt_of_le hY1 hb2.size
  have HPI := hide (pieces_any src dst id proto sport dport zs 7 n cap ao tail w2 hl (by omega) HZZ.out (HD.out.below HB2.out) hn ht)
  clear hZ hb2 HBG HB1 HX1 hY1 HD HZZ
  go_wp2_with fail
  refine HPI.out.mono ?_
  rintro e w3 ⟨v, L, r, t, rfl, hrow, hpv, hmp, hr1, hr2, hr3, hr4, hr5, htt, hb3⟩
  have hdg : DgOK src dst id proto sport dport 7 tail L := ⟨r, t, hmp, hr1, hr2, hr3, hr4, hr5.1, htt⟩
  have hLl := hdg.len
  obtain ⟨g, cv, rfl⟩ : ∃ g cv, v = .slice (some ⟨g, 0, none⟩) L.length cv := by
    rcases own_shaped hrow with ⟨_, h0⟩ | h0
    · omega
    · exact h0
  have hI0 := HZ.out l xb w2 w3 g cv L HZ2.out hb3 ⟨hrow, hpv⟩ hdg
  have HI0 := hide hI0
  have HDG := hide hdg
  generalize w2.heap.size = base at *
  clear hrow hpv hmp hr1 hr2 hr3 hr4 hr5 htt hb3 hdg hI0 HPI HZ HZ2 x2 hY2 HB2
  obtain ⟨x0, hx0⟩ : ∃ x, L[0]? = some x := ⟨_, List.getElem?_eq_getElem (by omega)⟩
  obtain ⟨c0, c1, c2, c3, c4, c5, c6, c7, c8⟩ := (HIP.out _ _ _ _ _ _ _ _ HI0.out).1.cells 0 x0 hx0
  have hgw := (HIP.out _ _ _ _ _ _ _ _ HI0.out).2
  have HC := hide (HCH.out l base g cv L xb x0 w3 hx0 HI0.out)
  have j0 : (0 : Int) < (L.length : Int) := by omega
  go_wp2_with fail
  refine HC.out.mono ?_
  rintro e w4 ⟨rfl, hI4⟩
  have HI4 := hide hI4
  generalize htof : tof l = tb at *
  clear hI4 HC c0 c1 c2 c3 c4 c5 c6 c7 c8 hgw HI0
  go_wp2_with fail
  go_loopw [16] (fun a16 wr => ∃ i : Nat, i ≤ L.length ∧ a16 = .int .i64 i ∧ Hid (I l base g cv L xb i wr)) (fun a16 _ => L.length - (intOf a16).toNat)
  case atStart => exact ⟨0, by omega, rfl, HI4.out⟩
  case round =>
    obtain ⟨i, hi, rfl, HI⟩ := hrel
    clear HI4
    by_cases hlt : i < L.length
    · obtain ⟨x, hx⟩ : ∃ x, L[i]? = some x := ⟨_, List.getElem?_eq_getElem hlt⟩
      have i1 : (i : Int) < (L.length : Int) := by omega
      by_cases h1 : i = 1
      · have HBB := hide (HBK.out l base g cv L xb wr (wr.alloc (.cells #[.int .u8 ob] 5)) wr.heap.size (by rw [← h1]; exact HI.out) ((Below.refl _ _).alloc (Nat.le_refl _) _) ⟨by simp, fun _ => ⟨_, _, rfl, by simp, fun j hj => by
          obtain rfl : j = 0 := by simpa using hj
          exact arr_cell (heap_alloc_new _ _) 0⟩⟩)
        have h1' : ((i : Int) == 1) = true := by rw [h1]; rfl
        have HI1 := hide h1
        clear h1
        go_wp2_with fail
        refine HBB.out.mono ?_
        rintro e w44 ⟨rfl, hJ⟩
        have HJ : Hid (J l base g cv L xb i w44) := by
          show J l base g cv L xb i w44
          rw [HI1.out]
          exact hJ
        clear hJ HBB HI
        obtain ⟨d0, d1, d2, d3, d4, d5, d6, d7, d8⟩ := (HJP.out _ _ _ _ _ _ _ _ HJ.out).1.cells i x hx
        have hgJ := (HJP.out _ _ _ _ _ _ _ _ HJ.out).2
        have HPX := hide (HPD.out L x base w44 HDG.out (List.mem_of_getElem? hx) ((HJP.out _ _ _ _ _ _ _ _ HJ.out).1.2 x (List.mem_of_getElem? hx)))
        have HAR2 := hide (fun gb cb wz h1 h2 => HA2.out l base g cv L xb i x gb cb wz hx h1 h2)
        have HAR := hide (fun gb cb w1 h1 h2 => HA1.out l base g cv L xb i x gb x.bytes.length cb w44 w1 hx HJ.out h1 h2)
        generalize x.bytes.length = ln at *
        go_wp2_with fail
        refine HPX.out.mono ?_
        rintro e w5 ⟨gb, cb, rfl, hrow5, hb5⟩
        have HAR1 := hide (HAR.out gb cb w5 hb5 hrow5)
        clear hrow5 hb5 HAR HPX d0 d1 d2 d3 d4 d5 d6 d7 d8 hgJ
        go_wp2_with fail
        refine HAR1.out.mono ?_
        rintro e w6 ⟨seq, rfl, hK6⟩
        by_cases hil : i + 1 < L.length
        · have HA2' := hide (HAR2.out gb cb w6 hil hK6)
          have i2 : (i : Int) + 1 < (L.length : Int) := by omega
          clear hK6 HAR1 HAR2
          go_wp2_with fail
          refine HA2'.out.mono ?_
          rintro e w7 ⟨seq2, rfl, hI7⟩
          have HI7 := hide hI7
          clear hI7 HA2'
          go_wp2
          go_roundw
          case rel => exact ⟨i + 1, by omega, by go_num, HI7.out⟩
          case measure => simp [intOf]; omega
        · have HI7 := hide (HKI.out l base g cv L xb i gb cb w6 (by omega) hK6)
          have i2 : ¬ ((i : Int) + 1 < (L.length : Int)) := by omega
          clear hK6 HAR1 HAR2
          go_wp2
          go_roundw
          case rel => exact ⟨i + 1, by omega, by go_num, HI7.out⟩
          case measure => simp [intOf]; omega
      · have HJ := hide (HIJ.out l base g cv L xb i wr h1 HI.out)
        have h1' : ((i : Int) == 1) = false := by rw [beq_eq_false_iff_ne]; omega
        obtain ⟨d0, d1, d2, d3, d4, d5, d6, d7, d8⟩ := (HJP.out _ _ _ _ _ _ _ _ HJ.out).1.cells i x hx
        have hgJ := (HJP.out _ _ _ _ _ _ _ _ HJ.out).2
        have HPX := hide (HPD.out L x base wr HDG.out (List.mem_of_getElem? hx) ((HJP.out _ _ _ _ _ _ _ _ HJ.out).1.2 x (List.mem_of_getElem? hx)))
        have HAR2 := hide (fun gb cb wz h1 h2 => HA2.out l base g cv L xb i x gb cb wz hx h1 h2)
        have HAR := hide (fun gb cb w1 h1 h2 => HA1.out l base g cv L xb i x gb x.bytes.length cb wr w1 hx HJ.out h1 h2)
        generalize x.bytes.length = ln at *
        go_wp2_with fail
        refine HPX.out.mono ?_
        rintro e w5 ⟨gb, cb, rfl, hrow5, hb5⟩
        have HAR1 := hide (HAR.out gb cb w5 hb5 hrow5)
        clear hrow5 hb5 HAR HPX d0 d1 d2 d3 d4 d5 d6 d7 d8 hgJ
        go_wp2_with fail
        refine HAR1.out.mono ?_
        rintro e w6 ⟨seq, rfl, hK6⟩
        by_cases hil : i + 1 < L.length
        · have HA2' := hide (HAR2.out gb cb w6 hil hK6)
          have i2 : (i : Int) + 1 < (L.length : Int) := by omega
          clear hK6 HAR1 HAR2
          go_wp2_with fail
          refine HA2'.out.mono ?_
          rintro e w7 ⟨seq2, rfl, hI7⟩
          have HI7 := hide hI7
          clear hI7 HA2'
          go_wp2
          go_roundw
          case rel => exact ⟨i + 1, by omega, by go_num, HI7.out⟩
          case measure => simp [intOf]; omega
        · have HI7 := hide (HKI.out l base g cv L xb i gb cb w6 (by omega) hK6)
          have i2 : ¬ ((i : Int) + 1 < (L.length : Int)) := by omega
          clear hK6 HAR1 HAR2
          go_wp2
          go_roundw
          case rel => exact ⟨i + 1, by omega, by go_num, HI7.out⟩
          case measure => simp [intOf]; omega
    · obtain rfl : i = L.length := by omega
      have HHH := hide (HHD.out l base g cv L xb wr HI.out)
      go_wp2_with fail
      refine HHH.out.mono ?_
      rintro e w8 ⟨rfl, hI8⟩
      have hM := HIM.out l base g cv L xb w8 (w8.alloc (.cells #[.int .i64 0, .int .i64 0, .int .i64 0] 42)) w8.heap.size hI8 ((Below.refl _ _).alloc (Nat.le_refl _) _) (Nat.le_refl _) (by simp)
      have HM := hide hM
      obtain ⟨d0, d1, d2, d3, d4, d5, d6, d7, d8⟩ := (HMP.out _ _ _ _ _ _ _ _ hM).1.cells 0 x0 hx0
      have hgM := (HMP.out _ _ _ _ _ _ _ _ hM).2
      have HPX := hide (HPD.out L x0 base _ HDG.out (List.mem_of_getElem? hx0) ((HMP.out _ _ _ _ _ _ _ _ hM).1.2 x0 (List.mem_of_getElem? hx0)))
      have HA := hide (fun gb cb w1 h1 h2 => HA3.out l base g cv L xb w8.heap.size x0 gb x0.bytes.length cb _ w1 hx0 hM h1 h2)
      have HBX : Hid (∀ j, (w8.alloc (.cells #[.int .i64 0, .int .i64 0, .int .i64 0] 42)).cell? ⟨w8.heap.size, j, none⟩ = #[.int .i64 0, .int .i64 0, .int .i64 0][j]?) := fun j => arr_cell (heap_alloc_new _ _) j
      generalize x0.bytes.length = ln at *
      clear hI8 HHH HI HM hM
      have hb8 : w8.heap.size < (w8.alloc (.cells #[.int .i64 0, .int .i64 0, .int .i64 0] 42)).heap.size := by simp
      go_wp2_with fail
      generalize w8.alloc (.cells #[.int .i64 0, .int .i64 0, .int .i64 0] 42) = w9 at *
      generalize w8.heap.size = gh at *
      refine HPX.out.mono ?_
      rintro e w10 ⟨gb, cb, rfl, hrow10, hb10⟩
      have HA' := hide (HA.out gb cb w10 hb10 hrow10)
      clear hrow10 hb10 HA HPX d0 d1 d2 d3 d4 d5 d6 d7 d8 hgM
      go_wp2_with fail
      refine HA'.out.mono ?_
      rintro e w11 ⟨seq, rfl, hM2, hbx⟩
      have HT := hide (HTK.out l base g cv L xb gh w11 hM2)
      have HBX2 : Hid (∀ j, w11.cell? ⟨gh, j, none⟩ = #[.int .i64 0, .int .i64 0, .int .i64 0][j]?) := fun j => (hbx j).trans (HBX.out j)
      clear hM2 hbx HA' HBX
      go_wp2_with fail
      refine HT.out.mono ?_
      rintro e w12 ⟨ge, ce, rfl, hge, hev, hlast, hb12, hbx⟩
      have xh : ∀ j, w12.cell? ⟨gh, j, none⟩ = #[.int .i64 0, .int .i64 0, .int .i64 0][j]? := fun j => (hbx j).trans (HBX2.out j)
      have HB12 := hide hb12
      rw [htof] at hev
      have HEV := hide hev
      have HLA := hide hlast
      clear hev hlast hb12 hbx HT HBX2
      go_wp2_with fail
      go_loopw [28] (fun a28 wr => ∃ q : Nat, q + 1 ≤ 2 * L.length ∧ a28 = .int .i64 q ∧ Hid (Below w12.heap.size w12 wr)) (fun a28 _ => 2 * L.length - (intOf a28).toNat)
      case atStart => exact ⟨0, by omega, rfl, Below.refl _ _⟩
      case round =>
        obtain ⟨q, hq, rfl, HW⟩ := hrel
        clear xh
        have hgr : ge < wr.heap.size := Nat.lt_of_lt_of_le hge HW.out.size
        by_cases hql : q + 1 < 2 * L.length
        · obtain ⟨e0, e1, e2⟩ := HEV.out q hql
          have f0 := (HW.out.cell (p := ⟨ge, q * 3, none⟩) hge).trans e0
          have f1 := (HW.out.cell (p := ⟨ge, q * 3 + 1, none⟩) hge).trans e1
          have f2 := (HW.out.cell (p := ⟨ge, q * 3 + 2, none⟩) hge).trans e2
          have i1 : (q : Int) + 1 < 2 * (L.length : Int) := by omega
          have i2 : (q : Int) < 2 * (L.length : Int) := by omega
          clear e0 e1 e2
          by_cases hpar : q % 2 = 1
          · rw [if_pos hpar] at f1 f2
            have p1 : ((q : Int).tmod 2 == 1) = true := by rw [beq_iff_eq, Int.tmod_eq_emod_of_nonneg (by omega)]; omega
            have p2 : ((q : Int) % 2 == 1) = true := by rw [beq_iff_eq]; omega
            have p3 : (q : Int) % 2 = 1 := by omega
            go_wp2_with fail
            go_quiet (fail)
            go_wp2
            go_roundw
            case rel => exact ⟨q + 1, by omega, by go_num, below_drewN (HW.out.alloc HW.out.size _) _⟩
            case measure => simp [intOf]; omega
          · rw [if_neg hpar] at f1 f2
            have p1 : ((q : Int).tmod 2 == 1) = false := by rw [beq_eq_false_iff_ne, Int.tmod_eq_emod_of_nonneg (by omega)]; omega
            have p2 : ((q : Int) % 2 == 1) = false := by rw [beq_eq_false_iff_ne]; omega
            have p3 : (q : Int) % 2 = 0 := by omega
            go_wp2_with fail
            go_quiet (fail)
            go_wp2
            go_roundw
            case rel => exact ⟨q + 1, by omega, by go_num, below_drewN (HW.out.alloc HW.out.size _) _⟩
            case measure => simp [intOf]; omega
        · obtain rfl : q = 2 * L.length - 1 := by omega
          obtain ⟨e0, e1, e2⟩ := HLA.out
          have f0 := (HW.out.cell (p := ⟨ge, (2 * L.length - 1) * 3, none⟩) hge).trans e0
          have f1 := (HW.out.cell (p := ⟨ge, (2 * L.length - 1) * 3 + 1, none⟩) hge).trans e1
          have f2 := (HW.out.cell (p := ⟨ge, (2 * L.length - 1) * 3 + 2, none⟩) hge).trans e2
          have hB := HB12.out.trans (HW.out.mono HB12.out.size)
          have HBE := hide hB
          have i1 : ¬ (((2 * L.length - 1 : Nat) : Int) + 1 < 2 * (L.length : Int)) := by omega
          have hN : IntKind.i64.wrap (2 * (L.length : Int) - 1) = ((2 * L.length - 1 : Nat) : Int) := by rw [IntKind.wrap_i64]; omega
          have i2 : ((2 * L.length - 1 : Nat) : Int) < 2 * (L.length : Int) := by omega
          clear e0 e1 e2 hB HLA HEV
          go_wp2
          go_ret
          exact ⟨rfl, HBE.out⟩

end Go.Proofs.Ytajphdppmdoalab
