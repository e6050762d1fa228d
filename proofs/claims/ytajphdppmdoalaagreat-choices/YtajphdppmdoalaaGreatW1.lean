import Derived.Test.YtajphdppmdoalaaGreatV1
namespace Go.Proofs.YtajphdppmdoalaaGreat
open Go.RowKit
set_option linter.unusedVariables false

/-- What is known of the bytes of a list that came in. -/
def Lst (w : World) (ao : Option Addr) (n cap : Nat) (zs : List Int) : Prop := zs.length = n ∧ Has w ao zs ∧ (∀ z ∈ zs, 0 ≤ z ∧ z ≤ 255) ∧ n ≤ 140737488351232 ∧ (ao = none → cap = 0) ∧ n ≤ cap ∧ cap ≤ maxLen
theorem Lst.below {w w' : World} {ao : Option Addr} {n cap : Nat} {zs : List Int} (h : Lst w ao n cap zs) (hb : Below w.heap.size w w') : Lst w' ao n cap zs := ⟨h.1, h.2.1.below hb, h.2.2⟩

theorem wpack_any (lo hi wb c : Nat) (vl : Value) (kind ee aa bb src dst proto id off : Int) (more : Bool) (sport dport : Int) (ao : Option Addr) (n cap : Nat) (zs : List Int) (so : Option Addr) (sn sc : Nat) (w : World) (hB : Bk w lo hi wb vl c) (hsrc0 : 0 ≤ src) (hsrc : src ≤ 65535) (hdst0 : 0 ≤ dst) (hdst : dst ≤ 65535) (hproto0 : 0 ≤ proto) (hproto : proto ≤ 255) (hid0 : 0 ≤ id) (hid : id ≤ 65535) (hoff0 : 0 ≤ off) (hoff : off ≤ 255) (hsport0 : 0 ≤ sport) (hsport : sport ≤ 65535) (hdport0 : 0 ≤ dport) (hdport : dport ≤ 65535) (hd : Lst w ao n cap zs) (hlh : lo ≤ hi) (hc : (4 * c + 4) * 24 ≤ 140737488355328) :
    Calls Tryz.prog 16 #[.pointer (some ⟨wb, 0, none⟩), .agg #[.int .i64 kind, .int .i64 ee, .int .i64 aa, .int .i64 bb, .int .u16 src, .int .u16 dst, .int .u8 proto, .int .u16 id, .int .u8 off, .bool more, .int .u16 sport, .int .u16 dport, .slice ao n cap, .slice so sn sc]] w fun e w' => e = .returned (.bool true) ∧ Bk w' lo w'.heap.size wb vl (c + 1) ∧ Below lo w w' := by
  obtain ⟨h1, h2, h3, h4, h5, _⟩ := hd
  cases ao with
  | none =>
    obtain rfl := h2.1 rfl
    obtain rfl : n = 0 := by simpa using h1.symm
    obtain rfl := h5 rfl
    cases hw : wfB off more sport dport 0
    · exact wpack_nn lo hi wb c vl _ kind ee aa bb src dst proto id off more sport dport so sn sc rfl w hB hsrc0 hsrc hdst0 hdst hproto0 hproto hid0 hid hoff0 hoff hsport0 hsport hdport0 hdport hlh hc hw
    · exact wpack_ny lo hi wb c vl _ kind ee aa bb src dst proto id off more sport dport so sn sc rfl w hB hsrc0 hsrc hdst0 hdst hproto0 hproto hid0 hid hoff0 hoff hsport0 hsport hdport0 hdport hlh hc hw
  | some ad =>
    cases hw : wfB off more sport dport n
    · exact wpack_sn lo hi wb c vl _ kind ee aa bb src dst proto id off more sport dport ad n cap zs so sn sc rfl w hB hsrc0 hsrc hdst0 hdst hproto0 hproto hid0 hid hoff0 hoff hsport0 hsport hdport0 hdport h1 h2 h3 h4 hlh hc hw
    · exact wpack_sy lo hi wb c vl _ kind ee aa bb src dst proto id off more sport dport ad n cap zs so sn sc rfl w hB hsrc0 hsrc hdst0 hdst hproto0 hproto hid0 hid hoff0 hoff hsport0 hsport hdport0 hdport h1 h2 h3 h4 hlh hc hw

set_option maxRecDepth 100000 in
set_option maxHeartbeats 800000 in
theorem step_pack (lo hi wb c : Nat) (vl : Value) (ee aa bb src dst proto id off : Int) (more : Bool) (sport dport : Int) (ao : Option Addr) (n cap : Nat) (zs : List Int) (so : Option Addr) (sn sc : Nat) (w : World) (hB : Bk w lo hi wb vl c) (hsrc0 : 0 ≤ src) (hsrc : src ≤ 65535) (hdst0 : 0 ≤ dst) (hdst : dst ≤ 65535) (hproto0 : 0 ≤ proto) (hproto : proto ≤ 255) (hid0 : 0 ≤ id) (hid : id ≤ 65535) (hoff0 : 0 ≤ off) (hoff : off ≤ 255) (hsport0 : 0 ≤ sport) (hsport : sport ≤ 65535) (hdport0 : 0 ≤ dport) (hdport : dport ≤ 65535) (hd : Lst w ao n cap zs) (hlh : lo ≤ hi) (hc : (4 * c + 4) * 24 ≤ 140737488355328) :
    Calls Tryz.prog 12 #[.pointer (some ⟨wb, 0, none⟩), .agg #[.int .i64 1, .int .i64 ee, .int .i64 aa, .int .i64 bb, .int .u16 src, .int .u16 dst, .int .u8 proto, .int .u16 id, .int .u8 off, .bool more, .int .u16 sport, .int .u16 dport, .slice ao n cap, .slice so sn sc]] w fun e w' => e = .returned (.bool true) ∧ Bk w' lo w'.heap.size wb vl (c + 1) ∧ Below lo w w' := by
  have hhz : hi ≤ w.heap.size := by obtain ⟨_, _, _, _, _, _, h, _⟩ := hB; exact h
  have H : Hid (∀ o, Calls Tryz.prog 16 #[.pointer (some ⟨wb, 0, none⟩), .agg #[.int .i64 1, .int .i64 ee, .int .i64 aa, .int .i64 bb, .int .u16 src, .int .u16 dst, .int .u8 proto, .int .u16 id, .int .u8 off, .bool more, .int .u16 sport, .int .u16 dport, .slice ao n cap, .slice so sn sc]] (w.alloc o) fun e w' => e = .returned (.bool true) ∧ Bk w' lo w'.heap.size wb vl (c + 1) ∧ Below lo (w.alloc o) w') := fun o => wpack_any lo hi wb c vl 1 ee aa bb src dst proto id off more sport dport ao n cap zs so sn sc (w.alloc o) (hB.below ((Below.refl _ _).alloc hhz _)) hsrc0 hsrc hdst0 hdst hproto0 hproto hid0 hid hoff0 hoff hsport0 hsport hdport0 hdport (hd.below ((Below.refl _ _).alloc (Nat.le_refl _) _)) hlh hc
  have HLO : Hid (lo ≤ w.heap.size) := Nat.le_trans hlh hhz
  clear hB hd
  go_enter Tryz.func12, Tryz.ntmps12
  go_wp2_with fail
  refine (H.out _).mono ?_
  rintro e w1 ⟨rfl, hB1, hb1⟩
  have HB1 := hide hB1
  have HBe : Hid (Below lo w w1) := ((Below.refl _ _).alloc HLO.out _).trans hb1
  clear hB1 hb1 H
  go_wp2
  go_ret
  exact ⟨rfl, HB1.out, HBe.out⟩

set_option maxHeartbeats 400000 in
theorem needs_one (gk : Nat) (k : Int) (w : World) (hk : (k == 5) = false) (c0 : w.cell? ⟨gk, 0, none⟩ = some (.int .i64 k)) :
    Calls Tryz.prog 10 #[.slice (some ⟨gk, 0, none⟩) 1 1] w fun e w' => e = .returned (.bool false) ∧ w' = w := by
  go_enter Tryz.func10, Tryz.ntmps10
  go_wp2_with fail
  go_loop [3] (fun i => ∃ q : Nat, q ≤ 1 ∧ i = .int .i64 q) (fun i => 1 - (intOf i).toNat)
  case atStart => exact ⟨0, by omega, rfl⟩
  case round =>
    obtain ⟨q, hq, rfl⟩ := hrel
    rcases (show q = 0 ∨ q = 1 by omega) with rfl | rfl
    · go_wp2
      go_round
      case rel => exact ⟨1, by omega, by go_num⟩
      case measure => simp [intOf]
    · go_wp2
      go_ret
      exact ⟨rfl, rfl⟩

end Go.Proofs.YtajphdppmdoalaaGreat
