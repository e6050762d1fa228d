import Derived.Test.YtajphdppmdoalaaK
import Derived.Laws.BytesArg
namespace Go.Proofs.Ytajphdppmdoalaa
open Go.RowKit

/-- 'string(b)'. -/
theorem conv_has {w : World} {ao : Option Addr} {zs : List Int} (h : Has w ao zs) (cap : Nat) : (convert 26 9 (.slice ao zs.length cap)).run Try.prog w = .ok (.string (strOfNums zs)) w := by
  cases ao with
  | none =>
    obtain rfl := h.1 rfl
    exact run_convert_bytes_nil (P := Try.prog) w 26 5 Try.underlying26 Try.underlying5 _ _ 9 Try.underlying9
  | some a =>
    by_cases hz : zs = []
    · subst hz
      rw [run_convert_bytes_string w 26 9 5 _ _ _ Try.underlying26 Try.underlying5 Try.underlying9]
      exact run_bytesToString w a 0 cap [] (by simpa using run_loadCells_list (P := Try.prog) w a [] (by simp))
    · obtain ⟨b, o, he, _, hc⟩ := h.2 hz
      obtain rfl : a = ⟨b, o, none⟩ := by simpa using he
      exact run_convert_bytes_arg (P := Try.prog) w 26 5 Try.underlying26 Try.underlying5 b o _ cap zs rfl hc 9 Try.underlying9

set_option maxRecDepth 100000 in
set_option maxHeartbeats 400000 in
theorem same_true (src dst proto id off : Int) (more : Bool) (sport dport : Int) (zs : List Int) (ao ao' : Option Addr) (n cap cap' : Nat) (w : World) (hn : zs.length = n) (h1 : Has w ao zs) (h2 : Has w ao' zs) :
    Calls Try.prog 13 #[.agg #[.int .u16 src, .int .u16 dst, .int .u8 proto, .int .u16 id, .int .u8 off, .bool more, .int .u16 sport, .int .u16 dport, .slice ao n cap], .agg #[.int .u16 src, .int .u16 dst, .int .u8 proto, .int .u16 id, .int .u8 off, .bool more, .int .u16 sport, .int .u16 dport, .slice ao' n cap']] w fun e w' => e = .returned (.bool true) ∧ Below w.heap.size w w' := by
  subst hn
  have hc1 : ∀ o o', (convert 26 9 (.slice ao zs.length cap)).run Try.prog ((w.alloc o).alloc o') = .ok (.string (strOfNums zs)) ((w.alloc o).alloc o') := fun o o' => conv_has (h1.below (((Below.refl _ _).alloc (Nat.le_refl _) _).alloc (by simp) _)) cap
  have hc2 : ∀ o o', (convert 26 9 (.slice ao' zs.length cap')).run Try.prog ((w.alloc o).alloc o') = .ok (.string (strOfNums zs)) ((w.alloc o).alloc o') := fun o o' => conv_has (h2.below (((Below.refl _ _).alloc (Nat.le_refl _) _).alloc (by simp) _)) cap'
  clear h1 h2
  go_enter Try.func13, Try.ntmps13
  go_wp2
  go_ret
  exact ⟨by simp, (((Below.refl _ _).alloc (Nat.le_refl _) _).alloc (by simp) _)⟩

set_option maxRecDepth 100000 in
set_option maxHeartbeats 400000 in
theorem packed_yes (src dst proto id off : Int) (more : Bool) (sport dport : Int) (ao : Option Addr) (n cap : Nat) (zs : List Int) (w : World) (hsrc0 : 0 ≤ src) (hsrc : src ≤ 65535) (hdst0 : 0 ≤ dst) (hdst : dst ≤ 65535) (hproto0 : 0 ≤ proto) (hproto : proto ≤ 255) (hid0 : 0 ≤ id) (hid : id ≤ 65535) (hoff0 : 0 ≤ off) (hoff : off ≤ 255) (hsport0 : 0 ≤ sport) (hsport : sport ≤ 65535) (hdport0 : 0 ≤ dport) (hdport : dport ≤ 65535) (hzs : zs.length = n) (hnil : ao = none → cap = 0) (hd : Has w ao zs) (hwf : wfB off more sport dport n = true) :
    Calls Try.prog 11 #[.agg #[.int .u16 src, .int .u16 dst, .int .u8 proto, .int .u16 id, .int .u8 off, .bool more, .int .u16 sport, .int .u16 dport, .slice ao n cap]] w fun e w' => ∃ g cv, e = .returned (.slice (some ⟨g, 0, none⟩) (pkL src dst proto id off more sport dport zs).length cv) ∧ w'.ownsRow w.heap.size 5 1 (.slice (some ⟨g, 0, none⟩) (pkL src dst proto id off more sport dport zs).length cv) (pkL src dst proto id off more sport dport zs).length ((pkL src dst proto id off more sport dport zs).map (Value.int .u8)) ∧ Below w.heap.size w w' := by
  have H := hide (fun w hd => fpack_yes src dst proto id off more sport dport ao n cap zs w hsrc0 hsrc hdst0 hdst hproto0 hproto hid0 hid hoff0 hoff hsport0 hsport hdport0 hdport hzs hnil hd hwf)
  have HD := hide hd
  have hlen : 12 ≤ (pkL src dst proto id off more sport dport zs).length := by simp [pkL, hdL]
  have hlen2 : (pkL src dst proto id off more sport dport zs).length ≤ 48 := by
    have : n ≤ 32 := by simp [wfB] at hwf; omega
    simp only [pkL, hdL, ptL]
    split <;> simp <;> omega
  generalize pkL src dst proto id off more sport dport zs = L at *
  clear hwf hzs hnil hd
  go_enter Try.func11, Try.ntmps11
  go_wp2_with fail
  refine (unhide H _ (HD.out.below ((Below.refl _ _).alloc (Nat.le_refl _) _))).mono ?_
  rintro e w1 ⟨v, rfl, ho, hnn, hb⟩
  obtain ⟨g, cv, rfl⟩ := (own_shape ho).resolve_left hnn
  have HO := hide ho
  clear ho hnn H
  go_wp2
  go_ret
  exact ⟨_, _, rfl, ownsRow_base HO.out (by simp), ((Below.refl _ _).alloc (Nat.le_refl _) _).trans (hb.mono (by simp))⟩

end Go.Proofs.Ytajphdppmdoalaa
