import Derived.Test.YtajphdppmdoalaaGreatA
namespace Go.Proofs.YtajphdppmdoalaaGreat
open Go.RowKit

theorem bcell {W w1 : World} (hb : Below W.heap.size W w1) : (∀ b o, b < W.heap.size → w1.cell? ⟨b, o, none⟩ = W.cell? ⟨b, o, none⟩) ∧ (∀ b o, b < W.heap.size → w1.frozen? ⟨b, o, none⟩ = W.frozen? ⟨b, o, none⟩) :=
  ⟨fun b o h => hb.cell (p := ⟨b, o, none⟩) h, fun b o h => hb.frozen (p := ⟨b, o, none⟩) h⟩

set_option maxHeartbeats 1600000 in
theorem headOf_any (src dst proto id off : Int) (more : Bool) (sport dport : Int) (ao : Option Addr) (n cap : Nat) (w : World) (hsrc0 : 0 ≤ src) (hsrc : src ≤ 65535) (hdst0 : 0 ≤ dst) (hdst : dst ≤ 65535) (hproto0 : 0 ≤ proto) (hproto : proto ≤ 255) (hid0 : 0 ≤ id) (hid : id ≤ 65535) (hoff0 : 0 ≤ off) (hoff : off ≤ 255) (hn : n ≤ 32) :
    Calls Tryz.prog 87 #[.agg #[.int .u16 src, .int .u16 dst, .int .u8 proto, .int .u16 id, .int .u8 off, .bool more, .int .u16 sport, .int .u16 dport, .slice ao n cap]] w fun e w' => e = .returned (.agg #[.int .u8 (mk more), .int .u8 proto, .int .u8 (src / 256), .int .u8 (src % 256), .int .u8 (dst / 256), .int .u8 (dst % 256), .int .u8 (id / 256), .int .u8 (id % 256), .int .u8 off, .int .u8 (tl off n), .int .u8 (cs src dst proto id off more n / 256), .int .u8 (cs src dst proto id off more n % 256)]) ∧ Below w.heap.size w w' := by
  have hcs := csum_bd (mk more) proto (src / 256) (src % 256) (dst / 256) (dst % 256) (id / 256) (id % 256) off (tl off n) (by have := mk_bd more; omega) (by omega) (by omega) (by omega) (by omega) (by omega) (by omega) (by omega) (by omega) (by have := tl_bd off n; omega)
  unfold cs
  cases more
  · by_cases h0 : off = 0
    · subst h0
      rw [show mk false = 16 from rfl, show tl 0 n = (n : Int) + 4 from rfl] at hcs ⊢
      go_enter Tryz.func87, Tryz.ntmps87
      go_wp2_with fail
      refine (checksum_any 16 proto (src / 256) (src % 256) (dst / 256) (dst % 256) (id / 256) (id % 256) 0 ((n : Int) + 4) 0 0 _ (by omega) (by omega) (by omega) (by omega) (by omega) (by omega) (by omega) (by omega) (by omega) (by omega)).mono ?_
      generalize hcc : csum 16 proto (src / 256) (src % 256) (dst / 256) (dst % 256) (id / 256) (id % 256) 0 ((n : Int) + 4) = c at *
      have HC := hide hcc
      clear hcc
      rintro e w1 ⟨rfl, m, rfl⟩
      go_wp2
      refine bodyPost_ret (v := .agg #[.int .u8 16, .int .u8 proto, .int .u8 (src / 256), .int .u8 (src % 256), .int .u8 (dst / 256), .int .u8 (dst % 256), .int .u8 (id / 256), .int .u8 (id % 256), .int .u8 0, .int .u8 ((n : Int) + 4), .int .u8 (c / 256), .int .u8 (c % 256)]) ?_ rfl ⟨by rw [unhide HC], ?_⟩
      all_goals go_light
      · simp [results, Tryz.results87, go_sem]
      · clear hcs HC
        repeat' first | with_reducible exact Below.refl _ _ | with_reducible refine Below.setCell ?_ ?_ _ | with_reducible refine below_drewN ?_ _ | with_reducible refine Below.alloc ?_ ?_ _
        all_goals (simp; try omega)
    · have h0' : (off == 0) = false := by simp [h0]
      rw [show mk false = 16 from rfl, show tl off n = (n : Int) from if_neg h0] at hcs ⊢
      clear h0
      go_enter Tryz.func87, Tryz.ntmps87
      go_wp2_with fail
      refine (checksum_any 16 proto (src / 256) (src % 256) (dst / 256) (dst % 256) (id / 256) (id % 256) off (n : Int) 0 0 _ (by omega) (by omega) (by omega) (by omega) (by omega) (by omega) (by omega) (by omega) (by omega) (by omega)).mono ?_
      generalize hcc : csum 16 proto (src / 256) (src % 256) (dst / 256) (dst % 256) (id / 256) (id % 256) off (n : Int) = c at *
      have HC := hide hcc
      clear hcc
      rintro e w1 ⟨rfl, m, rfl⟩
      go_wp2
      refine bodyPost_ret (v := .agg #[.int .u8 16, .int .u8 proto, .int .u8 (src / 256), .int .u8 (src % 256), .int .u8 (dst / 256), .int .u8 (dst % 256), .int .u8 (id / 256), .int .u8 (id % 256), .int .u8 off, .int .u8 (n : Int), .int .u8 (c / 256), .int .u8 (c % 256)]) ?_ rfl ⟨by rw [unhide HC], ?_⟩
      all_goals go_light
      · simp [results, Tryz.results87, go_sem]
      · clear hcs HC
        repeat' first | with_reducible exact Below.refl _ _ | with_reducible refine Below.setCell ?_ ?_ _ | with_reducible refine below_drewN ?_ _ | with_reducible refine Below.alloc ?_ ?_ _
        all_goals (simp; try omega)
  · by_cases h0 : off = 0
    · subst h0
      rw [show mk true = 17 from rfl, show tl 0 n = (n : Int) + 4 from rfl] at hcs ⊢
      go_enter Tryz.func87, Tryz.ntmps87
      go_wp2_with fail
      refine (checksum_any 17 proto (src / 256) (src % 256) (dst / 256) (dst % 256) (id / 256) (id % 256) 0 ((n : Int) + 4) 0 0 _ (by omega) (by omega) (by omega) (by omega) (by omega) (by omega) (by omega) (by omega) (by omega) (by omega)).mono ?_
      generalize hcc : csum 17 proto (src / 256) (src % 256) (dst / 256) (dst % 256) (id / 256) (id % 256) 0 ((n : Int) + 4) = c at *
      have HC := hide hcc
      clear hcc
      rintro e w1 ⟨rfl, m, rfl⟩
      go_wp2
      refine bodyPost_ret (v := .agg #[.int .u8 17, .int .u8 proto, .int .u8 (src / 256), .int .u8 (src % 256), .int .u8 (dst / 256), .int .u8 (dst % 256), .int .u8 (id / 256), .int .u8 (id % 256), .int .u8 0, .int .u8 ((n : Int) + 4), .int .u8 (c / 256), .int .u8 (c % 256)]) ?_ rfl ⟨by rw [unhide HC], ?_⟩
      all_goals go_light
      · simp [results, Tryz.results87, go_sem]
      · clear hcs HC
        repeat' first | with_reducible exact Below.refl _ _ | with_reducible refine Below.setCell ?_ ?_ _ | with_reducible refine below_drewN ?_ _ | with_reducible refine Below.alloc ?_ ?_ _
        all_goals (simp; try omega)
    · have h0' : (off == 0) = false := by simp [h0]
      rw [show mk true = 17 from rfl, show tl off n = (n : Int) from if_neg h0] at hcs ⊢
      clear h0
      go_enter Tryz.func87, Tryz.ntmps87
      go_wp2_with fail
      refine (checksum_any 17 proto (src / 256) (src % 256) (dst / 256) (dst % 256) (id / 256) (id % 256) off (n : Int) 0 0 _ (by omega) (by omega) (by omega) (by omega) (by omega) (by omega) (by omega) (by omega) (by omega) (by omega)).mono ?_
      generalize hcc : csum 17 proto (src / 256) (src % 256) (dst / 256) (dst % 256) (id / 256) (id % 256) off (n : Int) = c at *
      have HC := hide hcc
      clear hcc
      rintro e w1 ⟨rfl, m, rfl⟩
      go_wp2
      refine bodyPost_ret (v := .agg #[.int .u8 17, .int .u8 proto, .int .u8 (src / 256), .int .u8 (src % 256), .int .u8 (dst / 256), .int .u8 (dst % 256), .int .u8 (id / 256), .int .u8 (id % 256), .int .u8 off, .int .u8 (n : Int), .int .u8 (c / 256), .int .u8 (c % 256)]) ?_ rfl ⟨by rw [unhide HC], ?_⟩
      all_goals go_light
      · simp [results, Tryz.results87, go_sem]
      · clear hcs HC
        repeat' first | with_reducible exact Below.refl _ _ | with_reducible refine Below.setCell ?_ ?_ _ | with_reducible refine below_drewN ?_ _ | with_reducible refine Below.alloc ?_ ?_ _
        all_goals (simp; try omega)

end Go.Proofs.YtajphdppmdoalaaGreat
