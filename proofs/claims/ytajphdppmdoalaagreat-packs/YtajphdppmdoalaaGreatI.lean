import Derived.Test.YtajphdppmdoalaaGreatH
namespace Go.Proofs.YtajphdppmdoalaaGreat
open Go.RowKit

set_option maxRecDepth 100000 in
set_option maxHeartbeats 400000 in
theorem fpack_no (src dst proto id off : Int) (more : Bool) (sport dport : Int) (ao : Option Addr) (n cap : Nat) (w : World) (hoff0 : 0 ≤ off) (hn : n ≤ maxLen) (hwf : wfB off more sport dport n = false) :
    Calls Tryz.prog 27 #[.agg #[.int .u16 src, .int .u16 dst, .int .u8 proto, .int .u16 id, .int .u8 off, .bool more, .int .u16 sport, .int .u16 dport, .slice ao n cap]] w fun e w' => e = .returned (.tuple #[.slice none 0 0, .int .i64 6]) ∧ Below w.heap.size w w' := by
  have H := hide (fun w => pack_no src dst proto id off more sport dport ao n cap w hoff0 hn hwf)
  clear hwf
  go_enter Tryz.func27, Tryz.ntmps27
  go_wp2_with fail
  refine (unhide H _).mono ?_
  rintro e w1 ⟨rfl, hb⟩
  go_wp2
  go_ret2
  exact ⟨rfl, ((Below.refl _ _).alloc (Nat.le_refl _) _).trans (hb.mono (by simp))⟩

set_option maxRecDepth 100000 in
set_option maxHeartbeats 400000 in
theorem fpack_yes (src dst proto id off : Int) (more : Bool) (sport dport : Int) (ao : Option Addr) (n cap : Nat) (zs : List Int) (w : World) (hsrc0 : 0 ≤ src) (hsrc : src ≤ 65535) (hdst0 : 0 ≤ dst) (hdst : dst ≤ 65535) (hproto0 : 0 ≤ proto) (hproto : proto ≤ 255) (hid0 : 0 ≤ id) (hid : id ≤ 65535) (hoff0 : 0 ≤ off) (hoff : off ≤ 255) (hsport0 : 0 ≤ sport) (hsport : sport ≤ 65535) (hdport0 : 0 ≤ dport) (hdport : dport ≤ 65535) (hzs : zs.length = n) (hnil : ao = none → cap = 0) (hd : Has w ao zs) (hwf : wfB off more sport dport n = true) :
    Calls Tryz.prog 27 #[.agg #[.int .u16 src, .int .u16 dst, .int .u8 proto, .int .u16 id, .int .u8 off, .bool more, .int .u16 sport, .int .u16 dport, .slice ao n cap]] w fun e w' => ∃ v, e = .returned (.tuple #[v, .int .i64 0]) ∧ w'.ownsRow w.heap.size 5 1 v (pkL src dst proto id off more sport dport zs).length ((pkL src dst proto id off more sport dport zs).map (Value.int .u8)) ∧ v ≠ .slice none 0 0 ∧ Below w.heap.size w w' := by
  have H := hide (fun w hd => pack_yes src dst proto id off more sport dport ao n cap zs w hsrc0 hsrc hdst0 hdst hproto0 hproto hid0 hid hoff0 hoff hsport0 hsport hdport0 hdport hzs hnil hd hwf)
  have HD := hide hd
  clear hwf hzs hnil hd
  go_enter Tryz.func27, Tryz.ntmps27
  go_wp2_with fail
  refine (unhide H _ (HD.out.below ((Below.refl _ _).alloc (Nat.le_refl _) _))).mono ?_
  rintro e w1 ⟨v, rfl, ho, hnn, hb⟩
  have HO := hide ho
  have HN := hide hnn
  clear ho hnn H
  go_wp2
  go_ret2
  exact ⟨_, rfl, ownsRow_base HO.out (by simp), HN.out, ((Below.refl _ _).alloc (Nat.le_refl _) _).trans (hb.mono (by simp))⟩

theorem UpPost.of_alloc {w w' : World} {zs : List Int} {e : Ending} {o : Obj} (h : UpPost (w.alloc o) zs e w') : UpPost w zs e w' := by
  obtain ⟨hb, h⟩ := h
  refine ⟨((Below.refl _ _).alloc (Nat.le_refl _) _).trans (hb.mono (by simp)), ?_⟩
  rcases h with ⟨h1, v, h2, h3⟩ | h
  · exact .inl ⟨h1, v, h2, ownsRow_base h3 (by simp)⟩
  · exact .inr h

set_option maxRecDepth 100000 in
set_option maxHeartbeats 400000 in
theorem funpack_any (ao : Option Addr) (n cap : Nat) (zs : List Int) (w : World) (hl : zs.length = n) (hcap : n ≤ cap) (hm : cap ≤ maxLen) (hd : Has w ao zs) (hz : ∀ z ∈ zs, 0 ≤ z ∧ z ≤ 255) :
    Calls Tryz.prog 31 #[.slice ao n cap] w (UpPost w zs) := by
  have H := hide (fun w hd => unpack_any ao n cap zs w hl hcap hm hd hz)
  have HD := hide hd
  clear hl hcap hm hd hz
  go_enter Tryz.func31, Tryz.ntmps31
  go_wp2_with fail
  refine (unhide H _ (HD.out.below ((Below.refl _ _).alloc (Nat.le_refl _) _))).mono ?_
  rintro e w1 ⟨hb, h⟩
  have HW : Hid (Below w.heap.size w w1) := ((Below.refl _ _).alloc (Nat.le_refl _) _).trans (hb.mono (by simp))
  have cr : ∀ j, w1.cell? ⟨w.heap.size, j, none⟩ = #[.int .u16 0, .int .u16 0, .int .u8 0, .int .u16 0, .int .u8 0, .bool false, .int .u16 0, .int .u16 0, .slice none 0 0][j]? := fun j => (hb.cell (p := ⟨w.heap.size, j, none⟩) (by simp)).trans (by simp)
  have fr : ∀ j, w1.frozen? ⟨w.heap.size, j, none⟩ = false := fun j => (hb.frozen (p := ⟨w.heap.size, j, none⟩) (by simp)).trans (by simp)
  clear hb H HD
  rcases h with ⟨hc, v, rfl, ho⟩ | ⟨hc, rfl⟩
  · have HC := hide hc
    rw [World.size_alloc] at ho
    have HO := hide ho
    clear hc
    rcases ho.2 with ⟨rfl, _⟩ | ⟨g, cv, cur, rfl, _, _⟩
    · clear ho
      go_wp2
      refine bodyPost_ret (v := .tuple #[.agg #[.int .u16 (upP zs).src, .int .u16 (upP zs).dst, .int .u8 (upP zs).proto, .int .u16 (upP zs).id, .int .u8 (upP zs).off, .bool (upP zs).more, .int .u16 (upP zs).sport, .int .u16 (upP zs).dport, .slice none 0 0], .int .i64 0]) ?_ rfl ⟨?_, .inl ⟨HC.out, _, rfl, ?_⟩⟩
      all_goals go_light
      · simp [results, Tryz.results31, go_sem, cr]
      · repeat' first | with_reducible exact HW.out | with_reducible refine Below.setCell ?_ ?_ _
        all_goals simp
      · refine ownsRow_base (base := w.heap.size + 1) ?_ (by omega)
        repeat' first | with_reducible exact HO.out | with_reducible refine ownsRow_setCell_below ?_ ?_ _
        all_goals simp
    · clear ho
      go_wp2
      refine bodyPost_ret (v := .tuple #[.agg #[.int .u16 (upP zs).src, .int .u16 (upP zs).dst, .int .u8 (upP zs).proto, .int .u16 (upP zs).id, .int .u8 (upP zs).off, .bool (upP zs).more, .int .u16 (upP zs).sport, .int .u16 (upP zs).dport, .slice (some ⟨g, 0, none⟩) (upP zs).data.length cv], .int .i64 0]) ?_ rfl ⟨?_, .inl ⟨HC.out, _, rfl, ?_⟩⟩
      all_goals go_light
      · simp [results, Tryz.results31, go_sem, cr]
      · repeat' first | with_reducible exact HW.out | with_reducible refine Below.setCell ?_ ?_ _
        all_goals simp
      · refine ownsRow_base (base := w.heap.size + 1) ?_ (by omega)
        repeat' first | with_reducible exact HO.out | with_reducible refine ownsRow_setCell_below ?_ ?_ _
        all_goals simp
  · have HC := hide hc
    clear hc
    · go_wp2
      refine bodyPost_ret (v := .tuple #[.agg #[.int .u16 0, .int .u16 0, .int .u8 0, .int .u16 0, .int .u8 0, .bool false, .int .u16 0, .int .u16 0, .slice none 0 0], .int .i64 (upC zs)]) ?_ rfl ⟨?_, .inr ⟨HC.out, rfl⟩⟩
      all_goals go_light
      · simp [results, Tryz.results31, go_sem, cr]
      · repeat' first | with_reducible exact HW.out | with_reducible refine Below.setCell ?_ ?_ _
        all_goals simp

end Go.Proofs.YtajphdppmdoalaaGreat
