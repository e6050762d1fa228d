import Derived.Test.YtajphdppmdoalaaGreatL
namespace Go.Proofs.YtajphdppmdoalaaGreat
open Go.RowKit

theorem owns_has {w : World} {base g n cv : Nat} {zs : List Int} (h : w.ownsRow base 5 1 (.slice (some ⟨g, 0, none⟩) n cv) n (zs.map (Value.int .u8))) : Has w (some ⟨g, 0, none⟩) zs ∧ zs.length = n ∧ n ≤ cv ∧ cv ≤ maxLen := by
  obtain ⟨hl, h2⟩ := h
  have hl' : zs.length = n := by simpa using hl
  rcases h2 with ⟨h, _⟩ | ⟨g', cap', cur, he, hb, hh, h3, h4, h5, h6⟩
  · simp at h
  · simp only [Value.slice.injEq, Option.some.injEq, Addr.mk.injEq] at he
    obtain ⟨⟨rfl, _, _⟩, _, rfl⟩ := he
    refine ⟨⟨by simp, fun _ => ⟨g, 0, rfl, lt_of_block hh, fun j hj => ?_⟩⟩, hl', h3, h4⟩
    rw [arr_cell hh, Nat.zero_add]
    have h7 : (zs.map (Value.int .u8))[j]? = cur[j]? := by
      rw [← h6]
      rw [List.getElem?_take_of_lt (by omega), Array.getElem?_toList]
    rw [← h7, List.getElem?_map, List.getElem?_eq_getElem hj, List.getD_eq_getElem?_getD, List.getElem?_eq_getElem hj]
    rfl
theorem owns_nil_has {w : World} {base n : Nat} {zs : List Int} (h : w.ownsRow base 5 1 (.slice none 0 0) n (zs.map (Value.int .u8))) : zs = [] ∧ n = 0 := by
  obtain ⟨hl, h2⟩ := h
  rcases h2 with ⟨_, h⟩ | ⟨g', cap', cur, he, _⟩
  · subst h; simpa using hl
  · simp at he
theorem owns_any {w : World} {base n : Nat} {v : Value} {zs : List Int} (h : w.ownsRow base 5 1 v n (zs.map (Value.int .u8))) : ∃ ao cv, v = .slice ao n cv ∧ Has w ao zs ∧ zs.length = n ∧ n ≤ cv ∧ cv ≤ maxLen ∧ (ao = none → cv = 0) := by
  rcases own_shape h with rfl | ⟨g, cv, rfl⟩
  · obtain ⟨rfl, rfl⟩ := owns_nil_has h
    exact ⟨none, 0, rfl, ⟨fun _ => rfl, fun h => absurd rfl h⟩, rfl, Nat.le_refl _, by decide, fun _ => rfl⟩
  · obtain ⟨h1, h2, h3, h4⟩ := owns_has h
    exact ⟨_, cv, rfl, h1, h2, h3, h4, by simp⟩

/-- What is packed comes out again. -/
theorem up_pk (src dst proto id off : Int) (more : Bool) (sport dport : Int) (zs : List Int) (hsrc0 : 0 ≤ src) (hsrc : src ≤ 65535) (hdst0 : 0 ≤ dst) (hdst : dst ≤ 65535) (hproto0 : 0 ≤ proto) (hproto : proto ≤ 255) (hid0 : 0 ≤ id) (hid : id ≤ 65535) (hoff0 : 0 ≤ off) (hoff : off ≤ 255) (hsport0 : 0 ≤ sport) (hsport : sport ≤ 65535) (hdport0 : 0 ≤ dport) (hdport : dport ≤ 65535) (hwf : wfB off more sport dport zs.length = true) :
    upC (pkL src dst proto id off more sport dport zs) = 0 ∧ upP (pkL src dst proto id off more sport dport zs) = ⟨src, dst, proto, id, off, more, sport, dport, zs⟩ := by
  have hw := hwf
  simp only [wfB, Bool.and_eq_true, Bool.or_eq_true, decide_eq_true_eq, Bool.not_eq_true'] at hw
  have hcs := csum_bd (mk more) proto (src / 256) (src % 256) (dst / 256) (dst % 256) (id / 256) (id % 256) off (tl off zs.length) (by have := mk_bd more; omega) (by omega) (by omega) (by omega) (by omega) (by omega) (by omega) (by omega) (by omega) (by have := tl_bd off zs.length; omega)
  have hm : (mk more == 17) = more := by cases more <;> rfl
  have hm2 : ¬ (mk more ≠ 16 ∧ mk more ≠ 17) := by cases more <;> simp [mk]
  by_cases h0 : off = 0
  · subst h0
    have e : pkL src dst proto id 0 more sport dport zs = mk more :: proto :: (src / 256) :: (src % 256) :: (dst / 256) :: (dst % 256) :: (id / 256) :: (id % 256) :: 0 :: ((zs.length : Int) + 4) :: (cs src dst proto id 0 more zs.length / 256) :: (cs src dst proto id 0 more zs.length % 256) :: (sport / 256) :: (sport % 256) :: (dport / 256) :: (dport % 256) :: zs := by
      simp [pkL, hdL, ptL, tl]
    rw [e]
    have k1 : sport / 256 * 256 + sport % 256 = sport := by omega
    have k2 : dport / 256 * 256 + dport % 256 = dport := by omega
    have k3 : src / 256 * 256 + src % 256 = src := by omega
    have k4 : dst / 256 * 256 + dst % 256 = dst := by omega
    have k5 : id / 256 * 256 + id % 256 = id := by omega
    constructor
    · simp only [upC]
      rw [if_neg hm2, if_neg (by simp; omega), if_neg (by unfold cs tl; simp; omega), if_neg (by simp [spOf, dpOf, dtOf, hm, k1, k2, hwf])]
    · simp [upP, spOf, dpOf, dtOf, hm, k1, k2, k3, k4, k5]
  · have hp : sport = 0 ∧ dport = 0 := by omega
    obtain ⟨rfl, rfl⟩ := hp
    have e : pkL src dst proto id off more 0 0 zs = mk more :: proto :: (src / 256) :: (src % 256) :: (dst / 256) :: (dst % 256) :: (id / 256) :: (id % 256) :: off :: (zs.length : Int) :: (cs src dst proto id off more zs.length / 256) :: (cs src dst proto id off more zs.length % 256) :: zs := by
      simp [pkL, hdL, ptL, tl, h0]
    rw [e]
    have k3 : src / 256 * 256 + src % 256 = src := by omega
    have k4 : dst / 256 * 256 + dst % 256 = dst := by omega
    have k5 : id / 256 * 256 + id % 256 = id := by omega
    have esp : ∀ r, spOf off r = 0 := by intro r; unfold spOf; split; exact if_neg h0; rfl
    have edp : ∀ r, dpOf off r = 0 := by intro r; unfold dpOf; split; exact if_neg h0; rfl
    have edt : ∀ r, dtOf off r = r := fun r => if_neg h0
    constructor
    · simp only [upC]
      rw [if_neg hm2, if_neg (by simp; omega), if_neg (by unfold cs tl; simp [h0]; omega), if_neg (by simp [esp, edp, edt, hm, hwf])]
    · simp [upP, esp, edp, edt, hm, k3, k4, k5]
/-- Every byte of a packed packet is one. -/
theorem pk_bytes (src dst proto id off : Int) (more : Bool) (sport dport : Int) (zs : List Int) (hsrc0 : 0 ≤ src) (hsrc : src ≤ 65535) (hdst0 : 0 ≤ dst) (hdst : dst ≤ 65535) (hproto0 : 0 ≤ proto) (hproto : proto ≤ 255) (hid0 : 0 ≤ id) (hid : id ≤ 65535) (hoff0 : 0 ≤ off) (hoff : off ≤ 255) (hsport0 : 0 ≤ sport) (hsport : sport ≤ 65535) (hdport0 : 0 ≤ dport) (hdport : dport ≤ 65535) (hn : zs.length ≤ 32) (hz : ∀ z ∈ zs, 0 ≤ z ∧ z ≤ 255) : ∀ z ∈ pkL src dst proto id off more sport dport zs, 0 ≤ z ∧ z ≤ 255 := by
  have hcs := csum_bd (mk more) proto (src / 256) (src % 256) (dst / 256) (dst % 256) (id / 256) (id % 256) off (tl off zs.length) (by have := mk_bd more; omega) (by omega) (by omega) (by omega) (by omega) (by omega) (by omega) (by omega) (by omega) (by have := tl_bd off zs.length; omega)
  have h1 := mk_bd more
  have h2 := tl_bd off zs.length
  intro z h
  simp only [pkL, List.mem_append] at h
  rcases h with (h | h) | h
  · simp only [hdL, cs, List.mem_cons, List.not_mem_nil, or_false] at h
    rcases h with rfl | rfl | rfl | rfl | rfl | rfl | rfl | rfl | rfl | rfl | rfl | rfl <;> omega
  · unfold ptL at h
    split at h
    · simp only [List.mem_cons, List.not_mem_nil, or_false] at h
      rcases h with rfl | rfl | rfl | rfl <;> omega
    · simp at h
  · exact hz z h

end Go.Proofs.YtajphdppmdoalaaGreat
