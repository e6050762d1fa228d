import Derived.Laws.BitsAllLaws
import Derived.WalkKit
namespace Go.Proofs.YtajphdppmdoalaaGreat
open Go.RowKit

theorem hide {p : Prop} (h : p) : Hid p := h
theorem unhide {p : Prop} (h : Hid p) : p := h
/-- What is left of a sum of 16-bit words when carries go round. -/
def norm (t : Int) : Int := if t = 0 then 0 else (t - 1) % 65535 + 1
theorem norm_bd (t : Int) (_ : 0 ≤ t) : 0 ≤ norm t ∧ norm t ≤ 65535 := by unfold norm; split <;> omega
theorem norm_lo (t u : Int) (h : 0 ≤ t) (hu : 0 ≤ u) (hu2 : u ≤ 65535) (hs : norm t + u ≤ 65535) : norm t + u = norm (t + u) := by
  unfold norm at *; split at hs <;> split <;> omega
theorem norm_hi (t u : Int) (h : 0 ≤ t) (hu : 0 ≤ u) (hu2 : u ≤ 65535) (hs : 65535 < norm t + u) : norm t + u + -65535 = norm (t + u) := by
  unfold norm at *; split at hs <;> split <;> omega
/-- The sum of the first words of a head. -/
def tk (h0 h1 h2 h3 h4 h5 h6 h7 h8 h9 : Int) : Nat → Int
  | 0 => 0
  | 1 => h0 * 256 + h1
  | 2 => h0 * 256 + h1 + (h2 * 256 + h3)
  | 3 => h0 * 256 + h1 + (h2 * 256 + h3) + (h4 * 256 + h5)
  | 4 => h0 * 256 + h1 + (h2 * 256 + h3) + (h4 * 256 + h5) + (h6 * 256 + h7)
  | _ => h0 * 256 + h1 + (h2 * 256 + h3) + (h4 * 256 + h5) + (h6 * 256 + h7) + (h8 * 256 + h9)
def csum (h0 h1 h2 h3 h4 h5 h6 h7 h8 h9 : Int) : Int := 65535 - norm (tk h0 h1 h2 h3 h4 h5 h6 h7 h8 h9 5)
theorem or_word (a b : Int) (ha0 : 0 ≤ a) (ha : a ≤ 255) (hb0 : 0 ≤ b) (hb : b ≤ 255) : bits .or .u16 (a * 256) b = a * 256 + b := by
  rw [u16_or _ _ (by omega) (by omega) (by omega) (by omega)]
  obtain ⟨x, rfl⟩ := Int.eq_ofNat_of_zero_le ha0
  obtain ⟨y, rfl⟩ := Int.eq_ofNat_of_zero_le hb0
  have h1 : ((x : Int) * 256).toNat = 2 ^ 8 * x := by omega
  have h2 : ((y : Int)).toNat = y := by omega
  rw [h1, h2, ← Nat.two_pow_add_eq_or_of_lt (by omega) x]
  omega
theorem ret_int {k : IntKind} {a b : Int} (h : a = b) : Ending.returned (.int k a) = .returned (.int k b) := by rw [h]
theorem ret_bool {a b : Bool} (h : a = b) : Ending.returned (.bool a) = .returned (.bool b) := by rw [h]
/-- Is a packet well-formed? -/
def wfB (off : Int) (more : Bool) (sport dport : Int) (n : Nat) : Bool :=
  decide (off ≤ 15) && decide (n ≤ 32) && (!more || (decide (n ≠ 0) && decide (n % 4 = 0))) && (decide (off = 0) || (decide (n ≠ 0) && decide (sport = 0) && decide (dport = 0)))
def pk (c n : Int) : Int := if c < 0 then (-(c + 1)) % n else c % n
theorem pk_bd (c n : Int) (h : 1 ≤ n) : 0 ≤ pk c n ∧ pk c n < n := by
  unfold pk; split
  · exact ⟨Int.emod_nonneg _ (by omega), Int.emod_lt_of_pos _ (by omega)⟩
  · exact ⟨Int.emod_nonneg _ (by omega), Int.emod_lt_of_pos _ (by omega)⟩

def mk (more : Bool) : Int := if more then 17 else 16
def tl (off : Int) (n : Nat) : Int := if off = 0 then (n : Int) + 4 else n
theorem mk_bd (more : Bool) : 16 ≤ mk more ∧ mk more ≤ 17 := by unfold mk; split <;> omega
theorem tl_bd (off : Int) (n : Nat) : 0 ≤ tl off n ∧ tl off n ≤ n + 4 := by unfold tl; split <;> omega
/-- The checksum of a packet's head. -/
def cs (src dst proto id off : Int) (more : Bool) (n : Nat) : Int := csum (mk more) proto (src / 256) (src % 256) (dst / 256) (dst % 256) (id / 256) (id % 256) off (tl off n)
theorem csum_bd (h0 h1 h2 h3 h4 h5 h6 h7 h8 h9 : Int) (b0 : 0 ≤ h0 ∧ h0 ≤ 255) (b1 : 0 ≤ h1 ∧ h1 ≤ 255) (b2 : 0 ≤ h2 ∧ h2 ≤ 255) (b3 : 0 ≤ h3 ∧ h3 ≤ 255) (b4 : 0 ≤ h4 ∧ h4 ≤ 255) (b5 : 0 ≤ h5 ∧ h5 ≤ 255) (b6 : 0 ≤ h6 ∧ h6 ≤ 255) (b7 : 0 ≤ h7 ∧ h7 ≤ 255) (b8 : 0 ≤ h8 ∧ h8 ≤ 255) (b9 : 0 ≤ h9 ∧ h9 ≤ 255) : 0 ≤ csum h0 h1 h2 h3 h4 h5 h6 h7 h8 h9 ∧ csum h0 h1 h2 h3 h4 h5 h6 h7 h8 h9 ≤ 65535 := by
  unfold csum
  have := norm_bd (tk h0 h1 h2 h3 h4 h5 h6 h7 h8 h9 5) (by simp [tk]; omega)
  omega

/-- The bytes of a packet. -/
def hdL (src dst proto id off : Int) (more : Bool) (n : Nat) : List Int := [mk more, proto, src / 256, src % 256, dst / 256, dst % 256, id / 256, id % 256, off, tl off n, cs src dst proto id off more n / 256, cs src dst proto id off more n % 256]
def ptL (off sport dport : Int) : List Int := if off = 0 then [sport / 256, sport % 256, dport / 256, dport % 256] else []
def pkL (src dst proto id off : Int) (more : Bool) (sport dport : Int) (zs : List Int) : List Int := hdL src dst proto id off more zs.length ++ ptL off sport dport ++ zs
/-- The numbers zs lie behind an address (as bytes). -/
def Has (w : World) (ao : Option Addr) (zs : List Int) : Prop := (ao = none → zs = []) ∧ (zs ≠ [] → ∃ b o, ao = some ⟨b, o, none⟩ ∧ b < w.heap.size ∧ ∀ j, j < zs.length → w.cell? ⟨b, o + j, none⟩ = some (.int .u8 (zs.getD j 0)))
theorem Has.below {w w' : World} {ao : Option Addr} {zs : List Int} (h : Has w ao zs) (hb : Below w.heap.size w w') : Has w' ao zs := by
  refine ⟨h.1, fun hz => ?_⟩
  obtain ⟨b, o, rfl, hlt, hc⟩ := h.2 hz
  exact ⟨b, o, rfl, Nat.lt_of_lt_of_le hlt hb.size, fun j hj => (hb.cell (p := ⟨b, o + j, none⟩) hlt).trans (hc j hj)⟩
theorem Has.cells {w : World} {a : Addr} {zs : List Int} (h : Has w (some a) zs) : ∀ j u, (zs.map (Value.int .u8))[j]? = some u → w.cell? (a.add j) = some u := by
  intro j u hu
  have hj : j < zs.length := by
    by_cases hj : j < zs.length
    · exact hj
    · rw [List.getElem?_eq_none (by simp; omega)] at hu; exact absurd hu (by simp)
  obtain ⟨b, o, he, _, hc⟩ := h.2 (by intro e; subst e; simp at hj)
  obtain rfl : a = ⟨b, o, none⟩ := by simpa using he
  rw [List.getElem?_map, List.getElem?_eq_getElem hj] at hu
  have := hc j hj
  simp only [Option.map_some, Option.some.injEq] at hu
  subst hu
  rw [List.getD_eq_getElem?_getD, List.getElem?_eq_getElem hj] at this
  rw [show (⟨b, o, none⟩ : Addr).add j = ⟨b, o + j, none⟩ from by cases j <;> simp [Addr.add]]
  simpa using this

theorem box_cell {w w' : World} {cs : Array Value} {t : TypeId} (hb : Below (w.heap.size + 1) (w.alloc (.cells cs t)) w') (j : Nat) : w'.cell? ⟨w.heap.size, j, none⟩ = cs[j]? := by
  rw [hb.cell (p := ⟨w.heap.size, j, none⟩) (by simp)]
  exact World.cell?_alloc_at cs t _ j rfl
theorem ownsRow_base {w : World} {base base' : Nat} {e : TypeId} {size : Nat} {v : Value} {n : Nat} {xs : List Value} (h : w.ownsRow base e size v n xs) (hb : base' ≤ base) : w.ownsRow base' e size v n xs := by
  obtain ⟨h1, h2⟩ := h
  refine ⟨h1, ?_⟩
  rcases h2 with h2 | ⟨g, cap, cur, h3, h4, h5⟩
  · exact .inl h2
  · exact .inr ⟨g, cap, cur, h3, Nat.le_trans hb h4, h5⟩
theorem cells_new (w : World) (xs : List Value) (t : TypeId) : ∀ j u, xs[j]? = some u → (w.alloc (.cells xs.toArray t)).cell? ((⟨w.heap.size, 0, none⟩ : Addr).add j) = some u := by
  intro j u h
  rw [show (⟨w.heap.size, 0, none⟩ : Addr).add j = ⟨w.heap.size, j, none⟩ from by cases j <;> simp [Addr.add]]
  rw [World.cell?_alloc_at _ _ _ _ rfl]
  simpa using h
theorem below_old {w w' : World} {o : Obj} (h : Below (w.heap.size + 1) (w.alloc o) w') : Below w.heap.size w w' := ((Below.refl _ _).alloc (Nat.le_refl _) _).trans (h.mono (by omega))
theorem row_setCell {w : World} {g j : Nat} {cur : Array Value} {t : TypeId} (h : w.heap[g]? = some (.cells cur t (0, 0))) (u : Value) : (w.setCell ⟨g, j, none⟩ u).heap[g]? = some (.cells (cur.setIfInBounds j u) t (0, 0)) := by
  have hlt := lt_of_block h
  have h' : w.heap[g] = .cells cur t (0, 0) := by simpa [Array.getElem?_eq_getElem hlt] using h
  show (w.heap.modify g _)[g]? = _
  rw [Array.getElem?_eq_getElem (by simpa using hlt), Array.getElem_modify_self, h']
  rfl
theorem arr_cell {w : World} {g : Nat} {cs : Array Value} {t : TypeId} (h : w.heap[g]? = some (.cells cs t (0, 0))) (j : Nat) : w.cell? ⟨g, j, none⟩ = cs[j]? := by
  simp [World.cell?, h]
theorem arr_frozen {w : World} {g : Nat} {cs : Array Value} {t : TypeId} (h : w.heap[g]? = some (.cells cs t (0, 0))) (j : Nat) : w.frozen? ⟨g, j, none⟩ = false := by
  simp [World.frozen?, h]
theorem own_shape {w : World} {base : Nat} {e : TypeId} {v : Value} {n : Nat} {xs : List Value} (h : w.ownsRow base e 1 v n xs) : v = .slice none 0 0 ∨ ∃ g cv, v = .slice (some ⟨g, 0, none⟩) n cv := by
  rcases h.2 with ⟨h, _⟩ | ⟨g, cv, _, h, _⟩
  · exact .inl h
  · exact .inr ⟨g, cv, h⟩

end Go.Proofs.YtajphdppmdoalaaGreat
