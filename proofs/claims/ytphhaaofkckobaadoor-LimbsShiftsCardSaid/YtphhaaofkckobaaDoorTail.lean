/-
  math/bits.TrailingZeros32 and limbs.Tail.
-/
import Derived.Test.YtphhaaofkckobaaDoorLimbsA
namespace Go.Proofs.YtphhaaofkckobaaDoor
open Go.RowKit

/-- The table of the library in its variable. -/
def Tab (w : World) : Prop := ∀ j, j < Lib.deBruijn32tab.length → w.cell? ⟨0, j, none⟩ = some (.int .u8 (Lib.deBruijn32tab.getD j 0))

theorem Tab.pos {w : World} (h : Tab w) : 0 < w.heap.size := World.block_lt_of_cell? w _ (h 0 (by decide))
theorem Tab.below {w w' : World} (h : Tab w) (hb : Below w.heap.size w w') : Tab w' := fun j hj => (hb.cell (p := ⟨0, j, none⟩) h.pos).trans (h j hj)
theorem Tab.same {w w' : World} (h : Tab w) (hb : ∀ j, w'.cell? ⟨0, j, none⟩ = w.cell? ⟨0, j, none⟩) : Tab w' := fun j hj => (hb j).trans (h j hj)

theorem tz_key (x a : Nat) (hx : x < 4294967296) (hx0 : x ≠ 0) (hlow : x &&& (4294967296 - x) = a) :
    bits BinOp.and IntKind.u32 (x : Int) (-(x : Int) % 4294967296) * 125613361 % 4294967296 / 134217728 = ((a * 125613361 % 4294967296 / 134217728 : Nat) : Int) := by
  have e1 : -(x : Int) % 4294967296 = ((4294967296 - x : Nat) : Int) := by omega
  rw [e1, and_u32 x _ hx (by omega), hlow]
  omega

set_option maxRecDepth 100000 in
set_option maxHeartbeats 400000 in
theorem tz_core (x k idx : Nat) (w : World) (hx0 : ((x : Int) == 0) = false)
    (key : bits BinOp.and IntKind.u32 (x : Int) (-(x : Int) % 4294967296) * 125613361 % 4294967296 / 134217728 = (idx : Int))
    (hi : idx < 32) (hk : k < 32) (hcell : w.cell? ⟨0, idx, none⟩ = some (.int .u8 k)) :
    Calls Tryd.prog 50 #[.int .u32 x] w fun e w' => e = .returned (.int .i64 k) ∧ w = w' := by
  go_enter Tryd.func50, Tryd.ntmps50
  go_wp2_with (simp only [key])
  go_ret
  exact ⟨rfl, rfl⟩

/-- TrailingZeros32 of what isn't 0. -/
theorem tz32 (x : Nat) (w : World) (hx : x < 4294967296) (hx0 : x ≠ 0) (hT : Tab w) :
    Calls Tryd.prog 50 #[.int .u32 x] w fun e w' => e = .returned (.int .i64 (Lib.ctz 32 x)) ∧ w = w' := by
  obtain ⟨hlow, hk⟩ := Lib.lowest_bit 32 x hx0 hx
  obtain ⟨hi, htab⟩ := Lib.deBruijn32_at _ hk
  have hcell := hT _ hi
  rw [htab] at hcell
  exact tz_core x _ _ w (by simp; omega) (tz_key x _ hx hx0 hlow) hi hk hcell

/-- t noughts stand at the end of the number n's bits; none of 0. -/
def TailIs (n t : Nat) : Prop := (n = 0 ∧ t = 0) ∨ ∃ m, n = 2 ^ t * (2 * m + 1)
def TailPost (n : Nat) (w : World) (e : Ending) (w' : World) : Prop := (∃ t : Nat, e = .returned (.int .i64 t) ∧ TailIs n t) ∧ w = w'

theorem val_low_zero (b : Nat) : ∀ (ds : List Nat) (i : Nat), (∀ j, j < i → dg ds j = 0) → i ≤ ds.length → val b ds = b ^ i * val b (ds.drop i)
  | ds, 0, _, _ => by simp
  | [], i + 1, _, h => by simp at h
  | d :: ds, i + 1, hz, h => by
    have ih := val_low_zero b ds i (fun j hj => by have := hz (j + 1) (by omega); simpa [dg] using this) (by simpa using h)
    have h0 : d = 0 := by have := hz 0 (by omega); simpa [dg] using this
    simp only [val, h0, List.drop_succ_cons, ih, Nat.pow_succ]
    grind

theorem tail_at (ds : List Nat) (i : Nat) (hd : Dig 4294967296 ds) (hi : i < ds.length) (hz : ∀ j, j < i → dg ds j = 0) (h0 : dg ds i ≠ 0) :
    TailIs (val 4294967296 ds) (i * 32 + Lib.ctz 32 (dg ds i)) := by
  have hx : dg ds i < 2 ^ 32 := hd.dg (by decide) i
  obtain ⟨m, hm, hk⟩ := Lib.ctzFrom_spec 32 (dg ds i) (by omega) hx
  have hc : Lib.ctz 32 (dg ds i) = Lib.ctzFrom 32 (dg ds i) := by unfold Lib.ctz; rw [if_neg h0]
  rw [hc]
  generalize Lib.ctzFrom 32 (dg ds i) = k at *
  rw [val_low_zero _ ds i hz (by omega), val_drop _ hi, hm]
  generalize val 4294967296 (ds.drop (i + 1)) = v
  refine .inr ⟨m + 2 ^ (31 - k) * v, ?_⟩
  have e1 : (4294967296 : Nat) = 2 ^ k * (2 * 2 ^ (31 - k)) := by
    rw [← Nat.pow_succ', ← Nat.pow_add, show k + (31 - k + 1) = 32 by omega]
  have e2 : (4294967296 : Nat) ^ i = 2 ^ (i * 32) := by
    rw [Nat.mul_comm i 32, Nat.pow_mul]
  rw [e2, Nat.pow_add]
  generalize 2 ^ (31 - k) = q at *
  generalize 2 ^ k = p at *
  generalize 2 ^ (i * 32) = r at *
  rw [e1]
  grind

set_option maxRecDepth 100000 in
set_option maxHeartbeats 400000 in
theorem tail_any {v : Value} {ds : List Nat} {w : World} (hv : Nums .u32 w v ds) (hd : Dig 4294967296 ds) (hlen : ds.length ≤ 1000000) (hT : Tab w) :
    Calls Tryd.prog 30 #[v] w (TailPost (val 4294967296 ds) w) := by
  obtain ⟨p, cap, rfl, hat⟩ := hv
  have T := Lib.hid (fun x hx h0 => tz32 x w hx h0 hT)
  go_enter Tryd.func30, Tryd.ntmps30
  go_wp2
  go_loop [7] (fun i => ∃ k : Nat, k ≤ ds.length ∧ i = .int .i64 k ∧ ∀ j, j < k → dg ds j = 0) (fun i => ds.length - (intOf i).toNat)
  case atStart => exact ⟨0, Nat.zero_le _, rfl, fun j hj => by omega⟩
  case round =>
    obtain ⟨k, hk, rfl, hz⟩ := hrel
    have Hz := Lib.hid hz; clear hz
    by_cases hlt : k < ds.length
    · obtain ⟨b, off, rfl, hcap, hb, hc⟩ := hat.pos (by omega)
      have hck := hc k hlt
      have hx := hd.dg (by decide) k
      clear hc
      by_cases h0 : dg ds k = 0
      · have h0' : (((dg ds k : Nat) : Int) != 0) = false := by simp [h0]
        have H0 := Lib.hid h0; clear h0
        go_wp2
        go_round
        case rel => exact ⟨k + 1, by omega, by go_num, fun j hj => by by_cases e : j = k; exact e ▸ H0.out; exact Hz.out j (by omega)⟩
        case measure => simp [intOf]; omega
      · have h0' : (((dg ds k : Nat) : Int) != 0) = true := by simp; omega
        have hT := tail_at ds k hd hlt Hz.out h0
        have hkk : Lib.ctz 32 (dg ds k) < 32 := (Lib.lowest_bit 32 _ h0 hx).2
        have T := Lib.hid (T.out _ hx h0)
        have HT := Lib.hid hT
        clear hT h0
        generalize Lib.ctz 32 (dg ds k) = t at *
        go_wp2_with (go_at_call 50; refine T.out.mono ?_; rintro e w' ⟨rfl, rfl⟩)
        go_ret
        exact ⟨⟨k * 32 + t, ret_one (by show Value.int .i64 _ = Value.int .i64 _; congr 1), HT.out⟩, rfl⟩
    · have hk' : k = ds.length := by omega
      have Hk := Lib.hid hk'; clear hk'
      have hv : val 4294967296 ds = 0 := by
        rw [val_low_zero _ ds k Hz.out hk, Hk.out]; simp [val]
      have Hv := Lib.hid hv; clear hv
      go_wp2
      go_ret
      exact ⟨⟨0, rfl, .inl ⟨Hv.out, rfl⟩⟩, rfl⟩

end Go.Proofs.YtphhaaofkckobaaDoor
