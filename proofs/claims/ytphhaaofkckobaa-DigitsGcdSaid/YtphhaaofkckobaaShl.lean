/-
  limbs.shiftLeft and limbs.Left.
-/
import Derived.Test.YtphhaaofkckobaaMul
namespace Go.Proofs.Ytphhaaofkckobaa
open Go.RowKit

theorem shl_or (d n c : Nat) (hd : d < 4294967296) (hn : n < 32) (hc : c < 2 ^ n) : bits .or .u64 (((d * 2 ^ n : Nat) : Int)) c = ((d * 2 ^ n + c : Nat) : Int) := by
  have h2 : (2 : Nat) ^ n ≤ 2 ^ 31 := Nat.pow_le_pow_right (by decide) (by omega)
  have h1 : d * 2 ^ n ≤ 4294967295 * 2 ^ 31 := Nat.mul_le_mul (by omega) h2
  rw [(bits_nat .u64 64 (by decide) wraps_u64 _ _ (by omega) (by omega)).2, Nat.mul_comm d, ← Nat.two_pow_add_eq_or_of_lt hc]

theorem shl_step (cs ds : List Nat) (off k n c N : Nat) (hk : off + k < cs.length) (hkd : k < ds.length) (h0 : dg cs (off + k) = 0)
    (hv : val 4294967296 cs + c * 4294967296 ^ (off + k) + 4294967296 ^ (off + k) * (2 ^ n * val 4294967296 (ds.drop k)) = N) :
    val 4294967296 (cs.set (off + k) ((dg ds k * 2 ^ n + c) % 4294967296)) + (dg ds k * 2 ^ n + c) / 4294967296 * 4294967296 ^ (off + (k + 1)) + 4294967296 ^ (off + (k + 1)) * (2 ^ n * val 4294967296 (ds.drop (k + 1))) = N := by
  have h1 := val_set 4294967296 cs (off + k) ((dg ds k * 2 ^ n + c) % 4294967296) hk
  have h2 := val_drop 4294967296 hkd
  have h3 := Nat.div_add_mod (dg ds k * 2 ^ n + c) 4294967296
  rw [h0] at h1
  rw [show off + (k + 1) = off + k + 1 from rfl, Nat.pow_succ]
  generalize (4294967296 : Nat) ^ (off + k) = p at *
  generalize (2 : Nat) ^ n = q at *
  generalize (dg ds k * q + c) % 4294967296 = s at *
  generalize (dg ds k * q + c) / 4294967296 = r at *
  grind

theorem shl_carry (d n c : Nat) (hd : d < 4294967296) (hc : c < 2 ^ n) : (d * 2 ^ n + c) / 4294967296 < 2 ^ n := by
  refine Nat.div_lt_of_lt_mul ?_
  have := Nat.mul_le_mul_right (2 ^ n) (show d + 1 ≤ 4294967296 by omega)
  rw [Nat.add_mul, Nat.one_mul] at this
  omega

set_option maxRecDepth 100000 in
set_option maxHeartbeats 1000000 in
theorem shl_any (g off cap n K L : Nat) (p : Option Addr) (ds : List Nat) (w : World) (hrow : Row .u32 36 w g (List.replicate (off + ds.length + 1) 0)) (hds : Dig 4294967296 ds) (hn : n < 32) (hlen : off + ds.length ≤ 1000000) (hL : L = ds.length + 1)
    (hat : At .u32 w p K ds) (hne : ∀ a, p = some a → a.block ≠ g) :
    Calls Try.prog 56 #[.slice (some ⟨g, off, none⟩) L cap, .slice p ds.length K, .int .i64 n] w fun e w' => (∃ v, e = .returned v) ∧
      ∃ cs, cs.length = off + ds.length + 1 ∧ Dig 4294967296 cs ∧ val 4294967296 cs = 4294967296 ^ off * (2 ^ n * val 4294967296 ds) ∧ Row .u32 36 w' g cs ∧ Only g w w' := by
  subst hL
  go_enter Try.func56, Try.ntmps56
  go_wp2_with fail
  go_loopw [6, 12] (fun sc si wr => ∃ (k c : Nat) (cs : List Nat), k ≤ ds.length ∧ si = .int .i64 k ∧ sc = .int .u32 c ∧ c < 2 ^ n ∧ cs.length = off + ds.length + 1 ∧ Dig 4294967296 cs ∧ (∀ j, off + k ≤ j → dg cs j = 0) ∧
      Hid (val 4294967296 cs + c * 4294967296 ^ (off + k) + 4294967296 ^ (off + k) * (2 ^ n * val 4294967296 (ds.drop k)) = 4294967296 ^ off * (2 ^ n * val 4294967296 ds)) ∧ Row .u32 36 wr g cs ∧ Only g w wr) (fun _ si _ => ds.length - (intOf si).toNat)
  case atStart =>
    refine ⟨0, 0, _, by omega, rfl, rfl, Nat.two_pow_pos n, by simp, fun x hx => by simp at hx; omega, fun j _ => ?_, by show _ = _; rw [val_zeros]; simp, hrow, Only.refl _ _⟩
    by_cases hj : j < off + ds.length + 1
    · rw [dg_lt (by simpa using hj)]; simp
    · exact dg_ge (by simpa using hj)
  case round =>
    clear hrow
    obtain ⟨k, c, cs, hk, rfl, rfl, hc, hcl, hcd, hcz, hval, hrow, hO⟩ := hrel
    have hp31 : (2 : Nat) ^ n ≤ 2 ^ 31 := Nat.pow_le_pow_right (by decide) (by omega)
    have hat := hat.only hO hne
    by_cases hlt : k < ds.length
    · obtain ⟨b, o, rfl, hk1, hb, hx1⟩ := hat.pos (by omega)
      have hx := hx1 k hlt
      have ho := hrow.cell (j := off + k) (by omega)
      have hf := hrow.free (off + k)
      have hdx : dg ds k < 4294967296 := hds.dg (by decide) k
      have hli : (k : Int) < ((ds.length : Nat) : Int) := by omega
      have hli2 : (k : Int) < ((ds.length : Nat) : Int) + 1 := by omega
      have HL := Lib.hid hcl
      have HZ := Lib.hid hcz
      have hrowH := Lib.hid hrow
      have HP := Lib.hid hp31
      have hc31 : c < 2147483648 := by omega
      have HC := Lib.hid hc
      clear hcl hcz hrow hx1 hat hp31 hc
      go_wp2_with fail
      have e0 : IntKind.u64.wrap ((dg ds k : Int) * 2 ^ n) = ((dg ds k * 2 ^ n : Nat) : Int) := by
        have h2 := HP.out
        have h1 : dg ds k * 2 ^ n ≤ 4294967295 * 2 ^ 31 := Nat.mul_le_mul (by omega) h2
        rw [show (dg ds k : Int) * 2 ^ n = ((dg ds k * 2 ^ n : Nat) : Int) by simp]
        exact wraps_u64 _ (by omega) (by omega)
      rw [e0, shl_or _ _ _ hdx hn HC.out]
      have hc2 := shl_carry (dg ds k) n c hdx HC.out
      have hp2 := HP.out
      have e1 : ((dg ds k * 2 ^ n + c : Nat) : Int) / 4294967296 % 4294967296 = (((dg ds k * 2 ^ n + c) / 4294967296 : Nat) : Int) := by omega
      have e2 : ((dg ds k * 2 ^ n + c : Nat) : Int) % 4294967296 = (((dg ds k * 2 ^ n + c) % 4294967296 : Nat) : Int) := by omega
      rw [e1, e2]
      have hcl := HL.out
      refine ⟨⟨k + 1, _, cs.set (off + k) ((dg ds k * 2 ^ n + c) % 4294967296), by omega, by go_num, rfl, hc2, by simpa using hcl, hcd.set _ (Nat.mod_lt _ (by decide)), fun j hj => ?_, shl_step cs ds off k n c _ (by omega) hlt (HZ.out _ (Nat.le_refl _)) hval.out, hrowH.out.set (off + k) _ (by omega), hO.set (off + k) _⟩, by simp [intOf]; omega⟩
      rw [dg_set _ _ _ _ (by omega), if_neg (by omega)]; exact HZ.out j (by omega)
    · have hky : k = ds.length := by omega
      have ho := hrow.cell (j := off + ds.length) (by omega)
      have hf := hrow.free (off + ds.length)
      have hv0 : val 4294967296 cs + c * 4294967296 ^ (off + ds.length) = 4294967296 ^ off * (2 ^ n * val 4294967296 ds) := by
        have h1 := hval.out
        rw [hky, List.drop_length] at h1
        simpa [val] using h1
      have h0 : dg cs (off + ds.length) = 0 := hcz _ (by omega)
      have hset := val_set 4294967296 cs (off + ds.length) c (by omega)
      rw [h0] at hset
      have HV0 := Lib.hid (show val 4294967296 (cs.set (off + ds.length) c) = 4294967296 ^ off * (2 ^ n * val 4294967296 ds) by
        rw [← hv0, Nat.mul_comm c]; simpa using hset)
      have hrowH := Lib.hid hrow
      have HL := Lib.hid hcl
      clear hv0 hky hval hrow hset h0 hcl hat hcz
      have hlt' : ¬ (k : Int) < ((ds.length : Nat) : Int) := by omega
      have hli2 : ((ds.length : Nat) : Int) < ((ds.length : Nat) : Int) + 1 := by omega
      go_wp2
      go_end0
      exact ⟨⟨_, rfl⟩, cs.set (off + ds.length) c, by have := HL.out; simpa using this, hcd.set _ (by omega), HV0.out, hrowH.out.set (off + ds.length) c (by have := HL.out; omega), hO.set (off + ds.length) _⟩

theorem Can.top {b : Nat} {ds : List Nat} (h : Can b ds) (h0 : ds ≠ []) : dg ds (ds.length - 1) ≠ 0 := by
  intro ht
  have hl := List.length_pos_iff.2 h0
  have hp := h.pos h0
  have e : val b ds = val b (ds.take (ds.length - 1)) + b ^ (ds.length - 1) * val b (ds.drop (ds.length - 1)) := by
    conv => lhs; rw [(List.take_append_drop (ds.length - 1) ds).symm]
    rw [val_append, show (ds.take (ds.length - 1)).length = ds.length - 1 by simp]
  rw [val_drop b (by omega : ds.length - 1 < ds.length), ht, List.drop_of_length_le (by omega)] at e
  have h1 := val_lt (h.1.take (ds.length - 1))
  rw [show (ds.take (ds.length - 1)).length = ds.length - 1 by simp] at h1
  simp [val] at e
  omega

theorem bits_bounds {ds : List Nat} (h : Can 4294967296 ds) (h0 : ds ≠ []) : 1 ≤ bitsOf ds ∧ 2 ^ (bitsOf ds - 1) ≤ val 4294967296 ds ∧ val 4294967296 ds < 2 ^ bitsOf ds := by
  have hl := List.length_pos_iff.2 h0
  have hx : dg ds (ds.length - 1) < 4294967296 := h.1.dg (by decide) _
  obtain ⟨b1, b2, b3⟩ := blen_bounds _ hx (h.top h0)
  have eb : bitsOf ds = (ds.length - 1) * 32 + Lib.bitLen (dg ds (ds.length - 1)) := by unfold bitsOf; rw [if_neg h0]
  have e : val 4294967296 ds = val 4294967296 (ds.take (ds.length - 1)) + 4294967296 ^ (ds.length - 1) * dg ds (ds.length - 1) := by
    conv => lhs; rw [(List.take_append_drop (ds.length - 1) ds).symm]
    rw [val_append, show (ds.take (ds.length - 1)).length = ds.length - 1 by simp, val_drop _ (by omega : ds.length - 1 < ds.length), List.drop_of_length_le (by omega)]
    simp [val]
  have h1 := val_lt (h.1.take (ds.length - 1))
  rw [show (ds.take (ds.length - 1)).length = ds.length - 1 by simp] at h1
  have ep : (4294967296 : Nat) ^ (ds.length - 1) = 2 ^ ((ds.length - 1) * 32) := by rw [Nat.mul_comm _ 32, Nat.pow_mul]
  rw [ep] at e h1
  rw [eb, e]
  generalize Lib.bitLen (dg ds (ds.length - 1)) = t at *
  generalize dg ds (ds.length - 1) = d at *
  generalize val 4294967296 (ds.take (ds.length - 1)) = v at *
  generalize (ds.length - 1) * 32 = s at *
  refine ⟨by omega, ?_, ?_⟩
  · rw [show s + t - 1 = s + (t - 1) by omega, Nat.pow_add]
    have := Nat.mul_le_mul_left (2 ^ s) b2
    omega
  · rw [Nat.pow_add]
    have := Nat.mul_le_mul_left (2 ^ s) (show d + 1 ≤ 2 ^ t by omega)
    rw [Nat.mul_add, Nat.mul_one] at this
    omega

end Go.Proofs.Ytphhaaofkckobaa
