/-
  What the statement stands on.
-/
import Derived.Test.YtcfgefbkeeedgaaGreatM09
import Derived.Test.YtcfgefbkeeedgaaGreatM10
import Derived.BigQuiet
import Derived.Deep.QuietTactic
import Derived.Lib.ItoaNum
import Derived.Lib.TrailingZeros
namespace Go.Proofs.YtcfgefbkeeedgaaGreat
open Go.RowKit
set_option maxRecDepth 100000 in
set_option maxHeartbeats 400000 in
theorem add32 (x y c : Nat) (w : World) (hx : x < 4294967296) (hy : y < 4294967296) (hc : c < 4294967296) :
    Calls Tryz.prog 114 #[.int .u32 x, .int .u32 y, .int .u32 c] w fun e w' => e = .returned (.tuple #[.int .u32 ((x + y + c) % 4294967296 : Nat), .int .u32 ((x + y + c) / 4294967296 : Nat)]) ∧ w = w' := by
  have hx' : (x : Int) < 4294967296 := by omega
  have hy' : (y : Int) < 4294967296 := by omega
  have hc' : (c : Int) < 4294967296 := by omega
  go_enter Tryz.func114, Tryz.ntmps114
  go_wp2
  go_ret2
  exact ⟨by simp, rfl⟩
theorem ret_pair {a b c d : Value} (h1 : a = c) (h2 : b = d) : Ending.returned (.tuple #[a, b]) = .returned (.tuple #[c, d]) := by rw [h1, h2]
theorem ret_one {a b : Value} (h : a = b) : Ending.returned a = .returned b := by rw [h]
theorem wraps_u32 (n : Int) (h0 : 0 ≤ n) (h1 : n < 2 ^ 32) : IntKind.u32.wrap n = n := by rw [IntKind.wrap_u32]; omega
theorem and_u32 (a b : Nat) (ha : a < 2 ^ 32) (hb : b < 2 ^ 32) : bits .and .u32 a b = ((a &&& b : Nat) : Int) := (bits_nat .u32 32 (by decide) wraps_u32 a b ha hb).1
theorem or_u32 (a b : Nat) (ha : a < 2 ^ 32) (hb : b < 2 ^ 32) : bits .or .u32 a b = ((a ||| b : Nat) : Int) := (bits_nat .u32 32 (by decide) wraps_u32 a b ha hb).2
theorem xor_u32 (a b : Nat) (ha : a < 2 ^ 32) (hb : b < 2 ^ 32) : bits .xor .u32 a b = ((a ^^^ b : Nat) : Int) := by
  have h1 : (BitVec.ofInt 32 (a : Int)).toNat = a := by rw [BitVec.ofInt_natCast, BitVec.toNat_ofNat]; exact Nat.mod_eq_of_lt ha
  have h2 : (BitVec.ofInt 32 (b : Int)).toNat = b := by rw [BitVec.ofInt_natCast, BitVec.toNat_ofNat]; exact Nat.mod_eq_of_lt hb
  have hx : a ^^^ b < 2 ^ 32 := Nat.xor_lt_two_pow ha hb
  show IntKind.u32.wrap ((BitVec.ofInt 32 (a : Int) ^^^ BitVec.ofInt 32 (b : Int)).toNat : Int) = _
  rw [BitVec.toNat_xor, h1, h2]
  exact wraps_u32 _ (by omega) (by omega)
theorem top_bit (n : Nat) (h : n < 2 ^ 32) : n / 2147483648 = (n.testBit 31).toNat := by
  rw [Nat.testBit_eq_decide_div_mod_eq]
  have : n / 2 ^ 31 < 2 := by omega
  by_cases h1 : n / 2 ^ 31 % 2 = 1
  · simp [h1]; omega
  · simp [h1]; omega
theorem top_bit' (n : Nat) (h : n < 2 ^ 32) : n.testBit 31 = decide (2147483648 ≤ n) := by
  rw [Nat.testBit_eq_decide_div_mod_eq, Bool.eq_iff_iff]; simp; omega
def subD (x y c : Nat) : Nat := (x + 8589934592 - y - c) % 4294967296
def subB (x y c : Nat) : Nat := if x < y + c then 1 else 0
def divQ (h l d : Nat) : Nat := (h * 4294967296 + l) / d
def divR (h l d : Nat) : Nat := (h * 4294967296 + l) % d
theorem sub32_b (x y c : Nat) (hx : x < 4294967296) (hy : y < 4294967296) (hc : c ≤ 1) :
    bits .or .u32 (bits .and .u32 (bits .xor .u32 (if IntKind.u32.signed = true then -1 else IntKind.u32.max) x) y) (bits .and .u32 (bits .xor .u32 (if IntKind.u32.signed = true then -1 else IntKind.u32.max) (bits .xor .u32 x y)) (((x : Int) - y - c) % 4294967296)) / 2147483648 = (subB x y c : Nat) := by
  have hd : (((x : Int) - y - c) % 4294967296) = ((subD x y c : Nat) : Int) := by unfold subD; omega
  have hdl : subD x y c < 2 ^ 32 := by unfold subD; omega
  have hm : (if IntKind.u32.signed = true then -1 else IntKind.u32.max) = ((4294967295 : Nat) : Int) := by decide
  have hxy : x ^^^ y < 2 ^ 32 := Nat.xor_lt_two_pow hx hy
  have h1 : 4294967295 ^^^ x < 2 ^ 32 := Nat.xor_lt_two_pow (by decide) hx
  have h2 : 4294967295 ^^^ (x ^^^ y) < 2 ^ 32 := Nat.xor_lt_two_pow (by decide) hxy
  have h3 : (4294967295 ^^^ x) &&& y < 2 ^ 32 := Nat.and_lt_two_pow _ hy
  have h4 : (4294967295 ^^^ (x ^^^ y)) &&& subD x y c < 2 ^ 32 := Nat.and_lt_two_pow _ hdl
  rw [hd, hm, xor_u32 _ _ (by decide) hx, xor_u32 _ _ hx hy, xor_u32 _ _ (by decide) hxy, and_u32 _ _ h1 hy, and_u32 _ _ h2 hdl, or_u32 _ _ h3 h4]
  rw [show (2147483648 : Int) = ((2147483648 : Nat) : Int) from rfl, ← Int.natCast_ediv, top_bit _ (Nat.or_lt_two_pow h3 h4)]
  simp only [Nat.testBit_or, Nat.testBit_and, Nat.testBit_xor]
  rw [top_bit' _ hx, top_bit' _ hy, top_bit' _ hdl, top_bit' 4294967295 (by decide)]
  have hs : subD x y c = if x < y + c then x + 4294967296 - y - c else x - y - c := by unfold subD; split <;> omega
  unfold subB
  by_cases k1 : 2147483648 ≤ x <;> by_cases k2 : 2147483648 ≤ y <;> by_cases k3 : 2147483648 ≤ subD x y c <;> by_cases k4 : x < y + c <;> simp [k1, k2, k3, k4] <;> (simp only [k4, if_true, if_false] at hs; omega)
set_option maxRecDepth 100000 in
set_option maxHeartbeats 400000 in
theorem sub32 (x y c : Nat) (w : World) (hx : x < 4294967296) (hy : y < 4294967296) (hc : c ≤ 1) :
    Calls Tryz.prog 115 #[.int .u32 x, .int .u32 y, .int .u32 c] w fun e w' => e = .returned (.tuple #[.int .u32 (subD x y c), .int .u32 (subB x y c)]) ∧ w = w' := by
  have hx' : (x : Int) < 4294967296 := by omega
  have hy' : (y : Int) < 4294967296 := by omega
  have hc' : (c : Int) ≤ 1 := by omega
  go_enter Tryz.func115, Tryz.ntmps115
  repeat (first | go_values | go_skip | go_guarded | go_step | go_upon)
  go_ret2
  exact ⟨ret_pair (congrArg (Value.int .u32) (by unfold subD; omega)) (congrArg (Value.int .u32) (sub32_b x y c hx hy hc)), rfl⟩
theorem wraps_u64 (n : Int) (h0 : 0 ≤ n) (h1 : n < 2 ^ 64) : IntKind.u64.wrap n = n := by rw [IntKind.wrap_u64]; omega
theorem or_hi (h l : Nat) (hh : h < 4294967296) (hl : l < 4294967296) : bits .or .u64 ((h : Int) * 4294967296) l = ((h * 4294967296 + l : Nat) : Int) := by
  rw [show ((h : Int) * 4294967296) = ((h * 4294967296 : Nat) : Int) by omega, (bits_nat .u64 64 (by decide) wraps_u64 _ _ (by omega) (by omega)).2]
  rw [show h * 4294967296 = 2 ^ 32 * h by omega, ← Nat.two_pow_add_eq_or_of_lt hl]
set_option maxRecDepth 100000 in
set_option maxHeartbeats 400000 in
theorem div32 (h l d : Nat) (w : World) (hh : h < d) (hl : l < 4294967296) (hd : d < 4294967296) :
    Calls Tryz.prog 98 #[.int .u32 h, .int .u32 l, .int .u32 d] w fun e w' => e = .returned (.tuple #[.int .u32 (divQ h l d), .int .u32 (divR h l d)]) ∧ ∃ n, w' = w.drewN n := by
  have hx' : (h : Int) < d := by omega
  have hy' : (l : Int) < 4294967296 := by omega
  have hc' : (d : Int) < 4294967296 := by omega
  have hd0 : ((d : Int) != 0) = true := by simp; omega
  have hle : decide (d ≤ h) = false := by simp; omega
  go_enter Tryz.func98, Tryz.ntmps98
  repeat (first | go_values | go_skip | go_guarded | go_step | go_upon)
  rw [or_hi h l (by omega) hl]
  obtain ⟨n, hn⟩ : ∃ n : Nat, h * 4294967296 + l = n := ⟨_, rfl⟩
  have hq : n / d < 4294967296 := by
    rw [← hn]; refine Nat.div_lt_of_lt_mul ?_
    have := Nat.mul_le_mul_right 4294967296 hh
    rw [Nat.mul_comm d]; omega
  have hr : n % d < d := Nat.mod_lt _ (by omega)
  have HQ : divQ h l d = n / d := by unfold divQ; rw [hn]
  have HR : divR h l d = n % d := by unfold divR; rw [hn]
  rw [hn]
  have KQ := Lib.hid HQ; have KR := Lib.hid HR
  clear HQ HR hn
  have hdi : (0 : Int) < d := by omega
  have hq' : ((n / d : Nat) : Int) < 4294967296 := by omega
  have hr' : ((n % d : Nat) : Int) < d := by omega
  go_quiet (fail)
  repeat (first | go_values | go_skip | go_guarded | go_step | go_upon)
  go_ret2
  refine ⟨ret_pair (congrArg (Value.int .u32) ?_) (congrArg (Value.int .u32) ?_), _, rfl⟩
  · rw [KQ.out, ← Int.natCast_ediv]
    generalize n / d = q at *
    rw [wraps_u64 _ (by omega) (by omega)]; omega
  · rw [KR.out, ← Int.natCast_emod]
theorem blen_le (x : Nat) (hx : x < 4294967296) : Lib.bitLen x ≤ 32 := Lib.bitLen_le x 32 (by decide) (by omega)
theorem blen_bounds (x : Nat) (hx : x < 4294967296) (h0 : x ≠ 0) : 1 ≤ Lib.bitLen x ∧ 2 ^ (Lib.bitLen x - 1) ≤ x ∧ x < 2 ^ Lib.bitLen x := Lib.bitLenAux_bounds 64 x (by omega) h0
theorem lead32 (x : Nat) (w : World) (hx : x < 4294967296) :
    Calls Tryz.prog 99 #[.int .u32 x] w fun e w' => e = .returned (.int .i64 ((32 - Lib.bitLen x : Nat) : Int)) ∧ w = w' := by
  have hl := blen_le x hx
  obtain ⟨n, hn⟩ : ∃ n, Lib.bitLen x = n := ⟨_, rfl⟩
  have C := len32 x w hx
  rw [hn] at C hl ⊢
  clear hn
  have H := Lib.hid C; clear C
  go_enter Tryz.func99, Tryz.ntmps99
  go_wp2_with (go_at_call 46; refine H.out.mono ?_; rintro e w' ⟨rfl, rfl⟩)
  go_ret
  exact ⟨ret_one (congrArg (Value.int .i64) (by omega)), rfl⟩
theorem nan_int (a : Int) (w : World) : Calls Tryz.prog 88 #[.int .i64 a] w fun e w' => e = .returned (.bool false) ∧ w = w' := by
  go_enter Tryz.func88, Tryz.ntmps88
  go_wp2
  go_ret
  exact ⟨rfl, rfl⟩
theorem nan_u32 (a : Int) (w : World) : Calls Tryz.prog 90 #[.int .u32 a] w fun e w' => e = .returned (.bool false) ∧ w = w' := by
  go_enter Tryz.func90, Tryz.ntmps90
  go_wp2
  go_ret
  exact ⟨rfl, rfl⟩
def cmpI (a b : Int) : Int := if a < b then -1 else if b < a then 1 else 0
theorem cmp_int (a b : Int) (w : World) : Calls Tryz.prog 62 #[.int .i64 a, .int .i64 b] w fun e w' => e = .returned (.int .i64 (cmpI a b)) ∧ w = w' := by
  go_enter Tryz.func62, Tryz.ntmps62
  go_wp2_with (go_at_call 88; refine (nan_int _ _).mono ?_; rintro e w' ⟨rfl, rfl⟩)
  all_goals go_ret
  all_goals (refine ⟨?_, rfl⟩; unfold cmpI; (repeat (first | rw [if_pos (by omega)] | rw [if_neg (by omega)])); rfl)
theorem cmp_u32 (a b : Int) (w : World) : Calls Tryz.prog 64 #[.int .u32 a, .int .u32 b] w fun e w' => e = .returned (.int .i64 (cmpI a b)) ∧ w = w' := by
  go_enter Tryz.func64, Tryz.ntmps64
  go_wp2_with (go_at_call 90; refine (nan_u32 _ _).mono ?_; rintro e w' ⟨rfl, rfl⟩)
  all_goals go_ret
  all_goals (refine ⟨?_, rfl⟩; unfold cmpI; (repeat (first | rw [if_pos (by omega)] | rw [if_neg (by omega)])); rfl)
theorem subD_eq (x y c : Nat) (hx : x < 4294967296) (hy : y < 4294967296) (hc : c ≤ 1) : subD x y c + y + c = x + subB x y c * 4294967296 ∧ subD x y c < 4294967296 ∧ subB x y c ≤ 1 := by
  unfold subD subB; split <;> omega
def checkOf (ds : List Nat) : Nat := if 512 < ds.length then 11 else if (cut ds).length < ds.length then 2 else 0
set_option maxHeartbeats 400000 in
theorem check_any {v : Value} {ds : List Nat} {w : World} (hv : Nums .u32 w v ds) (hlen : ds.length ≤ 1000000) :
    Calls Tryz.prog 18 #[v] w fun e w' => e = .returned (.int .i64 (checkOf ds)) ∧ Below w.heap.size w w' := by
  have C := Lib.hid (trim_any hv hlen)
  obtain ⟨p, cap, rfl, hat⟩ := hv
  have hc := cut_le ds
  by_cases h1 : 512 < ds.length
  · have E : checkOf ds = 11 := by unfold checkOf; rw [if_pos h1]
    have E := Lib.hid E
    go_enter Tryz.func18, Tryz.ntmps18
    go_wp2
    go_ret
    exact ⟨ret_one (by rw [E.out]; rfl), Below.refl _ _⟩
  · by_cases h2 : (cut ds).length < ds.length
    · have E : checkOf ds = 2 := by unfold checkOf; rw [if_neg h1, if_pos h2]
      have E := Lib.hid E
      go_enter Tryz.func18, Tryz.ntmps18
      go_wp2_with (go_at_call 45; refine C.out.mono ?_; rintro e w' ⟨⟨v', rfl, p', cap', rfl, hat'⟩, hB⟩)
      go_ret
      exact ⟨ret_one (by rw [E.out]; rfl), hB⟩
    · have E : checkOf ds = 0 := by unfold checkOf; rw [if_neg h1, if_neg h2]
      have E := Lib.hid E
      have h2' : decide ((cut ds).length < ds.length) = false := by simpa using h2
      go_enter Tryz.func18, Tryz.ntmps18
      go_wp2_with (go_at_call 45; refine C.out.mono ?_; rintro e w' ⟨⟨v', rfl, p', cap', rfl, hat'⟩, hB⟩)
      go_ret
      exact ⟨ret_one (by rw [E.out]; rfl), hB⟩
def Fits (ds : List Nat) (w' : World) (v : Value) (c : Int) : Prop := (ds.length ≤ 512 → c = 0 ∧ Nums .u32 w' v ds) ∧ (512 < ds.length → v = .slice none 0 0 ∧ c = 11)
set_option maxHeartbeats 400000 in
theorem within_any {v : Value} {ds : List Nat} {w : World} (hv : Nums .u32 w v ds) (hlen : ds.length ≤ 1000000) :
    Calls Tryz.prog 82 #[v] w fun e w' => (∃ v c, e = .returned (.tuple #[v, .int .i64 c]) ∧ Fits (cut ds) w' v c) ∧ Below w.heap.size w w' := by
  have C := Lib.hid (trim_any hv hlen)
  obtain ⟨p, cap, rfl, hat⟩ := hv
  have hc := cut_le ds
  by_cases h1 : 512 < (cut ds).length
  · go_enter Tryz.func82, Tryz.ntmps82
    go_wp2_with (go_at_call 45; refine C.out.mono ?_; rintro e w' ⟨⟨v', rfl, p', cap', rfl, hat'⟩, hB⟩)
    go_ret2
    exact ⟨⟨_, _, rfl, fun h => by omega, fun _ => ⟨rfl, rfl⟩⟩, hB⟩
  · go_enter Tryz.func82, Tryz.ntmps82
    go_wp2_with (go_at_call 45; refine C.out.mono ?_; rintro e w' ⟨⟨v', rfl, p', cap', rfl, hat'⟩, hB⟩)
    go_ret2
    exact ⟨⟨_, _, rfl, fun _ => ⟨rfl, _, _, rfl, hat'⟩, fun h => by omega⟩, hB⟩
set_option maxRecDepth 100000 in
set_option maxHeartbeats 400000 in
theorem of_any (n : Nat) (w : World) (hn : n < 18446744073709551616) :
    Calls Tryz.prog 28 #[.int .u64 n] w fun e w' => (∃ v, e = .returned v ∧ IsNat w' v n) ∧ Below w.heap.size w w' := by
  have h0 : (n : Int) < 18446744073709551616 := by omega
  go_enter Tryz.func28, Tryz.ntmps28
  have hnum : Nums .u32 (w.alloc (.cells #[.int .u32 ((n : Int) % 4294967296), .int .u32 ((n : Int) / 4294967296)] 88)) (.slice (some ⟨w.heap.size, 0, none⟩) 2 2) [n % 4294967296, n / 4294967296] :=
    nums_new .u32 w _ _ [n % 4294967296, n / 4294967296] 2 (by simp) fun j hj => by
      match j, hj with
      | 0, _ => rfl
      | 1, _ => rfl
  go_wp2_with (go_at_call 45; refine (trim_any hnum (by simp)).mono ?_; rintro e w' ⟨⟨v', rfl, hv'⟩, hB⟩)
  go_ret
  have hdig : Dig 4294967296 [n % 4294967296, n / 4294967296] := Dig.cons (Nat.mod_lt _ (by decide)) (Dig.cons (Nat.div_lt_of_lt_mul (by omega)) (fun _ h => by simp at h))
  refine ⟨⟨_, rfl, _, hv', can_cut hdig, ?_⟩, ((Below.refl _ w).alloc (Nat.le_refl _) _).trans (hB.mono (by simp))⟩
  rw [val_cut]
  simp only [val]
  omega
def bitsOf (ds : List Nat) : Nat := if ds = [] then 0 else (ds.length - 1) * 32 + Lib.bitLen (dg ds (ds.length - 1))
set_option maxRecDepth 100000 in
set_option maxHeartbeats 400000 in
theorem bits_any {v : Value} {ds : List Nat} {w : World} (hv : Nums .u32 w v ds) (hd : Can 4294967296 ds) (hlen : ds.length ≤ 1000000) :
    Calls Tryz.prog 19 #[v] w fun e w' => e = .returned (.int .i64 (bitsOf ds)) ∧ Below w.heap.size w w' := by
  have C := trim_any hv hlen
  rw [hd.2] at C
  have C := Lib.hid C
  obtain ⟨p, cap, rfl, hat⟩ := hv
  by_cases h0 : ds = []
  · subst h0
    go_enter Tryz.func19, Tryz.ntmps19
    go_wp2_with (go_at_call 45; refine C.out.mono ?_; rintro e w' ⟨⟨v', rfl, p', cap', rfl, hat'⟩, hB⟩)
    go_ret
    exact ⟨rfl, hB⟩
  · have hl : 0 < ds.length := List.length_pos_iff.2 h0
    have hz : (((ds.length : Nat) : Int) == 0) = false := by simp; omega
    obtain ⟨m, hm⟩ : ∃ m, ds.length = m + 1 := ⟨ds.length - 1, by omega⟩
    have E : bitsOf ds = m * 32 + Lib.bitLen (dg ds m) := by unfold bitsOf; rw [if_neg h0, hm]; rfl
    have hx : dg ds m < 4294967296 := hd.1.dg (by decide) m
    have hbl := blen_le _ hx
    have E := Lib.hid E
    have Hm := Lib.hid hm
    have L := Lib.hid (fun W => len32 (dg ds m) W hx)
    have hm1 : m < 1000000 := by omega
    rw [hm] at hz
    clear hm h0 hlen
    go_enter Tryz.func19, Tryz.ntmps19
    go_wp2_with (first
      | (go_at_call 45; refine C.out.mono ?_; rintro e w' ⟨⟨v', rfl, p', cap', rfl, hat'⟩, hB⟩; rw [Hm.out]; obtain ⟨b', off', rfl, hcap', hb', hc'⟩ := hat'.pos hl; have hcm := hc' m (by have := Hm.out; omega); clear hc')
      | (go_at_call 46; refine (L.out _).mono ?_; rintro e w' ⟨rfl, rfl⟩))
    go_ret
    exact ⟨ret_one (by rw [E.out]; show Value.int .i64 _ = Value.int .i64 _; congr 1), hB⟩
end Go.Proofs.YtcfgefbkeeedgaaGreat
