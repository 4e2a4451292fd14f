/-
  limbs: Check, within, Of, Bits: what each call answers.
-/
import Derived.Test.YtphhaaofkckobaaTrim
import Derived.Test.YtphhaaofkckobaaBits
namespace Go.Proofs.Ytphhaaofkckobaa
open Go.RowKit

/-- What Check tells of digits. -/
def checkOf (ds : List Nat) : Nat := if 512 < ds.length then 11 else if (cut ds).length < ds.length then 2 else 0

set_option maxHeartbeats 400000 in
theorem check_any {v : Value} {ds : List Nat} {w : World} (hv : Nums .u32 w v ds) (hlen : ds.length ≤ 1000000) :
    Calls Try.prog 11 #[v] w fun e w' => e = .returned (.int .i64 (checkOf ds)) ∧ Below w.heap.size w w' := by
  have C := Lib.hid (trim_any hv hlen)
  obtain ⟨p, cap, rfl, hat⟩ := hv
  have hc := cut_le ds
  by_cases h1 : 512 < ds.length
  · have E : checkOf ds = 11 := by unfold checkOf; rw [if_pos h1]
    have E := Lib.hid E
    go_enter Try.func11, Try.ntmps11
    go_wp2
    go_ret
    exact ⟨ret_one (by rw [E.out]; rfl), Below.refl _ _⟩
  · by_cases h2 : (cut ds).length < ds.length
    · have E : checkOf ds = 2 := by unfold checkOf; rw [if_neg h1, if_pos h2]
      have E := Lib.hid E
      go_enter Try.func11, Try.ntmps11
      go_wp2_with (go_at_call 30; refine C.out.mono ?_; rintro e w' ⟨⟨v', rfl, p', cap', rfl, hat'⟩, hB⟩)
      go_ret
      exact ⟨ret_one (by rw [E.out]; rfl), hB⟩
    · have E : checkOf ds = 0 := by unfold checkOf; rw [if_neg h1, if_neg h2]
      have E := Lib.hid E
      have h2' : decide ((cut ds).length < ds.length) = false := by simpa using h2
      go_enter Try.func11, Try.ntmps11
      go_wp2_with (go_at_call 30; refine C.out.mono ?_; rintro e w' ⟨⟨v', rfl, p', cap', rfl, hat'⟩, hB⟩)
      go_ret
      exact ⟨ret_one (by rw [E.out]; rfl), hB⟩

/-- What a call that may be too great answers: the number, or that it is too great. -/
def Fits (ds : List Nat) (w' : World) (v : Value) (c : Int) : Prop := (ds.length ≤ 512 → c = 0 ∧ Nums .u32 w' v ds) ∧ (512 < ds.length → v = .slice none 0 0 ∧ c = 11)

set_option maxHeartbeats 400000 in
theorem within_any {v : Value} {ds : List Nat} {w : World} (hv : Nums .u32 w v ds) (hlen : ds.length ≤ 1000000) :
    Calls Try.prog 47 #[v] w fun e w' => (∃ v c, e = .returned (.tuple #[v, .int .i64 c]) ∧ Fits (cut ds) w' v c) ∧ Below w.heap.size w w' := by
  have C := Lib.hid (trim_any hv hlen)
  obtain ⟨p, cap, rfl, hat⟩ := hv
  have hc := cut_le ds
  by_cases h1 : 512 < (cut ds).length
  · go_enter Try.func47, Try.ntmps47
    go_wp2_with (go_at_call 30; refine C.out.mono ?_; rintro e w' ⟨⟨v', rfl, p', cap', rfl, hat'⟩, hB⟩)
    go_ret2
    exact ⟨⟨_, _, rfl, fun h => by omega, fun _ => ⟨rfl, rfl⟩⟩, hB⟩
  · go_enter Try.func47, Try.ntmps47
    go_wp2_with (go_at_call 30; refine C.out.mono ?_; rintro e w' ⟨⟨v', rfl, p', cap', rfl, hat'⟩, hB⟩)
    go_ret2
    exact ⟨⟨_, _, rfl, fun _ => ⟨rfl, _, _, rfl, hat'⟩, fun h => by omega⟩, hB⟩

set_option maxRecDepth 100000 in
set_option maxHeartbeats 400000 in
theorem of_any (n : Nat) (w : World) (hn : n < 18446744073709551616) :
    Calls Try.prog 25 #[.int .u64 n] w fun e w' => (∃ v, e = .returned v ∧ IsNat w' v n) ∧ Below w.heap.size w w' := by
  have h0 : (n : Int) < 18446744073709551616 := by omega
  go_enter Try.func25, Try.ntmps25
  have hnum : Nums .u32 (w.alloc (.cells #[.int .u32 ((n : Int) % 4294967296), .int .u32 ((n : Int) / 4294967296)] 36)) (.slice (some ⟨w.heap.size, 0, none⟩) 2 2) [n % 4294967296, n / 4294967296] :=
    nums_new .u32 w _ _ [n % 4294967296, n / 4294967296] 2 (by simp) fun j hj => by
      match j, hj with
      | 0, _ => rfl
      | 1, _ => rfl
  go_wp2_with (go_at_call 30; refine (trim_any hnum (by simp)).mono ?_; rintro e w' ⟨⟨v', rfl, hv'⟩, hB⟩)
  go_ret
  have hdig : Dig 4294967296 [n % 4294967296, n / 4294967296] := Dig.cons (Nat.mod_lt _ (by decide)) (Dig.cons (Nat.div_lt_of_lt_mul (by omega)) (fun _ h => by simp at h))
  refine ⟨⟨_, rfl, _, hv', can_cut hdig, ?_⟩, ((Below.refl _ w).alloc (Nat.le_refl _) _).trans (hB.mono (by simp))⟩
  rw [val_cut]
  simp only [val]
  omega

/-- The places of a number's highest bit. -/
def bitsOf (ds : List Nat) : Nat := if ds = [] then 0 else (ds.length - 1) * 32 + Lib.bitLen (dg ds (ds.length - 1))

set_option maxRecDepth 100000 in
set_option maxHeartbeats 400000 in
theorem bits_any {v : Value} {ds : List Nat} {w : World} (hv : Nums .u32 w v ds) (hd : Can 4294967296 ds) (hlen : ds.length ≤ 1000000) :
    Calls Try.prog 31 #[v] w fun e w' => e = .returned (.int .i64 (bitsOf ds)) ∧ Below w.heap.size w w' := by
  have C := trim_any hv hlen
  rw [hd.2] at C
  have C := Lib.hid C
  obtain ⟨p, cap, rfl, hat⟩ := hv
  by_cases h0 : ds = []
  · subst h0
    go_enter Try.func31, Try.ntmps31
    go_wp2_with (go_at_call 30; refine C.out.mono ?_; rintro e w' ⟨⟨v', rfl, p', cap', rfl, hat'⟩, hB⟩)
    go_ret
    exact ⟨rfl, hB⟩
  · have hl : 0 < ds.length := List.length_pos_iff.2 h0
    have hz : (((ds.length : Nat) : Int) == 0) = false := by simp; omega
    obtain ⟨m, hm⟩ : ∃ m, ds.length = m + 1 := ⟨ds.length - 1, by omega⟩
    have E : bitsOf ds = m * 32 + Lib.bitLen (dg ds m) := by unfold bitsOf; rw [if_neg h0, hm]; rfl
    have hx : dg ds m < 4294967296 := hd.1.dg (by decide) m
    have hbl := blen_le _ hx
    have E := Lib.hid E
    have Hm := Lib.hid hm
    have L := Lib.hid (fun W => len32 (dg ds m) W hx)
    have hm1 : m < 1000000 := by omega
    rw [hm] at hz
    clear hm h0 hlen
    go_enter Try.func31, Try.ntmps31
    go_wp2_with (first
      | (go_at_call 30; refine C.out.mono ?_; rintro e w' ⟨⟨v', rfl, p', cap', rfl, hat'⟩, hB⟩; rw [Hm.out]; obtain ⟨b', off', rfl, hcap', hb', hc'⟩ := hat'.pos hl; have hcm := hc' m (by have := Hm.out; omega); clear hc')
      | (go_at_call 57; refine (L.out _).mono ?_; rintro e w' ⟨rfl, rfl⟩))
    go_ret
    exact ⟨ret_one (by rw [E.out]; show Value.int .i64 _ = Value.int .i64 _; congr 1), hB⟩

end Go.Proofs.Ytphhaaofkckobaa
