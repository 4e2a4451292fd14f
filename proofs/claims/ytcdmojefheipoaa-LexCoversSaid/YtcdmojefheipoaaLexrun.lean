/-
  lex.among's closure, lex.run.
-/
import Derived.Test.YtcdmojefheipoaaPos
import Derived.Test.YtcdmojefheipoaaSt
namespace Go.Proofs.Ytcdmojefheipoaa
open Go.RowKit

/-- A byte is one of a text's. -/
def inB (sort : ByteArray) (c : Nat) : Bool := decide (0 ≤ posI c (bs sort))
/-- How many signs at a list's beginning meet a test. -/
def cnt (f : Nat → Bool) : List Nat → Nat
  | [] => 0
  | c :: l => if f c = true then cnt f l + 1 else 0
theorem cnt_le (f : Nat → Bool) : ∀ l, cnt f l ≤ l.length
  | [] => Nat.le_refl _
  | c :: l => by unfold cnt; split <;> simp; exact cnt_le f l
theorem cnt_is {f : Nat → Bool} : ∀ {l : List Nat} {k : Nat}, k ≤ l.length → (∀ j, j < k → f (dg l j) = true) → (k = l.length ∨ f (dg l k) = false) → cnt f l = k
  | [], k, h, _, _ => by simp at h; simp [cnt, h]
  | c :: l, 0, _, _, h3 => by
    rcases h3 with h3 | h3
    · simp at h3
    · have : f c = false := h3
      unfold cnt; rw [if_neg (by rw [this]; decide)]
  | c :: l, k + 1, h1, h2, h3 => by
    have h0 : f c = true := h2 0 (by omega)
    unfold cnt
    rw [if_pos h0, cnt_is (l := l) (k := k) (by simpa using h1) (fun j hj => h2 (j + 1) (by omega)) (by
      rcases h3 with h3 | h3
      · exact .inl (by simpa using h3)
      · exact .inr h3)]

set_option maxRecDepth 100000 in
theorem sindexbyte_any (s : ByteArray) (c : UInt8) (w : World) (z : Int) (hz : posI c.toNat (bs s) = z) :
    Calls Try.prog 38 #[.string s, .int .u8 c.toNat] w fun e w' => e = .returned (.int .i64 z) ∧ w' = w := by
  have H := Lib.hid (sidxbyte_any s c w z hz)
  clear hz
  go_enter Try.func38, Try.ntmps38
  go_wp2_with (go_at_call 40; refine H.out.mono ?_; rintro e w1 ⟨rfl, rfl⟩)
  go_ret
  exact ⟨rfl, rfl⟩
set_option maxRecDepth 100000 in
theorem among_fn (g : Nat) (sort : ByteArray) (c : UInt8) (w : World) (hg : w.cell? ⟨g, 0, none⟩ = some (.string sort)) (b : Bool) (hb : inB sort c.toNat = b) :
    Calls Try.prog 37 #[.int .u8 c.toNat, .pointer (some ⟨g, 0, none⟩)] w fun e w' => e = .returned (.bool b) ∧ w' = w := by
  have H := Lib.hid (sindexbyte_any sort c w _ rfl)
  have HB := Lib.hid hb
  clear hb
  go_enter Try.func37, Try.ntmps37
  go_wp2_with (go_at_call 38; refine H.out.mono ?_; rintro e w1 ⟨rfl, rfl⟩)
  go_ret
  first | exact ⟨rfl, rfl⟩ | (refine ⟨?_, rfl⟩; rw [← HB.out]; rfl)
set_option maxRecDepth 100000 in
theorem line_fn (c : UInt8) (w : World) (b : Bool) (hb : (!decide (c.toNat = 10)) = b) :
    Calls Try.prog 30 #[.int .u8 c.toNat] w fun e w' => e = .returned (.bool b) ∧ w' = w := by
  have hx : ((c.toNat : Int) != 10) = b := by
    rw [← hb]
    by_cases h : c.toNat = 10
    · simp [h]
    · have : ¬ (c.toNat : Int) = 10 := by omega
      simp [h, this]
  clear hb
  go_enter Try.func30, Try.ntmps30
  go_wp2
  go_ret
  first | exact ⟨rfl, rfl⟩ | exact ⟨by rw [hx], rfl⟩

set_option maxRecDepth 100000 in
set_option maxHeartbeats 1000000 in
theorem run_among (s : ByteArray) (w : World) (g : Nat) (sort : ByteArray) (hg : w.cell? ⟨g, 0, none⟩ = some (.string sort)) (hs : s.size ≤ 100000) :
    Calls Try.prog 28 #[.string s, .func (.func 37) #[] #[.pointer (some ⟨g, 0, none⟩)]] w fun e w' => e = .returned (.int .i64 (cnt (inB sort) (bs s) : Nat)) ∧ Below w.heap.size w w' := by
  have HG := Lib.hid hg
  clear hg
  have S := St.start w
  go_enter Try.func28, Try.ntmps28
  go_wp2
  go_loopw [5] (fun si wr => ∃ k : Nat, k ≤ s.size ∧ si = .int .i64 k ∧ Hid (∀ j, j < k → (inB sort) (dg (bs s) j) = true) ∧ St w wr []) (fun si _ => s.size - (intOf si).toNat)
  case atStart => exact ⟨0, by omega, rfl, fun j hj => by omega, S⟩
  case round =>
    obtain ⟨k, hk, rfl, hz, S⟩ := hrel
    by_cases hlt : k < s.size
    · have hki : (k : Int) < (s.size : Int) := by omega
      have hk0 : (0 : Int) ≤ (k : Int) := by omega
      have hget := bs_get s k hlt
      obtain ⟨b, hb⟩ : ∃ b, (inB sort) (s[k]'hlt).toNat = b := ⟨_, rfl⟩
      have H := Lib.hid (among_fn g sort (s[k]'hlt) wr ((S.below.cell (p := ⟨g, 0, none⟩) (World.block_lt_of_cell? w _ HG.out)).trans HG.out) b hb)
      rw [← hget] at hb
      have HB := Lib.hid hb
      have HL := Lib.hid hlt
      clear hb hget
      cases b with
      | true =>
        go_wp2_with (go_at_call 37; refine H.out.mono ?_; rintro e w1 ⟨rfl, rfl⟩)
        go_roundw
        case rel =>
          refine ⟨k + 1, by omega, by go_num, fun j hj => ?_, S⟩
          by_cases hjk : j = k
          · rw [hjk]; exact HB.out
          · exact hz.out j (by omega)
        case measure => have := HL.out; simp [intOf]; omega
      | false =>
        have HC := Lib.hid (cnt_is (f := inB sort) (l := bs s) (by rw [bs_len]; exact hk) hz.out (.inr HB.out))
        go_wp2_with (go_at_call 37; refine H.out.mono ?_; rintro e w1 ⟨rfl, rfl⟩)
        go_ret
        exact ⟨by rw [HC.out]; rfl, S.below⟩
    · have hki : ¬ (k : Int) < (s.size : Int) := by omega
      have HC := Lib.hid (cnt_is (f := inB sort) (l := bs s) (by rw [bs_len]; exact hk) hz.out (.inl (by rw [bs_len]; omega)))
      clear hlt
      go_wp2
      go_ret
      exact ⟨by rw [HC.out]; rfl, S.below⟩

set_option maxRecDepth 100000 in
set_option maxHeartbeats 1000000 in
theorem run_line (s : ByteArray) (w : World) (hs : s.size ≤ 100000) :
    Calls Try.prog 28 #[.string s, .func (.func 30) #[] #[]] w fun e w' => e = .returned (.int .i64 (cnt (fun c => !decide (c = 10)) (bs s) : Nat)) ∧ Below w.heap.size w w' := by
  have S := St.start w
  go_enter Try.func28, Try.ntmps28
  go_wp2
  go_loopw [5] (fun si wr => ∃ k : Nat, k ≤ s.size ∧ si = .int .i64 k ∧ Hid (∀ j, j < k → (fun c => !decide (c = 10)) (dg (bs s) j) = true) ∧ St w wr []) (fun si _ => s.size - (intOf si).toNat)
  case atStart => exact ⟨0, by omega, rfl, fun j hj => by omega, S⟩
  case round =>
    obtain ⟨k, hk, rfl, hz, S⟩ := hrel
    by_cases hlt : k < s.size
    · have hki : (k : Int) < (s.size : Int) := by omega
      have hk0 : (0 : Int) ≤ (k : Int) := by omega
      have hget := bs_get s k hlt
      obtain ⟨b, hb⟩ : ∃ b, (fun c => !decide (c = 10)) (s[k]'hlt).toNat = b := ⟨_, rfl⟩
      have H := Lib.hid (line_fn (s[k]'hlt) wr b hb)
      rw [← hget] at hb
      have HB := Lib.hid hb
      have HL := Lib.hid hlt
      clear hb hget
      cases b with
      | true =>
        go_wp2_with (go_at_call 30; refine H.out.mono ?_; rintro e w1 ⟨rfl, rfl⟩)
        go_roundw
        case rel =>
          refine ⟨k + 1, by omega, by go_num, fun j hj => ?_, S⟩
          by_cases hjk : j = k
          · rw [hjk]; exact HB.out
          · exact hz.out j (by omega)
        case measure => have := HL.out; simp [intOf]; omega
      | false =>
        have HC := Lib.hid (cnt_is (f := fun c => !decide (c = 10)) (l := bs s) (by rw [bs_len]; exact hk) hz.out (.inr HB.out))
        go_wp2_with (go_at_call 30; refine H.out.mono ?_; rintro e w1 ⟨rfl, rfl⟩)
        go_ret
        exact ⟨by rw [HC.out]; rfl, S.below⟩
    · have hki : ¬ (k : Int) < (s.size : Int) := by omega
      have HC := Lib.hid (cnt_is (f := fun c => !decide (c = 10)) (l := bs s) (by rw [bs_len]; exact hk) hz.out (.inl (by rw [bs_len]; omega)))
      clear hlt
      go_wp2
      go_ret
      exact ⟨by rw [HC.out]; rfl, S.below⟩

end Go.Proofs.Ytcdmojefheipoaa
