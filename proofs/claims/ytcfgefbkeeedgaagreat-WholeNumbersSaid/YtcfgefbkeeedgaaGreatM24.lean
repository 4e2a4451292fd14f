/-
  What the statement stands on.
-/
import Derived.Test.YtcfgefbkeeedgaaGreatM06
import Derived.Test.YtcfgefbkeeedgaaGreatM23
namespace Go.Proofs.YtcfgefbkeeedgaaGreat
open Go.RowKit
def inB (sort : ByteArray) (c : Nat) : Bool := decide (0 ≤ posI c (bs sort))
def cnt (f : Nat → Bool) : List Nat → Nat
  | [] => 0
  | c :: l => if f c = true then cnt f l + 1 else 0
theorem cnt_le (f : Nat → Bool) : ∀ l, cnt f l ≤ l.length
  | [] => Nat.le_refl _
  | c :: l => by unfold cnt; split <;> simp; exact cnt_le f l
theorem cnt_is {f : Nat → Bool} : ∀ {l : List Nat} {k : Nat}, k ≤ l.length → (∀ j, j < k → f (dg l j) = true) → (k = l.length ∨ f (dg l k) = false) → cnt f l = k
  | [], k, h, _, _ => by simp at h; simp [cnt, h]
  | c :: l, 0, _, _, h3 => by
    rcases h3 with h3 | h3
    · simp at h3
    · have : f c = false := h3
      unfold cnt; rw [if_neg (by rw [this]; decide)]
  | c :: l, k + 1, h1, h2, h3 => by
    have h0 : f c = true := h2 0 (by omega)
    unfold cnt
    rw [if_pos h0, cnt_is (l := l) (k := k) (by simpa using h1) (fun j hj => h2 (j + 1) (by omega)) (by
      rcases h3 with h3 | h3
      · exact .inl (by simpa using h3)
      · exact .inr h3)]
set_option maxRecDepth 100000 in
theorem sindexbyte_any (s : ByteArray) (c : UInt8) (w : World) (z : Int) (hz : posI c.toNat (bs s) = z) :
    Calls Tryz.prog 76 #[.string s, .int .u8 c.toNat] w fun e w' => e = .returned (.int .i64 z) ∧ w' = w := by
  have H := Lib.hid (sidxbyte_any s c w z hz)
  clear hz
  go_enter Tryz.func76, Tryz.ntmps76
  go_wp2_with (go_at_call 97; refine H.out.mono ?_; rintro e w1 ⟨rfl, rfl⟩)
  go_ret
  exact ⟨rfl, rfl⟩
set_option maxRecDepth 100000 in
theorem among_fn (g : Nat) (sort : ByteArray) (c : UInt8) (w : World) (hg : w.cell? ⟨g, 0, none⟩ = some (.string sort)) (b : Bool) (hb : inB sort c.toNat = b) :
    Calls Tryz.prog 75 #[.int .u8 c.toNat, .pointer (some ⟨g, 0, none⟩)] w fun e w' => e = .returned (.bool b) ∧ w' = w := by
  have H := Lib.hid (sindexbyte_any sort c w _ rfl)
  have HB := Lib.hid hb
  clear hb
  go_enter Tryz.func75, Tryz.ntmps75
  go_wp2_with (go_at_call 76; refine H.out.mono ?_; rintro e w1 ⟨rfl, rfl⟩)
  go_ret
  first | exact ⟨rfl, rfl⟩ | (refine ⟨?_, rfl⟩; rw [← HB.out]; rfl)
set_option maxRecDepth 100000 in
theorem line_fn (c : UInt8) (w : World) (b : Bool) (hb : (!decide (c.toNat = 10)) = b) :
    Calls Tryz.prog 41 #[.int .u8 c.toNat] w fun e w' => e = .returned (.bool b) ∧ w' = w := by
  have hx : ((c.toNat : Int) != 10) = b := by
    rw [← hb]
    by_cases h : c.toNat = 10
    · simp [h]
    · have : ¬ (c.toNat : Int) = 10 := by omega
      simp [h, this]
  clear hb
  go_enter Tryz.func41, Tryz.ntmps41
  go_wp2
  go_ret
  first | exact ⟨rfl, rfl⟩ | exact ⟨by rw [hx], rfl⟩
set_option maxRecDepth 100000 in
set_option maxHeartbeats 1000000 in
theorem run_among (s : ByteArray) (w : World) (g : Nat) (sort : ByteArray) (hg : w.cell? ⟨g, 0, none⟩ = some (.string sort)) (hs : s.size ≤ 100000) :
    Calls Tryz.prog 38 #[.string s, .func (.func 75) #[] #[.pointer (some ⟨g, 0, none⟩)]] w fun e w' => e = .returned (.int .i64 (cnt (inB sort) (bs s) : Nat)) ∧ Below w.heap.size w w' := by
  have HG := Lib.hid hg
  clear hg
  have S := St.start w
  go_enter Tryz.func38, Tryz.ntmps38
  go_wp2
  go_loopw [5] (fun si wr => ∃ k : Nat, k ≤ s.size ∧ si = .int .i64 k ∧ Hid (∀ j, j < k → (inB sort) (dg (bs s) j) = true) ∧ St w wr []) (fun si _ => s.size - (intOf si).toNat)
  case atStart => exact ⟨0, by omega, rfl, fun j hj => by omega, S⟩
  case round =>
    obtain ⟨k, hk, rfl, hz, S⟩ := hrel
    by_cases hlt : k < s.size
    · have hki : (k : Int) < (s.size : Int) := by omega
      have hk0 : (0 : Int) ≤ (k : Int) := by omega
      have hget := bs_get s k hlt
      obtain ⟨b, hb⟩ : ∃ b, (inB sort) (s[k]'hlt).toNat = b := ⟨_, rfl⟩
      have H := Lib.hid (among_fn g sort (s[k]'hlt) wr ((S.below.cell (p := ⟨g, 0, none⟩) (World.block_lt_of_cell? w _ HG.out)).trans HG.out) b hb)
      rw [← hget] at hb
      have HB := Lib.hid hb
      have HL := Lib.hid hlt
      clear hb hget
      cases b with
      | true =>
        go_wp2_with (go_at_call 75; refine H.out.mono ?_; rintro e w1 ⟨rfl, rfl⟩)
        go_roundw
        case rel =>
          refine ⟨k + 1, by omega, by go_num, fun j hj => ?_, S⟩
          by_cases hjk : j = k
          · rw [hjk]; exact HB.out
          · exact hz.out j (by omega)
        case measure => have := HL.out; simp [intOf]; omega
      | false =>
        have HC := Lib.hid (cnt_is (f := inB sort) (l := bs s) (by rw [bs_len]; exact hk) hz.out (.inr HB.out))
        go_wp2_with (go_at_call 75; refine H.out.mono ?_; rintro e w1 ⟨rfl, rfl⟩)
        go_ret
        exact ⟨by rw [HC.out]; rfl, S.below⟩
    · have hki : ¬ (k : Int) < (s.size : Int) := by omega
      have HC := Lib.hid (cnt_is (f := inB sort) (l := bs s) (by rw [bs_len]; exact hk) hz.out (.inl (by rw [bs_len]; omega)))
      clear hlt
      go_wp2
      go_ret
      exact ⟨by rw [HC.out]; rfl, S.below⟩
set_option maxRecDepth 100000 in
set_option maxHeartbeats 1000000 in
theorem run_line (s : ByteArray) (w : World) (hs : s.size ≤ 100000) :
    Calls Tryz.prog 38 #[.string s, .func (.func 41) #[] #[]] w fun e w' => e = .returned (.int .i64 (cnt (fun c => !decide (c = 10)) (bs s) : Nat)) ∧ Below w.heap.size w w' := by
  have S := St.start w
  go_enter Tryz.func38, Tryz.ntmps38
  go_wp2
  go_loopw [5] (fun si wr => ∃ k : Nat, k ≤ s.size ∧ si = .int .i64 k ∧ Hid (∀ j, j < k → (fun c => !decide (c = 10)) (dg (bs s) j) = true) ∧ St w wr []) (fun si _ => s.size - (intOf si).toNat)
  case atStart => exact ⟨0, by omega, rfl, fun j hj => by omega, S⟩
  case round =>
    obtain ⟨k, hk, rfl, hz, S⟩ := hrel
    by_cases hlt : k < s.size
    · have hki : (k : Int) < (s.size : Int) := by omega
      have hk0 : (0 : Int) ≤ (k : Int) := by omega
      have hget := bs_get s k hlt
      obtain ⟨b, hb⟩ : ∃ b, (fun c => !decide (c = 10)) (s[k]'hlt).toNat = b := ⟨_, rfl⟩
      have H := Lib.hid (line_fn (s[k]'hlt) wr b hb)
      rw [← hget] at hb
      have HB := Lib.hid hb
      have HL := Lib.hid hlt
      clear hb hget
      cases b with
      | true =>
        go_wp2_with (go_at_call 41; refine H.out.mono ?_; rintro e w1 ⟨rfl, rfl⟩)
        go_roundw
        case rel =>
          refine ⟨k + 1, by omega, by go_num, fun j hj => ?_, S⟩
          by_cases hjk : j = k
          · rw [hjk]; exact HB.out
          · exact hz.out j (by omega)
        case measure => have := HL.out; simp [intOf]; omega
      | false =>
        have HC := Lib.hid (cnt_is (f := fun c => !decide (c = 10)) (l := bs s) (by rw [bs_len]; exact hk) hz.out (.inr HB.out))
        go_wp2_with (go_at_call 41; refine H.out.mono ?_; rintro e w1 ⟨rfl, rfl⟩)
        go_ret
        exact ⟨by rw [HC.out]; rfl, S.below⟩
    · have hki : ¬ (k : Int) < (s.size : Int) := by omega
      have HC := Lib.hid (cnt_is (f := fun c => !decide (c = 10)) (l := bs s) (by rw [bs_len]; exact hk) hz.out (.inl (by rw [bs_len]; omega)))
      clear hlt
      go_wp2
      go_ret
      exact ⟨by rw [HC.out]; rfl, S.below⟩
theorem wrap_num {z : Int} (h0 : -9223372036854775808 ≤ z) (h1 : z ≤ 9223372036854775807) : IntKind.i64.wrap z = z := by
  rw [show ∀ y, IntKind.i64.wrap y = (y + 9223372036854775808) % 18446744073709551616 - 9223372036854775808 from fun y => by simp [IntKind.wrap, IntKind.bits, IntKind.signed]; omega]
  omega
theorem bs_cut (s : ByteArray) (a b : Nat) : bs (s.extract a b) = ((bs s).drop a).take (b - a) := by
  unfold bs
  rw [← Lib.toList_data, Lib.extract_toList]
  simp [List.map_drop, List.map_take, List.drop_take]
theorem bs_drop (s : ByteArray) (a : Nat) : bs (s.extract a s.size) = (bs s).drop a := by
  rw [bs_cut, List.take_of_length_le]
  rw [List.length_drop, bs_len]; exact Nat.le_refl _
theorem list_bs (s p : ByteArray) : (s.toList == p.toList) = decide (bs s = bs p) := by
  rw [Bool.eq_iff_iff]
  simp only [beq_iff_eq, decide_eq_true_eq]
  constructor
  · intro h
    unfold bs
    rw [← Lib.toList_data, ← Lib.toList_data, h]
  · intro h
    rw [bs_inj h]
set_option maxRecDepth 100000 in
theorem hasPreIn_any (s p : ByteArray) (w : World) (b : Bool) (h : decide ((bs s).take p.size = bs p) = b) :
    Calls Tryz.prog 77 #[.string s, .string p] w fun e w' => e = .returned (.bool b) ∧ w' = w := by
  by_cases h0 : p.size ≤ s.size
  · have h1 : (p.size : Int) ≤ (s.size : Int) := by omega
    have h2 : (0 : Int) ≤ (p.size : Int) := by omega
    have hd : ((s.extract 0 p.size).toList == p.toList) = b := by
      rw [list_bs, bs_cut, List.drop_zero, Nat.sub_zero]; exact h
    clear h
    go_enter Tryz.func77, Tryz.ntmps77
    go_wp2
    go_ret
    first | exact ⟨rfl, rfl⟩ | exact ⟨by rw [hd], rfl⟩
  · have h1 : ¬ (p.size : Int) ≤ (s.size : Int) := by omega
    have hb : b = false := by
      rw [← h]
      refine decide_eq_false fun e => ?_
      have := congrArg List.length e
      rw [List.length_take, bs_len, bs_len] at this
      omega
    subst hb
    clear h h0
    go_enter Tryz.func77, Tryz.ntmps77
    go_wp2
    go_ret
    exact ⟨rfl, rfl⟩
set_option maxRecDepth 100000 in
theorem hasPre_any (s p : ByteArray) (w : World) (b : Bool) (h : decide ((bs s).take p.size = bs p) = b) :
    Calls Tryz.prog 40 #[.string s, .string p] w fun e w' => e = .returned (.bool b) ∧ w' = w := by
  have H := Lib.hid (hasPreIn_any s p w b h)
  clear h
  go_enter Tryz.func40, Tryz.ntmps40
  go_wp2_with (go_at_call 77; refine H.out.mono ?_; rintro e w1 ⟨rfl, rfl⟩)
  go_ret
  exact ⟨rfl, rfl⟩
set_option maxRecDepth 100000 in
theorem among_any (sort : ByteArray) (w : World) :
    Calls Tryz.prog 39 #[.string sort] w fun e w' => e = .returned (.func (.func 75) #[] #[.pointer (some ⟨w.heap.size, 0, none⟩)]) ∧ w' = w.alloc (.cells #[.string sort] 9) := by
  have hmf : ∀ (fn : Fn) (first cap : Array Value) (w : World), (Instr.makeFunc fn first cap).run Tryz.prog w = .ok (.func fn first cap) w := fun _ _ _ _ => rfl
  go_enter Tryz.func39, Tryz.ntmps39
  go_wp2
  go_ret
  exact ⟨rfl, rfl⟩
def blanksT : ByteArray := ⟨#[32, 9, 13]⟩
def digitsT : ByteArray := ⟨#[48, 49, 50, 51, 52, 53, 54, 55, 56, 57]⟩
def signsT : ByteArray := ⟨#[91, 93, 44, 59, 43, 61]⟩
def lettersT : ByteArray := ⟨#[97, 98, 99, 100, 101, 102, 103, 104, 105, 106, 107, 108, 109, 110, 111, 112, 113, 114, 115, 116, 117, 118, 119, 120, 121, 122, 65, 66, 67, 68, 69, 70, 71, 72, 73, 74, 75, 76, 77, 78, 79, 80, 81, 82, 83, 84, 85, 86, 87, 88, 89, 90]⟩
def leftL (l : List Nat) : Nat := if (l.drop (cnt (inB blanksT) l)).take 1 = [35] then cnt (inB blanksT) l + cnt (fun c => !decide (c = 10)) (l.drop (cnt (inB blanksT) l)) else cnt (inB blanksT) l
theorem leftL_le (l : List Nat) : leftL l ≤ l.length := by
  have h1 := cnt_le (inB blanksT) l
  have h2 := cnt_le (fun c => !decide (c = 10)) (l.drop (cnt (inB blanksT) l))
  rw [List.length_drop] at h2
  unfold leftL
  split <;> omega
set_option maxRecDepth 100000 in
set_option maxHeartbeats 1000000 in
theorem leftOut_any (s : ByteArray) (w : World) (hs : s.size ≤ 100000) :
    Calls Tryz.prog 12 #[.string s] w fun e w' => e = .returned (.int .i64 (leftL (bs s) : Nat)) ∧ Below w.heap.size w w' := by
  have S := (St.start w).alloc 9 [.string blanksT] (w.heap.size)
  have hg := S.c 0 0 rfl rfl
  obtain ⟨a, ha⟩ : ∃ a, cnt (inB blanksT) (bs s) = a := ⟨_, rfl⟩
  have hal : a ≤ s.size := by rw [← ha, ← bs_len]; exact cnt_le _ _
  have HA := Lib.hid (among_any blanksT w)
  have HR := Lib.hid (run_among s _ w.heap.size blanksT hg hs)
  rw [ha] at HR
  have c1 : (0 : Int) ≤ (a : Int) := by omega
  have c2 : (a : Int) ≤ (s.size : Int) := by omega
  have c3 : a ≤ s.size := hal
  by_cases hb : ((bs s).drop a).take 1 = [35]
  · obtain ⟨b, hbb⟩ : ∃ b, cnt (fun c => !decide (c = 10)) ((bs s).drop a) = b := ⟨_, rfl⟩
    have HL := Lib.hid (show leftL (bs s) = a + b by unfold leftL; rw [ha, if_pos hb, hbb])
    have HP := fun w => Lib.hid (hasPre_any (s.extract a s.size) ⟨#[35]⟩ w true (decide_eq_true (by rw [bs_drop]; exact hb)))
    have HS := fun w => Lib.hid (run_line (s.extract a s.size) w (by simp; omega))
    rw [bs_drop, hbb] at HS
    have hbl : b ≤ 100000 := by
      have := cnt_le (fun c => !decide (c = 10)) ((bs s).drop a)
      rw [hbb, List.length_drop, bs_len] at this
      omega
    clear hb hbb ha hal
    go_enter Tryz.func12, Tryz.ntmps12
    go_wp2_with fail
    refine HA.out.mono ?_
    rintro e w1 ⟨rfl, rfl⟩
    go_wp2_with fail
    refine HR.out.mono ?_
    rintro e w2 ⟨rfl, hB⟩
    replace S := S.to hB
    go_wp2_with (go_at_call 40; refine (HP _).out.mono ?_; rintro e w3 ⟨rfl, rfl⟩)
    refine (HS _).out.mono ?_
    rintro e w4 ⟨rfl, hB2⟩
    replace S := S.to hB2
    go_wp2
    go_ret
    refine ⟨by rw [HL.out]; rfl, S.below⟩
  · have HL := Lib.hid (show leftL (bs s) = a by unfold leftL; rw [ha, if_neg hb])
    have HP := fun w => Lib.hid (hasPre_any (s.extract a s.size) ⟨#[35]⟩ w false (decide_eq_false (by rw [bs_drop]; exact hb)))
    clear hb ha hal
    go_enter Tryz.func12, Tryz.ntmps12
    go_wp2_with fail
    refine HA.out.mono ?_
    rintro e w1 ⟨rfl, rfl⟩
    go_wp2_with fail
    refine HR.out.mono ?_
    rintro e w2 ⟨rfl, hB⟩
    replace S := S.to hB
    go_wp2_with (go_at_call 40; refine (HP _).out.mono ?_; rintro e w3 ⟨rfl, rfl⟩)
    go_ret
    exact ⟨by rw [HL.out]; rfl, S.below⟩
def numL (l : List Nat) (f : Nat) : Nat :=
  if cnt (inB digitsT) (l.drop f) = 0 then 0 else
  if f + cnt (inB digitsT) (l.drop f) = l.length then f + cnt (inB digitsT) (l.drop f) else
  if dg l (f + cnt (inB digitsT) (l.drop f)) ≠ 46 ∧ dg l (f + cnt (inB digitsT) (l.drop f)) ≠ 47 then f + cnt (inB digitsT) (l.drop f) else
  if cnt (inB digitsT) (l.drop (f + cnt (inB digitsT) (l.drop f) + 1)) = 0 then 0 else f + cnt (inB digitsT) (l.drop f) + 1 + cnt (inB digitsT) (l.drop (f + cnt (inB digitsT) (l.drop f) + 1))
set_option maxRecDepth 100000 in
set_option maxHeartbeats 4000000 in
theorem number_any (s : ByteArray) (f : Nat) (w : World) (hs : s.size ≤ 100000) (hf : f ≤ s.size) :
    Calls Tryz.prog 42 #[.string s, .int .i64 f] w fun e w' => e = .returned (.int .i64 (numL (bs s) f : Nat)) ∧ Below w.heap.size w w' := by
  have S := (St.start w).alloc 9 [.string digitsT] (w.heap.size)
  have hg := S.c 0 0 rfl rfl
  obtain ⟨a, ha⟩ : ∃ a, cnt (inB digitsT) ((bs s).drop f) = a := ⟨_, rfl⟩
  obtain ⟨n, hn⟩ : ∃ n, numL (bs s) f = n := ⟨_, rfl⟩
  obtain ⟨m, hm⟩ : ∃ m, f + a = m := ⟨_, rfl⟩
  have hms : m ≤ s.size := by
    have := cnt_le (inB digitsT) ((bs s).drop f)
    rw [List.length_drop, bs_len, ha] at this
    omega
  unfold numL at hn
  rw [ha, hm, bs_len] at hn
  rw [show numL (bs s) f = n by unfold numL; rw [ha, hm, bs_len]; exact hn]
  have hsl : (s.extract f s.size).size ≤ 100000 := by simp; omega
  have HA := Lib.hid (among_any digitsT w)
  have HR := Lib.hid (run_among (s.extract f s.size) _ w.heap.size digitsT hg hsl)
  rw [bs_drop, ha] at HR
  have c1 : (0 : Int) ≤ (f : Int) := by omega
  have c2 : (f : Int) ≤ (s.size : Int) := by omega
  have hadd : IntKind.i64.wrap ((f : Int) + (a : Int)) = (m : Int) := by
    have : (f : Int) + (a : Int) = (m : Int) := by omega
    rw [this]
    exact wrap_num (by omega) (by omega)
  by_cases h0 : a = 0
  · rw [if_pos h0] at hn
    subst hn
    have HZ := Lib.hid (And.intro hm h0)
    have hz : ((a : Int) == 0) = true := by rw [h0]; rfl
    clear h0 hm ha hms
    go_enter Tryz.func42, Tryz.ntmps42
    go_wp2_with fail
    refine HA.out.mono ?_
    rintro e w1 ⟨rfl, rfl⟩
    go_wp2_with fail
    refine HR.out.mono ?_
    rintro e w2 ⟨rfl, hB⟩
    replace S := S.to hB
    go_wp2
    go_ret
    exact ⟨rfl, S.below⟩
  rw [if_neg h0] at hn
  have hz : ((a : Int) == 0) = false := by
    rw [beq_eq_false_iff_ne]; omega
  clear h0
  by_cases h1 : m = s.size
  · rw [if_pos h1] at hn
    subst hn
    have hz1 : ((m : Int) == (s.size : Int)) = true := by rw [h1]; simp
    clear h1 hm ha hms
    go_enter Tryz.func42, Tryz.ntmps42
    go_wp2_with fail
    refine HA.out.mono ?_
    rintro e w1 ⟨rfl, rfl⟩
    go_wp2_with fail
    refine HR.out.mono ?_
    rintro e w2 ⟨rfl, hB⟩
    replace S := S.to hB
    go_wp2
    go_ret
    exact ⟨rfl, S.below⟩
  rw [if_neg h1] at hn
  have hlt : m < s.size := by omega
  have hz1 : ((m : Int) == (s.size : Int)) = false := by
    rw [beq_eq_false_iff_ne]; omega
  have k0 : (0 : Int) ≤ (m : Int) := by omega
  have k1 : (m : Int) < (s.size : Int) := by omega
  rw [bs_get s m hlt] at hn
  clear h1 hm ha hms
  obtain ⟨c, hc⟩ : ∃ c, (s[m]'hlt).toNat = c := ⟨_, rfl⟩
  rw [hc] at hn
  by_cases h2 : c ≠ 46 ∧ c ≠ 47
  · rw [if_pos h2] at hn
    subst hn
    have z1 : (((s[m]'hlt).toNat : Int) != 46) = true := by rw [hc]; simp; omega
    have z2 : (((s[m]'hlt).toNat : Int) != 47) = true := by rw [hc]; simp; omega
    clear h2 hc
    go_enter Tryz.func42, Tryz.ntmps42
    go_wp2_with fail
    refine HA.out.mono ?_
    rintro e w1 ⟨rfl, rfl⟩
    go_wp2_with fail
    refine HR.out.mono ?_
    rintro e w2 ⟨rfl, hB⟩
    replace S := S.to hB
    go_wp2
    go_ret
    exact ⟨rfl, S.below⟩
  rw [if_neg h2] at hn
  obtain ⟨b, hb⟩ : ∃ b, cnt (inB digitsT) ((bs s).drop (m + 1)) = b := ⟨_, rfl⟩
  rw [hb] at hn
  have hbl : b ≤ 100000 := by
    have := cnt_le (inB digitsT) ((bs s).drop (m + 1))
    rw [hb, List.length_drop, bs_len] at this
    omega
  have hsl2 : (s.extract (m + 1) s.size).size ≤ 100000 := by simp; omega
  have HS : ∀ w2 : World, w2.cell? ⟨w.heap.size, 0, none⟩ = some (.string digitsT) → _ := fun w2 hg2 => Lib.hid (run_among (s.extract (m + 1) s.size) w2 w.heap.size digitsT hg2 hsl2)
  rw [bs_drop, hb] at HS
  have hadd1 : IntKind.i64.wrap ((m : Int) + 1) = ((m + 1 : Nat) : Int) := by
    have : (m : Int) + 1 = ((m + 1 : Nat) : Int) := by omega
    rw [this]
    exact wrap_num (by omega) (by omega)
  have k2 : (0 : Int) ≤ ((m + 1 : Nat) : Int) := by omega
  have k3 : ((m + 1 : Nat) : Int) ≤ (s.size : Int) := by omega
  have hadd2 : IntKind.i64.wrap (((m + 1 : Nat) : Int) + (b : Int)) = ((m + 1 + b : Nat) : Int) := by
    have : ((m + 1 : Nat) : Int) + (b : Int) = ((m + 1 + b : Nat) : Int) := by omega
    rw [this]
    exact wrap_num (by omega) (by omega)
  have h3 : c = 46 ∨ c = 47 := by omega
  clear h2 hb hsl2
  rcases h3 with h3 | h3
  ·
    have z1 : (((s[m]'hlt).toNat : Int) != 46) = false := by rw [hc, h3]; rfl
    have z2 : (((s[m]'hlt).toNat : Int) != 47) = true := by rw [hc, h3]; rfl
    clear hc h3
    by_cases h4 : b = 0
    · rw [if_pos h4] at hn
      subst hn
      have z4 : ((b : Int) == 0) = true := by rw [h4]; rfl
      clear h4
      go_enter Tryz.func42, Tryz.ntmps42
      go_wp2_with fail
      refine HA.out.mono ?_
      rintro e w1 ⟨rfl, rfl⟩
      go_wp2_with fail
      refine HR.out.mono ?_
      rintro e w2 ⟨rfl, hB⟩
      replace S := S.to hB
      go_wp2_with fail
      refine (HS _ (S.c 0 0 rfl rfl)).out.mono ?_
      rintro e w3 ⟨rfl, hB2⟩
      replace S := S.to hB2
      go_wp2
      go_ret
      exact ⟨rfl, S.below⟩
    · rw [if_neg h4] at hn
      subst hn
      have z4 : ((b : Int) == 0) = false := by
        rw [beq_eq_false_iff_ne]; omega
      clear h4
      go_enter Tryz.func42, Tryz.ntmps42
      go_wp2_with fail
      refine HA.out.mono ?_
      rintro e w1 ⟨rfl, rfl⟩
      go_wp2_with fail
      refine HR.out.mono ?_
      rintro e w2 ⟨rfl, hB⟩
      replace S := S.to hB
      go_wp2_with fail
      refine (HS _ (S.c 0 0 rfl rfl)).out.mono ?_
      rintro e w3 ⟨rfl, hB2⟩
      replace S := S.to hB2
      go_wp2
      go_ret
      exact ⟨rfl, S.below⟩
  ·
    have z1 : (((s[m]'hlt).toNat : Int) != 46) = true := by rw [hc, h3]; rfl
    have z2 : (((s[m]'hlt).toNat : Int) != 47) = false := by rw [hc, h3]; rfl
    clear hc h3
    by_cases h4 : b = 0
    · rw [if_pos h4] at hn
      subst hn
      have z4 : ((b : Int) == 0) = true := by rw [h4]; rfl
      clear h4
      go_enter Tryz.func42, Tryz.ntmps42
      go_wp2_with fail
      refine HA.out.mono ?_
      rintro e w1 ⟨rfl, rfl⟩
      go_wp2_with fail
      refine HR.out.mono ?_
      rintro e w2 ⟨rfl, hB⟩
      replace S := S.to hB
      go_wp2_with fail
      refine (HS _ (S.c 0 0 rfl rfl)).out.mono ?_
      rintro e w3 ⟨rfl, hB2⟩
      replace S := S.to hB2
      go_wp2
      go_ret
      exact ⟨rfl, S.below⟩
    · rw [if_neg h4] at hn
      subst hn
      have z4 : ((b : Int) == 0) = false := by
        rw [beq_eq_false_iff_ne]; omega
      clear h4
      go_enter Tryz.func42, Tryz.ntmps42
      go_wp2_with fail
      refine HA.out.mono ?_
      rintro e w1 ⟨rfl, rfl⟩
      go_wp2_with fail
      refine HR.out.mono ?_
      rintro e w2 ⟨rfl, hB⟩
      replace S := S.to hB
      go_wp2_with fail
      refine (HS _ (S.c 0 0 rfl rfl)).out.mono ?_
      rintro e w3 ⟨rfl, hB2⟩
      replace S := S.to hB2
      go_wp2
      go_ret
      exact ⟨rfl, S.below⟩
def signL (l : List Nat) : Nat := if l.take 2 = [62, 61] ∨ l.take 2 = [60, 61] then 2 else if inB signsT (dg l 0) = true then 1 else 0
def beginL (l : List Nat) : Nat × Nat :=
  if inB lettersT (dg l 0) = true then (0, cnt (inB lettersT) l) else
  if dg l 0 = 45 then (1, numL l 1) else
  if inB digitsT (dg l 0) = true then (1, numL l 0) else
  if dg l 0 = 10 then (3, 1) else (2, signL l)
set_option maxRecDepth 100000 in
set_option maxHeartbeats 4000000 in
theorem sign_any (s : ByteArray) (w : World) (hs : 0 < s.size) :
    Calls Tryz.prog 43 #[.string s] w fun e w' => e = .returned (.int .i64 (signL (bs s) : Nat)) ∧ Below w.heap.size w w' := by
  have S := (St.start w).alloc 9 [.string signsT] (w.heap.size)
  have HA := Lib.hid (among_any signsT w)
  have k0 : (0 : Int) < (s.size : Int) := by omega
  have hlt : 0 < s.size := hs
  obtain ⟨n, hn⟩ : ∃ n, signL (bs s) = n := ⟨_, rfl⟩
  rw [hn]
  unfold signL at hn
  have H1 : ∀ (w : World), _ := fun w => Lib.hid (hasPre_any s ⟨#[62, 61]⟩ w _ rfl)
  have H2 : ∀ (w : World), _ := fun w => Lib.hid (hasPre_any s ⟨#[60, 61]⟩ w _ rfl)
  rw [show (ByteArray.mk #[62, 61]).size = 2 from rfl, show bs ⟨#[62, 61]⟩ = [62, 61] from rfl] at H1
  rw [show (ByteArray.mk #[60, 61]).size = 2 from rfl, show bs ⟨#[60, 61]⟩ = [60, 61] from rfl] at H2
  by_cases h1 : (bs s).take 2 = [62, 61]
  · rw [if_pos (.inl h1)] at hn
    subst hn
    rw [decide_eq_true h1] at H1
    clear h1 H2
    go_enter Tryz.func43, Tryz.ntmps43
    go_wp2_with fail
    refine HA.out.mono ?_
    rintro e w1 ⟨rfl, rfl⟩
    go_wp2_with fail
    refine (H1 _).out.mono ?_
    rintro e w2 ⟨rfl, rfl⟩
    go_wp2
    go_ret
    exact ⟨rfl, S.below⟩
  rw [decide_eq_false h1] at H1
  by_cases h2 : (bs s).take 2 = [60, 61]
  · rw [if_pos (.inr h2)] at hn
    subst hn
    rw [decide_eq_true h2] at H2
    clear h1 h2
    go_enter Tryz.func43, Tryz.ntmps43
    go_wp2_with fail
    refine HA.out.mono ?_
    rintro e w1 ⟨rfl, rfl⟩
    go_wp2_with fail
    refine (H1 _).out.mono ?_
    rintro e w2 ⟨rfl, rfl⟩
    go_wp2_with fail
    refine (H2 _).out.mono ?_
    rintro e w3 ⟨rfl, rfl⟩
    go_wp2
    go_ret
    exact ⟨rfl, S.below⟩
  rw [decide_eq_false h2] at H2
  rw [if_neg (by rintro (h | h); exact h1 h; exact h2 h), bs_get s 0 hs] at hn
  clear h1 h2
  obtain ⟨b, hb⟩ : ∃ b, inB signsT (s[0]'hs).toNat = b := ⟨_, rfl⟩
  rw [hb] at hn
  have HB := Lib.hid (among_fn w.heap.size signsT (s[0]'hs) _ (S.c 0 0 rfl rfl) b hb)
  clear hb
  cases b with
  | true =>
    rw [if_pos rfl] at hn
    subst hn
    go_enter Tryz.func43, Tryz.ntmps43
    go_wp2_with fail
    refine HA.out.mono ?_
    rintro e w1 ⟨rfl, rfl⟩
    go_wp2_with fail
    refine (H1 _).out.mono ?_
    rintro e w2 ⟨rfl, rfl⟩
    go_wp2_with fail
    refine (H2 _).out.mono ?_
    rintro e w3 ⟨rfl, rfl⟩
    go_wp2_with fail
    refine HB.out.mono ?_
    rintro e w4 ⟨rfl, rfl⟩
    go_wp2
    go_ret
    exact ⟨rfl, S.below⟩
  | false =>
    rw [if_neg (by decide)] at hn
    subst hn
    go_enter Tryz.func43, Tryz.ntmps43
    go_wp2_with fail
    refine HA.out.mono ?_
    rintro e w1 ⟨rfl, rfl⟩
    go_wp2_with fail
    refine (H1 _).out.mono ?_
    rintro e w2 ⟨rfl, rfl⟩
    go_wp2_with fail
    refine (H2 _).out.mono ?_
    rintro e w3 ⟨rfl, rfl⟩
    go_wp2_with fail
    refine HB.out.mono ?_
    rintro e w4 ⟨rfl, rfl⟩
    go_wp2
    go_ret
    exact ⟨rfl, S.below⟩
set_option maxRecDepth 100000 in
set_option maxHeartbeats 4000000 in
theorem begin_any (s : ByteArray) (w : World) (hs : 0 < s.size) (hl : s.size ≤ 100000) :
    Calls Tryz.prog 13 #[.string s] w fun e w' => e = .returned (.tuple #[.int .i64 ((beginL (bs s)).1 : Nat), .int .i64 ((beginL (bs s)).2 : Nat)]) ∧ Below w.heap.size w w' := by
  have S0 := (St.start w).alloc 9 [.string lettersT] (w.heap.size)
  have S := S0.alloc 9 [.string digitsT] (w.heap.size + 1)
  try simp only [List.cons_append, List.nil_append] at S
  have HA := Lib.hid (among_any lettersT w)
  have HA2 := Lib.hid (among_any digitsT (w.alloc (.cells #[.string lettersT] 9)))
  rw [show (w.alloc (.cells #[.string lettersT] 9)).heap.size = w.heap.size + 1 by simp] at HA2
  have k0 : (0 : Int) < (s.size : Int) := by omega
  have hlt : 0 < s.size := hs
  obtain ⟨n, hn⟩ : ∃ n, beginL (bs s) = n := ⟨_, rfl⟩
  rw [hn]
  unfold beginL at hn
  rw [bs_get s 0 hs] at hn
  obtain ⟨b, hb⟩ : ∃ b, inB lettersT (s[0]'hs).toNat = b := ⟨_, rfl⟩
  obtain ⟨d, hd⟩ : ∃ b, inB digitsT (s[0]'hs).toNat = b := ⟨_, rfl⟩
  rw [hb, hd] at hn
  have HB := Lib.hid (among_fn w.heap.size lettersT (s[0]'hs) _ (S.c 0 0 rfl rfl) b hb)
  have HD := Lib.hid (among_fn (w.heap.size + 1) digitsT (s[0]'hs) _ (S.c 1 0 rfl rfl) d hd)
  obtain ⟨c, hc⟩ : ∃ c, (s[0]'hs).toNat = c := ⟨_, rfl⟩
  rw [hc] at hn
  clear hb hd S0
  cases b with
  | true =>
    rw [if_pos rfl] at hn
    subst hn
    have HR := Lib.hid (run_among s _ w.heap.size lettersT (S.c 0 0 rfl rfl) hl)
    clear hc
    go_enter Tryz.func13, Tryz.ntmps13
    go_wp2_with fail
    refine HA.out.mono ?_
    rintro e w1 ⟨rfl, rfl⟩
    go_wp2_with fail
    refine HA2.out.mono ?_
    rintro e w2 ⟨rfl, rfl⟩
    go_wp2_with fail
    refine HB.out.mono ?_
    rintro e w3 ⟨rfl, rfl⟩
    go_wp2_with fail
    refine (HR.out).mono ?_
    rintro e w4 ⟨rfl, hB⟩
    replace S := S.to hB
    go_wp2
    go_ret2
    first | exact ⟨rfl, S.below⟩ | skip
  | false =>
    rw [if_neg (by decide)] at hn
    by_cases h1 : c = 45
    · rw [if_pos h1] at hn
      subst hn
      have z1 : (((s[0]'hs).toNat : Int) == 45) = true := by rw [hc, h1]; rfl
      have HR := fun w => Lib.hid (number_any s 1 w hl (by omega))
      clear h1 hc
      go_enter Tryz.func13, Tryz.ntmps13
      go_wp2_with fail
      refine HA.out.mono ?_
      rintro e w1 ⟨rfl, rfl⟩
      go_wp2_with fail
      refine HA2.out.mono ?_
      rintro e w2 ⟨rfl, rfl⟩
      go_wp2_with fail
      refine HB.out.mono ?_
      rintro e w3 ⟨rfl, rfl⟩
      go_wp2_with fail
      refine ((HR _).out).mono ?_
      rintro e w4 ⟨rfl, hB⟩
      replace S := S.to hB
      go_wp2
      go_ret2
      first | exact ⟨rfl, S.below⟩ | skip
    rw [if_neg h1] at hn
    have z1 : (((s[0]'hs).toNat : Int) == 45) = false := by rw [hc, beq_eq_false_iff_ne]; omega
    clear h1
    cases d with
    | true =>
      rw [if_pos rfl] at hn
      subst hn
      have HR := fun w => Lib.hid (number_any s 0 w hl (by omega))
      clear hc
      go_enter Tryz.func13, Tryz.ntmps13
      go_wp2_with fail
      refine HA.out.mono ?_
      rintro e w1 ⟨rfl, rfl⟩
      go_wp2_with fail
      refine HA2.out.mono ?_
      rintro e w2 ⟨rfl, rfl⟩
      go_wp2_with fail
      refine HB.out.mono ?_
      rintro e w3 ⟨rfl, rfl⟩
      go_wp2_with fail
      refine HD.out.mono ?_
      rintro e w5 ⟨rfl, rfl⟩
      go_wp2_with fail
      refine ((HR _).out).mono ?_
      rintro e w4 ⟨rfl, hB⟩
      replace S := S.to hB
      go_wp2
      go_ret2
      first | exact ⟨rfl, S.below⟩ | skip
    | false =>
      rw [if_neg (by decide)] at hn
      by_cases h2 : c = 10
      · rw [if_pos h2] at hn
        subst hn
        have z2 : (((s[0]'hs).toNat : Int) == 10) = true := by rw [hc, h2]; rfl
        clear h2 hc
        go_enter Tryz.func13, Tryz.ntmps13
        go_wp2_with fail
        refine HA.out.mono ?_
        rintro e w1 ⟨rfl, rfl⟩
        go_wp2_with fail
        refine HA2.out.mono ?_
        rintro e w2 ⟨rfl, rfl⟩
        go_wp2_with fail
        refine HB.out.mono ?_
        rintro e w3 ⟨rfl, rfl⟩
        go_wp2_with fail
        refine HD.out.mono ?_
        rintro e w5 ⟨rfl, rfl⟩
        go_wp2
        go_ret2
        first | exact ⟨rfl, S.below⟩ | skip
      · rw [if_neg h2] at hn
        subst hn
        have z2 : (((s[0]'hs).toNat : Int) == 10) = false := by rw [hc, beq_eq_false_iff_ne]; omega
        have HR := fun w => Lib.hid (sign_any s w hs)
        clear h2 hc
        go_enter Tryz.func13, Tryz.ntmps13
        go_wp2_with fail
        refine HA.out.mono ?_
        rintro e w1 ⟨rfl, rfl⟩
        go_wp2_with fail
        refine HA2.out.mono ?_
        rintro e w2 ⟨rfl, rfl⟩
        go_wp2_with fail
        refine HB.out.mono ?_
        rintro e w3 ⟨rfl, rfl⟩
        go_wp2_with fail
        refine HD.out.mono ?_
        rintro e w5 ⟨rfl, rfl⟩
        go_wp2_with fail
        refine ((HR _).out).mono ?_
        rintro e w4 ⟨rfl, hB⟩
        replace S := S.to hB
        go_wp2
        go_ret2
        first | exact ⟨rfl, S.below⟩ | skip
end Go.Proofs.YtcfgefbkeeedgaaGreat
