/-
  girdleref01.Back: digits to the base 256 as digits to the base 2^32.
-/
import Derived.Test.YtphhaaofkckobaaRof
namespace Go.Proofs.Ytphhaaofkckobaa
open Go.RowKit

theorem maxN_256 (k : Nat) (hk : k = 512) : maxN = 256 ^ (4 * k) := by subst hk; unfold maxN; exact (pow_four 512).symm
theorem ref_len' (k : Nat) (hk : k = 512) {ds : List Nat} (h : Can 256 ds) (hv : val 256 ds < maxN) : ds.length ≤ 4 * k :=
  (h.len_le (by decide) (4 * k)).2 (by rw [← maxN_256 k hk]; exact hv)
theorem ref_len {ds : List Nat} (h : Can 256 ds) (hv : val 256 ds < maxN) : ds.length ≤ 2048 := ref_len' 512 rfl h hv

theorem ref_len9' (k : Nat) (hk : k = 512) {ds : List Nat} (h : Can 256 ds) (hv : val 256 ds < 256 * maxN) : ds.length ≤ 4 * k + 1 :=
  (h.len_le (by decide) (4 * k + 1)).2 (by rw [Nat.pow_succ, ← maxN_256 k hk, Nat.mul_comm]; exact hv)
theorem ref_len9 {ds : List Nat} (h : Can 256 ds) (hv : val 256 ds < 256 * maxN) : ds.length ≤ 2049 := ref_len9' 512 rfl h hv

set_option maxRecDepth 100000 in
set_option maxHeartbeats 2000000 in
theorem back_any {vd : Value} {n : Nat} {w : World} (hd : IsRef w vd n) (hn : n < maxN) :
    Calls Try.prog 21 #[vd] w fun e w' => (∃ v, e = .returned v ∧ IsNat w' v n) ∧ Below w.heap.size w w' := by
  obtain ⟨ds, ⟨p, K, rfl, hat⟩, hcan, rfl⟩ := hd
  have hl : ds.length ≤ 2048 := ref_len hcan hn
  have HC := Lib.hid hcan
  clear hcan hn
  go_enter Try.func21, Try.ntmps21
  go_wp2_with fail
  go_loopw [3, 4] (fun so si wr => ∃ (j : Nat) (es : List Nat), 4 * j ≤ ds.length + 3 ∧ si = .int .i64 ((4 * j : Nat) : Int) ∧ Hid (es.length = j) ∧ Dig 4294967296 es ∧ Hid (val 4294967296 es = val 256 (ds.take (4 * j))) ∧ Own .u32 36 wr w.heap.size so es ∧ Below w.heap.size w wr) (fun _ si _ => ds.length + 4 - (intOf si).toNat)
  case atStart => exact ⟨0, [], by omega, rfl, rfl, fun _ h => (nomatch h), by show _ = _; simp [val], Own.nil _ _ _ _, Below.refl _ _⟩
  case round =>
    obtain ⟨j, es, hi, rfl, hdl, hdd, hdv, hown, hB⟩ := hrel
    obtain ⟨wo, rfl⟩ : ∃ wo : World, wo = wr := ⟨_, rfl⟩
    obtain ⟨i, hij⟩ : ∃ i, 4 * j = i := ⟨_, rfl⟩
    have HI := Lib.hid hij
    rw [hij] at hi hdv ⊢
    clear hij
    by_cases hlt : i < ds.length
    · obtain ⟨b, off, rfl, _, hb, hx⟩ := hat.pos (by omega)
      have hx' : ∀ t, t < ds.length → wo.cell? ⟨b, off + t, none⟩ = some (.int .i64 (dg ds t : Nat)) := fun t ht => (hB.cell (p := ⟨b, off + t, none⟩) hb).trans (hx t ht)
      have hli : (i : Int) < ((ds.length : Nat) : Int) := by omega
      have HX := Lib.hid hx'
      clear hx hx'
      go_wp2_with fail
      go_loop [5, 6] (fun sn sk => ∃ (k : Nat), k ≤ 4 ∧ sk = .int .i64 ((k : Int) - 1) ∧ sn = .int .i64 ((val 256 ((ds.drop (i + k)).take (4 - k)) : Nat) : Int)) (fun _ sk => (intOf sk + 1).toNat)
      case atStart => exact ⟨4, by omega, rfl, by simp [val]⟩
      case round =>
        obtain ⟨k, hk, rfl, rfl⟩ := hrel
        have hvl := val_take_lt HC.out.1 (by decide) (i + k) (4 - k)
        cases k with
        | zero =>
          have hvl : val 256 ((ds.drop i).take 4) < 4294967296 := by simpa using hvl
          rw [show i + 0 = i from rfl, show 4 - 0 = 4 from rfl]
          have HB := Lib.hid (back_step es ds j hdl.out (by rw [HI.out]; exact hdv.out))
          rw [HI.out] at HB
          generalize val 256 ((ds.drop i).take 4) = n at *
          have hnI : (n : Int) < 4294967296 := by omega
          have hlen : es.length ≤ 999999 := by have := hdl.out; have := HI.out; omega
          go_wp2_with (at_builtin; refine append_u32 rfl (.tmp 33) (.tmp 36) rfl w.heap.size _ es rfl (hown.alloc _) wo.heap.size n rfl ?c1 hlen ?c2 w.heap.size w ?c3 (Nat.le_refl _) (fun v' w' hown' hB' => ?_))
          case c2 => have := hB.size; simp; omega
          case c3 => exact hB.alloc hB.size _
          go_roundw
          case rel =>
            refine ⟨j + 1, es ++ [n], by have := HI.out; omega, ?_, ?_, hdd.snoc (by omega), ?_, hown', hB'⟩
            · show Value.int .i64 _ = Value.int .i64 _
              congr 1
              have := HI.out; omega
            · show _ = _
              rw [List.length_append, hdl.out]; rfl
            · show _ = _
              exact HB.out
          case measure => simp [intOf]; omega
        | succ t =>
          have hkt : ((t + 1 : Nat) : Int) - 1 = (t : Int) := by omega
          rw [hkt]
          have hvl : val 256 ((ds.drop (i + t + 1)).take (4 - (t + 1))) < 16777216 := by
            have h1 : 256 ^ (4 - (t + 1)) ≤ 256 ^ 3 := Nat.pow_le_pow_right (by decide) (by omega)
            have h2 : (256 : Nat) ^ 3 = 16777216 := by decide
            rw [← Nat.add_assoc] at hvl
            omega
          have hstep := val_take_drop 256 ds (i + t) (4 - (t + 1))
          rw [show 4 - (t + 1) + 1 = 4 - t by omega] at hstep
          have HS := Lib.hid hstep
          rw [show i + (t + 1) = i + t + 1 from rfl]
          have hdt : dg ds (i + t) < 256 := HC.out.1.dg (by decide) _
          clear hstep hkt
          generalize val 256 ((ds.drop (i + t + 1)).take (4 - (t + 1))) = n at *
          have hnI : (n : Int) < 16777216 := by omega
          by_cases hin : i + t < ds.length
          · have hc := HX.out (i + t) hin
            have hini : (i : Int) + (t : Int) < ((ds.length : Nat) : Int) := by omega
            go_wp2
            go_round
            case rel =>
              refine ⟨t, by omega, rfl, ?_⟩
              show Value.int .i64 _ = Value.int .i64 _
              congr 1
              have := HS.out; omega
            case measure => simp [intOf]
          · have hini : ¬ (i : Int) + (t : Int) < ((ds.length : Nat) : Int) := by omega
            have hd0 := Lib.hid (dg_over (ds := ds) (i := i + t) (by omega))
            go_wp2
            go_round
            case rel =>
              refine ⟨t, by omega, rfl, ?_⟩
              show Value.int .i64 _ = Value.int .i64 _
              congr 1
              have h1 := HS.out
              rw [hd0.out] at h1
              omega
            case measure => simp [intOf]
    · have hlt' : ¬ (i : Int) < ((ds.length : Nat) : Int) := by omega
      have HLT := Lib.hid hlt
      clear hlt
      go_wp2
      go_ret
      have hv : val 4294967296 es = val 256 ds := by rw [hdv.out, List.take_of_length_le (by have := HLT.out; omega)]
      refine ⟨⟨_, rfl, es, hown.nums, can_of_ge (by decide) hdd (fun h0 => ?_), hv⟩, hB⟩
      have h1 : ds ≠ [] := by
        rintro rfl
        have h2 := hdl.out; have h3 := HI.out
        have h4 : es.length = 0 := by simp at hi; omega
        exact h0 (List.eq_nil_of_length_eq_zero h4)
      have h2 := HC.out.pos h1
      rw [hv]
      rw [← pow_four]
      refine Nat.le_trans (Nat.pow_le_pow_right (by decide) ?_) h2
      have := hdl.out; have := HI.out; omega

end Go.Proofs.Ytphhaaofkckobaa
