/-
  girdleref01.Of: digits to the base 2^32 as digits to the base 256. girdleref01.Back: digits to the base 256 as digits to the base 2^32. girdleref01.Add and girdleref01.Sub, digit by digit to the base 256. girdleref01.Sub, digit by digit to the base 256.
-/
import Derived.Test.YtcopfjooopindaaDoorM10
import Derived.Test.YtcopfjooopindaaDoorM13
import Derived.Test.YtcopfjooopindaaDoorM20

namespace Go.Proofs.YtcopfjooopindaaDoor
open Go.RowKit

set_option maxRecDepth 100000 in
set_option maxHeartbeats 1000000 in
theorem refOf_any {va : Value} {m : Nat} {w : World} (ha : IsNat w va m) (hm : m < maxN) :
    Calls Tryd.prog 36 #[va] w fun e w' => (∃ v, e = .returned v ∧ IsRef w' v m) ∧ Below w.heap.size w w' := by
  obtain ⟨xs, ⟨p, K, rfl, hat⟩, hcan, rfl⟩ := ha
  have hl : xs.length ≤ 512 := hcan.len_max.2 hm
  have HC := Lib.hid hcan
  clear hcan hm
  go_enter Tryd.func36, Tryd.ntmps36
  go_wp2_with fail
  go_loopw [3, 4] (fun so si wr => ∃ (i : Nat) (ds : List Nat), i ≤ xs.length ∧ si = .int .i64 i ∧ Hid (ds.length = 4 * i) ∧ Dig 256 ds ∧ Hid (val 256 ds = val 4294967296 (xs.take i)) ∧ Own .i64 3 wr w.heap.size so ds ∧ Below w.heap.size w wr) (fun _ si _ => xs.length - (intOf si).toNat)
  case atStart => exact ⟨0, [], by omega, rfl, rfl, fun _ h => (nomatch h), by show _ = _; simp [val], Own.nil _ _ _ _, Below.refl _ _⟩
  case round =>
    obtain ⟨i, ds, hi, rfl, hdl, hdd, hdv, hown, hB⟩ := hrel
    obtain ⟨wo, rfl⟩ : ∃ wo : World, wo = wr := ⟨_, rfl⟩
    by_cases hlt : i < xs.length
    · obtain ⟨b, off, rfl, _, hb, hx⟩ := hat.pos (by omega)
      have hci := (hB.cell (p := ⟨b, off + i, none⟩) hb).trans (hx i hlt)
      have hli : (i : Int) < ((xs.length : Nat) : Int) := by omega
      have hdx : dg xs i < 4294967296 := HC.out.1.dg (by decide) i
      clear hx
      go_wp2_with fail
      go_loopw [3, 5, 6] (fun so sn sk wi => ∃ (k n : Nat) (es : List Nat), k ≤ 4 ∧ sk = .int .i64 k ∧ sn = .int .i64 n ∧ n < 4294967296 ∧ Hid (n < 256 ^ (4 - k)) ∧ Hid (es.length = 4 * i + k) ∧ Dig 256 es ∧ Hid (val 256 es + 256 ^ (4 * i + k) * n = val 4294967296 (xs.take (i + 1))) ∧ Own .i64 3 wi w.heap.size so es ∧ Below w.heap.size w wi) (fun _ _ sk _ => 4 - (intOf sk).toNat)
      case atStart =>
        exact ⟨0, dg xs i, ds, by omega, rfl, rfl, hdx, hdx, hdl, hdd, by show _ = _; rw [hdv.out, val_take_succ, Nat.add_zero, pow_four], hown, hB⟩
      case round =>
        clear hown hB hdl hdd hdv hdx hci
        obtain ⟨k, n, es, hk, rfl, rfl, hnl, hn4, hel, hed, hev, hown, hB⟩ := hrel
        by_cases hk4 : k < 4
        · have hkI : (k : Int) < 4 := by omega
          have hnI : (n : Int) < 4294967296 := by omega
          have hlen : es.length ≤ 999999 := by have := hel.out; omega
          go_wp2_with (at_builtin; refine append_int rfl (.tmp 22) (.tmp 25) rfl w.heap.size _ es rfl (hown.alloc _) wr.heap.size (n % 256) rfl ?c1 hlen ?c2 w.heap.size w ?c3 (Nat.le_refl _) (fun v' w' hown' hB' => ?_))
          case c1 => simp [go_sem]
          case c2 => have := hB.size; simp; omega
          case c3 => exact hB.alloc hB.size _
          go_roundw
          case rel =>
            refine ⟨k + 1, n / 256, es ++ [n % 256], by omega, by go_num, by go_num, by omega, ?_, ?_, hed.snoc (Nat.mod_lt _ (by decide)), of_step es n (4 * i + k) _ hel.out hev.out, hown', hB'⟩
            · show _ < _
              have h1 := hn4.out
              rw [show 4 - k = 4 - (k + 1) + 1 by omega, Nat.pow_succ] at h1
              exact Nat.div_lt_of_lt_mul (by rwa [Nat.mul_comm] at h1)
            · show _ = _
              rw [List.length_append, hel.out]; rfl
          case measure => simp [intOf]; omega
        · have hk' : k = 4 := by omega
          subst hk'
          have hn0 : n = 0 := by have := hn4.out; simpa using this
          subst hn0
          go_wp2
          go_roundw
          case rel => exact ⟨i + 1, es, by omega, by go_num, by show _ = _; rw [hel.out, Nat.mul_add], hed, by show _ = _; have := hev.out; simpa using this, hown, hB⟩
          case measure => simp [intOf]; omega
    · have hii : i = xs.length := by omega
      subst hii
      obtain ⟨q, Kq, rfl, hq⟩ := hown.nums
      have hlen : ds.length ≤ 1000000 := by have := hdl.out; omega
      have C := Lib.hid (refCut_any q Kq ds wo hq hlen)
      clear hown hq
      go_wp2_with fail
      refine C.out.mono ?_
      rintro e w1 ⟨⟨v, rfl, hv⟩, rfl⟩
      go_wp2
      go_ret
      exact ⟨⟨_, rfl, _, hv, can_cut hdd, by rw [val_cut, hdv.out, List.take_length]⟩, hB⟩

end Go.Proofs.YtcopfjooopindaaDoor

namespace Go.Proofs.YtcopfjooopindaaDoor
open Go.RowKit

theorem maxN_256 (k : Nat) (hk : k = 512) : maxN = 256 ^ (4 * k) := by subst hk; unfold maxN; exact (pow_four 512).symm
theorem ref_len' (k : Nat) (hk : k = 512) {ds : List Nat} (h : Can 256 ds) (hv : val 256 ds < maxN) : ds.length ≤ 4 * k :=
  (h.len_le (by decide) (4 * k)).2 (by rw [← maxN_256 k hk]; exact hv)
theorem ref_len {ds : List Nat} (h : Can 256 ds) (hv : val 256 ds < maxN) : ds.length ≤ 2048 := ref_len' 512 rfl h hv

theorem ref_len9' (k : Nat) (hk : k = 512) {ds : List Nat} (h : Can 256 ds) (hv : val 256 ds < 256 * maxN) : ds.length ≤ 4 * k + 1 :=
  (h.len_le (by decide) (4 * k + 1)).2 (by rw [Nat.pow_succ, ← maxN_256 k hk, Nat.mul_comm]; exact hv)
theorem ref_len9 {ds : List Nat} (h : Can 256 ds) (hv : val 256 ds < 256 * maxN) : ds.length ≤ 2049 := ref_len9' 512 rfl h hv

set_option maxRecDepth 100000 in
set_option maxHeartbeats 2000000 in
theorem back_any {vd : Value} {n : Nat} {w : World} (hd : IsRef w vd n) (hn : n < maxN) :
    Calls Tryd.prog 42 #[vd] w fun e w' => (∃ v, e = .returned v ∧ IsNat w' v n) ∧ Below w.heap.size w w' := by
  obtain ⟨ds, ⟨p, K, rfl, hat⟩, hcan, rfl⟩ := hd
  have hl : ds.length ≤ 2048 := ref_len hcan hn
  have HC := Lib.hid hcan
  clear hcan hn
  go_enter Tryd.func42, Tryd.ntmps42
  go_wp2_with fail
  go_loopw [3, 4] (fun so si wr => ∃ (j : Nat) (es : List Nat), 4 * j ≤ ds.length + 3 ∧ si = .int .i64 ((4 * j : Nat) : Int) ∧ Hid (es.length = j) ∧ Dig 4294967296 es ∧ Hid (val 4294967296 es = val 256 (ds.take (4 * j))) ∧ Own .u32 67 wr w.heap.size so es ∧ Below w.heap.size w wr) (fun _ si _ => ds.length + 4 - (intOf si).toNat)
  case atStart => exact ⟨0, [], by omega, rfl, rfl, fun _ h => (nomatch h), by show _ = _; simp [val], Own.nil _ _ _ _, Below.refl _ _⟩
  case round =>
    obtain ⟨j, es, hi, rfl, hdl, hdd, hdv, hown, hB⟩ := hrel
    obtain ⟨wo, rfl⟩ : ∃ wo : World, wo = wr := ⟨_, rfl⟩
    obtain ⟨i, hij⟩ : ∃ i, 4 * j = i := ⟨_, rfl⟩
    have HI := Lib.hid hij
    rw [hij] at hi hdv ⊢
    clear hij
    by_cases hlt : i < ds.length
    · obtain ⟨b, off, rfl, _, hb, hx⟩ := hat.pos (by omega)
      have hx' : ∀ t, t < ds.length → wo.cell? ⟨b, off + t, none⟩ = some (.int .i64 (dg ds t : Nat)) := fun t ht => (hB.cell (p := ⟨b, off + t, none⟩) hb).trans (hx t ht)
      have hli : (i : Int) < ((ds.length : Nat) : Int) := by omega
      have HX := Lib.hid hx'
      clear hx hx'
      go_wp2_with fail
      go_loop [5, 6] (fun sn sk => ∃ (k : Nat), k ≤ 4 ∧ sk = .int .i64 ((k : Int) - 1) ∧ sn = .int .i64 ((val 256 ((ds.drop (i + k)).take (4 - k)) : Nat) : Int)) (fun _ sk => (intOf sk + 1).toNat)
      case atStart => exact ⟨4, by omega, rfl, by simp [val]⟩
      case round =>
        obtain ⟨k, hk, rfl, rfl⟩ := hrel
        have hvl := val_take_lt HC.out.1 (by decide) (i + k) (4 - k)
        cases k with
        | zero =>
          have hvl : val 256 ((ds.drop i).take 4) < 4294967296 := by simpa using hvl
          rw [show i + 0 = i from rfl, show 4 - 0 = 4 from rfl]
          have HB := Lib.hid (back_step es ds j hdl.out (by rw [HI.out]; exact hdv.out))
          rw [HI.out] at HB
          generalize val 256 ((ds.drop i).take 4) = n at *
          have hnI : (n : Int) < 4294967296 := by omega
          have hlen : es.length ≤ 999999 := by have := hdl.out; have := HI.out; omega
          go_wp2_with (at_builtin; refine append_u32 rfl (.tmp 33) (.tmp 36) rfl w.heap.size _ es rfl (hown.alloc _) wo.heap.size n rfl ?c1 hlen ?c2 w.heap.size w ?c3 (Nat.le_refl _) (fun v' w' hown' hB' => ?_))
          case c2 => have := hB.size; simp; omega
          case c3 => exact hB.alloc hB.size _
          go_roundw
          case rel =>
            refine ⟨j + 1, es ++ [n], by have := HI.out; omega, ?_, ?_, hdd.snoc (by omega), ?_, hown', hB'⟩
            · show Value.int .i64 _ = Value.int .i64 _
              congr 1
              have := HI.out; omega
            · show _ = _
              rw [List.length_append, hdl.out]; rfl
            · show _ = _
              exact HB.out
          case measure => simp [intOf]; omega
        | succ t =>
          have hkt : ((t + 1 : Nat) : Int) - 1 = (t : Int) := by omega
          rw [hkt]
          have hvl : val 256 ((ds.drop (i + t + 1)).take (4 - (t + 1))) < 16777216 := by
            have h1 : 256 ^ (4 - (t + 1)) ≤ 256 ^ 3 := Nat.pow_le_pow_right (by decide) (by omega)
            have h2 : (256 : Nat) ^ 3 = 16777216 := by decide
            rw [← Nat.add_assoc] at hvl
            omega
          have hstep := val_take_drop 256 ds (i + t) (4 - (t + 1))
          rw [show 4 - (t + 1) + 1 = 4 - t by omega] at hstep
          have HS := Lib.hid hstep
          rw [show i + (t + 1) = i + t + 1 from rfl]
          have hdt : dg ds (i + t) < 256 := HC.out.1.dg (by decide) _
          clear hstep hkt
          generalize val 256 ((ds.drop (i + t + 1)).take (4 - (t + 1))) = n at *
          have hnI : (n : Int) < 16777216 := by omega
          by_cases hin : i + t < ds.length
          · have hc := HX.out (i + t) hin
            have hini : (i : Int) + (t : Int) < ((ds.length : Nat) : Int) := by omega
            go_wp2
            go_round
            case rel =>
              refine ⟨t, by omega, rfl, ?_⟩
              show Value.int .i64 _ = Value.int .i64 _
              congr 1
              have := HS.out; omega
            case measure => simp [intOf]
          · have hini : ¬ (i : Int) + (t : Int) < ((ds.length : Nat) : Int) := by omega
            have hd0 := Lib.hid (dg_over (ds := ds) (i := i + t) (by omega))
            go_wp2
            go_round
            case rel =>
              refine ⟨t, by omega, rfl, ?_⟩
              show Value.int .i64 _ = Value.int .i64 _
              congr 1
              have h1 := HS.out
              rw [hd0.out] at h1
              omega
            case measure => simp [intOf]
    · have hlt' : ¬ (i : Int) < ((ds.length : Nat) : Int) := by omega
      have HLT := Lib.hid hlt
      clear hlt
      go_wp2
      go_ret
      have hv : val 4294967296 es = val 256 ds := by rw [hdv.out, List.take_of_length_le (by have := HLT.out; omega)]
      refine ⟨⟨_, rfl, es, hown.nums, can_of_ge (by decide) hdd (fun h0 => ?_), hv⟩, hB⟩
      have h1 : ds ≠ [] := by
        rintro rfl
        have h2 := hdl.out; have h3 := HI.out
        have h4 : es.length = 0 := by simp at hi; omega
        exact h0 (List.eq_nil_of_length_eq_zero h4)
      have h2 := HC.out.pos h1
      rw [hv]
      rw [← pow_four]
      refine Nat.le_trans (Nat.pow_le_pow_right (by decide) ?_) h2
      have := hdl.out; have := HI.out; omega

end Go.Proofs.YtcopfjooopindaaDoor

namespace Go.Proofs.YtcopfjooopindaaDoor
open Go.RowKit

theorem lt_B (n : Nat) (h : n < 256) : (n : Int) < 256 := by omega

set_option maxRecDepth 100000 in
set_option maxHeartbeats 2000000 in
theorem refAdd_any {va vb : Value} {m n : Nat} {w : World} (ha : IsRef w va m) (hb : IsRef w vb n) (hm : m < maxN) (hn : n < maxN) :
    Calls Tryd.prog 44 #[va, vb] w fun e w' => (∃ v, e = .returned v ∧ IsRef w' v (m + n)) ∧ Below w.heap.size w w' := by
  obtain ⟨xs, ⟨p1, K1, rfl, at1⟩, c1, rfl⟩ := ha
  obtain ⟨ys, ⟨p2, K2, rfl, at2⟩, c2, rfl⟩ := hb
  have hl1 : xs.length ≤ 2048 := ref_len c1 hm
  have hl2 : ys.length ≤ 2048 := ref_len c2 hn
  have HC := Lib.hid (And.intro c1 c2)
  clear c1 c2 hm hn
  go_enter Tryd.func44, Tryd.ntmps44
  go_wp2_with fail
  go_loopw [5, 6, 7] (fun so sc si wr => ∃ (i c : Nat) (ds : List Nat), i ≤ 2049 ∧ (i = 2049 → c = 0) ∧ si = .int .i64 i ∧ sc = .int .i64 c ∧ c ≤ 1 ∧ Hid (ds.length = i) ∧ Dig 256 ds ∧ Hid (val 256 ds + 256 ^ i * (c + val 256 (xs.drop i) + val 256 (ys.drop i)) = val 256 xs + val 256 ys) ∧ Own .i64 3 wr w.heap.size so ds ∧ Below w.heap.size w wr) (fun _ _ si _ => 2050 - (intOf si).toNat)
  case atStart => exact ⟨0, 0, [], by omega, by omega, rfl, rfl, by omega, rfl, fun _ h => (nomatch h), by show _ = _; simp [val], Own.nil _ _ _ _, Below.refl _ _⟩
  case round =>
    obtain ⟨i, c, ds, hi, hi0, rfl, rfl, hc, hdl, hdd, hdv, hown, hB⟩ := hrel
    have hxi := HC.out.1.1.dg (by decide) i
    have hyi := HC.out.2.1.dg (by decide) i
    have HS := Lib.hid (radd_step ds xs ys c i _ hdl.out hdv.out)
    by_cases r1 : i < xs.length
    · by_cases r2 : i < ys.length
      · obtain ⟨b1, o1, rfl, _, hb1, hx1⟩ := at1.pos (by omega)
        have hc1 := (hB.cell (p := ⟨b1, o1 + i, none⟩) hb1).trans (hx1 i r1)
        have hr1 : (i : Int) < ((xs.length : Nat) : Int) := by omega
        clear hx1
        obtain ⟨b2, o2, rfl, _, hb2, hx2⟩ := at2.pos (by omega)
        have hc2 := (hB.cell (p := ⟨b2, o2 + i, none⟩) hb2).trans (hx2 i r2)
        have hr2 : (i : Int) < ((ys.length : Nat) : Int) := by omega
        clear hx2
        have hlen : ds.length ≤ 999999 := by have := hdl.out; omega
        have HR := Lib.hid (And.intro r1 r2)
        clear r1 r2 hdv
        go_wp2_with (at_builtin; refine append_int rfl (.tmp 44) (.tmp 47) rfl w.heap.size _ ds rfl (hown.alloc _) wr.heap.size ((c + dg xs i + dg ys i) % 256) rfl ?c1a hlen ?c2a w.heap.size w ?c3a (Nat.le_refl _) (fun v' w' hown' hB' => ?_))
        try case c1a => simp [go_sem]
        case c2a => have := hB.size; simp; omega
        case c3a => exact hB.alloc hB.size _
        go_roundw
        case rel =>
          refine ⟨i + 1, (c + dg xs i + dg ys i) / 256, ds ++ [(c + dg xs i + dg ys i) % 256], by have := HR.out; omega, by have := HR.out; omega, by go_num, by go_num, by omega, ?_, hdd.snoc (Nat.mod_lt _ (by decide)), HS.out, hown', hB'⟩
          show _ = _
          rw [List.length_append, hdl.out]; rfl
        case measure => simp [intOf]; omega
      · obtain ⟨b1, o1, rfl, _, hb1, hx1⟩ := at1.pos (by omega)
        have hc1 := (hB.cell (p := ⟨b1, o1 + i, none⟩) hb1).trans (hx1 i r1)
        have hr1 : (i : Int) < ((xs.length : Nat) : Int) := by omega
        clear hx1
        have hr2 : ¬ (i : Int) < ((ys.length : Nat) : Int) := by omega
        have hd2 : decide (i < ys.length) = false := decide_eq_false (by omega)
        have z2 := dg_over (ds := ys) (i := i) (by omega)
        rw [z2] at HS
        clear z2
        have hlen : ds.length ≤ 999999 := by have := hdl.out; omega
        have HR := Lib.hid (And.intro r1 r2)
        clear r1 r2 hdv
        go_wp2_with (at_builtin; refine append_int rfl (.tmp 44) (.tmp 47) rfl w.heap.size _ ds rfl (hown.alloc _) wr.heap.size ((c + dg xs i + 0) % 256) rfl ?c1b hlen ?c2b w.heap.size w ?c3b (Nat.le_refl _) (fun v' w' hown' hB' => ?_))
        try case c1b => simp [go_sem]
        case c2b => have := hB.size; simp; omega
        case c3b => exact hB.alloc hB.size _
        go_roundw
        case rel =>
          refine ⟨i + 1, (c + dg xs i + 0) / 256, ds ++ [(c + dg xs i + 0) % 256], by have := HR.out; omega, by have := HR.out; omega, by go_num, by go_num, by omega, ?_, hdd.snoc (Nat.mod_lt _ (by decide)), HS.out, hown', hB'⟩
          show _ = _
          rw [List.length_append, hdl.out]; rfl
        case measure => simp [intOf]; omega
    · by_cases r2 : i < ys.length
      · have hr1 : ¬ (i : Int) < ((xs.length : Nat) : Int) := by omega
        have hd1 : decide (i < xs.length) = false := decide_eq_false (by omega)
        have z1 := dg_over (ds := xs) (i := i) (by omega)
        rw [z1] at HS
        clear z1
        obtain ⟨b2, o2, rfl, _, hb2, hx2⟩ := at2.pos (by omega)
        have hc2 := (hB.cell (p := ⟨b2, o2 + i, none⟩) hb2).trans (hx2 i r2)
        have hr2 : (i : Int) < ((ys.length : Nat) : Int) := by omega
        clear hx2
        have hlen : ds.length ≤ 999999 := by have := hdl.out; omega
        have HR := Lib.hid (And.intro r1 r2)
        clear r1 r2 hdv
        go_wp2_with (at_builtin; refine append_int rfl (.tmp 44) (.tmp 47) rfl w.heap.size _ ds rfl (hown.alloc _) wr.heap.size ((c + 0 + dg ys i) % 256) rfl ?c1c hlen ?c2c w.heap.size w ?c3c (Nat.le_refl _) (fun v' w' hown' hB' => ?_))
        try case c1c => simp [go_sem]
        case c2c => have := hB.size; simp; omega
        case c3c => exact hB.alloc hB.size _
        go_roundw
        case rel =>
          refine ⟨i + 1, (c + 0 + dg ys i) / 256, ds ++ [(c + 0 + dg ys i) % 256], by have := HR.out; omega, by have := HR.out; omega, by go_num, by go_num, by omega, ?_, hdd.snoc (Nat.mod_lt _ (by decide)), HS.out, hown', hB'⟩
          show _ = _
          rw [List.length_append, hdl.out]; rfl
        case measure => simp [intOf]; omega
      · have hr1 : ¬ (i : Int) < ((xs.length : Nat) : Int) := by omega
        have hd1 : decide (i < xs.length) = false := decide_eq_false (by omega)
        have z1 := dg_over (ds := xs) (i := i) (by omega)
        rw [z1] at HS
        clear z1
        have hr2 : ¬ (i : Int) < ((ys.length : Nat) : Int) := by omega
        have hd2 : decide (i < ys.length) = false := decide_eq_false (by omega)
        have z2 := dg_over (ds := ys) (i := i) (by omega)
        rw [z2] at HS
        clear z2
        by_cases hcp : 0 < c
        · have hcI : (0 : Int) < (c : Int) := by omega
          have hlen : ds.length ≤ 999999 := by have := hdl.out; omega
          have HR := Lib.hid (And.intro r1 r2)
          clear r1 r2 hdv
          go_wp2_with (at_builtin; refine append_int rfl (.tmp 44) (.tmp 47) rfl w.heap.size _ ds rfl (hown.alloc _) wr.heap.size ((c + 0 + 0) % 256) rfl ?c1d hlen ?c2d w.heap.size w ?c3d (Nat.le_refl _) (fun v' w' hown' hB' => ?_))
          try case c1d => simp [go_sem]
          case c2d => have := hB.size; simp; omega
          case c3d => exact hB.alloc hB.size _
          go_roundw
          case rel =>
            refine ⟨i + 1, (c + 0 + 0) / 256, ds ++ [(c + 0 + 0) % 256], by have := HR.out; omega, by have := HR.out; omega, by go_num, by go_num, by omega, ?_, hdd.snoc (Nat.mod_lt _ (by decide)), HS.out, hown', hB'⟩
            show _ = _
            rw [List.length_append, hdl.out]; rfl
          case measure => simp [intOf]; omega
        · have hcI : ¬ (0 : Int) < (c : Int) := by omega
          have hcD : decide (0 < c) = false := decide_eq_false hcp
          have c0 : c = 0 := by omega
          obtain ⟨q, Kq, rfl, hq⟩ := hown.nums
          have hlen : ds.length ≤ 1000000 := by have := hdl.out; omega
          have C := Lib.hid (refCut_any q Kq ds wr hq hlen)
          have HV : Hid (val 256 ds = val 256 xs + val 256 ys) := by
            show _ = _
            have h1 := hdv.out
            rw [List.drop_of_length_le (by omega), List.drop_of_length_le (by omega), c0] at h1
            simpa [val] using h1
          clear hown hq HS c0
          go_wp2_with fail
          refine C.out.mono ?_
          rintro e w1 ⟨⟨v, rfl, hv⟩, rfl⟩
          go_wp2
          go_ret
          exact ⟨⟨_, rfl, _, hv, can_cut hdd, by rw [val_cut, HV.out]⟩, hB⟩

end Go.Proofs.YtcopfjooopindaaDoor

namespace Go.Proofs.YtcopfjooopindaaDoor
open Go.RowKit

set_option maxRecDepth 100000 in
set_option maxHeartbeats 2000000 in
theorem refSub_at {va vb : Value} {m n : Nat} {w : World} (ha : IsRef w va m) (hb : IsRef w vb n) (hm : m < 256 * maxN) (hle : n ≤ m) :
    Calls Tryd.prog 45 #[va, vb] w fun e w' => (∃ v, e = .returned v ∧ IsRef w' v (m - n) ∧ NewIn w.heap.size v) ∧ Below w.heap.size w w' := by
  obtain ⟨xs, ⟨p1, K1, rfl, at1⟩, c1, rfl⟩ := ha
  obtain ⟨ys, ⟨p2, K2, rfl, at2⟩, c2, rfl⟩ := hb
  have hl1 : xs.length ≤ 2049 := ref_len9 c1 hm
  have hl2 : ys.length ≤ 2049 := ref_len9 c2 (by omega)
  have HC := Lib.hid (And.intro c1 (And.intro c2 hle))
  clear c1 c2 hm hle
  go_enter Tryd.func45, Tryd.ntmps45
  go_wp2_with fail
  go_loopw [5, 6, 7] (fun so sc si wr => ∃ (i o : Nat) (ds : List Nat), i ≤ xs.length ∧ si = .int .i64 i ∧ sc = .int .i64 o ∧ o ≤ 1 ∧ Hid (ds.length = i) ∧ Dig 256 ds ∧ Hid (val 256 ds + val 256 ys + 256 ^ i * val 256 (xs.drop i) = val 256 xs + 256 ^ i * (o + val 256 (ys.drop i))) ∧ Own .i64 3 wr w.heap.size so ds ∧ Below w.heap.size w wr) (fun _ _ si _ => xs.length - (intOf si).toNat)
  case atStart => exact ⟨0, 0, [], by omega, rfl, rfl, by omega, rfl, fun _ h => (nomatch h), by show _ = _; simp [val]; omega, Own.nil _ _ _ _, Below.refl _ _⟩
  case round =>
    obtain ⟨i, o, ds, hi, rfl, rfl, ho, hdl, hdd, hdv, hown, hB⟩ := hrel
    by_cases r1 : i < xs.length
    · have hxi := HC.out.1.1.dg (by decide) i
      have hyi := HC.out.2.1.1.dg (by decide) i
      obtain ⟨b1, o1, rfl, _, hb1, hx1⟩ := at1.pos (by omega)
      have hc1 := (hB.cell (p := ⟨b1, o1 + i, none⟩) hb1).trans (hx1 i r1)
      have hr1 : (i : Int) < ((xs.length : Nat) : Int) := by omega
      have hlen : ds.length ≤ 999999 := by have := hdl.out; omega
      clear hx1
      by_cases r2 : i < ys.length
      · obtain ⟨b2, o2, rfl, _, hb2, hx2⟩ := at2.pos (by omega)
        have hc2 := (hB.cell (p := ⟨b2, o2 + i, none⟩) hb2).trans (hx2 i r2)
        have hr2 : (i : Int) < ((ys.length : Nat) : Int) := by omega
        clear hx2
        by_cases hng : dg xs i < dg ys i + o
        · have hn1 : (dg xs i : Int) - (o : Int) - (dg ys i : Int) < 0 := by omega
          have HR := Lib.hid r1
          have HS := Lib.hid (rsub_step ds xs ys o 1 (dg xs i + 256 - o - dg ys i) i hdl.out (by omega) hdv.out)
          have HN := Lib.hid hng
          clear r1 r2 hdv hng
          go_wp2_with (at_builtin; refine append_int rfl (.tmp 35) (.tmp 37) rfl w.heap.size _ ds rfl (hown.alloc _) wr.heap.size (dg xs i + 256 - o - dg ys i) rfl ?c1an hlen ?c2an w.heap.size w ?c3an (Nat.le_refl _) (fun v' w' hown' hB' => ?_))
          case c1an => have := HN.out; (try simp [go_sem]); omega
          case c2an => have := hB.size; simp; omega
          case c3an => exact hB.alloc hB.size _
          go_roundw
          case rel =>
            refine ⟨i + 1, 1, ds ++ [(dg xs i + 256 - o - dg ys i)], by have := HR.out; omega, by go_num, rfl, by omega, ?_, hdd.snoc (by have := HN.out; omega), HS.out, hown', hB'⟩
            show _ = _
            rw [List.length_append, hdl.out]; rfl
          case measure => have := HR.out; simp [intOf]; omega
        · have hn1 : ¬ (dg xs i : Int) - (o : Int) - (dg ys i : Int) < 0 := by omega
          have HR := Lib.hid r1
          have HS := Lib.hid (rsub_step ds xs ys o 0 (dg xs i - o - dg ys i) i hdl.out (by omega) hdv.out)
          have HN := Lib.hid hng
          clear r1 r2 hdv hng
          go_wp2_with (at_builtin; refine append_int rfl (.tmp 35) (.tmp 37) rfl w.heap.size _ ds rfl (hown.alloc _) wr.heap.size (dg xs i - o - dg ys i) rfl ?c1ap hlen ?c2ap w.heap.size w ?c3ap (Nat.le_refl _) (fun v' w' hown' hB' => ?_))
          case c1ap => have := HN.out; (try simp [go_sem]); omega
          case c2ap => have := hB.size; simp; omega
          case c3ap => exact hB.alloc hB.size _
          go_roundw
          case rel =>
            refine ⟨i + 1, 0, ds ++ [(dg xs i - o - dg ys i)], by have := HR.out; omega, by go_num, rfl, by omega, ?_, hdd.snoc (by have := HN.out; omega), HS.out, hown', hB'⟩
            show _ = _
            rw [List.length_append, hdl.out]; rfl
          case measure => have := HR.out; simp [intOf]; omega
      · have hr2 : ¬ (i : Int) < ((ys.length : Nat) : Int) := by omega
        have z2 := Lib.hid (dg_over (ds := ys) (i := i) (by omega))
        by_cases hng : dg xs i < 0 + o
        · have hn1 : (dg xs i : Int) - (o : Int) < 0 := by omega
          have HR := Lib.hid r1
          have HS := Lib.hid (rsub_step ds xs ys o 1 (dg xs i + 256 - o - 0) i hdl.out (by rw [z2.out]; omega) hdv.out)
          have HN := Lib.hid hng
          clear r1 r2 hdv hng
          go_wp2_with (at_builtin; refine append_int rfl (.tmp 35) (.tmp 37) rfl w.heap.size _ ds rfl (hown.alloc _) wr.heap.size (dg xs i + 256 - o - 0) rfl ?c1bn hlen ?c2bn w.heap.size w ?c3bn (Nat.le_refl _) (fun v' w' hown' hB' => ?_))
          case c1bn => have := HN.out; (try simp [go_sem]); omega
          case c2bn => have := hB.size; simp; omega
          case c3bn => exact hB.alloc hB.size _
          go_roundw
          case rel =>
            refine ⟨i + 1, 1, ds ++ [(dg xs i + 256 - o - 0)], by have := HR.out; omega, by go_num, rfl, by omega, ?_, hdd.snoc (by have := HN.out; omega), HS.out, hown', hB'⟩
            show _ = _
            rw [List.length_append, hdl.out]; rfl
          case measure => have := HR.out; simp [intOf]; omega
        · have hn1 : ¬ (dg xs i : Int) - (o : Int) < 0 := by omega
          have HR := Lib.hid r1
          have HS := Lib.hid (rsub_step ds xs ys o 0 (dg xs i - o - 0) i hdl.out (by rw [z2.out]; omega) hdv.out)
          have HN := Lib.hid hng
          clear r1 r2 hdv hng
          go_wp2_with (at_builtin; refine append_int rfl (.tmp 35) (.tmp 37) rfl w.heap.size _ ds rfl (hown.alloc _) wr.heap.size (dg xs i - o - 0) rfl ?c1bp hlen ?c2bp w.heap.size w ?c3bp (Nat.le_refl _) (fun v' w' hown' hB' => ?_))
          case c1bp => have := HN.out; (try simp [go_sem]); omega
          case c2bp => have := hB.size; simp; omega
          case c3bp => exact hB.alloc hB.size _
          go_roundw
          case rel =>
            refine ⟨i + 1, 0, ds ++ [(dg xs i - o - 0)], by have := HR.out; omega, by go_num, rfl, by omega, ?_, hdd.snoc (by have := HN.out; omega), HS.out, hown', hB'⟩
            show _ = _
            rw [List.length_append, hdl.out]; rfl
          case measure => have := HR.out; simp [intOf]; omega
    · have hii : i = xs.length := by omega
      have HV := Lib.hid (rsub_end ds xs ys o hdd (by rw [hdl.out, hii]) HC.out.2.2 (by rw [← hii]; exact hdv.out))
      have hr1 : ¬ (i : Int) < ((xs.length : Nat) : Int) := by omega
      have hnew := hown.newIn
      obtain ⟨q, Kq, rfl, hq⟩ := hown.nums
      have hlen : ds.length ≤ 1000000 := by have := hdl.out; omega
      have C := Lib.hid (refCut_at q Kq ds wr hq hlen)
      clear hown hq hii r1
      go_wp2_with fail
      refine C.out.mono ?_
      rintro e w1 ⟨⟨v, rfl, hv, n1, K1, rfl⟩, rfl⟩
      go_wp2
      go_ret
      exact ⟨⟨_, rfl, ⟨_, hv, can_cut hdd, by rw [val_cut, HV.out]⟩, hnew.cut⟩, hB⟩

theorem refSub_wide {va vb : Value} {m n : Nat} {w : World} (ha : IsRef w va m) (hb : IsRef w vb n) (hm : m < 256 * maxN) (hle : n ≤ m) :
    Calls Tryd.prog 45 #[va, vb] w fun e w' => (∃ v, e = .returned v ∧ IsRef w' v (m - n)) ∧ Below w.heap.size w w' :=
  (refSub_at ha hb hm hle).mono fun _ _ ⟨⟨v, h1, h2, _⟩, h3⟩ => ⟨⟨v, h1, h2⟩, h3⟩

theorem cmpI_ge {a b : Int} (h : b ≤ a) : 0 ≤ cmpI a b := by unfold cmpI; rw [if_neg (by omega)]; split <;> omega
theorem cmpI_lt {a b : Int} (h : a < b) : cmpI a b = -1 := by unfold cmpI; rw [if_pos h]
theorem cmpI_gt {a b : Int} (h : b < a) : cmpI a b = 1 := by unfold cmpI; rw [if_neg (by omega), if_pos h]
theorem cmpI_eq (a : Int) : cmpI a a = 0 := by unfold cmpI; rw [if_neg (by omega), if_neg (by omega)]

theorem refSub_any {va vb : Value} {m n : Nat} {w : World} (ha : IsRef w va m) (hb : IsRef w vb n) (hm : m < maxN) (hle : n ≤ m) :
    Calls Tryd.prog 45 #[va, vb] w fun e w' => (∃ v, e = .returned v ∧ IsRef w' v (m - n)) ∧ Below w.heap.size w w' := refSub_wide ha hb (by omega) hle

theorem refCmp_ref {va vb : Value} {m n : Nat} {w : World} (ha : IsRef w va m) (hb : IsRef w vb n) (hm : m < 256 * maxN) (hn : n < 256 * maxN) :
    Calls Tryd.prog 43 #[va, vb] w fun e w' => e = .returned (.int .i64 (cmpI m n)) ∧ w' = w := by
  obtain ⟨xs, ⟨p1, K1, rfl, at1⟩, c1, rfl⟩ := ha
  obtain ⟨ys, ⟨p2, K2, rfl, at2⟩, c2, rfl⟩ := hb
  have hl1 := ref_len9 c1 hm
  have hl2 := ref_len9 c2 hn
  exact refCmp_any p1 p2 K1 K2 xs ys w at1 at2 c1.1 c2.1 (by omega) (by omega)

end Go.Proofs.YtcopfjooopindaaDoor
