/-
  What the statement stands on.
-/
import Derived.Test.YtcfgefbkeeedgaaGreatM05
import Derived.Test.YtcfgefbkeeedgaaGreatM11
import Derived.Deep.DeepMust
namespace Go.Proofs.YtcfgefbkeeedgaaGreat
open Go.RowKit
theorem add_step (cs xs ys : List Nat) (k c N : Nat) (hk : k < cs.length) (hky : k < ys.length) (he : dg cs k = dg xs k)
    (hv : val 4294967296 cs + c * 4294967296 ^ k + 4294967296 ^ k * val 4294967296 (ys.drop k) = N) :
    val 4294967296 (cs.set k ((dg xs k + dg ys k + c) % 4294967296)) + (dg xs k + dg ys k + c) / 4294967296 * 4294967296 ^ (k + 1) + 4294967296 ^ (k + 1) * val 4294967296 (ys.drop (k + 1)) = N := by
  have h1 := val_set 4294967296 cs k ((dg xs k + dg ys k + c) % 4294967296) hk
  have h2 := val_drop 4294967296 hky
  have h3 := Nat.div_add_mod (dg xs k + dg ys k + c) 4294967296
  rw [he] at h1
  rw [Nat.pow_succ]
  generalize (4294967296 : Nat) ^ k = p at *
  generalize (dg xs k + dg ys k + c) % 4294967296 = s at *
  generalize (dg xs k + dg ys k + c) / 4294967296 = d at *
  grind
theorem add_step0 (cs : List Nat) (k c N : Nat) (hk : k < cs.length) (hv : val 4294967296 cs + c * 4294967296 ^ k = N) :
    val 4294967296 (cs.set k ((dg cs k + 0 + c) % 4294967296)) + (dg cs k + 0 + c) / 4294967296 * 4294967296 ^ (k + 1) = N := by
  have h1 := val_set 4294967296 cs k ((dg cs k + 0 + c) % 4294967296) hk
  have h3 := Nat.div_add_mod (dg cs k + 0 + c) 4294967296
  rw [Nat.pow_succ]
  generalize (4294967296 : Nat) ^ k = p at *
  generalize (dg cs k + 0 + c) % 4294967296 = s at *
  generalize (dg cs k + 0 + c) / 4294967296 = d at *
  grind
@[irreducible] def maxN : Nat := 4294967296 ^ 512
theorem Can.len_max {ds : List Nat} (h : Can 4294967296 ds) : ds.length ≤ 512 ↔ val 4294967296 ds < maxN := by unfold maxN; exact h.len_le (by decide) 512
def FitsN (n : Nat) (w' : World) (v : Value) (c : Int) : Prop := (n < maxN → c = 0 ∧ IsNat w' v n) ∧ (maxN ≤ n → v = .slice none 0 0 ∧ c = 11)
theorem Fits.num {ds : List Nat} {w' : World} {v : Value} {c : Int} {n : Nat} (h : Fits ds w' v c) (hc : Can 4294967296 ds) (hv : val 4294967296 ds = n) : FitsN n w' v c := by
  have hl := hc.len_max
  rw [hv] at hl
  refine ⟨fun hn => ?_, fun hn => h.2 ?_⟩
  · obtain ⟨h1, hr⟩ := h.1 (hl.2 hn)
    exact ⟨h1, ds, hr, hc, hv⟩
  · omega
theorem add_over (cs xs ys : List Nat) (k c : Nat) (hx : Dig 4294967296 xs) (hy : Dig 4294967296 ys) (hle : ys.length ≤ xs.length) (hk : xs.length + 1 ≤ k)
    (hv : val 4294967296 cs + c * 4294967296 ^ k = val 4294967296 xs + val 4294967296 ys) : c = 0 := by
  have h1 := val_lt hx
  have h2 := Nat.lt_of_lt_of_le (val_lt hy) (Nat.pow_le_pow_right (n := 4294967296) (by decide) hle)
  have h3 := Nat.pow_le_pow_right (n := 4294967296) (by decide) hk
  rw [Nat.pow_succ] at h3
  by_cases h0 : c = 0
  · exact h0
  · have := Nat.mul_le_mul_right (4294967296 ^ k) (show 1 ≤ c by omega)
    omega
set_option maxRecDepth 100000 in
set_option maxHeartbeats 2000000 in
theorem add_any {va vb : Value} {m n : Nat} {w : World} (ha : IsNat w va m) (hb : IsNat w vb n) (hm : m < maxN) (hn : n < maxN) :
    Calls Tryz.prog 104 #[va, vb] w fun e w' => (∃ v c, e = .returned (.tuple #[v, .int .i64 c]) ∧ FitsN (m + n) w' v c) ∧ Below w.heap.size w w' := by
  obtain ⟨ds, hv1, hc1, rfl⟩ := ha
  obtain ⟨es, hv2, hc2, rfl⟩ := hb
  have hl1 : ds.length ≤ 512 := hc1.len_max.2 hm
  have hl2 : es.length ≤ 512 := hc2.len_max.2 hn
  clear hm hn
  have C1 := trim_any hv1 (by omega)
  rw [hc1.2] at C1
  have C1 := Lib.hid C1
  have C2 : ∀ W, Below w.heap.size w W → Calls Tryz.prog 45 #[vb] W fun e w' => (∃ v, e = .returned v ∧ Nums .u32 w' v es) ∧ Below W.heap.size W w' := fun W hW => by
    have := trim_any (hv2.below hW (Nat.le_refl _)) (by omega)
    rwa [hc2.2] at this
  have C2 := Lib.hid C2
  obtain ⟨q1, k1, rfl, -⟩ := hv1
  obtain ⟨q2, k2, rfl, -⟩ := hv2
  go_enter Tryz.func104, Tryz.ntmps104
  go_wp2_with fail
  refine C1.out.mono ?_
  rintro e w1 ⟨⟨v1, rfl, hr1⟩, hB1⟩
  go_wp2_with fail
  refine (C2.out _ hB1).mono ?_
  rintro e w2 ⟨⟨v2, rfl, hr2⟩, hB2⟩
  have hB : Below w.heap.size w w2 := hB1.trans (hB2.mono hB1.size)
  have hr1 := hr1.below hB2 (Nat.le_refl _)
  clear C1 C2 hB1 hB2
  obtain ⟨p1, c1, rfl, at1⟩ := hr1
  obtain ⟨p2, c2, rfl, at2⟩ := hr2
  go_upto_if 19 with fail
  go_cut [0, 1] (fun s0 s1 wx => ∃ (X Y : List Nat) (P1 P2 : Option Addr) (K1 K2 : Nat), s0 = .slice P1 X.length K1 ∧ s1 = .slice P2 Y.length K2 ∧ At .u32 wx P1 K1 X ∧ At .u32 wx P2 K2 Y ∧ Can 4294967296 X ∧ Can 4294967296 Y ∧
    Y.length ≤ X.length ∧ X.length ≤ 512 ∧ Hid (val 4294967296 X + val 4294967296 Y = val 4294967296 ds + val 4294967296 es) ∧ wx = w2)
  case first =>
    go_wp2
    · go_meet
      case rel => exact ⟨es, ds, _, _, _, _, rfl, rfl, at2, at1, hc2, hc1, by omega, hl2, Nat.add_comm _ _, rfl⟩
    · go_meet
      case rel => exact ⟨ds, es, _, _, _, _, rfl, rfl, at1, at2, hc1, hc2, by omega, hl1, rfl, rfl⟩
  case rest =>
    clear at1 at2
    obtain ⟨X, Y, P1, P2, K1, K2, rfl, rfl, at1, at2, hX, hY, hle, hl, HV, rfl⟩ := hcut
    obtain ⟨wb, rfl⟩ : ∃ wb : World, wb = wc := ⟨_, rfl⟩
    have hB0 := hB
    go_upto_region 7 with (at_make; refine make_nat rfl _ _ rfl _ _ (X.length + 1) rfl rfl ?hL ?hC ?hn wb.heap.size wb (Below.refl _ _) (Nat.le_refl _) (fun w3 hr3 hB3 hB3' => ?_))
    case hL => omega
    case hC => omega
    case hn => omega
    have at1' := at1.below hB3 (Nat.le_refl _)
    go_upto_region 8 with (refine copy_nat rfl (.tmp 29) (.tmp 30) rfl wb.heap.size _ _ X _ _ _ _ rfl rfl ?hd ?hs hr3 at1' ?hle wb.heap.size wb hB3 (Nat.le_refl _) (fun w4 hr4 hB4 => ?_))
    case hd => simp
    case hs => rfl
    case hle => simp
    have hr4 : Row .u32 88 w4 wb.heap.size (X ++ [0]) := by simpa using hr4
    clear hr3 hB3 hB3' at1'
    have A32 := Lib.hid (fun x y c W hx hy hc => add32 x y c W hx hy hc)
    go_wp2_with fail
    go_loopw [7, 34] (fun sc si wr => ∃ (k c : Nat) (cs : List Nat), k ≤ Y.length ∧ si = .int .i64 k ∧ sc = .int .u32 c ∧ c ≤ 1 ∧ cs.length = X.length + 1 ∧ Dig 4294967296 cs ∧ (∀ j, k ≤ j → j < X.length → dg cs j = dg X j) ∧
      Hid (val 4294967296 cs + c * 4294967296 ^ k + 4294967296 ^ k * val 4294967296 (Y.drop k) = val 4294967296 ds + val 4294967296 es) ∧ Row .u32 88 wr wb.heap.size cs ∧ Below wb.heap.size wb wr) (fun _ si _ => Y.length - (intOf si).toNat)
    case atStart =>
      exact ⟨0, 0, X ++ [0], by omega, rfl, rfl, by omega, by simp, hX.1.append (Dig.cons (by decide) fun _ h => nomatch h), fun j _ hj => dg_append_left _ hj, by show _ = _; rw [val_append]; simp [val]; exact HV, hr4, hB4⟩
    case round =>
      obtain ⟨k, c, cs, hk, rfl, rfl, hc, hcl, hcd, hcx, hval, hrow, hBr⟩ := hrel
      by_cases hlt : k < Y.length
      · obtain ⟨b1, o1, rfl, hk1, hb1, hx1⟩ := at1.pos (by omega)
        obtain ⟨b2, o2, rfl, hk2, hb2, hy2⟩ := at2.pos (by omega)
        have hx := (hBr.cell (p := ⟨b1, o1 + k, none⟩) hb1).trans (hx1 k (by omega))
        have hy := (hBr.cell (p := ⟨b2, o2 + k, none⟩) hb2).trans (hy2 k (by omega))
        have ho := hrow.cell (j := k) (by omega)
        have hf := hrow.free k
        have hdx : dg X k < 4294967296 := hX.1.dg (by decide) k
        have hdy : dg Y k < 4294967296 := hY.1.dg (by decide) k
        have hlk : (k : Int) < ((X.length : Nat) : Int) + 1 := by omega
        have E := Lib.hid (hcx k (Nat.le_refl _) (by omega))
        have HC := Lib.hid hcx
        have HL := Lib.hid hcl
        have hrowH := Lib.hid hrow
        clear hx1 hy2 hcx hcl hrow
        go_wp2_with (go_at_call 114; refine (A32.out _ _ _ _ hdx hdy (by omega)).mono ?_; rintro e w' ⟨rfl, rfl⟩)
        have hcl := HL.out
        go_roundw
        case rel =>
          refine ⟨k + 1, (dg X k + dg Y k + c) / 4294967296, cs.set k ((dg X k + dg Y k + c) % 4294967296), by omega, by go_num, by go_num, by omega, by simpa using hcl, hcd.set _ (Nat.mod_lt _ (by decide)), fun j h1 h2 => ?_, add_step cs X Y k c _ (by omega) hlt E.out hval, ?_, ?_⟩
          · rw [dg_set _ _ _ _ (by omega), if_neg (by omega)]; exact HC.out j (by omega) h2
          · have := hrowH.out.set k ((dg X k + dg Y k + c) % 4294967296) (by omega)
            exact this
          · exact hBr.setCell (p := ⟨wb.heap.size, k, none⟩) (Nat.le_refl _) _
        case measure => simp [intOf]; omega
      · have hky : k = Y.length := by omega
        have hv0 : val 4294967296 cs + c * 4294967296 ^ k = val 4294967296 ds + val 4294967296 es := by
          have h1 := hval.out
          rw [hky] at h1 ⊢
          rw [List.drop_length] at h1
          simpa [val] using h1
        have HV0 := Lib.hid hv0
        have Hky := Lib.hid hky
        clear hv0 hky hval hcx
        have hlt' : ¬ (k : Int) < ((Y.length : Nat) : Int) := by omega
        have hY512 : Y.length ≤ 512 := by omega
        go_wp2_with fail
        go_loopw [7, 10] (fun sc si wr2 => ∃ (k c : Nat) (cs : List Nat), k ≤ X.length + 1 ∧ si = .int .i64 k ∧ sc = .int .u32 c ∧ c ≤ 1 ∧ cs.length = X.length + 1 ∧ Dig 4294967296 cs ∧
          Hid (val 4294967296 cs + c * 4294967296 ^ k = val 4294967296 ds + val 4294967296 es) ∧ Row .u32 88 wr2 wb.heap.size cs ∧ Below wb.heap.size wb wr2) (fun _ si _ => X.length + 1 - (intOf si).toNat)
        case atStart => exact ⟨k, c, cs, by omega, by rw [Hky.out], rfl, hc, hcl, hcd, HV0, hrow, hBr⟩
        case round =>
          clear hrow hBr hcl hcd HV0
          obtain ⟨k2, c2, cs2, hk2, rfl, rfl, hc2, hcl2, hcd2, hval2, hrow2, hBr2⟩ := hrel
          by_cases hpos : 0 < c2
          · have hklt : k2 < X.length + 1 := by
              by_cases h : k2 < X.length + 1
              · exact h
              · have := add_over cs2 X Y k2 c2 hX.1 hY.1 hle (by omega) (hval2.out.trans HV.out.symm)
                omega
            have ho := hrow2.cell (j := k2) (by omega)
            have hf := hrow2.free k2
            have hdx : dg cs2 k2 < 4294967296 := hcd2.dg (by decide) k2
            have hlk : (k2 : Int) < ((X.length : Nat) : Int) + 1 := by omega
            have HL := Lib.hid hcl2
            have hrowH := Lib.hid hrow2
            clear hcl2 hrow2
            go_wp2_with (go_at_call 114; refine (A32.out _ 0 _ _ hdx (by decide) (by omega)).mono ?_; rintro e w' ⟨rfl, rfl⟩)
            have hcl2 := HL.out
            go_roundw
            case rel =>
              refine ⟨k2 + 1, (dg cs2 k2 + 0 + c2) / 4294967296, cs2.set k2 ((dg cs2 k2 + 0 + c2) % 4294967296), by omega, by go_num, by go_num, by omega, by simpa using hcl2, hcd2.set _ (Nat.mod_lt _ (by decide)), add_step0 cs2 k2 c2 _ (by omega) hval2.out, ?_, ?_⟩
              · have := hrowH.out.set k2 ((dg cs2 k2 + 0 + c2) % 4294967296) (by omega)
                exact this
              · exact hBr2.setCell (p := ⟨wb.heap.size, k2, none⟩) (Nat.le_refl _) _
            case measure => simp [intOf]; omega
          · have h0 : c2 = 0 := by omega
            subst h0
            have hn := hrow2.all (X.length + 1) (by omega)
            rw [hcl2] at hn
            have W := Lib.hid (within_any hn (by omega))
            have HV2 := Lib.hid (show val 4294967296 (cut cs2) = val 4294967296 ds + val 4294967296 es by
              rw [val_cut]; have := hval2.out; simpa using this)
            have HB := Lib.hid (hB0.trans (hBr2.mono hB0.size))
            clear hrow2 hcl2 hn hval2 hBr2
            go_wp2_with (go_at_call 82; refine W.out.mono ?_; rintro e w5 ⟨⟨v5, c5, rfl, hfit⟩, hB5⟩)
            go_ret2
            exact ⟨⟨_, _, rfl, hfit.num (can_cut hcd2) HV2.out⟩, HB.out.trans (hB5.mono HB.out.size)⟩
end Go.Proofs.YtcfgefbkeeedgaaGreat
namespace Go.Proofs.YtcfgefbkeeedgaaGreat
theorem maxN_two (q k : Nat) (hk : k = 512) (hq : q = 32 * k) : maxN = 2 ^ q := by
  rw [hq, Nat.pow_mul, show (2 : Nat) ^ 32 = 4294967296 from by decide]
  unfold maxN
  rw [hk]
end Go.Proofs.YtcfgefbkeeedgaaGreat
