/-
  limbs.Sub: one less the other, digit by digit.
-/
import Derived.Test.YtphhaaofkckobaaDoorCmp
namespace Go.Proofs.YtphhaaofkckobaaDoor
open Go.RowKit

theorem sub_step (cs xs ys : List Nat) (k c N : Nat) (hk : k < cs.length) (hky : k < ys.length) (he : dg cs k = dg xs k) (hx : dg xs k < 4294967296) (hy : dg ys k < 4294967296) (hc : c ≤ 1)
    (hv : val 4294967296 cs = N + c * 4294967296 ^ k + 4294967296 ^ k * val 4294967296 (ys.drop k)) :
    val 4294967296 (cs.set k (subD (dg xs k) (dg ys k) c)) = N + subB (dg xs k) (dg ys k) c * 4294967296 ^ (k + 1) + 4294967296 ^ (k + 1) * val 4294967296 (ys.drop (k + 1)) := by
  have h1 := val_set 4294967296 cs k (subD (dg xs k) (dg ys k) c) hk
  have h2 := val_drop 4294967296 hky
  have h3 := (subD_eq _ _ _ hx hy hc).1
  rw [he] at h1
  rw [Nat.pow_succ]
  generalize (4294967296 : Nat) ^ k = p at *
  generalize subD (dg xs k) (dg ys k) c = s at *
  generalize subB (dg xs k) (dg ys k) c = d at *
  grind

theorem sub_step0 (cs : List Nat) (k c N : Nat) (hk : k < cs.length) (hx : dg cs k < 4294967296) (hc : c ≤ 1) (hv : val 4294967296 cs = N + c * 4294967296 ^ k) :
    val 4294967296 (cs.set k (subD (dg cs k) 0 c)) = N + subB (dg cs k) 0 c * 4294967296 ^ (k + 1) := by
  have h1 := val_set 4294967296 cs k (subD (dg cs k) 0 c) hk
  have h3 := (subD_eq (dg cs k) 0 c hx (by decide) hc).1
  rw [Nat.pow_succ]
  generalize (4294967296 : Nat) ^ k = p at *
  generalize subD (dg cs k) 0 c = s at *
  generalize subB (dg cs k) 0 c = d at *
  grind

theorem sub_over (cs : List Nat) (k c N : Nat) (hcs : Dig 4294967296 cs) (hk : cs.length ≤ k) (hv : val 4294967296 cs = N + c * 4294967296 ^ k) : c = 0 := by
  have h1 := val_lt hcs
  have h3 := Nat.pow_le_pow_right (n := 4294967296) (by decide) hk
  by_cases h0 : c = 0
  · exact h0
  · have := Nat.mul_le_mul_right (4294967296 ^ k) (show 1 ≤ c by omega)
    omega

/-- What a call that may be too little answers. -/
def Less (m n : Nat) (w' : World) (v : Value) (c : Int) : Prop := (n ≤ m → c = 0 ∧ IsNat w' v (m - n)) ∧ (m < n → v = .slice none 0 0 ∧ c = 12)

set_option maxRecDepth 100000 in
set_option maxHeartbeats 2000000 in
theorem sub_any {va vb : Value} {m n : Nat} {w : World} (ha : IsNat w va m) (hb : IsNat w vb n) (hm : m < maxN) (hn : n < maxN) :
    Calls Tryd.prog 17 #[va, vb] w fun e w' => (∃ v c, e = .returned (.tuple #[v, .int .i64 c]) ∧ Less m n w' v c) ∧ Below w.heap.size w w' := by
  obtain ⟨ds, hv1, hc1, rfl⟩ := ha
  obtain ⟨es, hv2, hc2, rfl⟩ := hb
  have hl1 : ds.length ≤ 512 := hc1.len_max.2 hm
  have hl2 : es.length ≤ 512 := hc2.len_max.2 hn
  clear hm hn
  have C1 := trim_any hv1 (by omega)
  rw [hc1.2] at C1
  have H1 := Lib.hid C1
  have C2 : ∀ W, Below w.heap.size w W → Calls Tryd.prog 35 #[vb] W fun e w' => (∃ v, e = .returned v ∧ Nums .u32 w' v es) ∧ Below W.heap.size W w' := fun W hW => by
    have := trim_any (hv2.below hW (Nat.le_refl _)) (by omega)
    rwa [hc2.2] at this
  have H2 := Lib.hid C2
  obtain ⟨q1, k1, rfl, -⟩ := hv1
  obtain ⟨q2, k2, rfl, -⟩ := hv2
  clear C1 C2
  go_enter Tryd.func17, Tryd.ntmps17
  go_wp2_with fail
  refine H1.out.mono ?_
  rintro e w1 ⟨⟨v1, rfl, hr1⟩, hB1⟩
  go_wp2_with fail
  refine (H2.out _ hB1).mono ?_
  rintro e w2 ⟨⟨v2, rfl, hr2⟩, hB2⟩
  have hB : Below w.heap.size w w2 := hB1.trans (hB2.mono hB1.size)
  have hr1 := hr1.below hB2 (Nat.le_refl _)
  clear H1 H2 hB1 hB2
  have C := compare_any hr1 hr2 hc1 hc2 hl1 hl2
  have HC := Lib.hid C
  clear C
  obtain ⟨p1, K1, rfl, at1⟩ := hr1
  obtain ⟨p2, K2, rfl, at2⟩ := hr2
  by_cases hle : val 4294967296 es ≤ val 4294967296 ds
  · have hcz : ¬ cmpI (val 4294967296 ds) (val 4294967296 es) < 0 := by unfold cmpI; rw [if_neg (by omega)]; split <;> omega
    have hll : es.length ≤ ds.length := by
      rcases Nat.lt_or_ge ds.length es.length with h | h
      · have := hc1.lt_of_len (by decide) hc2 h; omega
      · exact h
    have HL := Lib.hid hle
    clear hle
    generalize cmpI (val 4294967296 ds) (val 4294967296 es) = cc at *
    go_wp2_with fail
    refine HC.out.mono ?_
    rintro e w3 ⟨rfl, hB3⟩
    have hBx := hB.trans (hB3.mono hB.size)
    have at1 := at1.below hB3 (Nat.le_refl _)
    have at2 := at2.below hB3 (Nat.le_refl _)
    clear HC hB hB3
    obtain ⟨wb, rfl⟩ : ∃ wb : World, wb = w3 := ⟨_, rfl⟩
    go_upto_region 5 with (at_make; refine make_nat rfl _ _ rfl _ _ ds.length rfl rfl ?hL ?hC ?hn wb.heap.size wb (Below.refl _ _) (Nat.le_refl _) (fun w3 hr3 hB3 hB3' => ?_))
    case hL => rfl
    case hC => rfl
    case hn => omega
    have at1' := at1.below hB3 (Nat.le_refl _)
    go_upto_region 6 with (refine copy_nat rfl (.tmp 22) (.tmp 23) rfl wb.heap.size _ _ ds _ _ _ _ rfl rfl ?hd ?hs hr3 at1' ?hle wb.heap.size wb hB3 (Nat.le_refl _) (fun w4 hr4 hB4 => ?_))
    case hd => simp
    case hs => rfl
    case hle => simp
    have hr4 : Row .u32 35 w4 wb.heap.size ds := by simpa using hr4
    clear hr3 hB3 hB3' at1'
    have A32 := Lib.hid (fun x y c W hx hy hc => sub32 x y c W hx hy hc)
    go_wp2_with fail
    go_loopw [7, 27] (fun sc si wr => ∃ (k c : Nat) (cs : List Nat), k ≤ es.length ∧ si = .int .i64 k ∧ sc = .int .u32 c ∧ c ≤ 1 ∧ cs.length = ds.length ∧ Dig 4294967296 cs ∧ (∀ j, k ≤ j → j < ds.length → dg cs j = dg ds j) ∧
      Hid (val 4294967296 cs = (val 4294967296 ds - val 4294967296 es) + c * 4294967296 ^ k + 4294967296 ^ k * val 4294967296 (es.drop k)) ∧ Row .u32 35 wr wb.heap.size cs ∧ Below wb.heap.size wb wr) (fun _ si _ => es.length - (intOf si).toNat)
    case atStart =>
      exact ⟨0, 0, ds, by omega, rfl, rfl, by omega, rfl, hc1.1, fun j _ hj => rfl, by show _ = _; have := HL.out; simp; omega, hr4, hB4⟩
    case round =>
      obtain ⟨k, c, cs, hk, rfl, rfl, hc, hcl, hcd, hcx, hval, hrow, hBr⟩ := hrel
      by_cases hlt : k < es.length
      · obtain ⟨b1, o1, rfl, hk1, hb1, hx1⟩ := at1.pos (by omega)
        obtain ⟨b2, o2, rfl, hk2, hb2, hy2⟩ := at2.pos (by omega)
        have hx := (hBr.cell (p := ⟨b1, o1 + k, none⟩) hb1).trans (hx1 k (by omega))
        have hy := (hBr.cell (p := ⟨b2, o2 + k, none⟩) hb2).trans (hy2 k (by omega))
        have ho := hrow.cell (j := k) (by omega)
        have hf := hrow.free k
        have hdx : dg ds k < 4294967296 := hc1.1.dg (by decide) k
        have hdy : dg es k < 4294967296 := hc2.1.dg (by decide) k
        have hlk : (k : Int) < ((ds.length : Nat) : Int) := by omega
        have E := Lib.hid (hcx k (Nat.le_refl _) (by omega))
        have HC := Lib.hid hcx
        have HLn := Lib.hid hcl
        have hrowH := Lib.hid hrow
        clear hx1 hy2 hcx hcl hrow
        go_wp2_with (go_at_call 40; refine (A32.out _ _ _ _ hdx hdy hc).mono ?_; rintro e w' ⟨rfl, rfl⟩)
        have hcl := HLn.out
        obtain ⟨s1, s2, s3⟩ := subD_eq _ _ _ hdx hdy hc
        go_roundw
        case rel =>
          refine ⟨k + 1, subB (dg ds k) (dg es k) c, cs.set k (subD (dg ds k) (dg es k) c), by omega, by go_num, rfl, s3, by simpa using hcl, hcd.set _ s2, fun j h1 h2 => ?_, sub_step cs ds es k c _ (by omega) hlt E.out hdx hdy hc hval.out, ?_, ?_⟩
          · rw [dg_set _ _ _ _ (by omega), if_neg (by omega)]; exact HC.out j (by omega) h2
          · exact hrowH.out.set k (subD (dg ds k) (dg es k) c) (by omega)
          · exact hBr.setCell (p := ⟨wb.heap.size, k, none⟩) (Nat.le_refl _) _
        case measure => simp [intOf]; omega
      · have hky : k = es.length := by omega
        have hv0 : val 4294967296 cs = (val 4294967296 ds - val 4294967296 es) + c * 4294967296 ^ k := by
          have h1 := hval.out
          rw [hky] at h1 ⊢
          rw [List.drop_length] at h1
          simpa [val] using h1
        have HV0 := Lib.hid hv0
        have Hky := Lib.hid hky
        clear hv0 hky hval hcx
        have hlt' : ¬ (k : Int) < ((es.length : Nat) : Int) := by omega
        have hY512 : es.length ≤ 512 := by omega
        go_wp2_with fail
        go_loopw [7, 10] (fun sc si wr2 => ∃ (k c : Nat) (cs : List Nat), k ≤ ds.length ∧ si = .int .i64 k ∧ sc = .int .u32 c ∧ c ≤ 1 ∧ cs.length = ds.length ∧ Dig 4294967296 cs ∧
          Hid (val 4294967296 cs = (val 4294967296 ds - val 4294967296 es) + c * 4294967296 ^ k) ∧ Row .u32 35 wr2 wb.heap.size cs ∧ Below wb.heap.size wb wr2) (fun _ si _ => ds.length - (intOf si).toNat)
        case atStart => exact ⟨k, c, cs, by omega, by rw [Hky.out], rfl, hc, hcl, hcd, HV0, hrow, hBr⟩
        case round =>
          clear hrow hBr hcl hcd HV0
          obtain ⟨k2, c2, cs2, hk2, rfl, rfl, hc2', hcl2, hcd2, hval2, hrow2, hBr2⟩ := hrel
          by_cases hpos : 0 < c2
          · have hklt : k2 < ds.length := by
              by_cases h : k2 < ds.length
              · exact h
              · have := sub_over cs2 k2 c2 _ hcd2 (by omega) hval2.out
                omega
            have ho := hrow2.cell (j := k2) (by omega)
            have hf := hrow2.free k2
            have hdx : dg cs2 k2 < 4294967296 := hcd2.dg (by decide) k2
            have hlk : (k2 : Int) < ((ds.length : Nat) : Int) := by omega
            have HLn := Lib.hid hcl2
            have hrowH := Lib.hid hrow2
            clear hcl2 hrow2
            go_wp2_with (go_at_call 40; refine (A32.out _ 0 _ _ hdx (by decide) hc2').mono ?_; rintro e w' ⟨rfl, rfl⟩)
            have hcl2 := HLn.out
            obtain ⟨s1, s2, s3⟩ := subD_eq _ 0 _ hdx (by decide) hc2'
            go_roundw
            case rel =>
              refine ⟨k2 + 1, subB (dg cs2 k2) 0 c2, cs2.set k2 (subD (dg cs2 k2) 0 c2), by omega, by go_num, rfl, s3, by simpa using hcl2, hcd2.set _ s2, sub_step0 cs2 k2 c2 _ (by omega) hdx hc2' hval2.out, ?_, ?_⟩
              · exact hrowH.out.set k2 (subD (dg cs2 k2) 0 c2) (by omega)
              · exact hBr2.setCell (p := ⟨wb.heap.size, k2, none⟩) (Nat.le_refl _) _
            case measure => simp [intOf]; omega
          · have h0 : c2 = 0 := by omega
            subst h0
            have hn := hrow2.all ds.length (by omega)
            rw [hcl2] at hn
            have W := Lib.hid (within_any hn (by omega))
            have HV2 := Lib.hid (show val 4294967296 (cut cs2) = val 4294967296 ds - val 4294967296 es by
              rw [val_cut]; have := hval2.out; simpa using this)
            have HB := Lib.hid (hBx.trans (hBr2.mono hBx.size))
            have hlen5 : (cut cs2).length ≤ 512 := by have := cut_le cs2; omega
            clear hrow2 hcl2 hn hval2 hBr2
            go_wp2_with (go_at_call 37; refine W.out.mono ?_; rintro e w5 ⟨⟨v5, c5, rfl, hfit⟩, hB5⟩)
            go_ret2
            refine ⟨⟨_, _, rfl, fun _ => ?_, fun h => by have := HL.out; omega⟩, HB.out.trans (hB5.mono HB.out.size)⟩
            obtain ⟨h1, h2⟩ := hfit.1 hlen5
            exact ⟨h1, _, h2, can_cut hcd2, HV2.out⟩
  · have hcz : cmpI (val 4294967296 ds) (val 4294967296 es) < 0 := by unfold cmpI; rw [if_pos (by omega)]; omega
    generalize cmpI (val 4294967296 ds) (val 4294967296 es) = cc at *
    go_wp2_with (go_at_call 25; refine HC.out.mono ?_; rintro e w3 ⟨rfl, hB3⟩)
    go_ret2
    exact ⟨⟨_, _, rfl, fun h => absurd h hle, fun _ => ⟨rfl, rfl⟩⟩, hB.trans (hB3.mono hB.size)⟩

end Go.Proofs.YtphhaaofkckobaaDoor
