/-
  What the statement stands on.
-/
import Derived.Test.YtcfgefbkeeedgaaGreatM12
import Derived.Deep.CutRange
import Derived.Deep.RegionWith
import Derived.Deep.RegionHeld3
namespace Go.Proofs.YtcfgefbkeeedgaaGreat
open Go.RowKit
section
attribute [local go_sem] Oper.semAt_some
set_option maxRecDepth 100000 in
set_option maxHeartbeats 2000000 in
theorem compare_any {va vb : Value} {ds es : List Nat} {w : World} (hv1 : Nums .u32 w va ds) (hv2 : Nums .u32 w vb es) (hc1 : Can 4294967296 ds) (hc2 : Can 4294967296 es) (hl1 : ds.length ≤ 512) (hl2 : es.length ≤ 512) :
    Calls Tryz.prog 27 #[va, vb] w fun e w' => e = .returned (.int .i64 (cmpI (val 4294967296 ds) (val 4294967296 es))) ∧ Below w.heap.size w w' := by
  have C1 : ∀ W, Below w.heap.size w W → Calls Tryz.prog 45 #[va] W fun e w' => (∃ v, e = .returned v ∧ Nums .u32 w' v ds) ∧ Below W.heap.size W w' := fun W hW => by
    have := trim_any (hv1.below hW (Nat.le_refl _)) (by omega)
    rwa [hc1.2] at this
  have C2 : ∀ W, Below w.heap.size w W → Calls Tryz.prog 45 #[vb] W fun e w' => (∃ v, e = .returned v ∧ Nums .u32 w' v es) ∧ Below W.heap.size W w' := fun W hW => by
    have := trim_any (hv2.below hW (Nat.le_refl _)) (by omega)
    rwa [hc2.2] at this
  have H1 := Lib.hid C1; clear C1
  have H2 := Lib.hid C2; clear C2
  obtain ⟨q1, k1, rfl, -⟩ := hv1
  obtain ⟨q2, k2, rfl, -⟩ := hv2
  refine calls_marks Tryz.func27 rfl ?_
  simp only [Tryz.ntmps27, List.size_toArray, List.length_cons, List.length_nil, Nat.reduceAdd, Nat.reduceSub, Array.replicate_succ, Array.replicate_zero, List.push_toArray, List.append_toArray, List.nil_append, List.cons_append]
  go_wp2_with fail
  have hbx : Below w.heap.size w ((w.alloc (.cells #[.slice q2 es.length k2] 35)).alloc (.cells #[.int .i64 0] 3)) := ((Below.refl _ w).alloc (Nat.le_refl _) _).alloc (by simp) _
  have c0 : ((w.alloc (.cells #[.slice q2 es.length k2] 35)).alloc (.cells #[.int .i64 0] 3)).cell? ⟨w.heap.size, 0, none⟩ = some (.slice q2 es.length k2) := by simp [go_sem]
  have c1 : ((w.alloc (.cells #[.slice q2 es.length k2] 35)).alloc (.cells #[.int .i64 0] 3)).cell? ⟨w.heap.size + 1, 0, none⟩ = some (.int .i64 0) := by simp [go_sem]
  have f0 : ((w.alloc (.cells #[.slice q2 es.length k2] 35)).alloc (.cells #[.int .i64 0] 3)).frozen? ⟨w.heap.size, 0, none⟩ = false := by simp [go_sem]
  have f1 : ((w.alloc (.cells #[.slice q2 es.length k2] 35)).alloc (.cells #[.int .i64 0] 3)).frozen? ⟨w.heap.size + 1, 0, none⟩ = false := by simp [go_sem]
  have hs : ((w.alloc (.cells #[.slice q2 es.length k2] 35)).alloc (.cells #[.int .i64 0] 3)).heap.size = w.heap.size + 2 := by simp
  generalize ((w.alloc (.cells #[.slice q2 es.length k2] 35)).alloc (.cells #[.int .i64 0] 3)) = w0 at *
  go_cut [0] from 7 to 36 (fun s0 wx => ∃ p1 p2 K1 K2, s0 = .slice p1 ds.length K1 ∧ At .u32 wx p1 K1 ds ∧ At .u32 wx p2 K2 es ∧ wx.cell? ⟨w.heap.size, 0, none⟩ = some (.slice p2 es.length K2) ∧ wx.cell? ⟨w.heap.size + 1, 0, none⟩ = some (.int .i64 0) ∧
    wx.frozen? ⟨w.heap.size + 1, 0, none⟩ = false ∧ Below w.heap.size w wx ∧ w.heap.size + 2 ≤ wx.heap.size)
  case first =>
    have hs' := Lib.hid hs
    clear hs
    have e0 : w.heap.size < w0.heap.size := by have := hs'.out; omega
    have e1 : w.heap.size + 1 < w0.heap.size := by have := hs'.out; omega
    refine wp_region_noPanic ?_
    go_region_with (first
      | (go_at_call_of 45 (Value.slice q1 ds.length k1); refine (H1.out _ (by exact hbx.drew)).mono ?_; rintro e w1 ⟨⟨v', rfl, p1, K1, rfl, at1⟩, hB1⟩; have d0 := (hB1.cell (p := ⟨w.heap.size, 0, none⟩) e0).trans c0; have d1 := (hB1.cell (p := ⟨w.heap.size + 1, 0, none⟩) e1).trans c1; have df0 := (hB1.frozen (p := ⟨w.heap.size, 0, none⟩) e0).trans f0; have df1 := (hB1.frozen (p := ⟨w.heap.size + 1, 0, none⟩) e1).trans f1; have hB1s := hB1.size)
      | (go_at_call_of 45 (Value.slice q2 es.length k2); refine (H2.out _ (by exact hbx.drew.trans (Below.mono ‹_› hbx.size))).mono ?_; rintro e w2 ⟨⟨v', rfl, p2, K2, rfl, at2⟩, hB2⟩; have hB12 := hB1.trans (hB2.mono hB1s); have at1' := at1.below hB2 (Nat.le_refl _); have d20 := (hB12.cell (p := ⟨w.heap.size, 0, none⟩) e0).trans c0; have d21 := (hB12.cell (p := ⟨w.heap.size + 1, 0, none⟩) e1).trans c1; have df20 := (hB12.frozen (p := ⟨w.heap.size, 0, none⟩) e0).trans f0; have df21 := (hB12.frozen (p := ⟨w.heap.size + 1, 0, none⟩) e1).trans f1; have hB2s := hB12.size))
    all_goals refine NoPanic.normal ?_
    all_goals
      (go_wp2_with fail
       go_meet
       case rel => exact ⟨p1, p2, K1, K2, rfl, at1'.other _ d20 (by intro n h; cases h), at2.other _ d20 (by intro n h; cases h), World.cell?_setCell_same' _ _ _ (by rw [d20]; rfl), (World.cell?_setCell_other _ _ _ _ (by simp)).trans d21, (World.frozen?_setCell _ _ _ _).trans df21, (hbx.drew.trans (hB12.mono hbx.size)).setCell (p := ⟨w.heap.size, 0, none⟩) (Nat.le_refl _) _, by simp; have := hs'.out; exact Nat.le_trans (Nat.le_of_eq (by simpa using this.symm)) hB2s⟩)
  case rest =>
    clear hbx c0 c1 f0 f1 hs H1 H2
    obtain ⟨p1, p2, K1, K2, rfl, at1, at2, c0, c1, f1, hB, hs⟩ := hcut
    obtain ⟨W0, rfl⟩ : ∃ W0 : World, W0 = wc := ⟨_, rfl⟩
    by_cases hlen : ds.length = es.length
    · have hl' : (((ds.length : Nat) : Int) != ((es.length : Nat) : Int)) = false := by simp [hlen]
      have HL := Lib.hid hlen
      have hk5 : ds.length ≤ 1000000 := by omega
      clear hlen
      go_wp2_with (go_at_call 63; refine (down_any _ _ _ _).mono ?_; rintro e w' ⟨rfl, rfl⟩)
      have c2 : (W0.alloc (.cells #[.slice p1 ds.length K1] 35)).cell? ⟨W0.heap.size, 0, none⟩ = some (.slice p1 ds.length K1) := by simp [go_sem]
      have hs2 : (W0.alloc (.cells #[.slice p1 ds.length K1] 35)).heap.size = W0.heap.size + 1 := by simp
      have hB2 := (Below.refl W0.heap.size W0).alloc (Nat.le_refl _) (.cells #[.slice p1 ds.length K1] 35)
      have at1 := at1.below hB2 (Nat.le_refl _)
      have at2 := at2.below hB2 (Nat.le_refl _)
      have c0 := (hB2.cell (p := ⟨w.heap.size, 0, none⟩) (by show w.heap.size < _; omega)).trans c0
      have c1 := (hB2.cell (p := ⟨w.heap.size + 1, 0, none⟩) (by show w.heap.size + 1 < _; omega)).trans c1
      have f1 := (hB2.frozen (p := ⟨w.heap.size + 1, 0, none⟩) (by show w.heap.size + 1 < _; omega)).trans f1
      have hB := hB.trans (hB2.mono hB.size)
      have hs : w.heap.size + 2 ≤ W0.heap.size := hs
      have Ebox : (some ⟨W0.heap.size, 0, none⟩ : Option Addr) = some ⟨W0.heap.size, 0, none⟩ := rfl
      generalize hbox : W0.heap.size = Bs at *
      generalize W0.alloc (.cells #[.slice p1 ds.length K1] 35) = W1 at *
      clear hbox Ebox
      refine rangePlain (gf := 89) (lb := #[.pointer (some ⟨Bs, 0, none⟩)]) rfl (enters_of Tryz.func89 (by kernel_rfl) rfl) ds.length _ (fun _ => rfl)
        (fun k W => Below W1.heap.size W1 W ∧ ∀ j, ds.length ≤ j + k → j < ds.length → dg ds j = dg es j)
        (fun c k W => ∃ i, c = .ret ∧ i < ds.length ∧ dg ds i ≠ dg es i ∧ (∀ j, i < j → j < ds.length → dg ds j = dg es j) ∧ W.cell? ⟨w.heap.size + 1, 0, none⟩ = some (.int .i64 (cmpI (dg ds i : Nat) (dg es i : Nat))) ∧ Below w.heap.size w W)
        (fun s W W' row hs hg hr => ⟨grown_below hs.1 hg hr (Nat.le_refl _) (Nat.le_refl _), hs.2⟩)
        (fun c s W W' row hs hg hr => by
          obtain ⟨i, h1, h2, h3, h4, h5, h6⟩ := hs
          exact ⟨i, h1, h2, h3, h4, cell_kept h5 hg (fun r e => (hr r e).2), grown_below h6 hg hr (by omega) (Nat.le_refl _)⟩)
        ⟨Below.refl _ _, fun j h1 h2 => by omega⟩
        (down_seq 2 Bs p1 K1 ds hk5 _ fun k W h => ⟨(h.1.cell (by show Bs < _; omega)).trans c2, at1.below h.1 (Nat.le_refl _)⟩)
        ?round ?done ?stop
      case round =>
        rintro l k W Wb hk ⟨hBb, hz⟩
        have c0' := (hBb.cell (p := ⟨w.heap.size, 0, none⟩) (by show w.heap.size < _; omega)).trans c0
        have c1' := (hBb.cell (p := ⟨w.heap.size + 1, 0, none⟩) (by show w.heap.size + 1 < _; omega)).trans c1
        have f1' := (hBb.frozen (p := ⟨w.heap.size + 1, 0, none⟩) (by show w.heap.size + 1 < _; omega)).trans f1
        obtain ⟨i, hi, hi'⟩ : ∃ i, ds.length - 1 - k = i ∧ i < ds.length := ⟨_, rfl, by omega⟩
        rw [hi]
        have hki : ds.length = i + k + 1 := by omega
        obtain ⟨b2, o2, rfl, hk2, hb2, hy2⟩ := at2.pos (by have := HL.out; omega)
        have hy := (hBb.cell (p := ⟨b2, o2 + i, none⟩) hb2).trans (hy2 i (by have := HL.out; omega))
        have hie : (i : Int) < ((es.length : Nat) : Int) := by have := HL.out; omega
        have Hk := Lib.hid hki
        clear hki hi hy2
        by_cases hd : dg ds i = dg es i
        · have hd' : (((dg ds i : Nat) : Int) != ((dg es i : Nat) : Int)) = false := by simp [hd]
          have H := Lib.hid hd; clear hd
          gi_wp2
          refine ⟨trivial, ?_⟩
          gi_wp2
          refine ⟨KeepsFrom.refl _ _, hBb, fun j h1 h2 => ?_⟩
          by_cases hj : j = i
          · rw [hj]; exact H.out
          · exact hz j (by have := Hk.out; omega) h2
        · have hd' : (((dg ds i : Nat) : Int) != ((dg es i : Nat) : Int)) = true := by simp; omega
          have H := Lib.hid hd; clear hd
          gi_wp2
          refine ⟨trivial, ?_⟩
          gi_wp2_with (gi_at_call 64; refine (CallsIn.inRound l (callsIn_wide.2 (cmp_u32 _ _ _))).mono ?_; rintro e w' ⟨rfl, rfl⟩)
          refine ⟨(KeepsOthers.setCell _ _ _).from _, i, rfl, hi', H.out, fun j h1 h2 => hz j (by have := Hk.out; omega) h2, ?_, ?_⟩
          · exact World.cell?_setCell_same' _ _ _ (by rw [c1']; rfl)
          · exact (hB.trans (hBb.mono hB.size)).setCell (p := ⟨w.heap.size + 1, 0, none⟩) (by simp) _
      case done =>
        rintro D W hD ⟨hBb, hz⟩ hK
        have c1' := (hBb.cell (p := ⟨w.heap.size + 1, 0, none⟩) (by show w.heap.size + 1 < _; omega)).trans c1
        have f1' := (hBb.frozen (p := ⟨w.heap.size + 1, 0, none⟩) (by show w.heap.size + 1 < _; omega)).trans f1
        have HE : cmpI (val 4294967296 ds) (val 4294967296 es) = 0 := by
          have : ds = es := list_ext_dg HL.out fun j hj => hz j (by omega) hj
          rw [this]; unfold cmpI; simp
        have HE := Lib.hid HE
        go_wp2
        have hK' := (KeepsOthers.setCell W ⟨w.heap.size + 1, 0, none⟩ (.int .i64 0)).same D _ hK rfl
        refine marks_ret (v := .int .i64 0) hK' ?_ ⟨ret_one (by rw [HE.out]), ?_⟩
        · have hc5 := put_cell hK' (World.cell?_setCell_same' W ⟨w.heap.size + 1, 0, none⟩ (.int .i64 0) (by rw [c1']; rfl))
          simp [results, Tryz.f27, go_sem, hc5]
        · have hB5 := (hB.trans (hBb.mono hB.size)).setCell (p := ⟨w.heap.size + 1, 0, none⟩) (by simp) (.int .i64 0)
          exact hB5.trans (put_below (by omega) hK' hB5.size)
      case stop =>
        rintro D c k W hD hk ⟨i, rfl, hi, hd, hz, hc1', hB'⟩ hK
        have HE : cmpI (dg ds i : Nat) (dg es i : Nat) = cmpI (val 4294967296 ds) (val 4294967296 es) := by
          rcases Nat.lt_or_gt_of_ne hd with h | h
          · have := val_lt_of_digit hc1.1 HL.out hi hz h
            unfold cmpI
            rw [if_pos (by omega), if_pos (by omega)]
          · have := val_lt_of_digit hc2.1 HL.out.symm (by have := HL.out; omega) (fun j h1 h2 => (hz j h1 (by have := HL.out; omega)).symm) h
            unfold cmpI
            rw [if_neg (by omega), if_pos (by omega), if_neg (by omega), if_pos (by omega)]
        rw [HE] at hc1'
        go_wp2
        refine marks_ret (v := .int .i64 (cmpI (val 4294967296 ds) (val 4294967296 es))) hK ?_ ⟨rfl, hB'.trans (put_below (by omega) hK hB'.size)⟩
        have hc5 := put_cell hK hc1'
        simp [results, Tryz.f27, go_sem, hc5]
    · have hl' : (((ds.length : Nat) : Int) != ((es.length : Nat) : Int)) = true := by simp; omega
      have HC : cmpI ((ds.length : Nat) : Int) ((es.length : Nat) : Int) = cmpI (val 4294967296 ds) (val 4294967296 es) := by
        rcases Nat.lt_or_gt_of_ne hlen with h | h
        · have := hc1.lt_of_len (by decide) hc2 h
          unfold cmpI
          rw [if_pos (by omega), if_pos (by omega)]
        · have := hc2.lt_of_len (by decide) hc1 h
          unfold cmpI
          rw [if_neg (by omega), if_pos (by omega), if_neg (by omega), if_pos (by omega)]
      have HC := Lib.hid HC
      clear hlen
      go_wp2_with (go_at_call 62; refine (cmp_int _ _ _).mono ?_; rintro e w' ⟨rfl, rfl⟩)
      have hc5 := World.cell?_setCell_same' W0 ⟨w.heap.size + 1, 0, none⟩ (.int .i64 (cmpI (val 4294967296 ds) (val 4294967296 es))) (by rw [c1]; rfl)
      refine marks_ret0 (v := .int .i64 (cmpI (val 4294967296 ds) (val 4294967296 es))) ?_ ⟨rfl, hB.setCell (p := ⟨w.heap.size + 1, 0, none⟩) (by simp) _⟩
      simp [results, Tryz.f27, go_sem, hc5]
end
theorem times_step (cs ys : List Nat) (off k d c N : Nat) (hk : off + k < cs.length) (hky : k < ys.length)
    (hv : val 4294967296 cs + c * 4294967296 ^ (off + k) + 4294967296 ^ (off + k) * (d * val 4294967296 (ys.drop k)) = N) :
    val 4294967296 (cs.set (off + k) ((d * dg ys k + dg cs (off + k) + c) % 4294967296)) + (d * dg ys k + dg cs (off + k) + c) / 4294967296 * 4294967296 ^ (off + (k + 1)) + 4294967296 ^ (off + (k + 1)) * (d * val 4294967296 (ys.drop (k + 1))) = N := by
  have h1 := val_set 4294967296 cs (off + k) ((d * dg ys k + dg cs (off + k) + c) % 4294967296) hk
  have h2 := val_drop 4294967296 hky
  have h3 := Nat.div_add_mod (d * dg ys k + dg cs (off + k) + c) 4294967296
  rw [show off + (k + 1) = off + k + 1 from rfl, Nat.pow_succ]
  generalize (4294967296 : Nat) ^ (off + k) = p at *
  generalize (d * dg ys k + dg cs (off + k) + c) % 4294967296 = s at *
  generalize (d * dg ys k + dg cs (off + k) + c) / 4294967296 = q at *
  grind
theorem times_carry (x y z c : Nat) (hx : x < 4294967296) (hy : y < 4294967296) (hz : z < 4294967296) (hc : c < 4294967296) : x * y ≤ 18446744065119617025 ∧ (x * y + z + c) / 4294967296 < 4294967296 := by
  have h : x * y ≤ 4294967295 * 4294967295 := Nat.mul_le_mul (by omega) (by omega)
  omega
def TimesPost (g off d : Nat) (cs ys : List Nat) (w : World) (e : Ending) (w' : World) : Prop := ∃ (c : Nat) (cs' : List Nat), e = .returned (.int .u32 c) ∧ c < 4294967296 ∧ cs'.length = cs.length ∧ Dig 4294967296 cs' ∧
  (∀ j, off + ys.length ≤ j → dg cs' j = dg cs j) ∧ val 4294967296 cs' + c * 4294967296 ^ (off + ys.length) = val 4294967296 cs + 4294967296 ^ off * (d * val 4294967296 ys) ∧ Row .u32 88 w' g cs' ∧ Only g w w'
set_option maxRecDepth 100000 in
set_option maxHeartbeats 1000000 in
theorem times_any (g off cap K2 d b2 o2 : Nat) (cs ys : List Nat) (w : World) (hrow : Row .u32 88 w g cs) (hcs : Dig 4294967296 cs) (hys : Dig 4294967296 ys) (hd : d < 4294967296) (hfit : off + ys.length ≤ cs.length) (hlen : cs.length ≤ 1000000)
    (hb2 : b2 < w.heap.size) (hne : b2 ≠ g) (hy2 : ∀ j, j < ys.length → w.cell? ⟨b2, o2 + j, none⟩ = some (.int .u32 ((dg ys j : Nat) : Int))) :
    Calls Tryz.prog 113 #[.slice (some ⟨g, off, none⟩) ys.length cap, .slice (some ⟨b2, o2, none⟩) ys.length K2, .int .u32 d] w (TimesPost g off d cs ys w) := by
  go_enter Tryz.func113, Tryz.ntmps113
  go_wp2_with fail
  go_loopw [7, 12] (fun sc si wr => ∃ (k c : Nat) (cs' : List Nat), k ≤ ys.length ∧ si = .int .i64 k ∧ sc = .int .u64 c ∧ c < 4294967296 ∧ cs'.length = cs.length ∧ Dig 4294967296 cs' ∧ (∀ j, off + k ≤ j → dg cs' j = dg cs j) ∧
      Hid (val 4294967296 cs' + c * 4294967296 ^ (off + k) + 4294967296 ^ (off + k) * (d * val 4294967296 (ys.drop k)) = val 4294967296 cs + 4294967296 ^ off * (d * val 4294967296 ys)) ∧ Row .u32 88 wr g cs' ∧ Only g w wr) (fun _ si _ => ys.length - (intOf si).toNat)
  case atStart => exact ⟨0, 0, cs, by omega, rfl, rfl, by omega, rfl, hcs, fun j _ => rfl, by show _ = _; simp, hrow, Only.refl _ _⟩
  case round =>
    clear hrow
    obtain ⟨k, c, cs', hk, rfl, rfl, hc, hcl, hcd, hcx, hval, hrow, hO⟩ := hrel
    by_cases hlt : k < ys.length
    · have hy := (hO.cell (a := ⟨b2, o2 + k, none⟩) hb2 hne).trans (hy2 k hlt)
      have ho := hrow.cell (j := off + k) (by omega)
      have hf := hrow.free (off + k)
      have hdy : dg ys k < 4294967296 := hys.dg (by decide) k
      have hdz : dg cs' (off + k) < 4294967296 := hcd.dg (by decide) (off + k)
      obtain ⟨hm, hcc⟩ := times_carry d (dg ys k) (dg cs' (off + k)) c hd hdy hdz hc
      have hm0 : (0 : Int) ≤ (d : Int) * (dg ys k : Int) := by rw [← Int.natCast_mul]; omega
      have hm1 : (d : Int) * (dg ys k : Int) ≤ 18446744065119617025 := by rw [← Int.natCast_mul]; omega
      have hli : (k : Int) < ((ys.length : Nat) : Int) := by omega
      have HC := Lib.hid hcx
      have HL := Lib.hid hcl
      have HM := Lib.hid hm
      have HCC := Lib.hid hcc
      have hrowH := Lib.hid hrow
      have HO := Lib.hid hO
      clear hcx hcl hm hcc hrow hO hy2; go_wp2_with fail
      go_quiet (fail)
      go_wp2_with fail
      have e1 : ((d : Int) * (dg ys k : Int) + (dg cs' (off + k) : Int) + (c : Int)) % 4294967296 = (((d * dg ys k + dg cs' (off + k) + c) % 4294967296 : Nat) : Int) := by simp
      have e2 : ((d : Int) * (dg ys k : Int) + (dg cs' (off + k) : Int) + (c : Int)) / 4294967296 = (((d * dg ys k + dg cs' (off + k) + c) / 4294967296 : Nat) : Int) := by simp
      rw [e1, e2]
      have hcl := HL.out
      refine ⟨⟨k + 1, (d * dg ys k + dg cs' (off + k) + c) / 4294967296, cs'.set (off + k) ((d * dg ys k + dg cs' (off + k) + c) % 4294967296), by omega, by go_num, rfl, HCC.out, by simpa using hcl, hcd.set _ (Nat.mod_lt _ (by decide)), fun j hj => ?_, times_step cs' ys off k d c _ (by omega) hlt hval.out, ?_, ?_⟩, by simp [intOf]; omega⟩
      · rw [dg_set _ _ _ _ (by omega), if_neg (by omega)]; exact HC.out j (by omega)
      · exact (hrowH.out.keep (w' := wr.drewN nq) rfl).set (off + k) _ (by omega)
      · exact (HO.out.drewN nq).set (off + k) _
    · have hky : k = ys.length := by omega
      have hv0 : val 4294967296 cs' + c * 4294967296 ^ (off + ys.length) = val 4294967296 cs + 4294967296 ^ off * (d * val 4294967296 ys) := by
        have h1 := hval.out
        rw [hky, List.drop_length] at h1
        simpa [val] using h1
      have HV0 := Lib.hid hv0
      have Hky := Lib.hid hky
      have hrowH := Lib.hid hrow
      have HC := Lib.hid hcx
      clear hv0 hky hval hrow hcx hy2
      have hlt' : ¬ (k : Int) < ((ys.length : Nat) : Int) := by omega
      go_wp2
      go_ret
      exact ⟨c, cs', ret_one (by show Value.int .u32 _ = Value.int .u32 _; congr 1), hc, hcl, hcd, fun j hj => HC.out j (by have := Hky.out; omega), HV0.out, hrowH.out, hO⟩
theorem maxN_le (k : Nat) (h : 512 ≤ k) : maxN ≤ 4294967296 ^ k := by
  have := Nat.pow_le_pow_right (n := 4294967296) (show 0 < 4294967296 by decide) h
  unfold maxN; exact this
theorem mul_over {xs ys : List Nat} (hx : Can 4294967296 xs) (hy : Can 4294967296 ys) (h0 : xs ≠ []) (h1 : ys ≠ []) (h : 512 < xs.length + ys.length - 1) : maxN ≤ val 4294967296 xs * val 4294967296 ys := by
  have lx := List.length_pos_iff.2 h0
  have ly := List.length_pos_iff.2 h1
  have := Nat.mul_le_mul (hx.pos h0) (hy.pos h1)
  rw [← Nat.pow_add] at this
  exact Nat.le_trans (maxN_le _ (by omega)) this
theorem mul_step (cs cs' xs ys : List Nat) (k c N : Nat) (hk : k < xs.length) (hfit : k + ys.length < cs'.length) (h0 : dg cs' (k + ys.length) = 0)
    (hv : val 4294967296 cs + 4294967296 ^ k * (val 4294967296 (xs.drop k) * val 4294967296 ys) = N)
    (hc : val 4294967296 cs' + c * 4294967296 ^ (k + ys.length) = val 4294967296 cs + 4294967296 ^ k * (dg xs k * val 4294967296 ys)) :
    val 4294967296 (cs'.set (k + ys.length) c) + 4294967296 ^ (k + 1) * (val 4294967296 (xs.drop (k + 1)) * val 4294967296 ys) = N := by
  have h1 := val_set 4294967296 cs' (k + ys.length) c hfit
  have h2 := val_drop 4294967296 hk
  rw [h0] at h1
  rw [Nat.pow_succ]
  generalize (4294967296 : Nat) ^ (k + ys.length) = q at *
  generalize (4294967296 : Nat) ^ k = p at *
  generalize val 4294967296 ys = v at *
  grind
set_option maxRecDepth 100000 in
set_option maxHeartbeats 2000000 in
theorem mul_any {va vb : Value} {m n : Nat} {w : World} (ha : IsNat w va m) (hb : IsNat w vb n) (hm : m < maxN) (hn : n < maxN) :
    Calls Tryz.prog 102 #[va, vb] w fun e w' => (∃ v c, e = .returned (.tuple #[v, .int .i64 c]) ∧ FitsN (m * n) w' v c) ∧ Below w.heap.size w w' := by
  obtain ⟨ds, hv1, hc1, rfl⟩ := ha
  obtain ⟨es, hv2, hc2, rfl⟩ := hb
  have hl1 : ds.length ≤ 512 := hc1.len_max.2 hm
  have hl2 : es.length ≤ 512 := hc2.len_max.2 hn
  have h0n : 0 < maxN := Nat.lt_of_le_of_lt (Nat.zero_le _) hm
  clear hm hn
  have C1 := trim_any hv1 (by omega)
  rw [hc1.2] at C1
  have H1 := Lib.hid C1
  have C2 : ∀ W, Below w.heap.size w W → Calls Tryz.prog 45 #[vb] W fun e w' => (∃ v, e = .returned v ∧ Nums .u32 w' v es) ∧ Below W.heap.size W w' := fun W hW => by
    have := trim_any (hv2.below hW (Nat.le_refl _)) (by omega)
    rwa [hc2.2] at this
  have H2 := Lib.hid C2
  obtain ⟨q1, k1, rfl, -⟩ := hv1
  obtain ⟨q2, k2, rfl, -⟩ := hv2
  clear C1 C2
  go_enter Tryz.func102, Tryz.ntmps102
  go_wp2_with fail
  refine H1.out.mono ?_
  rintro e w1 ⟨⟨v1, rfl, hr1⟩, hB1⟩
  go_wp2_with fail
  refine (H2.out _ hB1).mono ?_
  rintro e w2 ⟨⟨v2, rfl, hr2⟩, hB2⟩
  have hB : Below w.heap.size w w2 := hB1.trans (hB2.mono hB1.size)
  have hr1 := hr1.below hB2 (Nat.le_refl _)
  clear H1 H2 hB1 hB2
  obtain ⟨p1, K1, rfl, at1⟩ := hr1
  obtain ⟨p2, K2, rfl, at2⟩ := hr2
  by_cases h1 : ds = []
  · subst h1
    have HN := Lib.hid h0n
    go_wp2
    go_ret2
    exact ⟨⟨_, _, rfl, fun _ => ⟨rfl, [], .nil _ _, Can.nil _, by simp [val]⟩, fun h => by simp [val] at h; have := HN.out; omega⟩, hB⟩
  · have lx := List.length_pos_iff.2 h1
    have z1 : (((ds.length : Nat) : Int) == 0) = false := by simp; omega
    by_cases h2 : es = []
    · subst h2
      have HN := Lib.hid h0n
      clear h1
      go_wp2
      go_ret2
      exact ⟨⟨_, _, rfl, fun _ => ⟨rfl, [], .nil _ _, Can.nil _, by simp [val]⟩, fun h => by simp [val] at h; have := HN.out; omega⟩, hB⟩
    · have ly := List.length_pos_iff.2 h2
      have z2 : (((es.length : Nat) : Int) == 0) = false := by simp; omega
      by_cases h3 : 512 < ds.length + es.length - 1
      · have HO := Lib.hid (mul_over hc1 hc2 h1 h2 h3)
        have h3' : (512 : Int) < ((ds.length : Nat) : Int) + ((es.length : Nat) : Int) - 1 := by omega
        clear h1 h2
        go_wp2
        go_ret2
        exact ⟨⟨_, _, rfl, fun h => by have := HO.out; omega, fun _ => ⟨rfl, rfl⟩⟩, hB⟩
      · have h3' : ¬ (512 : Int) < ((ds.length : Nat) : Int) + ((es.length : Nat) : Int) - 1 := by omega
        clear h1 h2
        obtain ⟨b2, o2, rfl, hk2, hb2, hy2⟩ := at2.pos ly
        obtain ⟨b1, o1, rfl, hk1, hb1, hx1⟩ := at1.pos lx
        obtain ⟨wb, rfl⟩ : ∃ wb : World, wb = w2 := ⟨_, rfl⟩
        go_upto_region 7 with (at_make; refine make_nat rfl _ _ rfl _ _ (ds.length + es.length) rfl rfl ?hL ?hC ?hn wb.heap.size wb (Below.refl _ _) (Nat.le_refl _) (fun w3 hr3 hB3 hB3' => ?_))
        case hL => omega
        case hC => omega
        case hn => omega
        clear at1 at2 hB3'
        have T := Lib.hid (fun (k d cap : Nat) (cs : List Nat) (W : World) (h1 : Row .u32 88 W wb.heap.size cs) (h2 : Dig 4294967296 cs) (h3 : d < 4294967296) (h4 : k + es.length ≤ cs.length) (h5 : cs.length ≤ 1000000) (h6 : Below wb.heap.size wb W) =>
          times_any wb.heap.size k cap K2 d b2 o2 cs es W h1 h2 hc2.1 h3 h4 h5 (Nat.lt_of_lt_of_le hb2 h6.size) (by omega) fun j hj => (h6.cell (p := ⟨b2, o2 + j, none⟩) hb2).trans (hy2 j hj))
        clear hy2; go_wp2_with fail
        go_loopw [36] (fun si wr => ∃ (k : Nat) (cs : List Nat), k ≤ ds.length ∧ si = .int .i64 k ∧ cs.length = ds.length + es.length ∧ Dig 4294967296 cs ∧ (∀ j, k + es.length ≤ j → dg cs j = 0) ∧
          Hid (val 4294967296 cs + 4294967296 ^ k * (val 4294967296 (ds.drop k) * val 4294967296 es) = val 4294967296 ds * val 4294967296 es) ∧ Row .u32 88 wr wb.heap.size cs ∧ Below wb.heap.size wb wr) (fun si _ => ds.length - (intOf si).toNat)
        case atStart =>
          refine ⟨0, List.replicate (ds.length + es.length) 0, by omega, rfl, by simp, fun x hx => by simp at hx; omega, fun j _ => ?_, by show _ = _; rw [val_zeros]; simp, hr3, hB3⟩
          by_cases hj : j < ds.length + es.length
          · rw [dg_lt (by simpa using hj)]; simp
          · exact dg_ge (by simpa using hj)
        case round =>
          clear hr3 hB3
          obtain ⟨k, cs, hk, rfl, hcl, hcd, hcz, hval, hrow, hBr⟩ := hrel
          by_cases hlt : k < ds.length
          · have hx := (hBr.cell (p := ⟨b1, o1 + k, none⟩) hb1).trans (hx1 k hlt)
            have hdx : dg ds k < 4294967296 := hc1.1.dg (by decide) k
            have hli : (k : Int) < ((ds.length : Nat) : Int) := by omega
            have HL := Lib.hid hcl
            have HZ := Lib.hid hcz
            have hrowH := Lib.hid hrow
            clear hcl hcz hrow; go_wp2_with fail
            refine (T.out k (dg ds k) _ cs _ hrowH.out hcd hdx (by have := HL.out; omega) (by have := HL.out; omega) hBr).mono ?_
            rintro e w4 ⟨c, cs', rfl, hc, hl', hd', hz', hv', hrow', hO'⟩
            have hcl := HL.out
            have hBr' := hO'.below hBr (Nat.le_refl _) hBr.size
            have ho := hrow'.cell (j := k + es.length) (by omega)
            have hf := hrow'.free (k + es.length)
            have E0 : dg cs' (k + es.length) = 0 := by rw [hz' _ (Nat.le_refl _)]; exact HZ.out _ (Nat.le_refl _)
            have S := Lib.hid (mul_step cs cs' ds es k c _ hlt (by omega) E0 hval.out hv')
            have HZ' := Lib.hid hz'
            have hrowH' := Lib.hid hrow'
            have HL' := Lib.hid hl'
            have hli2 : (k : Int) + ((es.length : Nat) : Int) < ((ds.length : Nat) : Int) + ((es.length : Nat) : Int) := by omega
            clear hz' hv' hrow' E0 hl' hcl hx
            go_wp2
            have hl' := HL'.out
            have hcl := HL.out
            go_roundw
            case rel =>
              refine ⟨k + 1, cs'.set (k + es.length) c, by omega, by go_num, by simp; omega, hd'.set _ hc, fun j hj => ?_, S.out, hrowH'.out.set (k + es.length) c (by omega), hBr'.setCell (p := ⟨wb.heap.size, k + es.length, none⟩) (Nat.le_refl _) _⟩
              rw [dg_set _ _ _ _ (by omega), if_neg (by omega), HZ'.out j (by omega)]
              exact HZ.out j (by omega)
            case measure => simp [intOf]; omega
          · have hky : k = ds.length := by omega
            have HV := Lib.hid (show val 4294967296 (cut cs) = val 4294967296 ds * val 4294967296 es by
              rw [val_cut]
              have h1 := hval.out
              rw [hky, List.drop_length] at h1
              simpa [val] using h1)
            have hn := hrow.all (ds.length + es.length) (by omega)
            rw [hcl] at hn
            have W := Lib.hid (within_any hn (by omega))
            have HB := Lib.hid (hB.trans (hBr.mono hB.size))
            have hlt' : ¬ (k : Int) < ((ds.length : Nat) : Int) := by omega
            clear hky hval hn hrow hcl hcz hBr
            go_wp2_with (go_at_call 82; refine W.out.mono ?_; rintro e w5 ⟨⟨v5, c5, rfl, hfit⟩, hB5⟩)
            go_ret2
            exact ⟨⟨_, _, rfl, hfit.num (can_cut hcd) HV.out⟩, HB.out.trans (hB5.mono HB.out.size)⟩
theorem shl_or (d n c : Nat) (hd : d < 4294967296) (hn : n < 32) (hc : c < 2 ^ n) : bits .or .u64 (((d * 2 ^ n : Nat) : Int)) c = ((d * 2 ^ n + c : Nat) : Int) := by
  have h2 : (2 : Nat) ^ n ≤ 2 ^ 31 := Nat.pow_le_pow_right (by decide) (by omega)
  have h1 : d * 2 ^ n ≤ 4294967295 * 2 ^ 31 := Nat.mul_le_mul (by omega) h2
  rw [(bits_nat .u64 64 (by decide) wraps_u64 _ _ (by omega) (by omega)).2, Nat.mul_comm d, ← Nat.two_pow_add_eq_or_of_lt hc]
theorem shl_step (cs ds : List Nat) (off k n c N : Nat) (hk : off + k < cs.length) (hkd : k < ds.length) (h0 : dg cs (off + k) = 0)
    (hv : val 4294967296 cs + c * 4294967296 ^ (off + k) + 4294967296 ^ (off + k) * (2 ^ n * val 4294967296 (ds.drop k)) = N) :
    val 4294967296 (cs.set (off + k) ((dg ds k * 2 ^ n + c) % 4294967296)) + (dg ds k * 2 ^ n + c) / 4294967296 * 4294967296 ^ (off + (k + 1)) + 4294967296 ^ (off + (k + 1)) * (2 ^ n * val 4294967296 (ds.drop (k + 1))) = N := by
  have h1 := val_set 4294967296 cs (off + k) ((dg ds k * 2 ^ n + c) % 4294967296) hk
  have h2 := val_drop 4294967296 hkd
  have h3 := Nat.div_add_mod (dg ds k * 2 ^ n + c) 4294967296
  rw [h0] at h1
  rw [show off + (k + 1) = off + k + 1 from rfl, Nat.pow_succ]
  generalize (4294967296 : Nat) ^ (off + k) = p at *
  generalize (2 : Nat) ^ n = q at *
  generalize (dg ds k * q + c) % 4294967296 = s at *
  generalize (dg ds k * q + c) / 4294967296 = r at *
  grind
theorem shl_carry (d n c : Nat) (hd : d < 4294967296) (hc : c < 2 ^ n) : (d * 2 ^ n + c) / 4294967296 < 2 ^ n := by
  refine Nat.div_lt_of_lt_mul ?_
  have := Nat.mul_le_mul_right (2 ^ n) (show d + 1 ≤ 4294967296 by omega)
  rw [Nat.add_mul, Nat.one_mul] at this
  omega
set_option maxRecDepth 100000 in
set_option maxHeartbeats 1000000 in
theorem shl_any (g off cap n K L : Nat) (p : Option Addr) (ds : List Nat) (w : World) (hrow : Row .u32 88 w g (List.replicate (off + ds.length + 1) 0)) (hds : Dig 4294967296 ds) (hn : n < 32) (hlen : off + ds.length ≤ 1000000) (hL : L = ds.length + 1)
    (hat : At .u32 w p K ds) (hne : ∀ a, p = some a → ds ≠ [] → a.block ≠ g) :
    Calls Tryz.prog 100 #[.slice (some ⟨g, off, none⟩) L cap, .slice p ds.length K, .int .i64 n] w fun e w' => (∃ v, e = .returned v) ∧
      ∃ cs, cs.length = off + ds.length + 1 ∧ Dig 4294967296 cs ∧ val 4294967296 cs = 4294967296 ^ off * (2 ^ n * val 4294967296 ds) ∧ Row .u32 88 w' g cs ∧ Only g w w' := by
  subst hL
  go_enter Tryz.func100, Tryz.ntmps100
  go_wp2_with fail
  go_loopw [6, 12] (fun sc si wr => ∃ (k c : Nat) (cs : List Nat), k ≤ ds.length ∧ si = .int .i64 k ∧ sc = .int .u32 c ∧ c < 2 ^ n ∧ cs.length = off + ds.length + 1 ∧ Dig 4294967296 cs ∧ (∀ j, off + k ≤ j → dg cs j = 0) ∧
      Hid (val 4294967296 cs + c * 4294967296 ^ (off + k) + 4294967296 ^ (off + k) * (2 ^ n * val 4294967296 (ds.drop k)) = 4294967296 ^ off * (2 ^ n * val 4294967296 ds)) ∧ Row .u32 88 wr g cs ∧ Only g w wr) (fun _ si _ => ds.length - (intOf si).toNat)
  case atStart =>
    refine ⟨0, 0, _, by omega, rfl, rfl, Nat.two_pow_pos n, by simp, fun x hx => by simp at hx; omega, fun j _ => ?_, by show _ = _; rw [val_zeros]; simp, hrow, Only.refl _ _⟩
    by_cases hj : j < off + ds.length + 1
    · rw [dg_lt (by simpa using hj)]; simp
    · exact dg_ge (by simpa using hj)
  case round =>
    clear hrow
    obtain ⟨k, c, cs, hk, rfl, rfl, hc, hcl, hcd, hcz, hval, hrow, hO⟩ := hrel
    have hp31 : (2 : Nat) ^ n ≤ 2 ^ 31 := Nat.pow_le_pow_right (by decide) (by omega)
    have hat := hat.only hO hne
    by_cases hlt : k < ds.length
    · obtain ⟨b, o, rfl, hk1, hb, hx1⟩ := hat.pos (by omega)
      have hx := hx1 k hlt
      have ho := hrow.cell (j := off + k) (by omega)
      have hf := hrow.free (off + k)
      have hdx : dg ds k < 4294967296 := hds.dg (by decide) k
      have hli : (k : Int) < ((ds.length : Nat) : Int) := by omega
      have hli2 : (k : Int) < ((ds.length : Nat) : Int) + 1 := by omega
      have HL := Lib.hid hcl
      have HZ := Lib.hid hcz
      have hrowH := Lib.hid hrow
      have HP := Lib.hid hp31
      have hc31 : c < 2147483648 := by omega
      have HC := Lib.hid hc
      clear hcl hcz hrow hx1 hat hp31 hc; go_wp2_with fail
      have e0 : IntKind.u64.wrap ((dg ds k : Int) * 2 ^ n) = ((dg ds k * 2 ^ n : Nat) : Int) := by
        have h2 := HP.out
        have h1 : dg ds k * 2 ^ n ≤ 4294967295 * 2 ^ 31 := Nat.mul_le_mul (by omega) h2
        rw [show (dg ds k : Int) * 2 ^ n = ((dg ds k * 2 ^ n : Nat) : Int) by simp]
        exact wraps_u64 _ (by omega) (by omega)
      rw [e0, shl_or _ _ _ hdx hn HC.out]
      have hc2 := shl_carry (dg ds k) n c hdx HC.out
      have hp2 := HP.out
      have e1 : ((dg ds k * 2 ^ n + c : Nat) : Int) / 4294967296 % 4294967296 = (((dg ds k * 2 ^ n + c) / 4294967296 : Nat) : Int) := by omega
      have e2 : ((dg ds k * 2 ^ n + c : Nat) : Int) % 4294967296 = (((dg ds k * 2 ^ n + c) % 4294967296 : Nat) : Int) := by omega
      rw [e1, e2]
      have hcl := HL.out
      refine ⟨⟨k + 1, _, cs.set (off + k) ((dg ds k * 2 ^ n + c) % 4294967296), by omega, by go_num, rfl, hc2, by simpa using hcl, hcd.set _ (Nat.mod_lt _ (by decide)), fun j hj => ?_, shl_step cs ds off k n c _ (by omega) hlt (HZ.out _ (Nat.le_refl _)) hval.out, hrowH.out.set (off + k) _ (by omega), hO.set (off + k) _⟩, by simp [intOf]; omega⟩
      rw [dg_set _ _ _ _ (by omega), if_neg (by omega)]; exact HZ.out j (by omega)
    · have hky : k = ds.length := by omega
      have ho := hrow.cell (j := off + ds.length) (by omega)
      have hf := hrow.free (off + ds.length)
      have hv0 : val 4294967296 cs + c * 4294967296 ^ (off + ds.length) = 4294967296 ^ off * (2 ^ n * val 4294967296 ds) := by
        have h1 := hval.out
        rw [hky, List.drop_length] at h1
        simpa [val] using h1
      have h0 : dg cs (off + ds.length) = 0 := hcz _ (by omega)
      have hset := val_set 4294967296 cs (off + ds.length) c (by omega)
      rw [h0] at hset
      have HV0 := Lib.hid (show val 4294967296 (cs.set (off + ds.length) c) = 4294967296 ^ off * (2 ^ n * val 4294967296 ds) by
        rw [← hv0, Nat.mul_comm c]; simpa using hset)
      have hrowH := Lib.hid hrow
      have HL := Lib.hid hcl
      clear hv0 hky hval hrow hset h0 hcl hat hcz
      have hlt' : ¬ (k : Int) < ((ds.length : Nat) : Int) := by omega
      have hli2 : ((ds.length : Nat) : Int) < ((ds.length : Nat) : Int) + 1 := by omega
      go_wp2
      go_end0
      exact ⟨⟨_, rfl⟩, cs.set (off + ds.length) c, by have := HL.out; simpa using this, hcd.set _ (by omega), HV0.out, hrowH.out.set (off + ds.length) c (by have := HL.out; omega), hO.set (off + ds.length) _⟩
theorem Can.top {b : Nat} {ds : List Nat} (h : Can b ds) (h0 : ds ≠ []) : dg ds (ds.length - 1) ≠ 0 := by
  intro ht
  have hl := List.length_pos_iff.2 h0
  have hp := h.pos h0
  have e : val b ds = val b (ds.take (ds.length - 1)) + b ^ (ds.length - 1) * val b (ds.drop (ds.length - 1)) := by
    conv => lhs; rw [(List.take_append_drop (ds.length - 1) ds).symm]
    rw [val_append, show (ds.take (ds.length - 1)).length = ds.length - 1 by simp]
  rw [val_drop b (by omega : ds.length - 1 < ds.length), ht, List.drop_of_length_le (by omega)] at e
  have h1 := val_lt (h.1.take (ds.length - 1))
  rw [show (ds.take (ds.length - 1)).length = ds.length - 1 by simp] at h1
  simp [val] at e
  omega
theorem bits_bounds {ds : List Nat} (h : Can 4294967296 ds) (h0 : ds ≠ []) : 1 ≤ bitsOf ds ∧ 2 ^ (bitsOf ds - 1) ≤ val 4294967296 ds ∧ val 4294967296 ds < 2 ^ bitsOf ds := by
  have hl := List.length_pos_iff.2 h0
  have hx : dg ds (ds.length - 1) < 4294967296 := h.1.dg (by decide) _
  obtain ⟨b1, b2, b3⟩ := blen_bounds _ hx (h.top h0)
  have eb : bitsOf ds = (ds.length - 1) * 32 + Lib.bitLen (dg ds (ds.length - 1)) := by unfold bitsOf; rw [if_neg h0]
  have e : val 4294967296 ds = val 4294967296 (ds.take (ds.length - 1)) + 4294967296 ^ (ds.length - 1) * dg ds (ds.length - 1) := by
    conv => lhs; rw [(List.take_append_drop (ds.length - 1) ds).symm]
    rw [val_append, show (ds.take (ds.length - 1)).length = ds.length - 1 by simp, val_drop _ (by omega : ds.length - 1 < ds.length), List.drop_of_length_le (by omega)]
    simp [val]
  have h1 := val_lt (h.1.take (ds.length - 1))
  rw [show (ds.take (ds.length - 1)).length = ds.length - 1 by simp] at h1
  have ep : (4294967296 : Nat) ^ (ds.length - 1) = 2 ^ ((ds.length - 1) * 32) := by rw [Nat.mul_comm _ 32, Nat.pow_mul]
  rw [ep] at e h1
  rw [eb, e]
  generalize Lib.bitLen (dg ds (ds.length - 1)) = t at *
  generalize dg ds (ds.length - 1) = d at *
  generalize val 4294967296 (ds.take (ds.length - 1)) = v at *
  generalize (ds.length - 1) * 32 = s at *
  refine ⟨by omega, ?_, ?_⟩
  · rw [show s + t - 1 = s + (t - 1) by omega, Nat.pow_add]
    have := Nat.mul_le_mul_left (2 ^ s) b2
    omega
  · rw [Nat.pow_add]
    have := Nat.mul_le_mul_left (2 ^ s) (show d + 1 ≤ 2 ^ t by omega)
    rw [Nat.mul_add, Nat.mul_one] at this
    omega
theorem sub_step (cs xs ys : List Nat) (k c N : Nat) (hk : k < cs.length) (hky : k < ys.length) (he : dg cs k = dg xs k) (hx : dg xs k < 4294967296) (hy : dg ys k < 4294967296) (hc : c ≤ 1)
    (hv : val 4294967296 cs = N + c * 4294967296 ^ k + 4294967296 ^ k * val 4294967296 (ys.drop k)) :
    val 4294967296 (cs.set k (subD (dg xs k) (dg ys k) c)) = N + subB (dg xs k) (dg ys k) c * 4294967296 ^ (k + 1) + 4294967296 ^ (k + 1) * val 4294967296 (ys.drop (k + 1)) := by
  have h1 := val_set 4294967296 cs k (subD (dg xs k) (dg ys k) c) hk
  have h2 := val_drop 4294967296 hky
  have h3 := (subD_eq _ _ _ hx hy hc).1
  rw [he] at h1
  rw [Nat.pow_succ]
  generalize (4294967296 : Nat) ^ k = p at *
  generalize subD (dg xs k) (dg ys k) c = s at *
  generalize subB (dg xs k) (dg ys k) c = d at *
  grind
theorem sub_step0 (cs : List Nat) (k c N : Nat) (hk : k < cs.length) (hx : dg cs k < 4294967296) (hc : c ≤ 1) (hv : val 4294967296 cs = N + c * 4294967296 ^ k) :
    val 4294967296 (cs.set k (subD (dg cs k) 0 c)) = N + subB (dg cs k) 0 c * 4294967296 ^ (k + 1) := by
  have h1 := val_set 4294967296 cs k (subD (dg cs k) 0 c) hk
  have h3 := (subD_eq (dg cs k) 0 c hx (by decide) hc).1
  rw [Nat.pow_succ]
  generalize (4294967296 : Nat) ^ k = p at *
  generalize subD (dg cs k) 0 c = s at *
  generalize subB (dg cs k) 0 c = d at *
  grind
theorem sub_over (cs : List Nat) (k c N : Nat) (hcs : Dig 4294967296 cs) (hk : cs.length ≤ k) (hv : val 4294967296 cs = N + c * 4294967296 ^ k) : c = 0 := by
  have h1 := val_lt hcs
  have h3 := Nat.pow_le_pow_right (n := 4294967296) (by decide) hk
  by_cases h0 : c = 0
  · exact h0
  · have := Nat.mul_le_mul_right (4294967296 ^ k) (show 1 ≤ c by omega)
    omega
def Less (m n : Nat) (w' : World) (v : Value) (c : Int) : Prop := (n ≤ m → c = 0 ∧ IsNat w' v (m - n)) ∧ (m < n → v = .slice none 0 0 ∧ c = 12)
set_option maxRecDepth 100000 in
set_option maxHeartbeats 2000000 in
theorem sub_any {va vb : Value} {m n : Nat} {w : World} (ha : IsNat w va m) (hb : IsNat w vb n) (hm : m < maxN) (hn : n < maxN) :
    Calls Tryz.prog 105 #[va, vb] w fun e w' => (∃ v c, e = .returned (.tuple #[v, .int .i64 c]) ∧ Less m n w' v c) ∧ Below w.heap.size w w' := by
  obtain ⟨ds, hv1, hc1, rfl⟩ := ha
  obtain ⟨es, hv2, hc2, rfl⟩ := hb
  have hl1 : ds.length ≤ 512 := hc1.len_max.2 hm
  have hl2 : es.length ≤ 512 := hc2.len_max.2 hn
  clear hm hn
  have C1 := trim_any hv1 (by omega)
  rw [hc1.2] at C1
  have H1 := Lib.hid C1
  have C2 : ∀ W, Below w.heap.size w W → Calls Tryz.prog 45 #[vb] W fun e w' => (∃ v, e = .returned v ∧ Nums .u32 w' v es) ∧ Below W.heap.size W w' := fun W hW => by
    have := trim_any (hv2.below hW (Nat.le_refl _)) (by omega)
    rwa [hc2.2] at this
  have H2 := Lib.hid C2
  obtain ⟨q1, k1, rfl, -⟩ := hv1
  obtain ⟨q2, k2, rfl, -⟩ := hv2
  clear C1 C2
  go_enter Tryz.func105, Tryz.ntmps105
  go_wp2_with fail
  refine H1.out.mono ?_
  rintro e w1 ⟨⟨v1, rfl, hr1⟩, hB1⟩
  go_wp2_with fail
  refine (H2.out _ hB1).mono ?_
  rintro e w2 ⟨⟨v2, rfl, hr2⟩, hB2⟩
  have hB : Below w.heap.size w w2 := hB1.trans (hB2.mono hB1.size)
  have hr1 := hr1.below hB2 (Nat.le_refl _)
  clear H1 H2 hB1 hB2
  have C := compare_any hr1 hr2 hc1 hc2 hl1 hl2
  have HC := Lib.hid C
  clear C
  obtain ⟨p1, K1, rfl, at1⟩ := hr1
  obtain ⟨p2, K2, rfl, at2⟩ := hr2
  by_cases hle : val 4294967296 es ≤ val 4294967296 ds
  · have hcz : ¬ cmpI (val 4294967296 ds) (val 4294967296 es) < 0 := by unfold cmpI; rw [if_neg (by omega)]; split <;> omega
    have hll : es.length ≤ ds.length := by
      rcases Nat.lt_or_ge ds.length es.length with h | h
      · have := hc1.lt_of_len (by decide) hc2 h; omega
      · exact h
    have HL := Lib.hid hle
    clear hle
    generalize cmpI (val 4294967296 ds) (val 4294967296 es) = cc at *
    go_wp2_with fail
    refine HC.out.mono ?_
    rintro e w3 ⟨rfl, hB3⟩
    have hBx := hB.trans (hB3.mono hB.size)
    have at1 := at1.below hB3 (Nat.le_refl _)
    have at2 := at2.below hB3 (Nat.le_refl _)
    clear HC hB hB3
    obtain ⟨wb, rfl⟩ : ∃ wb : World, wb = w3 := ⟨_, rfl⟩
    go_upto_region 5 with (at_make; refine make_nat rfl _ _ rfl _ _ ds.length rfl rfl ?hL ?hC ?hn wb.heap.size wb (Below.refl _ _) (Nat.le_refl _) (fun w3 hr3 hB3 hB3' => ?_))
    case hL => rfl
    case hC => rfl
    case hn => omega
    have at1' := at1.below hB3 (Nat.le_refl _)
    go_upto_region 6 with (refine copy_nat rfl (.tmp 22) (.tmp 23) rfl wb.heap.size _ _ ds _ _ _ _ rfl rfl ?hd ?hs hr3 at1' ?hle wb.heap.size wb hB3 (Nat.le_refl _) (fun w4 hr4 hB4 => ?_))
    case hd => simp
    case hs => rfl
    case hle => simp
    have hr4 : Row .u32 88 w4 wb.heap.size ds := by simpa using hr4
    clear hr3 hB3 hB3' at1'
    have A32 := Lib.hid (fun x y c W hx hy hc => sub32 x y c W hx hy hc)
    go_wp2_with fail
    go_loopw [7, 27] (fun sc si wr => ∃ (k c : Nat) (cs : List Nat), k ≤ es.length ∧ si = .int .i64 k ∧ sc = .int .u32 c ∧ c ≤ 1 ∧ cs.length = ds.length ∧ Dig 4294967296 cs ∧ (∀ j, k ≤ j → j < ds.length → dg cs j = dg ds j) ∧
      Hid (val 4294967296 cs = (val 4294967296 ds - val 4294967296 es) + c * 4294967296 ^ k + 4294967296 ^ k * val 4294967296 (es.drop k)) ∧ Row .u32 88 wr wb.heap.size cs ∧ Below wb.heap.size wb wr) (fun _ si _ => es.length - (intOf si).toNat)
    case atStart =>
      exact ⟨0, 0, ds, by omega, rfl, rfl, by omega, rfl, hc1.1, fun j _ hj => rfl, by show _ = _; have := HL.out; simp; omega, hr4, hB4⟩
    case round =>
      obtain ⟨k, c, cs, hk, rfl, rfl, hc, hcl, hcd, hcx, hval, hrow, hBr⟩ := hrel
      by_cases hlt : k < es.length
      · obtain ⟨b1, o1, rfl, hk1, hb1, hx1⟩ := at1.pos (by omega)
        obtain ⟨b2, o2, rfl, hk2, hb2, hy2⟩ := at2.pos (by omega)
        have hx := (hBr.cell (p := ⟨b1, o1 + k, none⟩) hb1).trans (hx1 k (by omega))
        have hy := (hBr.cell (p := ⟨b2, o2 + k, none⟩) hb2).trans (hy2 k (by omega))
        have ho := hrow.cell (j := k) (by omega)
        have hf := hrow.free k
        have hdx : dg ds k < 4294967296 := hc1.1.dg (by decide) k
        have hdy : dg es k < 4294967296 := hc2.1.dg (by decide) k
        have hlk : (k : Int) < ((ds.length : Nat) : Int) := by omega
        have E := Lib.hid (hcx k (Nat.le_refl _) (by omega))
        have HC := Lib.hid hcx
        have HLn := Lib.hid hcl
        have hrowH := Lib.hid hrow
        clear hx1 hy2 hcx hcl hrow
        go_wp2_with (go_at_call 115; refine (A32.out _ _ _ _ hdx hdy hc).mono ?_; rintro e w' ⟨rfl, rfl⟩)
        have hcl := HLn.out
        obtain ⟨s1, s2, s3⟩ := subD_eq _ _ _ hdx hdy hc
        go_roundw
        case rel =>
          refine ⟨k + 1, subB (dg ds k) (dg es k) c, cs.set k (subD (dg ds k) (dg es k) c), by omega, by go_num, rfl, s3, by simpa using hcl, hcd.set _ s2, fun j h1 h2 => ?_, sub_step cs ds es k c _ (by omega) hlt E.out hdx hdy hc hval.out, ?_, ?_⟩
          · rw [dg_set _ _ _ _ (by omega), if_neg (by omega)]; exact HC.out j (by omega) h2
          · exact hrowH.out.set k (subD (dg ds k) (dg es k) c) (by omega)
          · exact hBr.setCell (p := ⟨wb.heap.size, k, none⟩) (Nat.le_refl _) _
        case measure => simp [intOf]; omega
      · have hky : k = es.length := by omega
        have hv0 : val 4294967296 cs = (val 4294967296 ds - val 4294967296 es) + c * 4294967296 ^ k := by
          have h1 := hval.out
          rw [hky] at h1 ⊢
          rw [List.drop_length] at h1
          simpa [val] using h1
        have HV0 := Lib.hid hv0
        have Hky := Lib.hid hky
        clear hv0 hky hval hcx
        have hlt' : ¬ (k : Int) < ((es.length : Nat) : Int) := by omega
        have hY512 : es.length ≤ 512 := by omega
        go_wp2_with fail
        go_loopw [7, 10] (fun sc si wr2 => ∃ (k c : Nat) (cs : List Nat), k ≤ ds.length ∧ si = .int .i64 k ∧ sc = .int .u32 c ∧ c ≤ 1 ∧ cs.length = ds.length ∧ Dig 4294967296 cs ∧
          Hid (val 4294967296 cs = (val 4294967296 ds - val 4294967296 es) + c * 4294967296 ^ k) ∧ Row .u32 88 wr2 wb.heap.size cs ∧ Below wb.heap.size wb wr2) (fun _ si _ => ds.length - (intOf si).toNat)
        case atStart => exact ⟨k, c, cs, by omega, by rw [Hky.out], rfl, hc, hcl, hcd, HV0, hrow, hBr⟩
        case round =>
          clear hrow hBr hcl hcd HV0
          obtain ⟨k2, c2, cs2, hk2, rfl, rfl, hc2', hcl2, hcd2, hval2, hrow2, hBr2⟩ := hrel
          by_cases hpos : 0 < c2
          · have hklt : k2 < ds.length := by
              by_cases h : k2 < ds.length
              · exact h
              · have := sub_over cs2 k2 c2 _ hcd2 (by omega) hval2.out
                omega
            have ho := hrow2.cell (j := k2) (by omega)
            have hf := hrow2.free k2
            have hdx : dg cs2 k2 < 4294967296 := hcd2.dg (by decide) k2
            have hlk : (k2 : Int) < ((ds.length : Nat) : Int) := by omega
            have HLn := Lib.hid hcl2
            have hrowH := Lib.hid hrow2
            clear hcl2 hrow2
            go_wp2_with (go_at_call 115; refine (A32.out _ 0 _ _ hdx (by decide) hc2').mono ?_; rintro e w' ⟨rfl, rfl⟩)
            have hcl2 := HLn.out
            obtain ⟨s1, s2, s3⟩ := subD_eq _ 0 _ hdx (by decide) hc2'
            go_roundw
            case rel =>
              refine ⟨k2 + 1, subB (dg cs2 k2) 0 c2, cs2.set k2 (subD (dg cs2 k2) 0 c2), by omega, by go_num, rfl, s3, by simpa using hcl2, hcd2.set _ s2, sub_step0 cs2 k2 c2 _ (by omega) hdx hc2' hval2.out, ?_, ?_⟩
              · exact hrowH.out.set k2 (subD (dg cs2 k2) 0 c2) (by omega)
              · exact hBr2.setCell (p := ⟨wb.heap.size, k2, none⟩) (Nat.le_refl _) _
            case measure => simp [intOf]; omega
          · have h0 : c2 = 0 := by omega
            subst h0
            have hn := hrow2.all ds.length (by omega)
            rw [hcl2] at hn
            have W := Lib.hid (within_any hn (by omega))
            have HV2 := Lib.hid (show val 4294967296 (cut cs2) = val 4294967296 ds - val 4294967296 es by
              rw [val_cut]; have := hval2.out; simpa using this)
            have HB := Lib.hid (hBx.trans (hBr2.mono hBx.size))
            have hlen5 : (cut cs2).length ≤ 512 := by have := cut_le cs2; omega
            clear hrow2 hcl2 hn hval2 hBr2
            go_wp2_with (go_at_call 82; refine W.out.mono ?_; rintro e w5 ⟨⟨v5, c5, rfl, hfit⟩, hB5⟩)
            go_ret2
            refine ⟨⟨_, _, rfl, fun _ => ?_, fun h => by have := HL.out; omega⟩, HB.out.trans (hB5.mono HB.out.size)⟩
            obtain ⟨h1, h2⟩ := hfit.1 hlen5
            exact ⟨h1, _, h2, can_cut hcd2, HV2.out⟩
  · have hcz : cmpI (val 4294967296 ds) (val 4294967296 es) < 0 := by unfold cmpI; rw [if_pos (by omega)]; omega
    generalize cmpI (val 4294967296 ds) (val 4294967296 es) = cc at *
    go_wp2_with (go_at_call 27; refine HC.out.mono ?_; rintro e w3 ⟨rfl, hB3⟩)
    go_ret2
    exact ⟨⟨_, _, rfl, fun h => absurd h hle, fun _ => ⟨rfl, rfl⟩⟩, hB.trans (hB3.mono hB.size)⟩
end Go.Proofs.YtcfgefbkeeedgaaGreat
