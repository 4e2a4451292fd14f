/-
  limbs.Compare.
-/
import Derived.Test.YtphhaaofkckobaaAdd
import Derived.Deep.CutRange
import Derived.Deep.RegionWith
import Derived.Deep.RegionHeld3
namespace Go.Proofs.Ytphhaaofkckobaa
open Go.RowKit
attribute [local go_sem] Oper.semAt_some

set_option maxRecDepth 100000 in
set_option maxHeartbeats 2000000 in
theorem compare_any {va vb : Value} {ds es : List Nat} {w : World} (hv1 : Nums .u32 w va ds) (hv2 : Nums .u32 w vb es) (hc1 : Can 4294967296 ds) (hc2 : Can 4294967296 es) (hl1 : ds.length ≤ 512) (hl2 : es.length ≤ 512) :
    Calls Try.prog 27 #[va, vb] w fun e w' => e = .returned (.int .i64 (cmpI (val 4294967296 ds) (val 4294967296 es))) ∧ Below w.heap.size w w' := by
  have C1 : ∀ W, Below w.heap.size w W → Calls Try.prog 30 #[va] W fun e w' => (∃ v, e = .returned v ∧ Nums .u32 w' v ds) ∧ Below W.heap.size W w' := fun W hW => by
    have := trim_any (hv1.below hW (Nat.le_refl _)) (by omega)
    rwa [hc1.2] at this
  have C2 : ∀ W, Below w.heap.size w W → Calls Try.prog 30 #[vb] W fun e w' => (∃ v, e = .returned v ∧ Nums .u32 w' v es) ∧ Below W.heap.size W w' := fun W hW => by
    have := trim_any (hv2.below hW (Nat.le_refl _)) (by omega)
    rwa [hc2.2] at this
  have H1 := Lib.hid C1; clear C1
  have H2 := Lib.hid C2; clear C2
  obtain ⟨q1, k1, rfl, -⟩ := hv1
  obtain ⟨q2, k2, rfl, -⟩ := hv2
  refine calls_marks Try.func27 rfl ?_
  simp only [Try.ntmps27, List.size_toArray, List.length_cons, List.length_nil, Nat.reduceAdd, Nat.reduceSub, Array.replicate_succ, Array.replicate_zero, List.push_toArray, List.append_toArray, List.nil_append, List.cons_append]
  go_wp2_with fail
  have hbx : Below w.heap.size w ((w.alloc (.cells #[.slice q2 es.length k2] 23)).alloc (.cells #[.int .i64 0] 3)) := ((Below.refl _ w).alloc (Nat.le_refl _) _).alloc (by simp) _
  have c0 : ((w.alloc (.cells #[.slice q2 es.length k2] 23)).alloc (.cells #[.int .i64 0] 3)).cell? ⟨w.heap.size, 0, none⟩ = some (.slice q2 es.length k2) := by simp [go_sem]
  have c1 : ((w.alloc (.cells #[.slice q2 es.length k2] 23)).alloc (.cells #[.int .i64 0] 3)).cell? ⟨w.heap.size + 1, 0, none⟩ = some (.int .i64 0) := by simp [go_sem]
  have f0 : ((w.alloc (.cells #[.slice q2 es.length k2] 23)).alloc (.cells #[.int .i64 0] 3)).frozen? ⟨w.heap.size, 0, none⟩ = false := by simp [go_sem]
  have f1 : ((w.alloc (.cells #[.slice q2 es.length k2] 23)).alloc (.cells #[.int .i64 0] 3)).frozen? ⟨w.heap.size + 1, 0, none⟩ = false := by simp [go_sem]
  have hs : ((w.alloc (.cells #[.slice q2 es.length k2] 23)).alloc (.cells #[.int .i64 0] 3)).heap.size = w.heap.size + 2 := by simp
  generalize ((w.alloc (.cells #[.slice q2 es.length k2] 23)).alloc (.cells #[.int .i64 0] 3)) = w0 at *
  go_cut [0] from 7 to 36 (fun s0 wx => ∃ p1 p2 K1 K2, s0 = .slice p1 ds.length K1 ∧ At .u32 wx p1 K1 ds ∧ At .u32 wx p2 K2 es ∧ wx.cell? ⟨w.heap.size, 0, none⟩ = some (.slice p2 es.length K2) ∧ wx.cell? ⟨w.heap.size + 1, 0, none⟩ = some (.int .i64 0) ∧
    wx.frozen? ⟨w.heap.size + 1, 0, none⟩ = false ∧ Below w.heap.size w wx ∧ w.heap.size + 2 ≤ wx.heap.size)
  case first =>
    have hs' := Lib.hid hs
    clear hs
    have e0 : w.heap.size < w0.heap.size := by have := hs'.out; omega
    have e1 : w.heap.size + 1 < w0.heap.size := by have := hs'.out; omega
    refine wp_region_noPanic ?_
    go_region_with (first
      | (go_at_call_of 30 (Value.slice q1 ds.length k1); refine (H1.out _ (by exact hbx.drew)).mono ?_; rintro e w1 ⟨⟨v', rfl, p1, K1, rfl, at1⟩, hB1⟩; have d0 := (hB1.cell (p := ⟨w.heap.size, 0, none⟩) e0).trans c0; have d1 := (hB1.cell (p := ⟨w.heap.size + 1, 0, none⟩) e1).trans c1; have df0 := (hB1.frozen (p := ⟨w.heap.size, 0, none⟩) e0).trans f0; have df1 := (hB1.frozen (p := ⟨w.heap.size + 1, 0, none⟩) e1).trans f1; have hB1s := hB1.size)
      | (go_at_call_of 30 (Value.slice q2 es.length k2); refine (H2.out _ (by exact hbx.drew.trans (Below.mono ‹_› hbx.size))).mono ?_; rintro e w2 ⟨⟨v', rfl, p2, K2, rfl, at2⟩, hB2⟩; have hB12 := hB1.trans (hB2.mono hB1s); have at1' := at1.below hB2 (Nat.le_refl _); have d20 := (hB12.cell (p := ⟨w.heap.size, 0, none⟩) e0).trans c0; have d21 := (hB12.cell (p := ⟨w.heap.size + 1, 0, none⟩) e1).trans c1; have df20 := (hB12.frozen (p := ⟨w.heap.size, 0, none⟩) e0).trans f0; have df21 := (hB12.frozen (p := ⟨w.heap.size + 1, 0, none⟩) e1).trans f1; have hB2s := hB12.size))
    all_goals refine NoPanic.normal ?_
    all_goals
      (go_wp2_with fail
       go_meet
       case rel => exact ⟨p1, p2, K1, K2, rfl, at1'.other _ d20 (by intro n h; cases h), at2.other _ d20 (by intro n h; cases h), World.cell?_setCell_same' _ _ _ (by rw [d20]; rfl), (World.cell?_setCell_other _ _ _ _ (by simp)).trans d21, (World.frozen?_setCell _ _ _ _).trans df21, (hbx.drew.trans (hB12.mono hbx.size)).setCell (p := ⟨w.heap.size, 0, none⟩) (Nat.le_refl _) _, by simp; have := hs'.out; exact Nat.le_trans (Nat.le_of_eq (by simpa using this.symm)) hB2s⟩)
  case rest =>
    clear hbx c0 c1 f0 f1 hs H1 H2
    obtain ⟨p1, p2, K1, K2, rfl, at1, at2, c0, c1, f1, hB, hs⟩ := hcut
    obtain ⟨W0, rfl⟩ : ∃ W0 : World, W0 = wc := ⟨_, rfl⟩
    by_cases hlen : ds.length = es.length
    · have hl' : (((ds.length : Nat) : Int) != ((es.length : Nat) : Int)) = false := by simp [hlen]
      have HL := Lib.hid hlen
      have hk5 : ds.length ≤ 1000000 := by omega
      clear hlen
      go_wp2_with (go_at_call 54; refine (down_any _ _ _ _).mono ?_; rintro e w' ⟨rfl, rfl⟩)
      have c2 : (W0.alloc (.cells #[.slice p1 ds.length K1] 23)).cell? ⟨W0.heap.size, 0, none⟩ = some (.slice p1 ds.length K1) := by simp [go_sem]
      have hs2 : (W0.alloc (.cells #[.slice p1 ds.length K1] 23)).heap.size = W0.heap.size + 1 := by simp
      have hB2 := (Below.refl W0.heap.size W0).alloc (Nat.le_refl _) (.cells #[.slice p1 ds.length K1] 23)
      have at1 := at1.below hB2 (Nat.le_refl _)
      have at2 := at2.below hB2 (Nat.le_refl _)
      have c0 := (hB2.cell (p := ⟨w.heap.size, 0, none⟩) (by show w.heap.size < _; omega)).trans c0
      have c1 := (hB2.cell (p := ⟨w.heap.size + 1, 0, none⟩) (by show w.heap.size + 1 < _; omega)).trans c1
      have f1 := (hB2.frozen (p := ⟨w.heap.size + 1, 0, none⟩) (by show w.heap.size + 1 < _; omega)).trans f1
      have hB := hB.trans (hB2.mono hB.size)
      have hs : w.heap.size + 2 ≤ W0.heap.size := hs
      have Ebox : (some ⟨W0.heap.size, 0, none⟩ : Option Addr) = some ⟨W0.heap.size, 0, none⟩ := rfl
      generalize hbox : W0.heap.size = Bs at *
      generalize W0.alloc (.cells #[.slice p1 ds.length K1] 23) = W1 at *
      clear hbox Ebox
      refine rangePlain (gf := 70) (lb := #[.pointer (some ⟨Bs, 0, none⟩)]) rfl (enters_of Try.func70 (by kernel_rfl) rfl) ds.length _ (fun _ => rfl)
        (fun k W => Below W1.heap.size W1 W ∧ ∀ j, ds.length ≤ j + k → j < ds.length → dg ds j = dg es j)
        (fun c k W => ∃ i, c = .ret ∧ i < ds.length ∧ dg ds i ≠ dg es i ∧ (∀ j, i < j → j < ds.length → dg ds j = dg es j) ∧ W.cell? ⟨w.heap.size + 1, 0, none⟩ = some (.int .i64 (cmpI (dg ds i : Nat) (dg es i : Nat))) ∧ Below w.heap.size w W)
        (fun s W W' row hs hg hr => ⟨grown_below hs.1 hg hr (Nat.le_refl _) (Nat.le_refl _), hs.2⟩)
        (fun c s W W' row hs hg hr => by
          obtain ⟨i, h1, h2, h3, h4, h5, h6⟩ := hs
          exact ⟨i, h1, h2, h3, h4, cell_kept h5 hg (fun r e => (hr r e).2), grown_below h6 hg hr (by omega) (Nat.le_refl _)⟩)
        ⟨Below.refl _ _, fun j h1 h2 => by omega⟩
        (down_seq 2 Bs p1 K1 ds hk5 _ fun k W h => ⟨(h.1.cell (by show Bs < _; omega)).trans c2, at1.below h.1 (Nat.le_refl _)⟩)
        ?round ?done ?stop
      case round =>
        rintro l k W Wb hk ⟨hBb, hz⟩
        have c0' := (hBb.cell (p := ⟨w.heap.size, 0, none⟩) (by show w.heap.size < _; omega)).trans c0
        have c1' := (hBb.cell (p := ⟨w.heap.size + 1, 0, none⟩) (by show w.heap.size + 1 < _; omega)).trans c1
        have f1' := (hBb.frozen (p := ⟨w.heap.size + 1, 0, none⟩) (by show w.heap.size + 1 < _; omega)).trans f1
        obtain ⟨i, hi, hi'⟩ : ∃ i, ds.length - 1 - k = i ∧ i < ds.length := ⟨_, rfl, by omega⟩
        rw [hi]
        have hki : ds.length = i + k + 1 := by omega
        obtain ⟨b2, o2, rfl, hk2, hb2, hy2⟩ := at2.pos (by have := HL.out; omega)
        have hy := (hBb.cell (p := ⟨b2, o2 + i, none⟩) hb2).trans (hy2 i (by have := HL.out; omega))
        have hie : (i : Int) < ((es.length : Nat) : Int) := by have := HL.out; omega
        have Hk := Lib.hid hki
        clear hki hi hy2
        by_cases hd : dg ds i = dg es i
        · have hd' : (((dg ds i : Nat) : Int) != ((dg es i : Nat) : Int)) = false := by simp [hd]
          have H := Lib.hid hd; clear hd
          gi_wp2
          refine ⟨trivial, ?_⟩
          gi_wp2
          refine ⟨KeepsFrom.refl _ _, hBb, fun j h1 h2 => ?_⟩
          by_cases hj : j = i
          · rw [hj]; exact H.out
          · exact hz j (by have := Hk.out; omega) h2
        · have hd' : (((dg ds i : Nat) : Int) != ((dg es i : Nat) : Int)) = true := by simp; omega
          have H := Lib.hid hd; clear hd
          gi_wp2
          refine ⟨trivial, ?_⟩
          gi_wp2_with (gi_at_call 55; refine (CallsIn.inRound l (callsIn_wide.2 (cmp_u32 _ _ _))).mono ?_; rintro e w' ⟨rfl, rfl⟩)
          refine ⟨(KeepsOthers.setCell _ _ _).from _, i, rfl, hi', H.out, fun j h1 h2 => hz j (by have := Hk.out; omega) h2, ?_, ?_⟩
          · exact World.cell?_setCell_same' _ _ _ (by rw [c1']; rfl)
          · exact (hB.trans (hBb.mono hB.size)).setCell (p := ⟨w.heap.size + 1, 0, none⟩) (by simp) _
      case done =>
        rintro D W hD ⟨hBb, hz⟩ hK
        have c1' := (hBb.cell (p := ⟨w.heap.size + 1, 0, none⟩) (by show w.heap.size + 1 < _; omega)).trans c1
        have f1' := (hBb.frozen (p := ⟨w.heap.size + 1, 0, none⟩) (by show w.heap.size + 1 < _; omega)).trans f1
        have HE : cmpI (val 4294967296 ds) (val 4294967296 es) = 0 := by
          have : ds = es := list_ext_dg HL.out fun j hj => hz j (by omega) hj
          rw [this]; unfold cmpI; simp
        have HE := Lib.hid HE
        go_wp2
        have hK' := (KeepsOthers.setCell W ⟨w.heap.size + 1, 0, none⟩ (.int .i64 0)).same D _ hK rfl
        refine marks_ret (v := .int .i64 0) hK' ?_ ⟨ret_one (by rw [HE.out]), ?_⟩
        · have hc5 := put_cell hK' (World.cell?_setCell_same' W ⟨w.heap.size + 1, 0, none⟩ (.int .i64 0) (by rw [c1']; rfl))
          simp [results, Try.f27, go_sem, hc5]
        · have hB5 := (hB.trans (hBb.mono hB.size)).setCell (p := ⟨w.heap.size + 1, 0, none⟩) (by simp) (.int .i64 0)
          exact hB5.trans (put_below (by omega) hK' hB5.size)
      case stop =>
        rintro D c k W hD hk ⟨i, rfl, hi, hd, hz, hc1', hB'⟩ hK
        have HE : cmpI (dg ds i : Nat) (dg es i : Nat) = cmpI (val 4294967296 ds) (val 4294967296 es) := by
          rcases Nat.lt_or_gt_of_ne hd with h | h
          · have := val_lt_of_digit hc1.1 HL.out hi hz h
            unfold cmpI
            rw [if_pos (by omega), if_pos (by omega)]
          · have := val_lt_of_digit hc2.1 HL.out.symm (by have := HL.out; omega) (fun j h1 h2 => (hz j h1 (by have := HL.out; omega)).symm) h
            unfold cmpI
            rw [if_neg (by omega), if_pos (by omega), if_neg (by omega), if_pos (by omega)]
        rw [HE] at hc1'
        go_wp2
        refine marks_ret (v := .int .i64 (cmpI (val 4294967296 ds) (val 4294967296 es))) hK ?_ ⟨rfl, hB'.trans (put_below (by omega) hK hB'.size)⟩
        have hc5 := put_cell hK hc1'
        simp [results, Try.f27, go_sem, hc5]
    · have hl' : (((ds.length : Nat) : Int) != ((es.length : Nat) : Int)) = true := by simp; omega
      have HC : cmpI ((ds.length : Nat) : Int) ((es.length : Nat) : Int) = cmpI (val 4294967296 ds) (val 4294967296 es) := by
        rcases Nat.lt_or_gt_of_ne hlen with h | h
        · have := hc1.lt_of_len (by decide) hc2 h
          unfold cmpI
          rw [if_pos (by omega), if_pos (by omega)]
        · have := hc2.lt_of_len (by decide) hc1 h
          unfold cmpI
          rw [if_neg (by omega), if_pos (by omega), if_neg (by omega), if_pos (by omega)]
      have HC := Lib.hid HC
      clear hlen
      go_wp2_with (go_at_call 53; refine (cmp_int _ _ _).mono ?_; rintro e w' ⟨rfl, rfl⟩)
      have hc5 := World.cell?_setCell_same' W0 ⟨w.heap.size + 1, 0, none⟩ (.int .i64 (cmpI (val 4294967296 ds) (val 4294967296 es))) (by rw [c1]; rfl)
      refine marks_ret0 (v := .int .i64 (cmpI (val 4294967296 ds) (val 4294967296 es))) ?_ ⟨rfl, hB.setCell (p := ⟨w.heap.size + 1, 0, none⟩) (by simp) _⟩
      simp [results, Try.f27, go_sem, hc5]

end Go.Proofs.Ytphhaaofkckobaa
