/-
  What the statement stands on.
-/
import Derived.Test.YtcfgefbkeeedgaaGreatM03
import Derived.Test.YtcfgefbkeeedgaaGreatM08
namespace Go.Proofs.YtcfgefbkeeedgaaGreat
open Go.RowKit
section
attribute [local go_sem] Oper.semAt_some
set_option maxRecDepth 100000 in
set_option maxHeartbeats 1000000 in
theorem trim_some (b off cap : Nat) (ds : List Nat) (w : World) (hlen : ds.length ≤ 1000000) (hcap : ds.length ≤ cap) (hb : b < w.heap.size) (hc : ∀ j, j < ds.length → w.cell? ⟨b, off + j, none⟩ = some (.int .u32 ((dg ds j : Nat) : Int))) :
    Calls Tryz.prog 45 #[.slice (some ⟨b, off, none⟩) ds.length cap] w fun e w' =>
      (∃ v, e = .returned v ∧ Nums .u32 w' v (cut ds)) ∧ Below w.heap.size w w' := by
  refine (callsIn_wide (n := 3)).1 ?_
  refine callsIn_of_wp_marks Tryz.func45 rfl trivial ?_ rfl
  simp only [Tryz.ntmps45, List.size_toArray, List.length_cons, List.length_nil, Nat.reduceAdd, Nat.reduceSub, Array.replicate_succ, Array.replicate_zero, List.push_toArray, List.append_toArray, List.nil_append, List.cons_append]
  gi_wp2_with (gi_at_call 63; refine (callsIn_wide.2 (down_any _ _ _ _)).mono ?_; rintro e w' ⟨rfl, rfl⟩)
  obtain ⟨w0, hw0⟩ : ∃ w0, (((w.alloc (.cells #[.slice (some ⟨b, off, none⟩) ds.length cap] 35)).alloc (.cells #[.slice none 0 0] 35)).alloc (.cells #[.slice (some ⟨b, off, none⟩) ds.length cap] 35)) = w0 := ⟨_, rfl⟩
  have hB0 : Below w.heap.size w w0 := by rw [← hw0]; exact (((Below.refl _ w).alloc (Nat.le_refl _) _).alloc (by simp) _).alloc (by simp; omega) _
  have hs0 : w0.heap.size = w.heap.size + 3 := by rw [← hw0]; simp
  have c0 : w0.cell? ⟨w.heap.size, 0, none⟩ = some (.slice (some ⟨b, off, none⟩) ds.length cap) := by rw [← hw0]; simp [go_sem]
  have c1 : w0.cell? ⟨w.heap.size + 1, 0, none⟩ = some (.slice none 0 0) := by rw [← hw0]; simp [go_sem]
  have c2 : w0.cell? ⟨w.heap.size + 1 + 1, 0, none⟩ = some (.slice (some ⟨b, off, none⟩) ds.length cap) := by rw [← hw0]; simp [go_sem]
  have f1 : w0.frozen? ⟨w.heap.size + 1, 0, none⟩ = false := by rw [← hw0]; simp [go_sem]
  rw [hw0]
  clear hw0
  refine rangeList (gf := 89) (lb := #[.pointer (some ⟨w.heap.size + 1 + 1, 0, none⟩)]) rfl (enters_of Tryz.func89 (by kernel_rfl) rfl) ds.length
    (fun k => #[.int .i64 ((ds.length - 1 - k : Nat) : Int), .int .u32 (dg ds (ds.length - 1 - k) : Nat)]) (fun _ => rfl)
    (fun k W => Below w0.heap.size w0 W ∧ ∀ j, ds.length ≤ j + k → j < ds.length → dg ds j = 0)
    (fun c k W => ∃ i, c = .ret ∧ i < ds.length ∧ dg ds i ≠ 0 ∧ (∀ j, i < j → j < ds.length → dg ds j = 0) ∧
      W.cell? ⟨w.heap.size + 1, 0, none⟩ = some (.slice (some ⟨b, off, none⟩) (i + 1) (i + 1)) ∧ Below w.heap.size w W)
    (fun s W W' row hs hg hr => ⟨grown_below hs.1 hg hr (Nat.le_refl _) (Nat.le_refl _), hs.2⟩)
    (fun c s W W' row hs hg hr => by
      obtain ⟨i, h1, h2, h3, h4, h5, h6⟩ := hs
      exact ⟨i, h1, h2, h3, h4, cell_kept h5 hg (fun r e => (hr r e).2), grown_below h6 hg hr (by omega) (Nat.le_refl _)⟩)
    ⟨Below.refl _ _, fun j h1 h2 => by omega⟩
    (down1_is _ _ b off ds.length cap (fun j => (dg ds j : Nat)) (by omega) _ fun k W h => ⟨(h.1.cell (by simp [hs0])).trans c2, fun hk => (h.1.cell (by simp [hs0]; omega)).trans ((hB0.cell (p := ⟨b, off + (ds.length - 1 - k), none⟩) hb).trans (hc _ (by omega)))⟩)
    ?round ?done ?stop
  case round =>
    rintro l k W Wb hk ⟨hB, hz⟩
    have c0' := (hB.cell (p := ⟨w.heap.size, 0, none⟩) (by simp [hs0])).trans c0
    have c1' := (hB.cell (p := ⟨w.heap.size + 1, 0, none⟩) (by simp [hs0])).trans c1
    have f1' := (hB.frozen (p := ⟨w.heap.size + 1, 0, none⟩) (by simp [hs0])).trans f1
    obtain ⟨i, hi, hi'⟩ : ∃ i, ds.length - 1 - k = i ∧ i < ds.length := ⟨_, rfl, by omega⟩
    rw [hi]
    have hki : ds.length = i + k + 1 := by omega
    by_cases hd : dg ds i = 0
    · have hd' : (((dg ds i : Nat) : Int) != 0) = false := by simp [hd]
      have H := Lib.hid hd; clear hd
      have Hk := Lib.hid hki; clear hki
      gi_wp2
      refine ⟨trivial, ?_⟩
      gi_wp2
      refine ⟨KeepsFrom.refl _ _, hB, fun j h1 h2 => ?_⟩
      have hd := H.out; have hki := Hk.out
      by_cases hj : j = i
      · rw [hj]; exact hd
      · exact hz j (by omega) h2
    · have hd' : (((dg ds i : Nat) : Int) != 0) = true := by simp; omega
      have H := Lib.hid hd; clear hd
      have Hk := Lib.hid hki; clear hki
      gi_wp2
      refine ⟨trivial, ?_⟩
      gi_wp2
      refine ⟨(KeepsOthers.setCell _ _ _).from _, i, rfl, hi', H.out, fun j h1 h2 => hz j (by have := Hk.out; omega) h2, ?_, ?_⟩
      · exact World.cell?_setCell_same' _ _ _ (by rw [c1']; rfl)
      · exact (hB0.trans (hB.mono (by omega))).setCell (p := ⟨w.heap.size + 1, 0, none⟩) (by simp) _
  case done =>
    rintro D W hD ⟨hB, hz⟩ hK
    have c1' := (hB.cell (p := ⟨w.heap.size + 1, 0, none⟩) (by simp [hs0])).trans c1
    have f1' := (hB.frozen (p := ⟨w.heap.size + 1, 0, none⟩) (by simp [hs0])).trans f1
    gi_wp2
    have hK' := (KeepsOthers.setCell W ⟨w.heap.size + 1, 0, none⟩ (.slice none 0 0)).same D _ hK rfl
    refine ⟨by simp, .inl ⟨_, _, rfl, run_takeDeferred hK', ?_⟩⟩
    have hc5 := cell_kept (World.cell?_setCell_same' W ⟨w.heap.size + 1, 0, none⟩ (.slice none 0 0) (by rw [c1']; rfl)) (grownBy_putObj' _ D (.deferred none)) (fun r e => by cases e; exact ⟨_, hK', rfl⟩)
    refine ⟨.slice none 0 0, ?_, ⟨_, rfl, ?_⟩, ?_⟩
    · simp [results, Tryz.f45, go_sem, hc5]
    · rw [cut_zero ds fun j hj => hz j (by omega) hj]; exact .nil _ _
    · exact (((hB0.trans (hB.mono (by omega))).setCell (p := ⟨w.heap.size + 1, 0, none⟩) (by simp) _)).trans (belowK_b (w := w) (Nat.le_refl _) _ D _ _ (by omega) hK' rfl rfl)
  case stop =>
    rintro D c k W hD hk ⟨i, rfl, hi, hd, hz, hc1, hB⟩ hK
    gi_wp2
    refine ⟨by simp, .inl ⟨_, _, rfl, run_takeDeferred hK, ?_⟩⟩
    have hc5 := cell_kept hc1 (grownBy_putObj' _ D (.deferred none)) (fun r e => by cases e; exact ⟨_, hK, rfl⟩)
    have hB' : Below w.heap.size w (W.putObj D (.deferred none)) := hB.trans (belowK_b (w := w) (Nat.le_refl _) _ D _ _ (by omega) hK rfl rfl)
    refine ⟨.slice (some ⟨b, off, none⟩) (i + 1) (i + 1), ?_, ⟨_, rfl, ?_⟩, hB'⟩
    · simp [results, Tryz.f45, go_sem, hc5]
    · rw [cut_at ds i hi hd hz]
      have hl : (ds.take (i + 1)).length = i + 1 := by simp; omega
      refine ⟨some ⟨b, off, none⟩, i + 1, by rw [hl], .inr ⟨b, off, rfl, by omega, Nat.lt_of_lt_of_le hb hB'.size, fun j hj => ?_⟩⟩
      rw [hl] at hj
      rw [dg_take _ hj]
      exact (hB'.cell (p := ⟨b, off + j, none⟩) hb).trans (hc j (by omega))
set_option maxRecDepth 100000 in
set_option maxHeartbeats 1000000 in
theorem trim_none (p : Option Addr) (K : Nat) (w : World) : Calls Tryz.prog 45 #[.slice p 0 K] w fun e w' => e = .returned (.slice none 0 0) ∧ Below w.heap.size w w' := by
  refine (callsIn_wide (n := 3)).1 ?_
  refine callsIn_of_wp_marks Tryz.func45 rfl trivial ?_ rfl
  simp only [Tryz.ntmps45, List.size_toArray, List.length_cons, List.length_nil, Nat.reduceAdd, Nat.reduceSub, Array.replicate_succ, Array.replicate_zero, List.push_toArray, List.append_toArray, List.nil_append, List.cons_append]
  gi_wp2_with (gi_at_call 63; refine (callsIn_wide.2 (down_any _ _ _ _)).mono ?_; rintro e w' ⟨rfl, rfl⟩)
  obtain ⟨w0, hw0⟩ : ∃ w0, (((w.alloc (.cells #[.slice p 0 K] 35)).alloc (.cells #[.slice none 0 0] 35)).alloc (.cells #[.slice p 0 K] 35)) = w0 := ⟨_, rfl⟩
  have hB0 : Below w.heap.size w w0 := by rw [← hw0]; exact (((Below.refl _ w).alloc (Nat.le_refl _) _).alloc (by simp) _).alloc (by simp; omega) _
  have hs0 : w0.heap.size = w.heap.size + 3 := by rw [← hw0]; simp
  have c1 : w0.cell? ⟨w.heap.size + 1, 0, none⟩ = some (.slice none 0 0) := by rw [← hw0]; simp [go_sem]
  have c2 : w0.cell? ⟨w.heap.size + 1 + 1, 0, none⟩ = some (.slice p 0 K) := by rw [← hw0]; simp [go_sem]
  have f1 : w0.frozen? ⟨w.heap.size + 1, 0, none⟩ = false := by rw [← hw0]; simp [go_sem]
  rw [hw0]
  clear hw0
  refine rangeList (gf := 89) (lb := #[.pointer (some ⟨w.heap.size + 1 + 1, 0, none⟩)]) rfl (enters_of Tryz.func89 (by kernel_rfl) rfl) 0
    (fun _ => #[undef, undef]) (fun _ => rfl) (fun _ W => Below w0.heap.size w0 W) (fun _ _ _ => False)
    (fun s W W' row hs hg hr => grown_below hs hg hr (Nat.le_refl _) (Nat.le_refl _)) (fun _ _ _ _ _ hs _ _ => hs) (Below.refl _ _)
    (down1_nil _ _ _ _ _ _ fun W h => (h.cell (by simp [hs0])).trans c2) ?round ?done ?stop
  case round => exact fun _ _ _ _ h => absurd h (Nat.not_lt_zero _)
  case done =>
    rintro D W hD hB hK
    have c1' := (hB.cell (p := ⟨w.heap.size + 1, 0, none⟩) (by simp [hs0])).trans c1
    have f1' := (hB.frozen (p := ⟨w.heap.size + 1, 0, none⟩) (by simp [hs0])).trans f1
    gi_wp2
    have hK' := (KeepsOthers.setCell W ⟨w.heap.size + 1, 0, none⟩ (.slice none 0 0)).same D _ hK rfl
    refine ⟨by simp, .inl ⟨_, _, rfl, run_takeDeferred hK', ?_⟩⟩
    have hc5 := cell_kept (World.cell?_setCell_same' W ⟨w.heap.size + 1, 0, none⟩ (.slice none 0 0) (by rw [c1']; rfl)) (grownBy_putObj' _ D (.deferred none)) (fun r e => by cases e; exact ⟨_, hK', rfl⟩)
    refine ⟨.slice none 0 0, ?_, rfl, ?_⟩
    · simp [results, Tryz.f45, go_sem, hc5]
    · exact (((hB0.trans (hB.mono (by omega))).setCell (p := ⟨w.heap.size + 1, 0, none⟩) (by simp) _)).trans (belowK_b (w := w) (Nat.le_refl _) _ D _ _ (by omega) hK' rfl rfl)
  case stop => exact fun _ _ _ _ _ _ h => h.elim
theorem down_seq (n Bs : Nat) (p : Option Addr) (cap : Nat) (ds : List Nat) (hlen : ds.length ≤ 1000000) (I : Nat → World → Prop)
    (hI : ∀ k W, I k W → W.cell? ⟨Bs, 0, none⟩ = some (.slice p ds.length cap) ∧ At .u32 W p cap ds) :
    SeqIs n Tryz.prog 89 #[.pointer (some ⟨Bs, 0, none⟩)] ds.length (fun k => #[.int .i64 ((ds.length - 1 - k : Nat) : Int), .int .u32 (dg ds (ds.length - 1 - k) : Nat)]) I := by
  intro l J Jx W hJ h0 hY
  rcases (hI 0 W (hJ 0 W h0)).2 with ⟨rfl, _⟩ | ⟨b, off, rfl, _⟩
  · exact down1_nil n Bs p cap I _ (fun W h => (hI 0 W h).1) l J Jx W hJ h0 hY
  · refine down1_is n Bs b off ds.length cap (fun j => (dg ds j : Nat)) (by omega) I (fun k W h => ?_) l J Jx W hJ h0 hY
    obtain ⟨h1, h2⟩ := hI k W h
    refine ⟨h1, fun hk => ?_⟩
    obtain ⟨b', off', e, _, _, hc⟩ := h2.pos (by omega)
    cases e
    exact hc _ (by omega)
theorem trim_any {v : Value} {ds : List Nat} {w : World} (hv : Nums .u32 w v ds) (hlen : ds.length ≤ 1000000) :
    Calls Tryz.prog 45 #[v] w fun e w' => (∃ v, e = .returned v ∧ Nums .u32 w' v (cut ds)) ∧ Below w.heap.size w w' := by
  obtain ⟨p, cap, rfl, ⟨rfl, _⟩ | ⟨b, off, rfl, hcap, hb, hc⟩⟩ := hv
  · exact (trim_none p cap w).mono fun e w' ⟨he, hB⟩ => ⟨⟨_, he, .nil _ _⟩, hB⟩
  · exact trim_some b off cap ds w hlen hcap hb hc
end
end Go.Proofs.YtcfgefbkeeedgaaGreat
