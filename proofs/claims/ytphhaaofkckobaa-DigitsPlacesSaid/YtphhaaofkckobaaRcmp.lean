/-
  girdleref01.Compare: lists of ints, as the numbers that they are to the base 256.
-/
import Derived.Test.YtphhaaofkckobaaRcut
namespace Go.Proofs.Ytphhaaofkckobaa
open Go.RowKit

theorem val_ext (b : Nat) : ∀ (xs ys : List Nat), (∀ j, dg xs j = dg ys j) → val b xs = val b ys
  | [], [], _ => rfl
  | [], y :: ys, h => by
    have h0 : y = 0 := by have := h 0; simp [dg] at this; omega
    have := val_ext b [] ys (fun j => by have := h (j + 1); simpa [dg] using this)
    simp only [val] at this ⊢
    rw [← this, h0]
    simp
  | x :: xs, [], h => by
    have h0 : x = 0 := by have := h 0; simp [dg] at this; omega
    have := val_ext b xs [] (fun j => by have := h (j + 1); simpa [dg] using this)
    simp only [val] at this ⊢
    rw [this, h0]
    simp
  | x :: xs, y :: ys, h => by
    have h0 : x = y := by have := h 0; simpa [dg] using this
    have := val_ext b xs ys (fun j => by have := h (j + 1); simpa [dg] using this)
    simp only [val]
    rw [this, h0]

theorem dg_over {ds : List Nat} {i : Nat} (h : ds.length ≤ i) : dg ds i = 0 := by
  unfold dg
  rw [List.getElem?_eq_none h]
  rfl

theorem val_split (b : Nat) (ds : List Nat) (i : Nat) : val b ds = val b (ds.take i) + b ^ i * (dg ds i + b * val b (ds.drop (i + 1))) := by
  rcases Nat.lt_or_ge i ds.length with h | h
  · rw [← val_drop b h]
    conv => lhs; rw [(List.take_append_drop i ds).symm]
    rw [val_append, show (ds.take i).length = i by simp; omega]
  · rw [List.take_of_length_le h, List.drop_of_length_le (by omega), dg_over h]
    simp [val]

theorem val_less {b : Nat} {ds es : List Nat} {i : Nat} (hd : Dig b ds) (hi : dg ds i < dg es i) (he : ∀ j, i < j → dg ds j = dg es j) (hb : 0 < b) : val b ds < val b es := by
  have h1 := val_split b ds i
  have h2 := val_split b es i
  have h3 : val b (ds.drop (i + 1)) = val b (es.drop (i + 1)) := val_ext b _ _ fun j => by rw [dg_drop, dg_drop]; exact he _ (by omega)
  have h4 : val b (ds.take i) < b ^ i := by
    have h5 := val_lt (b := b) (ds := ds.take i) (fun x hx => hd x (List.mem_of_mem_take hx))
    have h6 := Nat.pow_le_pow_right (n := b) hb (show (ds.take i).length ≤ i by simp; omega)
    omega
  rw [h3] at h1
  generalize b ^ i = p at *
  generalize val b (es.drop (i + 1)) = v at *
  have h7 := Nat.mul_le_mul_left p (show dg ds i + 1 + b * v ≤ dg es i + b * v by omega)
  have h8 : p * (dg ds i + 1 + b * v) = p * (dg ds i + b * v) + p := by grind
  omega

set_option maxRecDepth 100000 in
set_option maxHeartbeats 2000000 in
theorem refCmp_any (p1 p2 : Option Addr) (K1 K2 : Nat) (ds es : List Nat) (w : World) (at1 : At .i64 w p1 K1 ds) (at2 : At .i64 w p2 K2 es) (d1 : Dig 256 ds) (d2 : Dig 256 es) (l1 : ds.length ≤ 1000000) (l2 : es.length ≤ 1000000) :
    Calls Try.prog 35 #[.slice p1 ds.length K1, .slice p2 es.length K2] w fun e w' => e = .returned (.int .i64 (cmpI (val 256 ds) (val 256 es))) ∧ w' = w := by
  have HD := Lib.hid (And.intro d1 d2)
  have m1 : max (ds.length : Int) (es.length : Int) = ((max ds.length es.length : Nat) : Int) := by omega
  have m2 : max ds.length es.length ≤ 1000000 := by omega
  have m3 : ds.length ≤ max ds.length es.length := by omega
  have m4 : es.length ≤ max ds.length es.length := by omega
  generalize max ds.length es.length = M at *
  have HM := Lib.hid (And.intro m3 m4)
  clear d1 d2 m3 m4
  go_enter Try.func35, Try.ntmps35
  go_wp2_with fail
  go_loop [5] (fun s => ∃ k : Nat, k ≤ M ∧ s = .int .i64 ((k : Int) - 1) ∧ Hid (∀ j, k ≤ j → dg ds j = dg es j)) (fun s => (intOf s + 1).toNat)
  case atStart => exact ⟨M, Nat.le_refl _, rfl, fun j hj => by have := HM.out; rw [dg_over (by omega), dg_over (by omega)]⟩
  case round =>
    clear m1
    obtain ⟨k, hk, rfl, hz⟩ := hrel
    cases k with
    | zero =>
      have E := Lib.hid (val_ext 256 ds es fun j => hz.out j (by omega))
      go_wp2
      go_ret
      refine ⟨ret_one ?_, rfl⟩
      rw [E.out]
      unfold cmpI
      rw [if_neg (by omega), if_neg (by omega)]
      rfl
    | succ i =>
      have hi2 : ((i + 1 : Nat) : Int) - 1 = (i : Int) := by omega
      have hkey : (dg ds i < dg es i ∧ Hid (cmpI (val 256 ds) (val 256 es) = -1)) ∨ (dg ds i = dg es i ∧ Hid (∀ j, i ≤ j → dg ds j = dg es j)) ∨ (dg es i < dg ds i ∧ Hid (cmpI (val 256 ds) (val 256 es) = 1)) := by
        rcases Nat.lt_trichotomy (dg ds i) (dg es i) with h | h | h
        · refine .inl ⟨h, ?_⟩
          have := val_less HD.out.1 h (fun j hj => hz.out j (by omega)) (by decide)
          show _ = _
          unfold cmpI
          rw [if_pos (by omega)]
        · refine .inr (.inl ⟨h, fun j hj => ?_⟩)
          by_cases hji : j = i
          · rw [hji]; exact h
          · exact hz.out j (by omega)
        · refine .inr (.inr ⟨h, ?_⟩)
          have := val_less HD.out.2 h (fun j hj => (hz.out j (by omega)).symm) (by decide)
          show _ = _
          unfold cmpI
          rw [if_neg (by omega), if_pos (by omega)]
      clear hz

      by_cases r1 : i < ds.length
      · by_cases r2 : i < es.length
        · obtain ⟨b1, o1, rfl, _, _, hc1⟩ := at1.pos (by omega)
          have hx1 := hc1 i r1
          have hr1 : (i : Int) < ((ds.length : Nat) : Int) := by omega
          clear hc1
          obtain ⟨b2, o2, rfl, _, _, hc2⟩ := at2.pos (by omega)
          have hx2 := hc2 i r2
          have hr2 : (i : Int) < ((es.length : Nat) : Int) := by omega
          clear hc2
          rcases hkey with ⟨h, hc⟩ | ⟨h, hc⟩ | ⟨h, hc⟩
          · have h' : (((dg ds i : Nat) : Int) : Int) < ((dg es i : Nat) : Int) := by omega
            clear h
            go_wp2
            go_ret
            refine ⟨ret_one ?_, rfl⟩
            rw [hc.out]
            rfl
          · have h1 : ¬ (((dg ds i : Nat) : Int) : Int) < ((dg es i : Nat) : Int) := by omega
            have h2 : ¬ (((dg es i : Nat) : Int) : Int) < ((dg ds i : Nat) : Int) := by omega
            clear h
            go_wp2
            exact ⟨⟨i, by omega, rfl, hc.out⟩, by simp [intOf]⟩
          · have h1 : ¬ (((dg ds i : Nat) : Int) : Int) < ((dg es i : Nat) : Int) := by omega
            have h2 : (((dg es i : Nat) : Int) : Int) < ((dg ds i : Nat) : Int) := by omega
            clear h
            go_wp2
            go_ret
            refine ⟨ret_one ?_, rfl⟩
            rw [hc.out]
            rfl
        · obtain ⟨b1, o1, rfl, _, _, hc1⟩ := at1.pos (by omega)
          have hx1 := hc1 i r1
          have hr1 : (i : Int) < ((ds.length : Nat) : Int) := by omega
          clear hc1
          have hr2 : ¬ (i : Int) < ((es.length : Nat) : Int) := by omega
          rw [dg_over (show es.length ≤ i by omega)] at hkey
          rcases hkey with ⟨h, hc⟩ | ⟨h, hc⟩ | ⟨h, hc⟩
          · omega
          · have h1 : ¬ (((dg ds i : Nat) : Int) : Int) < 0 := by omega
            have h2 : ¬ (0 : Int) < ((dg ds i : Nat) : Int) := by omega
            clear h
            go_wp2
            exact ⟨⟨i, by omega, rfl, hc.out⟩, by simp [intOf]⟩
          · have h1 : ¬ (((dg ds i : Nat) : Int) : Int) < 0 := by omega
            have h2 : (0 : Int) < ((dg ds i : Nat) : Int) := by omega
            clear h
            go_wp2
            go_ret
            refine ⟨ret_one ?_, rfl⟩
            rw [hc.out]
            rfl
      · by_cases r2 : i < es.length
        · have hr1 : ¬ (i : Int) < ((ds.length : Nat) : Int) := by omega
          rw [dg_over (show ds.length ≤ i by omega)] at hkey
          obtain ⟨b2, o2, rfl, _, _, hc2⟩ := at2.pos (by omega)
          have hx2 := hc2 i r2
          have hr2 : (i : Int) < ((es.length : Nat) : Int) := by omega
          clear hc2
          rcases hkey with ⟨h, hc⟩ | ⟨h, hc⟩ | ⟨h, hc⟩
          · have h' : (0 : Int) < ((dg es i : Nat) : Int) := by omega
            clear h
            go_wp2
            go_ret
            refine ⟨ret_one ?_, rfl⟩
            rw [hc.out]
            rfl
          · have h1 : ¬ (0 : Int) < ((dg es i : Nat) : Int) := by omega
            have h2 : ¬ (((dg es i : Nat) : Int) : Int) < 0 := by omega
            clear h
            go_wp2
            exact ⟨⟨i, by omega, rfl, hc.out⟩, by simp [intOf]⟩
          · omega
        · have hr1 : ¬ (i : Int) < ((ds.length : Nat) : Int) := by omega
          rw [dg_over (show ds.length ≤ i by omega)] at hkey
          have hr2 : ¬ (i : Int) < ((es.length : Nat) : Int) := by omega
          rw [dg_over (show es.length ≤ i by omega)] at hkey
          rcases hkey with ⟨h, hc⟩ | ⟨h, hc⟩ | ⟨h, hc⟩
          · omega
          · have h1 : ¬ (0 : Int) < 0 := by omega
            have h2 : ¬ (0 : Int) < 0 := by omega
            clear h
            go_wp2
            exact ⟨⟨i, by omega, rfl, hc.out⟩, by simp [intOf]⟩
          · omega

end Go.Proofs.Ytphhaaofkckobaa
