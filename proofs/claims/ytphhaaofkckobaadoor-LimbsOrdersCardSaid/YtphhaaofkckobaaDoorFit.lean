/-
  girdlelaw01.fit: may each of some numbers be, and is none of them too long to be tried?
-/
import Derived.Test.YtphhaaofkckobaaDoorEqual
namespace Go.Proofs.YtphhaaofkckobaaDoor
open Go.RowKit

theorem cut_full : ∀ (ds : List Nat), ds.length ≤ (cut ds).length → cut ds = ds
  | [], _ => rfl
  | d :: ds, h => by
    by_cases hn : cut ds = []
    · rw [cut_cons_nil d ds hn] at h ⊢
      split at h
      · simp at h
      · rename_i hd
        rw [if_neg hd]
        have : ds = [] := List.length_eq_zero_iff.1 (by simpa using h)
        rw [this]
    · rw [cut_cons_ne d ds hn] at h ⊢
      rw [cut_full ds (by simpa using h)]

/-- A number that is tried: short, and without noughts ahead. -/
def Tried (ds : List Nat) : Prop := ds.length ≤ 40 ∧ cut ds = ds

instance (ds : List Nat) : Decidable (Tried ds) := inferInstanceAs (Decidable (_ ∧ _))
/-- All are such. -/
def triedAll (n : Nat) (D : Nat → List Nat) : Bool := decide (∀ j, j < n → Tried (D j))
theorem triedAll_pos {n : Nat} {D : Nat → List Nat} (h : ∀ j, j < n → Tried (D j)) : triedAll n D = true := by unfold triedAll; exact decide_eq_true h
theorem triedAll_neg {n : Nat} {D : Nat → List Nat} {j : Nat} (hj : j < n) (h : ¬ Tried (D j)) : triedAll n D = false := by unfold triedAll; exact decide_eq_false (fun k => h (k j hj))
theorem triedAll_out {n : Nat} {D : Nat → List Nat} (h : triedAll n D = true) : ∀ j, j < n → Tried (D j) := by unfold triedAll at h; exact of_decide_eq_true h

theorem check_zero {ds : List Nat} (h : ds.length ≤ 512) : checkOf ds = 0 ↔ cut ds = ds := by
  unfold checkOf
  rw [if_neg (by omega)]
  constructor
  · intro h1
    split at h1
    · omega
    · rename_i h2
      have := cut_le ds
      exact cut_full ds (by omega)
  · intro h1
    rw [h1, if_neg (Nat.lt_irrefl _)]

set_option maxRecDepth 100000 in
set_option maxHeartbeats 1000000 in
theorem fit_any (g n : Nat) (P : Nat → Option Addr) (K : Nat → Nat) (D : Nat → List Nat) (w : World) (hg : g < w.heap.size) (hn : n ≤ 1000)
    (hs : ∀ j, j < n → w.cell? ⟨g, j, none⟩ = some (.slice (P j) (D j).length (K j)) ∧ At .u32 w (P j) (K j) (D j)) :
    Calls Tryd.prog 12 #[.slice (some ⟨g, 0, none⟩) n n] w fun e w' => e = .returned (.bool (triedAll n D)) ∧ Below w.heap.size w w' := by
  have HS := Lib.hid hs
  clear hs
  have hbw := Below.refl w.heap.size w
  go_enter Tryd.func12, Tryd.ntmps12
  go_wp2_with fail
  go_loopw [7] (fun si wr => ∃ k : Nat, k ≤ n ∧ si = .int .i64 k ∧ Hid (∀ j, j < k → Tried (D j)) ∧ Below w.heap.size w wr) (fun si _ => n - (intOf si).toNat)
  case atStart => exact ⟨0, by omega, rfl, fun j hj => by omega, hbw⟩
  case round =>
    obtain ⟨k, hk, rfl, hz, hBr⟩ := hrel
    by_cases hlt : k < n
    · have hc := (hBr.cell (p := ⟨g, k, none⟩) hg).trans (HS.out k hlt).1
      have hat := Lib.hid ((HS.out k hlt).2.below hBr (Nat.le_refl _))
      have hki : (k : Int) < ((n : Nat) : Int) := by omega
      obtain ⟨l, hl⟩ : ∃ l, (D k).length = l := ⟨_, rfl⟩
      have HL := Lib.hid hl
      rw [hl] at hc
      clear hl
      by_cases h40 : 40 < l
      · have h40' : (40 : Int) < (l : Int) := by omega
        have HT := Lib.hid (triedAll_neg (D := D) hlt (fun h => by have := h.1; have := HL.out; omega))
        go_wp2_with fail
        go_ret
        exact ⟨ret_one (by rw [HT.out]; rfl), hBr⟩
      · have h40' : ¬ (40 : Int) < (l : Int) := by omega
        have hch := Lib.hid (check_any ⟨P k, K k, rfl, hat.out⟩ (by have := HL.out; omega))
        rw [HL.out] at hch
        have Hlt := Lib.hid hlt
        clear hlt
        by_cases hz0 : checkOf (D k) = 0
        · have hz0' : ((((checkOf (D k) : Nat) : Int)) != 0) = false := by rw [hz0]; rfl
          have Hz := Lib.hid hz0; clear hz0
          generalize ((checkOf (D k) : Nat) : Int) = ck at *
          go_wp2_with (refine hch.out.mono ?_; rintro e w2 ⟨rfl, hB2⟩)
          go_roundw
          case rel =>
            refine ⟨k + 1, by have := Hlt.out; omega, by go_num, fun j hj => ?_, hBr.trans (hB2.mono hBr.size)⟩
            by_cases hjk : j = k
            · rw [hjk]
              have h1 := HL.out
              exact ⟨by omega, (check_zero (by omega)).1 Hz.out⟩
            · exact hz.out j (by omega)
          case measure => have := Hlt.out; simp [intOf]; omega
        · have hz0' : ((((checkOf (D k) : Nat) : Int)) != 0) = true := by simp; omega
          have HT := Lib.hid (triedAll_neg (D := D) Hlt.out (fun h => hz0 ((check_zero (by have := h.1; omega)).2 h.2)))
          clear hz0
          generalize ((checkOf (D k) : Nat) : Int) = ck at *
          go_wp2_with (refine hch.out.mono ?_; rintro e w2 ⟨rfl, hB2⟩)
          go_ret
          exact ⟨ret_one (by rw [HT.out]; rfl), hBr.trans (hB2.mono hBr.size)⟩
    · have hge : ¬ (k : Int) < ((n : Nat) : Int) := by omega
      have HZ : ∀ j, j < n → Tried (D j) := fun j hj => hz.out j (by omega)
      have HZ := Lib.hid HZ
      clear hlt
      go_wp2
      go_ret
      exact ⟨ret_one (by rw [triedAll_pos HZ.out]; rfl), hBr⟩

end Go.Proofs.YtphhaaofkckobaaDoor
