/-
  What the statement stands on.
-/
import Derived.Test.YtcfgefbkeeedgaaGreatM11
import Derived.Laws.RangeString
import Derived.Laws.RangeAny
namespace Go.Proofs.YtcfgefbkeeedgaaGreat
open Go.RowKit
theorem iter_below (w : World) (s : ByteArray) (pos : Nat) : Below w.heap.size w (w.iter s pos) := (Below.refl _ w).alloc (Nat.le_refl _) _
set_option maxRecDepth 100000 in
set_option maxHeartbeats 1000000 in
theorem readBlock_any (s : ByteArray) (w : World) (hd : DD (bs s)) (hl : s.size ≤ 18) :
    Calls Tryz.prog 93 #[.string s] w fun e w' => e = .returned (.int .u64 (dv (bs s) : Nat)) ∧ Below w.heap.size w w' := by
  have HD := Lib.hid hd
  clear hd
  go_enter Tryz.func93, Tryz.ntmps93
  go_wp2
  go_loopw [3] (fun sn w' => ∃ pos : Nat, pos ≤ s.size ∧ w' = w.iter s pos ∧ sn = .int .u64 (dv ((bs s).take pos) : Nat)) (fun _ w' => s.size - w'.iterPos w.heap.size)
  case atStart => exact ⟨0, by omega, rfl, rfl⟩
  case round =>
    obtain ⟨pos, hp, rfl, rfl⟩ := hrel
    by_cases hlt : pos < s.size
    · have hc := HD.out.dg (i := pos) (by rw [bs_len]; exact hlt)
      rw [bs_get s pos hlt] at hc
      have hnx : ∀ ty, (Instr.next (.pointer (some ⟨w.heap.size, 0, none⟩)) true ty).run Tryz.prog (w.iter s pos) = _ := fun ty => run_next_ascii w s pos ty hlt (by omega)
      have hs : dv ((bs s).take (pos + 1)) = dv ((bs s).take pos) * 10 + ((s[pos]'hlt).toNat - 48) := by
        rw [List.take_succ_eq_append_getElem (by rw [bs_len]; exact hlt), dv_snoc, ← dg_lt (by rw [bs_len]; exact hlt), bs_get s pos hlt]
      have hb := dv_lt (HD.out.take pos)
      have hb2 := Nat.pow_le_pow_right (n := 10) (by decide) (show ((bs s).take pos).length ≤ 17 by rw [List.length_take, bs_len]; omega)
      have hb3 : dv ((bs s).take pos) < 100000000000000000 := by
        have : (10 : Nat) ^ 17 = 100000000000000000 := by decide
        omega
      have HS := Lib.hid hs
      obtain ⟨c, hcc⟩ : ∃ c, (s[pos]'hlt).toNat = c := ⟨_, rfl⟩
      rw [hcc] at HS hc hnx
      generalize dv ((bs s).take pos) = n at *
      clear hs hb hb2 hcc
      obtain ⟨hc1, hc2⟩ := hc
      have hnI : (n : Int) < 100000000000000000 := by omega
      have hcI : (48 : Int) ≤ (c : Int) := by omega
      have hcI2 : (c : Int) ≤ 57 := by omega
      go_wp2
      go_roundw
      case rel =>
        refine ⟨pos + 1, by omega, rfl, ?_⟩
        rw [HS.out]
        show Value.int .u64 _ = Value.int .u64 _
        congr 1
        omega
      case measure => simp; omega
    · have hnx : ∀ ty, (Instr.next (.pointer (some ⟨w.heap.size, 0, none⟩)) true ty).run Tryz.prog (w.iter s pos) = _ := fun ty => run_next_end w s pos ty hlt
      have hps : pos = s.size := by omega
      have HP := Lib.hid hps
      clear hps hlt
      go_wp2
      go_ret
      refine ⟨ret_one ?_, iter_below _ _ _⟩
      rw [List.take_of_length_le (by rw [bs_len, HP.out]; exact Nat.le_refl _)]
      rfl
set_option maxRecDepth 100000 in
set_option maxHeartbeats 1000000 in
theorem onlyDigits_any (s : ByteArray) (w : World) :
    Calls Tryz.prog 92 #[.string s] w fun e w' => e = .returned (.bool (onlyB (bs s))) ∧ Below w.heap.size w w' := by
  go_enter Tryz.func92, Tryz.ntmps92
  go_wp2
  go_loopw [] (fun w' => ∃ pos : Nat, pos ≤ s.size ∧ w' = w.iter s pos ∧ Hid (DD ((bs s).take pos))) (fun w' => s.size - w'.iterPos w.heap.size)
  case atStart => exact ⟨0, by omega, rfl, fun x hx => by simp at hx⟩
  case round =>
    obtain ⟨pos, hp, rfl, hD⟩ := hrel
    by_cases hlt : pos < s.size
    · have hmem : dg (bs s) pos ∈ bs s := by rw [dg_lt (by rw [bs_len]; exact hlt)]; exact List.getElem_mem _
      have hg := bs_get s pos hlt
      by_cases hc : 48 ≤ (s[pos]'hlt).toNat ∧ (s[pos]'hlt).toNat ≤ 57
      · have hnx : ∀ ty, (Instr.next (.pointer (some ⟨w.heap.size, 0, none⟩)) true ty).run Tryz.prog (w.iter s pos) = _ := fun ty => run_next_ascii w s pos ty hlt (by omega)
        have HD2 : Hid (DD ((bs s).take (pos + 1))) := by
          show DD _
          rw [List.take_succ_eq_append_getElem (by rw [bs_len]; exact hlt)]
          refine hD.out.append fun x hx => ?_
          rw [List.mem_singleton.1 hx, ← dg_lt (by rw [bs_len]; exact hlt), hg]
          exact hc
        obtain ⟨c, hcc⟩ : ∃ c, (s[pos]'hlt).toNat = c := ⟨_, rfl⟩
        rw [hcc] at hc hnx
        clear hmem hg hcc
        obtain ⟨hc1, hc2⟩ := hc
        have hcI : ¬ (c : Int) < 48 := by omega
        have hcI2 : ¬ (57 : Int) < (c : Int) := by omega
        have hcD : decide ((c : Int) < 48) = false := decide_eq_false hcI
        have hcD2 : decide ((57 : Int) < (c : Int)) = false := decide_eq_false hcI2
        go_wp2
        go_roundw
        case rel => exact ⟨pos + 1, by omega, rfl, HD2.out⟩
        case measure => simp; omega
      · have hF : onlyB (bs s) = false := onlyB_neg fun h => hc (by rw [← hg]; exact h.1 _ hmem)
        have HF := Lib.hid hF
        have hnx : ∀ ty, (Instr.next (.pointer (some ⟨w.heap.size, 0, none⟩)) true ty).run Tryz.prog (w.iter s pos) = _ := fun ty => run_next_any w s pos ty hlt
        have hr : (Utf8.decode s pos).1 < 48 ∨ 57 < (Utf8.decode s pos).1 := by
          by_cases ha : (s[pos]'hlt).toNat < 128
          · rw [decode_ascii s pos hlt ha]
            show (s[pos]'hlt).toNat < 48 ∨ 57 < (s[pos]'hlt).toNat
            omega
          · right
            have := (decode_high s pos hlt (by omega)).1
            omega
        generalize (Utf8.decode s pos).1 = r at *
        generalize (Utf8.decode s pos).2 = wd at *
        clear hmem hg hc hF
        by_cases h1 : r < 48
        · have hcI : (r : Int) < 48 := by omega
          clear hr h1
          go_wp2
          go_ret
          exact ⟨ret_one (by rw [HF.out]; rfl), iter_below _ _ _⟩
        · have hcI : ¬ (r : Int) < 48 := by omega
          have hcI2 : (57 : Int) < (r : Int) := by omega
          have hcD : decide ((r : Int) < 48) = false := decide_eq_false hcI
          clear hr h1
          go_wp2
          go_ret
          exact ⟨ret_one (by rw [HF.out]; rfl), iter_below _ _ _⟩
    · have hnx : ∀ ty, (Instr.next (.pointer (some ⟨w.heap.size, 0, none⟩)) true ty).run Tryz.prog (w.iter s pos) = _ := fun ty => run_next_end w s pos ty hlt
      have hps : pos = s.size := by omega
      rw [List.take_of_length_le (by rw [bs_len, hps]; exact Nat.le_refl _)] at hD
      by_cases h0 : s.size = 0
      · have he : bs s = [] := List.eq_nil_of_length_eq_zero (by rw [bs_len]; exact h0)
        have HF := Lib.hid (onlyB_neg (fun h => h.2 he))
        have hse : s = ⟨#[]⟩ := bs_inj (by rw [he]; rfl)
        subst hse
        clear hps hlt he
        go_wp2
        go_ret
        exact ⟨ret_one (by rw [HF.out]; rfl), iter_below _ _ _⟩
      · have HF := Lib.hid (onlyB_pos hD.out (by intro e; have := bs_len s; rw [e] at this; simp at this; omega))
        have hne : s.toList.isEmpty = false := by
          rw [ByteArray.toList_eq]
          cases hl : s.data.toList with
          | nil =>
            exfalso
            apply h0
            have : s.data.size = 0 := by rw [← Array.length_toList, hl]; rfl
            exact this
          | cons _ _ => rfl
        have HNE := Lib.hid hne
        clear hps hlt h0 hne
        go_wp2
        go_ret
        exact ⟨ret_one (by rw [HF.out]; show Value.bool _ = _; rw [HNE.out]; rfl), iter_below _ _ _⟩
end Go.Proofs.YtcfgefbkeeedgaaGreat
