/-
  lex.leftOut, number, sign, begin.
-/
import Derived.Test.YtcdmojefheipoaaLexsmall
namespace Go.Proofs.Ytcdmojefheipoaa
open Go.RowKit

def blanksT : ByteArray := ⟨#[32, 9, 13]⟩
def digitsT : ByteArray := ⟨#[48, 49, 50, 51, 52, 53, 54, 55, 56, 57]⟩
def signsT : ByteArray := ⟨#[91, 93, 44, 59, 43, 61]⟩
def lettersT : ByteArray := ⟨#[97, 98, 99, 100, 101, 102, 103, 104, 105, 106, 107, 108, 109, 110, 111, 112, 113, 114, 115, 116, 117, 118, 119, 120, 121, 122, 65, 66, 67, 68, 69, 70, 71, 72, 73, 74, 75, 76, 77, 78, 79, 80, 81, 82, 83, 84, 85, 86, 87, 88, 89, 90]⟩
/-- How many bytes belong to no token. -/
def leftL (l : List Nat) : Nat := if (l.drop (cnt (inB blanksT) l)).take 1 = [35] then cnt (inB blanksT) l + cnt (fun c => !decide (c = 10)) (l.drop (cnt (inB blanksT) l)) else cnt (inB blanksT) l
theorem leftL_le (l : List Nat) : leftL l ≤ l.length := by
  have h1 := cnt_le (inB blanksT) l
  have h2 := cnt_le (fun c => !decide (c = 10)) (l.drop (cnt (inB blanksT) l))
  rw [List.length_drop] at h2
  unfold leftL
  split <;> omega

set_option maxRecDepth 100000 in
set_option maxHeartbeats 1000000 in
theorem leftOut_any (s : ByteArray) (w : World) (hs : s.size ≤ 100000) :
    Calls Try.prog 16 #[.string s] w fun e w' => e = .returned (.int .i64 (leftL (bs s) : Nat)) ∧ Below w.heap.size w w' := by
  have S := (St.start w).alloc 9 [.string blanksT] (w.heap.size)
  have hg := S.c 0 0 rfl rfl
  obtain ⟨a, ha⟩ : ∃ a, cnt (inB blanksT) (bs s) = a := ⟨_, rfl⟩
  have hal : a ≤ s.size := by rw [← ha, ← bs_len]; exact cnt_le _ _
  have HA := Lib.hid (among_any blanksT w)
  have HR := Lib.hid (run_among s _ w.heap.size blanksT hg hs)
  rw [ha] at HR
  have c1 : (0 : Int) ≤ (a : Int) := by omega
  have c2 : (a : Int) ≤ (s.size : Int) := by omega
  have c3 : a ≤ s.size := hal
  by_cases hb : ((bs s).drop a).take 1 = [35]
  · obtain ⟨b, hbb⟩ : ∃ b, cnt (fun c => !decide (c = 10)) ((bs s).drop a) = b := ⟨_, rfl⟩
    have HL := Lib.hid (show leftL (bs s) = a + b by unfold leftL; rw [ha, if_pos hb, hbb])
    have HP := fun w => Lib.hid (hasPre_any (s.extract a s.size) ⟨#[35]⟩ w true (decide_eq_true (by rw [bs_drop]; exact hb)))
    have HS := fun w => Lib.hid (run_line (s.extract a s.size) w (by simp; omega))
    rw [bs_drop, hbb] at HS
    have hbl : b ≤ 100000 := by
      have := cnt_le (fun c => !decide (c = 10)) ((bs s).drop a)
      rw [hbb, List.length_drop, bs_len] at this
      omega
    clear hb hbb ha hal
    go_enter Try.func16, Try.ntmps16
    go_wp2_with fail
    refine HA.out.mono ?_
    rintro e w1 ⟨rfl, rfl⟩
    go_wp2_with fail
    refine HR.out.mono ?_
    rintro e w2 ⟨rfl, hB⟩
    replace S := S.to hB
    go_wp2_with (go_at_call 10; refine (HP _).out.mono ?_; rintro e w3 ⟨rfl, rfl⟩)
    refine (HS _).out.mono ?_
    rintro e w4 ⟨rfl, hB2⟩
    replace S := S.to hB2
    go_wp2
    go_ret
    refine ⟨by rw [HL.out]; rfl, S.below⟩
  · have HL := Lib.hid (show leftL (bs s) = a by unfold leftL; rw [ha, if_neg hb])
    have HP := fun w => Lib.hid (hasPre_any (s.extract a s.size) ⟨#[35]⟩ w false (decide_eq_false (by rw [bs_drop]; exact hb)))
    clear hb ha hal
    go_enter Try.func16, Try.ntmps16
    go_wp2_with fail
    refine HA.out.mono ?_
    rintro e w1 ⟨rfl, rfl⟩
    go_wp2_with fail
    refine HR.out.mono ?_
    rintro e w2 ⟨rfl, hB⟩
    replace S := S.to hB
    go_wp2_with (go_at_call 10; refine (HP _).out.mono ?_; rintro e w3 ⟨rfl, rfl⟩)
    go_ret
    exact ⟨by rw [HL.out]; rfl, S.below⟩

end Go.Proofs.Ytcdmojefheipoaa
