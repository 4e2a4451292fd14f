/-
  What the statement stands on.
-/
import Derived.Test.YtcfgefbkeeedgaaGreatM23
import Derived.Test.YtcfgefbkeeedgaaGreatM28
namespace Go.Proofs.YtcfgefbkeeedgaaGreat
open Go.RowKit
set_option maxRecDepth 100000 in
set_option maxHeartbeats 1000000 in
theorem sidx_any (s : ByteArray) (c : UInt8) (w : World) (z : Int) (hz : posI c.toNat (bs s) = z) :
    Calls Tryz.prog 91 #[.string s, .string ⟨#[c]⟩] w fun e w' => e = .returned (.int .i64 z) ∧ w' = w := by
  have H := Lib.hid (sidxbyte_any s c w z hz)
  have e1 : (ByteArray.mk #[c]).size = 1 := rfl
  cases hs : ([c] == s.toList)
  · clear hz
    go_enter Tryz.func91, Tryz.ntmps91
    go_wp2_with (go_at_call 97; refine H.out.mono ?_; rintro e w1 ⟨rfl, rfl⟩)
    go_ret
    exact ⟨rfl, rfl⟩
  · have hz0 : z = 0 := by
      have h1 : s.data.toList = [c] := by rw [← Lib.toList_data]; exact (beq_iff_eq.1 hs).symm
      rw [← hz]
      unfold bs
      rw [h1]
      simp [posI, posOf]
    subst hz0
    clear hz
    go_enter Tryz.func91, Tryz.ntmps91
    go_wp2_with (go_at_call 97; refine H.out.mono ?_; rintro e w1 ⟨rfl, rfl⟩)
    go_ret
    exact ⟨rfl, rfl⟩
set_option maxRecDepth 100000 in
set_option maxHeartbeats 1000000 in
theorem scutin_no (s : ByteArray) (c : UInt8) (w : World) (h : posOf c.toNat (bs s) = none) :
    Calls Tryz.prog 68 #[.string s, .string ⟨#[c]⟩] w fun e w' => e = .returned (.tuple #[.string s, .string ⟨#[]⟩, .bool false]) ∧ Below w.heap.size w w' := by
  have H := Lib.hid (sidx_any s c w (-1) (by unfold posI; rw [h]))
  clear h
  go_enter Tryz.func68, Tryz.ntmps68
  go_wp2_with (go_at_call 91; refine H.out.mono ?_; rintro e w1 ⟨rfl, rfl⟩)
  go_ret3
  exact ⟨rfl, Below.refl _ _⟩
set_option maxRecDepth 100000 in
set_option maxHeartbeats 1000000 in
theorem scutin_yes (s : ByteArray) (c : UInt8) (w : World) (i : Nat) (h : posOf c.toNat (bs s) = some i) (hs : s.size ≤ 1000000) :
    Calls Tryz.prog 68 #[.string s, .string ⟨#[c]⟩] w fun e w' => e = .returned (.tuple #[.string (s.extract 0 i), .string (s.extract (i + 1) s.size), .bool true]) ∧ Below w.heap.size w w' := by
  have H := Lib.hid (sidx_any s c w i (by unfold posI; rw [h]))
  have hi : i < s.size := by rw [← bs_len]; exact posOf_lt h
  have hs' : (s.size : Int) ≤ 1000000 := by omega
  have hi' : i < 1000000 := by omega
  have c1 : (0 : Int) ≤ (i : Int) := by omega
  have c2 : (i : Int) ≤ s.size := by omega
  have c3 : (0 : Int) ≤ (i : Int) + 1 := by omega
  have c4 : (i : Int) + 1 ≤ s.size := by omega
  have e1 : (ByteArray.mk #[c]).size = 1 := rfl
  clear h
  go_enter Tryz.func68, Tryz.ntmps68
  go_wp2_with (go_at_call 91; refine H.out.mono ?_; rintro e w1 ⟨rfl, rfl⟩)
  have mixed : Tryz.prog.follows .mixedOrders = true := by kernel_rfl
  go_region_o
  go_wp2
  go_ret3
  exact ⟨rfl, (Below.refl _ _).drew⟩
set_option maxRecDepth 100000 in
theorem scut_no (s : ByteArray) (c : UInt8) (w : World) (h : posOf c.toNat (bs s) = none) :
    Calls Tryz.prog 31 #[.string s, .string ⟨#[c]⟩] w fun e w' => e = .returned (.tuple #[.string s, .string ⟨#[]⟩, .bool false]) ∧ Below w.heap.size w w' := by
  have H := Lib.hid (scutin_no s c w h)
  clear h
  go_enter Tryz.func31, Tryz.ntmps31
  go_wp2_with (go_at_call 68; refine H.out.mono ?_; rintro e w1 ⟨rfl, hB⟩)
  go_ret3
  exact ⟨rfl, hB⟩
set_option maxRecDepth 100000 in
theorem scut_yes (s : ByteArray) (c : UInt8) (w : World) (i : Nat) (h : posOf c.toNat (bs s) = some i) (hs : s.size ≤ 1000000) :
    Calls Tryz.prog 31 #[.string s, .string ⟨#[c]⟩] w fun e w' => e = .returned (.tuple #[.string (s.extract 0 i), .string (s.extract (i + 1) s.size), .bool true]) ∧ Below w.heap.size w w' := by
  have H := Lib.hid (scutin_yes s c w i h hs)
  clear h hs
  go_enter Tryz.func31, Tryz.ntmps31
  go_wp2_with (go_at_call 68; refine H.out.mono ?_; rintro e w1 ⟨rfl, hB⟩)
  go_ret3
  exact ⟨rfl, hB⟩
end Go.Proofs.YtcfgefbkeeedgaaGreat
