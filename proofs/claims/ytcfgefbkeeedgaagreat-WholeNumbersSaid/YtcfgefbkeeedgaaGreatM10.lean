/-
  What the statement stands on.
-/
import Derived.Test.YtcfgefbkeeedgaaGreatProg
import Derived.Lib.Strings
import Derived.Lib.Slices
import Derived.Lib.Small
import Derived.Lib.Walk
import Derived.Lib.BitFns
import Derived.Lib.Tables
namespace Go.Proofs.YtcfgefbkeeedgaaGreat
set_option maxHeartbeats 4000000 in
set_option maxRecDepth 100000 in
theorem len32 (x : Nat) (w : World) (hx : x < 4294967296) :
    Calls Tryz.prog 46 #[.int .u32 x] w fun e w' => e = .returned (.int .i64 (Lib.bitLen x)) ∧ w = w' := by
  have h0 : (0 : Int) ≤ x := by omega
  have h1 : (x : Int) ≤ 4294967295 := by omega
  obtain ⟨y, hy⟩ : ∃ y : Int, (x : Int) = y := ⟨_, rfl⟩
  have hyx : x = y.toNat := by omega
  rw [hy] at h0 h1 ⊢
  rw [hyx]
  clear hy hyx hx
  go_enter Tryz.func46, Tryz.ntmps46
  go_wp2
  all_goals (go_ret; refine ⟨congrArg Ending.returned (congrArg (Value.int IntKind.i64) ?_), rfl⟩)
  all_goals first
    | (rw [Lib.len8_of (y / 65536 / 256 % 256) (by omega) (by omega)]
       have e : (y / 65536 / 256 % 256).toNat = y.toNat / 16777216 := by omega
       have l := Lib.bitLen_le8' (y / 65536 / 256 % 256) (by omega) (by omega)
       have s := Lib.bitLen_shift24 y.toNat (by omega) (by omega)
       rw [e] at l ⊢
       omega)
    | (rw [Lib.len8_of (y / 65536 % 256) (by omega) (by omega)]
       have e : (y / 65536 % 256).toNat = y.toNat / 65536 := by omega
       have l := Lib.bitLen_le8' (y / 65536 % 256) (by omega) (by omega)
       have s := Lib.bitLen_shift16 y.toNat (by omega) (by omega)
       rw [e] at l ⊢
       omega)
    | (rw [Lib.len8_of (y / 256 % 256) (by omega) (by omega)]
       have e : (y / 256 % 256).toNat = y.toNat / 256 := by omega
       have l := Lib.bitLen_le8' (y / 256 % 256) (by omega) (by omega)
       have s := Lib.bitLen_shift8 y.toNat (by omega) (by omega)
       rw [e] at l ⊢
       omega)
    | (rw [Lib.len8_of (y % 256) (by omega) (by omega)]
       have e : (y % 256).toNat = y.toNat := by omega
       have l := Lib.bitLen_le8' (y % 256) (by omega) (by omega)
       rw [e] at l ⊢
       omega)
end Go.Proofs.YtcfgefbkeeedgaaGreat
