/-
  What the statement stands on.
-/
import Derived.Test.YtcfgefbkeeedgaaGreatM01
import Derived.Test.YtcfgefbkeeedgaaGreatM02
import Derived.Test.YtcfgefbkeeedgaaGreatProg
import Derived.Lib.Hide
import Derived.Lib.Bytealg
import Derived.Lib.IndexLaws
import Derived.Shelf.RegionOpenPlain
namespace Go.Proofs.YtcfgefbkeeedgaaGreat
open Go.RowKit
def posOf (c : Nat) : List Nat → Option Nat
  | [] => none
  | b :: l => if b = c then some 0 else (posOf c l).map (· + 1)
theorem posOf_of_not {c : Nat} : ∀ {l : List Nat}, c ∉ l → posOf c l = none
  | [], _ => rfl
  | b :: l, h => by
    have h1 : b ≠ c := fun e => h (by simp [e])
    have h2 : c ∉ l := fun e => h (by simp [e])
    unfold posOf
    rw [if_neg h1, posOf_of_not h2]
    rfl
theorem posOf_lt {c : Nat} : ∀ {l : List Nat} {i : Nat}, posOf c l = some i → i < l.length
  | [], _, h => by cases h
  | b :: l, i, h => by
    unfold posOf at h
    split at h
    · injection h with h; simp; omega
    · cases hp : posOf c l with
      | none => rw [hp] at h; cases h
      | some j =>
        rw [hp] at h
        have := posOf_lt hp
        simp only [Option.map_some, Option.some.injEq] at h
        simp only [List.length_cons]
        omega
theorem posOf_append {c : Nat} : ∀ {l : List Nat} (r : List Nat), c ∉ l → posOf c (l ++ c :: r) = some l.length
  | [], r, _ => by simp [posOf]
  | b :: l, r, h => by
    have h1 : b ≠ c := fun e => h (by simp [e])
    have h2 : c ∉ l := fun e => h (by simp [e])
    show posOf c (b :: (l ++ c :: r)) = _
    unfold posOf
    rw [if_neg h1, posOf_append r h2]
    rfl
def posI (c : Nat) (l : List Nat) : Int := match posOf c l with | some i => i | none => -1
theorem indexByte_pos (c : UInt8) : ∀ l : List UInt8, Lib.indexByte l c = posI c.toNat (l.map UInt8.toNat)
  | [] => rfl
  | b :: l => by
    unfold Lib.indexByte
    rw [indexByte_pos c l]
    by_cases h : b = c
    · subst h; simp [posI, posOf]
    · have h' : ¬ b.toNat = c.toNat := fun e => h (UInt8.toNat_inj.1 e)
      have h'' : (b == c) = false := by simpa using h
      rw [h'']
      rcases hp : posOf c.toNat (l.map UInt8.toNat) with _ | i
      · simp [posI, posOf, h', hp]
      · have : ((i : Int) == -1) = false := by rw [beq_eq_false_iff_ne]; omega
        simp [posI, posOf, h', hp, this]
set_option maxRecDepth 100000 in
theorem sidxbyte_any (s : ByteArray) (c : UInt8) (w : World) (z : Int) (hz : posI c.toNat (bs s) = z) :
    Calls Tryz.prog 97 #[.string s, .int .u8 c.toNat] w fun e w' => e = .returned (.int .i64 z) ∧ w' = w := by
  have HZ : Lib.indexByte s.data.toList c = z := (indexByte_pos c _).trans hz
  have HZ' : Lib.indexByte s.data.toList ((c.toNat : Int).toNat.toUInt8) = z := by
    rw [show ((c.toNat : Int).toNat.toUInt8) = c by simp]; exact HZ
  clear hz HZ
  go_enter Tryz.func97, Tryz.ntmps97
  go_wp2
  rw [run_callFunc_extern Tryz.func109 (by kernel_rfl) (by kernel_rfl) (by kernel_rfl) (e := Extern.BytealgIndexByte.indexByte) (by kernel_rfl), Lib.run_indexByteString, HZ']
  simp only [Result.andThen]
  rw [Oper.upon_value]
  go_wp2
  go_ret
  exact ⟨rfl, rfl⟩
end Go.Proofs.YtcfgefbkeeedgaaGreat
